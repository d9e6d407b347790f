/- postmarkseat.Update, where it has no class. -/
import Derived.Test.YtbckjkfdkgomiaaSeat5
namespace Go.Proofs.Ytbckjkfdkgomiaa
open Go.RowKit Go.Pm
namespace Seat

set_option maxRecDepth 100000 in
set_option maxHeartbeats 4000000 in
theorem upd_c1 (n : ByteArray) (cl how : Nat) (w : World) (hn : n.size ≤ 32) (e5 : ((how : Int) % 8 == 5) = false) (e6 : ((how : Int) % 8 == 6) = false) (e7 : ((how : Int) % 8 == 7) = true) :
    Calls Try.prog 8 #[.string n, .int .i64 1, .int .u8 cl, .int .u8 how] w fun e w' => e = .returned (reqB n 1 cl false false true).V ∧ Kept None w w' := by
  have j0 := fun w => key n 1 false w (by omega)
  have j1 := fun w => secret n 1 false w (by omega)
  have hby : byN n 1 false false = secN n 1 false := by
    have e1 : max ((1 : Int) - 1) 1 = 1 := by decide
    have e2 : ((1 : Int) == 1) = true := by decide
    unfold byN
    rw [e1, e2]
    rfl
  have hkl := keyN_lt n 1 false
  have j2 := fun w => RUp.sign (byN n 1 false false) n 1 ((cl % 2 : Nat) : Int) (keyN n 1 false) 0 0 w (by omega) hkl
  have hq : (reqB n 1 cl false false true).V = updV n 1 (keyN n 1 false) 5 (sigR (byN n 1 false false) (msgB n 1 (keyN n 1 false))) (sigS (byN n 1 false false) (msgB n 1 (keyN n 1 false))) := rfl
  rw [hq]
  have hC : (cl : Int) % 2 = ((cl % 2 : Nat) : Int) := by omega
  have hsl := secN_lt n 1 false
  rw [hby] at j2 ⊢
  clear hq hby
  obtain ⟨C, hCC⟩ : ∃ C : Int, C = ((cl % 2 : Nat) : Int) := ⟨_, rfl⟩
  rw [← hCC] at hC j2
  obtain ⟨K, hK⟩ : ∃ K, K = keyN n 1 false := ⟨_, rfl⟩
  rw [← hK] at j0 j2 ⊢
  obtain ⟨B, hB⟩ : ∃ B, B = secN n 1 false := ⟨_, rfl⟩
  rw [← hB] at j1 j2 hsl ⊢
  
  
  
  obtain ⟨R, hR⟩ : ∃ R, R = sigR B (msgB n 1 K) := ⟨_, rfl⟩
  obtain ⟨S, hS⟩ : ∃ S, S = sigS B (msgB n 1 K) := ⟨_, rfl⟩
  rw [← hR, ← hS] at j2 ⊢
  have J := hid (And.intro j0 (And.intro j1 j2))
  clear j0 j1 j2 hCC hK hB hR hS hkl hsl hn
  have k0 : Kept None w ((w.alloc (.cells #[.string ⟨#[]⟩, .int .i64 0, .int .u64 0, .int .i64 0, .int .u64 0, .int .u64 0] 26)).alloc (.cells #[.string n, .int .i64 1, .int .u64 0, .int .i64 C, .int .u64 0, .int .u64 0] 26)) := ((Kept.refl _ _).alloc _).alloc _
  have v0 : Blk ((w.alloc (.cells #[.string ⟨#[]⟩, .int .i64 0, .int .u64 0, .int .i64 0, .int .u64 0, .int .u64 0] 26)).alloc (.cells #[.string n, .int .i64 1, .int .u64 0, .int .i64 C, .int .u64 0, .int .u64 0] 26)) w.heap.size #[.string ⟨#[]⟩, .int .i64 0, .int .u64 0, .int .i64 0, .int .u64 0, .int .u64 0] 26 := (Blk.new w _ _).alloc _
  have u0 := Blk.new2 w (.cells #[.string ⟨#[]⟩, .int .i64 0, .int .u64 0, .int .i64 0, .int .u64 0, .int .u64 0] 26) #[.string n, .int .i64 1, .int .u64 0, .int .i64 C, .int .u64 0, .int .u64 0] 26
  go_enter Try.func8, Try.ntmps8
  go_wp2_with fail
  refine (J.out.1 _).mono ?_
  rintro e w1 ⟨rfl, k1⟩
  have k01 := k0.trans k1
  have v1 := v0.kept k1 (fun h => h)
  have u1 := u0.kept k1 (fun h => h)
  have d2 : w1.cell? ⟨w.heap.size + 1, 2, none⟩ = some (.int .u64 0) := u1.cell 2
  have f2 := u1.free 2
  have u1' : Blk (w1.setCell ⟨w.heap.size + 1, 2, none⟩ (.int .u64 (K : Int))) (w.heap.size + 1) #[.string n, .int .i64 1, .int .u64 (K : Int), .int .i64 C, .int .u64 0, .int .u64 0] 26 := u1.set 2 _
  have v1' := v1.setOther (a := ⟨w.heap.size + 1, 2, none⟩) (by show w.heap.size ≠ w.heap.size + 1; omega) (.int .u64 (K : Int))
  have k01' := k01.setNew (b := w.heap.size + 1) (by omega) 2 (.int .u64 (K : Int))
  clear k0 v0 u0 k1 k01 v1 u1
  go_wp2_with fail
  refine (J.out.2.1 _).mono ?_
  rintro e w2 ⟨rfl, rfl⟩
  go_wp2_with (first | (refine wpList_load_blk rfl _ _ rfl rfl u1' Up.aUpd ?_) | fail)
  refine (J.out.2.2 _).mono ?_
  rintro e w3 ⟨rfl, k3⟩
  have k03 := k01'.trans k3
  have v3 := v1'.kept k3 (fun h => h)
  have u3 := u1'.kept k3 (fun h => h)
  clear k01' v1' u1' k3 d2 f2 J
  go_wp2_with (first | (refine wpList_store_blk rfl _ _ _ rfl rfl rfl u3 Up.aUpd rfl (Up.upd_all _ _ _ _ _ _) ?k4) | fail)
  case k4 =>
    intro w4 u4 k4
    have k04 := k03.then k4 (fun i hi (h : i = w.heap.size + 1) => by omega)
    have v4 := v3.kept k4 (fun (h : w.heap.size = w.heap.size + 1) => by omega)
    have d3 : w4.cell? ⟨w.heap.size + 1, 3, none⟩ = some (.int .i64 C) := u4.cell 3
    have f3 := u4.free 3
    have u4' : Blk (w4.setCell ⟨w.heap.size + 1, 3, none⟩ (.int .i64 5)) (w.heap.size + 1) #[.string n, .int .i64 1, .int .u64 (K : Int), .int .i64 5, .int .u64 (R : Int), .int .u64 (S : Int)] 26 := u4.set 3 _
    have v4' := v4.setOther (a := ⟨w.heap.size + 1, 3, none⟩) (by show w.heap.size ≠ w.heap.size + 1; omega) (.int .i64 5)
    have k04' := k04.setNew (b := w.heap.size + 1) (by omega) 3 (.int .i64 5)
    clear k03 v3 u3 k4 u4 v4 k04
    go_wp2_with (first | (refine wpList_load_blk rfl _ _ rfl rfl u4' Up.aUpd ?_) | (refine wpList_store_blk rfl _ _ _ rfl rfl rfl v4' Up.aUpd rfl (Up.upd_all _ _ _ _ _ _) ?_; intro w7 hR7 k7) | fail)
    exact bodyPost_ret (v := updV n 1 K 5 R S) (results_blk rfl _ rfl hR7 Up.aUpd) rfl ⟨rfl, k04'.then k7 (fun i hi (h : i = w.heap.size) => by omega)⟩

set_option maxRecDepth 100000 in
set_option maxHeartbeats 4000000 in
theorem upd_c0 (n : ByteArray) (v : Int) (cl how : Nat) (w : World) (hn : n.size ≤ 32) (h1 : 2 ≤ v) (h2 : v ≤ 1000) (e5 : ((how : Int) % 8 == 5) = false) (e6 : ((how : Int) % 8 == 6) = false) (e7 : ((how : Int) % 8 == 7) = true) :
    Calls Try.prog 8 #[.string n, .int .i64 v, .int .u8 cl, .int .u8 how] w fun e w' => e = .returned (reqB n v cl false false true).V ∧ Kept None w w' := by
  have j0 := fun w => key n v false w (by omega)
  have j1 := fun w => secret n (v - 1) false w (by omega)
  have hby : byN n v false false = secN n (v - 1) false := by
    unfold byN
    have e1 : max (v - 1) 1 = v - 1 := by omega
    have e2 : (v == 1) = false := by rw [beq_eq_false_iff_ne]; omega
    rw [e1]; rfl
  have hkl := keyN_lt n v false
  have j2 := fun w => RUp.sign (byN n v false false) n v ((cl % 2 : Nat) : Int) (keyN n v false) 0 0 w (by omega) hkl
  have hq : (reqB n v cl false false true).V = updV n v (keyN n v false) 5 (sigR (byN n v false false) (msgB n v (keyN n v false))) (sigS (byN n v false false) (msgB n v (keyN n v false))) := rfl
  rw [hq]
  have hC : (cl : Int) % 2 = ((cl % 2 : Nat) : Int) := by omega
  have hsl := secN_lt n (v - 1) false
  rw [hby] at j2 ⊢
  clear hq hby
  obtain ⟨C, hCC⟩ : ∃ C : Int, C = ((cl % 2 : Nat) : Int) := ⟨_, rfl⟩
  rw [← hCC] at hC j2
  obtain ⟨K, hK⟩ : ∃ K, K = keyN n v false := ⟨_, rfl⟩
  rw [← hK] at j0 j2 ⊢
  obtain ⟨B, hB⟩ : ∃ B, B = secN n (v - 1) false := ⟨_, rfl⟩
  rw [← hB] at j1 j2 hsl ⊢
  
  
  
  obtain ⟨R, hR⟩ : ∃ R, R = sigR B (msgB n v K) := ⟨_, rfl⟩
  obtain ⟨S, hS⟩ : ∃ S, S = sigS B (msgB n v K) := ⟨_, rfl⟩
  rw [← hR, ← hS] at j2 ⊢
  have J := hid (And.intro j0 (And.intro j1 j2))
  clear j0 j1 j2 hCC hK hB hR hS hkl hsl hn
  have k0 : Kept None w ((w.alloc (.cells #[.string ⟨#[]⟩, .int .i64 0, .int .u64 0, .int .i64 0, .int .u64 0, .int .u64 0] 26)).alloc (.cells #[.string n, .int .i64 v, .int .u64 0, .int .i64 C, .int .u64 0, .int .u64 0] 26)) := ((Kept.refl _ _).alloc _).alloc _
  have v0 : Blk ((w.alloc (.cells #[.string ⟨#[]⟩, .int .i64 0, .int .u64 0, .int .i64 0, .int .u64 0, .int .u64 0] 26)).alloc (.cells #[.string n, .int .i64 v, .int .u64 0, .int .i64 C, .int .u64 0, .int .u64 0] 26)) w.heap.size #[.string ⟨#[]⟩, .int .i64 0, .int .u64 0, .int .i64 0, .int .u64 0, .int .u64 0] 26 := (Blk.new w _ _).alloc _
  have u0 := Blk.new2 w (.cells #[.string ⟨#[]⟩, .int .i64 0, .int .u64 0, .int .i64 0, .int .u64 0, .int .u64 0] 26) #[.string n, .int .i64 v, .int .u64 0, .int .i64 C, .int .u64 0, .int .u64 0] 26
  go_enter Try.func8, Try.ntmps8
  go_wp2_with fail
  refine (J.out.1 _).mono ?_
  rintro e w1 ⟨rfl, k1⟩
  have k01 := k0.trans k1
  have v1 := v0.kept k1 (fun h => h)
  have u1 := u0.kept k1 (fun h => h)
  have d2 : w1.cell? ⟨w.heap.size + 1, 2, none⟩ = some (.int .u64 0) := u1.cell 2
  have f2 := u1.free 2
  have u1' : Blk (w1.setCell ⟨w.heap.size + 1, 2, none⟩ (.int .u64 (K : Int))) (w.heap.size + 1) #[.string n, .int .i64 v, .int .u64 (K : Int), .int .i64 C, .int .u64 0, .int .u64 0] 26 := u1.set 2 _
  have v1' := v1.setOther (a := ⟨w.heap.size + 1, 2, none⟩) (by show w.heap.size ≠ w.heap.size + 1; omega) (.int .u64 (K : Int))
  have k01' := k01.setNew (b := w.heap.size + 1) (by omega) 2 (.int .u64 (K : Int))
  clear k0 v0 u0 k1 k01 v1 u1
  go_wp2_with fail
  refine (J.out.2.1 _).mono ?_
  rintro e w2 ⟨rfl, rfl⟩
  go_wp2_with (first | (refine wpList_load_blk rfl _ _ rfl rfl u1' Up.aUpd ?_) | fail)
  refine (J.out.2.2 _).mono ?_
  rintro e w3 ⟨rfl, k3⟩
  have k03 := k01'.trans k3
  have v3 := v1'.kept k3 (fun h => h)
  have u3 := u1'.kept k3 (fun h => h)
  clear k01' v1' u1' k3 d2 f2 J
  go_wp2_with (first | (refine wpList_store_blk rfl _ _ _ rfl rfl rfl u3 Up.aUpd rfl (Up.upd_all _ _ _ _ _ _) ?k4) | fail)
  case k4 =>
    intro w4 u4 k4
    have k04 := k03.then k4 (fun i hi (h : i = w.heap.size + 1) => by omega)
    have v4 := v3.kept k4 (fun (h : w.heap.size = w.heap.size + 1) => by omega)
    have d3 : w4.cell? ⟨w.heap.size + 1, 3, none⟩ = some (.int .i64 C) := u4.cell 3
    have f3 := u4.free 3
    have u4' : Blk (w4.setCell ⟨w.heap.size + 1, 3, none⟩ (.int .i64 5)) (w.heap.size + 1) #[.string n, .int .i64 v, .int .u64 (K : Int), .int .i64 5, .int .u64 (R : Int), .int .u64 (S : Int)] 26 := u4.set 3 _
    have v4' := v4.setOther (a := ⟨w.heap.size + 1, 3, none⟩) (by show w.heap.size ≠ w.heap.size + 1; omega) (.int .i64 5)
    have k04' := k04.setNew (b := w.heap.size + 1) (by omega) 3 (.int .i64 5)
    clear k03 v3 u3 k4 u4 v4 k04
    go_wp2_with (first | (refine wpList_load_blk rfl _ _ rfl rfl u4' Up.aUpd ?_) | (refine wpList_store_blk rfl _ _ _ rfl rfl rfl v4' Up.aUpd rfl (Up.upd_all _ _ _ _ _ _) ?_; intro w7 hR7 k7) | fail)
    exact bodyPost_ret (v := updV n v K 5 R S) (results_blk rfl _ rfl hR7 Up.aUpd) rfl ⟨rfl, k04'.then k7 (fun i hi (h : i = w.heap.size) => by omega)⟩
end Seat
end Go.Proofs.Ytbckjkfdkgomiaa
