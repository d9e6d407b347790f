/- Texts joined: LowSeat, SPend14, File15, Newest15, RRead13, LowRdN, LowRd, LowRdL. -/
import Derived.Test.YtbebpnanhkcngaaPk4
import Derived.Test.YtbebpnanhkcngaaPk2
import Derived.Deep.LoopGhost
import Derived.Deep.CutBlock
import Derived.Deep.DeepCutAuto
import Derived.Deep.CutRange
import Derived.Deep.QuietTactic
import Derived.BigQuiet
import Derived.Test.YtbebpnanhkcngaaPk3
/- Package postmarkseat: names, secrets, keys, requests of few numbers; by contract. -/
namespace Go.Proofs.Ytbebpnanhkcngaa
open Go.RowKit Go.Pm
namespace Seat

def names : List ByteArray := [⟨#[97]⟩, ⟨#[98]⟩, ⟨#[97, 110, 110]⟩, ⟨#[98, 111, 98]⟩, ⟨#[195, 169]⟩, ⟨#[48, 49, 50, 51, 52, 53, 54, 55, 56, 57, 48, 49, 50, 51, 52, 53, 54, 55, 56, 57, 48, 49, 50, 51, 52, 53, 54, 55, 56, 57, 48, 122]⟩]
/-- Name. -/
def nameS (k : Nat) : ByteArray := names.getD (k % 6) ⟨#[]⟩
theorem nameS_size (k : Nat) : 1 ≤ (nameS k).size ∧ (nameS k).size ≤ 32 := by
  have h : ∀ j, j < 6 → 1 ≤ (names.getD j ⟨#[]⟩).size ∧ (names.getD j ⟨#[]⟩).size ≤ 32 := by decide
  exact h _ (Nat.mod_lt _ (by decide))

set_option maxRecDepth 100000 in
set_option maxHeartbeats 1000000 in
theorem name (k : Nat) (w : World) : Calls Try.prog 22 #[.int .u8 k] w fun e w' => e = .returned (.string (nameS k)) ∧ Kept None w w' := by
  have hk := Nat.mod_lt k (show 0 < 6 by decide)
  have hc : k % 6 = 0 ∨ k % 6 = 1 ∨ k % 6 = 2 ∨ k % 6 = 3 ∨ k % 6 = 4 ∨ k % 6 = 5 := by omega
  have hn : ∀ j, k % 6 = j → nameS k = names.getD j ⟨#[]⟩ := fun j h => by unfold nameS; rw [h]
  rcases hc with h | h | h | h | h | h
  all_goals
    rw [hn _ h]
    have hi : (k : Int) % 6 = ((k % 6 : Nat) : Int) := by omega
    rw [h] at hi
    clear hn hk h
    go_enter Try.func22, Try.ntmps22
    go_wp2
    go_ret
    exact ⟨rfl, (Kept.refl _ _).alloc _⟩

/-- A name's number, byte by byte. -/
def nameI : List UInt8 → Int → Int
  | [], a => a
  | b :: l, a => nameI l (IntKind.u64.wrap (IntKind.u64.wrap (a * 31) + (b.toNat : Int)))
theorem nameI_snoc (l : List UInt8) (b : UInt8) (a : Int) : nameI (l ++ [b]) a = IntKind.u64.wrap (IntKind.u64.wrap (nameI l a * 31) + (b.toNat : Int)) := by
  induction l generalizing a with
  | nil => rfl
  | cons c l ih => exact ih _

theorem name_step (n : ByteArray) (k : Nat) (h : k < n.size) (a : Int) : nameI ((strB n).take (k + 1)) a = IntKind.u64.wrap (IntKind.u64.wrap (nameI ((strB n).take k) a * 31) + IntKind.u64.wrap (n[k].toNat : Int)) := by
  have hk : k < (strB n).length := by rw [strB_len]; exact h
  rw [List.take_succ_eq_append_getElem hk, nameI_snoc]
  have he : (strB n)[k] = n[k] := by simp [strB]; rfl
  rw [he]
  congr 2
  rw [IntKind.wrap_u64]
  have := n[k].toNat_lt
  omega

/-- Secret. -/
def secI (n : ByteArray) (v : Int) (alt : Bool) : Int :=
  let b := IntKind.u64.wrap (IntKind.u64.wrap ((nameI (strB n) (IntKind.u64.wrap ((n.size : Int) * 1000003))).tmod 1000000007 + IntKind.u64.wrap (IntKind.u64.wrap v * 7919)) + 11)
  if alt then IntKind.u64.wrap (b + 500) else b
def secN (n : ByteArray) (v : Int) (alt : Bool) : Nat := (secI n v alt).toNat
theorem secI_ge (n : ByteArray) (v : Int) (alt : Bool) : 0 ≤ secI n v alt := by
  unfold secI
  simp only [IntKind.wrap_u64]
  split <;> omega
theorem secI_lt (n : ByteArray) (v : Int) (alt : Bool) : secI n v alt < 18446744073709551616 := by
  unfold secI
  simp only [IntKind.wrap_u64]
  split <;> omega
theorem secN_eq (n : ByteArray) (v : Int) (alt : Bool) : ((secN n v alt : Nat) : Int) = secI n v alt := Int.toNat_of_nonneg (secI_ge n v alt)
theorem secN_lt (n : ByteArray) (v : Int) (alt : Bool) : secN n v alt < 18446744073709551616 := by
  have := secN_eq n v alt
  have := secI_lt n v alt
  omega

set_option maxRecDepth 100000 in
set_option maxHeartbeats 1000000 in
theorem secret (n : ByteArray) (v : Int) (alt : Bool) (w : World) (hn : n.size ≤ 9223372036854775807) : Calls Try.prog 33 #[.string n, .int .i64 v, .bool alt] w fun e w' => e = .returned (.int .u64 (secN n v alt : Nat)) ∧ w = w' := by
  rw [secN_eq]
  unfold secI
  obtain ⟨A0, hA0⟩ : ∃ A0, A0 = IntKind.u64.wrap ((n.size : Int) * 1000003) := ⟨_, rfl⟩
  have hA1 := hA0.symm
  rw [hA1]
  clear hA0
  obtain ⟨X, hX⟩ : ∃ X, X = nameI (strB n) A0 := ⟨_, rfl⟩
  rw [← hX]
  have HX := hid hX
  clear hX
  go_enter Try.func33, Try.ntmps33
  go_wp2
  go_loop [7, 8] (fun x i => ∃ k : Nat, k ≤ n.size ∧ i = .int .i64 k ∧ x = .int .u64 (nameI ((strB n).take k) A0)) (fun _ i => n.size - (intOf i).toNat)
  case atStart => exact ⟨0, Nat.zero_le _, rfl, rfl⟩
  case round =>
    obtain ⟨k, hk, rfl, rfl⟩ := hrel
    by_cases hlt : k < n.size
    · have hst := name_step n k hlt A0
      go_wp2
      go_round
      case rel => exact ⟨k + 1, by omega, by go_num, by rw [hst]⟩
      case measure => simp [intOf]; omega
    · obtain rfl : k = n.size := by omega
      have hall : (strB n).take n.size = strB n := List.take_of_length_le (by rw [strB_len]; exact Nat.le_refl _)
      rw [hall, ← HX.out]
      clear hall
      cases alt with
      | true =>
        go_wp2
        go_ret
        exact ⟨rfl, rfl⟩
      | false =>
        go_wp2
        go_ret
        exact ⟨rfl, rfl⟩

/-- Key. -/
def keyN (n : ByteArray) (v : Int) (alt : Bool) : Nat := pubN (secN n v alt)
theorem keyN_lt (n : ByteArray) (v : Int) (alt : Bool) : keyN n v alt < 18446744073709551616 := Nat.lt_trans (pubN_lt _) (by decide)
set_option maxHeartbeats 1000000 in
theorem key (n : ByteArray) (v : Int) (alt : Bool) (w : World) (hn : n.size ≤ 9223372036854775807) : Calls Try.prog 32 #[.string n, .int .i64 v, .bool alt] w fun e w' => e = .returned (.int .u64 (keyN n v alt : Nat)) ∧ Kept None w w' := by
  have h1 := fun w => secret n v alt w hn
  have h2 := fun w => Ref.pub (secN n v alt) w
  rw [show pubN (secN n v alt) = keyN n v alt from rfl] at h2
  obtain ⟨S, hS⟩ : ∃ S, S = secN n v alt := ⟨_, rfl⟩
  obtain ⟨K, hK⟩ : ∃ K, K = keyN n v alt := ⟨_, rfl⟩
  rw [← hS] at h1 h2
  rw [← hK] at h2 ⊢
  have H := hid (And.intro h1 h2)
  clear h1 h2 hS hK
  go_enter Try.func32, Try.ntmps32
  go_wp2_with fail
  refine (H.out.1 _).mono ?_
  rintro e w1 ⟨rfl, rfl⟩
  go_wp2_with fail
  refine (H.out.2 _).mono ?_
  rintro e w2 ⟨rfl, k2⟩
  go_wp2
  go_ret
  exact ⟨rfl, k2⟩

/-- Who signs. -/
def byN (n : ByteArray) (v : Int) (b5 b6 : Bool) : Nat := if b5 then (secN n (max (v - 1) 1) (b6 && v == 1) + 3) % 18446744073709551616 else secN n (max (v - 1) 1) (b6 && v == 1)
/-- Update. -/
def reqB (n : ByteArray) (v : Int) (cl : Nat) (b5 b6 b7 : Bool) : Req :=
  let k := keyN n v b6
  ⟨n, v, k, if b7 then 5 else (cl % 2 : Nat), sigR (byN n v b5 b6) (msgB n v k), sigS (byN n v b5 b6) (msgB n v k)⟩
def req (n : ByteArray) (v : Int) (cl how : Nat) : Req := reqB n v cl (how % 8 == 5) (how % 8 == 6) (how % 8 == 7)
end Seat
end Go.Proofs.Ytbebpnanhkcngaa

/- postmarkseat.Update, where it is right. -/
namespace Go.Proofs.Ytbebpnanhkcngaa
open Go.RowKit Go.Pm
namespace Seat

set_option maxRecDepth 100000 in
set_option maxHeartbeats 4000000 in
theorem upd_o1 (n : ByteArray) (cl how : Nat) (w : World) (hn : n.size ≤ 32) (e5 : ((how : Int) % 8 == 5) = false) (e6 : ((how : Int) % 8 == 6) = false) (e7 : ((how : Int) % 8 == 7) = false) :
    Calls Try.prog 21 #[.string n, .int .i64 1, .int .u8 cl, .int .u8 how] w fun e w' => e = .returned (reqB n 1 cl false false false).V ∧ Kept None w w' := by
  have j0 := fun w => key n 1 false w (by omega)
  have j1 := fun w => secret n 1 false w (by omega)
  have hby : byN n 1 false false = secN n 1 false := by
    have e1 : max ((1 : Int) - 1) 1 = 1 := by decide
    have e2 : ((1 : Int) == 1) = true := by decide
    unfold byN
    rw [e1, e2]
    rfl
  have hkl := keyN_lt n 1 false
  have j2 := fun w => RUp.sign (byN n 1 false false) n 1 ((cl % 2 : Nat) : Int) (keyN n 1 false) 0 0 w (by omega) hkl
  have hq : (reqB n 1 cl false false false).V = updV n 1 (keyN n 1 false) ((cl % 2 : Nat) : Int) (sigR (byN n 1 false false) (msgB n 1 (keyN n 1 false))) (sigS (byN n 1 false false) (msgB n 1 (keyN n 1 false))) := rfl
  rw [hq]
  have hC : (cl : Int) % 2 = ((cl % 2 : Nat) : Int) := by omega
  have hsl := secN_lt n 1 false
  rw [hby] at j2 ⊢
  clear hq hby
  obtain ⟨C, hCC⟩ : ∃ C : Int, C = ((cl % 2 : Nat) : Int) := ⟨_, rfl⟩
  rw [← hCC] at hC j2 ⊢
  obtain ⟨K, hK⟩ : ∃ K, K = keyN n 1 false := ⟨_, rfl⟩
  rw [← hK] at j0 j2 ⊢
  obtain ⟨B, hB⟩ : ∃ B, B = secN n 1 false := ⟨_, rfl⟩
  rw [← hB] at j1 j2 hsl ⊢
  
  
  
  obtain ⟨R, hR⟩ : ∃ R, R = sigR B (msgB n 1 K) := ⟨_, rfl⟩
  obtain ⟨S, hS⟩ : ∃ S, S = sigS B (msgB n 1 K) := ⟨_, rfl⟩
  rw [← hR, ← hS] at j2 ⊢
  have J := hid (And.intro j0 (And.intro j1 j2))
  clear j0 j1 j2 hCC hK hB hR hS hkl hsl hn
  have k0 : Kept None w ((w.alloc (.cells #[.string ⟨#[]⟩, .int .i64 0, .int .u64 0, .int .i64 0, .int .u64 0, .int .u64 0] 43)).alloc (.cells #[.string n, .int .i64 1, .int .u64 0, .int .i64 C, .int .u64 0, .int .u64 0] 43)) := ((Kept.refl _ _).alloc _).alloc _
  have v0 : Blk ((w.alloc (.cells #[.string ⟨#[]⟩, .int .i64 0, .int .u64 0, .int .i64 0, .int .u64 0, .int .u64 0] 43)).alloc (.cells #[.string n, .int .i64 1, .int .u64 0, .int .i64 C, .int .u64 0, .int .u64 0] 43)) w.heap.size #[.string ⟨#[]⟩, .int .i64 0, .int .u64 0, .int .i64 0, .int .u64 0, .int .u64 0] 43 := (Blk.new w _ _).alloc _
  have u0 := Blk.new2 w (.cells #[.string ⟨#[]⟩, .int .i64 0, .int .u64 0, .int .i64 0, .int .u64 0, .int .u64 0] 43) #[.string n, .int .i64 1, .int .u64 0, .int .i64 C, .int .u64 0, .int .u64 0] 43
  go_enter Try.func21, Try.ntmps21
  go_wp2_with fail
  refine (J.out.1 _).mono ?_
  rintro e w1 ⟨rfl, k1⟩
  have k01 := k0.trans k1
  have v1 := v0.kept k1 (fun h => h)
  have u1 := u0.kept k1 (fun h => h)
  have d2 : w1.cell? ⟨w.heap.size + 1, 2, none⟩ = some (.int .u64 0) := u1.cell 2
  have f2 := u1.free 2
  have u1' : Blk (w1.setCell ⟨w.heap.size + 1, 2, none⟩ (.int .u64 (K : Int))) (w.heap.size + 1) #[.string n, .int .i64 1, .int .u64 (K : Int), .int .i64 C, .int .u64 0, .int .u64 0] 43 := u1.set 2 _
  have v1' := v1.setOther (a := ⟨w.heap.size + 1, 2, none⟩) (by show w.heap.size ≠ w.heap.size + 1; omega) (.int .u64 (K : Int))
  have k01' := k01.setNew (b := w.heap.size + 1) (by omega) 2 (.int .u64 (K : Int))
  clear k0 v0 u0 k1 k01 v1 u1
  go_wp2_with fail
  refine (J.out.2.1 _).mono ?_
  rintro e w2 ⟨rfl, rfl⟩
  go_wp2_with (first | (refine wpList_load_blk rfl _ _ rfl rfl u1' Up.aUpd ?_) | fail)
  refine (J.out.2.2 _).mono ?_
  rintro e w3 ⟨rfl, k3⟩
  have k03 := k01'.trans k3
  have v3 := v1'.kept k3 (fun h => h)
  have u3 := u1'.kept k3 (fun h => h)
  clear k01' v1' u1' k3 d2 f2 J
  go_wp2_with (first | (refine wpList_store_blk rfl _ _ _ rfl rfl rfl u3 Up.aUpd rfl (Up.upd_all _ _ _ _ _ _) ?k4) | fail)
  case k4 =>
    intro w4 u4 k4
    have k04 := k03.then k4 (fun i hi (h : i = w.heap.size + 1) => by omega)
    have v4 := v3.kept k4 (fun (h : w.heap.size = w.heap.size + 1) => by omega)
    clear k03 v3 u3 k4
    go_wp2_with (first | (refine wpList_load_blk rfl _ _ rfl rfl u4 Up.aUpd ?_) | (refine wpList_store_blk rfl _ _ _ rfl rfl rfl v4 Up.aUpd rfl (Up.upd_all _ _ _ _ _ _) ?_; intro w7 hR7 k7) | fail)
    exact bodyPost_ret (v := updV n 1 K C R S) (results_blk rfl _ rfl hR7 Up.aUpd) rfl ⟨rfl, k04.then k7 (fun i hi (h : i = w.heap.size) => by omega)⟩

set_option maxRecDepth 100000 in
set_option maxHeartbeats 4000000 in
theorem upd_o0 (n : ByteArray) (v : Int) (cl how : Nat) (w : World) (hn : n.size ≤ 32) (h1 : 2 ≤ v) (h2 : v ≤ 1000) (e5 : ((how : Int) % 8 == 5) = false) (e6 : ((how : Int) % 8 == 6) = false) (e7 : ((how : Int) % 8 == 7) = false) :
    Calls Try.prog 21 #[.string n, .int .i64 v, .int .u8 cl, .int .u8 how] w fun e w' => e = .returned (reqB n v cl false false false).V ∧ Kept None w w' := by
  have j0 := fun w => key n v false w (by omega)
  have j1 := fun w => secret n (v - 1) false w (by omega)
  have hby : byN n v false false = secN n (v - 1) false := by
    unfold byN
    have e1 : max (v - 1) 1 = v - 1 := by omega
    have e2 : (v == 1) = false := by rw [beq_eq_false_iff_ne]; omega
    rw [e1]; rfl
  have hkl := keyN_lt n v false
  have j2 := fun w => RUp.sign (byN n v false false) n v ((cl % 2 : Nat) : Int) (keyN n v false) 0 0 w (by omega) hkl
  have hq : (reqB n v cl false false false).V = updV n v (keyN n v false) ((cl % 2 : Nat) : Int) (sigR (byN n v false false) (msgB n v (keyN n v false))) (sigS (byN n v false false) (msgB n v (keyN n v false))) := rfl
  rw [hq]
  have hC : (cl : Int) % 2 = ((cl % 2 : Nat) : Int) := by omega
  have hsl := secN_lt n (v - 1) false
  rw [hby] at j2 ⊢
  clear hq hby
  obtain ⟨C, hCC⟩ : ∃ C : Int, C = ((cl % 2 : Nat) : Int) := ⟨_, rfl⟩
  rw [← hCC] at hC j2 ⊢
  obtain ⟨K, hK⟩ : ∃ K, K = keyN n v false := ⟨_, rfl⟩
  rw [← hK] at j0 j2 ⊢
  obtain ⟨B, hB⟩ : ∃ B, B = secN n (v - 1) false := ⟨_, rfl⟩
  rw [← hB] at j1 j2 hsl ⊢
  
  
  
  obtain ⟨R, hR⟩ : ∃ R, R = sigR B (msgB n v K) := ⟨_, rfl⟩
  obtain ⟨S, hS⟩ : ∃ S, S = sigS B (msgB n v K) := ⟨_, rfl⟩
  rw [← hR, ← hS] at j2 ⊢
  have J := hid (And.intro j0 (And.intro j1 j2))
  clear j0 j1 j2 hCC hK hB hR hS hkl hsl hn
  have k0 : Kept None w ((w.alloc (.cells #[.string ⟨#[]⟩, .int .i64 0, .int .u64 0, .int .i64 0, .int .u64 0, .int .u64 0] 43)).alloc (.cells #[.string n, .int .i64 v, .int .u64 0, .int .i64 C, .int .u64 0, .int .u64 0] 43)) := ((Kept.refl _ _).alloc _).alloc _
  have v0 : Blk ((w.alloc (.cells #[.string ⟨#[]⟩, .int .i64 0, .int .u64 0, .int .i64 0, .int .u64 0, .int .u64 0] 43)).alloc (.cells #[.string n, .int .i64 v, .int .u64 0, .int .i64 C, .int .u64 0, .int .u64 0] 43)) w.heap.size #[.string ⟨#[]⟩, .int .i64 0, .int .u64 0, .int .i64 0, .int .u64 0, .int .u64 0] 43 := (Blk.new w _ _).alloc _
  have u0 := Blk.new2 w (.cells #[.string ⟨#[]⟩, .int .i64 0, .int .u64 0, .int .i64 0, .int .u64 0, .int .u64 0] 43) #[.string n, .int .i64 v, .int .u64 0, .int .i64 C, .int .u64 0, .int .u64 0] 43
  go_enter Try.func21, Try.ntmps21
  go_wp2_with fail
  refine (J.out.1 _).mono ?_
  rintro e w1 ⟨rfl, k1⟩
  have k01 := k0.trans k1
  have v1 := v0.kept k1 (fun h => h)
  have u1 := u0.kept k1 (fun h => h)
  have d2 : w1.cell? ⟨w.heap.size + 1, 2, none⟩ = some (.int .u64 0) := u1.cell 2
  have f2 := u1.free 2
  have u1' : Blk (w1.setCell ⟨w.heap.size + 1, 2, none⟩ (.int .u64 (K : Int))) (w.heap.size + 1) #[.string n, .int .i64 v, .int .u64 (K : Int), .int .i64 C, .int .u64 0, .int .u64 0] 43 := u1.set 2 _
  have v1' := v1.setOther (a := ⟨w.heap.size + 1, 2, none⟩) (by show w.heap.size ≠ w.heap.size + 1; omega) (.int .u64 (K : Int))
  have k01' := k01.setNew (b := w.heap.size + 1) (by omega) 2 (.int .u64 (K : Int))
  clear k0 v0 u0 k1 k01 v1 u1
  go_wp2_with fail
  refine (J.out.2.1 _).mono ?_
  rintro e w2 ⟨rfl, rfl⟩
  go_wp2_with (first | (refine wpList_load_blk rfl _ _ rfl rfl u1' Up.aUpd ?_) | fail)
  refine (J.out.2.2 _).mono ?_
  rintro e w3 ⟨rfl, k3⟩
  have k03 := k01'.trans k3
  have v3 := v1'.kept k3 (fun h => h)
  have u3 := u1'.kept k3 (fun h => h)
  clear k01' v1' u1' k3 d2 f2 J
  go_wp2_with (first | (refine wpList_store_blk rfl _ _ _ rfl rfl rfl u3 Up.aUpd rfl (Up.upd_all _ _ _ _ _ _) ?k4) | fail)
  case k4 =>
    intro w4 u4 k4
    have k04 := k03.then k4 (fun i hi (h : i = w.heap.size + 1) => by omega)
    have v4 := v3.kept k4 (fun (h : w.heap.size = w.heap.size + 1) => by omega)
    clear k03 v3 u3 k4
    go_wp2_with (first | (refine wpList_load_blk rfl _ _ rfl rfl u4 Up.aUpd ?_) | (refine wpList_store_blk rfl _ _ _ rfl rfl rfl v4 Up.aUpd rfl (Up.upd_all _ _ _ _ _ _) ?_; intro w7 hR7 k7) | fail)
    exact bodyPost_ret (v := updV n v K C R S) (results_blk rfl _ rfl hR7 Up.aUpd) rfl ⟨rfl, k04.then k7 (fun i hi (h : i = w.heap.size) => by omega)⟩
end Seat
end Go.Proofs.Ytbebpnanhkcngaa

/- postmarkseat.Update, where another one signs. -/
namespace Go.Proofs.Ytbebpnanhkcngaa
open Go.RowKit Go.Pm
namespace Seat

set_option maxRecDepth 100000 in
set_option maxHeartbeats 4000000 in
theorem upd_a1 (n : ByteArray) (cl how : Nat) (w : World) (hn : n.size ≤ 32) (e5 : ((how : Int) % 8 == 5) = true) (e6 : ((how : Int) % 8 == 6) = false) (e7 : ((how : Int) % 8 == 7) = false) :
    Calls Try.prog 21 #[.string n, .int .i64 1, .int .u8 cl, .int .u8 how] w fun e w' => e = .returned (reqB n 1 cl true false false).V ∧ Kept None w w' := by
  have j0 := fun w => key n 1 false w (by omega)
  have j1 := fun w => secret n 1 false w (by omega)
  have hby : byN n 1 true false = (secN n 1 false + 3) % 18446744073709551616 := by
    have e1 : max ((1 : Int) - 1) 1 = 1 := by decide
    have e2 : ((1 : Int) == 1) = true := by decide
    unfold byN
    rw [e1, e2]
    rfl
  have hkl := keyN_lt n 1 false
  have j2 := fun w => RUp.sign (byN n 1 true false) n 1 ((cl % 2 : Nat) : Int) (keyN n 1 false) 0 0 w (by omega) hkl
  have hq : (reqB n 1 cl true false false).V = updV n 1 (keyN n 1 false) ((cl % 2 : Nat) : Int) (sigR (byN n 1 true false) (msgB n 1 (keyN n 1 false))) (sigS (byN n 1 true false) (msgB n 1 (keyN n 1 false))) := rfl
  rw [hq]
  have hC : (cl : Int) % 2 = ((cl % 2 : Nat) : Int) := by omega
  have hsl := secN_lt n 1 false
  rw [hby] at j2 ⊢
  clear hq hby
  obtain ⟨C, hCC⟩ : ∃ C : Int, C = ((cl % 2 : Nat) : Int) := ⟨_, rfl⟩
  rw [← hCC] at hC j2 ⊢
  obtain ⟨K, hK⟩ : ∃ K, K = keyN n 1 false := ⟨_, rfl⟩
  rw [← hK] at j0 j2 ⊢
  obtain ⟨B, hB⟩ : ∃ B, B = secN n 1 false := ⟨_, rfl⟩
  rw [← hB] at j1 j2 hsl ⊢
  have hb3 : IntKind.u64.wrap ((B : Int) + 3) = (((B + 3) % 18446744073709551616 : Nat) : Int) := by rw [IntKind.wrap_u64]; omega
  obtain ⟨B3, hB3⟩ : ∃ B3, B3 = (B + 3) % 18446744073709551616 := ⟨_, rfl⟩
  rw [← hB3] at hb3 j2 ⊢
  obtain ⟨R, hR⟩ : ∃ R, R = sigR B3 (msgB n 1 K) := ⟨_, rfl⟩
  obtain ⟨S, hS⟩ : ∃ S, S = sigS B3 (msgB n 1 K) := ⟨_, rfl⟩
  rw [← hR, ← hS] at j2 ⊢
  have J := hid (And.intro j0 (And.intro j1 j2))
  clear j0 j1 j2 hCC hK hB hR hS hkl hsl hn hB3
  have k0 : Kept None w ((w.alloc (.cells #[.string ⟨#[]⟩, .int .i64 0, .int .u64 0, .int .i64 0, .int .u64 0, .int .u64 0] 43)).alloc (.cells #[.string n, .int .i64 1, .int .u64 0, .int .i64 C, .int .u64 0, .int .u64 0] 43)) := ((Kept.refl _ _).alloc _).alloc _
  have v0 : Blk ((w.alloc (.cells #[.string ⟨#[]⟩, .int .i64 0, .int .u64 0, .int .i64 0, .int .u64 0, .int .u64 0] 43)).alloc (.cells #[.string n, .int .i64 1, .int .u64 0, .int .i64 C, .int .u64 0, .int .u64 0] 43)) w.heap.size #[.string ⟨#[]⟩, .int .i64 0, .int .u64 0, .int .i64 0, .int .u64 0, .int .u64 0] 43 := (Blk.new w _ _).alloc _
  have u0 := Blk.new2 w (.cells #[.string ⟨#[]⟩, .int .i64 0, .int .u64 0, .int .i64 0, .int .u64 0, .int .u64 0] 43) #[.string n, .int .i64 1, .int .u64 0, .int .i64 C, .int .u64 0, .int .u64 0] 43
  go_enter Try.func21, Try.ntmps21
  go_wp2_with fail
  refine (J.out.1 _).mono ?_
  rintro e w1 ⟨rfl, k1⟩
  have k01 := k0.trans k1
  have v1 := v0.kept k1 (fun h => h)
  have u1 := u0.kept k1 (fun h => h)
  have d2 : w1.cell? ⟨w.heap.size + 1, 2, none⟩ = some (.int .u64 0) := u1.cell 2
  have f2 := u1.free 2
  have u1' : Blk (w1.setCell ⟨w.heap.size + 1, 2, none⟩ (.int .u64 (K : Int))) (w.heap.size + 1) #[.string n, .int .i64 1, .int .u64 (K : Int), .int .i64 C, .int .u64 0, .int .u64 0] 43 := u1.set 2 _
  have v1' := v1.setOther (a := ⟨w.heap.size + 1, 2, none⟩) (by show w.heap.size ≠ w.heap.size + 1; omega) (.int .u64 (K : Int))
  have k01' := k01.setNew (b := w.heap.size + 1) (by omega) 2 (.int .u64 (K : Int))
  clear k0 v0 u0 k1 k01 v1 u1
  go_wp2_with fail
  refine (J.out.2.1 _).mono ?_
  rintro e w2 ⟨rfl, rfl⟩
  go_wp2_with (first | (refine wpList_load_blk rfl _ _ rfl rfl u1' Up.aUpd ?_) | fail)
  refine (J.out.2.2 _).mono ?_
  rintro e w3 ⟨rfl, k3⟩
  have k03 := k01'.trans k3
  have v3 := v1'.kept k3 (fun h => h)
  have u3 := u1'.kept k3 (fun h => h)
  clear k01' v1' u1' k3 d2 f2 J
  go_wp2_with (first | (refine wpList_store_blk rfl _ _ _ rfl rfl rfl u3 Up.aUpd rfl (Up.upd_all _ _ _ _ _ _) ?k4) | fail)
  case k4 =>
    intro w4 u4 k4
    have k04 := k03.then k4 (fun i hi (h : i = w.heap.size + 1) => by omega)
    have v4 := v3.kept k4 (fun (h : w.heap.size = w.heap.size + 1) => by omega)
    clear k03 v3 u3 k4
    go_wp2_with (first | (refine wpList_load_blk rfl _ _ rfl rfl u4 Up.aUpd ?_) | (refine wpList_store_blk rfl _ _ _ rfl rfl rfl v4 Up.aUpd rfl (Up.upd_all _ _ _ _ _ _) ?_; intro w7 hR7 k7) | fail)
    exact bodyPost_ret (v := updV n 1 K C R S) (results_blk rfl _ rfl hR7 Up.aUpd) rfl ⟨rfl, k04.then k7 (fun i hi (h : i = w.heap.size) => by omega)⟩

set_option maxRecDepth 100000 in
set_option maxHeartbeats 4000000 in
theorem upd_a0 (n : ByteArray) (v : Int) (cl how : Nat) (w : World) (hn : n.size ≤ 32) (h1 : 2 ≤ v) (h2 : v ≤ 1000) (e5 : ((how : Int) % 8 == 5) = true) (e6 : ((how : Int) % 8 == 6) = false) (e7 : ((how : Int) % 8 == 7) = false) :
    Calls Try.prog 21 #[.string n, .int .i64 v, .int .u8 cl, .int .u8 how] w fun e w' => e = .returned (reqB n v cl true false false).V ∧ Kept None w w' := by
  have j0 := fun w => key n v false w (by omega)
  have j1 := fun w => secret n (v - 1) false w (by omega)
  have hby : byN n v true false = (secN n (v - 1) false + 3) % 18446744073709551616 := by
    unfold byN
    have e1 : max (v - 1) 1 = v - 1 := by omega
    have e2 : (v == 1) = false := by rw [beq_eq_false_iff_ne]; omega
    rw [e1]; rfl
  have hkl := keyN_lt n v false
  have j2 := fun w => RUp.sign (byN n v true false) n v ((cl % 2 : Nat) : Int) (keyN n v false) 0 0 w (by omega) hkl
  have hq : (reqB n v cl true false false).V = updV n v (keyN n v false) ((cl % 2 : Nat) : Int) (sigR (byN n v true false) (msgB n v (keyN n v false))) (sigS (byN n v true false) (msgB n v (keyN n v false))) := rfl
  rw [hq]
  have hC : (cl : Int) % 2 = ((cl % 2 : Nat) : Int) := by omega
  have hsl := secN_lt n (v - 1) false
  rw [hby] at j2 ⊢
  clear hq hby
  obtain ⟨C, hCC⟩ : ∃ C : Int, C = ((cl % 2 : Nat) : Int) := ⟨_, rfl⟩
  rw [← hCC] at hC j2 ⊢
  obtain ⟨K, hK⟩ : ∃ K, K = keyN n v false := ⟨_, rfl⟩
  rw [← hK] at j0 j2 ⊢
  obtain ⟨B, hB⟩ : ∃ B, B = secN n (v - 1) false := ⟨_, rfl⟩
  rw [← hB] at j1 j2 hsl ⊢
  have hb3 : IntKind.u64.wrap ((B : Int) + 3) = (((B + 3) % 18446744073709551616 : Nat) : Int) := by rw [IntKind.wrap_u64]; omega
  obtain ⟨B3, hB3⟩ : ∃ B3, B3 = (B + 3) % 18446744073709551616 := ⟨_, rfl⟩
  rw [← hB3] at hb3 j2 ⊢
  obtain ⟨R, hR⟩ : ∃ R, R = sigR B3 (msgB n v K) := ⟨_, rfl⟩
  obtain ⟨S, hS⟩ : ∃ S, S = sigS B3 (msgB n v K) := ⟨_, rfl⟩
  rw [← hR, ← hS] at j2 ⊢
  have J := hid (And.intro j0 (And.intro j1 j2))
  clear j0 j1 j2 hCC hK hB hR hS hkl hsl hn hB3
  have k0 : Kept None w ((w.alloc (.cells #[.string ⟨#[]⟩, .int .i64 0, .int .u64 0, .int .i64 0, .int .u64 0, .int .u64 0] 43)).alloc (.cells #[.string n, .int .i64 v, .int .u64 0, .int .i64 C, .int .u64 0, .int .u64 0] 43)) := ((Kept.refl _ _).alloc _).alloc _
  have v0 : Blk ((w.alloc (.cells #[.string ⟨#[]⟩, .int .i64 0, .int .u64 0, .int .i64 0, .int .u64 0, .int .u64 0] 43)).alloc (.cells #[.string n, .int .i64 v, .int .u64 0, .int .i64 C, .int .u64 0, .int .u64 0] 43)) w.heap.size #[.string ⟨#[]⟩, .int .i64 0, .int .u64 0, .int .i64 0, .int .u64 0, .int .u64 0] 43 := (Blk.new w _ _).alloc _
  have u0 := Blk.new2 w (.cells #[.string ⟨#[]⟩, .int .i64 0, .int .u64 0, .int .i64 0, .int .u64 0, .int .u64 0] 43) #[.string n, .int .i64 v, .int .u64 0, .int .i64 C, .int .u64 0, .int .u64 0] 43
  go_enter Try.func21, Try.ntmps21
  go_wp2_with fail
  refine (J.out.1 _).mono ?_
  rintro e w1 ⟨rfl, k1⟩
  have k01 := k0.trans k1
  have v1 := v0.kept k1 (fun h => h)
  have u1 := u0.kept k1 (fun h => h)
  have d2 : w1.cell? ⟨w.heap.size + 1, 2, none⟩ = some (.int .u64 0) := u1.cell 2
  have f2 := u1.free 2
  have u1' : Blk (w1.setCell ⟨w.heap.size + 1, 2, none⟩ (.int .u64 (K : Int))) (w.heap.size + 1) #[.string n, .int .i64 v, .int .u64 (K : Int), .int .i64 C, .int .u64 0, .int .u64 0] 43 := u1.set 2 _
  have v1' := v1.setOther (a := ⟨w.heap.size + 1, 2, none⟩) (by show w.heap.size ≠ w.heap.size + 1; omega) (.int .u64 (K : Int))
  have k01' := k01.setNew (b := w.heap.size + 1) (by omega) 2 (.int .u64 (K : Int))
  clear k0 v0 u0 k1 k01 v1 u1
  go_wp2_with fail
  refine (J.out.2.1 _).mono ?_
  rintro e w2 ⟨rfl, rfl⟩
  go_wp2_with (first | (refine wpList_load_blk rfl _ _ rfl rfl u1' Up.aUpd ?_) | fail)
  refine (J.out.2.2 _).mono ?_
  rintro e w3 ⟨rfl, k3⟩
  have k03 := k01'.trans k3
  have v3 := v1'.kept k3 (fun h => h)
  have u3 := u1'.kept k3 (fun h => h)
  clear k01' v1' u1' k3 d2 f2 J
  go_wp2_with (first | (refine wpList_store_blk rfl _ _ _ rfl rfl rfl u3 Up.aUpd rfl (Up.upd_all _ _ _ _ _ _) ?k4) | fail)
  case k4 =>
    intro w4 u4 k4
    have k04 := k03.then k4 (fun i hi (h : i = w.heap.size + 1) => by omega)
    have v4 := v3.kept k4 (fun (h : w.heap.size = w.heap.size + 1) => by omega)
    clear k03 v3 u3 k4
    go_wp2_with (first | (refine wpList_load_blk rfl _ _ rfl rfl u4 Up.aUpd ?_) | (refine wpList_store_blk rfl _ _ _ rfl rfl rfl v4 Up.aUpd rfl (Up.upd_all _ _ _ _ _ _) ?_; intro w7 hR7 k7) | fail)
    exact bodyPost_ret (v := updV n v K C R S) (results_blk rfl _ rfl hR7 Up.aUpd) rfl ⟨rfl, k04.then k7 (fun i hi (h : i = w.heap.size) => by omega)⟩
end Seat
end Go.Proofs.Ytbebpnanhkcngaa

/- postmarkseat.Update, where it has another key. -/
namespace Go.Proofs.Ytbebpnanhkcngaa
open Go.RowKit Go.Pm
namespace Seat

set_option maxRecDepth 100000 in
set_option maxHeartbeats 4000000 in
theorem upd_b1 (n : ByteArray) (cl how : Nat) (w : World) (hn : n.size ≤ 32) (e5 : ((how : Int) % 8 == 5) = false) (e6 : ((how : Int) % 8 == 6) = true) (e7 : ((how : Int) % 8 == 7) = false) :
    Calls Try.prog 21 #[.string n, .int .i64 1, .int .u8 cl, .int .u8 how] w fun e w' => e = .returned (reqB n 1 cl false true false).V ∧ Kept None w w' := by
  have j0 := fun w => key n 1 true w (by omega)
  have j1 := fun w => secret n 1 true w (by omega)
  have hby : byN n 1 false true = secN n 1 true := by
    have e1 : max ((1 : Int) - 1) 1 = 1 := by decide
    have e2 : ((1 : Int) == 1) = true := by decide
    unfold byN
    rw [e1, e2]
    rfl
  have hkl := keyN_lt n 1 true
  have j2 := fun w => RUp.sign (byN n 1 false true) n 1 ((cl % 2 : Nat) : Int) (keyN n 1 true) 0 0 w (by omega) hkl
  have hq : (reqB n 1 cl false true false).V = updV n 1 (keyN n 1 true) ((cl % 2 : Nat) : Int) (sigR (byN n 1 false true) (msgB n 1 (keyN n 1 true))) (sigS (byN n 1 false true) (msgB n 1 (keyN n 1 true))) := rfl
  rw [hq]
  have hC : (cl : Int) % 2 = ((cl % 2 : Nat) : Int) := by omega
  have hsl := secN_lt n 1 true
  rw [hby] at j2 ⊢
  clear hq hby
  obtain ⟨C, hCC⟩ : ∃ C : Int, C = ((cl % 2 : Nat) : Int) := ⟨_, rfl⟩
  rw [← hCC] at hC j2 ⊢
  obtain ⟨K, hK⟩ : ∃ K, K = keyN n 1 true := ⟨_, rfl⟩
  rw [← hK] at j0 j2 ⊢
  obtain ⟨B, hB⟩ : ∃ B, B = secN n 1 true := ⟨_, rfl⟩
  rw [← hB] at j1 j2 hsl ⊢
  
  
  
  obtain ⟨R, hR⟩ : ∃ R, R = sigR B (msgB n 1 K) := ⟨_, rfl⟩
  obtain ⟨S, hS⟩ : ∃ S, S = sigS B (msgB n 1 K) := ⟨_, rfl⟩
  rw [← hR, ← hS] at j2 ⊢
  have J := hid (And.intro j0 (And.intro j1 j2))
  clear j0 j1 j2 hCC hK hB hR hS hkl hsl hn
  have k0 : Kept None w ((w.alloc (.cells #[.string ⟨#[]⟩, .int .i64 0, .int .u64 0, .int .i64 0, .int .u64 0, .int .u64 0] 43)).alloc (.cells #[.string n, .int .i64 1, .int .u64 0, .int .i64 C, .int .u64 0, .int .u64 0] 43)) := ((Kept.refl _ _).alloc _).alloc _
  have v0 : Blk ((w.alloc (.cells #[.string ⟨#[]⟩, .int .i64 0, .int .u64 0, .int .i64 0, .int .u64 0, .int .u64 0] 43)).alloc (.cells #[.string n, .int .i64 1, .int .u64 0, .int .i64 C, .int .u64 0, .int .u64 0] 43)) w.heap.size #[.string ⟨#[]⟩, .int .i64 0, .int .u64 0, .int .i64 0, .int .u64 0, .int .u64 0] 43 := (Blk.new w _ _).alloc _
  have u0 := Blk.new2 w (.cells #[.string ⟨#[]⟩, .int .i64 0, .int .u64 0, .int .i64 0, .int .u64 0, .int .u64 0] 43) #[.string n, .int .i64 1, .int .u64 0, .int .i64 C, .int .u64 0, .int .u64 0] 43
  go_enter Try.func21, Try.ntmps21
  go_wp2_with fail
  refine (J.out.1 _).mono ?_
  rintro e w1 ⟨rfl, k1⟩
  have k01 := k0.trans k1
  have v1 := v0.kept k1 (fun h => h)
  have u1 := u0.kept k1 (fun h => h)
  have d2 : w1.cell? ⟨w.heap.size + 1, 2, none⟩ = some (.int .u64 0) := u1.cell 2
  have f2 := u1.free 2
  have u1' : Blk (w1.setCell ⟨w.heap.size + 1, 2, none⟩ (.int .u64 (K : Int))) (w.heap.size + 1) #[.string n, .int .i64 1, .int .u64 (K : Int), .int .i64 C, .int .u64 0, .int .u64 0] 43 := u1.set 2 _
  have v1' := v1.setOther (a := ⟨w.heap.size + 1, 2, none⟩) (by show w.heap.size ≠ w.heap.size + 1; omega) (.int .u64 (K : Int))
  have k01' := k01.setNew (b := w.heap.size + 1) (by omega) 2 (.int .u64 (K : Int))
  clear k0 v0 u0 k1 k01 v1 u1
  go_wp2_with fail
  refine (J.out.2.1 _).mono ?_
  rintro e w2 ⟨rfl, rfl⟩
  go_wp2_with (first | (refine wpList_load_blk rfl _ _ rfl rfl u1' Up.aUpd ?_) | fail)
  refine (J.out.2.2 _).mono ?_
  rintro e w3 ⟨rfl, k3⟩
  have k03 := k01'.trans k3
  have v3 := v1'.kept k3 (fun h => h)
  have u3 := u1'.kept k3 (fun h => h)
  clear k01' v1' u1' k3 d2 f2 J
  go_wp2_with (first | (refine wpList_store_blk rfl _ _ _ rfl rfl rfl u3 Up.aUpd rfl (Up.upd_all _ _ _ _ _ _) ?k4) | fail)
  case k4 =>
    intro w4 u4 k4
    have k04 := k03.then k4 (fun i hi (h : i = w.heap.size + 1) => by omega)
    have v4 := v3.kept k4 (fun (h : w.heap.size = w.heap.size + 1) => by omega)
    clear k03 v3 u3 k4
    go_wp2_with (first | (refine wpList_load_blk rfl _ _ rfl rfl u4 Up.aUpd ?_) | (refine wpList_store_blk rfl _ _ _ rfl rfl rfl v4 Up.aUpd rfl (Up.upd_all _ _ _ _ _ _) ?_; intro w7 hR7 k7) | fail)
    exact bodyPost_ret (v := updV n 1 K C R S) (results_blk rfl _ rfl hR7 Up.aUpd) rfl ⟨rfl, k04.then k7 (fun i hi (h : i = w.heap.size) => by omega)⟩

set_option maxRecDepth 100000 in
set_option maxHeartbeats 4000000 in
theorem upd_b0 (n : ByteArray) (v : Int) (cl how : Nat) (w : World) (hn : n.size ≤ 32) (h1 : 2 ≤ v) (h2 : v ≤ 1000) (e5 : ((how : Int) % 8 == 5) = false) (e6 : ((how : Int) % 8 == 6) = true) (e7 : ((how : Int) % 8 == 7) = false) :
    Calls Try.prog 21 #[.string n, .int .i64 v, .int .u8 cl, .int .u8 how] w fun e w' => e = .returned (reqB n v cl false true false).V ∧ Kept None w w' := by
  have j0 := fun w => key n v true w (by omega)
  have ev : (v == 1) = false := by rw [beq_eq_false_iff_ne]; omega
  have j1 := fun w => secret n (v - 1) false w (by omega)
  have hby : byN n v false true = secN n (v - 1) false := by
    unfold byN
    have e1 : max (v - 1) 1 = v - 1 := by omega
    have e2 : (v == 1) = false := by rw [beq_eq_false_iff_ne]; omega
    rw [e1, e2]; rfl
  have hkl := keyN_lt n v true
  have j2 := fun w => RUp.sign (byN n v false true) n v ((cl % 2 : Nat) : Int) (keyN n v true) 0 0 w (by omega) hkl
  have hq : (reqB n v cl false true false).V = updV n v (keyN n v true) ((cl % 2 : Nat) : Int) (sigR (byN n v false true) (msgB n v (keyN n v true))) (sigS (byN n v false true) (msgB n v (keyN n v true))) := rfl
  rw [hq]
  have hC : (cl : Int) % 2 = ((cl % 2 : Nat) : Int) := by omega
  have hsl := secN_lt n (v - 1) false
  rw [hby] at j2 ⊢
  clear hq hby
  obtain ⟨C, hCC⟩ : ∃ C : Int, C = ((cl % 2 : Nat) : Int) := ⟨_, rfl⟩
  rw [← hCC] at hC j2 ⊢
  obtain ⟨K, hK⟩ : ∃ K, K = keyN n v true := ⟨_, rfl⟩
  rw [← hK] at j0 j2 ⊢
  obtain ⟨B, hB⟩ : ∃ B, B = secN n (v - 1) false := ⟨_, rfl⟩
  rw [← hB] at j1 j2 hsl ⊢
  
  
  
  obtain ⟨R, hR⟩ : ∃ R, R = sigR B (msgB n v K) := ⟨_, rfl⟩
  obtain ⟨S, hS⟩ : ∃ S, S = sigS B (msgB n v K) := ⟨_, rfl⟩
  rw [← hR, ← hS] at j2 ⊢
  have J := hid (And.intro j0 (And.intro j1 j2))
  clear j0 j1 j2 hCC hK hB hR hS hkl hsl hn
  have k0 : Kept None w ((w.alloc (.cells #[.string ⟨#[]⟩, .int .i64 0, .int .u64 0, .int .i64 0, .int .u64 0, .int .u64 0] 43)).alloc (.cells #[.string n, .int .i64 v, .int .u64 0, .int .i64 C, .int .u64 0, .int .u64 0] 43)) := ((Kept.refl _ _).alloc _).alloc _
  have v0 : Blk ((w.alloc (.cells #[.string ⟨#[]⟩, .int .i64 0, .int .u64 0, .int .i64 0, .int .u64 0, .int .u64 0] 43)).alloc (.cells #[.string n, .int .i64 v, .int .u64 0, .int .i64 C, .int .u64 0, .int .u64 0] 43)) w.heap.size #[.string ⟨#[]⟩, .int .i64 0, .int .u64 0, .int .i64 0, .int .u64 0, .int .u64 0] 43 := (Blk.new w _ _).alloc _
  have u0 := Blk.new2 w (.cells #[.string ⟨#[]⟩, .int .i64 0, .int .u64 0, .int .i64 0, .int .u64 0, .int .u64 0] 43) #[.string n, .int .i64 v, .int .u64 0, .int .i64 C, .int .u64 0, .int .u64 0] 43
  go_enter Try.func21, Try.ntmps21
  go_wp2_with fail
  refine (J.out.1 _).mono ?_
  rintro e w1 ⟨rfl, k1⟩
  have k01 := k0.trans k1
  have v1 := v0.kept k1 (fun h => h)
  have u1 := u0.kept k1 (fun h => h)
  have d2 : w1.cell? ⟨w.heap.size + 1, 2, none⟩ = some (.int .u64 0) := u1.cell 2
  have f2 := u1.free 2
  have u1' : Blk (w1.setCell ⟨w.heap.size + 1, 2, none⟩ (.int .u64 (K : Int))) (w.heap.size + 1) #[.string n, .int .i64 v, .int .u64 (K : Int), .int .i64 C, .int .u64 0, .int .u64 0] 43 := u1.set 2 _
  have v1' := v1.setOther (a := ⟨w.heap.size + 1, 2, none⟩) (by show w.heap.size ≠ w.heap.size + 1; omega) (.int .u64 (K : Int))
  have k01' := k01.setNew (b := w.heap.size + 1) (by omega) 2 (.int .u64 (K : Int))
  clear k0 v0 u0 k1 k01 v1 u1
  go_wp2_with fail
  refine (J.out.2.1 _).mono ?_
  rintro e w2 ⟨rfl, rfl⟩
  go_wp2_with (first | (refine wpList_load_blk rfl _ _ rfl rfl u1' Up.aUpd ?_) | fail)
  refine (J.out.2.2 _).mono ?_
  rintro e w3 ⟨rfl, k3⟩
  have k03 := k01'.trans k3
  have v3 := v1'.kept k3 (fun h => h)
  have u3 := u1'.kept k3 (fun h => h)
  clear k01' v1' u1' k3 d2 f2 J
  go_wp2_with (first | (refine wpList_store_blk rfl _ _ _ rfl rfl rfl u3 Up.aUpd rfl (Up.upd_all _ _ _ _ _ _) ?k4) | fail)
  case k4 =>
    intro w4 u4 k4
    have k04 := k03.then k4 (fun i hi (h : i = w.heap.size + 1) => by omega)
    have v4 := v3.kept k4 (fun (h : w.heap.size = w.heap.size + 1) => by omega)
    clear k03 v3 u3 k4
    go_wp2_with (first | (refine wpList_load_blk rfl _ _ rfl rfl u4 Up.aUpd ?_) | (refine wpList_store_blk rfl _ _ _ rfl rfl rfl v4 Up.aUpd rfl (Up.upd_all _ _ _ _ _ _) ?_; intro w7 hR7 k7) | fail)
    exact bodyPost_ret (v := updV n v K C R S) (results_blk rfl _ rfl hR7 Up.aUpd) rfl ⟨rfl, k04.then k7 (fun i hi (h : i = w.heap.size) => by omega)⟩
end Seat
end Go.Proofs.Ytbebpnanhkcngaa

/- postmarkseat.Update, where it has no class. -/
namespace Go.Proofs.Ytbebpnanhkcngaa
open Go.RowKit Go.Pm
namespace Seat

set_option maxRecDepth 100000 in
set_option maxHeartbeats 4000000 in
theorem upd_c1 (n : ByteArray) (cl how : Nat) (w : World) (hn : n.size ≤ 32) (e5 : ((how : Int) % 8 == 5) = false) (e6 : ((how : Int) % 8 == 6) = false) (e7 : ((how : Int) % 8 == 7) = true) :
    Calls Try.prog 21 #[.string n, .int .i64 1, .int .u8 cl, .int .u8 how] w fun e w' => e = .returned (reqB n 1 cl false false true).V ∧ Kept None w w' := by
  have j0 := fun w => key n 1 false w (by omega)
  have j1 := fun w => secret n 1 false w (by omega)
  have hby : byN n 1 false false = secN n 1 false := by
    have e1 : max ((1 : Int) - 1) 1 = 1 := by decide
    have e2 : ((1 : Int) == 1) = true := by decide
    unfold byN
    rw [e1, e2]
    rfl
  have hkl := keyN_lt n 1 false
  have j2 := fun w => RUp.sign (byN n 1 false false) n 1 ((cl % 2 : Nat) : Int) (keyN n 1 false) 0 0 w (by omega) hkl
  have hq : (reqB n 1 cl false false true).V = updV n 1 (keyN n 1 false) 5 (sigR (byN n 1 false false) (msgB n 1 (keyN n 1 false))) (sigS (byN n 1 false false) (msgB n 1 (keyN n 1 false))) := rfl
  rw [hq]
  have hC : (cl : Int) % 2 = ((cl % 2 : Nat) : Int) := by omega
  have hsl := secN_lt n 1 false
  rw [hby] at j2 ⊢
  clear hq hby
  obtain ⟨C, hCC⟩ : ∃ C : Int, C = ((cl % 2 : Nat) : Int) := ⟨_, rfl⟩
  rw [← hCC] at hC j2
  obtain ⟨K, hK⟩ : ∃ K, K = keyN n 1 false := ⟨_, rfl⟩
  rw [← hK] at j0 j2 ⊢
  obtain ⟨B, hB⟩ : ∃ B, B = secN n 1 false := ⟨_, rfl⟩
  rw [← hB] at j1 j2 hsl ⊢
  
  
  
  obtain ⟨R, hR⟩ : ∃ R, R = sigR B (msgB n 1 K) := ⟨_, rfl⟩
  obtain ⟨S, hS⟩ : ∃ S, S = sigS B (msgB n 1 K) := ⟨_, rfl⟩
  rw [← hR, ← hS] at j2 ⊢
  have J := hid (And.intro j0 (And.intro j1 j2))
  clear j0 j1 j2 hCC hK hB hR hS hkl hsl hn
  have k0 : Kept None w ((w.alloc (.cells #[.string ⟨#[]⟩, .int .i64 0, .int .u64 0, .int .i64 0, .int .u64 0, .int .u64 0] 43)).alloc (.cells #[.string n, .int .i64 1, .int .u64 0, .int .i64 C, .int .u64 0, .int .u64 0] 43)) := ((Kept.refl _ _).alloc _).alloc _
  have v0 : Blk ((w.alloc (.cells #[.string ⟨#[]⟩, .int .i64 0, .int .u64 0, .int .i64 0, .int .u64 0, .int .u64 0] 43)).alloc (.cells #[.string n, .int .i64 1, .int .u64 0, .int .i64 C, .int .u64 0, .int .u64 0] 43)) w.heap.size #[.string ⟨#[]⟩, .int .i64 0, .int .u64 0, .int .i64 0, .int .u64 0, .int .u64 0] 43 := (Blk.new w _ _).alloc _
  have u0 := Blk.new2 w (.cells #[.string ⟨#[]⟩, .int .i64 0, .int .u64 0, .int .i64 0, .int .u64 0, .int .u64 0] 43) #[.string n, .int .i64 1, .int .u64 0, .int .i64 C, .int .u64 0, .int .u64 0] 43
  go_enter Try.func21, Try.ntmps21
  go_wp2_with fail
  refine (J.out.1 _).mono ?_
  rintro e w1 ⟨rfl, k1⟩
  have k01 := k0.trans k1
  have v1 := v0.kept k1 (fun h => h)
  have u1 := u0.kept k1 (fun h => h)
  have d2 : w1.cell? ⟨w.heap.size + 1, 2, none⟩ = some (.int .u64 0) := u1.cell 2
  have f2 := u1.free 2
  have u1' : Blk (w1.setCell ⟨w.heap.size + 1, 2, none⟩ (.int .u64 (K : Int))) (w.heap.size + 1) #[.string n, .int .i64 1, .int .u64 (K : Int), .int .i64 C, .int .u64 0, .int .u64 0] 43 := u1.set 2 _
  have v1' := v1.setOther (a := ⟨w.heap.size + 1, 2, none⟩) (by show w.heap.size ≠ w.heap.size + 1; omega) (.int .u64 (K : Int))
  have k01' := k01.setNew (b := w.heap.size + 1) (by omega) 2 (.int .u64 (K : Int))
  clear k0 v0 u0 k1 k01 v1 u1
  go_wp2_with fail
  refine (J.out.2.1 _).mono ?_
  rintro e w2 ⟨rfl, rfl⟩
  go_wp2_with (first | (refine wpList_load_blk rfl _ _ rfl rfl u1' Up.aUpd ?_) | fail)
  refine (J.out.2.2 _).mono ?_
  rintro e w3 ⟨rfl, k3⟩
  have k03 := k01'.trans k3
  have v3 := v1'.kept k3 (fun h => h)
  have u3 := u1'.kept k3 (fun h => h)
  clear k01' v1' u1' k3 d2 f2 J
  go_wp2_with (first | (refine wpList_store_blk rfl _ _ _ rfl rfl rfl u3 Up.aUpd rfl (Up.upd_all _ _ _ _ _ _) ?k4) | fail)
  case k4 =>
    intro w4 u4 k4
    have k04 := k03.then k4 (fun i hi (h : i = w.heap.size + 1) => by omega)
    have v4 := v3.kept k4 (fun (h : w.heap.size = w.heap.size + 1) => by omega)
    have d3 : w4.cell? ⟨w.heap.size + 1, 3, none⟩ = some (.int .i64 C) := u4.cell 3
    have f3 := u4.free 3
    have u4' : Blk (w4.setCell ⟨w.heap.size + 1, 3, none⟩ (.int .i64 5)) (w.heap.size + 1) #[.string n, .int .i64 1, .int .u64 (K : Int), .int .i64 5, .int .u64 (R : Int), .int .u64 (S : Int)] 43 := u4.set 3 _
    have v4' := v4.setOther (a := ⟨w.heap.size + 1, 3, none⟩) (by show w.heap.size ≠ w.heap.size + 1; omega) (.int .i64 5)
    have k04' := k04.setNew (b := w.heap.size + 1) (by omega) 3 (.int .i64 5)
    clear k03 v3 u3 k4 u4 v4 k04
    go_wp2_with (first | (refine wpList_load_blk rfl _ _ rfl rfl u4' Up.aUpd ?_) | (refine wpList_store_blk rfl _ _ _ rfl rfl rfl v4' Up.aUpd rfl (Up.upd_all _ _ _ _ _ _) ?_; intro w7 hR7 k7) | fail)
    exact bodyPost_ret (v := updV n 1 K 5 R S) (results_blk rfl _ rfl hR7 Up.aUpd) rfl ⟨rfl, k04'.then k7 (fun i hi (h : i = w.heap.size) => by omega)⟩

set_option maxRecDepth 100000 in
set_option maxHeartbeats 4000000 in
theorem upd_c0 (n : ByteArray) (v : Int) (cl how : Nat) (w : World) (hn : n.size ≤ 32) (h1 : 2 ≤ v) (h2 : v ≤ 1000) (e5 : ((how : Int) % 8 == 5) = false) (e6 : ((how : Int) % 8 == 6) = false) (e7 : ((how : Int) % 8 == 7) = true) :
    Calls Try.prog 21 #[.string n, .int .i64 v, .int .u8 cl, .int .u8 how] w fun e w' => e = .returned (reqB n v cl false false true).V ∧ Kept None w w' := by
  have j0 := fun w => key n v false w (by omega)
  have j1 := fun w => secret n (v - 1) false w (by omega)
  have hby : byN n v false false = secN n (v - 1) false := by
    unfold byN
    have e1 : max (v - 1) 1 = v - 1 := by omega
    have e2 : (v == 1) = false := by rw [beq_eq_false_iff_ne]; omega
    rw [e1]; rfl
  have hkl := keyN_lt n v false
  have j2 := fun w => RUp.sign (byN n v false false) n v ((cl % 2 : Nat) : Int) (keyN n v false) 0 0 w (by omega) hkl
  have hq : (reqB n v cl false false true).V = updV n v (keyN n v false) 5 (sigR (byN n v false false) (msgB n v (keyN n v false))) (sigS (byN n v false false) (msgB n v (keyN n v false))) := rfl
  rw [hq]
  have hC : (cl : Int) % 2 = ((cl % 2 : Nat) : Int) := by omega
  have hsl := secN_lt n (v - 1) false
  rw [hby] at j2 ⊢
  clear hq hby
  obtain ⟨C, hCC⟩ : ∃ C : Int, C = ((cl % 2 : Nat) : Int) := ⟨_, rfl⟩
  rw [← hCC] at hC j2
  obtain ⟨K, hK⟩ : ∃ K, K = keyN n v false := ⟨_, rfl⟩
  rw [← hK] at j0 j2 ⊢
  obtain ⟨B, hB⟩ : ∃ B, B = secN n (v - 1) false := ⟨_, rfl⟩
  rw [← hB] at j1 j2 hsl ⊢
  
  
  
  obtain ⟨R, hR⟩ : ∃ R, R = sigR B (msgB n v K) := ⟨_, rfl⟩
  obtain ⟨S, hS⟩ : ∃ S, S = sigS B (msgB n v K) := ⟨_, rfl⟩
  rw [← hR, ← hS] at j2 ⊢
  have J := hid (And.intro j0 (And.intro j1 j2))
  clear j0 j1 j2 hCC hK hB hR hS hkl hsl hn
  have k0 : Kept None w ((w.alloc (.cells #[.string ⟨#[]⟩, .int .i64 0, .int .u64 0, .int .i64 0, .int .u64 0, .int .u64 0] 43)).alloc (.cells #[.string n, .int .i64 v, .int .u64 0, .int .i64 C, .int .u64 0, .int .u64 0] 43)) := ((Kept.refl _ _).alloc _).alloc _
  have v0 : Blk ((w.alloc (.cells #[.string ⟨#[]⟩, .int .i64 0, .int .u64 0, .int .i64 0, .int .u64 0, .int .u64 0] 43)).alloc (.cells #[.string n, .int .i64 v, .int .u64 0, .int .i64 C, .int .u64 0, .int .u64 0] 43)) w.heap.size #[.string ⟨#[]⟩, .int .i64 0, .int .u64 0, .int .i64 0, .int .u64 0, .int .u64 0] 43 := (Blk.new w _ _).alloc _
  have u0 := Blk.new2 w (.cells #[.string ⟨#[]⟩, .int .i64 0, .int .u64 0, .int .i64 0, .int .u64 0, .int .u64 0] 43) #[.string n, .int .i64 v, .int .u64 0, .int .i64 C, .int .u64 0, .int .u64 0] 43
  go_enter Try.func21, Try.ntmps21
  go_wp2_with fail
  refine (J.out.1 _).mono ?_
  rintro e w1 ⟨rfl, k1⟩
  have k01 := k0.trans k1
  have v1 := v0.kept k1 (fun h => h)
  have u1 := u0.kept k1 (fun h => h)
  have d2 : w1.cell? ⟨w.heap.size + 1, 2, none⟩ = some (.int .u64 0) := u1.cell 2
  have f2 := u1.free 2
  have u1' : Blk (w1.setCell ⟨w.heap.size + 1, 2, none⟩ (.int .u64 (K : Int))) (w.heap.size + 1) #[.string n, .int .i64 v, .int .u64 (K : Int), .int .i64 C, .int .u64 0, .int .u64 0] 43 := u1.set 2 _
  have v1' := v1.setOther (a := ⟨w.heap.size + 1, 2, none⟩) (by show w.heap.size ≠ w.heap.size + 1; omega) (.int .u64 (K : Int))
  have k01' := k01.setNew (b := w.heap.size + 1) (by omega) 2 (.int .u64 (K : Int))
  clear k0 v0 u0 k1 k01 v1 u1
  go_wp2_with fail
  refine (J.out.2.1 _).mono ?_
  rintro e w2 ⟨rfl, rfl⟩
  go_wp2_with (first | (refine wpList_load_blk rfl _ _ rfl rfl u1' Up.aUpd ?_) | fail)
  refine (J.out.2.2 _).mono ?_
  rintro e w3 ⟨rfl, k3⟩
  have k03 := k01'.trans k3
  have v3 := v1'.kept k3 (fun h => h)
  have u3 := u1'.kept k3 (fun h => h)
  clear k01' v1' u1' k3 d2 f2 J
  go_wp2_with (first | (refine wpList_store_blk rfl _ _ _ rfl rfl rfl u3 Up.aUpd rfl (Up.upd_all _ _ _ _ _ _) ?k4) | fail)
  case k4 =>
    intro w4 u4 k4
    have k04 := k03.then k4 (fun i hi (h : i = w.heap.size + 1) => by omega)
    have v4 := v3.kept k4 (fun (h : w.heap.size = w.heap.size + 1) => by omega)
    have d3 : w4.cell? ⟨w.heap.size + 1, 3, none⟩ = some (.int .i64 C) := u4.cell 3
    have f3 := u4.free 3
    have u4' : Blk (w4.setCell ⟨w.heap.size + 1, 3, none⟩ (.int .i64 5)) (w.heap.size + 1) #[.string n, .int .i64 v, .int .u64 (K : Int), .int .i64 5, .int .u64 (R : Int), .int .u64 (S : Int)] 43 := u4.set 3 _
    have v4' := v4.setOther (a := ⟨w.heap.size + 1, 3, none⟩) (by show w.heap.size ≠ w.heap.size + 1; omega) (.int .i64 5)
    have k04' := k04.setNew (b := w.heap.size + 1) (by omega) 3 (.int .i64 5)
    clear k03 v3 u3 k4 u4 v4 k04
    go_wp2_with (first | (refine wpList_load_blk rfl _ _ rfl rfl u4' Up.aUpd ?_) | (refine wpList_store_blk rfl _ _ _ rfl rfl rfl v4' Up.aUpd rfl (Up.upd_all _ _ _ _ _ _) ?_; intro w7 hR7 k7) | fail)
    exact bodyPost_ret (v := updV n v K 5 R S) (results_blk rfl _ rfl hR7 Up.aUpd) rfl ⟨rfl, k04'.then k7 (fun i hi (h : i = w.heap.size) => by omega)⟩
end Seat
end Go.Proofs.Ytbebpnanhkcngaa

/- postmarkseat.Update, by contract. -/
namespace Go.Proofs.Ytbebpnanhkcngaa
open Go.RowKit Go.Pm
namespace Seat

theorem update (n : ByteArray) (v : Int) (cl how : Nat) (w : World) (hn : n.size ≤ 32) (hv0 : 1 ≤ v) (hv1 : v ≤ 1000) :
    Calls Try.prog 21 #[.string n, .int .i64 v, .int .u8 cl, .int .u8 how] w fun e w' => e = .returned (req n v cl how).V ∧ Kept None w w' := by
  have hb : ∀ j : Nat, ((how : Int) % 8 == (j : Int)) = (how % 8 == j) := fun j => by
    rw [Bool.eq_iff_iff, beq_iff_eq, beq_iff_eq]
    omega
  have h5 : ((how : Int) % 8 == 5) = (how % 8 == 5) := hb 5
  have h6 : ((how : Int) % 8 == 6) = (how % 8 == 6) := hb 6
  have h7 : ((how : Int) % 8 == 7) = (how % 8 == 7) := hb 7
  have hc : how % 8 = 5 ∨ how % 8 = 6 ∨ how % 8 = 7 ∨ (how % 8 ≠ 5 ∧ how % 8 ≠ 6 ∧ how % 8 ≠ 7) := by omega
  unfold req
  rcases hc with h | h | h | ⟨ha, hb', hc⟩
  · rw [h] at h5 h6 h7 ⊢
    by_cases h1 : v = 1
    · subst h1; exact upd_a1 n cl how w hn h5 h6 h7
    · exact upd_a0 n v cl how w hn (by omega) hv1 h5 h6 h7
  · rw [h] at h5 h6 h7 ⊢
    by_cases h1 : v = 1
    · subst h1; exact upd_b1 n cl how w hn h5 h6 h7
    · exact upd_b0 n v cl how w hn (by omega) hv1 h5 h6 h7
  · rw [h] at h5 h6 h7 ⊢
    by_cases h1 : v = 1
    · subst h1; exact upd_c1 n cl how w hn h5 h6 h7
    · exact upd_c0 n v cl how w hn (by omega) hv1 h5 h6 h7
  · have g5 : (how % 8 == 5) = false := by simpa using ha
    have g6 : (how % 8 == 6) = false := by simpa using hb'
    have g7 : (how % 8 == 7) = false := by simpa using hc
    rw [g5] at h5 ⊢
    rw [g6] at h6 ⊢
    rw [g7] at h7 ⊢
    by_cases h1 : v = 1
    · subst h1; exact upd_o1 n cl how w hn h5 h6 h7
    · exact upd_o0 n v cl how w hn (by omega) hv1 h5 h6 h7
end Seat
end Go.Proofs.Ytbebpnanhkcngaa
namespace Go.Pm
open Go Go.RowKit
theorem wraps14 {x i X1 A6 C6 A12 D4 TK I1 : Nat} (hx : x < 256) (hi : i ≤ 1000) (h1 : X1 = x + 1) (h2 : A6 = x / 6) (h3 : C6 = A6 % 2) (h4 : A12 = x / 12) (h5 : D4 = A12 % 4) (h6 : TK = i + D4) (h7 : I1 = i + 1) :
    IntKind.u64.wrap (x : Int) = (x : Int) ∧ IntKind.u64.wrap ((x : Int) + 1) = (X1 : Int) ∧ IntKind.u8.wrap ((x : Int) / 6) = (A6 : Int) ∧ (A6 : Int).tmod 2 = (C6 : Int) ∧ IntKind.i64.wrap (C6 : Int) = (C6 : Int) ∧ IntKind.u8.wrap ((x : Int) / 12) = (A12 : Int) ∧ (A12 : Int).tmod 4 = (D4 : Int) ∧ IntKind.i64.wrap (D4 : Int) = (D4 : Int) ∧ IntKind.i64.wrap ((i : Int) + (D4 : Int)) = (TK : Int) ∧ IntKind.i64.wrap ((i : Int) + 1) = (I1 : Int) := by
  rw [IntKind.wrap_u64, IntKind.wrap_u64, IntKind.wrap_u8, IntKind.wrap_i64, IntKind.wrap_u8, IntKind.wrap_i64, IntKind.wrap_i64, IntKind.wrap_i64, Int.tmod_eq_emod_of_nonneg (by omega), Int.tmod_eq_emod_of_nonneg (by omega)]
  omega
theorem rty_of {P : Program} {t e : TypeId} {z : Value} {k bytes : Nat} (h1 : P.underlying t = some (.slice e)) (h2 : (P.info? e).map (fun i => (i.zero, i.size, i.bytes)) = some (some z, k, bytes)) (h3 : z.cells.size = k) (h4 : 0 < k) : RowTyK P t e z k bytes := by
  refine ⟨h1, ?_, h3, h4⟩
  cases hi : P.info? e with
  | none => rw [hi] at h2; cases h2
  | some i =>
    rw [hi] at h2
    simp only [Option.map_some, Option.some.injEq, Prod.mk.injEq] at h2
    exact ⟨i, rfl, h2⟩
theorem ps_one {k : Nat} {w : World} {g : Nat} {t : TypeId} {x : List Value} (h : Blk w g x.toArray t) (hx : x.length = k) : Ps k w 0 w.heap.size (.slice (some ⟨g, 0, none⟩) 1 1) [x] := by
  refine ⟨Each.one hx, by simp [hx], some ⟨g, 0, none⟩, 1, rfl, Nat.le_refl _, by unfold maxLen; omega, (fun h => by cases h), ?_⟩
  intro ad had i c hc
  simp only [Option.some.injEq] at had
  subst had
  refine ⟨Nat.zero_le _, h.lt, ?_⟩
  rw [Addr.add_lit, Nat.zero_add, h.cell]
  simpa using hc
end Go.Pm
namespace Go.Proofs.Ytbebpnanhkcngaa
open Go.RowKit Go.Pm
namespace Seat
/-- The next that waits. -/
def pnX (ps : List Pn) (i x : Nat) : Pn := ⟨⟨nameS x, wrap64 ((nxF (0, 0) ps (nameS x)).1 + 1), x + 1, ((x / 6 % 2 : Nat) : Int), 0, 0⟩, ((i + x / 12 % 4 : Nat) : Int), ((i + 1 : Nat) : Int), true⟩
def pendN (l : List UInt8) : Nat → List Pn
  | 0 => []
  | i + 1 => pendN l i ++ [pnX (pendN l i) i (l.getD i 0).toNat]
def pendF (l : List UInt8) : List Pn := pendN l l.length
theorem pendN_len (l : List UInt8) : ∀ i, (pendN l i).length = i
  | 0 => rfl
  | i + 1 => by rw [pendN, List.length_append, pendN_len l i]; rfl
theorem nxF_in (nm : ByteArray) (m : Int) (hm : 0 ≤ m) : ∀ (l : List Pn) (s : Int × Nat), (0 ≤ s.1 ∧ s.1 ≤ m) → (∀ x ∈ l, 0 ≤ x.u.v ∧ x.u.v ≤ m) → 0 ≤ (nxF s l nm).1 ∧ (nxF s l nm).1 ≤ m
  | [], _, hs, _ => hs
  | x :: l, s, hs, hl => by
    have e : nxF s (x :: l) nm = nxF (nxS nm s x) l nm := rfl
    rw [e]
    refine nxF_in nm m hm l _ ?_ (fun y hy => hl y (List.mem_cons_of_mem _ hy))
    unfold nxS
    split
    · exact hl x (List.mem_cons_self ..)
    · exact hs
theorem pendN_in (l : List UInt8) : ∀ i, i ≤ 1000 → ∀ x ∈ pendN l i, (1 ≤ x.u.v ∧ x.u.v ≤ (i : Int)) ∧ x.u.right = true ∧ (0 ≤ x.tick ∧ x.tick ≤ 1003) ∧ x.u.r = 0 ∧ x.u.s = 0
  | 0, _, x, hx => by cases hx
  | i + 1, hi, x, hx => by
    rw [pendN] at hx
    have ih := pendN_in l i (by omega)
    rcases List.mem_append.1 hx with h | h
    · have := ih x h
      refine ⟨⟨this.1.1, by have := this.1.2; omega⟩, this.2⟩
    · rw [List.mem_singleton.1 h]
      obtain ⟨y, hy⟩ : ∃ y, y = (l.getD i 0).toNat := ⟨_, rfl⟩
      have hy2 : y < 256 := by rw [hy]; exact (l.getD i 0).toNat_lt
      rw [← hy]
      have hn := nxF_in (nameS y) (i : Int) (by omega) (pendN l i) (0, 0) ⟨Int.le_refl _, by simp⟩ (fun z hz => ⟨by have := (ih z hz).1.1; omega, (ih z hz).1.2⟩)
      obtain ⟨m, hm⟩ : ∃ m, m = (nxF (0, 0) (pendN l i) (nameS y)).1 := ⟨_, rfl⟩
      have e : (pnX (pendN l i) i y).u = ⟨nameS y, wrap64 (m + 1), y + 1, ((y / 6 % 2 : Nat) : Int), 0, 0⟩ := by rw [hm]; rfl
      have e2 : (pnX (pendN l i) i y).tick = ((i + y / 12 % 4 : Nat) : Int) := rfl
      rw [e, e2]
      rw [← hm] at hn
      have hw : wrap64 (m + 1) = m + 1 := by unfold wrap64; omega
      have hs := nameS_size y
      refine ⟨⟨by simp only; omega, by simp only; omega⟩, ?_, ⟨by omega, by omega⟩, rfl, rfl⟩
      refine (rightB_iff _ _ _ _).2 ⟨⟨hs.1, hs.2, by simp only; omega, by simp only; omega, by simp only; omega, ?_⟩, by simp only; omega⟩
      show y + 1 < prime61
      have : (257 : Nat) < prime61 := by decide
      omega
theorem rtPen : RowTyK Try.prog 31 64 (.agg #[.string ⟨#[]⟩, .int .i64 0, .int .u64 0, .int .i64 0, .int .u64 0, .int .u64 0, .int .i64 0, .int .i64 0, .bool false]) 9 80 := rty_of (by kernel_rfl) (by kernel_rfl) (by rfl) (by decide)
set_option maxRecDepth 100000 in
set_option maxHeartbeats 8000000 in
theorem pending (v : Value) (lo hi : Nat) (l : List UInt8) (w : World) (hv : Bs w lo hi v l) (hl : l.length ≤ 1000) :
    Calls Try.prog 20 #[v] w fun en w' => ∃ u, en = .returned u ∧ Kept None w w' ∧ Po 9 64 w' w.heap.size u (pensC (pendF l)) := by
  obtain ⟨av, cv, rfl, _⟩ := hv.shape
  have HV := hid hv.all
  have HL := hid hl
  clear hv hl
  go_enter Try.func20, Try.ntmps20
  go_wp2_with fail
  go_loopg [3, 4] l.length (fun kx s3 s4 wr => ∃ (i : Nat) (ao : Option Addr) (no co : Nat), s3 = .slice ao no co ∧ s4 = .int .i64 (i : Int) ∧ i ≤ l.length ∧ l.length - i ≤ kx ∧ Hid (Kept None w wr) ∧ Hid (Po 9 64 wr w.heap.size (.slice ao no co) (pensC (pendN l i))))
  case atStart => exact ⟨0, none, 0, 0, rfl, rfl, Nat.zero_le _, Nat.le_refl _, hid (Kept.refl _ _), hid (Po.nil _ _ _ _)⟩
  case round =>
  obtain ⟨i, ao, no, co, rfl, rfl, hi, hix, HS, HO⟩ := hrel
  by_cases hlt : i < l.length
  · have hlt' : decide ((i : Int) < (l.length : Int)) = true := by simpa using hlt
    have hlb : (i : Int) < (l.length : Int) := Int.ofNat_lt.mpr hlt
    obtain ⟨b1, o1, rfl, _, hb0, hb1, hcell⟩ := (HV.out.kept HS.out (fun _ _ _ h => h)).ne (by omega)
    have hc := hcell i hlt
    obtain ⟨x, hx⟩ : ∃ x : Nat, x = (l.getD i 0).toNat := ⟨_, rfl⟩
    have hx2 : x < 256 := by rw [hx]; exact (l.getD i 0).toNat_lt
    rw [show bAt l i = (x : Int) by rw [hx]; rfl] at hc
    have HC := hid (fun W (hW : Kept None wr W) => show W.cell? ⟨b1, o1 + i, none⟩ = some (.int .u8 (x : Int)) from (hW.cell (p := ⟨b1, o1 + i, none⟩) hb1 (fun h => h)).trans hc)
    have HX := hid (And.intro hx hx2)
    have HB0 := hid hb0
    have HC0 := hid hc
    have HB1 := hid hb1
    obtain ⟨NM, hNM⟩ : ∃ n, n = nameS x := ⟨_, rfl⟩
    obtain ⟨ps, hps⟩ : ∃ p, p = pendN l i := ⟨_, rfl⟩
    have hpl : ps.length = i := by rw [hps]; exact pendN_len l i
    rw [← hps] at HO
    have hno : no = ps.length := by
      obtain ⟨a, c, h, _⟩ := (HO.out.ps (Nat.le_refl _)).form
      rw [pensC_len] at h
      injection h
    subst hno
    have hc0 := HC.out wr (Kept.refl _ _)
    have HNM := hid hNM
    have HPS := hid (And.intro hps hpl)
    obtain ⟨VV, hVV⟩ : ∃ v, v = wrap64 ((nxF (0, 0) ps NM).1 + 1) := ⟨_, rfl⟩
    obtain ⟨YY, hYY⟩ : ∃ y, y = (nxF (0, 0) ps NM).2 := ⟨_, rfl⟩
    have HNX := hid (fun (W : World) (hW : Kept None wr W) => show Calls Try.prog 31 #[.slice none 0 0, .slice ao ps.length co, .string NM] W fun en w' => en = .returned (.tuple #[.int .i64 VV, .int .u64 (YY : Int)]) ∧ Kept None W w' from by
      have h := R16.next (.slice none 0 0) (.slice ao ps.length co) 0 0 0 W.heap.size [] ps NM W (Ps.nil _ _ _ _) (((HO.out.kept hW (fun _ _ h => h)).ps (Nat.le_refl _)).wider (Nat.zero_le _) (Nat.le_refl _)) (by decide) (by have := HL.out; omega)
      rw [hVV, hYY]
      exact h)
    have HVV := hid hVV
    clear hcell hc hb0 hb1 hx hx2 hNM hps hpl hVV hYY
    go_wp2_with fail
    refine (Seat.name x wr).mono ?_
    rintro e1 w2 ⟨rfl, k2⟩
    rw [← HNM.out]
    have K2 := hid k2
    clear k2 hc0
    go_wp2_with fail
    refine (HNX.out w2 K2.out).mono ?_
    rintro e1 w3 ⟨rfl, k3⟩
    have K3 := hid (K2.out.trans k3)
    clear k3 K2
    obtain ⟨X1, hX1⟩ : ∃ a : Nat, a = x + 1 := ⟨_, rfl⟩
    obtain ⟨A6, hA6⟩ : ∃ a : Nat, a = x / 6 := ⟨_, rfl⟩
    obtain ⟨C6, hC6⟩ : ∃ a : Nat, a = A6 % 2 := ⟨_, rfl⟩
    obtain ⟨A12, hA12⟩ : ∃ a : Nat, a = x / 12 := ⟨_, rfl⟩
    obtain ⟨D4, hD4⟩ : ∃ a : Nat, a = A12 % 4 := ⟨_, rfl⟩
    obtain ⟨TK, hTK⟩ : ∃ a : Nat, a = i + D4 := ⟨_, rfl⟩
    obtain ⟨I1, hI1⟩ : ∃ a : Nat, a = i + 1 := ⟨_, rfl⟩
    have HAR := hid (wraps14 HX.out.2 (Nat.le_trans (Nat.le_of_lt hlt) HL.out) hX1 hA6 hC6 hA12 hD4 hTK hI1)
    have HPX : Hid (pnX ps i x = ⟨⟨NM, VV, X1, (C6 : Int), 0, 0⟩, (TK : Int), (I1 : Int), true⟩) := hid (by rw [hX1, hC6, hA6, hTK, hD4, hA12, hI1, HVV.out, HNM.out]; rfl)
    clear hX1 hA6 hC6 hA12 hD4 hTK hI1
    have K3x := hid (HS.out.trans K3.out)
    have HC3 := hid (fun W (hW : Kept None w3 W) => HC.out W (K3.out.trans hW))
    go_wp2_with fail
    have hs : Steady [.val 4 (.string NM), .room 20 w3.heap.size 6 43] := Go.Pm.Steady.val (Go.Pm.Steady.room Go.Pm.Steady.nil)
    refine wp_region_kn_tail 21 w3 _ hs (Kept.refl _ _) (by kernel_rfl) (by kernel_rfl) (by kernel_rfl) ?_
    simp only [List.take_succ_cons, List.take_zero, List.drop_succ_cons, List.drop_zero]
    iterate 4 (refine wpPar_pure rfl (by rfl) _ (fun W hW => by
        have c1 := HC3.out W hW
        obtain ⟨q1, q2, q3, q4, q5, q6, q7, q8, q9, q10⟩ := HAR.out
        go_simp
        exact rfl) ?_; simp only [Act.put, List.setIfInBounds_toArray, List.set_cons_zero, List.set_cons_succ])
    refine wpKn_adds hs rfl (by rfl) (fun W hW hd => ?_) (fun v4 hv => ?_)
    · unfold Gives
      go_simp
      refine gives_call (Seat.name x W) ?_
      rintro e w5 ⟨rfl, kN⟩
      rw [← HNM.out]
      exact ⟨_, rfl, kN, rfl, trivial⟩
    obtain rfl : v4 = .string NM := hv
    simp only [Act.put, List.setIfInBounds_toArray, List.set_cons_zero, List.set_cons_succ]
    iterate 15 (refine wpPar_pure rfl (by rfl) _ (fun W hW => by
        have c1 := HC3.out W hW
        obtain ⟨q1, q2, q3, q4, q5, q6, q7, q8, q9, q10⟩ := HAR.out
        go_simp
        exact rfl) ?_; simp only [Act.put, List.setIfInBounds_toArray, List.set_cons_zero, List.set_cons_succ])
    refine wpKn_adds hs rfl (by rfl) (fun W hW hd => ?_) (fun v20 hv => ?_)
    · unfold Gives
      go_simp
      exact ⟨(Kept.refl None W).alloc _, ⟨_, rfl⟩, _, _, rfl, hW.size, by rfl, Blk.new W #[.string ⟨#[]⟩, .int .i64 0, .int .u64 0, .int .i64 0, .int .u64 0, .int .u64 0] 43⟩
    obtain ⟨g, rfl⟩ : ∃ g, v20 = .pointer (some ⟨g, 0, none⟩) := hv
    simp only [Act.put, List.setIfInBounds_toArray, List.set_cons_zero, List.set_cons_succ]
    refine wpPar_nil (fun w6 hW hG => ?_)
    obtain ⟨g', z, hgg, hlo, hz6, hR⟩ : ∃ (g' : Nat) (z : Array Value), Value.pointer (some ⟨g, 0, none⟩) = .pointer (some ⟨g', 0, none⟩) ∧ w3.heap.size ≤ g' ∧ z.size = 6 ∧ Blk w6 g' z 43 := hG 20
    obtain rfl : g = g' := by injection hgg with e; injection e with e; injection e
    have K6 := hid (K3x.out.trans hW)
    have KR6 := hid (K3.out.trans hW)
    have HGR := hid (Nat.le_trans K3.out.size hlo)
    have HG6 := hid (Nat.le_trans K3x.out.size hlo)
    clear hG hs hW hgg hlo
    go_upto_region 7 with (first | (refine wpList_store_blk rfl _ _ _ rfl rfl rfl hR Up.aUpd hz6 (Up.upd_all _ _ _ _ _ _) ?_; intro w7 b7 k7) | fail)
    have HG7a := hid b7
    have K7 := hid (K6.out.then k7 (fun i hi (h : i = g) => by have := HG6.out; omega))
    have own := (HO.out.own)
    have HOW := hid (show ∀ q, (Value.slice ao ps.length co).ownBlock = some q → w.heap.size ≤ q ∧ q < wr.heap.size from HO.out.own)
    have kr7 := hid (KR6.out.then k7 (fun i hi (h : i = g) => by have := HGR.out; omega))
    have HO7 := hid (HO.out.kept kr7.out (fun _ _ h => h))
    have HC7 := hid (fun W (hW : Kept (fun q => (Value.slice ao ps.length co).ownBlock = some q) w7 W) => show W.cell? ⟨b1, o1 + i, none⟩ = some (.int .u8 (x : Int)) from (hW.cell (p := ⟨b1, o1 + i, none⟩) (Nat.lt_of_lt_of_le HB1.out kr7.out.size) (fun h => by have := (HOW.out _ h).1; have h2 : b1 < w.heap.size := HB0.out; exact absurd this (by simp only; omega))).trans (HC.out w7 kr7.out))
    have HG7 := hid (fun W (hW : Kept (fun q => (Value.slice ao ps.length co).ownBlock = some q) w7 W) => HG7a.out.kept hW (fun h => by have := (HOW.out _ h).2; have := HGR.out; omega))
    clear b7 k7 hR hz6 own
    refine wp_region_plan (Kept (fun q => (Value.slice ao ps.length co).ownBlock = some q) w7) [{ k := 14, uses := [], pure := fun u => ∃ g, u = .slice (some ⟨g, 0, none⟩) 1 1, fact := fun u W => ∃ g, u = .slice (some ⟨g, 0, none⟩) 1 1 ∧ Blk W g (penC (⟨⟨NM, VV, X1, (C6 : Int), 0, 0⟩, (TK : Int), (I1 : Int), true⟩ : Pn)).toArray 64 }, { k := 15, uses := [14, 100], spends := [14, 100], pure := fun u => ∃ a n c, u = .slice a n c, fact := fun u W => Po 9 64 W w.heap.size u (pensC (ps ++ [(⟨⟨NM, VV, X1, (C6 : Int), 0, 0⟩, (TK : Int), (I1 : Int), true⟩ : Pn)])) }, { k := 100, uses := [], fact := fun u W => Po 9 64 W w.heap.size (.slice ao ps.length co) (pensC ps) }] [100] (by kernel_rfl) (by kernel_rfl) (by kernel_rfl) (by rfl) ?pures ((Kept.refl _ w7).drew) ?starts ?walk
    case pures =>
      intro f hf
      simp only [List.mem_cons, List.not_mem_nil, or_false] at hf
      rcases hf with rfl | rfl | rfl
      · exact ⟨_, 0, rfl⟩
      · exact ⟨_, none, 0, 0, rfl⟩
      · exact ⟨undef, trivial⟩
    case starts =>
      intro k hk
      have hk : k = 100 := by simpa using hk
      subst hk
      exact HO7.out.kept ((Kept.refl None w7).drew) (fun _ _ h => h)
    iterate 1 (refine wpPar_pure rfl (by rfl) _ (fun W hW => by
        have c1 := HC7.out W hW
        obtain ⟨q1, q2, q3, q4, q5, q6, q7, q8, q9, q10⟩ := HAR.out
        go_simp
        exact rfl) ?_; simp only [Act.put, List.setIfInBounds_toArray, List.set_cons_zero, List.set_cons_succ])
    refine wpPar_pure rfl (by rfl) _ (fun W hW => by first | exact exec_load_blk _ _ rfl rfl (HG7.out W hW) Up.aUpd | (have c1 := HC7.out W hW; obtain ⟨q1, q2, q3, q4, q5, q6, q7, q8, q9, q10⟩ := HAR.out; go_simp; exact rfl)) ?_; simp only [Act.put, List.setIfInBounds_toArray, List.set_cons_zero, List.set_cons_succ]
    iterate 4 (refine wpPar_pure rfl (by rfl) _ (fun W hW => by
        have c1 := HC7.out W hW
        obtain ⟨q1, q2, q3, q4, q5, q6, q7, q8, q9, q10⟩ := HAR.out
        go_simp
        exact rfl) ?_; simp only [Act.put, List.setIfInBounds_toArray, List.set_cons_zero, List.set_cons_succ])
    refine wpPar_pure rfl (by rfl) _ (fun W hW => by first | exact exec_load_blk _ _ rfl rfl (HG7.out W hW) Up.aUpd | (have c1 := HC7.out W hW; obtain ⟨q1, q2, q3, q4, q5, q6, q7, q8, q9, q10⟩ := HAR.out; go_simp; exact rfl)) ?_; simp only [Act.put, List.setIfInBounds_toArray, List.set_cons_zero, List.set_cons_succ]
    iterate 7 (refine wpPar_pure rfl (by rfl) _ (fun W hW => by
        have c1 := HC7.out W hW
        obtain ⟨q1, q2, q3, q4, q5, q6, q7, q8, q9, q10⟩ := HAR.out
        go_simp
        exact rfl) ?_; simp only [Act.put, List.setIfInBounds_toArray, List.set_cons_zero, List.set_cons_succ])
    refine wpPar_adds rfl (by rfl) (fun W hW hd => ?_) (fun v14 hv => ?_)
    · unfold Gives
      rw [exec_one_item 31 (.tmp 57) rfl rtPen (by decide) (A := #[.string NM, .int .i64 VV, .int .u64 (X1 : Int), .int .i64 (C6 : Int), .int .u64 0, .int .u64 0, .int .i64 (TK : Int), .int .i64 (I1 : Int), .bool true]) rfl rfl]
      have kN : Kept None W (W.alloc (.cells #[.string NM, .int .i64 VV, .int .u64 (X1 : Int), .int .i64 (C6 : Int), .int .u64 0, .int .u64 0, .int .i64 (TK : Int), .int .i64 (I1 : Int), .bool true] 64)) := (Kept.refl None W).alloc _
      refine ⟨hW.then kN (fun _ _ h => h.elim), ⟨_, rfl⟩, ⟨_, rfl, Blk.new _ _ _⟩, keeps_of fun f hf hs hl hne u hfu => ?_⟩
      simp only [List.mem_cons, List.not_mem_nil, or_false] at hf
      rcases hf with rfl | rfl | rfl
      · exact absurd rfl hne
      · exact hfu.kept kN (fun _ _ h => h)
      · exact Po.kept hfu kN (fun _ _ h => h)
    obtain ⟨g14, rfl⟩ : ∃ g, v14 = .slice (some ⟨g, 0, none⟩) 1 1 := hv
    simp only [Act.put, List.setIfInBounds_toArray, List.set_cons_zero, List.set_cons_succ]
    refine wpPar_adds rfl (by rfl) (fun W hW hd => ?_) (fun v15 hv => ?_)
    · have hO : Po 9 64 W w.heap.size (.slice ao ps.length co) (pensC ps) := hd 100 (List.Mem.tail _ (List.Mem.head _))
      obtain ⟨g2, hgg, hg3⟩ : ∃ g, Value.slice (some ⟨g14, 0, none⟩) 1 1 = .slice (some ⟨g, 0, none⟩) 1 1 ∧ Blk W g (penC (⟨⟨NM, VV, X1, (C6 : Int), 0, 0⟩, (TK : Int), (I1 : Int), true⟩ : Pn)).toArray 64 := hd 14 (List.Mem.head _)
      obtain rfl : g14 = g2 := by simpa using hgg
      have hu : Ps 9 W 0 W.heap.size (.slice (some ⟨g14, 0, none⟩) 1 1) (pensC [(⟨⟨NM, VV, X1, (C6 : Int), 0, 0⟩, (TK : Int), (I1 : Int), true⟩ : Pn)]) := ps_one (x := penC (⟨⟨NM, VV, X1, (C6 : Int), 0, 0⟩, (TK : Int), (I1 : Int), true⟩ : Pn)) hg3 rfl
      refine gives_append_po _ _ 31 rfl rtPen (by decide) rfl rfl hO hu (pensC_one _) (by rw [pensC_len, pensC_len]; have := HPS.out.2; have := HL.out; simp; omega) (Nat.le_trans (show w.heap.size ≤ w7.heap.size from K7.out.size) hW.size) ?_
      intro a' n' c' W' hP kS o9
      have kN : True := trivial
      rw [← pensC_app] at hP
      refine ⟨hW.then kS (fun i hi h => h), ⟨_, _, _, rfl⟩, hP, keeps_of fun f hf hs hl hne u hfu => ?_⟩
      simp only [List.mem_cons, List.not_mem_nil, or_false] at hf
      rcases hf with rfl | rfl | rfl
      · exact absurd (List.Mem.head _) hs
      · exact absurd rfl hne
      · exact absurd (List.Mem.tail _ (List.Mem.head _)) hs
    obtain ⟨a15, n15, c15, rfl⟩ : ∃ a n c, v15 = .slice a n c := hv
    simp only [Act.put, List.setIfInBounds_toArray, List.set_cons_zero, List.set_cons_succ]
    iterate 1 (refine wpPar_pure rfl (by rfl) _ (fun W hW => by
        have c1 := HC7.out W hW
        obtain ⟨q1, q2, q3, q4, q5, q6, q7, q8, q9, q10⟩ := HAR.out
        go_simp
        exact rfl) ?_; simp only [Act.put, List.setIfInBounds_toArray, List.set_cons_zero, List.set_cons_succ])
    refine wpPar_nil (fun w8 hW hG => ?_)
    have h8 : Po 9 64 w8 w.heap.size (.slice a15 n15 c15) (pensC (ps ++ [(⟨⟨NM, VV, X1, (C6 : Int), 0, 0⟩, (TK : Int), (I1 : Int), true⟩ : Pn)])) := hG 15
    have K8 := hid (K7.out.then hW (fun q hq h => by have := (HOW.out q h).1; omega))
    have HO8 : Hid (Po 9 64 w8 w.heap.size (.slice a15 n15 c15) (pensC (pendN l (i + 1)))) := hid (by
      rw [pendN, ← HPS.out.1, ← HX.out.1, HPX.out]
      exact h8)
    have hwi : wrap64 ((i : Int) + 1) = ((i + 1 : Nat) : Int) := by have := HL.out; unfold wrap64; omega
    clear hG hW h8
    go_wp2
    go_roundg (l.length - (i + 1))
    case measure => omega
    case rel => exact ⟨i + 1, a15, n15, c15, rfl, by go_num, hlt, Nat.le_refl _, K8, HO8⟩
  · have hlt' : decide ((i : Int) < (l.length : Int)) = false := by simpa using hlt
    obtain rfl : i = l.length := by omega
    have HO2 : Hid (Po 9 64 wr w.heap.size (.slice ao no co) (pensC (pendF l))) := HO
    clear hlt hi hix HO
    go_wp2
    go_ret
    exact ⟨_, rfl, HS.out, HO2.out⟩
end Seat
end Go.Proofs.Ytbebpnanhkcngaa
namespace Go.Pm
open Go Go.RowKit
theorem file_nums {x M5 V i : Nat} (hx : x < 256) (hi : i ≤ 1000) (h1 : M5 = x % 5) (h2 : V = M5 + 1) : (x : Int).tmod 5 = (M5 : Int) ∧ IntKind.i64.wrap (M5 : Int) = (M5 : Int) ∧ IntKind.i64.wrap ((M5 : Int) + 1) = (V : Int) ∧ IntKind.i64.wrap (i : Int) = (i : Int) := by
  rw [Int.tmod_eq_emod_of_nonneg (by omega), IntKind.wrap_i64, IntKind.wrap_i64, IntKind.wrap_i64]
  omega
theorem byte_nums {x : Nat} (hx : x < 256) : wrap64 (x : Int) = (x : Int) ∧ IntKind.i64.wrap (x : Int) = (x : Int) := by
  rw [IntKind.wrap_i64]
  unfold wrap64
  omega
theorem idx_nums {i : Nat} (hi : i ≤ 1000) : wrap64 ((i : Int) + 1) = ((i + 1 : Nat) : Int) := by
  unfold wrap64
  omega
def Words (r : Rec) : Prop := r.u.r < 18446744073709551616 ∧ r.u.s < 18446744073709551616
end Go.Pm
namespace Go.Proofs.Ytbebpnanhkcngaa
open Go.RowKit Go.Pm
namespace P15
theorem aRecL : AggTy Try.prog 45 12 := Sg.AggTy.of (by kernel_rfl) (by kernel_rfl)
theorem wU (n : ByteArray) (v : Int) (cl how : Nat) : (Seat.req n v cl how).r < 18446744073709551616 ∧ (Seat.req n v cl how).s < 18446744073709551616 :=
  ⟨Nat.lt_trans (sigR_lt _ _) (by decide), Nat.lt_trans (sigS_lt _ _) (by decide)⟩
set_option maxRecDepth 100000 in
set_option maxHeartbeats 16000000 in
theorem file (gen seq : Int) (vl vm : Value) (lo hi lo' hi' : Nat) (l more : List UInt8) (w : World) (hv : Bs w lo hi vl l) (hv' : Bs w lo' hi' vm more) (hl : l.length ≤ 30) (hm : more.length ≤ 1000) :
    Calls Try.prog 9 #[.int .i64 gen, vl, vm, .int .i64 seq] w fun en w' => ∃ u X, en = .returned u ∧ Kept None w w' ∧ Ob w' w.heap.size u (baseF gen seq (Seat.pendF l) ++ X) ∧ X.length ≤ 109 * more.length := by
  obtain ⟨am, cm, rfl, _⟩ := hv'.shape
  have HPD := hid (Seat.pending vl lo hi l w hv (by omega))
  have hin := Seat.pendN_in l l.length (by omega)
  have hpl : (Seat.pendF l).length = l.length := Seat.pendN_len l _
  have hin2 : ∀ x ∈ Seat.pendF l, ((1 ≤ x.u.v ∧ x.u.v ≤ (l.length : Int)) ∧ x.u.right = true ∧ (0 ≤ x.tick ∧ x.tick ≤ 1003) ∧ x.u.r = 0 ∧ x.u.s = 0) := hin
  obtain ⟨ps, hps⟩ : ∃ ps, ps = Seat.pendF l := ⟨_, rfl⟩
  rw [← hps] at HPD hpl hin2
  rw [← hps]
  have hpf : PnFits ps := fun x hx => by rw [(hin2 x hx).2.2.2.1, (hin2 x hx).2.2.2.2]; exact ⟨by decide, by decide⟩
  have HB := hid (fun W v lo hi (h : Ps 9 W lo hi v (pensC ps)) => R12.base gen seq v lo hi ps W h hpf)
  have hbl : (baseF gen seq ps).length ≤ 4000 := by
    unfold baseF
    split
    · rw [List.length_append]
      have h1 := putJL_len (recB gen seq ps.length)
      have h2 := joinR_len (recsP seq 0 ps)
      rw [recsP_len] at h2
      omega
    · exact Nat.zero_le _
  obtain ⟨B0, hB0⟩ : ∃ b, b = baseF gen seq ps := ⟨_, rfl⟩
  rw [← hB0] at HB hbl
  rw [← hB0]
  have HBL := hid hbl
  have HV := hid hv'.all
  have HM := hid hm
  clear hv hv' hl hm hin hin2 hps hpf hpl hB0 hbl
  go_enter Try.func9, Try.ntmps9
  go_wp2_with fail
  refine HPD.out.mono ?_
  rintro e w1 ⟨u1, rfl, k1, p1⟩
  obtain ⟨a1, c1, hu⟩ := p1.form
  rw [pensC_len] at hu
  subst hu
  have K1 := hid k1
  have P1 := hid (p1.ps (Nat.le_refl _))
  clear k1 p1 HPD
  go_wp2_with fail
  refine (HB.out _ _ _ _ P1.out).mono ?_
  rintro e w2 ⟨u2, rfl, k2, b2⟩
  obtain ⟨a2, c2, rfl⟩ := b2.form
  have K2 := hid (K1.out.trans k2)
  have B2 := hid (b2.base K1.out.size)
  clear k2 b2 K1 P1 HB
  go_wp2_with fail
  go_loopg [3, 10, 11] more.length (fun kx s3 s10 s11 wr => ∃ (i : Nat) (q : Int) (a : Option Addr) (n c : Nat) (X : List UInt8), s3 = .int .i64 q ∧ s10 = .slice a n c ∧ s11 = .int .i64 (i : Int) ∧ i ≤ more.length ∧ more.length - i ≤ kx ∧ Hid (X.length ≤ 109 * i) ∧ Hid (Kept None w wr) ∧ Hid (Ob wr w.heap.size (.slice a n c) (B0 ++ X)))
  case atStart => exact ⟨0, _, a2, _, c2, [], rfl, rfl, rfl, Nat.zero_le _, Nat.le_refl _, hid (Nat.zero_le _), K2, hid (by rw [List.append_nil]; exact B2.out)⟩
  case round =>
  obtain ⟨i, q, ao, no, co, X, rfl, rfl, rfl, hi, hix, HX, HS, HO⟩ := hrel
  by_cases hlt : i < more.length
  · have hlt' : decide ((i : Int) < (more.length : Int)) = true := by simpa using hlt
    have hlb : (i : Int) < (more.length : Int) := Int.ofNat_lt.mpr hlt
    obtain ⟨b1, o1, rfl, _, hb0, hb1, hcell⟩ := (HV.out.kept HS.out (fun _ _ _ h => h)).ne (by omega)
    have hc := hcell i hlt
    obtain ⟨x, hx⟩ : ∃ x : Nat, x = (more.getD i 0).toNat := ⟨_, rfl⟩
    have hx2 : x < 256 := by rw [hx]; exact (more.getD i 0).toNat_lt
    rw [show bAt more i = (x : Int) by rw [hx]; rfl] at hc
    have HC := hid (fun W (hW : Kept None wr W) => show W.cell? ⟨b1, o1 + i, none⟩ = some (.int .u8 (x : Int)) from (hW.cell (p := ⟨b1, o1 + i, none⟩) hb1 (fun h => h)).trans hc)
    obtain ⟨NM, hNM⟩ : ∃ n, n = Seat.nameS x := ⟨_, rfl⟩
    obtain ⟨M5, hM5⟩ : ∃ m, m = x % 5 := ⟨_, rfl⟩
    obtain ⟨V, hV⟩ : ∃ m, m = M5 + 1 := ⟨_, rfl⟩
    have HAR := hid (file_nums hx2 (Nat.le_trans hi HM.out) hM5 hV)
    have hup := fun W => Seat.update NM (V : Int) 0 0 W (by rw [hNM]; exact (Seat.nameS_size x).2) (by omega) (by omega)
    have hwu := wU NM (V : Int) 0 0
    obtain ⟨⟨un, uv, uk, uc, ur, us⟩, hU⟩ : ∃ u, u = Seat.req NM (V : Int) 0 0 := ⟨_, rfl⟩
    rw [← hU] at hup hwu
    have HUP := hid (show ∀ W, Calls Try.prog 21 #[.string NM, .int .i64 (V : Int), .int .u8 0, .int .u8 0] W fun e w' => e = .returned (.agg #[.string un, .int .i64 uv, .int .u64 (uk : Int), .int .i64 uc, .int .u64 (ur : Int), .int .u64 (us : Int)]) ∧ Kept None W w' from hup)
    have HWU := hid (show Words (⟨2, q, 0, 0, ⟨un, uv, uk, uc, ur, us⟩, (i : Int), 0⟩ : Rec) from hwu)
    have HNM := hid hNM
    have HX2 := hid hx2
    clear hcell hc hb0 hx hx2 hNM hM5 hV hup hwu hU
    go_wp2_with fail
    have hs : Steady [.val 5 (.string NM), .val 13 (.agg #[.string un, .int .i64 uv, .int .u64 (uk : Int), .int .i64 uc, .int .u64 (ur : Int), .int .u64 (us : Int)]), .room 16 wr.heap.size 12 45] := Go.Pm.Steady.val (Go.Pm.Steady.val (Go.Pm.Steady.room Go.Pm.Steady.nil))
    refine wp_region_kn_tail 17 wr _ hs (Kept.refl _ _) (by kernel_rfl) (by kernel_rfl) (by kernel_rfl) ?_
    simp only [List.take_succ_cons, List.take_zero, List.drop_succ_cons, List.drop_zero]
    iterate 5 (refine wpPar_pure rfl (by rfl) _ (fun W hW => by
        have c1 := HC.out W hW
        obtain ⟨q1, q2, q3, q4⟩ := HAR.out
        go_simp
        exact rfl) ?_; simp only [Act.put, List.setIfInBounds_toArray, List.set_cons_zero, List.set_cons_succ])
    refine wpKn_adds hs rfl (by rfl) (fun W hW hd => ?_) (fun v5 hv => ?_)
    · unfold Gives
      go_simp
      refine gives_call (Seat.name x W) ?_
      rintro e w5 ⟨rfl, kN⟩
      rw [← HNM.out]
      exact ⟨_, rfl, kN, rfl, trivial⟩
    obtain rfl : v5 = .string NM := hv
    simp only [Act.put, List.setIfInBounds_toArray, List.set_cons_zero, List.set_cons_succ]
    iterate 7 (refine wpPar_pure rfl (by rfl) _ (fun W hW => by
        have c1 := HC.out W hW
        obtain ⟨q1, q2, q3, q4⟩ := HAR.out
        go_simp
        exact rfl) ?_; simp only [Act.put, List.setIfInBounds_toArray, List.set_cons_zero, List.set_cons_succ])
    refine wpKn_adds hs rfl (by rfl) (fun W hW hd => ?_) (fun v13 hv => ?_)
    · unfold Gives
      go_simp
      refine gives_call (HUP.out W) ?_
      rintro e w5 ⟨rfl, kN⟩
      exact ⟨_, rfl, kN, rfl, trivial⟩
    obtain rfl : v13 = (.agg #[.string un, .int .i64 uv, .int .u64 (uk : Int), .int .i64 uc, .int .u64 (ur : Int), .int .u64 (us : Int)]) := hv
    simp only [Act.put, List.setIfInBounds_toArray, List.set_cons_zero, List.set_cons_succ]
    iterate 2 (refine wpPar_pure rfl (by rfl) _ (fun W hW => by
        have c1 := HC.out W hW
        obtain ⟨q1, q2, q3, q4⟩ := HAR.out
        go_simp
        exact rfl) ?_; simp only [Act.put, List.setIfInBounds_toArray, List.set_cons_zero, List.set_cons_succ])
    refine wpKn_adds hs rfl (by rfl) (fun W hW hd => ?_) (fun v16 hv => ?_)
    · unfold Gives
      go_simp
      exact ⟨(Kept.refl None W).alloc _, ⟨_, rfl⟩, _, _, rfl, hW.size, by rfl, Blk.new W #[.int .i64 0, .int .i64 0, .int .i64 0, .int .i64 0, .string ⟨#[]⟩, .int .i64 0, .int .u64 0, .int .i64 0, .int .u64 0, .int .u64 0, .int .i64 0, .int .i64 0] 45⟩
    obtain ⟨g, rfl⟩ : ∃ g, v16 = .pointer (some ⟨g, 0, none⟩) := hv
    simp only [Act.put, List.setIfInBounds_toArray, List.set_cons_zero, List.set_cons_succ]
    refine wpPar_nil (fun w6 hW hG => ?_)
    obtain ⟨g', z, hgg, hlo, hz6, hR⟩ : ∃ (g' : Nat) (z : Array Value), Value.pointer (some ⟨g, 0, none⟩) = .pointer (some ⟨g', 0, none⟩) ∧ wr.heap.size ≤ g' ∧ z.size = 12 ∧ Blk w6 g' z 45 := hG 16
    obtain rfl : g = g' := by injection hgg with e; injection e with e; injection e
    have K6 := hid hW
    have HGR := hid hlo
    clear hG hs hW hgg hlo
    go_upto_region 8 with (first | (refine wpList_store_blk rfl _ _ _ rfl rfl rfl hR aRecL hz6 (Rec.C_one (⟨2, q, 0, 0, ⟨un, uv, uk, uc, ur, us⟩, (i : Int), 0⟩ : Rec)) ?_; intro w7 b7 k7) | fail)
    have HG := hid (show wr.heap.size ≤ g from HGR.out)
    have K7 := hid (K6.out.then k7 (fun q hq (h : q = g) => by have := HG.out; omega))
    have HC7 := hid (fun W (hW : Kept (Just g) w7 W) => show W.cell? ⟨b1, o1 + i, none⟩ = some (.int .u8 (x : Int)) from (hW.cell (p := ⟨b1, o1 + i, none⟩) (Nat.lt_of_lt_of_le hb1 K7.out.size) (fun (h : b1 = g) => by have := HG.out; omega)).trans (HC.out w7 K7.out))
    have B7 := hid b7
    have hc8 := HC7.out w7 (Kept.refl _ _)
    obtain ⟨M4, hM4⟩ : ∃ m, m = x % 4 := ⟨_, rfl⟩
    have r4 : (x : Int) % 4 = (M4 : Int) := by rw [hM4]; simp
    obtain ⟨bz, hbz⟩ : ∃ z : Bool, z = ((M4 : Int) == 0) := ⟨_, rfl⟩
    have t4 := hbz.symm
    clear k7 b7 hR hM4 hbz K6 HGR hz6 z
    go_upto_if 53 with fail
    (try simp only [r4])
    clear r4 t4 hc8
    go_cut [12] (fun s12 wx => s12 = .pointer (some ⟨g, 0, none⟩) ∧ ∃ r : Rec, Hid (Words r) ∧ Hid (Blk wx g r.C 45) ∧ Hid (Kept (Just g) w7 wx))
    case first =>
      cases bz with
      | false =>
        go_wp2_with fail
        go_meet
        exact ⟨rfl, _, HWU, B7, hid (Kept.refl _ _)⟩
      | true =>
        have hc8 := HC7.out w7 (Kept.refl _ _)
        have bn := (byte_nums HX2.out).1
        obtain ⟨EP, hEP⟩ : ∃ m, m = wrap64 ((x : Int) + 1) := ⟨_, rfl⟩
        have rE := hEP.symm
        have b7 := B7.out
        clear hEP
        go_wp2_with (first | (refine wpList_store_blk rfl _ _ _ rfl rfl rfl b7 aRecL rfl (Rec.C_one (⟨3, q, 0, 0, Req.none, 0, EP⟩ : Rec)) ?_; intro w8 b8 k8) | fail)
        go_meet
        exact ⟨rfl, ⟨3, q, 0, 0, Req.none, 0, EP⟩, hid ⟨by show (0 : Nat) < _; decide, by show (0 : Nat) < _; decide⟩, hid b8, hid k8⟩
    case rest =>
    obtain ⟨rfl, ⟨y0, y1, y2, y3, ⟨yn, yv, yk, yc, yr, ys⟩, yt, ye⟩, HWY, BY, KY⟩ := hcut
    obtain ⟨w9, rfl⟩ : ∃ w9 : World, w9 = wc := ⟨_, rfl⟩
    have hc9 := HC7.out w9 KY.out
    obtain ⟨M9, hM9⟩ : ∃ m, m = x % 29 := ⟨_, rfl⟩
    have r9 : (x : Int) % 29 = (M9 : Int) := by rw [hM9]; simp
    obtain ⟨bz, hbz⟩ : ∃ z : Bool, z = ((M9 : Int) == 28) := ⟨_, rfl⟩
    have t9 := hbz.symm
    clear hM9 hbz
    go_upto_if 67 with fail
    (try simp only [r9])
    clear r9 t9 hc9
    go_cut [12] (fun s12 wx => s12 = .pointer (some ⟨g, 0, none⟩) ∧ ∃ sq : Int, Hid (Blk wx g ((⟨y0, sq, y2, y3, ⟨yn, yv, yk, yc, yr, ys⟩, yt, ye⟩ : Rec)).C 45) ∧ Hid (Kept (Just g) w7 wx))
    case first =>
      cases bz with
      | false =>
        go_wp2_with fail
        go_meet
        exact ⟨rfl, y1, BY, KY⟩
      | true =>
        have by9 := BY.out
        have cc : w9.cell? ⟨g, 1, none⟩ = some (.int .i64 y1) := by9.cell 1
        have ff := by9.free 1
        obtain ⟨QY, hQY⟩ : ∃ m, m = wrap64 (y1 + 2) := ⟨_, rfl⟩
        have rQ := hQY.symm
        clear hQY by9
        go_wp2_with fail
        go_meet
        exact ⟨rfl, QY, hid (BY.out.set 1 (.int .i64 QY)), hid (KY.out.trans (Kept.one w9 g 1 _))⟩
    case rest =>
    obtain ⟨rfl, sq, BZ, KZ⟩ := hcut
    obtain ⟨w10, rfl⟩ : ∃ w10 : World, w10 = wc := ⟨_, rfl⟩
    have hwz : Words (⟨y0, sq, y2, y3, ⟨yn, yv, yk, yc, yr, ys⟩, yt, ye⟩ : Rec) := HWY.out
    have HPU := hid (fun W => R12.rput (⟨y0, sq, y2, y3, ⟨yn, yv, yk, yc, yr, ys⟩, yt, ye⟩ : Rec) W hwz)
    have hTl := putJL_len (⟨y0, sq, y2, y3, ⟨yn, yv, yk, yc, yr, ys⟩, yt, ye⟩ : Rec)
    obtain ⟨TT, hTT⟩ : ∃ t, t = putJL (⟨y0, sq, y2, y3, ⟨yn, yv, yk, yc, yr, ys⟩, yt, ye⟩ : Rec) := ⟨_, rfl⟩
    obtain ⟨EE, hEE⟩ : ∃ t, t = putJE (⟨y0, sq, y2, y3, ⟨yn, yv, yk, yc, yr, ys⟩, yt, ye⟩ : Rec) := ⟨_, rfl⟩
    rw [← hTT, ← hEE] at HPU
    rw [← hTT] at hTl
    unfold Rec.V Rec.C at HPU
    have HTL := hid hTl
    have bz := BZ.out
    have K10 := hid (show Kept None wr w10 from K7.out.then KZ.out (fun q hq (h : q = g) => by have := HG.out; omega))
    clear hwz hTl hTT hEE
    go_wp2_with (first | (refine wpList_load_blk rfl _ _ rfl rfl bz aRecL ?_) | fail)
    refine (HPU.out _).mono ?_
    rintro e w11 ⟨u11, rfl, k11, b11⟩
    obtain ⟨a11, c11, rfl⟩ := b11.form
    have hu := b11.bs (Nat.le_refl _)
    have K11 := hid (K10.out.trans k11)
    have hb := HO.out.kept K11.out (fun _ _ h => h)
    have hln : (B0 ++ X).length + TT.length ≤ 140737488355328 := by have := HBL.out; have := HX.out; have := HTL.out; have := HM.out; rw [List.length_append]; omega
    have KW := hid (HS.out.trans K11.out)
    have hsz := KW.out.size
    have HU := hid hu
    clear k11 b11 bz hu
    have hu := HU.out
    go_wp2_with (first | (refine wpList_append_bo rfl _ _ 22 rfl rtBytes rfl rfl hb hu hln hsz ?_; intro a8 n8 c8 w12 hB12 hK12) | fail)
    have K12 := hid (KW.out.then hK12 (fun q hq h => Nat.lt_irrefl _ (Nat.lt_of_lt_of_le hq (hb.own q h).1)))
    have HB12 : Hid (Ob w12 w.heap.size (.slice a8 n8 c8) (B0 ++ (X ++ TT))) := hid (by rw [← List.append_assoc]; exact hB12)
    have HX12 : Hid ((X ++ TT).length ≤ 109 * (i + 1)) := hid (by rw [List.length_append]; have := HX.out; have := HTL.out; omega)
    have HW := hid (idx_nums (i := i) (Nat.le_trans hi HM.out))
    clear hb hu hln hsz hB12 hK12
    (try go_wp2_with fail)
    go_roundg (more.length - (i + 1))
    case measure => omega
    case rel => exact ⟨i + 1, _, a8, n8, c8, X ++ TT, rfl, rfl, by first | rfl | rw [HW.out] | simp, hlt, Nat.le_refl _, HX12, K12, HB12⟩
  · have hlt' : decide ((i : Int) < (more.length : Int)) = false := by simpa using hlt
    obtain rfl : i = more.length := by omega
    clear hlt hi hix
    go_wp2_with fail
    go_ret
    exact ⟨_, _, rfl, HS.out, HO.out, HX.out⟩
end P15
end Go.Proofs.Ytbebpnanhkcngaa
namespace Go.Pm
open Go Go.RowKit
theorem wrapB {n : Nat} (h : n < 70000) : wrap64 (n : Int) = (n : Int) ∧ IntKind.i64.wrap (n : Int) = (n : Int) := by
  rw [IntKind.wrap_i64]
  unfold wrap64
  omega
end Go.Pm
namespace Go.Proofs.Ytbebpnanhkcngaa
open Go.RowKit Go.Pm
namespace P15
open Sn
/-- The seat's pendings, as the laws' journals have them. -/
theorem pend_facts (l : List UInt8) (h : l.length ≤ 30) (s : Int) (hs : 0 ≤ s ∧ s < 65536) : (Seat.pendF l).length = l.length ∧ allR (recsP s 0 (Seat.pendF l)) = true ∧ PnFits (Seat.pendF l) := by
  have hin : ∀ x ∈ Seat.pendF l, ((1 ≤ x.u.v ∧ x.u.v ≤ (l.length : Int)) ∧ x.u.right = true ∧ (0 ≤ x.tick ∧ x.tick ≤ 1003) ∧ x.u.r = 0 ∧ x.u.s = 0) := Seat.pendN_in l l.length (by omega)
  have hpl : (Seat.pendF l).length = l.length := Seat.pendN_len l _
  refine ⟨hpl, allR_yes15 hs _ 0 (by omega) (fun x hx => ⟨(hin x hx).2.1, (hin x hx).2.2.1⟩), fun x hx => ?_⟩
  rw [(hin x hx).2.2.2.1, (hin x hx).2.2.2.2]
  exact ⟨by decide, by decide⟩
theorem baseF_le (gen s : Int) (l : List Pn) (h : l.length ≤ 30) : (baseF gen s l).length ≤ 4000 := by
  unfold baseF
  split
  · rw [List.length_append]
    have h1 := putJL_len (recB gen s l.length)
    have h2 := joinR_len (recsP s 0 l)
    rw [recsP_len] at h2
    omega
  · exact Nat.zero_le _
set_option maxRecDepth 100000 in
set_option maxHeartbeats 16000000 in
theorem newest (hR : RecordsC) (hW : WholeC) (hC : ChooseC) (vl vm : Value) (lo hi lo' hi' : Nat) (l m : List UInt8) (a b cut which : Nat) (w : World) (hv : Bs w lo hi vl l) (hv' : Bs w lo' hi' vm m) (ha : a < 256) (hb : b < 256) (hcut : cut < 65536) :
    Calls Try.prog 7 #[vl, vm, .int .u8 (a : Int), .int .u8 (b : Int), .int .u16 (cut : Int), .int .u8 (which : Int)] w fun e w' => e = .returned (.bool true) ∧ Kept None w w' := by
  obtain ⟨al, cl, rfl, _⟩ := hv.shape
  obtain ⟨am, cm, rfl, _⟩ := hv'.shape
  have HK := hid (fun W => known hR hW hC W)
  by_cases hout : 8 < l.length ∨ 8 < m.length
  · by_cases h1 : 8 < l.length
    · have x1 : decide ((8 : Int) < (l.length : Int)) = true := by simp; omega
      have x2 : decide (8 < l.length) = true := by simpa using h1
      clear hout h1 hv hv' hR hW hC ha hb hcut
      go_enter Try.func7, Try.ntmps7
      go_wp2_with fail
      refine (HK.out w).mono ?_
      rintro e w1 ⟨rfl, k1⟩
      clear HK
      go_wp2_with (first | go_skip | fail)
      go_ret
      exact ⟨rfl, k1⟩
    · have x1 : decide ((8 : Int) < (l.length : Int)) = false := by simp; omega
      have x2 : decide (8 < l.length) = false := by simpa using h1
      have x3 : decide ((8 : Int) < (m.length : Int)) = true := by simp; omega
      have x4 : decide (8 < m.length) = true := by simp; omega
      clear hout h1 hv hv' hR hW hC ha hb hcut
      go_enter Try.func7, Try.ntmps7
      go_wp2_with fail
      refine (HK.out w).mono ?_
      rintro e w1 ⟨rfl, k1⟩
      clear HK
      go_wp2_with (first | go_skip | fail)
      go_ret
      exact ⟨rfl, k1⟩
  · have x1 : decide ((8 : Int) < (l.length : Int)) = false := by simp; omega
    have x2 : decide (8 < l.length) = false := by simp; omega
    have x3 : decide ((8 : Int) < (m.length : Int)) = false := by simp; omega
    have x4 : decide (8 < m.length) = false := by simp; omega
    have hl8 : l.length ≤ 8 := by omega
    have hm8 : m.length ≤ 8 := by omega
    have qa := (wrapB (n := a) (by omega)).1
    have qb := (wrapB (n := b) (by omega)).1
    have qc := (wrapB (n := cut) (by omega)).1
    obtain ⟨p1, p2, p3⟩ := pend_facts l (by omega) 0 (by omega)
    obtain ⟨q1, q2, q3⟩ := pend_facts m (by omega) 7 (by omega)
    have hfx := fun W (hW : Kept None w W) => file (a : Int) 0 (.slice al l.length cl) (.slice none 0 0) lo hi 0 0 l [] W (hv.kept hW (fun _ _ _ h => h)) (Bs.nil _ _ _) (by omega) (by decide)
    have hfy := fun W (hW : Kept None w W) => file (b : Int) 7 (.slice am m.length cm) (.slice none 0 0) lo' hi' 0 0 m [] W (hv'.kept hW (fun _ _ _ h => h)) (Bs.nil _ _ _) (by omega) (by decide)
    obtain ⟨ps, hps⟩ : ∃ ps, ps = Seat.pendF l := ⟨_, rfl⟩
    obtain ⟨qs, hqs⟩ : ∃ qs, qs = Seat.pendF m := ⟨_, rfl⟩
    rw [← hps] at p1 p2 p3 hfx
    rw [← hqs] at q1 q2 q3 hfy
    have p0 : rightJ (recB (a : Int) 0 ps.length) = true := recB_yes15 (by omega) (by omega) (by omega)
    have q0 : rightJ (recB (b : Int) 7 qs.length) = true := recB_yes15 (by omega) (by omega) (by omega)
    have hwx := whole_base0 p0 p2 p3
    have hwy := whole_base0 q0 q2 q3
    have hc1 := choose_two hwx hwy
    have hlx := baseF_le (a : Int) 0 ps (by omega)
    have hly := baseF_le (b : Int) 7 qs (by omega)
    have hgx := baseF_len p0 p2
    obtain ⟨K, hK⟩ : ∃ K, K = cut % (baseF (a : Int) 0 ps).length := ⟨_, rfl⟩
    have hKl : K < (baseF (a : Int) 0 ps).length := by rw [hK]; exact Nat.mod_lt _ (by omega)
    have hkx := (cut_base p0 p2 p3 hKl).1
    have hc2 := choose_no hkx hwy.1
    have hc3 := choose_none hkx hkx
    obtain ⟨X, hX⟩ : ∃ x, x = baseF (a : Int) 0 ps := ⟨_, rfl⟩
    obtain ⟨Y, hY⟩ : ∃ x, x = baseF (b : Int) 7 qs := ⟨_, rfl⟩
    rw [← hX] at hfx hc1 hlx hgx hK hKl hc2 hc3
    rw [← hY] at hfy hc1 hly hc2
    obtain ⟨WT, hWT⟩ : ∃ z : Int, z = if (a : Int) < (b : Int) then 1 else 0 := ⟨_, rfl⟩
    rw [← hWT] at hc1
    have HFX := hid (fun W hW => show Calls Try.prog 9 #[.int .i64 (a : Int), .slice al l.length cl, .slice none 0 0, .int .i64 0] W fun e w' => ∃ u, e = .returned u ∧ Kept None W w' ∧ Ob w' W.heap.size u X from (hfx W hW).mono (by
      rintro e w' ⟨u, Z, h1, h2, h3, h4⟩
      obtain rfl : Z = [] := List.eq_nil_of_length_eq_zero (Nat.le_zero.1 h4)
      rw [List.append_nil] at h3
      exact ⟨u, h1, h2, h3⟩))
    have HFY := hid (fun W hW => show Calls Try.prog 9 #[.int .i64 (b : Int), .slice am m.length cm, .slice none 0 0, .int .i64 7] W fun e w' => ∃ u, e = .returned u ∧ Kept None W w' ∧ Ob w' W.heap.size u Y from (hfy W hW).mono (by
      rintro e w' ⟨u, Z, h1, h2, h3, h4⟩
      obtain rfl : Z = [] := List.eq_nil_of_length_eq_zero (Nat.le_zero.1 h4)
      rw [List.append_nil] at h3
      exact ⟨u, h1, h2, h3⟩))
    have HC1 := hid (fun W v v' lo hi lo' hi' (h : Bs W lo hi v X) (h' : Bs W lo' hi' v' Y) => show Calls Try.prog 16 #[v, v'] W fun e w' => e = .returned (.tuple #[.int .i64 WT, .bool true]) ∧ Kept None W w' from by
      have h1 := hC v v' lo hi lo' hi' X Y W h h' (by omega) (by omega)
      rw [hc1] at h1
      exact h1)
    have HC2 := hid (fun W v v' lo hi lo' hi' (h : Bs W lo hi v (X.take K)) (h' : Bs W lo' hi' v' Y) => show Calls Try.prog 16 #[v, v'] W fun e w' => e = .returned (.tuple #[.int .i64 1, .bool true]) ∧ Kept None W w' from by
      have h1 := hC v v' lo hi lo' hi' (X.take K) Y W h h' (by rw [List.length_take]; omega) (by omega)
      rw [hc2] at h1
      exact h1)
    have HC3 := hid (fun W v v' lo hi lo' hi' (h : Bs W lo hi v (X.take K)) (h' : Bs W lo' hi' v' (X.take K)) => show Calls Try.prog 16 #[v, v'] W fun e w' => e = .returned (.tuple #[.int .i64 0, .bool false]) ∧ Kept None W w' from by
      have h1 := hC v v' lo hi lo' hi' (X.take K) (X.take K) W h h' (by rw [List.length_take]; omega) (by rw [List.length_take]; omega)
      rw [hc3] at h1
      exact h1)
    have r5 : (cut : Int) % (X.length : Int) = (K : Int) := by rw [hK]; simp
    have hD1 : ((X.length : Int) == 0) = false := by
      have : ¬ X.length = 0 := by omega
      simpa using this
    have hD2 : ¬ (X.length : Int) = 0 := by omega
    have qx := (wrapB (n := X.length) (by omega)).1
    have HXL := hid (And.intro r5 (And.intro hD1 (And.intro hD2 qx)))
    have HKL := hid hKl
    obtain ⟨bz, hbz⟩ : ∃ z : Bool, z = decide ((a : Int) < (b : Int)) := ⟨_, rfl⟩
    have HWT : Hid (WT = if bz = true then 1 else 0) := hid (by rw [hWT, hbz]; simp)
    have t1 : decide ((a : Int) < (b : Int)) = bz := hbz.symm
    have t2 : decide (a < b) = bz := by rw [hbz, Bool.eq_iff_iff, decide_eq_true_iff, decide_eq_true_iff]; omega
    have HT := hid (And.intro t1 t2)
    clear hout hl8 hm8 p1 p2 p3 q1 q2 q3 hfx hfy hps hqs p0 q0 hwx hwy hc1 hlx hly hgx hK hKl hkx hc2 hc3 hX hY hWT r5 hD1 hD2 qx hbz t1 t2 hv hv' ha hb hcut hR hW hC
    go_enter Try.func7, Try.ntmps7
    go_wp2_with fail
    refine (HK.out w).mono ?_
    rintro e w1 ⟨rfl, k1⟩
    have K1 := hid k1
    clear HK k1
    go_wp2_with (first | go_skip | fail)
    clear x1 x2 x3 x4
    refine (HFX.out w1 K1.out).mono ?_
    rintro e w2 ⟨u2, rfl, k2, b2⟩
    obtain ⟨a2, c2, rfl⟩ := b2.form
    have K2 := hid (K1.out.trans k2)
    have B2 := hid (b2.bs (Nat.le_refl _)).all
    clear k2 b2 K1 HFX
    go_wp2_with fail
    refine (HFY.out w2 K2.out).mono ?_
    rintro e w3 ⟨u3, rfl, k3, b3⟩
    obtain ⟨a3, c3, rfl⟩ := b3.form
    have K3 := hid (K2.out.trans k3)
    have BX3 := hid (B2.out.kept k3 (fun _ _ _ h => h))
    have BY3 := hid (b3.bs (Nat.le_refl _)).all
    clear k3 b3 K2 B2 HFY qa qb
    go_wp2_with fail
    refine (HC1.out _ _ _ _ _ _ _ BX3.out BY3.out).mono ?_
    rintro e w4 ⟨rfl, k4⟩
    have K4 := hid (K3.out.trans k4)
    have BX4 := hid (BX3.out.kept k4 (fun _ _ _ h => h))
    have BY4 := hid (BY3.out.kept k4 (fun _ _ _ h => h))
    clear k4 K3 BX3 BY3 HC1
    obtain ⟨t1, t2⟩ := HT.out
    go_upto_if 46 with fail
    (try simp only [t1, t2])
    go_cut [17] (fun s17 wx => s17 = .int .i64 WT ∧ Hid (wx = w4))
    case first =>
      cases bz with
      | false =>
        obtain rfl : WT = 0 := HWT.out
        clear t1 t2
        go_wp2_with fail
        go_meet
        exact ⟨rfl, hid rfl⟩
      | true =>
        obtain rfl : WT = 1 := HWT.out
        clear t1 t2
        go_wp2_with fail
        go_meet
        exact ⟨rfl, hid rfl⟩
    case rest =>
    obtain ⟨rfl, hw4⟩ := hcut
    obtain ⟨w5, hw5⟩ : ∃ w5 : World, w5 = wc := ⟨_, rfl⟩
    have K5 := hid (show Kept None w w5 by rw [hw5, hw4.out]; exact K4.out)
    have BX5 := hid (show Bs w5 0 w4.heap.size (.slice a2 X.length c2) X by rw [hw5, hw4.out]; exact BX4.out.all)
    have BY5 := hid (show Bs w5 0 w4.heap.size (.slice a3 Y.length c3) Y by rw [hw5, hw4.out]; exact BY4.out.all)
    rw [← hw5]
    obtain ⟨x8, sl8, p8⟩ := slice_to tBytes zBytes BX5.out .i64 (K : Int) (Int.natCast_nonneg _) (by have := HKL.out; omega)
    simp only [Int.toNat_natCast] at sl8 p8
    rw [← List.map_take] at p8
    obtain ⟨r5, hD1, hD2, qx⟩ := HXL.out
    have hkk : (K : Int) < (X.length : Int) := Int.ofNat_lt.mpr HKL.out
    have BK5 := hid (show Bs w5 0 w4.heap.size (.slice x8 K c2) (X.take K) from p8)
    clear p8 t1 t2 hw4 hw5 K4 BX4 BY4 HT HWT HXL
    go_wp2_with (first | go_skip | fail)
    clear sl8 r5 hD1 hD2 qx qc hkk
    refine (HC2.out _ _ _ _ _ _ _ BK5.out BY5.out).mono ?_
    rintro e w6 ⟨rfl, k6⟩
    have K6 := hid (K5.out.trans k6)
    have BK6 := hid (BK5.out.kept k6 (fun _ _ _ h => h))
    clear k6 K5 BK5 BY5 HC2
    go_wp2_with fail
    refine (HC3.out _ _ _ _ _ _ _ BK6.out BK6.out).mono ?_
    rintro e w7 ⟨rfl, k7⟩
    have K7 := hid (K6.out.trans k7)
    clear k7 K6 BK6 HC3
    go_wp2_with (first | go_skip | fail)
    go_ret
    exact ⟨rfl, K7.out⟩
end P15
end Go.Proofs.Ytbebpnanhkcngaa
namespace Go.Pm
open Go Go.RowKit
theorem results_tmp5 {fn : Func} {a b c d e : Tmp} (h : fn.results = #[.tmp a, .tmp b, .tmp c, .tmp d, .tmp e]) (tmps : Array Value) (P : Program) (w : World) :
    (results fn tmps).run P w = .ok (.tuple #[tmps.getD a undef, tmps.getD b undef, tmps.getD c undef, tmps.getD d undef, tmps.getD e undef]) w := by
  simp [results, h]
theorem or_i64 (M k : Nat) (hM : 2 ^ k = M) (h64 : M ≤ 18446744073709551616) (x y : Int) (h0 : 0 ≤ x) (h1 : x < M) (h2 : 0 ≤ y) (h3 : x + y * M < 9223372036854775808) : bits .or .i64 x (y * M) = x + y * M := by
  have h := or_join M k hM h64 x y h0 h1 h2 (by omega)
  have e1 : bits .or .i64 x (y * M) = IntKind.i64.wrap ((BitVec.ofInt 64 x ||| BitVec.ofInt 64 (y * M)).toNat : Int) := rfl
  have e2 : bits .or .u64 x (y * M) = IntKind.u64.wrap ((BitVec.ofInt 64 x ||| BitVec.ofInt 64 (y * M)).toNat : Int) := rfl
  have hlt := (BitVec.ofInt 64 x ||| BitVec.ofInt 64 (y * M)).isLt
  rw [e2, IntKind.wrap_u64] at h
  rw [e1, IntKind.wrap_i64]
  omega
theorem wrapI (x : Int) (h0 : -9223372036854775808 ≤ x) (h1 : x < 9223372036854775808) : IntKind.i64.wrap x = x := by rw [IntKind.wrap_i64]; omega
theorem wrapIn (x : Int) (h0 : -9223372036854775808 ≤ x) (h1 : x < 9223372036854775808) : wrap64 x = x := by unfold wrap64; omega
/-- Four bytes, each shifted to its place. -/
theorem or_four (x0 x1 x2 x3 : Int) (a0 : 0 ≤ x0) (b0 : x0 < 256) (a1 : 0 ≤ x1) (b1 : x1 < 256) (a2 : 0 ≤ x2) (b2 : x2 < 256) (a3 : 0 ≤ x3) (b3 : x3 < 256) :
    bits .or .i64 (bits .or .i64 (bits .or .i64 x0 (x1 * 256)) (x2 * 65536)) (x3 * 16777216) = x0 + x1 * 256 + x2 * 65536 + x3 * 16777216 := by
  have e1 : bits .or .i64 x0 (x1 * 256) = x0 + x1 * 256 := or_i64 256 8 rfl (by decide) x0 x1 (by omega) (by omega) (by omega) (by omega)
  have e2 : bits .or .i64 (x0 + x1 * 256) (x2 * 65536) = x0 + x1 * 256 + x2 * 65536 := or_i64 65536 16 rfl (by decide) (x0 + x1 * 256) x2 (by omega) (by omega) (by omega) (by omega)
  have e3 : bits .or .i64 (x0 + x1 * 256 + x2 * 65536) (x3 * 16777216) = x0 + x1 * 256 + x2 * 65536 + x3 * 16777216 := or_i64 16777216 24 rfl (by decide) (x0 + x1 * 256 + x2 * 65536) x3 (by omega) (by omega) (by omega) (by omega)
  rw [e1, e2, e3]
theorem four_bytes (b : List UInt8) : bits .or .i64 (bits .or .i64 (bits .or .i64 (IntKind.i64.wrap (bAt b 0)) (IntKind.i64.wrap (IntKind.i64.wrap (bAt b 1) * 256))) (IntKind.i64.wrap (IntKind.i64.wrap (bAt b 2) * 65536))) (IntKind.i64.wrap (IntKind.i64.wrap (bAt b 3) * 16777216)) = le4V b := by
  have y0 := bAt_ge b 0
  have y1 := bAt_ge b 1
  have y2 := bAt_ge b 2
  have y3 := bAt_ge b 3
  have z0 := bAt_lt b 0
  have z1 := bAt_lt b 1
  have z2 := bAt_lt b 2
  have z3 := bAt_lt b 3
  have w0 : IntKind.i64.wrap (bAt b 0) = bAt b 0 := wrapI _ (by omega) (by omega)
  have w1 : IntKind.i64.wrap (bAt b 1) = bAt b 1 := wrapI _ (by omega) (by omega)
  have w2 : IntKind.i64.wrap (bAt b 2) = bAt b 2 := wrapI _ (by omega) (by omega)
  have w3 : IntKind.i64.wrap (bAt b 3) = bAt b 3 := wrapI _ (by omega) (by omega)
  rw [w0, w1, w2, w3]
  clear w0 w1 w2 w3
  rw [wrapI (bAt b 1 * 256) (by omega) (by omega), wrapI (bAt b 2 * 65536) (by omega) (by omega), wrapI (bAt b 3 * 16777216) (by omega) (by omega), or_four _ _ _ _ y0 z0 y1 z1 y2 z2 y3 z3]
  rfl
theorem lt_lit {S : Nat} (h : 9223372036854775807 < S) : decide ((9223372036854775807 : Int) < (S : Int)) = true ∧ decide (9223372036854775807 < S) = true := ⟨by simp; omega, by simpa using h⟩
theorem le_lit {S : Nat} (h : ¬ 9223372036854775807 < S) : decide ((9223372036854775807 : Int) < (S : Int)) = false ∧ decide (9223372036854775807 < S) = false := ⟨by simp; omega, by simpa using h⟩
theorem sums13 {M P Q : Nat} (h : M ≤ 4096) (hP : P = 13 + M) (hQ : Q = 21 + M) : (wrap64 (13 + (M : Int)) = (P : Int) ∧ wrap64 ((P : Int) + 8) = (Q : Int) ∧ wrap64 (21 + (M : Int)) = (Q : Int)) ∧ IntKind.i64.wrap (13 + (M : Int)) = (P : Int) ∧ IntKind.i64.wrap (21 + (M : Int)) = (Q : Int) :=
  ⟨⟨by rw [wrapIn _ (by omega) (by omega)]; omega, by rw [wrapIn _ (by omega) (by omega)]; omega, by rw [wrapIn _ (by omega) (by omega)]; omega⟩, by rw [wrapI _ (by omega) (by omega)]; omega, by rw [wrapI _ (by omega) (by omega)]; omega⟩
end Go.Pm
namespace Go.Proofs.Ytbebpnanhkcngaa
open Go.RowKit Go.Pm
namespace R12
set_option maxRecDepth 100000 in
set_option maxHeartbeats 8000000 in
theorem read (v : Value) (lo hi : Nat) (b : List UInt8) (w : World) (hv : Bs w lo hi v b) (hl : b.length ≤ 1099511627000) :
    Calls Try.prog 28 #[v] w fun e w' => ∃ u, e = .returned (.tuple #[.int .i64 (readF b).kind, .int .i64 (readF b).seq, u, .int .i64 (readF b).n, .int .i64 (readF b).e]) ∧ Kept None w w' ∧ Bs w' lo hi u (readF b).body := by
  obtain ⟨av, cv, rfl, g1, g2, g3⟩ := hv.shape
  by_cases h13 : b.length < 13
  · have er : readF b = ⟨0, 0, [], 0, 21⟩ := by unfold readF; rw [if_pos h13]
    rw [er]
    have d1 : decide ((b.length : Int) < 13) = true := by simp; omega
    have d2 : decide (b.length < 13) = true := by simpa using h13
    clear er hv h13 g3
    go_enter Try.func28, Try.ntmps28
    go_wp2
    (try simp only [Exit.inBlock, Exit.then])
    refine bodyPost_ret (results_tmp5 rfl _ _ _) rfl ?_
    exact ⟨.slice none 0 0, rfl, Kept.refl _ _, Bs.nil _ _ _⟩
  · have d1 : decide ((b.length : Int) < 13) = false := by simp; omega
    have d2 : decide (b.length < 13) = false := by simp; omega
    obtain ⟨bb, o, rfl, q1, q2, q3, hcell⟩ := hv.ne (by omega)
    have HC := hid (fun W (hW : Kept None w W) => (⟨(hW.cell (p := ⟨bb, o + 0, none⟩) q3 (fun h => h)).trans (hcell 0 (by omega)), (hW.cell (p := ⟨bb, o + 1, none⟩) q3 (fun h => h)).trans (hcell 1 (by omega)), (hW.cell (p := ⟨bb, o + 2, none⟩) q3 (fun h => h)).trans (hcell 2 (by omega)), (hW.cell (p := ⟨bb, o + 3, none⟩) q3 (fun h => h)).trans (hcell 3 (by omega)), (hW.cell (p := ⟨bb, o + 4, none⟩) q3 (fun h => h)).trans (hcell 4 (by omega))⟩ : W.cell? ⟨bb, o + 0, none⟩ = some (.int .u8 (bAt b 0)) ∧ W.cell? ⟨bb, o + 1, none⟩ = some (.int .u8 (bAt b 1)) ∧ W.cell? ⟨bb, o + 2, none⟩ = some (.int .u8 (bAt b 2)) ∧ W.cell? ⟨bb, o + 3, none⟩ = some (.int .u8 (bAt b 3)) ∧ W.cell? ⟨bb, o + 4, none⟩ = some (.int .u8 (bAt b 4))))
    simp only [Nat.add_zero] at HC
    have i0 : 0 < b.length := by omega
    have i1 : (1 : Int) < (b.length : Int) := by omega
    have i2 : (2 : Int) < (b.length : Int) := by omega
    have i3 : (3 : Int) < (b.length : Int) := by omega
    have i4 : (4 : Int) < (b.length : Int) := by omega
    obtain ⟨M, hM⟩ : ∃ M : Nat, M = (le4V b).toNat := ⟨_, rfl⟩
    obtain ⟨K, hK⟩ : ∃ K : Nat, K = (b.getD 4 0).toNat := ⟨_, rfl⟩
    obtain ⟨S, hS⟩ : ∃ S : Nat, S = (leV (b.drop 5)).toNat := ⟨_, rfl⟩
    have eM : le4V b = (M : Int) := by rw [hM, Int.toNat_of_nonneg (le4V_ge b)]
    have eK : bAt b 4 = (K : Int) := by rw [hK]; rfl
    have eS : leV (b.drop 5) = (S : Int) := by rw [hS, Int.toNat_of_nonneg (leV_ge _)]
    have HMM := hid (And.intro eM (And.intro eK eS))
    have HKB := hid (show K < 256 by have := bAt_lt b 4; omega)
    have HB := hid ((four_bytes b).trans eM)
    have HKw := hid (wrapI (K : Int) (by omega) (by have := HKB.out; omega))
    rw [eK] at HC
    clear g2
    obtain ⟨a5, hsl5, hv5⟩ := slice_mid tBytes zBytes hv .i64 .i64 5 13 (by decide) (by decide) (by omega)
    have HWd := hid (fun W (hW : Kept None w W) => (by
      have h5 : Bs W lo hi (.slice a5 8 (cv - 5)) ((b.take 13).drop 5) := by
        have := hv5.kept hW (fun _ _ _ h => h)
        unfold Bs
        rw [List.map_drop, List.map_take]
        exact this
      have hl5 : ((b.take 13).drop 5).length = 8 := by simp; omega
      have h := Ref.word _ _ _ _ W h5 hl5
      have e : leV ((b.take 13).drop 5) = (S : Int) := by rw [List.drop_take, leV_take]; exact eS
      rw [e] at h
      exact h : Calls Try.prog 44 #[.slice a5 8 (cv - 5)] W fun en w' => en = .returned (.int .u64 (S : Int)) ∧ W = w'))
    have HV := hid hv
    have HL := hid (And.intro hl h13)
    clear hcell q1 q2 q3 hv hl h13 hM hK hS eM eK eS hv5
    go_enter Try.func28, Try.ntmps28
    go_wp2_with fail
    have hs : Steady [] := Go.Pm.Steady.nil
    refine wp_region_kn w _ hs (Kept.refl _ _) (by kernel_rfl) (by kernel_rfl) (by kernel_rfl) ?_
    iterate 23 (refine wpPar_pure rfl (by rfl) _ (fun W hW => by
        obtain ⟨c0, c1, c2, c3, c4⟩ := HC.out W hW
        go_simp
        exact rfl) ?_; simp only [Act.put, List.setIfInBounds_toArray, List.set_cons_zero, List.set_cons_succ])
    refine wpPar_nil (fun W hW hG => ?_)
    have kW := hid hW
    clear hG hs hW
    rw [HB.out]
    go_wp2_with fail
    have hs : Steady [.val 6 (.int .u64 (S : Int))] := Go.Pm.Steady.val (Go.Pm.Steady.nil)
    refine wp_region_kn W _ hs (Kept.refl _ _) (by kernel_rfl) (by kernel_rfl) (by kernel_rfl) ?_
    iterate 6 (refine wpPar_pure rfl (by rfl) _ (fun Wx hW => by
        obtain ⟨c0, c1, c2, c3, c4⟩ := HC.out _ (kW.out.trans hW)
        go_simp
        exact rfl) ?_; simp only [Act.put, List.setIfInBounds_toArray, List.set_cons_zero, List.set_cons_succ])
    refine wpKn_adds hs rfl (by rfl) (fun Wx hW hd => ?_) (fun v6 hv => ?_)
    · unfold Gives
      go_simp
      refine gives_call ((HWd.out _ (kW.out.trans hW))) ?_
      rintro e w3 ⟨rfl, rfl⟩
      exact ⟨_, rfl, Kept.refl _ _, rfl, trivial⟩
    obtain rfl : v6 = .int .u64 (S : Int) := hv
    simp only [Act.put, List.setIfInBounds_toArray, List.set_cons_zero, List.set_cons_succ]
    iterate 2 (refine wpPar_pure rfl (by rfl) _ (fun Wx hW => by
        obtain ⟨c0, c1, c2, c3, c4⟩ := HC.out _ (kW.out.trans hW)
        go_simp
        exact rfl) ?_; simp only [Act.put, List.setIfInBounds_toArray, List.set_cons_zero, List.set_cons_succ])
    refine wpPar_nil (fun W2 hW2 hG => ?_)
    have kW2 := hid (kW.out.trans hW2)
    clear hG hs hW2 i0 i1 i2 i3 i4
    rw [HKw.out]
    by_cases h1 : 4096 < M
    · have ER := hid (readF_bad HL.out.2 HMM.out (.inl h1))
      have c1 : decide ((4096 : Int) < (M : Int)) = true := by simp; omega
      have c1' : decide (4096 < M) = true := by simp; omega
      clear h1
      go_wp2
      (try simp only [Exit.inBlock, Exit.then])
      refine bodyPost_ret (results_tmp5 rfl _ _ _) rfl ?_
      rw [ER.out]
      exact ⟨.slice none 0 0, rfl, kW2.out, Bs.nil _ _ _⟩
    by_cases h2 : K = 0
    · have ER := hid (readF_bad HL.out.2 HMM.out (.inr (.inl h2)))
      subst h2
      have c1 : decide ((4096 : Int) < (M : Int)) = false := by simp; omega
      have c1' : decide (4096 < M) = false := by simp; omega
      clear h1
      go_wp2
      (try simp only [Exit.inBlock, Exit.then])
      refine bodyPost_ret (results_tmp5 rfl _ _ _) rfl ?_
      rw [ER.out]
      exact ⟨.slice none 0 0, rfl, kW2.out, Bs.nil _ _ _⟩
    by_cases h3 : 9223372036854775807 < S
    · have ER := hid (readF_bad HL.out.2 HMM.out (.inr (.inr h3)))
      have c1 : decide ((4096 : Int) < (M : Int)) = false := by simp; omega
      have c1' : decide (4096 < M) = false := by simp; omega
      have c2 : ((K : Int) == 0) = false := by simp; omega
      have c2' : ¬ K = 0 := h2
      have c3 := (lt_lit h3).1
      have c3' := (lt_lit h3).2
      clear h1 h2 h3
      go_wp2
      (try simp only [Exit.inBlock, Exit.then])
      refine bodyPost_ret (results_tmp5 rfl _ _ _) rfl ?_
      rw [ER.out]
      exact ⟨.slice none 0 0, rfl, kW2.out, Bs.nil _ _ _⟩
    have HN := hid (show ¬ (4096 < M ∨ K = 0 ∨ 9223372036854775807 < S) from fun h => h.elim h1 (fun h => h.elim h2 h3))
    have c1 : decide ((4096 : Int) < (M : Int)) = false := by simp; omega
    have c1' : decide (4096 < M) = false := by simp; omega
    have c2 : ((K : Int) == 0) = false := by simp; omega
    have c2' : ¬ K = 0 := h2
    have c3 := (le_lit h3).1
    have c3' := (le_lit h3).2
    obtain ⟨P, hP⟩ : ∃ P, P = 13 + M := ⟨_, rfl⟩
    obtain ⟨Q, hQ⟩ : ∃ Q, Q = 21 + M := ⟨_, rfl⟩
    have HP := hid (sums13 (Nat.le_of_not_lt h1) hP hQ)
    have HMS := hid (And.intro (Nat.le_of_not_lt h1) (Nat.le_of_not_lt h3))
    have HPQ := hid (And.intro hP hQ)
    clear hP hQ h1 h2 h3
    by_cases h4 : b.length < Q
    · have ER := hid (readF_short HL.out.2 HMM.out HN.out (by rw [← HPQ.out.2]; exact h4))
      have c4 : decide ((b.length : Int) < (Q : Int)) = true := by simp; omega
      have c4' : decide (b.length < Q) = true := by simpa using h4
      clear h4
      obtain ⟨p1, p2, _⟩ := HP.out.1
      go_wp2
      (try simp only [Exit.inBlock, Exit.then])
      refine bodyPost_ret (results_tmp5 rfl _ _ _) rfl ?_
      rw [ER.out]
      exact ⟨.slice none 0 0, rfl, kW2.out, Bs.nil _ _ _⟩
    · have c4 : decide ((b.length : Int) < (Q : Int)) = false := by simp; omega
      have c4' : decide (b.length < Q) = false := by simp; omega
      have HQL := hid h4
      clear h4
      obtain ⟨p1, p2, p3⟩ := HP.out.1
      obtain ⟨a6, hsl6, hv6⟩ := slice_mid tBytes zBytes HV.out .i64 .i64 (13 : Int) (P : Int) (by decide) (by have := HPQ.out.1; omega) (by have := HPQ.out; have := HQL.out; omega)
      obtain ⟨a7, hsl7, hv7⟩ := slice_mid tBytes zBytes HV.out .i64 .i64 (P : Int) (Q : Int) (by omega) (by have := HPQ.out; omega) (by have := HQL.out; omega)
      simp only [Int.toNat_natCast, show (13 : Int).toNat = 13 from rfl] at hsl6 hv6 hsl7 hv7
      rw [show P - 13 = M by have := HPQ.out.1; omega] at hsl6 hv6
      rw [show Q - P = 8 by have := HPQ.out; omega] at hsl7 hv7
      obtain ⟨BD, hBD⟩ : ∃ BD, BD = (b.drop 13).take M := ⟨_, rfl⟩
      have HBD := hid hBD
      have HV6 := hid (show Bs w lo hi (.slice a6 M (cv - 13)) BD by
        unfold Bs
        rw [hBD, show (b.drop 13).take M = (b.take P).drop 13 by rw [List.drop_take]; congr 1; have := HPQ.out.1; omega, List.map_drop, List.map_take]
        exact hv6)
      have HV7 := hid (show Bs w lo hi (.slice a7 8 (cv - P)) ((b.drop P).take 8) by
        unfold Bs
        rw [show (b.drop P).take 8 = (b.take Q).drop P by rw [List.drop_take]; congr 1; have := HPQ.out; omega, List.map_drop, List.map_take]
        exact hv7)
      obtain ⟨MK, hMK⟩ : ∃ MK, MK = markF (K : Int) (S : Int) BD := ⟨_, rfl⟩
      have HMK := hid hMK.symm
      have HML := hid (show MK.length = 8 by rw [hMK]; simp [markF, sumB_len])
      have HS1 := hid (wrapI (S : Int) (by omega) (Int.lt_of_le_of_lt (Int.ofNat_le.2 HMS.out.2) (by decide)))
      have hBDl : BD.length ≤ 1099511627000 := by rw [hBD, List.length_take]; have := HMS.out.1; omega
      have HMC := hid (fun W (hW : Kept None w W) => (by
        have h := mark (K : Int) (S : Int) (.slice a6 M (cv - 13)) lo hi BD W (HV6.out.kept hW (fun _ _ _ h => h)) (by omega) (by have := HKB.out; omega) (by omega) (Int.lt_of_le_of_lt (Int.ofNat_le.2 HMS.out.2) (by decide)) hBDl
        rw [← hMK] at h
        exact h))
      obtain ⟨X, hX⟩ : ∃ X, X = (b.drop P).take 8 := ⟨_, rfl⟩
      rw [← hX] at HV7
      have HC7 := hid (fun W (hW : Kept None w W) => cvBytes (HV7.out.kept hW (fun _ _ _ h => h)))
      clear hv6 hv7 hBD hMK hBDl
      go_wp2_with fail
      clear p1 p2 p3 c1 c1' c2 c2' c3 c3' c4 c4' d1 d2
      have HX := hid hX
      by_cases hm : MK = X
      · subst hm
        have HMX := hid hX
        have HNE := hid True.intro
        clear hX
        go_wp2_with fail
        have hs : Steady [.bytes 4 (MK), .val 5 (.string ⟨(MK).toArray⟩) [4]] := Go.Pm.Steady.bytes (Go.Pm.Steady.val (Go.Pm.Steady.nil))
        refine wp_region_kn W2 _ hs (Kept.refl _ _) (by kernel_rfl) (by kernel_rfl) (by kernel_rfl) ?_
        iterate 2 (refine wpPar_pure rfl (by rfl) _ (fun W hW => by
            have cvx := HC7.out _ (kW2.out.trans hW)
            go_simp
            exact rfl) ?_; simp only [Act.put, List.setIfInBounds_toArray, List.set_cons_zero, List.set_cons_succ])
        refine wpPar_pure rfl (by rfl) (.int .i64 (S : Int)) (fun W hW => by have q := HS1.out; go_simp) ?_; simp only [Act.put, List.setIfInBounds_toArray, List.set_cons_zero, List.set_cons_succ]
        iterate 1 (refine wpPar_pure rfl (by rfl) _ (fun W hW => by
            have cvx := HC7.out _ (kW2.out.trans hW)
            go_simp
            exact rfl) ?_; simp only [Act.put, List.setIfInBounds_toArray, List.set_cons_zero, List.set_cons_succ])
        refine wpKn_adds hs rfl (by rfl) (fun W hW hd => ?_) (fun v4 hv => ?_)
        · unfold Gives
          go_simp
          refine gives_call (HMC.out _ (kW2.out.trans hW)) ?_
          rintro e w3 ⟨a, c, rfl, k3, b3⟩
          exact ⟨_, rfl, k3, ⟨_, _, by rw [HML.out]⟩, _, _, b3⟩
        obtain ⟨a8, c8, rfl⟩ : ∃ a c, v4 = .slice a (MK).length c := hv
        simp only [Act.put, List.setIfInBounds_toArray, List.set_cons_zero, List.set_cons_succ]
        refine wpKn_adds hs rfl (by rfl) (fun W hW hd => ?_) (fun v5 hv => ?_)
        · unfold Gives
          obtain ⟨lo, hi, hb⟩ : ∃ lo hi, Bs W lo hi (.slice a8 (MK).length c8) (MK) := hd 4 (List.Mem.head _)
          have hcv := cvBytes hb
          go_simp
          exact ⟨Kept.refl _ _, rfl, trivial⟩
        obtain rfl : v5 = .string ⟨(MK).toArray⟩ := hv
        simp only [Act.put, List.setIfInBounds_toArray, List.set_cons_zero, List.set_cons_succ]
        iterate 2 (refine wpPar_pure rfl (by rfl) _ (fun W hW => by
            have cvx := HC7.out _ (kW2.out.trans hW)
            go_simp
            exact rfl) ?_; simp only [Act.put, List.setIfInBounds_toArray, List.set_cons_zero, List.set_cons_succ])
        refine wpPar_pure rfl (by rfl) (.int .i64 (P : Int)) (fun W hW => by have q := HP.out.2.1; go_simp) ?_; simp only [Act.put, List.setIfInBounds_toArray, List.set_cons_zero, List.set_cons_succ]
        iterate 1 (refine wpPar_pure rfl (by rfl) _ (fun W hW => by
            have cvx := HC7.out _ (kW2.out.trans hW)
            go_simp
            exact rfl) ?_; simp only [Act.put, List.setIfInBounds_toArray, List.set_cons_zero, List.set_cons_succ])
        refine wpPar_pure rfl (by rfl) (.int .i64 (Q : Int)) (fun W hW => by have q := HP.out.2.2; go_simp) ?_; simp only [Act.put, List.setIfInBounds_toArray, List.set_cons_zero, List.set_cons_succ]
        iterate 2 (refine wpPar_pure rfl (by rfl) _ (fun W hW => by
            have cvx := HC7.out _ (kW2.out.trans hW)
            go_simp
            exact rfl) ?_; simp only [Act.put, List.setIfInBounds_toArray, List.set_cons_zero, List.set_cons_succ])
        refine wpPar_pure rfl (by rfl) (.bool false) (fun W hW => by have q := HNE.out; go_simp) ?_; simp only [Act.put, List.setIfInBounds_toArray, List.set_cons_zero, List.set_cons_succ]
        refine wpPar_nil (fun W3 hW3 hG => ?_)
        have k3 := kW2.out.trans hW3
        clear hG hs hW3
        have ER := hid (readF_ok HL.out.2 HMM.out HN.out (by rw [← HPQ.out.2]; exact HQL.out) (by rw [← HPQ.out.1, ← HMX.out, ← HBD.out]; exact HMK.out))
        have cs1 := HS1.out
        have p3 := HP.out.1.2.2
        have hbd := HV6.out.kept k3 (fun _ _ _ h => h)
        go_wp2
        (try simp only [Exit.inBlock, Exit.then])
        refine bodyPost_ret (results_tmp5 rfl _ _ _) rfl ?_
        rw [ER.out]
        refine ⟨.slice a6 M (cv - 13), ?_, k3, by rw [← HBD.out]; exact hbd⟩
        rw [← HPQ.out.2]
        show Ending.returned (.tuple #[.int .i64 (K : Int), .int .i64 (S : Int), .slice a6 M (cv - 13), .int .i64 (wrap64 (21 + (M : Int))), .int .i64 0]) = _
        rw [HP.out.1.2.2]
      · have HNE := hid hm
        clear hm hX
        go_wp2_with fail
        have hs : Steady [.bytes 4 (MK), .val 5 (.string ⟨(MK).toArray⟩) [4]] := Go.Pm.Steady.bytes (Go.Pm.Steady.val (Go.Pm.Steady.nil))
        refine wp_region_kn W2 _ hs (Kept.refl _ _) (by kernel_rfl) (by kernel_rfl) (by kernel_rfl) ?_
        iterate 2 (refine wpPar_pure rfl (by rfl) _ (fun W hW => by
            have cvx := HC7.out _ (kW2.out.trans hW)
            go_simp
            exact rfl) ?_; simp only [Act.put, List.setIfInBounds_toArray, List.set_cons_zero, List.set_cons_succ])
        refine wpPar_pure rfl (by rfl) (.int .i64 (S : Int)) (fun W hW => by have q := HS1.out; go_simp) ?_; simp only [Act.put, List.setIfInBounds_toArray, List.set_cons_zero, List.set_cons_succ]
        iterate 1 (refine wpPar_pure rfl (by rfl) _ (fun W hW => by
            have cvx := HC7.out _ (kW2.out.trans hW)
            go_simp
            exact rfl) ?_; simp only [Act.put, List.setIfInBounds_toArray, List.set_cons_zero, List.set_cons_succ])
        refine wpKn_adds hs rfl (by rfl) (fun W hW hd => ?_) (fun v4 hv => ?_)
        · unfold Gives
          go_simp
          refine gives_call (HMC.out _ (kW2.out.trans hW)) ?_
          rintro e w3 ⟨a, c, rfl, k3, b3⟩
          exact ⟨_, rfl, k3, ⟨_, _, by rw [HML.out]⟩, _, _, b3⟩
        obtain ⟨a8, c8, rfl⟩ : ∃ a c, v4 = .slice a (MK).length c := hv
        simp only [Act.put, List.setIfInBounds_toArray, List.set_cons_zero, List.set_cons_succ]
        refine wpKn_adds hs rfl (by rfl) (fun W hW hd => ?_) (fun v5 hv => ?_)
        · unfold Gives
          obtain ⟨lo, hi, hb⟩ : ∃ lo hi, Bs W lo hi (.slice a8 (MK).length c8) (MK) := hd 4 (List.Mem.head _)
          have hcv := cvBytes hb
          go_simp
          exact ⟨Kept.refl _ _, rfl, trivial⟩
        obtain rfl : v5 = .string ⟨(MK).toArray⟩ := hv
        simp only [Act.put, List.setIfInBounds_toArray, List.set_cons_zero, List.set_cons_succ]
        iterate 2 (refine wpPar_pure rfl (by rfl) _ (fun W hW => by
            have cvx := HC7.out _ (kW2.out.trans hW)
            go_simp
            exact rfl) ?_; simp only [Act.put, List.setIfInBounds_toArray, List.set_cons_zero, List.set_cons_succ])
        refine wpPar_pure rfl (by rfl) (.int .i64 (P : Int)) (fun W hW => by have q := HP.out.2.1; go_simp) ?_; simp only [Act.put, List.setIfInBounds_toArray, List.set_cons_zero, List.set_cons_succ]
        iterate 1 (refine wpPar_pure rfl (by rfl) _ (fun W hW => by
            have cvx := HC7.out _ (kW2.out.trans hW)
            go_simp
            exact rfl) ?_; simp only [Act.put, List.setIfInBounds_toArray, List.set_cons_zero, List.set_cons_succ])
        refine wpPar_pure rfl (by rfl) (.int .i64 (Q : Int)) (fun W hW => by have q := HP.out.2.2; go_simp) ?_; simp only [Act.put, List.setIfInBounds_toArray, List.set_cons_zero, List.set_cons_succ]
        iterate 2 (refine wpPar_pure rfl (by rfl) _ (fun W hW => by
            have cvx := HC7.out _ (kW2.out.trans hW)
            go_simp
            exact rfl) ?_; simp only [Act.put, List.setIfInBounds_toArray, List.set_cons_zero, List.set_cons_succ])
        refine wpPar_pure rfl (by rfl) (.bool true) (fun W hW => by have q := HNE.out; go_simp) ?_; simp only [Act.put, List.setIfInBounds_toArray, List.set_cons_zero, List.set_cons_succ]
        refine wpPar_nil (fun W3 hW3 hG => ?_)
        have k3 := kW2.out.trans hW3
        clear hG hs hW3
        have ER := hid (readF_sum HL.out.2 HMM.out HN.out (by rw [← HPQ.out.2]; exact HQL.out) (by rw [← HPQ.out.1, ← HX.out, ← HBD.out, HMK.out]; exact HNE.out))
        go_wp2
        (try simp only [Exit.inBlock, Exit.then])
        refine bodyPost_ret (results_tmp5 rfl _ _ _) rfl ?_
        rw [ER.out]
        exact ⟨.slice none 0 0, rfl, k3, Bs.nil _ _ _⟩
end R12
end Go.Proofs.Ytbebpnanhkcngaa
namespace Go.Proofs.Ytbebpnanhkcngaa
open Go.RowKit Go.Pm

namespace Bin
/-- A Reader of package bin at block r: its bytes lie in blocks from lo on, below hi. -/
def Rd (w : World) (lo hi r : Nat) (s : St) : Prop := s.Ok ∧ ∃ v, Blk w r #[v, .int .i64 s.e] 128 ∧ Bs w lo hi v s.l
theorem Rd.kept {S : Nat → Prop} {w w' : World} {lo hi r : Nat} {s : St} (h : Rd w lo hi r s) (hk : Kept S w w') (h1 : ∀ k, lo ≤ k → k < hi → ¬ S k) (h2 : ¬ S r) : Rd w' lo hi r s := by
  obtain ⟨ok, v, hb, hv⟩ := h
  exact ⟨ok, v, hb.kept hk h2, hv.kept hk h1⟩
theorem Rd.lt {w : World} {lo hi r : Nat} {s : St} (h : Rd w lo hi r s) : r < w.heap.size := by
  obtain ⟨ok, v, hb, hv⟩ := h
  exact hb.lt

/-- bytes.Clone. -/
theorem clone (v : Value) (lo hi : Nat) (l : List UInt8) (w : World) (hv : Bs w lo hi v l) (hl : l.length ≤ 140737488355328) :
    Calls Try.prog 58 #[v] w fun en w' => ∃ v', en = .returned v' ∧ Kept None w w' ∧ Ob w' w.heap.size v' l := by
  obtain ⟨a, cap, rfl, g1, g2, g3⟩ := hv.shape
  cases a with
  | none =>
    have := g3 rfl
    subst this
    have hn : l = [] := List.eq_nil_of_length_eq_zero (by omega)
    subst hn
    have e1 := @Lib.run_eql_slice_nil Try.prog
    go_enter Try.func58, Try.ntmps58
    go_wp2
    go_ret
    exact ⟨_, rfl, Kept.refl _ _, Bo.nil _ _ _⟩
  | some ad =>
    have e1 := @Lib.run_eql_slice_nil Try.prog
    clear g3
    go_enter Try.func58, Try.ntmps58
    go_wp2_with (at_builtin; refine wpList_append_bo (l := []) (m := l) (base := w.heap.size) (lo := lo) (hi := hi) rfl _ _ 22 rfl rtBytes rfl rfl ?h1 ?h2 ?h3 ?h4 ?h5)
    case h1 => exact Bo.new w 5 [] #[] rfl 0 rfl (by decide)
    case h2 => exact hv.kept ((Kept.refl None _).alloc _) (fun _ _ _ h => h)
    case h3 => simpa using hl
    case h4 => simp
    intro a' n' cap' w' hb hk
    have hk' := Kept.own ((Kept.refl None w).alloc (Obj.cells #[] 5)) hk (fun k hk => by simp [Value.ownBlock] at hk; omega)
    go_wp2
    go_ret
    exact ⟨_, rfl, hk', by simpa using hb⟩

/-- The first error stays. -/
def firstErr (e e' : Int) : Int := if e = 0 then e' else e

set_option maxHeartbeats 400000 in
theorem fail (r : Nat) (v : Value) (e e' : Int) (w : World) (hb : Blk w r #[v, .int .i64 e] 128) :
    Calls Try.prog 94 #[.pointer (some ⟨r, 0, none⟩), .int .i64 e'] w fun en w' => en = .returned (.tuple #[]) ∧ Blk w' r #[.slice none 0 0, .int .i64 (firstErr e e')] 128 ∧ Kept (Just r) w w' := by
  have c0 := hb.cell 0
  have c1 := hb.cell 1
  have f0 := hb.free 0
  have f1 := hb.free 1
  have r1 : Blk ((w.setCell ⟨r, 1, none⟩ (.int .i64 e')).setCell ⟨r, 0, none⟩ (.slice none 0 0)) r #[.slice none 0 0, .int .i64 e'] 128 := (hb.set 1 _).set 0 _
  have r2 : Blk (w.setCell ⟨r, 0, none⟩ (.slice none 0 0)) r #[.slice none 0 0, .int .i64 e] 128 := hb.set 0 _
  have k1 : Kept (Just r) w ((w.setCell ⟨r, 1, none⟩ (.int .i64 e')).setCell ⟨r, 0, none⟩ (.slice none 0 0)) := (Kept.one w r 1 _).one' 0 _
  have k2 : Kept (Just r) w (w.setCell ⟨r, 0, none⟩ (.slice none 0 0)) := Kept.one w r 0 _
  simp at c0 c1
  by_cases he : e = 0
  · subst he
    have e1 : firstErr 0 e' = e' := rfl
    rw [e1]
    go_enter Try.func94, Try.ntmps94
    go_wp2
    go_end0
    exact ⟨rfl, r1, k1⟩
  · have e1 : firstErr e e' = e := if_neg he
    rw [e1]
    have he' : (e == 0) = false := by simpa using he
    clear e1
    go_enter Try.func94, Try.ntmps94
    go_wp2
    go_end0
    exact ⟨rfl, r2, k2⟩

/-- take, where there are so many. -/
theorem take_yes (r : Nat) (lo hi : Nat) (s : St) (n : Int) (w : World) (hr : Rd w lo hi r s) (h0 : 0 ≤ n) (h1 : n ≤ s.l.length) (hlo : hi ≤ r) :
    Calls Try.prog 81 #[.pointer (some ⟨r, 0, none⟩), .int .i64 n] w fun en w' => ∃ v, en = .returned v ∧ Kept (Just r) w w' ∧ Bs w' lo hi v (s.raw n) ∧ Rd w' lo hi r (s.rawS n) := by
  have ok' := St.rawS_ok hr.1 n
  obtain ⟨ok, v, hb, hv⟩ := hr
  have e1 : s.raw n = s.l.take n.toNat := by
    unfold St.raw
    by_cases he : s.e = 0
    · rw [if_pos ⟨he, h1⟩]
    · rw [if_neg (fun h => he h.1), ok he]; simp
  have e2 : s.rawS n = ⟨s.l.drop n.toNat, s.e⟩ := by
    unfold St.rawS
    by_cases he : s.e = 0
    · rw [if_pos he, if_pos h1, he]
    · rw [if_neg he]; obtain ⟨l, e⟩ := s; have := ok he; simp only at this; subst this; simp
  rw [e2] at ok'
  rw [e1, e2]
  clear e1 e2 ok
  obtain ⟨l, e⟩ := s
  simp only at h1 hb hv ok' ⊢
  obtain ⟨a, cap, rfl, g1, g2, g3⟩ := hv.shape
  have c0 := hb.cell 0
  have c1 := hb.cell 1
  have f0 := hb.free 0
  have f1 := hb.free 1
  simp at c0 c1
  obtain ⟨a1, s1, p1⟩ := slice_to tBytes zBytes hv .i64 n h0 h1
  obtain ⟨a2, s2, p2⟩ := slice_from tBytes zBytes hv .i64 n h0 h1
  have hw := hb.set 0 (.slice a2 (l.length - n.toNat) (cap - n.toNat))
  have hk := Kept.one w r 0 (.slice a2 (l.length - n.toNat) (cap - n.toNat))
  have q1 := p1.kept hk (fun k _ h e => by unfold Just at e; omega)
  have q2 := p2.kept hk (fun k _ h e => by unfold Just at e; omega)
  rw [← List.map_take] at q1
  rw [← List.map_drop] at q2
  have fin : ∃ v, Ending.returned (.slice a1 n.toNat cap) = .returned v ∧ Kept (Just r) w (w.setCell ⟨r, 0, none⟩ (.slice a2 (l.length - n.toNat) (cap - n.toNat))) ∧ Bs (w.setCell ⟨r, 0, none⟩ (.slice a2 (l.length - n.toNat) (cap - n.toNat))) lo hi v (l.take n.toNat) ∧ Rd (w.setCell ⟨r, 0, none⟩ (.slice a2 (l.length - n.toNat) (cap - n.toNat))) lo hi r ⟨l.drop n.toNat, e⟩ :=
    ⟨_, rfl, hk, q1, ok', _, hw, q2⟩
  clear p1 p2 hw hk q1 q2 hv hb g3 ok'
  go_enter Try.func81, Try.ntmps81
  go_wp2
  go_ret
  exact fin

theorem take_no (r : Nat) (lo hi : Nat) (s : St) (n : Int) (w : World) (hr : Rd w lo hi r s) (_h0 : 0 ≤ n) (_h2 : n < 9223372036854775808) (h1 : s.l.length < n) :
    Calls Try.prog 81 #[.pointer (some ⟨r, 0, none⟩), .int .i64 n] w fun en w' => ∃ v, en = .returned v ∧ Kept (Just r) w w' ∧ Bs w' lo hi v (s.raw n) ∧ Rd w' lo hi r (s.rawS n) := by
  have ok' := St.rawS_ok hr.1 n
  obtain ⟨ok, v, hb, hv⟩ := hr
  have e1 : s.raw n = [] := by
    unfold St.raw
    rw [if_neg (fun h => by omega)]
  have e2 : s.rawS n = ⟨[], firstErr s.e 21⟩ := by
    unfold St.rawS firstErr
    by_cases he : s.e = 0
    · rw [if_pos he, if_neg (by omega), if_pos he]
    · rw [if_neg he, if_neg he, ← ok he]
  rw [e2] at ok'
  rw [e1, e2]
  clear e1 e2 ok
  obtain ⟨l, e⟩ := s
  simp only at h1 hb hv ok' ⊢
  obtain ⟨a, cap, rfl, g1, g2, g3⟩ := hv.shape
  have c0 := hb.cell 0
  have c1 := hb.cell 1
  simp at c0 c1
  clear hv g3
  have HB := hid hb
  clear hb
  go_enter Try.func81, Try.ntmps81
  go_wp2_with fail
  refine (fail r _ e 21 w HB.out).mono ?_
  rintro e1 w1 ⟨rfl, h1, h2⟩
  go_wp2
  go_ret
  exact ⟨_, rfl, h2, Bs.nil _ _ _, ok', _, h1, Bs.nil _ _ _⟩

/-- (*bin.Reader).take. -/
theorem take (r : Nat) (lo hi : Nat) (s : St) (n : Int) (w : World) (hr : Rd w lo hi r s) (h0 : 0 ≤ n) (h2 : n < 9223372036854775808) (hlo : hi ≤ r) :
    Calls Try.prog 81 #[.pointer (some ⟨r, 0, none⟩), .int .i64 n] w fun en w' => ∃ v, en = .returned v ∧ Kept (Just r) w w' ∧ Bs w' lo hi v (s.raw n) ∧ Rd w' lo hi r (s.rawS n) := by
  by_cases h : n ≤ s.l.length
  · exact take_yes r lo hi s n w hr h0 h hlo
  · exact take_no r lo hi s n w hr h0 h2 (by omega)

set_option maxHeartbeats 1000000 in
/-- (*bin.Reader).Num. -/
theorem rnum (r : Nat) (lo hi : Nat) (s : St) (w : World) (hr : Rd w lo hi r s) (hlo : hi ≤ r) :
    Calls Try.prog 60 #[.pointer (some ⟨r, 0, none⟩)] w fun en w' => en = .returned (.int .u64 s.num) ∧ Kept (Just r) w w' ∧ Rd w' lo hi r s.numS := by
  have eS : s.rawS 8 = s.numS := by
    unfold St.rawS St.numS
    by_cases h : 8 ≤ s.l.length
    · rw [if_pos (show (8 : Int) ≤ s.l.length by omega), if_pos h]; rfl
    · rw [if_neg (show ¬ (8 : Int) ≤ s.l.length by omega), if_neg h]
  rw [← eS]
  by_cases hc : s.e = 0 ∧ 8 ≤ s.l.length
  · have eN : s.num = leV s.l := if_pos hc
    have eR : s.raw 8 = s.l.take 8 := by unfold St.raw; rw [if_pos ⟨hc.1, by omega⟩]; rfl
    rw [eN, ← leV_take, ← eR]
    have hl : (s.raw 8).length = 8 := by rw [eR]; simp; omega
    have hv : leV (s.raw 8) = leV (s.raw 8) := rfl
    conv at hv => rhs; unfold leV
    generalize leV (s.raw 8) = V at hv ⊢
    have HV := hid hv
    clear hv eN eR hc eS
    go_enter Try.func60, Try.ntmps60
    go_wp2_with fail
    refine (take r lo hi s 8 w hr (by omega) (by omega) hlo).mono ?_
    rintro e1 w1 ⟨v, rfl, hk, hb, hr'⟩
    obtain ⟨b, o, cap, rfl, g1, g2, q1, q2, q3, hc⟩ := Bs.lit hb 8 hl (by omega)
    have c0 := hc 0 (by omega)
    have c1 := hc 1 (by omega)
    have c2 := hc 2 (by omega)
    have c3 := hc 3 (by omega)
    have c4 := hc 4 (by omega)
    have c5 := hc 5 (by omega)
    have c6 := hc 6 (by omega)
    have c7 := hc 7 (by omega)
    simp only [Nat.add_zero] at c0
    have B := fun i => bAt_lt (s.raw 8) i
    have A := fun i => bAt_ge (s.raw 8) i
    clear hc hb hl
    have b0 := B 0
    have a0 := A 0
    have b1 := B 1
    have a1 := A 1
    have b2 := B 2
    have a2 := A 2
    have b3 := B 3
    have a3 := A 3
    have b4 := B 4
    have a4 := A 4
    have b5 := B 5
    have a5 := A 5
    have b6 := B 6
    have a6 := A 6
    have b7 := B 7
    have a7 := A 7
    clear A B
    generalize bAt (s.raw 8) 0 = x0 at *
    generalize bAt (s.raw 8) 1 = x1 at *
    generalize bAt (s.raw 8) 2 = x2 at *
    generalize bAt (s.raw 8) 3 = x3 at *
    generalize bAt (s.raw 8) 4 = x4 at *
    generalize bAt (s.raw 8) 5 = x5 at *
    generalize bAt (s.raw 8) 6 = x6 at *
    generalize bAt (s.raw 8) 7 = x7 at *
    go_wp2
    refine wp_loop_rounds 9 ?_
    iterate 9 (rw [rounds_succ]; go_wp2)
    go_ret
    refine ⟨?_, hk, hr'⟩
    rw [HV.out, ← or_up x0 x1 x2 x3 x4 x5 x6 x7 a0 b0 a1 b1 a2 b2 a3 b3 a4 b4 a5 b5 a6 b6 a7 b7]
    rfl
  · have eN : s.num = 0 := if_neg hc
    have eR : s.raw 8 = [] := by unfold St.raw; rw [if_neg (fun h => hc ⟨h.1, by omega⟩)]
    rw [eN]
    clear eN eS
    go_enter Try.func60, Try.ntmps60
    go_wp2_with fail
    refine (take r lo hi s 8 w hr (by omega) (by omega) hlo).mono ?_
    rintro e1 w1 ⟨v, rfl, hk, hb, hr'⟩
    rw [eR] at hb
    obtain ⟨a, cap, rfl, g1, g2, g3⟩ := hb.shape
    simp only [List.length_nil]
    clear eR g3 hb
    go_wp2
    refine wp_loop_rounds 1 ?_
    rw [rounds_succ]
    go_wp2
    go_ret
    exact ⟨rfl, hk, hr'⟩

theorem reach {s : St} {n : Int} {m : Nat} (h : s.l.length ≤ m) : (s.raw n).length ≤ m := Nat.le_trans (St.raw_len s n) h

/-- bin.New. -/
theorem new (v : Value) (lo hi : Nat) (l : List UInt8) (w : World) (hv : Bs w lo hi v l) (hl : l.length ≤ 140737488355328) :
    Calls Try.prog 59 #[v] w fun en w' => ∃ r, en = .returned (.pointer (some ⟨r, 0, none⟩)) ∧ Kept None w w' ∧ w.heap.size ≤ r ∧ Rd w' w.heap.size r r ⟨l, 0⟩ := by
  go_enter Try.func59, Try.ntmps59
  go_wp2_with fail
  refine (clone v lo hi l w hv hl).mono ?_
  rintro e1 w1 ⟨v1, rfl, hk, hb⟩
  have hs := hb.bs (Nat.le_refl _)
  obtain ⟨a, cap, rfl⟩ := hb.form
  have hsz := hk.size
  clear hb
  go_wp2
  go_ret
  refine ⟨_, rfl, hk.alloc _, hsz, fun h => absurd rfl h, _, Blk.new _ _ _, ?_⟩
  exact hs.kept ((Kept.refl None _).alloc _) (fun _ _ _ h => h)

end Bin
end Go.Proofs.Ytbebpnanhkcngaa
/- Package bin, what reads: each function by its contract. -/
namespace Go.Proofs.Ytbebpnanhkcngaa
open Go.RowKit Go.Pm

namespace Bin
set_option maxHeartbeats 400000 in
/-- (*bin.Reader).Raw. -/
theorem rraw (r : Nat) (lo hi : Nat) (s : St) (n : Int) (w : World) (hr : Rd w lo hi r s) (h1 : -9223372036854775808 ≤ n) (h2 : n < 9223372036854775808) (hlo : hi ≤ r) (hl : s.l.length ≤ 140737488355328) :
    Calls Try.prog 62 #[.pointer (some ⟨r, 0, none⟩), .int .i64 n] w fun en w' => ∃ v, en = .returned v ∧ Kept (Just r) w w' ∧ Ob w' w.heap.size v (s.raw n) ∧ Rd w' lo hi r (s.rawS n) := by
  have key : ∀ m : Int, m = max n 0 → 0 ≤ m → m < 9223372036854775808 → s.raw m = s.raw n ∧ s.rawS m = s.rawS n := fun m h _ _ => by rw [h]; exact ⟨St.raw_max s n, St.rawS_max s n⟩
  have hm0 : 0 ≤ max n 0 := by omega
  have hm1 : max n 0 < 9223372036854775808 := by omega
  have KEY := hid key
  clear key
  go_enter Try.func62, Try.ntmps62
  go_wp2_with fail
  all_goals
    refine (take r lo hi s _ w hr (by omega) (by omega) hlo).mono ?_
    rintro e1 w1 ⟨v, rfl, hk, hb, hr'⟩
    rw [(KEY.out _ (by omega) (by omega) (by omega)).1] at hb
    rw [(KEY.out _ (by omega) (by omega) (by omega)).2] at hr'
    have hsz := hk.size
    go_wp2_with fail
    refine (clone v lo hi (s.raw n) w1 hb (reach hl)).mono ?_
    rintro e2 w2 ⟨v2, rfl, hk2, hb2⟩
    go_wp2
    go_ret
    have hlt := hr'.lt
    exact ⟨_, rfl, hk.then hk2 (fun _ _ h => h.elim), hb2.base hsz, hr'.kept hk2 (fun _ _ _ h => h) (fun h => h)⟩

/-- (*bin.Reader).Left. -/
theorem rleft (r : Nat) (lo hi : Nat) (s : St) (w : World) (hr : Rd w lo hi r s) (_hl : s.l.length ≤ 140737488355328) :
    Calls Try.prog 63 #[.pointer (some ⟨r, 0, none⟩)] w fun en w' => en = .returned (.int .i64 s.l.length) ∧ w = w' := by
  obtain ⟨ok, v, hb, hv⟩ := hr
  obtain ⟨a, cap, rfl, g1, g2, g3⟩ := hv.shape
  have c0 := hb.cell 0
  simp at c0
  clear hv hb g3
  go_enter Try.func63, Try.ntmps63
  go_wp2
  go_ret
  exact ⟨rfl, rfl⟩

/-- (*bin.Reader).Err. -/
theorem rerr (r : Nat) (lo hi : Nat) (s : St) (w : World) (hr : Rd w lo hi r s) :
    Calls Try.prog 83 #[.pointer (some ⟨r, 0, none⟩)] w fun en w' => en = .returned (.int .i64 s.e) ∧ w = w' := by
  obtain ⟨ok, v, hb, hv⟩ := hr
  have c0 := hb.cell 1
  simp at c0
  clear hv hb
  go_enter Try.func83, Try.ntmps83
  go_wp2
  go_ret
  exact ⟨rfl, rfl⟩

end Bin
end Go.Proofs.Ytbebpnanhkcngaa

/- Package postmarkref1, its Reader: each function by its contract, over the same plain functions as package bin. -/
namespace Go.Proofs.Ytbebpnanhkcngaa
open Go.RowKit Go.Pm

namespace Ref
/-- A Reader of package postmarkref1 at block r. -/
def Rd (w : World) (lo hi r : Nat) (s : St) : Prop := s.Ok ∧ ∃ v, Blk w r #[v, .int .i64 s.e] 71 ∧ Bs w lo hi v s.l
theorem Rd.kept {S : Nat → Prop} {w w' : World} {lo hi r : Nat} {s : St} (h : Rd w lo hi r s) (hk : Kept S w w') (h1 : ∀ k, lo ≤ k → k < hi → ¬ S k) (h2 : ¬ S r) : Rd w' lo hi r s := by
  obtain ⟨ok, v, hb, hv⟩ := h
  exact ⟨ok, v, hb.kept hk h2, hv.kept hk h1⟩
theorem Rd.lt {w : World} {lo hi r : Nat} {s : St} (h : Rd w lo hi r s) : r < w.heap.size := by
  obtain ⟨ok, v, hb, hv⟩ := h
  exact hb.lt

set_option maxHeartbeats 400000 in
/-- (*postmarkref1.Reader).fail. -/
theorem fail (r : Nat) (v : Value) (e e' : Int) (w : World) (hb : Blk w r #[v, .int .i64 e] 71) :
    Calls Try.prog 90 #[.pointer (some ⟨r, 0, none⟩), .int .i64 e'] w fun en w' => en = .returned (.tuple #[]) ∧ Blk w' r #[.slice none 0 0, .int .i64 e'] 71 ∧ Kept (Just r) w w' := by
  have c0 := hb.cell 0
  have c1 := hb.cell 1
  have f0 := hb.free 0
  have f1 := hb.free 1
  have r1 : Blk ((w.setCell ⟨r, 0, none⟩ (.slice none 0 0)).setCell ⟨r, 1, none⟩ (.int .i64 e')) r #[.slice none 0 0, .int .i64 e'] 71 := (hb.set 0 _).set 1 _
  have k1 : Kept (Just r) w ((w.setCell ⟨r, 0, none⟩ (.slice none 0 0)).setCell ⟨r, 1, none⟩ (.int .i64 e')) := (Kept.one w r 0 _).one' 1 _
  simp at c0 c1
  go_enter Try.func90, Try.ntmps90
  go_wp2
  go_end0
  exact ⟨rfl, r1, k1⟩

set_option maxHeartbeats 1000000 in
/-- (*postmarkref1.Reader).Raw. -/
theorem rraw (r : Nat) (lo hi : Nat) (s : St) (n : Int) (w : World) (hr : Rd w lo hi r s) (h1 : -9223372036854775808 ≤ n) (h2 : n < 9223372036854775808) (hlo : hi ≤ r) :
    Calls Try.prog 70 #[.pointer (some ⟨r, 0, none⟩), .int .i64 n] w fun en w' => ∃ v, en = .returned v ∧ Kept (Just r) w w' ∧ Bs w' lo hi v (s.raw n) ∧ Rd w' lo hi r (s.rawS n) := by
  have ok' := St.rawS_ok hr.1 n
  obtain ⟨ok, v, hb, hv⟩ := hr
  by_cases he : s.e = 0
  · by_cases hn : n ≤ s.l.length
    · have e1 : s.raw n = s.l.take n.toNat := if_pos ⟨he, hn⟩
      have e2 : s.rawS n = ⟨s.l.drop n.toNat, 0⟩ := by unfold St.rawS; rw [if_pos he, if_pos hn]
      rw [e2] at ok'
      rw [e1, e2]
      clear e1 e2 ok
      obtain ⟨l, e⟩ := s
      simp only at he hn hb hv ok' ⊢
      subst he
      obtain ⟨a, cap, rfl, g1, g2, g3⟩ := hv.shape
      have c0 := hb.cell 0
      have c1 := hb.cell 1
      have f0 := hb.free 0
      have f1 := hb.free 1
      simp at c0 c1
      by_cases h0 : n < 0
      · have ez : n.toNat = 0 := by omega
        rw [ez] at ok' ⊢
        obtain ⟨a1, s1, p1⟩ := slice_to tBytes zBytes hv .i64 0 (by omega) (by omega)
        obtain ⟨a2, s2, p2⟩ := slice_from tBytes zBytes hv .i64 0 (by omega) (by omega)
        simp only [Int.toNat_zero, Nat.sub_zero] at s1 s2 p1 p2
        have hw := hb.set 0 (.slice a2 l.length cap)
        have hk := Kept.one w r 0 (.slice a2 l.length cap)
        have q1 := p1.kept hk (fun k _ h e => by unfold Just at e; omega)
        have q2 := p2.kept hk (fun k _ h e => by unfold Just at e; omega)
        rw [← List.map_take] at q1
        rw [← List.map_drop] at q2
        have fin : ∃ v, Ending.returned (.slice a1 0 cap) = .returned v ∧ Kept (Just r) w (w.setCell ⟨r, 0, none⟩ (.slice a2 l.length cap)) ∧ Bs (w.setCell ⟨r, 0, none⟩ (.slice a2 l.length cap)) lo hi v (l.take 0) ∧ Rd (w.setCell ⟨r, 0, none⟩ (.slice a2 l.length cap)) lo hi r ⟨l.drop 0, 0⟩ :=
          ⟨_, rfl, hk, q1, ok', _, hw, q2⟩
        have hn0 : ¬ (l.length : Int) < 0 := by omega
        clear p1 p2 hw hk q1 q2 hv hb g3 ok' ez hn
        go_enter Try.func70, Try.ntmps70
        go_wp2
        go_ret
        exact fin
      · obtain ⟨a1, s1, p1⟩ := slice_to tBytes zBytes hv .i64 n (by omega) hn
        obtain ⟨a2, s2, p2⟩ := slice_from tBytes zBytes hv .i64 n (by omega) hn
        have hw := hb.set 0 (.slice a2 (l.length - n.toNat) (cap - n.toNat))
        have hk := Kept.one w r 0 (.slice a2 (l.length - n.toNat) (cap - n.toNat))
        have q1 := p1.kept hk (fun k _ h e => by unfold Just at e; omega)
        have q2 := p2.kept hk (fun k _ h e => by unfold Just at e; omega)
        rw [← List.map_take] at q1
        rw [← List.map_drop] at q2
        have fin : ∃ v, Ending.returned (.slice a1 n.toNat cap) = .returned v ∧ Kept (Just r) w (w.setCell ⟨r, 0, none⟩ (.slice a2 (l.length - n.toNat) (cap - n.toNat))) ∧ Bs (w.setCell ⟨r, 0, none⟩ (.slice a2 (l.length - n.toNat) (cap - n.toNat))) lo hi v (l.take n.toNat) ∧ Rd (w.setCell ⟨r, 0, none⟩ (.slice a2 (l.length - n.toNat) (cap - n.toNat))) lo hi r ⟨l.drop n.toNat, 0⟩ :=
          ⟨_, rfl, hk, q1, ok', _, hw, q2⟩
        clear p1 p2 hw hk q1 q2 hv hb g3 ok'
        go_enter Try.func70, Try.ntmps70
        go_wp2
        go_ret
        exact fin
    · have e1 : s.raw n = [] := if_neg (fun h => hn h.2)
      have e2 : s.rawS n = ⟨[], 21⟩ := by unfold St.rawS; rw [if_pos he, if_neg hn]
      rw [e2] at ok'
      rw [e1, e2]
      clear e1 e2 ok
      obtain ⟨l, e⟩ := s
      simp only at he hn hb hv ok' ⊢
      subst he
      obtain ⟨a, cap, rfl, g1, g2, g3⟩ := hv.shape
      have c0 := hb.cell 0
      have c1 := hb.cell 1
      simp at c0 c1
      have h0 : ¬ n < 0 := by omega
      have HB := hid hb
      have OK' := hid ok'
      clear hv g3 hb ok'
      go_enter Try.func70, Try.ntmps70
      go_wp2_with fail
      refine (fail r _ 0 21 w HB.out).mono ?_
      rintro e1 w1 ⟨rfl, h1, h2⟩
      go_wp2
      go_ret
      exact ⟨_, rfl, h2, Bs.nil _ _ _, OK'.out, _, h1, Bs.nil _ _ _⟩
  · have e1 : s.raw n = [] := if_neg (fun h => he h.1)
    have e2 : s.rawS n = s := if_neg he
    rw [e2] at ok'
    rw [e1, e2]
    have hfin : ∃ v, Ending.returned (.slice none 0 0) = .returned v ∧ Kept (Just r) w w ∧ Bs w lo hi v [] ∧ Rd w lo hi r s := ⟨_, rfl, Kept.refl _ _, Bs.nil _ _ _, ok, v, hb, hv⟩
    have c1 := hb.cell 1
    have he' : (s.e != 0) = true := by simpa using he
    simp at c1
    clear e1 e2 ok hb hv ok'
    go_enter Try.func70, Try.ntmps70
    go_wp2
    all_goals
      go_ret
      exact hfin

set_option maxHeartbeats 400000 in
/-- (*postmarkref1.Reader).Num. -/
theorem rnum (r : Nat) (lo hi : Nat) (s : St) (w : World) (hr : Rd w lo hi r s) (hlo : hi ≤ r) :
    Calls Try.prog 46 #[.pointer (some ⟨r, 0, none⟩)] w fun en w' => en = .returned (.int .u64 s.num) ∧ Kept (Just r) w w' ∧ Rd w' lo hi r s.numS := by
  have eS : s.rawS 8 = s.numS := by
    unfold St.rawS St.numS
    by_cases h : 8 ≤ s.l.length
    · rw [if_pos (show (8 : Int) ≤ s.l.length by omega), if_pos h]; rfl
    · rw [if_neg (show ¬ (8 : Int) ≤ s.l.length by omega), if_neg h]
  rw [← eS]
  by_cases hc : s.e = 0 ∧ 8 ≤ s.l.length
  · have eN : s.num = leV s.l := if_pos hc
    have eR : s.raw 8 = s.l.take 8 := by unfold St.raw; rw [if_pos ⟨hc.1, by omega⟩]; rfl
    have eE : (s.rawS 8).e = 0 := by unfold St.rawS; rw [if_pos hc.1]; rw [if_pos (by omega)]
    rw [eN, ← leV_take, ← eR]
    have hl : (s.raw 8).length = 8 := by rw [eR]; simp; omega
    have HL := hid hl
    have EE := hid eE
    clear eN eR hc eS hl eE
    go_enter Try.func46, Try.ntmps46
    go_wp2_with fail
    refine (rraw r lo hi s 8 w hr (by omega) (by omega) hlo).mono ?_
    rintro e1 w1 ⟨v, rfl, hk, hb, hr'⟩
    have hr2 := hr'
    obtain ⟨ok, v', hb', hv'⟩ := hr'
    rw [EE.out] at hb'
    have c1 := hb'.cell 1
    simp at c1
    clear hb' hv' ok
    go_wp2_with fail
    refine (word v lo hi _ w1 hb HL.out).mono ?_
    rintro e1 w2 ⟨rfl, rfl⟩
    go_wp2
    go_ret
    exact ⟨rfl, hk, hr2⟩
  · have eN : s.num = 0 := if_neg hc
    have eE : (s.rawS 8).e ≠ 0 := by
      unfold St.rawS
      by_cases h : s.e = 0
      · rw [if_pos h, if_neg (fun h2 => hc ⟨h, by omega⟩)]; decide
      · rw [if_neg h]; exact h
    rw [eN]
    have eB : ((s.rawS 8).e != 0) = true := by simpa using eE
    clear eN eS eE
    go_enter Try.func46, Try.ntmps46
    go_wp2_with fail
    refine (rraw r lo hi s 8 w hr (by omega) (by omega) hlo).mono ?_
    rintro e1 w1 ⟨v, rfl, hk, hb, hr'⟩
    have hr2 := hr'
    obtain ⟨ok, v', hb', hv'⟩ := hr'
    have c1 := hb'.cell 1
    simp at c1
    clear hb' hv' ok
    go_wp2
    go_ret
    exact ⟨rfl, hk, hr2⟩

end Ref
end Go.Proofs.Ytbebpnanhkcngaa
namespace Go.Proofs.Ytbebpnanhkcngaa
open Go.RowKit Go.Pm
namespace Bin
set_option maxHeartbeats 400000 in
/-- (*bin.Reader).Lump. -/
theorem rlump (r : Nat) (lo hi : Nat) (s : St) (m : Int) (w : World) (hr : Rd w lo hi r s) (h1 : -9223372036854775808 ≤ m) (h2 : m < 9223372036854775808) (hlo : hi ≤ r) (hl : s.l.length ≤ 140737488355328) :
    Calls Try.prog 95 #[.pointer (some ⟨r, 0, none⟩), .int .i64 m] w fun en w' => ∃ v, en = .returned v ∧ Kept (Just r) w w' ∧ Ob w' w.heap.size v (s.lump m) ∧ Rd w' lo hi r (s.lumpS m) := by
  have n0 := s.num_ge
  have n1 := s.num_lt
  have nl : s.numS.l.length ≤ 140737488355328 := Nat.le_trans (St.numS_len s) hl
  have no : ¬ s.num ≤ max m 0 → s.numS.e = 0 ∧ s.lump m = [] ∧ s.lumpS m = ⟨[], firstErr s.numS.e 22⟩ := fun h => by
    have h0 : s.numS.e = 0 := by
      have h3 : s.e = 0 ∧ 8 ≤ s.l.length := by
        by_cases h4 : s.e = 0 ∧ 8 ≤ s.l.length
        · exact h4
        · have : s.num = 0 := if_neg h4
          omega
      unfold St.numS
      rw [if_pos h3.1, if_pos h3.2]
    refine ⟨h0, ?_, ?_⟩
    · unfold St.lump; rw [if_neg (fun h5 => h h5.2)]
    · unfold St.lumpS; rw [if_pos h0, if_neg h, h0]; rfl
  have yes : s.num ≤ max m 0 → s.lump m = s.numS.raw s.num ∧ s.lumpS m = s.numS.rawS s.num := fun h => by
    unfold St.lump St.lumpS
    by_cases h0 : s.numS.e = 0
    · rw [if_pos ⟨h0, h⟩, if_pos h0, if_pos h]; exact ⟨rfl, rfl⟩
    · rw [if_neg (fun h5 => h0 h5.1), if_neg h0]
      constructor
      · unfold St.raw; rw [if_neg (fun h5 => h0 h5.1)]
      · unfold St.rawS; rw [if_neg h0]
  have ok' : (s.lumpS m).Ok := St.lumpS_ok hr.1 m
  have NO := hid no
  have YES := hid yes
  have OK' := hid ok'
  clear no yes ok'
  by_cases hc : s.num ≤ max m 0
  · rw [(YES.out hc).1, (YES.out hc).2]
    by_cases hm : m < 0
    · have hc' : s.num ≤ 0 := by omega
      clear hc
      go_enter Try.func95, Try.ntmps95
      go_wp2_with fail
      refine (rnum r lo hi s w hr hlo).mono ?_
      rintro e1 w1 ⟨rfl, hk, hr'⟩
      have hsz := hk.size
      go_wp2_with fail
      refine (rraw r lo hi s.numS _ w1 hr' (by omega) (by omega) hlo nl).mono ?_
      rintro e2 w2 ⟨v, rfl, hk2, hb2, hr2⟩
      go_wp2
      go_ret
      exact ⟨_, rfl, hk.trans hk2, hb2.base hsz, hr2⟩
    · have hc' : s.num ≤ m := by omega
      clear hc
      go_enter Try.func95, Try.ntmps95
      go_wp2_with fail
      refine (rnum r lo hi s w hr hlo).mono ?_
      rintro e1 w1 ⟨rfl, hk, hr'⟩
      have hsz := hk.size
      go_wp2_with fail
      refine (rraw r lo hi s.numS _ w1 hr' (by omega) (by omega) hlo nl).mono ?_
      rintro e2 w2 ⟨v, rfl, hk2, hb2, hr2⟩
      go_wp2
      go_ret
      exact ⟨_, rfl, hk.trans hk2, hb2.base hsz, hr2⟩
  · rw [(NO.out hc).2.1, (NO.out hc).2.2]
    rw [(NO.out hc).2.2] at OK'
    by_cases hm : m < 0
    · have hc' : 0 < s.num := by omega
      clear hc
      go_enter Try.func95, Try.ntmps95
      go_wp2_with fail
      refine (rnum r lo hi s w hr hlo).mono ?_
      rintro e1 w1 ⟨rfl, hk, ok2, v, hb', hv'⟩
      go_wp2_with fail
      refine (fail r v s.numS.e 22 w1 hb').mono ?_
      rintro e2 w2 ⟨rfl, hb2, hk2⟩
      go_wp2
      go_ret
      exact ⟨_, rfl, hk.trans hk2, Bo.nil _ _ _, OK'.out, _, hb2, Bs.nil _ _ _⟩
    · have hc' : m < s.num := by omega
      clear hc
      go_enter Try.func95, Try.ntmps95
      go_wp2_with fail
      refine (rnum r lo hi s w hr hlo).mono ?_
      rintro e1 w1 ⟨rfl, hk, ok2, v, hb', hv'⟩
      go_wp2_with fail
      refine (fail r v s.numS.e 22 w1 hb').mono ?_
      rintro e2 w2 ⟨rfl, hb2, hk2⟩
      go_wp2
      go_ret
      exact ⟨_, rfl, hk.trans hk2, Bo.nil _ _ _, OK'.out, _, hb2, Bs.nil _ _ _⟩

end Bin
namespace Ref
set_option maxHeartbeats 1000000 in
/-- (*postmarkref1.Reader).Lump. -/
theorem rlump (r : Nat) (lo hi : Nat) (s : St) (m : Int) (w : World) (hr : Rd w lo hi r s) (h1 : -9223372036854775808 ≤ m) (h2 : m < 9223372036854775808) (hlo : hi ≤ r) :
    Calls Try.prog 71 #[.pointer (some ⟨r, 0, none⟩), .int .i64 m] w fun en w' => ∃ v, en = .returned v ∧ Kept (Just r) w w' ∧ Bs w' lo hi v (s.lump m) ∧ Rd w' lo hi r (s.lumpS m) := by
  have n0 := s.num_ge
  have n1 := s.num_lt
  have ok' : (s.lumpS m).Ok := St.lumpS_ok hr.1 m
  have OK' := hid ok'
  clear ok'
  by_cases he : s.numS.e = 0
  · have heB : (s.numS.e != 0) = false := by simpa using he
    by_cases hc : s.num ≤ max m 0
    · have e1 : s.lump m = s.numS.raw s.num := if_pos ⟨he, hc⟩
      have e2 : s.lumpS m = s.numS.rawS s.num := by unfold St.lumpS; rw [if_pos he, if_pos hc]
      rw [e1, e2]
      clear e1 e2 he
      by_cases hm : m < 0
      · have hc' : s.num ≤ 0 := by omega
        clear hc
        go_enter Try.func71, Try.ntmps71
        go_wp2_with fail
        refine (rnum r lo hi s w hr hlo).mono ?_
        rintro e1 w1 ⟨rfl, hk, hr'⟩
        have hr2 := hr'
        obtain ⟨ok, v', hb', hv'⟩ := hr'
        have c1 := hb'.cell 1
        simp at c1
        clear hb' hv' ok
        go_wp2_with fail
        refine (rraw r lo hi s.numS _ w1 hr2 (by omega) (by omega) hlo).mono ?_
        rintro e2 w2 ⟨v, rfl, hk2, hb2, hr3⟩
        go_wp2
        go_ret
        exact ⟨_, rfl, hk.trans hk2, hb2, hr3⟩
      · have hc' : s.num ≤ m := by omega
        clear hc
        go_enter Try.func71, Try.ntmps71
        go_wp2_with fail
        refine (rnum r lo hi s w hr hlo).mono ?_
        rintro e1 w1 ⟨rfl, hk, hr'⟩
        have hr2 := hr'
        obtain ⟨ok, v', hb', hv'⟩ := hr'
        have c1 := hb'.cell 1
        simp at c1
        clear hb' hv' ok
        go_wp2_with fail
        refine (rraw r lo hi s.numS _ w1 hr2 (by omega) (by omega) hlo).mono ?_
        rintro e2 w2 ⟨v, rfl, hk2, hb2, hr3⟩
        go_wp2
        go_ret
        exact ⟨_, rfl, hk.trans hk2, hb2, hr3⟩
    · have e1 : s.lump m = [] := if_neg (fun h => hc h.2)
      have e2 : s.lumpS m = ⟨[], 22⟩ := by unfold St.lumpS; rw [if_pos he, if_neg hc]
      rw [e1, e2]
      rw [e2] at OK'
      clear e1 e2
      by_cases hm : m < 0
      · have hc' : 0 < s.num := by omega
        clear hc he
        go_enter Try.func71, Try.ntmps71
        go_wp2_with fail
        refine (rnum r lo hi s w hr hlo).mono ?_
        rintro e1 w1 ⟨rfl, hk, hr'⟩
        obtain ⟨ok, v', hb', hv'⟩ := hr'
        have c1 := hb'.cell 1
        simp at c1
        have HB := hid hb'
        clear hb' hv' ok
        go_wp2_with fail
        refine (fail r v' s.numS.e 22 w1 HB.out).mono ?_
        rintro e2 w2 ⟨rfl, hb2, hk2⟩
        go_wp2
        go_ret
        exact ⟨_, rfl, hk.trans hk2, Bs.nil _ _ _, OK'.out, _, hb2, Bs.nil _ _ _⟩
      · have hc' : m < s.num := by omega
        clear hc he
        go_enter Try.func71, Try.ntmps71
        go_wp2_with fail
        refine (rnum r lo hi s w hr hlo).mono ?_
        rintro e1 w1 ⟨rfl, hk, hr'⟩
        obtain ⟨ok, v', hb', hv'⟩ := hr'
        have c1 := hb'.cell 1
        simp at c1
        have HB := hid hb'
        clear hb' hv' ok
        go_wp2_with fail
        refine (fail r v' s.numS.e 22 w1 HB.out).mono ?_
        rintro e2 w2 ⟨rfl, hb2, hk2⟩
        go_wp2
        go_ret
        exact ⟨_, rfl, hk.trans hk2, Bs.nil _ _ _, OK'.out, _, hb2, Bs.nil _ _ _⟩
  · have heB : (s.numS.e != 0) = true := by simpa using he
    have e1 : s.lump m = [] := if_neg (fun h => he h.1)
    have e2 : s.lumpS m = s.numS := by unfold St.lumpS; rw [if_neg he]
    rw [e1, e2]
    clear e1 e2 he
    go_enter Try.func71, Try.ntmps71
    go_wp2_with fail
    refine (rnum r lo hi s w hr hlo).mono ?_
    rintro e1 w1 ⟨rfl, hk, hr'⟩
    have hr2 := hr'
    obtain ⟨ok, v', hb', hv'⟩ := hr'
    have c1 := hb'.cell 1
    simp at c1
    clear hb' hv' ok
    go_wp2
    go_ret
    exact ⟨_, rfl, hk, Bs.nil _ _ _, hr2⟩
end Ref
end Go.Proofs.Ytbebpnanhkcngaa
