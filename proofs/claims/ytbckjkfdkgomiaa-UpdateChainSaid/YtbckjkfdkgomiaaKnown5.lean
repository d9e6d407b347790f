/- postmarklaw5.known: true. -/
import Derived.Test.YtbckjkfdkgomiaaLowUpdRead
namespace Go.Proofs.Ytbckjkfdkgomiaa
open Go.RowKit Go.Pm

set_option maxRecDepth 100000 in
set_option maxHeartbeats 2000000 in
theorem known5 (w : World) : Calls Try.prog 7 #[] w fun e w' => e = .returned (.bool true) ∧ Kept None w w' := by
  have l1 := sigR_lt 9 (msgB ⟨#[97]⟩ 1 7)
  have l2 := sigS_lt 9 (msgB ⟨#[97]⟩ 1 7)
  have h1 : ∀ w, Calls Try.prog 19 #[.int .u64 9, .agg #[.string ⟨#[97]⟩, .int .i64 1, .int .u64 7, .int .i64 1, .int .u64 0, .int .u64 0]] w fun e w' => e = .returned (.agg #[.string ⟨#[97]⟩, .int .i64 1, .int .u64 7, .int .i64 1, .int .u64 (sigR 9 (msgB ⟨#[97]⟩ 1 7) : Nat), .int .u64 (sigS 9 (msgB ⟨#[97]⟩ 1 7) : Nat)]) ∧ Kept None w w' :=
    fun w => Up.sign 9 ⟨#[97]⟩ 1 1 7 0 0 w (by decide) (by decide)
  obtain ⟨R, hR⟩ : ∃ R, R = sigR 9 (msgB ⟨#[97]⟩ 1 7) := ⟨_, rfl⟩
  obtain ⟨S, hS⟩ : ∃ S, S = sigS 9 (msgB ⟨#[97]⟩ 1 7) := ⟨_, rfl⟩
  rw [← hR] at l1 h1
  rw [← hS] at l2 h1
  have l1' : R < 18446744073709551616 := Nat.lt_trans l1 (by decide)
  have l2' : S < 18446744073709551616 := Nat.lt_trans l2 (by decide)
  have hb : rightB (⟨#[97]⟩ : ByteArray).size 1 7 1 = true := by decide
  have g0 := read_put ⟨#[97]⟩ 1 7 1 R S hb l1' l2'
  have g1 := read_more ⟨#[97]⟩ 1 7 1 R S (Go.Pm.byteOf 0) hb l1' l2'
  have hB : (putB ⟨#[97]⟩ 1 7 1 R S).length = 49 := by rw [putB_len]; rfl
  have h2 : ∀ w, Calls Try.prog 11 #[.agg #[.string ⟨#[97]⟩, .int .i64 1, .int .u64 7, .int .i64 1, .int .u64 (R : Int), .int .u64 (S : Int)]] w fun e w' => ∃ u, e = .returned (.tuple #[u, .int .i64 0]) ∧ Kept None w w' ∧ Ob w' w.heap.size u (putB ⟨#[97]⟩ 1 7 1 R S) := fun w => by
    have h := Up.put ⟨#[97]⟩ 1 1 7 R S w l1' l2'
    rw [show putE (⟨#[97]⟩ : ByteArray).size 1 7 1 = 0 by decide, show putL ⟨#[97]⟩ 1 7 1 R S = putB ⟨#[97]⟩ 1 7 1 R S by unfold putL; rw [hb]; rfl] at h
    exact h
  have h3 : ∀ v lo hi w, Bs w lo hi v (putB ⟨#[97]⟩ 1 7 1 R S) → Calls Try.prog 24 #[v] w fun e w' => e = .returned (.tuple #[.agg #[.string ⟨#[97]⟩, .int .i64 1, .int .u64 7, .int .i64 1, .int .u64 (R : Int), .int .u64 (S : Int)], .int .i64 0]) ∧ Kept None w w' := fun v lo hi w h => by
    have h := Up.read v lo hi _ w h
    rw [g0.1, g0.2] at h
    exact h
  have h4 : ∀ v lo hi w, Bs w lo hi v (putB ⟨#[97]⟩ 1 7 1 R S ++ [Go.Pm.byteOf 0]) → Calls Try.prog 24 #[v] w fun e w' => e = .returned (.tuple #[.agg #[.string ⟨#[]⟩, .int .i64 0, .int .u64 0, .int .i64 0, .int .u64 0, .int .u64 0], .int .i64 20]) ∧ Kept None w w' := fun v lo hi w h => by
    have h := Up.read v lo hi _ w h
    rw [Up.readQ_none g1 (by decide), g1] at h
    exact h
  have h5 : ∀ w, Calls Try.prog 11 #[.agg #[.string ⟨#[]⟩, .int .i64 0, .int .u64 0, .int .i64 0, .int .u64 0, .int .u64 0]] w fun e w' => ∃ u, e = .returned (.tuple #[u, .int .i64 23]) ∧ Kept None w w' := fun w => by
    have h := Up.put ⟨#[]⟩ 0 0 0 0 0 w (by decide) (by decide)
    rw [show putE (⟨#[]⟩ : ByteArray).size 0 0 0 = 23 by decide] at h
    exact h.mono fun e w' ⟨u, a, b, _⟩ => ⟨u, a, b⟩
  have h6 : ∀ w, Calls Try.prog 14 #[.agg #[.string ⟨#[97]⟩, .int .i64 1, .int .u64 7, .int .i64 1, .int .u64 (R : Int), .int .u64 (S : Int)]] w fun e w' => e = .returned (.bool true) ∧ Kept None w w' := fun w => by
    have h := Up.right ⟨#[97]⟩ 1 1 7 R S w
    rw [hb] at h
    exact h
  have h7 : ∀ w, Calls Try.prog 16 #[.agg #[.string ⟨#[97]⟩, .int .i64 1, .int .u64 7, .int .i64 1, .int .u64 (R : Int), .int .u64 (S : Int)]] w fun e w' => e = .returned (.agg #[.string ⟨#[97]⟩, .int .i64 1, .int .u64 7]) ∧ Kept None w w' := fun w => Up.entry ⟨#[97]⟩ 1 1 7 R S w
  obtain ⟨B, hBB⟩ : ∃ B, B = putB ⟨#[97]⟩ 1 7 1 R S := ⟨_, rfl⟩
  rw [← hBB] at hB h2 h3 h4
  obtain ⟨B2, hB2⟩ : ∃ B2, B2 = B ++ [Go.Pm.byteOf 0] := ⟨_, rfl⟩
  rw [← hB2] at h4
  have HB2 := hid hB2
  clear hB2
  have H := hid (And.intro h1 (And.intro h2 (And.intro h3 (And.intro h4 (And.intro h5 (And.intro h6 (And.intro h7 hB)))))))
  clear h1 h2 h3 h4 h5 h6 h7 l1 l2 l1' l2' hb g0 g1 hB hR hS hBB
  go_enter Try.func7, Try.ntmps7
  go_wp2_with fail
  refine (H.out.1 _).mono ?_
  rintro e w1 ⟨rfl, k1⟩
  have hU := Blk.new w1 #[.string ⟨#[97]⟩, .int .i64 1, .int .u64 7, .int .i64 1, .int .u64 (R : Int), .int .u64 (S : Int)] 26
  have k01 := k1.alloc (.cells #[.string ⟨#[97]⟩, .int .i64 1, .int .u64 7, .int .i64 1, .int .u64 (R : Int), .int .u64 (S : Int)] 26)
  clear k1
  go_wp2_with (first | (refine wpList_load_blk rfl _ _ rfl rfl hU Up.aUpd ?_) | fail)
  refine (H.out.2.1 _).mono ?_
  rintro e w2 ⟨uB, rfl, k2, b2⟩
  have k02 := k01.trans k2
  have hU2 := hU.kept k2 (fun h => h)
  have hul := hU2.lt
  have d2 := b2.bs (Nat.le_refl _)
  obtain ⟨aB, cB, rfl⟩ := b2.form
  rw [H.out.2.2.2.2.2.2.2] at d2 ⊢
  clear hU k01 k2 b2
  go_wp2_with fail
  refine (H.out.2.2.1 _ _ _ _ d2).mono ?_
  rintro e w3 ⟨rfl, k3⟩
  have hws := (k02.trans k3).size
  have k03 := (k02.trans k3).alloc (.cells #[.string ⟨#[97]⟩, .int .i64 1, .int .u64 7, .int .i64 1, .int .u64 (R : Int), .int .u64 (S : Int)] 26)
  have kk3 := k3.alloc (.cells #[.string ⟨#[97]⟩, .int .i64 1, .int .u64 7, .int .i64 1, .int .u64 (R : Int), .int .u64 (S : Int)] 26)
  have hU3 := hU2.kept kk3 (fun h => h)
  have hV3 := Blk.new w3 #[.string ⟨#[97]⟩, .int .i64 1, .int .u64 7, .int .i64 1, .int .u64 (R : Int), .int .u64 (S : Int)] 26
  have d3 := d2.kept kk3 (fun _ _ _ h => h)
  have hgt : w1.heap.size < w3.heap.size := Nat.lt_of_lt_of_le hul k3.size
  clear k02 hU2 d2 k3 hul
  have hwl : w3.heap.size + 1 ≤ (w3.alloc (.cells #[.string ⟨#[97]⟩, .int .i64 1, .int .u64 7, .int .i64 1, .int .u64 (R : Int), .int .u64 (S : Int)] 26)).heap.size := by simp
  go_wp2_with (first | (at_builtin; refine wpList_append_bo (l := []) (m := B) (base := w3.heap.size + 1) rfl _ _ 32 rfl rtBytes rfl rfl (Bo.nil _ _ _) d3 (by have := H.out.2.2.2.2.2.2.2; simp; omega) hwl ?k4) | fail)
  case k4 =>
    intro a4 n4 c4 w4 b4 k4
    have hU4 := hU3.kept k4 (fun h => by cases h)
    have hV4 := hV3.kept k4 (fun h => by cases h)
    have k04 := k03.then k4 (fun i _ h => by cases h)
    have hs4 : w3.heap.size + 1 ≤ w4.heap.size := hV4.lt
    clear d3 kk3 hU3 hV3 k03 k4 hwl
    go_wp2_with (first | (at_builtin; refine wpList_append_byte (l := B) (base := w3.heap.size + 1) (b := 0) rfl _ _ 32 rfl rtBytes rfl rfl b4 (by decide) (by decide) (by have := H.out.2.2.2.2.2.2.2; omega) hs4 ?k5) | fail)
    case k5 =>
      intro a5 n5 c5 w5 b5 k5
      have hO : ∀ k, (Value.slice a4 n4 c4).ownBlock = some k → w3.heap.size + 1 ≤ k := fun k hk => (b4.own k hk).1
      have hU5 := hU4.kept k5 (fun h => by have := hO _ h; omega)
      have hV5 := hV4.kept k5 (fun h => by have := hO _ h; omega)
      have k05 := k04.own k5 (fun k hk => by have := hO k hk; omega)
      rw [← HB2.out] at b5
      have d5 := b5.bs (Nat.le_refl _)
      obtain ⟨aX, cX, hX⟩ := b5.form
      rw [hX] at d5 ⊢
      clear b4 hU4 hV4 k04 k5 hO b5 hs4
      go_wp2_with fail
      refine (H.out.2.2.2.1 _ _ _ _ d5).mono ?_
      rintro e w6 ⟨rfl, k6⟩
      have kk6 := k6.alloc (.cells #[.string ⟨#[]⟩, .int .i64 0, .int .u64 0, .int .i64 0, .int .u64 0, .int .u64 0] 26)
      have hU6 := hU5.kept kk6 (fun h => h)
      have hV6 := hV5.kept kk6 (fun h => h)
      have k06 := k05.trans kk6
      clear hU5 hV5 k05 k6 kk6 d5
      go_wp2_with fail
      refine (H.out.2.2.2.2.1 _).mono ?_
      rintro e w8 ⟨uZ, rfl, k8⟩
      have hU8 := hU6.kept k8 (fun h => h)
      have hV8 := hV6.kept k8 (fun h => h)
      have k08 := k06.trans k8
      clear hU6 hV6 k06 k8
      have c0 : w8.cell? ⟨w1.heap.size, 0, none⟩ = some (.string ⟨#[97]⟩) := hU8.cell 0
      have d0 : w8.cell? ⟨w3.heap.size, 0, none⟩ = some (.string ⟨#[97]⟩) := hV8.cell 0
      have c1 : w8.cell? ⟨w1.heap.size, 1, none⟩ = some (.int .i64 1) := hU8.cell 1
      have d1 : w8.cell? ⟨w3.heap.size, 1, none⟩ = some (.int .i64 1) := hV8.cell 1
      have c2 : w8.cell? ⟨w1.heap.size, 2, none⟩ = some (.int .u64 7) := hU8.cell 2
      have d2 : w8.cell? ⟨w3.heap.size, 2, none⟩ = some (.int .u64 7) := hV8.cell 2
      have c3 : w8.cell? ⟨w1.heap.size, 3, none⟩ = some (.int .i64 1) := hU8.cell 3
      have d3 : w8.cell? ⟨w3.heap.size, 3, none⟩ = some (.int .i64 1) := hV8.cell 3
      have c4 : w8.cell? ⟨w1.heap.size, 4, none⟩ = some (.int .u64 (R : Int)) := hU8.cell 4
      have d4 : w8.cell? ⟨w3.heap.size, 4, none⟩ = some (.int .u64 (R : Int)) := hV8.cell 4
      have c5 : w8.cell? ⟨w1.heap.size, 5, none⟩ = some (.int .u64 (S : Int)) := hU8.cell 5
      have d5 : w8.cell? ⟨w3.heap.size, 5, none⟩ = some (.int .u64 (S : Int)) := hV8.cell 5
      go_wp2_with fail
      refine (H.out.2.2.2.2.2.1 _).mono ?_
      rintro e w9 ⟨rfl, k9⟩
      have hU9 := hU8.kept k9 (fun h => h)
      have k09 := k08.trans k9
      clear hU8 hV8 k08 k9 c0 c1 c2 c3 c4 c5 d0 d1 d2 d3 d4 d5
      have c0 : w9.cell? ⟨w1.heap.size, 0, none⟩ = some (.string ⟨#[97]⟩) := hU9.cell 0
      have c1 : w9.cell? ⟨w1.heap.size, 1, none⟩ = some (.int .i64 1) := hU9.cell 1
      have c2 : w9.cell? ⟨w1.heap.size, 2, none⟩ = some (.int .u64 7) := hU9.cell 2
      have c3 : w9.cell? ⟨w1.heap.size, 3, none⟩ = some (.int .i64 1) := hU9.cell 3
      have c4 : w9.cell? ⟨w1.heap.size, 4, none⟩ = some (.int .u64 (R : Int)) := hU9.cell 4
      have c5 : w9.cell? ⟨w1.heap.size, 5, none⟩ = some (.int .u64 (S : Int)) := hU9.cell 5
      go_wp2_with fail
      refine (H.out.2.2.2.2.2.2.1 _).mono ?_
      rintro e w10 ⟨rfl, k10⟩
      have k010 := k09.trans k10
      go_wp2
      go_ret
      exact ⟨rfl, k010⟩
end Go.Proofs.Ytbckjkfdkgomiaa
