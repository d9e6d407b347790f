/- postmarklaw4.SigsBounds: true. -/
import Derived.Test.YtpoaehhmahkeaaaKnown4
namespace Go.Proofs.Ytpoaehhmahkeaaa
open Go.RowKit Go.Pm

theorem not_fits (y r s : Nat) (v : Value) (lo hi : Nat) (m : List UInt8) (w : World) (hv : Bs w lo hi v m) (hl : m.length ≤ 549755813888) (h : checkN y m r s = false) :
    Calls Try.prog 13 #[.int .u64 y, v, Sg.sigV r s] w fun e w' => e = .returned (.bool false) ∧ Kept None w w' := by
  have h2 := Sg.check y r s v lo hi m w hv hl
  rw [h] at h2
  exact h2

/-- The signature that is bent. -/
def badSig (R S : Int) : Nat → Int × Int
  | 0 => (0, S)
  | 1 => (2305843009213693951, S)
  | 2 => (R, 2305843009213693950)
  | 3 => (R, 18446744073709551615)
  | _ => (18446744073709551615, S)

set_option maxHeartbeats 4000000 in
theorem sigsBounds (n : Nat) (v : Value) (lo hi : Nat) (m : List UInt8) (k : Nat) (w : World) (hv : Bs w lo hi v m) (hk : k < 256) : Calls Try.prog 7 #[.int .u64 n, v, .int .u8 k] w fun e w' => e = .returned (.bool true) ∧ Kept None w w' := by
  have HV := hid hv
  obtain ⟨a, cap, rfl, g1, g2, g3⟩ := hv.shape
  clear hv g3
  by_cases hl : 60 < m.length
  · go_enter Try.func7, Try.ntmps7
    go_wp2_with fail
    refine (known _).mono ?_
    rintro e w1 ⟨rfl, k1⟩
    go_wp2
    go_ret
    exact ⟨rfl, k1⟩
  · have hl' : m.length ≤ 549755813888 := by omega
    have c1 := fun w => Sg.pub n w
    have c2 := fun v lo hi w h => Sg.sign n v lo hi m w h hl'
    have c3 := fun v lo hi w h => Sg.check (pubN n) (sigR n m) (sigS n m) v lo hi m w h hl'
    rw [check_sign] at c3
    have n0 := fun v lo hi w h => not_fits 0 (sigR n m) (sigS n m) v lo hi m w h hl' (check_y m _ _ fits_none)
    have n1 := fun v lo hi w h => not_fits 2305843009213693951 (sigR n m) (sigS n m) v lo hi m w h hl' (check_y m _ _ (fits_great (by decide)))
    have n2 := fun v lo hi w h => not_fits 18446744073709551615 (sigR n m) (sigS n m) v lo hi m w h hl' (check_y m _ _ (fits_great (by decide)))
    have b0 := fun v lo hi w h => not_fits (pubN n) 0 (sigS n m) v lo hi m w h hl' (check_r _ m _ fits_none)
    have b1 := fun v lo hi w h => not_fits (pubN n) 2305843009213693951 (sigS n m) v lo hi m w h hl' (check_r _ m _ (fits_great (by decide)))
    have b2 := fun v lo hi w h => not_fits (pubN n) (sigR n m) 2305843009213693950 v lo hi m w h hl' (check_s _ m _ (by decide))
    have b3 := fun v lo hi w h => not_fits (pubN n) (sigR n m) 18446744073709551615 v lo hi m w h hl' (check_s _ m _ (by decide))
    have b4 := fun v lo hi w h => not_fits (pubN n) 18446744073709551615 (sigS n m) v lo hi m w h hl' (check_r _ m _ (fits_great (by decide)))
    obtain ⟨R, hR⟩ : ∃ R, R = sigR n m := ⟨_, rfl⟩
    obtain ⟨S, hS⟩ : ∃ S, S = sigS n m := ⟨_, rfl⟩
    obtain ⟨Y, hY⟩ : ∃ Y, Y = pubN n := ⟨_, rfl⟩
    rw [← hY] at c1
    rw [← hR, ← hS] at c2
    rw [← hR, ← hS, ← hY] at c3
    rw [← hR, ← hS] at n0 n1 n2
    rw [← hY, ← hS] at b0 b1 b4
    rw [← hY, ← hR] at b2 b3
    have bad : ∀ j, j < 5 → ∀ (v : Value) (lo hi : Nat) (w : World), Bs w lo hi v m → Calls Try.prog 13 #[.int .u64 Y, v, .agg #[.int .u64 (badSig R S j).1, .int .u64 (badSig R S j).2]] w fun e w' => e = .returned (.bool false) ∧ Kept None w w' := fun j hj => by
      match j, hj with
      | 0, _ => exact b0
      | 1, _ => exact b1
      | 2, _ => exact b2
      | 3, _ => exact b3
      | 4, _ => exact b4
    have C := hid (And.intro c1 (And.intro c2 (And.intro c3 (And.intro n0 (And.intro n1 n2)))))
    have HB := hid bad
    clear c1 c2 c3 n0 n1 n2 b0 b1 b2 b3 b4 bad hR hS hY hl'
    have hj : ((k : Int) % 5 = 0 ∨ (k : Int) % 5 = 1 ∨ (k : Int) % 5 = 2 ∨ (k : Int) % 5 = 3 ∨ (k : Int) % 5 = 4) := by omega
    go_enter Try.func7, Try.ntmps7
    go_wp2_with fail
    refine (known _).mono ?_
    rintro e w1 ⟨rfl, k1⟩
    have hv1 := HV.out.kept k1 (fun _ _ _ h => h)
    clear HV
    go_wp2_with fail
    refine (C.out.1 _).mono ?_
    rintro e w2 ⟨rfl, k2⟩
    have hv2 := hv1.kept k2 (fun _ _ _ h => h)
    have k02 := k1.trans k2
    clear hv1 k1 k2
    go_wp2_with fail
    refine (C.out.2.1 _ _ _ _ hv2).mono ?_
    rintro e w3 ⟨rfl, k3⟩
    have hv3 := hv2.kept k3 (fun _ _ _ h => h)
    have k03 := k02.trans k3
    clear hv2 k02 k3
    rcases hj with hj | hj | hj | hj | hj
    case' inl => have hb := HB.out 0 (by decide)
    case' inr.inl => have hb := HB.out 1 (by decide)
    case' inr.inr.inl => have hb := HB.out 2 (by decide)
    case' inr.inr.inr.inl => have hb := HB.out 3 (by decide)
    case' inr.inr.inr.inr => have hb := HB.out 4 (by decide)
    all_goals
      have HJ := hid hb
      clear hb HB
      go_wp2_with fail
      refine (HJ.out _ lo hi _ ?_).mono ?_
      · exact hv3.kept ((((Kept.refl None w3).alloc _).alloc _).alloc _) (fun _ _ _ h => h)
      rintro e w5 ⟨rfl, k5⟩
      have hB5 : Blk w5 w3.heap.size #[.int .u64 (R : Int), .int .u64 (S : Int)] 25 := (((Blk.new w3 _ _).alloc _).alloc _).kept k5 (fun h => h)
      have kk := ((((Kept.refl None w3).alloc _).alloc _).alloc _).trans k5
      have hv5 := hv3.kept kk (fun _ _ _ h => h)
      have k05 := k03.trans kk
      have d0 : w5.cell? ⟨w3.heap.size, 0, none⟩ = some (.int .u64 (R : Int)) := hB5.cell 0
      have d1 : w5.cell? ⟨w3.heap.size, 1, none⟩ = some (.int .u64 (S : Int)) := hB5.cell 1
      clear hv3 k03 k5 kk HJ
      go_wp2_with fail
      refine (C.out.2.2.2.1 _ _ _ _ hv5).mono ?_
      rintro e w6 ⟨rfl, kk⟩
      have hB6 := hB5.kept kk (fun h => h)
      have hv6 := hv5.kept kk (fun _ _ _ h => h)
      have k06 := k05.trans kk
      clear kk hB5 hv5 k05 d0 d1
      have d0 : w6.cell? ⟨w3.heap.size, 0, none⟩ = some (.int .u64 (R : Int)) := hB6.cell 0
      have d1 : w6.cell? ⟨w3.heap.size, 1, none⟩ = some (.int .u64 (S : Int)) := hB6.cell 1
      go_wp2_with fail
      refine (C.out.2.2.2.2.1 _ _ _ _ hv6).mono ?_
      rintro e w7 ⟨rfl, kk⟩
      have hB7 := hB6.kept kk (fun h => h)
      have hv7 := hv6.kept kk (fun _ _ _ h => h)
      have k07 := k06.trans kk
      clear kk hB6 hv6 k06 d0 d1
      have d0 : w7.cell? ⟨w3.heap.size, 0, none⟩ = some (.int .u64 (R : Int)) := hB7.cell 0
      have d1 : w7.cell? ⟨w3.heap.size, 1, none⟩ = some (.int .u64 (S : Int)) := hB7.cell 1
      go_wp2_with fail
      refine (C.out.2.2.2.2.2 _ _ _ _ hv7).mono ?_
      rintro e w8 ⟨rfl, kk⟩
      have hB8 := hB7.kept kk (fun h => h)
      have hv8 := hv7.kept kk (fun _ _ _ h => h)
      have k08 := k07.trans kk
      clear kk hB7 hv7 k07 d0 d1
      have d0 : w8.cell? ⟨w3.heap.size, 0, none⟩ = some (.int .u64 (R : Int)) := hB8.cell 0
      have d1 : w8.cell? ⟨w3.heap.size, 1, none⟩ = some (.int .u64 (S : Int)) := hB8.cell 1
      go_wp2_with fail
      refine (C.out.2.2.1 _ _ _ _ hv8).mono ?_
      rintro e w9 ⟨rfl, kk⟩
      have hB9 := hB8.kept kk (fun h => h)
      have hv9 := hv8.kept kk (fun _ _ _ h => h)
      have k09 := k08.trans kk
      clear kk hB8 hv8 k08 d0 d1
      have d0 : w9.cell? ⟨w3.heap.size, 0, none⟩ = some (.int .u64 (R : Int)) := hB9.cell 0
      have d1 : w9.cell? ⟨w3.heap.size, 1, none⟩ = some (.int .u64 (S : Int)) := hB9.cell 1
      go_wp2
      go_ret
      exact ⟨rfl, k09⟩
end Go.Proofs.Ytpoaehhmahkeaaa
