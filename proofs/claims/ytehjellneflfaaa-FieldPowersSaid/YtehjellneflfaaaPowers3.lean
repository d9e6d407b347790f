/- postmarklaw3.FieldPowers: true. -/
import Derived.Test.YtehjellneflfaaaKnown3
namespace Go.Proofs.Ytehjellneflfaaa
open Go.RowKit Go.Pm

set_option maxHeartbeats 1000000 in
theorem fieldPowers (a n m k : Nat) (w : World) (ha : a < 18446744073709551616) (hn : n < 4294967296) (hm : m < 4294967296) (hk : k < 256) :
    Calls Try.prog 5 #[.int .u64 a, .int .u32 n, .int .u32 m, .int .u8 k] w fun e w' => e = .returned (.bool true) ∧ Kept None w w' := by
  have E1 := hid (fun w => edge a k w ha hk)
  clear ha hk
  go_enter Try.func5, Try.ntmps5
  go_wp2_with fail
  refine (known _).mono ?_
  rintro e w1 ⟨rfl, k1⟩
  go_wp2_with fail
  refine (E1.out _).mono ?_
  rintro e w2 ⟨x, hx, rfl, k2⟩
  have k02 := k1.trans k2
  clear k1 k2
  -- what the calls come to, under names
  have c1 := fun w => Fd.pow x (n + m) 2305843009213693951 w hx
  have c2 := fun w => Fd.pow x 2305843009213693950 2305843009213693951 w hx
  have c3 := fun w => Fd.pow x n 2305843009213693951 w hx
  have c4 := fun w => Fd.pow x m 2305843009213693951 w hx
  have c5 := fun w => Fd.mul (powm prime61 x n) (powm prime61 x m) 2305843009213693951 w (w_powm _ _) (w_powm _ _)
  simp only [modP, ← powm_add, Int.natCast_add] at c1 c2 c3 c4 c5
  have ho := one_iff x
  change powm prime61 x 2305843009213693950 = 1 ↔ _ at ho
  obtain ⟨p, hp⟩ : ∃ p, p = powm prime61 x (n + m) := ⟨_, rfl⟩
  obtain ⟨o, ho'⟩ : ∃ o, o = powm prime61 x 2305843009213693950 := ⟨_, rfl⟩
  obtain ⟨q, hq⟩ : ∃ q, q = powm prime61 x n := ⟨_, rfl⟩
  obtain ⟨r, hr⟩ : ∃ r, r = powm prime61 x m := ⟨_, rfl⟩
  simp only [← hp, ← ho', ← hq, ← hr] at c1 c2 c3 c4 c5 ho
  have hxp : ((x % prime61 : Nat) : Int) = (x : Int) % 2305843009213693951 := by rw [Int.natCast_emod]; rfl
  have C := hid (And.intro c1 (And.intro c2 (And.intro c3 (And.intro c4 c5))))
  have hcase : (((o : Int) == 1) = true ∧ ((x : Int) % 2305843009213693951 == 0) = false ∧ ((x : Int) % 2305843009213693951 != 0) = true) ∨ (((o : Int) == 1) = false ∧ ((x : Int) % 2305843009213693951 == 0) = true ∧ ((x : Int) % 2305843009213693951 != 0) = false) := by
    rw [← hxp]
    by_cases h : x % prime61 = 0
    · right
      have h1 : o ≠ 1 := fun e => (ho.1 e) h
      refine ⟨?_, ?_, ?_⟩
      · simp; omega
      · simp [h]
      · simp [h]
    · left
      have h1 : o = 1 := ho.2 h
      refine ⟨by simp [h1], ?_, ?_⟩
      · simp only [beq_eq_false_iff_ne, ne_eq]; omega
      · simp only [bne_iff_ne, ne_eq]; omega
  clear c1 c2 c3 c4 c5 hp ho' hq hr hxp hx ho
  rcases hcase with ⟨d1, d2, d3⟩ | ⟨d1, d2, d3⟩
  all_goals
    go_wp2_with fail
    refine (C.out.1 _).mono ?_
    rintro e w3 ⟨rfl, k3⟩
    go_wp2_with fail
    refine (C.out.2.1 _).mono ?_
    rintro e w4 ⟨rfl, k4⟩
    have k04 := (k02.trans k3).trans k4
    clear k02 k3 k4
    go_wp2_with fail
    refine (C.out.2.2.1 _).mono ?_
    rintro e w5 ⟨rfl, k5⟩
    go_wp2_with fail
    refine (C.out.2.2.2.1 _).mono ?_
    rintro e w6 ⟨rfl, k6⟩
    have k06 := (k04.trans k5).trans k6
    clear k04 k5 k6
    go_wp2_with fail
    refine (C.out.2.2.2.2 _).mono ?_
    rintro e w7 ⟨rfl, k7⟩
    have k07 := k06.trans k7
    clear k06 k7
    go_wp2
    go_ret
    exact ⟨rfl, k07⟩
end Go.Proofs.Ytehjellneflfaaa
