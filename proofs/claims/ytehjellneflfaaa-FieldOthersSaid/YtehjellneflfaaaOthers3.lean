/- postmarklaw3.FieldOthers: true. -/
import Derived.Test.YtehjellneflfaaaKnown3
namespace Go.Proofs.Ytehjellneflfaaa
open Go.RowKit Go.Pm

theorem and_ffff (n : Nat) : bits .and .u64 (n : Int) 65535 = ((n % 65536 : Nat) : Int) := by
  have key : (BitVec.ofInt 64 (n : Int) &&& BitVec.ofInt 64 65535).toNat = n % 65536 := by
    rw [BitVec.toNat_and, BitVec.ofInt_natCast, BitVec.toNat_ofNat, show (BitVec.ofInt 64 65535).toNat = 2 ^ 16 - 1 from rfl, Nat.and_two_pow_sub_one_eq_mod]
    omega
  show IntKind.u64.wrap ((BitVec.ofInt 64 (n : Int) &&& BitVec.ofInt 64 65535).toNat : Int) = _
  rw [key, IntKind.wrap_u64]
  omega

set_option maxHeartbeats 1000000 in
theorem fieldOthers (a b m : Nat) (w : World) (ha : a < 18446744073709551616) (hb : b < 18446744073709551616) :
    Calls Try.prog 6 #[.int .u64 a, .int .u64 b, .int .u64 m] w fun e w' => e = .returned (.bool true) ∧ Kept None w w' := by
  by_cases hm : m = order61
  · rw [hm]
    clear ha hb
    go_enter Try.func6, Try.ntmps6
    go_wp2_with fail
    refine (known _).mono ?_
    rintro e w1 ⟨rfl, k1⟩
    go_wp2
    go_ret
    exact ⟨rfl, k1⟩
  have hmo : Ref.modOf m = prime61 := if_neg hm
  have h2 : ((m : Int) == 2305843009213693950) = false := by
    simp only [beq_eq_false_iff_ne, ne_eq]
    intro e
    exact hm (by unfold order61; omega)
  have hand := and_ffff b
  -- what the calls come to, under names
  have c1 := fun w => Fd.add a b m w
  have c2 := fun w => Fd.add (a % prime61) (b % prime61) 2305843009213693951 w
  have c3 := fun w => Fd.mul a b m w ha hb
  have c4 := fun w => Fd.mul (a % prime61) (b % prime61) 2305843009213693951 w (w_modP _) (w_modP _)
  have c5 := fun w => Fd.pow a (b % 65536) m w ha
  have c6 := fun w => Fd.pow (a % prime61) (b % 65536) 2305843009213693951 w (w_modP _)
  have c7 := fun w => Fd.mul a b 2305843009213693950 w ha hb
  simp only [hmo, modP, modO, powm_mod, ← Nat.add_mod, ← Nat.mul_mod] at c1 c2 c3 c4 c5 c6 c7
  have hap : ((a % prime61 : Nat) : Int) = (a : Int) % 2305843009213693951 := by rw [Int.natCast_emod]; rfl
  have hbp : ((b % prime61 : Nat) : Int) = (b : Int) % 2305843009213693951 := by rw [Int.natCast_emod]; rfl
  simp only [hap, hbp] at c2 c4 c6
  have s1 : (((a + b) % prime61 : Nat) : Int) < 2305843009213693951 := by have := Nat.mod_lt (a + b) (show 0 < prime61 by decide); unfold prime61 at this ⊢; omega
  have s2 : ((a * b % order61 : Nat) : Int) < 2305843009213693950 := by have := Nat.mod_lt (a * b) (show 0 < order61 by decide); unfold order61 at this ⊢; omega
  obtain ⟨s, hs⟩ : ∃ s, s = (a + b) % prime61 := ⟨_, rfl⟩
  obtain ⟨p, hp⟩ : ∃ p, p = a * b % prime61 := ⟨_, rfl⟩
  obtain ⟨q, hq⟩ : ∃ q, q = powm prime61 a (b % 65536) := ⟨_, rfl⟩
  obtain ⟨o, ho⟩ : ∃ o, o = a * b % order61 := ⟨_, rfl⟩
  simp only [← hs, ← hp, ← hq, ← ho] at c1 c2 c3 c4 c5 c6 c7 s1 s2
  have C := hid (And.intro c1 (And.intro c2 (And.intro c3 (And.intro c4 (And.intro c5 (And.intro c6 c7))))))
  clear c1 c2 c3 c4 c5 c6 c7 hs hp hq ho hap hbp hmo hm ha hb
  go_enter Try.func6, Try.ntmps6
  go_wp2_with fail
  refine (known _).mono ?_
  rintro e w1 ⟨rfl, k1⟩
  go_wp2_with fail
  refine (C.out.1 _).mono ?_
  rintro e w2 ⟨rfl, k2⟩
  go_wp2_with fail
  refine (C.out.2.1 _).mono ?_
  rintro e w3 ⟨rfl, k3⟩
  have k03 := (k1.trans k2).trans k3
  clear k1 k2 k3
  go_wp2_with fail
  refine (C.out.2.2.1 _).mono ?_
  rintro e w4 ⟨rfl, k4⟩
  go_wp2_with fail
  refine (C.out.2.2.2.1 _).mono ?_
  rintro e w5 ⟨rfl, k5⟩
  have k05 := (k03.trans k4).trans k5
  clear k03 k4 k5
  go_wp2_with fail
  refine (C.out.2.2.2.2.1 _).mono ?_
  rintro e w6 ⟨rfl, k6⟩
  go_wp2_with fail
  refine (C.out.2.2.2.2.2.1 _).mono ?_
  rintro e w7 ⟨rfl, k7⟩
  have k07 := (k05.trans k6).trans k7
  clear k05 k6 k7
  go_wp2_with fail
  refine (C.out.1 _).mono ?_
  rintro e w8 ⟨rfl, k8⟩
  go_wp2_with fail
  refine (C.out.2.2.2.2.2.2 _).mono ?_
  rintro e w9 ⟨rfl, k9⟩
  have k09 := (k07.trans k8).trans k9
  clear k07 k8 k9
  go_wp2
  go_ret
  exact ⟨rfl, k09⟩
end Go.Proofs.Ytehjellneflfaaa
