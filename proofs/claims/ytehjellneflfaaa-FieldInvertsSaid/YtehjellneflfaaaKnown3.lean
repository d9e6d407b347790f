/- postmarklaw3.known: true. Leans on Fd.add, mul, pow, inv (package field) and on edge. -/
import Derived.Test.YtehjellneflfaaaEdge3
import Derived.Test.YtehjellneflfaaaField
namespace Go.Proofs.Ytehjellneflfaaa
open Go.RowKit Go.Pm

/-- What is reckoned is a word. -/
theorem w_invm (a : Nat) : invm a < 18446744073709551616 := Nat.lt_trans (invm_lt a) (by decide)
theorem w_powm (x n : Nat) : powm prime61 x n < 18446744073709551616 := Nat.lt_trans (powm_lt prime61 x n (by decide)) (by decide)
theorem w_modP (n : Nat) : n % prime61 < 18446744073709551616 := Nat.lt_trans (Nat.mod_lt n (by decide)) (by decide)
theorem w_mod (n m : Nat) : n % Ref.modOf m < 18446744073709551616 := by
  have := Nat.mod_lt n (Ref.modOf_pos m)
  have := Ref.modOf_le m
  omega
theorem modP : Ref.modOf 2305843009213693951 = prime61 := by decide
theorem modO : Ref.modOf 2305843009213693950 = order61 := by decide

set_option maxHeartbeats 400000 in
theorem known (w : World) : Calls Try.prog 8 #[] w fun e w' => e = .returned (.bool true) ∧ Kept None w w' := by
  have c1 : ∀ w, Calls Try.prog 12 #[.int .u64 2, .int .u64 1152921504606846976, .int .u64 2305843009213693951] w fun e w' => e = .returned (.int .u64 1) ∧ Kept None w w' := fun w => by
    have h := Fd.mul 2 1152921504606846976 2305843009213693951 w (by decide) (by decide)
    rw [modP, show 2 * 1152921504606846976 % prime61 = 1 by decide] at h
    exact h
  have c2 : ∀ w, Calls Try.prog 10 #[.int .u64 2305843009213693950, .int .u64 2, .int .u64 2305843009213693951] w fun e w' => e = .returned (.int .u64 1) ∧ Kept None w w' := fun w => by
    have h := Fd.add 2305843009213693950 2 2305843009213693951 w
    rw [modP, show (2305843009213693950 + 2) % prime61 = 1 by decide] at h
    exact h
  have c3 : ∀ w, Calls Try.prog 14 #[.int .u64 3, .int .u64 5, .int .u64 2305843009213693950] w fun e w' => e = .returned (.int .u64 243) ∧ Kept None w w' := fun w => by
    have h := Fd.pow 3 5 2305843009213693950 w (by decide)
    rw [modO, powm_is, show 3 ^ 5 % order61 = 243 by decide] at h
    exact h
  have c4 : ∀ w, Calls Try.prog 16 #[.int .u64 7] w fun e w' => e = .returned (.int .u64 (invm 7 : Nat)) ∧ Kept None w w' := fun w => Fd.inv 7 w (by decide)
  have c5 : ∀ w, Calls Try.prog 12 #[.int .u64 (invm 7 : Nat), .int .u64 7, .int .u64 2305843009213693951] w fun e w' => e = .returned (.int .u64 1) ∧ Kept None w w' := fun w => by
    have h := Fd.mul (invm 7) 7 2305843009213693951 w (w_invm 7) (by decide)
    rw [modP, Nat.mul_comm, invm_mul 7 (by decide)] at h
    exact h
  have c6 : ∀ w, Calls Try.prog 16 #[.int .u64 0] w fun e w' => e = .returned (.int .u64 0) ∧ Kept None w w' := fun w => by
    have h := Fd.inv 0 w (by decide)
    rw [invm_zero 0 rfl] at h
    exact h
  obtain ⟨i, hi⟩ : ∃ i, i = invm 7 := ⟨_, rfl⟩
  rw [← hi] at c4 c5
  have C := hid (And.intro c1 (And.intro c2 (And.intro c3 (And.intro c4 (And.intro c5 c6)))))
  clear c1 c2 c3 c4 c5 c6 hi
  go_enter Try.func8, Try.ntmps8
  go_wp2_with fail
  refine (C.out.1 _).mono ?_
  rintro e w1 ⟨rfl, k1⟩
  go_wp2_with fail
  refine (C.out.2.1 _).mono ?_
  rintro e w2 ⟨rfl, k2⟩
  have k02 := k1.trans k2
  go_wp2_with fail
  refine (C.out.2.2.1 _).mono ?_
  rintro e w3 ⟨rfl, k3⟩
  have k03 := k02.trans k3
  go_wp2_with fail
  refine (C.out.2.2.2.1 _).mono ?_
  rintro e w4 ⟨rfl, k4⟩
  have k04 := k03.trans k4
  go_wp2_with fail
  refine (C.out.2.2.2.2.1 _).mono ?_
  rintro e w5 ⟨rfl, k5⟩
  have k05 := k04.trans k5
  go_wp2_with fail
  refine (C.out.2.2.2.2.2 _).mono ?_
  rintro e w6 ⟨rfl, k6⟩
  have k06 := k05.trans k6
  clear k1 k2 k02 k3 k03 k4 k04 k5 k05 k6
  go_wp2
  go_ret
  exact ⟨rfl, k06⟩
end Go.Proofs.Ytehjellneflfaaa
