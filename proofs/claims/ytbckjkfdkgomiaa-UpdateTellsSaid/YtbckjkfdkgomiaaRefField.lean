/- postmarkref1: modulus, Add, Mul, Pow, Inv, by their contracts. -/
import Derived.Test.YtbckjkfdkgomiaaProg
import Derived.Test.YtbckjkfdkgomiaaNum3
import Derived.Deep.QuietTactic
import Derived.BigQuiet
namespace Go.Proofs.Ytbckjkfdkgomiaa
open Go.RowKit Go.Pm
namespace Ref

/-- The modulus that counts. -/
def modOf (m : Nat) : Nat := if m = order61 then order61 else prime61
theorem modOf_pos (m : Nat) : 0 < modOf m := by unfold modOf; split <;> decide
theorem modOf_le (m : Nat) : modOf m ≤ 4611686018427387904 := by unfold modOf; split <;> decide

theorem modulus (m : Nat) (w : World) : Calls Try.prog 69 #[.int .u64 m] w fun e w' => e = .returned (.int .u64 (modOf m : Nat)) ∧ w = w' := by
  by_cases h : m = order61
  · have e1 : modOf m = order61 := if_pos h
    rw [e1, h]
    go_enter Try.func69, Try.ntmps69
    go_wp2
    go_ret
    exact ⟨rfl, rfl⟩
  · have e1 : modOf m = prime61 := if_neg h
    rw [e1]
    have h2 : ((m : Int) == 2305843009213693950) = false := by
      simp only [beq_eq_false_iff_ne, ne_eq]
      intro e
      exact h (by unfold order61; omega)
    go_enter Try.func69, Try.ntmps69
    go_wp2
    go_ret
    exact ⟨rfl, rfl⟩

set_option maxHeartbeats 400000 in
theorem add (a b m : Nat) (w : World) : Calls Try.prog 58 #[.int .u64 a, .int .u64 b, .int .u64 m] w fun e w' => e = .returned (.int .u64 ((a + b) % modOf m : Nat)) ∧ Kept None w w' := by
  have m0 := modOf_pos m
  have m1 := modOf_le m
  have hmod := modulus m
  generalize modOf m = M at *
  have HM := hid hmod
  clear hmod
  go_enter Try.func58, Try.ntmps58
  go_wp2_with fail
  refine (HM.out _).mono ?_
  rintro e w1 ⟨rfl, rfl⟩
  go_wp2
  have p0 : (0 : Int) < M := by omega
  have x0 := Int.emod_nonneg (a : Int) (show (M : Int) ≠ 0 by omega)
  have y0 := Int.emod_nonneg (b : Int) (show (M : Int) ≠ 0 by omega)
  have x1 := Int.emod_lt_of_pos (a : Int) p0
  have y1 := Int.emod_lt_of_pos (b : Int) p0
  have ew : IntKind.u64.wrap ((a : Int) % M + (b : Int) % M) = (a : Int) % M + (b : Int) % M := by rw [IntKind.wrap_u64]; exact Int.emod_eq_of_lt (by omega) (by omega)
  have t1 : (a : Int).tmod M = (a : Int) % M := Int.tmod_eq_emod_of_nonneg (by omega)
  have t2 : (b : Int).tmod M = (b : Int) % M := Int.tmod_eq_emod_of_nonneg (by omega)
  have t3 : ((a : Int) % M + (b : Int) % M).tmod M = ((a : Int) % M + (b : Int) % M) % M := Int.tmod_eq_emod_of_nonneg (by omega)
  clear x0 x1 y0 y1 m0 m1
  go_quiet (fail)
  go_wp2
  go_ret
  exact ⟨by rw [Int.natCast_emod, Int.natCast_add]; rfl, Kept.toDrewN _ _ _⟩

theorem and_one (n : Nat) : bits .and .u64 (n : Int) 1 = ((n % 2 : Nat) : Int) := by
  have key : (BitVec.ofInt 64 (n : Int) &&& BitVec.ofInt 64 1).toNat = n % 2 := by
    rw [BitVec.toNat_and, BitVec.ofInt_natCast, BitVec.toNat_ofNat, show (BitVec.ofInt 64 1).toNat = 2 ^ 1 - 1 from rfl, Nat.and_two_pow_sub_one_eq_mod]
    omega
  show IntKind.u64.wrap ((BitVec.ofInt 64 (n : Int) &&& BitVec.ofInt 64 1).toNat : Int) = _
  rw [key, IntKind.wrap_u64]
  omega

set_option maxHeartbeats 1000000 in
theorem mul (a b m : Nat) (w : World) : Calls Try.prog 59 #[.int .u64 a, .int .u64 b, .int .u64 m] w fun e w' => e = .returned (.int .u64 (a * b % modOf m : Nat)) ∧ Kept None w w' := by
  have m0 := modOf_pos m
  have m1 := modOf_le m
  have hmod := modulus m
  generalize modOf m = M at *
  have HM := hid hmod
  clear hmod
  go_enter Try.func59, Try.ntmps59
  go_wp2_with fail
  refine (HM.out _).mono ?_
  rintro e w1 ⟨rfl, rfl⟩
  go_wp2
  have t1 : (a : Int).tmod M = ((a % M : Nat) : Int) := by rw [Int.natCast_emod]; exact Int.tmod_eq_emod_of_nonneg (by omega)
  have t2 : (b : Int).tmod M = ((b % M : Nat) : Int) := by rw [Int.natCast_emod]; exact Int.tmod_eq_emod_of_nonneg (by omega)
  have p0 : (0 : Int) < M := by omega
  go_quiet (fail)
  clear t1 t2
  go_wp2
  go_loopw [0, 1, 7] (fun x y z wr => ∃ a' b' o : Nat, x = .int .u64 a' ∧ y = .int .u64 b' ∧ z = .int .u64 o ∧ a' < M ∧ o < M ∧ (o + a' * b') % M = a * b % M ∧ Kept None w wr) (fun _ y _ _ => (intOf y).toNat)
  case atStart =>
    refine ⟨a % M, b % M, 0, ?_, ?_, rfl, Nat.mod_lt _ m0, m0, by rw [Nat.zero_add, ← Nat.mul_mod], Kept.toDrewN _ _ _⟩
    · rw [Int.natCast_emod]
    · rw [Int.natCast_emod]
  case round =>
    obtain ⟨x, y, o, rfl, rfl, rfl, hx, ho, he, hk⟩ := hrel
    by_cases hy : 0 < y
    · have hand := and_one y
      rcases Nat.mod_two_eq_zero_or_one y with hp | hp
      · rw [hp] at hand
        have HE := hid ((mul_even M o x y hp).trans he)
        clear he hp
        go_wp2
        go_roundw
        case rel => exact ⟨(x + x) % M, y / 2, o, by simp, by simp, rfl, Nat.mod_lt _ m0, ho, HE.out, hk⟩
        case measure => simp [intOf]; omega
      · rw [hp] at hand
        have HE := hid ((mul_odd M o x y hp).trans he)
        clear he hp
        go_wp2
        go_roundw
        case rel => exact ⟨(x + x) % M, y / 2, (o + x) % M, by simp, by simp, by simp, Nat.mod_lt _ m0, Nat.mod_lt _ m0, HE.out, hk⟩
        case measure => simp [intOf]; omega
    · have hy0 : y = 0 := by omega
      subst hy0
      rw [Nat.mul_zero, Nat.add_zero, Nat.mod_eq_of_lt ho] at he
      have HE := hid he
      clear he
      go_wp2
      go_ret
      rw [← HE.out]
      exact ⟨rfl, hk⟩

theorem modOf_modOf (m : Nat) : modOf (modOf m) = modOf m := by
  unfold modOf
  by_cases h : m = order61
  · rw [if_pos h, if_pos rfl]
  · rw [if_neg h, if_neg (by decide)]

set_option maxHeartbeats 1000000 in
theorem pow (a n m : Nat) (w : World) : Calls Try.prog 48 #[.int .u64 a, .int .u64 n, .int .u64 m] w fun e w' => e = .returned (.int .u64 (powm (modOf m) a n : Nat)) ∧ Kept None w w' := by
  have m0 := modOf_pos m
  have m1 := modOf_le m
  have hmod := modulus m
  have hmul := fun a b => mul a b (modOf m)
  simp only [modOf_modOf] at hmul
  generalize modOf m = M at *
  have HM := hid hmod
  have HU := hid hmul
  clear hmod hmul
  go_enter Try.func48, Try.ntmps48
  go_wp2_with fail
  refine (HM.out _).mono ?_
  rintro e w1 ⟨rfl, rfl⟩
  go_wp2
  go_loopw [0, 1, 7] (fun x y z wr => ∃ a' b' o : Nat, x = .int .u64 a' ∧ y = .int .u64 b' ∧ z = .int .u64 o ∧ o < M ∧ o * powm M a' b' % M = powm M a n ∧ Kept None w wr) (fun _ y _ _ => (intOf y).toNat)
  case atStart =>
    refine ⟨a % M, n, 1 % M, by simp, rfl, by simp, Nat.mod_lt _ m0, ?_, Kept.refl _ _⟩
    rw [Nat.mod_mul_mod, Nat.one_mul, powm_mod, Nat.mod_eq_of_lt (powm_lt M a n m0)]
  case round =>
    obtain ⟨x, y, o, rfl, rfl, rfl, ho, he, hk⟩ := hrel
    by_cases hy : 0 < y
    · have hand := and_one y
      rcases Nat.mod_two_eq_zero_or_one y with hp | hp
      · rw [hp] at hand
        have HE := hid ((pow_even M o x y hp).trans he)
        clear he hp
        go_wp2_with fail
        refine (HU.out x x _).mono ?_
        rintro e w2 ⟨rfl, k2⟩
        have hk2 := hk.then k2 (fun _ _ h => h)
        go_wp2
        go_roundw
        case rel => exact ⟨x * x % M, y / 2, o, rfl, by simp, rfl, ho, HE.out, hk2⟩
        case measure => simp [intOf]; omega
      · rw [hp] at hand
        have HE := hid ((pow_odd M o x y hp).trans he)
        clear he hp
        go_wp2_with fail
        refine (HU.out o x _).mono ?_
        rintro e w2 ⟨rfl, k2⟩
        have hk2 := hk.then k2 (fun _ _ h => h)
        go_wp2_with fail
        refine (HU.out x x _).mono ?_
        rintro e w3 ⟨rfl, k3⟩
        have hk3 := hk2.then k3 (fun _ _ h => h)
        go_wp2
        go_roundw
        case rel => exact ⟨x * x % M, y / 2, o * x % M, rfl, by simp, rfl, Nat.mod_lt _ m0, HE.out, hk3⟩
        case measure => simp [intOf]; omega
    · have hy0 : y = 0 := by omega
      subst hy0
      rw [powm_zero, Nat.mul_mod_mod, Nat.mul_one, Nat.mod_eq_of_lt ho] at he
      have HE := hid he
      clear he
      go_wp2
      go_ret
      rw [← HE.out]
      exact ⟨rfl, hk⟩
end Ref
end Go.Proofs.Ytbckjkfdkgomiaa
