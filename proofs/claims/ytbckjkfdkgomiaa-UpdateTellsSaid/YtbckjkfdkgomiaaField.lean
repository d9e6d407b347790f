/- Package field, by its contracts: conditions: a factor is a word (less than 2^64). -/
import Derived.Test.YtbckjkfdkgomiaaBits3
namespace Go.Proofs.Ytbckjkfdkgomiaa
open Go.RowKit Go.Pm
namespace Fd

theorem unfoldMod (m : Nat) : Ref.modOf m = if m = order61 then order61 else prime61 := rfl
theorem modulus (m : Nat) (w : World) : Calls Try.prog 72 #[.int .u64 m] w fun e w' => e = .returned (.int .u64 (Ref.modOf m : Nat)) ∧ w = w' := by
  by_cases h : m = order61
  · have e1 : Ref.modOf m = order61 := if_pos h
    rw [e1, h]
    go_enter Try.func72, Try.ntmps72
    go_wp2
    go_ret
    exact ⟨rfl, rfl⟩
  · have e1 : Ref.modOf m = prime61 := if_neg h
    rw [e1]
    have h2 : ((m : Int) == 2305843009213693950) = false := by
      simp only [beq_eq_false_iff_ne, ne_eq]
      intro e
      exact h (by unfold order61; omega)
    go_enter Try.func72, Try.ntmps72
    go_wp2
    go_ret
    exact ⟨rfl, rfl⟩

set_option maxHeartbeats 400000 in
theorem add (a b m : Nat) (w : World) : Calls Try.prog 53 #[.int .u64 a, .int .u64 b, .int .u64 m] w fun e w' => e = .returned (.int .u64 ((a + b) % Ref.modOf m : Nat)) ∧ Kept None w w' := by
  have m0 := Ref.modOf_pos m
  have m1 := Ref.modOf_le m
  have hmod := modulus m
  generalize Ref.modOf m = M at *
  have HM := hid hmod
  clear hmod
  go_enter Try.func53, Try.ntmps53
  go_wp2_with fail
  refine (HM.out _).mono ?_
  rintro e w1 ⟨rfl, rfl⟩
  go_wp2
  have p0 : (0 : Int) < M := by omega
  have x0 := Int.emod_nonneg (a : Int) (show (M : Int) ≠ 0 by omega)
  have y0 := Int.emod_nonneg (b : Int) (show (M : Int) ≠ 0 by omega)
  have x1 := Int.emod_lt_of_pos (a : Int) p0
  have y1 := Int.emod_lt_of_pos (b : Int) p0
  have ew : IntKind.u64.wrap ((a : Int) % M + (b : Int) % M) = (a : Int) % M + (b : Int) % M := by rw [IntKind.wrap_u64]; exact Int.emod_eq_of_lt (by omega) (by omega)
  have t1 : (a : Int).tmod M = (a : Int) % M := Int.tmod_eq_emod_of_nonneg (by omega)
  have t2 : (b : Int).tmod M = (b : Int) % M := Int.tmod_eq_emod_of_nonneg (by omega)
  have t3 : ((a : Int) % M + (b : Int) % M).tmod M = ((a : Int) % M + (b : Int) % M) % M := Int.tmod_eq_emod_of_nonneg (by omega)
  clear x0 x1 y0 y1 m0 m1
  go_quiet (fail)
  go_wp2
  go_ret
  exact ⟨by rw [Int.natCast_emod, Int.natCast_add]; rfl, Kept.toDrewN _ _ _⟩

theorem mod_or (m : Nat) : Ref.modOf m = prime61 ∨ Ref.modOf m = order61 := by unfold Ref.modOf; split <;> simp
theorem mul (a b m : Nat) (w : World) (ha : a < 18446744073709551616) (hb : b < 18446744073709551616) : Calls Try.prog 54 #[.int .u64 a, .int .u64 b, .int .u64 m] w fun e w' => e = .returned (.int .u64 (a * b % Ref.modOf m : Nat)) ∧ Kept None w w' := by
  have hmul := fun w => Bt.mul64 a b ha hb w
  have hrem := fun w => Bt.rem64 (a * b / 18446744073709551616) (a * b % 18446744073709551616) (Ref.modOf m) (mod_or m) (Nat.mod_lt _ (by decide)) w
  rw [halves] at hrem
  have hmod := modulus m
  obtain ⟨M, hM⟩ : ∃ M, M = Ref.modOf m := ⟨_, rfl⟩
  obtain ⟨h, hh⟩ : ∃ h, h = a * b / 18446744073709551616 := ⟨_, rfl⟩
  obtain ⟨l, hl⟩ : ∃ l, l = a * b % 18446744073709551616 := ⟨_, rfl⟩
  obtain ⟨r, hr⟩ : ∃ r, r = a * b % M := ⟨_, rfl⟩
  simp only [← hM, ← hh, ← hl, ← hr] at hmul hrem hmod ⊢
  have HU := hid hmul
  have HR := hid hrem
  have HM := hid hmod
  clear hmul hrem hmod hM hh hl hr ha hb
  go_enter Try.func54, Try.ntmps54
  go_wp2_with fail
  refine (HU.out _).mono ?_
  rintro e w1 ⟨rfl, rfl⟩
  go_wp2_with fail
  refine (HM.out _).mono ?_
  rintro e w1 ⟨rfl, rfl⟩
  go_wp2_with fail
  refine (HR.out _).mono ?_
  rintro e w2 ⟨rfl, k2⟩
  go_wp2
  go_ret
  exact ⟨rfl, k2⟩

set_option maxHeartbeats 1000000 in
theorem pow (a n m : Nat) (w : World) (ha : a < 18446744073709551616) : Calls Try.prog 61 #[.int .u64 a, .int .u64 n, .int .u64 m] w fun e w' => e = .returned (.int .u64 (powm (Ref.modOf m) a n : Nat)) ∧ Kept None w w' := by
  have m0 := Ref.modOf_pos m
  have m1 := Ref.modOf_le m
  have m2 : 1 < Ref.modOf m := by rcases mod_or m with h | h <;> rw [h] <;> decide
  have hmul := fun a b => mul a b m
  obtain ⟨M, hM⟩ : ∃ M, M = Ref.modOf m := ⟨_, rfl⟩
  simp only [← hM] at m0 m1 m2 hmul ⊢
  have HU := hid hmul
  have HB := hid (And.intro m0 (And.intro m1 (And.intro m2 ha)))
  clear hmul m1 ha hM
  go_enter Try.func61, Try.ntmps61
  go_wp2
  go_loopw [0, 1, 7] (fun x y z wr => ∃ a' b' o : Nat, x = .int .u64 a' ∧ y = .int .u64 b' ∧ z = .int .u64 o ∧ o < M ∧ Hid (a' < 18446744073709551616) ∧ o * powm M a' b' % M = powm M a n ∧ Kept None w wr) (fun _ y _ _ => (intOf y).toNat)
  case atStart =>
    refine ⟨a, n, 1, rfl, rfl, rfl, m2, hid HB.out.2.2.2, ?_, Kept.refl _ _⟩
    rw [Nat.one_mul, Nat.mod_eq_of_lt (powm_lt M a n m0)]
  case round =>
    obtain ⟨x, y, o, rfl, rfl, rfl, ho, hx, he, hk⟩ := hrel
    have hx2 := hid (show x * x % M < 18446744073709551616 by have := Nat.mod_lt (x * x) m0; have := HB.out.2.1; omega)
    have ho2 := hid (show o < 18446744073709551616 by have := HB.out.2.1; omega)
    by_cases hy : 0 < y
    · have hand := Ref.and_one y
      rcases Nat.mod_two_eq_zero_or_one y with hp | hp
      · rw [hp] at hand
        have HE := hid ((pow_even M o x y hp).trans he)
        clear he hp
        go_wp2_with fail
        refine (HU.out x x _ hx.out hx.out).mono ?_
        rintro e w2 ⟨rfl, k2⟩
        have hk2 := hk.then k2 (fun _ _ h => h)
        go_wp2
        go_roundw
        case rel => exact ⟨x * x % M, y / 2, o, rfl, by simp, rfl, ho, hx2, HE.out, hk2⟩
        case measure => simp [intOf]; omega
      · rw [hp] at hand
        have HE := hid ((pow_odd M o x y hp).trans he)
        clear he hp
        go_wp2_with fail
        refine (HU.out o x _ ho2.out hx.out).mono ?_
        rintro e w2 ⟨rfl, k2⟩
        have hk2 := hk.then k2 (fun _ _ h => h)
        go_wp2_with fail
        refine (HU.out x x _ hx.out hx.out).mono ?_
        rintro e w3 ⟨rfl, k3⟩
        have hk3 := hk2.then k3 (fun _ _ h => h)
        go_wp2
        go_roundw
        case rel => exact ⟨x * x % M, y / 2, o * x % M, rfl, by simp, rfl, Nat.mod_lt _ m0, hx2, HE.out, hk3⟩
        case measure => simp [intOf]; omega
    · have hy0 : y = 0 := by omega
      subst hy0
      rw [powm_zero, Nat.mul_mod_mod, Nat.mul_one, Nat.mod_eq_of_lt ho] at he
      have HE := hid he
      clear he
      go_wp2
      go_ret
      rw [← HE.out]
      exact ⟨rfl, hk⟩
end Fd
end Go.Proofs.Ytbckjkfdkgomiaa
