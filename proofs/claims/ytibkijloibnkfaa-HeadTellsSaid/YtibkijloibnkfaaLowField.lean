/- Package field, the reference's numbers, math/bits. -/
import Derived.Test.YtibkijloibnkfaaProg
import Derived.Test.YtibkijloibnkfaaLow
import Derived.Deep.QuietTactic
import Derived.BigQuiet
import Derived.Lib.Mul64
import Derived.Laws.Bits64b
import Derived.KernelRfl
import Derived.Deep.CutBlock
import Derived.Deep.DeepCutAuto
import Derived.Deep.LoopGhost
/- postmarkref1: modulus, Add, Mul, Pow, Inv, by their contracts. -/
namespace Go.Proofs.Ytibkijloibnkfaa
open Go.RowKit Go.Pm
namespace Ref

/-- The modulus that counts. -/
def modOf (m : Nat) : Nat := if m = order61 then order61 else prime61
theorem modOf_pos (m : Nat) : 0 < modOf m := by unfold modOf; split <;> decide
theorem modOf_le (m : Nat) : modOf m ≤ 4611686018427387904 := by unfold modOf; split <;> decide

theorem modulus (m : Nat) (w : World) : Calls Try.prog 71 #[.int .u64 m] w fun e w' => e = .returned (.int .u64 (modOf m : Nat)) ∧ w = w' := by
  by_cases h : m = order61
  · have e1 : modOf m = order61 := if_pos h
    rw [e1, h]
    go_enter Try.func71, Try.ntmps71
    go_wp2
    go_ret
    exact ⟨rfl, rfl⟩
  · have e1 : modOf m = prime61 := if_neg h
    rw [e1]
    have h2 : ((m : Int) == 2305843009213693950) = false := by
      simp only [beq_eq_false_iff_ne, ne_eq]
      intro e
      exact h (by unfold order61; omega)
    go_enter Try.func71, Try.ntmps71
    go_wp2
    go_ret
    exact ⟨rfl, rfl⟩

set_option maxHeartbeats 400000 in
theorem add (a b m : Nat) (w : World) : Calls Try.prog 61 #[.int .u64 a, .int .u64 b, .int .u64 m] w fun e w' => e = .returned (.int .u64 ((a + b) % modOf m : Nat)) ∧ Kept None w w' := by
  have m0 := modOf_pos m
  have m1 := modOf_le m
  have hmod := modulus m
  generalize modOf m = M at *
  have HM := hid hmod
  clear hmod
  go_enter Try.func61, Try.ntmps61
  go_wp2_with fail
  refine (HM.out _).mono ?_
  rintro e w1 ⟨rfl, rfl⟩
  go_wp2
  have p0 : (0 : Int) < M := by omega
  have x0 := Int.emod_nonneg (a : Int) (show (M : Int) ≠ 0 by omega)
  have y0 := Int.emod_nonneg (b : Int) (show (M : Int) ≠ 0 by omega)
  have x1 := Int.emod_lt_of_pos (a : Int) p0
  have y1 := Int.emod_lt_of_pos (b : Int) p0
  have ew : IntKind.u64.wrap ((a : Int) % M + (b : Int) % M) = (a : Int) % M + (b : Int) % M := by rw [IntKind.wrap_u64]; exact Int.emod_eq_of_lt (by omega) (by omega)
  have t1 : (a : Int).tmod M = (a : Int) % M := Int.tmod_eq_emod_of_nonneg (by omega)
  have t2 : (b : Int).tmod M = (b : Int) % M := Int.tmod_eq_emod_of_nonneg (by omega)
  have t3 : ((a : Int) % M + (b : Int) % M).tmod M = ((a : Int) % M + (b : Int) % M) % M := Int.tmod_eq_emod_of_nonneg (by omega)
  clear x0 x1 y0 y1 m0 m1
  go_quiet (fail)
  go_wp2
  go_ret
  exact ⟨by rw [Int.natCast_emod, Int.natCast_add]; rfl, Kept.toDrewN _ _ _⟩

theorem and_one (n : Nat) : bits .and .u64 (n : Int) 1 = ((n % 2 : Nat) : Int) := by
  have key : (BitVec.ofInt 64 (n : Int) &&& BitVec.ofInt 64 1).toNat = n % 2 := by
    rw [BitVec.toNat_and, BitVec.ofInt_natCast, BitVec.toNat_ofNat, show (BitVec.ofInt 64 1).toNat = 2 ^ 1 - 1 from rfl, Nat.and_two_pow_sub_one_eq_mod]
    omega
  show IntKind.u64.wrap ((BitVec.ofInt 64 (n : Int) &&& BitVec.ofInt 64 1).toNat : Int) = _
  rw [key, IntKind.wrap_u64]
  omega

set_option maxHeartbeats 1000000 in
theorem mul (a b m : Nat) (w : World) : Calls Try.prog 62 #[.int .u64 a, .int .u64 b, .int .u64 m] w fun e w' => e = .returned (.int .u64 (a * b % modOf m : Nat)) ∧ Kept None w w' := by
  have m0 := modOf_pos m
  have m1 := modOf_le m
  have hmod := modulus m
  generalize modOf m = M at *
  have HM := hid hmod
  clear hmod
  go_enter Try.func62, Try.ntmps62
  go_wp2_with fail
  refine (HM.out _).mono ?_
  rintro e w1 ⟨rfl, rfl⟩
  go_wp2
  have t1 : (a : Int).tmod M = ((a % M : Nat) : Int) := by rw [Int.natCast_emod]; exact Int.tmod_eq_emod_of_nonneg (by omega)
  have t2 : (b : Int).tmod M = ((b % M : Nat) : Int) := by rw [Int.natCast_emod]; exact Int.tmod_eq_emod_of_nonneg (by omega)
  have p0 : (0 : Int) < M := by omega
  go_quiet (fail)
  clear t1 t2
  go_wp2
  go_loopw [0, 1, 7] (fun x y z wr => ∃ a' b' o : Nat, x = .int .u64 a' ∧ y = .int .u64 b' ∧ z = .int .u64 o ∧ a' < M ∧ o < M ∧ (o + a' * b') % M = a * b % M ∧ Kept None w wr) (fun _ y _ _ => (intOf y).toNat)
  case atStart =>
    refine ⟨a % M, b % M, 0, ?_, ?_, rfl, Nat.mod_lt _ m0, m0, by rw [Nat.zero_add, ← Nat.mul_mod], Kept.toDrewN _ _ _⟩
    · rw [Int.natCast_emod]
    · rw [Int.natCast_emod]
  case round =>
    obtain ⟨x, y, o, rfl, rfl, rfl, hx, ho, he, hk⟩ := hrel
    by_cases hy : 0 < y
    · have hand := and_one y
      rcases Nat.mod_two_eq_zero_or_one y with hp | hp
      · rw [hp] at hand
        have HE := hid ((mul_even M o x y hp).trans he)
        clear he hp
        go_wp2
        go_roundw
        case rel => exact ⟨(x + x) % M, y / 2, o, by simp, by simp, rfl, Nat.mod_lt _ m0, ho, HE.out, hk⟩
        case measure => simp [intOf]; omega
      · rw [hp] at hand
        have HE := hid ((mul_odd M o x y hp).trans he)
        clear he hp
        go_wp2
        go_roundw
        case rel => exact ⟨(x + x) % M, y / 2, (o + x) % M, by simp, by simp, by simp, Nat.mod_lt _ m0, Nat.mod_lt _ m0, HE.out, hk⟩
        case measure => simp [intOf]; omega
    · have hy0 : y = 0 := by omega
      subst hy0
      rw [Nat.mul_zero, Nat.add_zero, Nat.mod_eq_of_lt ho] at he
      have HE := hid he
      clear he
      go_wp2
      go_ret
      rw [← HE.out]
      exact ⟨rfl, hk⟩

theorem modOf_modOf (m : Nat) : modOf (modOf m) = modOf m := by
  unfold modOf
  by_cases h : m = order61
  · rw [if_pos h, if_pos rfl]
  · rw [if_neg h, if_neg (by decide)]

set_option maxHeartbeats 1000000 in
theorem pow (a n m : Nat) (w : World) : Calls Try.prog 38 #[.int .u64 a, .int .u64 n, .int .u64 m] w fun e w' => e = .returned (.int .u64 (powm (modOf m) a n : Nat)) ∧ Kept None w w' := by
  have m0 := modOf_pos m
  have m1 := modOf_le m
  have hmod := modulus m
  have hmul := fun a b => mul a b (modOf m)
  simp only [modOf_modOf] at hmul
  generalize modOf m = M at *
  have HM := hid hmod
  have HU := hid hmul
  clear hmod hmul
  go_enter Try.func38, Try.ntmps38
  go_wp2_with fail
  refine (HM.out _).mono ?_
  rintro e w1 ⟨rfl, rfl⟩
  go_wp2
  go_loopw [0, 1, 7] (fun x y z wr => ∃ a' b' o : Nat, x = .int .u64 a' ∧ y = .int .u64 b' ∧ z = .int .u64 o ∧ o < M ∧ o * powm M a' b' % M = powm M a n ∧ Kept None w wr) (fun _ y _ _ => (intOf y).toNat)
  case atStart =>
    refine ⟨a % M, n, 1 % M, by simp, rfl, by simp, Nat.mod_lt _ m0, ?_, Kept.refl _ _⟩
    rw [Nat.mod_mul_mod, Nat.one_mul, powm_mod, Nat.mod_eq_of_lt (powm_lt M a n m0)]
  case round =>
    obtain ⟨x, y, o, rfl, rfl, rfl, ho, he, hk⟩ := hrel
    by_cases hy : 0 < y
    · have hand := and_one y
      rcases Nat.mod_two_eq_zero_or_one y with hp | hp
      · rw [hp] at hand
        have HE := hid ((pow_even M o x y hp).trans he)
        clear he hp
        go_wp2_with fail
        refine (HU.out x x _).mono ?_
        rintro e w2 ⟨rfl, k2⟩
        have hk2 := hk.then k2 (fun _ _ h => h)
        go_wp2
        go_roundw
        case rel => exact ⟨x * x % M, y / 2, o, rfl, by simp, rfl, ho, HE.out, hk2⟩
        case measure => simp [intOf]; omega
      · rw [hp] at hand
        have HE := hid ((pow_odd M o x y hp).trans he)
        clear he hp
        go_wp2_with fail
        refine (HU.out o x _).mono ?_
        rintro e w2 ⟨rfl, k2⟩
        have hk2 := hk.then k2 (fun _ _ h => h)
        go_wp2_with fail
        refine (HU.out x x _).mono ?_
        rintro e w3 ⟨rfl, k3⟩
        have hk3 := hk2.then k3 (fun _ _ h => h)
        go_wp2
        go_roundw
        case rel => exact ⟨x * x % M, y / 2, o * x % M, rfl, by simp, rfl, Nat.mod_lt _ m0, HE.out, hk3⟩
        case measure => simp [intOf]; omega
    · have hy0 : y = 0 := by omega
      subst hy0
      rw [powm_zero, Nat.mul_mod_mod, Nat.mul_one, Nat.mod_eq_of_lt ho] at he
      have HE := hid he
      clear he
      go_wp2
      go_ret
      rw [← HE.out]
      exact ⟨rfl, hk⟩
end Ref
end Go.Proofs.Ytibkijloibnkfaa

/- math/bits.Mul64, LeadingZeros64, Div64, Rem64 at the two moduli, by their contracts (their own Go texts walked). -/
namespace Go.Proofs.Ytibkijloibnkfaa
open Go.RowKit Go.Pm
namespace Bt

theorem mask32 (a : Nat) (ha : a < 18446744073709551616) : bits .and .u64 (a : Int) 4294967295 = ((a % 4294967296 : Nat) : Int) := by
  have h := bits_and_u64_nat a 4294967295 ha (by omega)
  rw [show a &&& 4294967295 = a % 4294967296 from Nat.and_two_pow_sub_one_eq_mod a 32] at h
  exact h

set_option maxRecDepth 100000 in
theorem len (m : Nat) (hm : m = prime61 ∨ m = order61) (w : World) : Calls Try.prog 125 #[.int .u64 m] w fun e w' => e = .returned (.int .i64 61) ∧ w = w' := by
  rcases hm with h | h
  · rw [h]
    show Calls Try.prog 125 #[.int .u64 2305843009213693951] w _
    go_enter Try.func125, Try.ntmps125
    go_wp2
    go_ret
    exact ⟨by kernel_rfl, rfl⟩
  · rw [h]
    show Calls Try.prog 125 #[.int .u64 2305843009213693950] w _
    go_enter Try.func125, Try.ntmps125
    go_wp2
    go_ret
    exact ⟨by kernel_rfl, rfl⟩
theorem leading (m : Nat) (hm : m = prime61 ∨ m = order61) (w : World) : Calls Try.prog 121 #[.int .u64 m] w fun e w' => e = .returned (.int .i64 3) ∧ w = w' := by
  go_enter Try.func121, Try.ntmps121
  go_wp2_with fail
  refine (len m hm _).mono ?_
  rintro e w1 ⟨rfl, rfl⟩
  go_wp2
  go_ret
  exact ⟨rfl, rfl⟩

theorem wrapM (a : Nat) : IntKind.u64.wrap (a : Int) = ((a % 18446744073709551616 : Nat) : Int) := by rw [IntKind.wrap_u64]; omega
theorem wrapN (a : Nat) (ha : a < 18446744073709551616) : IntKind.u64.wrap (a : Int) = (a : Int) := by rw [IntKind.wrap_u64]; omega
theorem div32 (a : Nat) : (a : Int) / 4294967296 = ((a / 4294967296 : Nat) : Int) := by omega
set_option maxHeartbeats 1000000 in
theorem mul64 (x y : Nat) (hx : x < 18446744073709551616) (hy : y < 18446744073709551616) (w : World) :
    Calls Try.prog 94 #[.int .u64 x, .int .u64 y] w fun e w' => e = .returned (.tuple #[.int .u64 (x * y / 18446744073709551616 : Nat), .int .u64 (x * y % 18446744073709551616 : Nat)]) ∧ w = w' := by
  obtain ⟨bd, bt, bw, hhi⟩ := Lib.mul64_hi x y hx hy
  have ba := Lib.half_mul_le (a := x / 4294967296) (b := y / 4294967296) (by omega) (by omega)
  have bb := Lib.half_mul_le (a := x / 4294967296) (b := y % 4294967296) (by omega) (by omega)
  have bc := Lib.half_mul_le (a := x % 4294967296) (b := y / 4294967296) (by omega) (by omega)
  obtain ⟨p, hp⟩ : ∃ p, p = x / 4294967296 * (y / 4294967296) := ⟨_, rfl⟩
  obtain ⟨q, hq⟩ : ∃ q, q = x / 4294967296 * (y % 4294967296) := ⟨_, rfl⟩
  obtain ⟨r, hr⟩ : ∃ r, r = x % 4294967296 * (y / 4294967296) := ⟨_, rfl⟩
  obtain ⟨s, hs⟩ : ∃ s, s = x % 4294967296 * (y % 4294967296) := ⟨_, rfl⟩
  simp only [← hp, ← hq, ← hr, ← hs] at ba bb bc bd bt bw hhi
  go_enter Try.func94, Try.ntmps94
  go_wp2
  simp only [mask32 x hx, mask32 y hy, div32, ← Int.natCast_mul, ← hp, ← hq, ← hr, ← hs]
  simp only [wrapN p (by omega), wrapN q (by omega), wrapN r (by omega), wrapN s (by omega), div32, ← Int.natCast_add, wrapN _ bt, mask32 _ bt, wrapN _ bw, wrapM (x * y)]
  rw [wrapN (p + (q + s / 4294967296) / 4294967296) (by omega), ← Int.natCast_add, hhi, wrapN _ (by rw [← hhi]; omega)]
  go_ret2
  exact ⟨rfl, rfl⟩

theorem or8 (hi lo : Nat) (h0 : hi < 2305843009213693952) (h1 : lo < 18446744073709551616) : bits .or .u64 ((hi : Int) * 8) ((lo : Int) / 2305843009213693952) = ((hi * 8 + lo / 2305843009213693952 : Nat) : Int) := by
  have e1 : ((hi : Int) * 8) = ((hi * 8 : Nat) : Int) := by omega
  have e2 : ((lo : Int) / 2305843009213693952) = ((lo / 2305843009213693952 : Nat) : Int) := by omega
  rw [e1, e2, bits_or_u64_nat _ _ (by omega) (by omega)]
  congr 1
  have := Nat.shiftLeft_add_eq_or_of_lt (i := 3) (b := lo / 2305843009213693952) (by omega) hi
  rw [Nat.shiftLeft_eq] at this
  exact this.symm

set_option maxRecDepth 100000 in
set_option maxHeartbeats 4000000 in
theorem div64 (hi lo m : Nat) (hm : m = prime61 ∨ m = order61) (h0 : hi < m) (h1 : lo < 18446744073709551616) (w : World) :
    Calls Try.prog 109 #[.int .u64 hi, .int .u64 lo, .int .u64 m] w fun e w' => (∃ q, e = .returned (.tuple #[.int .u64 q, .int .u64 ((hi * 18446744073709551616 + lo) % m : Nat)])) ∧ Kept None w w' := by
  have hl := leading m hm
  have m0 : 1152921504606846976 ≤ m := by rcases hm with h | h <;> rw [h] <;> decide
  have m1 : m < 2305843009213693952 := by rcases hm with h | h <;> rw [h] <;> decide
  clear hm
  go_enter Try.func109, Try.ntmps109
  by_cases hz : hi = 0
  · subst hz
    have t1 : (lo : Int).tmod m = (lo : Int) % m := Int.tmod_eq_emod_of_nonneg (by omega)
    have t2 : (lo : Int).tdiv m = (lo : Int) / m := Int.tdiv_eq_ediv_of_nonneg (by omega)
    go_wp2_with fail
    go_quiet (fail)
    go_wp2
    go_ret2
    refine ⟨⟨IntKind.u64.wrap ((lo : Int) / m), ?_⟩, Kept.toDrewN _ _ _⟩
    rw [Nat.zero_mul, Nat.zero_add, Int.natCast_emod]
    rfl
  · go_wp2_with fail
    refine (hl _).mono ?_
    rintro e w1 ⟨rfl, rfl⟩
    go_upto_block 0 with fail
    -- the halves
    obtain ⟨y, hy⟩ : ∃ y, y = m * 8 := ⟨_, rfl⟩
    obtain ⟨u, hu⟩ : ∃ u, u = hi * 8 + lo / 2305843009213693952 := ⟨_, rfl⟩
    obtain ⟨l, hl'⟩ : ∃ l, l = lo * 8 % 18446744073709551616 := ⟨_, rfl⟩
    have eu := or8 hi lo (by omega) h1
    rw [← hu] at eu
    have ey : ((m : Int) * 8) = (y : Int) := by omega
    have el : IntKind.u64.wrap ((lo : Int) * 8) = (l : Int) := by rw [IntKind.wrap_u64]; omega
    have hY : Halved y (y / 4294967296) (y % 4294967296) := ⟨by omega, by omega, by omega⟩
    have huy : u < y := by omega
    have hyy : y < 18446744073709551616 := by omega
    have hll : l < 18446744073709551616 := by omega
    have hfin : ((u * 4294967296 + l / 4294967296) % y * 4294967296 + l % 4294967296) % y / 8 = (hi * 18446744073709551616 + lo) % m := by
      rw [two_digits (by omega), ← rem_shift (hi * 18446744073709551616 + lo) m, hy]
      congr 2
      omega
    have HF := hid hfin
    obtain ⟨g1, g2, g3⟩ := Guess.first hY huy (show l / 4294967296 < 4294967296 by omega)
    have er := first_r (u := u) (y1 := y / 4294967296) (by omega)
    have eq0 := first_q (u := u) (y1 := y / 4294967296) (by omega)
    simp only [eu, ey, el, mask32 y hyy, mask32 l hll, div32, eq0, er]
    clear hfin eu ey el hl' hy hu eq0 er
    obtain ⟨y1, hy1⟩ : ∃ y1, y1 = y / 4294967296 := ⟨_, rfl⟩
    obtain ⟨y0, hy0⟩ : ∃ y0, y0 = y % 4294967296 := ⟨_, rfl⟩
    obtain ⟨d1, hd1⟩ : ∃ d1, d1 = l / 4294967296 := ⟨_, rfl⟩
    obtain ⟨d0, hd0⟩ : ∃ d0, d0 = l % 4294967296 := ⟨_, rfl⟩
    obtain ⟨q0, hq0⟩ : ∃ q0, q0 = u / y1 := ⟨_, rfl⟩
    obtain ⟨r0, hr0⟩ : ∃ r0, r0 = u % y1 := ⟨_, rfl⟩
    rw [← hy1] at hY g1 g2 g3
    rw [← hy0] at hY
    rw [← hd1] at g1
    rw [← hq0] at g1 g2
    rw [← hr0] at g1 g3
    have b1 : y1 < 4294967296 := by omega
    have b0 : y0 < 4294967296 := by omega
    have bd1 : d1 < 4294967296 := by omega
    have bd0 : d0 < 4294967296 := by omega
    rw [← hd1, ← hd0] at HF
    simp only [← hy1, ← hy0, ← hd1, ← hd0, ← hq0, ← hr0]
    clear hy1 hy0 hd1 hd0 hq0 hr0
    obtain ⟨Q, hQe⟩ : ∃ Q, Q = (u * 4294967296 + d1) / y := ⟨_, rfl⟩
    have HQ := hid hQe
    clear hQe
    go_cut [15] (fun a wx => a = .int .u64 Q ∧ wx = w)
    case first =>
      go_wp2_with fail
      go_loopg [15, 16] q0 (fun g a b wr => ∃ q r : Nat, q = g ∧ a = .int .u64 q ∧ b = .int .u64 r ∧ Guess y y1 u d1 q r ∧ r < 4294967296 ∧ q ≤ 4294967297 ∧ wr = w)
      case atStart => exact ⟨q0, r0, rfl, rfl, rfl, g1, by omega, g2, rfl⟩
      case round =>
        obtain ⟨q, r, rfl, rfl, rfl, hg, hr, hq, rfl⟩ := hrel
        obtain ⟨p, hp⟩ : ∃ p, p = q * y0 := ⟨_, rfl⟩
        have em : IntKind.u64.wrap (4294967296 * (r : Int)) = 4294967296 * (r : Int) := by rw [IntKind.wrap_u64]; omega
        have ea : IntKind.u64.wrap (4294967296 * (r : Int) + (d1 : Int)) = 4294967296 * (r : Int) + (d1 : Int) := by rw [IntKind.wrap_u64]; omega
        by_cases hB : 4294967296 ≤ q
        · have hb : decide ((4294967296 : Int) ≤ (q : Int)) = true := decide_eq_true (by omega)
          have hs := hg.step hY huy bd1 (.inl hB)
          clear hp em ea
          obtain ⟨h1q, hs⟩ := hs
          have e2 : IntKind.u64.wrap ((r : Int) + (y1 : Int)) = (r : Int) + (y1 : Int) := by rw [IntKind.wrap_u64]; omega
          have e1 : IntKind.u64.wrap ((q : Int) - 1) = ((q - 1 : Nat) : Int) := by rw [IntKind.wrap_u64]; omega
          by_cases hC : 4294967296 ≤ r + y1
          · have hc : decide ((4294967296 : Int) ≤ (r : Int) + (y1 : Int)) = true := decide_eq_true (by omega)
            have hQ := hs.broke hY huy hC (by omega)
            rw [← HQ.out] at hQ
            have HH := hid hQ
            clear hB hC h1q hs hr hq hyy hll h1 b1 b0 bd1 bd0 huy hY hg g1 g2 g3 m0 m1 h0 hz hQ
            go_wp2
            go_meet
            exact ⟨by rw [HH.out], rfl⟩
          · have hc : decide ((4294967296 : Int) ≤ (r : Int) + (y1 : Int)) = false := decide_eq_false (by omega)
            have HH := hid (And.intro hs (And.intro hC (And.intro hq h1q)))
            clear hB hC hs hr hq h1q hyy hll h1 b1 b0 bd1 bd0 huy hY hg g1 g2 g3 m0 m1 h0 hz
            go_wp2
            go_roundg (q - 1)
            case measure => have := HH.out.2.2.2; omega
            case rel => exact ⟨q - 1, r + y1, rfl, rfl, by go_num, HH.out.1, by have := HH.out.2.1; omega, by have := HH.out.2.2.1; omega, rfl⟩
        · have hb : decide ((4294967296 : Int) ≤ (q : Int)) = false := decide_eq_false (by omega)
          have ep : IntKind.u64.wrap ((q : Int) * (y0 : Int)) = (p : Int) := by
            have := Nat.mul_le_mul (show q ≤ 4294967295 by omega) (show y0 ≤ 4294967295 by omega)
            rw [← Int.natCast_mul, ← hp, IntKind.wrap_u64]
            omega
          by_cases hL : 4294967296 * r + d1 < p
          · have hl2 : decide (4294967296 * (r : Int) + (d1 : Int) < (p : Int)) = true := decide_eq_true (by omega)
            have hs := hg.step hY huy bd1 (.inr (by rw [← hp]; exact hL))
            clear hp
            obtain ⟨h1q, hs⟩ := hs
            have e2 : IntKind.u64.wrap ((r : Int) + (y1 : Int)) = (r : Int) + (y1 : Int) := by rw [IntKind.wrap_u64]; omega
            have e1 : IntKind.u64.wrap ((q : Int) - 1) = ((q - 1 : Nat) : Int) := by rw [IntKind.wrap_u64]; omega
            by_cases hC : 4294967296 ≤ r + y1
            · have hc : decide ((4294967296 : Int) ≤ (r : Int) + (y1 : Int)) = true := decide_eq_true (by omega)
              have hQ := hs.broke hY huy hC (by omega)
              rw [← HQ.out] at hQ
              have HH := hid hQ
              clear hB hC h1q hs hr hq hyy hll h1 b1 b0 bd1 bd0 huy hY hg g1 g2 g3 m0 m1 h0 hz hQ
              go_wp2
              go_meet
              exact ⟨by rw [HH.out], rfl⟩
            · have hc : decide ((4294967296 : Int) ≤ (r : Int) + (y1 : Int)) = false := decide_eq_false (by omega)
              have HH := hid (And.intro hs (And.intro hC (And.intro hq h1q)))
              clear hB hC hs hr hq h1q hyy hll h1 b1 b0 bd1 bd0 huy hY hg g1 g2 g3 m0 m1 h0 hz
              go_wp2
              go_roundg (q - 1)
              case measure => have := HH.out.2.2.2; omega
              case rel => exact ⟨q - 1, r + y1, rfl, rfl, by go_num, HH.out.1, by have := HH.out.2.1; omega, by have := HH.out.2.2.1; omega, rfl⟩
          · have hl2 : decide (4294967296 * (r : Int) + (d1 : Int) < (p : Int)) = false := decide_eq_false (by omega)
            have hQ := hg.done hY huy (by rw [← hp]; omega)
            rw [← HQ.out] at hQ
            have HH := hid hQ
            clear hB hL hr hq hyy hll h1 b1 b0 bd1 bd0 huy hY hg g1 g2 g3 m0 m1 h0 hz hQ hp
            go_wp2
            go_meet
            exact ⟨by rw [HH.out], rfl⟩
    case rest =>
      obtain ⟨rfl, rfl⟩ := hcut
      have hR := Nat.mod_lt (u * 4294967296 + d1) (show 0 < y by omega)
      have e6 := digit_rest hY huy bd1 hyy
      rw [← HQ.out] at e6
      obtain ⟨R, hRe⟩ : ∃ R, R = (u * 4294967296 + d1) % y := ⟨_, rfl⟩
      rw [← hRe] at hR e6 HF
      obtain ⟨g1', g2', g3'⟩ := Guess.first hY hR bd0
      have e7 := first_q2 (u := R) (y1 := y1) (by omega)
      have e8 := first_r (u := R) (y1 := y1) (by omega)
      obtain ⟨q1, hq1⟩ : ∃ q1, q1 = R / y1 := ⟨_, rfl⟩
      obtain ⟨r1, hr1⟩ : ∃ r1, r1 = R % y1 := ⟨_, rfl⟩
      rw [← hq1] at g1' g2' e7 e8
      rw [← hr1] at g1' g3' e8
      clear hq1 hr1 hRe
      have e9b : ¬ y1 = 0 := by have := hY.2.2; omega
      have e9 : ((y1 : Int) == 0) = false := by
        have := hY.2.2
        simp only [beq_eq_false_iff_ne, ne_eq]
        omega
      obtain ⟨Q2, hQe⟩ : ∃ Q2, Q2 = (R * 4294967296 + d0) / y := ⟨_, rfl⟩
      have HQ2 := hid hQe
      have e10 := digit_rest hY hR bd0 hyy
      rw [← hQe] at e10
      obtain ⟨R2, hR2⟩ : ∃ R2, R2 = (R * 4294967296 + d0) % y := ⟨_, rfl⟩
      rw [← hR2] at e10 HF
      clear hQe hR2
      have HE := hid e10
      have HH0 := hid (And.intro hY (And.intro huy (And.intro hyy (And.intro b1 (And.intro b0 (And.intro bd1 (And.intro bd0 (And.intro hR (And.intro g1' (And.intro g2' g3'))))))))))
      clear e10 hyy hll h1 b1 b0 bd1 bd0 huy hY g1 g2 g3 m0 m1 h0 hz hR g1' g2' g3'
      go_upto_block 2 with fail
      obtain ⟨hY, huy, hyy, b1, b0, bd1, bd0, hR, g1', g2', g3'⟩ := HH0.out
      go_cut [18] (fun a wx => a = .int .u64 Q2 ∧ wx = wc)
      case first =>
        go_wp2_with fail
        go_loopg [16, 18] q1 (fun g b a wr => ∃ q r : Nat, q = g ∧ a = .int .u64 q ∧ b = .int .u64 r ∧ Guess y y1 R d0 q r ∧ r < 4294967296 ∧ q ≤ 4294967297 ∧ wr = wc)
        case atStart => exact ⟨q1, r1, rfl, rfl, rfl, g1', by omega, g2', rfl⟩
        case round =>
          obtain ⟨q, r, rfl, rfl, rfl, hg, hr, hq, rfl⟩ := hrel
          obtain ⟨p, hp⟩ : ∃ p, p = q * y0 := ⟨_, rfl⟩
          have em : IntKind.u64.wrap (4294967296 * (r : Int)) = 4294967296 * (r : Int) := by rw [IntKind.wrap_u64]; omega
          have ea : IntKind.u64.wrap (4294967296 * (r : Int) + (d0 : Int)) = 4294967296 * (r : Int) + (d0 : Int) := by rw [IntKind.wrap_u64]; omega
          by_cases hB : 4294967296 ≤ q
          · have hb : decide ((4294967296 : Int) ≤ (q : Int)) = true := decide_eq_true (by omega)
            have hs := hg.step hY hR bd0 (.inl hB)
            clear hp em ea
            obtain ⟨h1q, hs⟩ := hs
            have e2 : IntKind.u64.wrap ((r : Int) + (y1 : Int)) = (r : Int) + (y1 : Int) := by rw [IntKind.wrap_u64]; omega
            have e1 : IntKind.u64.wrap ((q : Int) - 1) = ((q - 1 : Nat) : Int) := by rw [IntKind.wrap_u64]; omega
            by_cases hC : 4294967296 ≤ r + y1
            · have hc : decide ((4294967296 : Int) ≤ (r : Int) + (y1 : Int)) = true := decide_eq_true (by omega)
              have hQ := hs.broke hY hR hC (by omega)
              rw [← HQ2.out] at hQ
              have HH := hid hQ
              clear hR hB hC h1q hs hr hq hyy b1 b0 bd1 bd0 huy hY hg g1' g2' g3' hQ
              go_wp2
              go_meet
              exact ⟨by rw [HH.out], rfl⟩
            · have hc : decide ((4294967296 : Int) ≤ (r : Int) + (y1 : Int)) = false := decide_eq_false (by omega)
              have HH := hid (And.intro hs (And.intro hC (And.intro hq h1q)))
              clear hR hB hC hs hr hq h1q hyy b1 b0 bd1 bd0 huy hY hg g1' g2' g3'
              go_wp2
              go_roundg (q - 1)
              case measure => have := HH.out.2.2.2; omega
              case rel => exact ⟨q - 1, r + y1, rfl, rfl, by go_num, HH.out.1, by have := HH.out.2.1; omega, by have := HH.out.2.2.1; omega, rfl⟩
          · have hb : decide ((4294967296 : Int) ≤ (q : Int)) = false := decide_eq_false (by omega)
            have ep : IntKind.u64.wrap ((q : Int) * (y0 : Int)) = (p : Int) := by
              have := Nat.mul_le_mul (show q ≤ 4294967295 by omega) (show y0 ≤ 4294967295 by omega)
              rw [← Int.natCast_mul, ← hp, IntKind.wrap_u64]
              omega
            by_cases hL : 4294967296 * r + d0 < p
            · have hl2 : decide (4294967296 * (r : Int) + (d0 : Int) < (p : Int)) = true := decide_eq_true (by omega)
              have hs := hg.step hY hR bd0 (.inr (by rw [← hp]; exact hL))
              clear hp
              obtain ⟨h1q, hs⟩ := hs
              have e2 : IntKind.u64.wrap ((r : Int) + (y1 : Int)) = (r : Int) + (y1 : Int) := by rw [IntKind.wrap_u64]; omega
              have e1 : IntKind.u64.wrap ((q : Int) - 1) = ((q - 1 : Nat) : Int) := by rw [IntKind.wrap_u64]; omega
              by_cases hC : 4294967296 ≤ r + y1
              · have hc : decide ((4294967296 : Int) ≤ (r : Int) + (y1 : Int)) = true := decide_eq_true (by omega)
                have hQ := hs.broke hY hR hC (by omega)
                rw [← HQ2.out] at hQ
                have HH := hid hQ
                clear hR hB hC h1q hs hr hq hyy b1 b0 bd1 bd0 huy hY hg g1' g2' g3' hQ
                go_wp2
                go_meet
                exact ⟨by rw [HH.out], rfl⟩
              · have hc : decide ((4294967296 : Int) ≤ (r : Int) + (y1 : Int)) = false := decide_eq_false (by omega)
                have HH := hid (And.intro hs (And.intro hC (And.intro hq h1q)))
                clear hR hB hC hs hr hq h1q hyy b1 b0 bd1 bd0 huy hY hg g1' g2' g3'
                go_wp2
                go_roundg (q - 1)
                case measure => have := HH.out.2.2.2; omega
                case rel => exact ⟨q - 1, r + y1, rfl, rfl, by go_num, HH.out.1, by have := HH.out.2.1; omega, by have := HH.out.2.2.1; omega, rfl⟩
            · have hl2 : decide (4294967296 * (r : Int) + (d0 : Int) < (p : Int)) = false := decide_eq_false (by omega)
              have hQ := hg.done hY hR (by rw [← hp]; omega)
              rw [← HQ2.out] at hQ
              have HH := hid hQ
              clear hR hB hL hr hq hyy b1 b0 bd1 bd0 huy hY hg g1' g2' g3' hQ hp
              go_wp2
              go_meet
              exact ⟨by rw [HH.out], rfl⟩
      case rest =>
        obtain ⟨rfl, rfl⟩ := hcut
        have e11 := HE.out
        clear HH0 g1' g2' g3' hR bd0 bd1 b0 b1 hyy huy hY
        go_wp2
        go_ret2
        refine ⟨⟨IntKind.u64.wrap (IntKind.u64.wrap ((Q : Int) * 4294967296) + Q2), ?_⟩, Kept.refl _ _⟩
        rw [← HF.out]
        rfl

theorem rem64 (hi lo m : Nat) (hm : m = prime61 ∨ m = order61) (h1 : lo < 18446744073709551616) (w : World) :
    Calls Try.prog 95 #[.int .u64 hi, .int .u64 lo, .int .u64 m] w fun e w' => e = .returned (.int .u64 ((hi * 18446744073709551616 + lo) % m : Nat)) ∧ Kept None w w' := by
  have mp : 0 < m := by rcases hm with h | h <;> rw [h] <;> decide
  have hd := fun w => div64 (hi % m) lo m hm (Nat.mod_lt _ mp) h1 w
  rw [rem_high] at hd
  obtain ⟨R, hR⟩ : ∃ R, R = (hi * 18446744073709551616 + lo) % m := ⟨_, rfl⟩
  simp only [← hR] at hd ⊢
  rw [Int.natCast_emod] at hd
  have HD := hid hd
  have m0 : ¬ m = 0 := by omega
  have hz : ((m : Int) == 0) = false := by simp only [beq_eq_false_iff_ne, ne_eq]; omega
  have t1 : (hi : Int).tmod m = (hi : Int) % m := Int.tmod_eq_emod_of_nonneg (by omega)
  clear hd hR hm h1 mp
  go_enter Try.func95, Try.ntmps95
  go_wp2_with fail
  refine (HD.out _).mono ?_
  rintro e w1 ⟨⟨q, rfl⟩, k1⟩
  go_wp2
  go_ret
  exact ⟨rfl, k1⟩
end Bt
end Go.Proofs.Ytibkijloibnkfaa

/- Package field, by its contracts: conditions: a factor is a word (less than 2^64). -/
namespace Go.Proofs.Ytibkijloibnkfaa
open Go.RowKit Go.Pm
namespace Fd

theorem unfoldMod (m : Nat) : Ref.modOf m = if m = order61 then order61 else prime61 := rfl
theorem modulus (m : Nat) (w : World) : Calls Try.prog 93 #[.int .u64 m] w fun e w' => e = .returned (.int .u64 (Ref.modOf m : Nat)) ∧ w = w' := by
  by_cases h : m = order61
  · have e1 : Ref.modOf m = order61 := if_pos h
    rw [e1, h]
    go_enter Try.func93, Try.ntmps93
    go_wp2
    go_ret
    exact ⟨rfl, rfl⟩
  · have e1 : Ref.modOf m = prime61 := if_neg h
    rw [e1]
    have h2 : ((m : Int) == 2305843009213693950) = false := by
      simp only [beq_eq_false_iff_ne, ne_eq]
      intro e
      exact h (by unfold order61; omega)
    go_enter Try.func93, Try.ntmps93
    go_wp2
    go_ret
    exact ⟨rfl, rfl⟩

set_option maxHeartbeats 400000 in
theorem add (a b m : Nat) (w : World) : Calls Try.prog 69 #[.int .u64 a, .int .u64 b, .int .u64 m] w fun e w' => e = .returned (.int .u64 ((a + b) % Ref.modOf m : Nat)) ∧ Kept None w w' := by
  have m0 := Ref.modOf_pos m
  have m1 := Ref.modOf_le m
  have hmod := modulus m
  generalize Ref.modOf m = M at *
  have HM := hid hmod
  clear hmod
  go_enter Try.func69, Try.ntmps69
  go_wp2_with fail
  refine (HM.out _).mono ?_
  rintro e w1 ⟨rfl, rfl⟩
  go_wp2
  have p0 : (0 : Int) < M := by omega
  have x0 := Int.emod_nonneg (a : Int) (show (M : Int) ≠ 0 by omega)
  have y0 := Int.emod_nonneg (b : Int) (show (M : Int) ≠ 0 by omega)
  have x1 := Int.emod_lt_of_pos (a : Int) p0
  have y1 := Int.emod_lt_of_pos (b : Int) p0
  have ew : IntKind.u64.wrap ((a : Int) % M + (b : Int) % M) = (a : Int) % M + (b : Int) % M := by rw [IntKind.wrap_u64]; exact Int.emod_eq_of_lt (by omega) (by omega)
  have t1 : (a : Int).tmod M = (a : Int) % M := Int.tmod_eq_emod_of_nonneg (by omega)
  have t2 : (b : Int).tmod M = (b : Int) % M := Int.tmod_eq_emod_of_nonneg (by omega)
  have t3 : ((a : Int) % M + (b : Int) % M).tmod M = ((a : Int) % M + (b : Int) % M) % M := Int.tmod_eq_emod_of_nonneg (by omega)
  clear x0 x1 y0 y1 m0 m1
  go_quiet (fail)
  go_wp2
  go_ret
  exact ⟨by rw [Int.natCast_emod, Int.natCast_add]; rfl, Kept.toDrewN _ _ _⟩

theorem mod_or (m : Nat) : Ref.modOf m = prime61 ∨ Ref.modOf m = order61 := by unfold Ref.modOf; split <;> simp
theorem mul (a b m : Nat) (w : World) (ha : a < 18446744073709551616) (hb : b < 18446744073709551616) : Calls Try.prog 70 #[.int .u64 a, .int .u64 b, .int .u64 m] w fun e w' => e = .returned (.int .u64 (a * b % Ref.modOf m : Nat)) ∧ Kept None w w' := by
  have hmul := fun w => Bt.mul64 a b ha hb w
  have hrem := fun w => Bt.rem64 (a * b / 18446744073709551616) (a * b % 18446744073709551616) (Ref.modOf m) (mod_or m) (Nat.mod_lt _ (by decide)) w
  rw [halves] at hrem
  have hmod := modulus m
  obtain ⟨M, hM⟩ : ∃ M, M = Ref.modOf m := ⟨_, rfl⟩
  obtain ⟨h, hh⟩ : ∃ h, h = a * b / 18446744073709551616 := ⟨_, rfl⟩
  obtain ⟨l, hl⟩ : ∃ l, l = a * b % 18446744073709551616 := ⟨_, rfl⟩
  obtain ⟨r, hr⟩ : ∃ r, r = a * b % M := ⟨_, rfl⟩
  simp only [← hM, ← hh, ← hl, ← hr] at hmul hrem hmod ⊢
  have HU := hid hmul
  have HR := hid hrem
  have HM := hid hmod
  clear hmul hrem hmod hM hh hl hr ha hb
  go_enter Try.func70, Try.ntmps70
  go_wp2_with fail
  refine (HU.out _).mono ?_
  rintro e w1 ⟨rfl, rfl⟩
  go_wp2_with fail
  refine (HM.out _).mono ?_
  rintro e w1 ⟨rfl, rfl⟩
  go_wp2_with fail
  refine (HR.out _).mono ?_
  rintro e w2 ⟨rfl, k2⟩
  go_wp2
  go_ret
  exact ⟨rfl, k2⟩

set_option maxHeartbeats 1000000 in
theorem pow (a n m : Nat) (w : World) (ha : a < 18446744073709551616) : Calls Try.prog 73 #[.int .u64 a, .int .u64 n, .int .u64 m] w fun e w' => e = .returned (.int .u64 (powm (Ref.modOf m) a n : Nat)) ∧ Kept None w w' := by
  have m0 := Ref.modOf_pos m
  have m1 := Ref.modOf_le m
  have m2 : 1 < Ref.modOf m := by rcases mod_or m with h | h <;> rw [h] <;> decide
  have hmul := fun a b => mul a b m
  obtain ⟨M, hM⟩ : ∃ M, M = Ref.modOf m := ⟨_, rfl⟩
  simp only [← hM] at m0 m1 m2 hmul ⊢
  have HU := hid hmul
  have HB := hid (And.intro m0 (And.intro m1 (And.intro m2 ha)))
  clear hmul m1 ha hM
  go_enter Try.func73, Try.ntmps73
  go_wp2
  go_loopw [0, 1, 7] (fun x y z wr => ∃ a' b' o : Nat, x = .int .u64 a' ∧ y = .int .u64 b' ∧ z = .int .u64 o ∧ o < M ∧ Hid (a' < 18446744073709551616) ∧ o * powm M a' b' % M = powm M a n ∧ Kept None w wr) (fun _ y _ _ => (intOf y).toNat)
  case atStart =>
    refine ⟨a, n, 1, rfl, rfl, rfl, m2, hid HB.out.2.2.2, ?_, Kept.refl _ _⟩
    rw [Nat.one_mul, Nat.mod_eq_of_lt (powm_lt M a n m0)]
  case round =>
    obtain ⟨x, y, o, rfl, rfl, rfl, ho, hx, he, hk⟩ := hrel
    have hx2 := hid (show x * x % M < 18446744073709551616 by have := Nat.mod_lt (x * x) m0; have := HB.out.2.1; omega)
    have ho2 := hid (show o < 18446744073709551616 by have := HB.out.2.1; omega)
    by_cases hy : 0 < y
    · have hand := Ref.and_one y
      rcases Nat.mod_two_eq_zero_or_one y with hp | hp
      · rw [hp] at hand
        have HE := hid ((pow_even M o x y hp).trans he)
        clear he hp
        go_wp2_with fail
        refine (HU.out x x _ hx.out hx.out).mono ?_
        rintro e w2 ⟨rfl, k2⟩
        have hk2 := hk.then k2 (fun _ _ h => h)
        go_wp2
        go_roundw
        case rel => exact ⟨x * x % M, y / 2, o, rfl, by simp, rfl, ho, hx2, HE.out, hk2⟩
        case measure => simp [intOf]; omega
      · rw [hp] at hand
        have HE := hid ((pow_odd M o x y hp).trans he)
        clear he hp
        go_wp2_with fail
        refine (HU.out o x _ ho2.out hx.out).mono ?_
        rintro e w2 ⟨rfl, k2⟩
        have hk2 := hk.then k2 (fun _ _ h => h)
        go_wp2_with fail
        refine (HU.out x x _ hx.out hx.out).mono ?_
        rintro e w3 ⟨rfl, k3⟩
        have hk3 := hk2.then k3 (fun _ _ h => h)
        go_wp2
        go_roundw
        case rel => exact ⟨x * x % M, y / 2, o * x % M, rfl, by simp, rfl, Nat.mod_lt _ m0, hx2, HE.out, hk3⟩
        case measure => simp [intOf]; omega
    · have hy0 : y = 0 := by omega
      subst hy0
      rw [powm_zero, Nat.mul_mod_mod, Nat.mul_one, Nat.mod_eq_of_lt ho] at he
      have HE := hid he
      clear he
      go_wp2
      go_ret
      rw [← HE.out]
      exact ⟨rfl, hk⟩
end Fd
end Go.Proofs.Ytibkijloibnkfaa
