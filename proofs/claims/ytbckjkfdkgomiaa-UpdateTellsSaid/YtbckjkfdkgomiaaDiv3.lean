/- Long division of two words by one, digit by digit, as plain mathematics (program-independent): conditions: the divisor's highest bit is set; a digit is 32 bits. -/
import Derived.Test.YtbckjkfdkgomiaaBase
namespace Go.Pm

/-- One step of a digit's guess: it is too great, so one less is no less than the digit. -/
theorem digit_step {y y1 y0 u d q r : Nat} (hy : y = y1 * 4294967296 + y0) (hu : u < y) (hd : d < 4294967296) (hq : q * y1 + r = u) (hle : (u * 4294967296 + d) / y ≤ q)
    (hc : 4294967296 ≤ q ∨ 4294967296 * r + d < q * y0) : 1 ≤ q ∧ (u * 4294967296 + d) / y ≤ q - 1 ∧ (q - 1) * y1 + (r + y1) = u := by
  have hlt : (u * 4294967296 + d) / y < q := by
    rcases hc with h | h
    · refine Nat.lt_of_lt_of_le ((Nat.div_lt_iff_lt_mul (by omega)).2 ?_) h
      rw [Nat.mul_comm]
      have : (u + 1) * 4294967296 ≤ y * 4294967296 := Nat.mul_le_mul_right _ hu
      omega
    · refine (Nat.div_lt_iff_lt_mul (by omega)).2 ?_
      have e1 : q * y = (q * y1) * 4294967296 + q * y0 := by rw [hy, Nat.mul_add, Nat.mul_assoc]
      omega
  obtain ⟨Q, hQ⟩ : ∃ Q, Q = (u * 4294967296 + d) / y := ⟨_, rfl⟩
  rw [← hQ] at hle hlt ⊢
  clear hQ
  refine ⟨by omega, by omega, ?_⟩
  obtain ⟨p, rfl⟩ : ∃ p, q = p + 1 := ⟨q - 1, by omega⟩
  rw [Nat.add_mul] at hq
  simp only [Nat.add_sub_cancel]
  omega

/-- A guess that is not too great any more is the digit. -/
theorem digit_done {y y1 y0 u d q r : Nat} (hy : y = y1 * 4294967296 + y0) (hu : u < y) (hq : q * y1 + r = u) (hle : (u * 4294967296 + d) / y ≤ q) (hc : q * y0 ≤ 4294967296 * r + d) : q = (u * 4294967296 + d) / y := by
  refine Nat.le_antisymm ((Nat.le_div_iff_mul_le (by omega)).2 ?_) hle
  have e1 : q * y = (q * y1) * 4294967296 + q * y0 := by rw [hy, Nat.mul_add, Nat.mul_assoc]
  omega
theorem digit_break {y y1 y0 u d q r : Nat} (hy : y = y1 * 4294967296 + y0) (h0 : y0 < 4294967296) (hu : u < y) (hq : q * y1 + r = u) (hle : (u * 4294967296 + d) / y ≤ q) (hr : 4294967296 ≤ r) (hb : q ≤ 4294967296) : q = (u * 4294967296 + d) / y := by
  refine digit_done hy hu hq hle ?_
  have := Nat.mul_le_mul hb (show y0 ≤ 4294967295 by omega)
  omega
/-- The first guess. -/
theorem digit_first {y y1 y0 u d : Nat} (hy : y = y1 * 4294967296 + y0) (h0 : y0 < 4294967296) (h1 : 2147483648 ≤ y1) (hu : u < y) (hd : d < 4294967296) : (u * 4294967296 + d) / y ≤ u / y1 ∧ u / y1 ≤ 4294967297 ∧ u / y1 * y1 + u % y1 = u ∧ u % y1 < y1 := by
  have hm : u / y1 * y1 + u % y1 = u := by rw [Nat.mul_comm]; exact Nat.div_add_mod u y1
  refine ⟨?_, ?_, hm, Nat.mod_lt _ (by omega)⟩
  · rw [Nat.le_div_iff_mul_le (by omega)]
    have hq : (u * 4294967296 + d) / y * y ≤ u * 4294967296 + d := Nat.div_mul_le_self _ _
    obtain ⟨q, hqe⟩ : ∃ q, q = (u * 4294967296 + d) / y := ⟨_, rfl⟩
    rw [← hqe] at hq ⊢
    have e1 : q * y = (q * y1) * 4294967296 + q * y0 := by rw [hy, Nat.mul_add, Nat.mul_assoc]
    omega
  · obtain ⟨q, hqe⟩ : ∃ q, q = u / y1 := ⟨_, rfl⟩
    rw [← hqe] at hm ⊢
    rcases Nat.lt_or_ge q 4294967298 with h | h
    · omega
    · exfalso
      have := Nat.mul_le_mul_right y1 h
      omega
/-- A guess q of the digit of (u, d) by y, with what it leaves, r. -/
def Guess (y y1 u d q r : Nat) : Prop := q * y1 + r = u ∧ (u * 4294967296 + d) / y ≤ q
/-- Two words by one: y's halves are y1 and y0, its highest bit is set; u is less than y. -/
def Halved (y y1 y0 : Nat) : Prop := y = y1 * 4294967296 + y0 ∧ y0 < 4294967296 ∧ 2147483648 ≤ y1
theorem Guess.first {y y1 y0 u d : Nat} (h : Halved y y1 y0) (hu : u < y) (hd : d < 4294967296) : Guess y y1 u d (u / y1) (u % y1) ∧ u / y1 ≤ 4294967297 ∧ u % y1 < y1 := by
  obtain ⟨a, b, c, e⟩ := digit_first h.1 h.2.1 h.2.2 hu hd
  exact ⟨⟨c, a⟩, b, e⟩
theorem Guess.step {y y1 y0 u d q r : Nat} (h : Halved y y1 y0) (hu : u < y) (hd : d < 4294967296) (g : Guess y y1 u d q r) (hc : 4294967296 ≤ q ∨ 4294967296 * r + d < q * y0) : 1 ≤ q ∧ Guess y y1 u d (q - 1) (r + y1) := by
  obtain ⟨a, b, c⟩ := digit_step h.1 hu hd g.1 g.2 hc
  exact ⟨a, c, b⟩
theorem Guess.done {y y1 y0 u d q r : Nat} (h : Halved y y1 y0) (hu : u < y) (g : Guess y y1 u d q r) (hc : q * y0 ≤ 4294967296 * r + d) : q = (u * 4294967296 + d) / y := digit_done h.1 hu g.1 g.2 hc
theorem Guess.broke {y y1 y0 u d q r : Nat} (h : Halved y y1 y0) (hu : u < y) (g : Guess y y1 u d q r) (hr : 4294967296 ≤ r) (hb : q ≤ 4294967296) : q = (u * 4294967296 + d) / y := digit_break h.1 h.2.1 hu g.1 g.2 hr hb
/-- The first guess, as a word; what it leaves. -/
theorem first_q {u y1 : Nat} (h : u < 18446744073709551616) : IntKind.u64.wrap ((u : Int).tdiv (y1 : Int)) = ((u / y1 : Nat) : Int) := by
  have hle := Nat.div_le_self u y1
  rw [Int.tdiv_eq_ediv_of_nonneg (by omega), ← Int.natCast_ediv, IntKind.wrap_u64]
  obtain ⟨q, hq⟩ : ∃ q, q = u / y1 := ⟨_, rfl⟩
  rw [← hq] at hle ⊢
  omega
theorem first_q2 {u y1 : Nat} (h : u < 18446744073709551616) : IntKind.u64.wrap ((u : Int) / (y1 : Int)) = ((u / y1 : Nat) : Int) := by
  rw [← first_q h, Int.tdiv_eq_ediv_of_nonneg (by omega)]
theorem first_r {u y1 : Nat} (h : u < 18446744073709551616) : IntKind.u64.wrap ((u : Int) - IntKind.u64.wrap (((u / y1 : Nat) : Int) * (y1 : Int))) = ((u % y1 : Nat) : Int) := by
  have hm : u / y1 * y1 + u % y1 = u := by rw [Nat.mul_comm]; exact Nat.div_add_mod u y1
  obtain ⟨q, hq⟩ : ∃ q, q = u / y1 := ⟨_, rfl⟩
  obtain ⟨r, hr⟩ : ∃ r, r = u % y1 := ⟨_, rfl⟩
  rw [← hq, ← hr] at hm
  rw [← hq, ← hr, ← Int.natCast_mul]
  obtain ⟨p, hp⟩ : ∃ p, p = q * y1 := ⟨_, rfl⟩
  rw [← hp] at hm ⊢
  simp only [IntKind.wrap_u64]
  omega
/-- What is left behind a digit. -/
theorem digit_rest {y y1 y0 u d : Nat} (h : Halved y y1 y0) (_hu : u < y) (_hd : d < 4294967296) (hy : y < 18446744073709551616) :
    IntKind.u64.wrap (IntKind.u64.wrap (IntKind.u64.wrap ((u : Int) * 4294967296) + d) - IntKind.u64.wrap ((((u * 4294967296 + d) / y : Nat) : Int) * y)) = (((u * 4294967296 + d) % y : Nat) : Int) := by
  have hm := Nat.div_add_mod (u * 4294967296 + d) y
  have hl := Nat.mod_lt (u * 4294967296 + d) (show 0 < y by have := h.2.2; have := h.1; omega)
  rw [Nat.mul_comm] at hm
  obtain ⟨q, hq⟩ : ∃ q, q = (u * 4294967296 + d) / y := ⟨_, rfl⟩
  obtain ⟨r, hr⟩ : ∃ r, r = (u * 4294967296 + d) % y := ⟨_, rfl⟩
  rw [← hq, ← hr] at hm
  rw [← hr] at hl
  rw [← hq, ← hr, ← Int.natCast_mul]
  obtain ⟨p, hp⟩ : ∃ p, p = q * y := ⟨_, rfl⟩
  rw [← hp] at hm ⊢
  simp only [IntKind.wrap_u64]
  omega
/-- What is left behind two digits. -/
theorem two_digits {y u d e : Nat} (_hy : 0 < y) : (((u * 4294967296 + d) % y) * 4294967296 + e) % y = (u * 18446744073709551616 + d * 4294967296 + e) % y := by
  have h : u * 18446744073709551616 + d * 4294967296 + e = (u * 4294967296 + d) * 4294967296 + e := by omega
  rw [h, Nat.add_mod, Nat.mod_mul_mod, ← Nat.add_mod]
/-- A remainder by the divisor shifted by three is the remainder shifted by three. -/
theorem rem_shift (n m : Nat) : (n * 8) % (m * 8) / 8 = n % m := by rw [Nat.mul_mod_mul_right]; omega
theorem rem_high (hi lo m : Nat) : (hi % m * 18446744073709551616 + lo) % m = (hi * 18446744073709551616 + lo) % m := by
  rw [Nat.add_mod, Nat.mod_mul_mod, ← Nat.add_mod]
/-- A product's halves, put together. -/
theorem halves (a b : Nat) : a * b / 18446744073709551616 * 18446744073709551616 + a * b % 18446744073709551616 = a * b := by
  rw [Nat.mul_comm]; exact Nat.div_add_mod _ _
end Go.Pm
