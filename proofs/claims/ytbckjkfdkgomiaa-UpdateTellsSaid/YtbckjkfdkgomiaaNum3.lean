/- Numbers modulo 2^61 - 1 and 2^61 - 2 (chapter 3) as plain mathematics: program-independent. Each number but 0 to the power 2^61 - 2 is 1 modulo 2^61 - 1. -/
import Derived.Test.YtbckjkfdkgomiaaBase
namespace Go.Pm

/-! ### Powers modulo m, by squares (so that the kernel can reckon them) -/
def powSq (m : Nat) : Nat → Nat → Nat → Nat → Nat
  | 0, _, _, out => out
  | f + 1, a, n, out => powSq m f (a * a % m) (n / 2) (if n % 2 = 1 then out * a % m else out)
theorem powSq_is (m : Nat) : ∀ (f a n out : Nat), n < 2 ^ f → powSq m f a n out % m = out * a ^ n % m
  | 0, a, n, out, h => by
    have : n = 0 := by simpa using h
    subst this
    simp [powSq]
  | f + 1, a, n, out, h => by
    unfold powSq
    rw [powSq_is m f _ _ _ (by rw [Nat.pow_succ] at h; omega)]
    have hn : n = 2 * (n / 2) + n % 2 := by omega
    have h2 : a ^ (2 * (n / 2)) = (a * a) ^ (n / 2) := by rw [Nat.pow_mul, Nat.pow_two]
    have h3 : (a * a % m) ^ (n / 2) % m = (a * a) ^ (n / 2) % m := (Nat.pow_mod (a * a) (n / 2) m).symm
    by_cases ho : n % 2 = 1
    · rw [if_pos ho]
      conv => rhs; rw [hn, ho, Nat.pow_succ, h2]
      rw [Nat.mul_mod, h3, Nat.mod_mod, ← Nat.mul_mod, Nat.mul_assoc, Nat.mul_comm a]
    · rw [if_neg ho]
      have h0 : n % 2 = 0 := by omega
      conv => rhs; rw [hn, h0, Nat.add_zero, h2]
      rw [Nat.mul_mod, h3, ← Nat.mul_mod]

/-! ### A set of n things that is sent into itself, one to one, is sent onto itself -/
theorem onto_of_inj : ∀ (n : Nat) (f : Nat → Nat), (∀ i, i < n → f i < n) → (∀ i j, i < n → j < n → f i = f j → i = j) → ∀ y, y < n → ∃ x, x < n ∧ f x = y
  | 0, _, _, _, y, hy => by omega
  | n + 1, f, hf, hi, y, hy => by
    -- the last one's image changes places with n
    have hlast := hf n (by omega)
    let g : Nat → Nat := fun i => if f i = n then f n else f i
    have hg : ∀ i, i < n → g i < n := fun i h => by
      show (if f i = n then f n else f i) < n
      by_cases e : f i = n
      · rw [if_pos e]
        have : f n ≠ n := fun e2 => by have := hi i n (by omega) (by omega) (e.trans e2.symm); omega
        omega
      · rw [if_neg e]
        have := hf i (by omega)
        omega
    have hgi : ∀ i j, i < n → j < n → g i = g j → i = j := fun i j h1 h2 h => by
      change (if f i = n then f n else f i) = (if f j = n then f n else f j) at h
      by_cases e1 : f i = n <;> by_cases e2 : f j = n
      · exact hi i j (by omega) (by omega) (e1.trans e2.symm)
      · rw [if_pos e1, if_neg e2] at h
        have := hi n j (by omega) (by omega) h
        omega
      · rw [if_neg e1, if_pos e2] at h
        have := hi i n (by omega) (by omega) h
        omega
      · rw [if_neg e1, if_neg e2] at h
        exact hi i j (by omega) (by omega) h
    by_cases e : f n = y
    · exact ⟨n, by omega, e⟩
    · by_cases hyn : y = n
      · -- n itself: who is sent to the place of f n under g was sent to n
        subst hyn
        obtain ⟨x, hx, hgx⟩ := onto_of_inj y g hg hgi (f y) (by omega)
        refine ⟨x, by omega, ?_⟩
        change (if f x = y then f y else f x) = f y at hgx
        by_cases e2 : f x = y
        · exact e2
        · rw [if_neg e2] at hgx
          have := hi x y (by omega) (by omega) hgx
          omega
      · obtain ⟨x, hx, hgx⟩ := onto_of_inj n g hg hgi y (by omega)
        refine ⟨x, by omega, ?_⟩
        change (if f x = n then f n else f x) = y at hgx
        by_cases e2 : f x = n
        · rw [if_pos e2] at hgx; exact absurd hgx e
        · rwa [if_neg e2] at hgx

/-! ### A number whose powers go round as late as may be -/
/-- q has no divisors but 1 and itself. -/
def noDiv (q : Nat) : Bool := (List.range (q + 1)).all fun d => decide (d = 1) || decide (d = q) || decide (q % d ≠ 0)
theorem noDiv_spec {q d : Nat} (h : noDiv q = true) (hq : 0 < q) (hd : d ∣ q) : d = 1 ∨ d = q := by
  have hle := Nat.le_of_dvd hq hd
  have := List.all_eq_true.1 h d (List.mem_range.2 (by omega))
  simp only [Bool.or_eq_true, decide_eq_true_eq] at this
  rcases this with (h1 | h1) | h1
  · exact .inl h1
  · exact .inr h1
  · exact absurd (Nat.mod_eq_zero_of_dvd hd) h1
/-- Whoever divides a product of such numbers and is not 1 is divided by one of them. -/
theorem has_factor : ∀ (l : List Nat) (m : Nat), (∀ q ∈ l, 1 < q ∧ noDiv q = true) → 1 < m → m ∣ l.foldr (· * ·) 1 → ∃ q ∈ l, q ∣ m
  | [], m, _, h1, h => by simp at h; omega
  | q :: l, m, hl, h1, h => by
    have hq := hl q (by simp)
    have hg := Nat.gcd_dvd_right m q
    rcases noDiv_spec hq.2 (by omega) hg with e | e
    · have hc : Nat.Coprime m q := e
      have h2 : m ∣ l.foldr (· * ·) 1 := hc.dvd_of_dvd_mul_left (by simpa using h)
      obtain ⟨r, hr, hd⟩ := has_factor l m (fun x hx => hl x (by simp [hx])) h1 h2
      exact ⟨r, by simp [hr], hd⟩
    · exact ⟨q, by simp, by rw [← e]; exact Nat.gcd_dvd_left m q⟩

theorem least {p : Nat → Prop} : ∀ n, p n → ∃ k, p k ∧ ∀ j, j < k → ¬ p j := by
  intro n
  induction n using Nat.strongRecOn with
  | ind n ih =>
    intro h
    by_cases e : ∃ j, j < n ∧ p j
    · obtain ⟨j, hj, hp⟩ := e
      exact ih j hj hp
    · exact ⟨n, h, fun j hj hp => e ⟨j, hj, hp⟩⟩

/-- Where a power of g is 1, so is that by the rest of it. -/
theorem pow_rest {P g o n : Nat} (ho : g ^ o % P = 1) (hn : g ^ n % P = 1) : g ^ (n % o) % P = 1 := by
  have h2 : g ^ (o * (n / o)) % P = 1 % P := by rw [Nat.pow_mul, Nat.pow_mod, ho, Nat.one_pow]
  have h3 : g ^ n % P = (g ^ (o * (n / o)) % P) * (g ^ (n % o) % P) % P := by
    conv => lhs; rw [← Nat.div_add_mod n o, Nat.pow_add]
    exact Nat.mul_mod _ _ _
  rw [h2, hn] at h3
  rw [← Nat.mul_mod, Nat.one_mul] at h3
  exact h3.symm
section
variable {P g N : Nat} (hP : P = N + 1) (h1 : g ^ N % P = 1)
include h1
theorem pow_mul_one (k : Nat) : g ^ (N * k) % P = 1 % P := by
  rw [Nat.pow_mul, Nat.pow_mod, h1, Nat.one_pow]
theorem pow_add_N (i : Nat) : g ^ (N + i) % P = g ^ i % P := by
  rw [Nat.pow_add, Nat.mul_mod, h1, Nat.one_mul, Nat.mod_mod]
include hP
/-- If no power by N over one of N's factors is 1, none below N is. -/
theorem order_full (hN : 0 < N) {l : List Nat} (hl : ∀ q ∈ l, 1 < q ∧ noDiv q = true) (hprod : l.foldr (· * ·) 1 = N) (hq : ∀ q ∈ l, g ^ (N / q) % P ≠ 1) : ∀ d, 0 < d → d < N → g ^ d % P ≠ 1 := by
  obtain ⟨o, ⟨ho0, ho1⟩, hmin⟩ := least (p := fun n => 0 < n ∧ g ^ n % P = 1) N ⟨hN, h1⟩
  have hdvd : N % o = 0 := by
    by_cases e : N % o = 0
    · exact e
    · exact absurd ⟨Nat.pos_of_ne_zero e, pow_rest ho1 h1⟩ (hmin _ (Nat.mod_lt _ ho0))
  have hoN : o = N := by
    have hle : o ≤ N := Nat.le_of_dvd hN (Nat.dvd_of_mod_eq_zero hdvd)
    by_cases e : o = N
    · exact e
    · exfalso
      have hm : N = o * (N / o) := by have := Nat.div_add_mod N o; rw [hdvd] at this; omega
      have hgt : 1 < N / o := by
        rcases Nat.lt_or_ge 1 (N / o) with h | h
        · exact h
        · exfalso
          have : N ≤ o * 1 := Nat.le_trans (Nat.le_of_eq hm) (Nat.mul_le_mul_left o h)
          omega
      obtain ⟨q, hqm, hqd⟩ := has_factor l (N / o) hl hgt (by rw [hprod]; exact ⟨o, by rw [Nat.mul_comm]; exact hm⟩)
      obtain ⟨r, hr⟩ := hqd
      have hq1 := (hl q hqm).1
      have hNq : N / q = o * r := by
        rw [hm, hr, show o * (q * r) = q * (o * r) by rw [Nat.mul_left_comm]]
        exact Nat.mul_div_cancel_left _ (by omega)
      refine hq q hqm ?_
      rw [hNq, Nat.pow_mul, Nat.pow_mod, ho1, Nat.one_pow]
      exact Nat.mod_eq_of_lt (by omega)
  intro d hd0 hd1 hd
  exact hmin d (by omega) ⟨hd0, hd⟩
/-- Each number but 0, to the power N, is 1 modulo P. -/
theorem fermat_of (hN : 0 < N) (hfull : ∀ d, 0 < d → d < N → g ^ d % P ≠ 1) (x : Nat) (hx : x % P ≠ 0) : x ^ N % P = 1 := by
  have hP1 : 1 % P = 1 := Nat.mod_eq_of_lt (by omega)
  have hne : ∀ i, i < N → g ^ i % P ≠ 0 := fun i hi e => by
    have h2 : g ^ N % P = (g ^ i % P) * (g ^ (N - i) % P) % P := by
      rw [← Nat.mul_mod, ← Nat.pow_add, show i + (N - i) = N by omega]
    rw [e, Nat.zero_mul, Nat.zero_mod] at h2
    omega
  have hlt : ∀ i, g ^ i % P < P := fun i => Nat.mod_lt _ (by omega)
  have hinj : ∀ i j, i < j → j < N → g ^ i % P ≠ g ^ j % P := fun i j hij hj e => by
    have h2 : g ^ (N + (j - i)) % P = g ^ N % P := by
      have e1 : N + (j - i) = (N - i) + j := by omega
      have e2 : N = (N - i) + i := by omega
      rw [e1, Nat.pow_add, Nat.mul_mod, ← e, ← Nat.mul_mod, ← Nat.pow_add, ← e2]
    rw [pow_add_N h1, h1] at h2
    exact hfull (j - i) (by omega) (by omega) h2
  have hr := hlt 0
  obtain ⟨i, hi, he⟩ := onto_of_inj N (fun i => g ^ i % P - 1) (fun i hi => by have := hne i hi; have := hlt i; show g ^ i % P - 1 < N; omega)
    (fun i j hi hj e => by
      change g ^ i % P - 1 = g ^ j % P - 1 at e
      have := hne i hi
      have := hne j hj
      have e' : g ^ i % P = g ^ j % P := by omega
      rcases Nat.lt_trichotomy i j with h | h | h
      · exact absurd e' (hinj i j h hj)
      · exact h
      · exact absurd e'.symm (hinj j i h hi)) (x % P - 1) (by have := Nat.mod_lt x (show 0 < P by omega); omega)
  change g ^ i % P - 1 = x % P - 1 at he
  have := hne i hi
  have hxi : x % P = g ^ i % P := by omega
  rw [Nat.pow_mod, hxi, ← Nat.pow_mod, ← Nat.pow_mul, Nat.mul_comm, pow_mul_one h1, hP1]
end

/-! ### The prime -/
def prime61 : Nat := 2305843009213693951
def order61 : Nat := 2305843009213693950
def factors61 : List Nat := [2, 3, 3, 5, 5, 7, 11, 13, 31, 41, 61, 151, 331, 1321]
/-- x to the n, modulo m (by a name, so that no great power is ever written out). -/
@[irreducible] def powm (m x n : Nat) : Nat := x ^ n % m
theorem powm_is (m x n : Nat) : powm m x n = x ^ n % m := by unfold powm; rfl
theorem fermat_cert {P N f g : Nat} {l : List Nat} (hP : P = N + 1) (hN : 0 < N) (hf : N < 2 ^ f) (hl : ∀ q ∈ l, 1 < q ∧ noDiv q = true) (hprod : l.foldr (· * ·) 1 = N) (h1 : powSq P f g N 1 % P = 1) (hq : ∀ q ∈ l, powSq P f g (N / q) 1 % P ≠ 1) (x : Nat) (hx : x % P ≠ 0) : powm P x N = 1 := by
  rw [powm_is]
  have h2 : g ^ N % P = 1 := by rw [powSq_is P f g N 1 hf, Nat.one_mul] at h1; exact h1
  refine fermat_of hP h2 hN (order_full hP h2 hN hl hprod fun q hqm e => hq q hqm ?_) x hx
  rw [powSq_is P f g (N / q) 1 (Nat.lt_of_le_of_lt (Nat.div_le_self _ _) hf), Nat.one_mul]
  exact e
theorem fermat61 (x : Nat) (hx : x % prime61 ≠ 0) : powm prime61 x order61 = 1 :=
  fermat_cert (f := 61) (g := 37) (l := factors61) rfl (by decide) (by decide) (by decide +kernel) (by decide +kernel) (by decide +kernel) (by decide +kernel) x hx

/-! ### Steps of doubling and adding, of squaring and multiplying -/
theorem mul_odd (m out a b : Nat) (h : b % 2 = 1) : ((out + a) % m + (a + a) % m * (b / 2)) % m = (out + a * b) % m := by
  have hb : b = 2 * (b / 2) + 1 := by omega
  rw [Nat.add_mod, Nat.mod_mod, Nat.mul_mod, Nat.mod_mod, ← Nat.mul_mod, ← Nat.add_mod]
  congr 1
  conv => rhs; rw [hb]
  rw [Nat.mul_add, Nat.mul_one, ← Nat.mul_assoc, show a * 2 = a + a by omega]
  omega
theorem mul_even (m out a b : Nat) (h : b % 2 = 0) : (out + (a + a) % m * (b / 2)) % m = (out + a * b) % m := by
  have hb : b = 2 * (b / 2) := by omega
  rw [Nat.add_mod, Nat.mul_mod, Nat.mod_mod, ← Nat.mul_mod, ← Nat.add_mod]
  congr 1
  conv => rhs; rw [hb]
  rw [← Nat.mul_assoc, show a * 2 = a + a by omega]
theorem pow_odd (m out a n : Nat) (h : n % 2 = 1) : (out * a % m) * powm m (a * a % m) (n / 2) % m = out * powm m a n % m := by
  have hn : n = 2 * (n / 2) + 1 := by omega
  rw [powm_is, powm_is]
  have h2 : a ^ n = (a * a) ^ (n / 2) * a := by
    conv => lhs; rw [hn, Nat.pow_succ, Nat.pow_mul, Nat.pow_two]
  have h3 : out * a % m * ((a * a % m) ^ (n / 2) % m) % m = out * a % m * ((a * a) ^ (n / 2) % m) % m := by rw [← Nat.pow_mod]
  rw [h2, h3, ← Nat.mul_mod, Nat.mul_mod_mod, Nat.mul_assoc, Nat.mul_comm a]
theorem pow_even (m out a n : Nat) (h : n % 2 = 0) : out * powm m (a * a % m) (n / 2) % m = out * powm m a n % m := by
  have hn : n = 2 * (n / 2) := by omega
  rw [powm_is, powm_is]
  have h2 : a ^ n = (a * a) ^ (n / 2) := by
    conv => lhs; rw [hn, Nat.pow_mul, Nat.pow_two]
  rw [h2, ← Nat.pow_mod]
theorem powm_zero (m a : Nat) : powm m a 0 = 1 % m := by rw [powm_is, Nat.pow_zero]
theorem powm_one (m a : Nat) : powm m a 1 = a % m := by rw [powm_is, Nat.pow_one]
theorem powm_lt (m a n : Nat) (h : 0 < m) : powm m a n < m := by rw [powm_is]; exact Nat.mod_lt _ h
theorem powm_mod (m a n : Nat) : powm m (a % m) n = powm m a n := by rw [powm_is, powm_is, ← Nat.pow_mod]
theorem powm_add (m a i j : Nat) : powm m a (i + j) = powm m a i * powm m a j % m := by rw [powm_is, powm_is, powm_is, Nat.pow_add, Nat.mul_mod]
theorem powm_succ (m a i : Nat) : powm m a (i + 1) = powm m a i * a % m := by rw [powm_is, powm_is, Nat.pow_succ, Nat.mod_mul_mod]
theorem powm_pow (m a i j : Nat) : powm m (powm m a i) j = powm m a (i * j) := by rw [powm_is, powm_is, powm_is, ← Nat.pow_mod, Nat.pow_mul]
theorem powm_mul (m a b n : Nat) : powm m (a * b % m) n = powm m a n * powm m b n % m := by rw [powm_mod, powm_is, powm_is, powm_is, Nat.mul_pow, Nat.mul_mod]
theorem powm_one' (m n : Nat) : powm m 1 n = 1 % m := by rw [powm_is, Nat.one_pow]

/-! ### The laws -/
theorem mulm_assoc (m a b c : Nat) : a * (b * c % m) % m = (a * b % m) * c % m := by rw [Nat.mul_mod_mod, Nat.mod_mul_mod, Nat.mul_assoc]
theorem mulm_dist (m a b c : Nat) : a * ((b + c) % m) % m = (a * b % m + a * c % m) % m := by rw [Nat.mul_mod_mod, Nat.mul_add, ← Nat.add_mod]

/-! ### What is undone -/
def invm (a : Nat) : Nat := powm prime61 a 2305843009213693949
theorem invm_mul (a : Nat) (h : a % prime61 ≠ 0) : a * invm a % prime61 = 1 := by
  have h1 := fermat61 a h
  rw [show order61 = 2305843009213693949 + 1 from rfl, powm_succ, Nat.mul_comm] at h1
  exact h1
theorem invm_zero (a : Nat) (h : a % prime61 = 0) : invm a = 0 := by
  unfold invm
  rw [← powm_mod, h, show (2305843009213693949 : Nat) = 2305843009213693948 + 1 from rfl, powm_succ, Nat.mul_zero, Nat.zero_mod]
theorem invm_lt (a : Nat) : invm a < prime61 := powm_lt _ _ _ (by decide)
theorem invm_mod (a : Nat) : invm (a % prime61) = invm a := powm_mod _ _ _
/-- There is one such number only. -/
theorem invm_only (a b : Nat) (h : a * b % prime61 = 1) (hb : b < prime61) : b = invm a := by
  have ha : a % prime61 ≠ 0 := fun e => by
    rw [Nat.mul_mod, e, Nat.zero_mul, Nat.zero_mod] at h
    cases h
  have h1 := invm_mul a ha
  have h2 : b * (a * invm a % prime61) % prime61 = (b * a % prime61) * invm a % prime61 := mulm_assoc _ _ _ _
  rw [h1, Nat.mul_comm b a, h, Nat.mul_one, Nat.one_mul, Nat.mod_eq_of_lt hb, Nat.mod_eq_of_lt (invm_lt a)] at h2
  exact h2
theorem invm_ne (a : Nat) (h : a % prime61 ≠ 0) : invm a % prime61 ≠ 0 := fun e => by
  have := invm_mul a h
  rw [Nat.mul_mod, e, Nat.mul_zero, Nat.zero_mod] at this
  cases this
theorem invm_twice (a : Nat) : invm (invm a) = a % prime61 := by
  by_cases h : a % prime61 = 0
  · rw [invm_zero a h, h]; exact invm_zero 0 rfl
  · refine (invm_only (invm a) (a % prime61) ?_ (Nat.mod_lt _ (by decide))).symm
    rw [Nat.mul_mod_mod, Nat.mul_comm]
    exact invm_mul a h
theorem invm_prod (a b : Nat) : invm (a * b % prime61) = invm a * invm b % prime61 := powm_mul _ _ _ _
theorem invm_pow (a n : Nat) : powm prime61 (invm a) n = invm (powm prime61 a n) := by
  unfold invm
  rw [powm_pow, powm_pow, Nat.mul_comm]
theorem one_iff (a : Nat) : powm prime61 a order61 = 1 ↔ a % prime61 ≠ 0 := by
  refine ⟨fun h e => ?_, fermat61 a⟩
  rw [← powm_mod, e, show order61 = 2305843009213693949 + 1 from rfl, powm_succ, Nat.mul_zero, Nat.zero_mod] at h
  cases h
theorem invm_iff (a : Nat) : a * invm a % prime61 = 1 ↔ a % prime61 ≠ 0 := by
  refine ⟨fun h e => ?_, invm_mul a⟩
  rw [invm_zero a e, Nat.mul_zero, Nat.zero_mod] at h
  cases h
end Go.Pm
