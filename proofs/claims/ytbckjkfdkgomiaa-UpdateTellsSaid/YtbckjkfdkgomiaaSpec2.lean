/- The document's permutation and sums (chapter 2) as plain functions: program-independent. The permutation is one to one. -/
import Derived.Test.YtbckjkfdkgomiaaSpec1
import Derived.Laws.CopyOwn
namespace Go.Pm
open Go Go.RowKit

abbrev U64 := BitVec 64
/-- Turned to the right by n. -/
def rot (x : U64) (n : Nat) : U64 := (x >>> n) ||| (x <<< (64 - n))
/-- A word, itself xor itself turned by two numbers. -/
def lin (x : U64) (a b : Nat) : U64 := (x ^^^ rot x a) ^^^ rot x b
/-- A state. -/
structure S5 where
  a : U64
  b : U64
  c : U64
  d : U64
  e : U64
deriving DecidableEq
/-- A round's first part: the number, and three words. -/
def S5.add (s : S5) (k : U64) : S5 := ⟨s.a ^^^ s.e, s.b, (s.c ^^^ k) ^^^ s.b, s.d, s.e ^^^ s.d⟩
/-- Its second part: t0 to t4, and what they are then. -/
def S5.chi (s : S5) : S5 := ⟨s.a ^^^ (~~~s.b &&& s.c), s.b ^^^ (~~~s.c &&& s.d), s.c ^^^ (~~~s.d &&& s.e), s.d ^^^ (~~~s.e &&& s.a), s.e ^^^ (~~~s.a &&& s.b)⟩
def S5.mix (t : S5) : S5 := ⟨t.a ^^^ t.e, t.b ^^^ t.a, ~~~t.c, t.d ^^^ t.c, t.e⟩
/-- Its third part. -/
def S5.spread (t : S5) : S5 := ⟨lin t.a 19 28, lin t.b 61 39, lin t.c 1 6, lin t.d 10 17, lin t.e 7 41⟩
def S5.round (s : S5) (k : U64) : S5 := (((s.add k).chi).mix).spread
/-- The numbers of the rounds. -/
def consts : List U64 := [0xf0, 0xe1, 0xd2, 0xc3, 0xb4, 0xa5, 0x96, 0x87, 0x78, 0x69, 0x5a, 0x4b]
def S5.perm (s : S5) : S5 := consts.foldl S5.round s

/-! ### One to one -/
theorem xor_can {x y k : U64} (h : x ^^^ k = y ^^^ k) : x = y := by
  have := congrArg (· ^^^ k) h
  simpa [BitVec.xor_assoc] using this
theorem add_inj {s t : S5} {k : U64} (h : s.add k = t.add k) : s = t := by
  obtain ⟨a, b, c, d, e⟩ := s
  obtain ⟨a', b', c', d', e'⟩ := t
  simp only [S5.add, S5.mk.injEq] at h
  obtain ⟨h1, rfl, h3, rfl, h5⟩ := h
  obtain rfl := xor_can h5
  obtain rfl := xor_can h1
  obtain rfl := xor_can (xor_can h3)
  rfl
theorem mix_inj {s t : S5} (h : s.mix = t.mix) : s = t := by
  obtain ⟨a, b, c, d, e⟩ := s
  obtain ⟨a', b', c', d', e'⟩ := t
  simp only [S5.mix, S5.mk.injEq] at h
  obtain ⟨h1, h2, h3, h4, rfl⟩ := h
  obtain rfl := xor_can h1
  obtain rfl := xor_can h2
  have h3' := congrArg (~~~ ·) h3
  simp only [BitVec.not_not] at h3'
  subst h3'
  obtain rfl := xor_can h4
  rfl
theorem chi_bits : ∀ a b c d e a' b' c' d' e' : Bool, (a ^^ (!b && c)) = (a' ^^ (!b' && c')) → (b ^^ (!c && d)) = (b' ^^ (!c' && d')) → (c ^^ (!d && e)) = (c' ^^ (!d' && e')) → (d ^^ (!e && a)) = (d' ^^ (!e' && a')) → (e ^^ (!a && b)) = (e' ^^ (!a' && b')) →
    a = a' ∧ b = b' ∧ c = c' ∧ d = d' ∧ e = e' := by decide +kernel
theorem chi_inj {s t : S5} (h : s.chi = t.chi) : s = t := by
  obtain ⟨a, b, c, d, e⟩ := s
  obtain ⟨a', b', c', d', e'⟩ := t
  simp only [S5.chi, S5.mk.injEq] at h
  obtain ⟨h1, h2, h3, h4, h5⟩ := h
  have key : ∀ i, i < 64 → a.getLsbD i = a'.getLsbD i ∧ b.getLsbD i = b'.getLsbD i ∧ c.getLsbD i = c'.getLsbD i ∧ d.getLsbD i = d'.getLsbD i ∧ e.getLsbD i = e'.getLsbD i := fun i hi => by
    have g1 := congrArg (fun x : U64 => x.getLsbD i) h1
    have g2 := congrArg (fun x : U64 => x.getLsbD i) h2
    have g3 := congrArg (fun x : U64 => x.getLsbD i) h3
    have g4 := congrArg (fun x : U64 => x.getLsbD i) h4
    have g5 := congrArg (fun x : U64 => x.getLsbD i) h5
    simp only [BitVec.getLsbD_xor, BitVec.getLsbD_and, BitVec.getLsbD_not, hi, decide_true, Bool.true_and] at g1 g2 g3 g4 g5
    exact chi_bits _ _ _ _ _ _ _ _ _ _ g1 g2 g3 g4 g5
  simp only [S5.mk.injEq]
  exact ⟨BitVec.eq_of_getLsbD_eq fun i hi => (key i hi).1, BitVec.eq_of_getLsbD_eq fun i hi => (key i hi).2.1, BitVec.eq_of_getLsbD_eq fun i hi => (key i hi).2.2.1, BitVec.eq_of_getLsbD_eq fun i hi => (key i hi).2.2.2.1,
    BitVec.eq_of_getLsbD_eq fun i hi => (key i hi).2.2.2.2⟩

/-- A word's bits, going round. -/
def wheel (x : U64) : Nat → Bool := fun i => x.getLsbD (i % 64)
def linF (a b : Nat) (f : Nat → Bool) : Nat → Bool := fun i => (f i ^^ f (i + a)) ^^ f (i + b)
theorem linF_twice (a b : Nat) (f : Nat → Bool) : linF a b (linF a b f) = linF (2 * a) (2 * b) f := by
  funext i
  unfold linF
  rw [show i + a + a = i + 2 * a by omega, show i + b + b = i + 2 * b by omega, show i + b + a = i + a + b by omega]
  generalize f i = p, f (i + a) = q, f (i + b) = r, f (i + 2 * a) = s, f (i + a + b) = t, f (i + 2 * b) = u
  revert p q r s t u
  decide
theorem linF_double {a b : Nat} {f g : Nat → Bool} (h : linF a b f = linF a b g) : linF (2 * a) (2 * b) f = linF (2 * a) (2 * b) g := by
  rw [← linF_twice, ← linF_twice, h]
theorem linF_round (a b : Nat) (f : Nat → Bool) (hf : ∀ i, f (i + 64) = f i) : linF (64 * a) (64 * b) f = f := by
  have key : ∀ k i, f (i + 64 * k) = f i := fun k => by
    induction k with
    | zero => intro i; rfl
    | succ k ih => intro i; rw [show i + 64 * (k + 1) = (i + 64 * k) + 64 by omega, hf, ih]
  funext i
  unfold linF
  rw [key, key]
  simp
theorem linF_inj {a b : Nat} {f g : Nat → Bool} (hf : ∀ i, f (i + 64) = f i) (hg : ∀ i, g (i + 64) = g i) (h : linF a b f = linF a b g) : f = g := by
  have h6 := linF_double (linF_double (linF_double (linF_double (linF_double (linF_double h)))))
  rw [show 2 * (2 * (2 * (2 * (2 * (2 * a))))) = 64 * a by omega, show 2 * (2 * (2 * (2 * (2 * (2 * b))))) = 64 * b by omega, linF_round a b f hf, linF_round a b g hg] at h6
  exact h6
theorem wheel_round (x : U64) (i : Nat) : wheel x (i + 64) = wheel x i := by unfold wheel; rw [Nat.add_mod_right]
theorem rot_bit (x : U64) (n : Nat) (h0 : 0 < n) (h1 : n < 64) (i : Nat) (hi : i < 64) : (rot x n).getLsbD i = wheel x (i + n) := by
  unfold rot wheel
  simp only [BitVec.getLsbD_or, BitVec.getLsbD_ushiftRight, BitVec.getLsbD_shiftLeft]
  by_cases h : i + n < 64
  · rw [Nat.mod_eq_of_lt h, show decide (i < 64 - n) = true by simp; omega]
    simp [Nat.add_comm]
  · rw [show (i + n) % 64 = i + n - 64 by omega, BitVec.getLsbD_of_ge x (n + i) (by omega), show decide (i < 64 - n) = false by simp; omega, show decide (i < 64) = true by simp; omega, show i - (64 - n) = i + n - 64 by omega]
    simp
theorem lin_wheel (x : U64) (a b : Nat) (a0 : 0 < a) (a1 : a < 64) (b0 : 0 < b) (b1 : b < 64) : wheel (lin x a b) = linF a b (wheel x) := by
  funext i
  unfold linF
  have hm : i % 64 < 64 := Nat.mod_lt _ (by decide)
  have e : ∀ n, wheel x (i % 64 + n) = wheel x (i + n) := fun n => by unfold wheel; rw [Nat.mod_add_mod]
  rw [← e a, ← e b, ← rot_bit x a a0 a1 _ hm, ← rot_bit x b b0 b1 _ hm]
  unfold wheel lin
  simp only [BitVec.getLsbD_xor]
theorem lin_inj {x y : U64} (a b : Nat) (a0 : 0 < a) (a1 : a < 64) (b0 : 0 < b) (b1 : b < 64) (h : lin x a b = lin y a b) : x = y := by
  have h1 : wheel x = wheel y := linF_inj (wheel_round x) (wheel_round y) (by rw [← lin_wheel x a b a0 a1 b0 b1, ← lin_wheel y a b a0 a1 b0 b1, h])
  refine BitVec.eq_of_getLsbD_eq fun i hi => ?_
  have := congrFun h1 i
  unfold wheel at this
  rwa [Nat.mod_eq_of_lt hi] at this
theorem spread_inj {s t : S5} (h : s.spread = t.spread) : s = t := by
  obtain ⟨a, b, c, d, e⟩ := s
  obtain ⟨a', b', c', d', e'⟩ := t
  simp only [S5.spread, S5.mk.injEq] at h
  obtain ⟨h1, h2, h3, h4, h5⟩ := h
  simp only [S5.mk.injEq]
  exact ⟨lin_inj 19 28 (by decide) (by decide) (by decide) (by decide) h1, lin_inj 61 39 (by decide) (by decide) (by decide) (by decide) h2, lin_inj 1 6 (by decide) (by decide) (by decide) (by decide) h3,
    lin_inj 10 17 (by decide) (by decide) (by decide) (by decide) h4, lin_inj 7 41 (by decide) (by decide) (by decide) (by decide) h5⟩
theorem round_inj {s t : S5} {k : U64} (h : s.round k = t.round k) : s = t := add_inj (chi_inj (mix_inj (spread_inj h)))
theorem foldl_round_inj : ∀ (l : List U64) {s t : S5}, l.foldl S5.round s = l.foldl S5.round t → s = t
  | [], _, _, h => h
  | _ :: l, _, _, h => round_inj (foldl_round_inj l h)
theorem perm_inj {s t : S5} (h : s.perm = t.perm) : s = t := foldl_round_inj consts h
theorem perm_eq (s t : S5) : s.perm = t.perm ↔ s = t := ⟨perm_inj, fun h => by rw [h]⟩

/-! ### Words as the program's numbers -/
def U (x : U64) : Int := (x.toNat : Int)
theorem U_ge (x : U64) : 0 ≤ U x := by unfold U; omega
theorem U_lt (x : U64) : U x < 18446744073709551616 := by unfold U; have := x.isLt; omega
theorem U_inj {x y : U64} (h : U x = U y) : x = y := by
  unfold U at h
  exact BitVec.eq_of_toNat_eq (by omega)
theorem U_eq (x y : U64) : U x = U y ↔ x = y := ⟨U_inj, fun h => by rw [h]⟩
theorem ofInt_U (x : U64) : BitVec.ofInt 64 (U x) = x := by
  unfold U
  rw [BitVec.ofInt_natCast]
  exact BitVec.eq_of_toNat_eq (by rw [BitVec.toNat_ofNat]; exact Nat.mod_eq_of_lt x.isLt)
theorem wrap_U (x : U64) : IntKind.u64.wrap (x.toNat : Int) = U x := by
  have := U_lt x
  have := U_ge x
  rw [IntKind.wrap_u64]
  exact Int.emod_eq_of_lt (U_ge x) (U_lt x)
theorem U_xor (x y : U64) : bits .xor .u64 (U x) (U y) = U (x ^^^ y) := by
  show IntKind.u64.wrap ((BitVec.ofInt 64 (U x) ^^^ BitVec.ofInt 64 (U y)).toNat : Int) = _
  rw [ofInt_U, ofInt_U, wrap_U]
theorem U_and (x y : U64) : bits .and .u64 (U x) (U y) = U (x &&& y) := by
  show IntKind.u64.wrap ((BitVec.ofInt 64 (U x) &&& BitVec.ofInt 64 (U y)).toNat : Int) = _
  rw [ofInt_U, ofInt_U, wrap_U]
theorem U_or (x y : U64) : bits .or .u64 (U x) (U y) = U (x ||| y) := by
  show IntKind.u64.wrap ((BitVec.ofInt 64 (U x) ||| BitVec.ofInt 64 (U y)).toNat : Int) = _
  rw [ofInt_U, ofInt_U, wrap_U]
theorem U_not (x : U64) : bits .xor .u64 18446744073709551615 (U x) = U (~~~x) := by
  show IntKind.u64.wrap ((BitVec.ofInt 64 18446744073709551615 ^^^ BitVec.ofInt 64 (U x)).toNat : Int) = _
  rw [ofInt_U, wrap_U, show BitVec.ofInt 64 18446744073709551615 = BitVec.allOnes 64 by decide, BitVec.allOnes_xor]
theorem U_not' (x : U64) : bits .xor .u64 IntKind.u64.max (U x) = U (~~~x) := U_not x
theorem U_shr (x : U64) (n : Nat) : U x / (2 ^ n : Nat) = U (x >>> n) := by
  unfold U
  rw [BitVec.toNat_ushiftRight, Nat.shiftRight_eq_div_pow]
  norm_cast
theorem U_shl (x : U64) (n : Nat) : IntKind.u64.wrap (U x * (2 ^ n : Nat)) = U (x <<< n) := by
  unfold U
  rw [IntKind.wrap_u64, BitVec.toNat_shiftLeft, Nat.shiftLeft_eq, ← Int.natCast_mul, show (2 : Nat) ^ 64 = 18446744073709551616 from rfl]
  generalize x.toNat * 2 ^ n = z
  omega
/-- A number of the program's as a word. -/
def W (n : Int) : U64 := BitVec.ofNat 64 n.toNat
theorem U_W (n : Int) (h0 : 0 ≤ n) (h1 : n < 18446744073709551616) : U (W n) = n := by
  unfold U W
  rw [BitVec.toNat_ofNat, Nat.mod_eq_of_lt (by omega)]
  omega
theorem W_U (x : U64) : W (U x) = x := U_inj (U_W _ (U_ge x) (U_lt x))

theorem consts_at : ∀ k : Fin 12, consts[k.1]? = some (W (240 - 15 * k.1)) := by decide +kernel
/-- One round more. -/
theorem consts_step (k : Nat) (hk : k < 12) (n : U64) (hn : U n = 240 - 15 * k) (s : S5) : (consts.take (k + 1)).foldl S5.round s = ((consts.take k).foldl S5.round s).round n := by
  have hc := consts_at ⟨k, hk⟩
  simp only at hc
  rw [← hn, W_U] at hc
  rw [List.take_add_one, hc, List.foldl_append]
  rfl
/-- The number of the next round. -/
theorem U_next (n : U64) (h : 75 ≤ U n) : ∃ m : U64, U m = U n - 15 := ⟨W (U n - 15), U_W _ (by omega) (by have := U_lt n; omega)⟩

theorem wrap_next (n : U64) (h : 75 ≤ U n) : IntKind.u64.wrap (U n - 15) = U n - 15 := by
  have := U_lt n
  rw [IntKind.wrap_u64]
  exact Int.emod_eq_of_lt (by omega) (by omega)

/-! ### The sum -/
/-- Eight bytes as a word, the lowest first. -/
def wordOf (l : List UInt8) : U64 := W (leV l)
theorem U_wordOf (l : List UInt8) : U (wordOf l) = leV l := U_W _ (leV_ge l) (leV_lt l)
theorem bAt_take_if (l : List UInt8) (n i : Nat) : bAt (l.take n) i = if i < n then bAt l i else 0 := by
  by_cases h : i < n
  · rw [if_pos h, bAt_take l n i h]
  · rw [if_neg h]
    unfold bAt
    rw [List.getD_eq_getElem?_getD, List.getElem?_eq_none (by simp; omega)]
    rfl
theorem leV_take_succ (l : List UInt8) (k : Nat) (hk : k < 8) : leV (l.take (k + 1)) = leV (l.take k) + bAt l k * (2 ^ (8 * k) : Nat) := by
  unfold leV
  simp only [bAt_take_if]
  match k, hk with
  | 0, _ => simp
  | 1, _ => simp
  | 2, _ => simp
  | 3, _ => simp
  | 4, _ => simp
  | 5, _ => simp
  | 6, _ => simp
  | 7, _ => simp
theorem leV_zero (l : List UInt8) : leV (l.take 0) = 0 := by unfold leV; simp only [bAt_take_if]; simp
theorem leV_take_lt (l : List UInt8) (k : Nat) (hk : k ≤ 8) : leV (l.take k) < (2 ^ (8 * k) : Nat) := by
  have A := bAt_ge l
  have B := bAt_lt l
  have := A 0; have := A 1; have := A 2; have := A 3; have := A 4; have := A 5; have := A 6; have := A 7
  have := B 0; have := B 1; have := B 2; have := B 3; have := B 4; have := B 5; have := B 6; have := B 7
  unfold leV
  simp only [bAt_take_if]
  match k, hk with
  | 0, _ => simp
  | 1, _ => simp; omega
  | 2, _ => simp; omega
  | 3, _ => simp; omega
  | 4, _ => simp; omega
  | 5, _ => simp; omega
  | 6, _ => simp; omega
  | 7, _ => simp; omega
  | 8, _ => simp; omega
/-- A step of package sponge's word. -/
theorem word_step (l : List UInt8) (k : Nat) (hk : k < 8) : bits .or .u64 (leV (l.take k)) (IntKind.u64.wrap (bAt l k * 2 ^ (8 * k))) = leV (l.take (k + 1)) := by
  rw [show ((2 : Int) ^ (8 * k)) = ((2 ^ (8 * k) : Nat) : Int) by push_cast; rfl]
  rw [leV_take_succ l k hk]
  have h0 := leV_ge (l.take (k + 1))
  have h1 := leV_lt (l.take (k + 1))
  rw [leV_take_succ l k hk] at h0 h1
  have h2 := leV_ge (l.take k)
  have h3 : 0 ≤ bAt l k * (2 ^ (8 * k) : Nat) := Int.mul_nonneg (bAt_ge l k) (Int.natCast_nonneg _)
  rw [IntKind.wrap_u64, Int.emod_eq_of_lt h3 (by omega)]
  refine or_join (2 ^ (8 * k)) (8 * k) rfl ?_ _ _ h2 (leV_take_lt l k (by omega)) (bAt_ge l k) (by omega)
  exact Nat.le_trans (Nat.pow_le_pow_right (by decide) (show 8 * k ≤ 64 by omega)) (by decide)
/-- One more block. -/
def S5.block (s : S5) (l : List UInt8) : S5 := ({ s with a := s.a ^^^ wordOf l } : S5).perm
def absorb (l : List UInt8) (s : S5) : Nat → S5
  | 0 => s
  | k + 1 => (absorb l s k).block (l.drop (8 * k))
def padded (l : List UInt8) : List UInt8 := (l ++ [1]) ++ List.replicate ((8 - (l.length + 1) % 8) % 8) 0
theorem padded_len (l : List UInt8) : (padded l).length = 8 * (l.length / 8 + 1) := by
  unfold padded
  simp only [List.length_append, List.length_cons, List.length_nil, List.length_replicate]
  omega
/-- The state with its first word xored. -/
def S5.mixed (s : S5) (x : U64) : S5 := { s with a := s.a ^^^ x }
theorem mixed_a (s : S5) (x : Int) (h0 : 0 ≤ x) (h1 : x < 18446744073709551616) : bits .xor .u64 (U s.a) x = U (s.mixed (W x)).a := by
  have := U_xor s.a (W x)
  rw [U_W x h0 h1] at this
  exact this
theorem pad_drop (l : List UInt8) (k : Nat) (h : 8 * k + 8 ≤ l.length) : leV ((padded l).drop (8 * k)) = leV ((l.drop (8 * k)).take 8) := by
  rw [← leV_take ((padded l).drop (8 * k))]
  congr 1
  unfold padded
  rw [List.append_assoc, List.drop_append_of_le_length (by omega), List.take_append_of_le_length (by simp; omega)]
theorem absorb_step (l : List UInt8) (s : S5) (k : Nat) (h : 8 * k + 8 ≤ l.length) : absorb (padded l) s (k + 1) = ((absorb (padded l) s k).mixed (W (leV ((l.drop (8 * k)).take 8)))).perm := by
  show (absorb (padded l) s k).block ((padded l).drop (8 * k)) = _
  unfold S5.block wordOf
  rw [pad_drop l k h]
  rfl
theorem bAt_pad (r : List UInt8) (j i : Nat) : bAt ((r ++ [1]) ++ List.replicate j 0) i = if i < r.length then bAt r i else if i = r.length then 1 else 0 := by
  unfold bAt
  simp only [List.getD_eq_getElem?_getD]
  by_cases h : i < r.length
  · rw [if_pos h, List.getElem?_append_left (by simp; omega), List.getElem?_append_left h]
  · rw [if_neg h]
    by_cases h2 : i = r.length
    · rw [if_pos h2, List.getElem?_append_left (by simp; omega), List.getElem?_append_right (by omega), h2]
      simp
    · rw [if_neg h2, List.getElem?_append_right (by simp; omega)]
      rw [List.getElem?_replicate]
      split <;> rfl
theorem bAt_beyond (r : List UInt8) (i : Nat) (h : r.length ≤ i) : bAt r i = 0 := by
  unfold bAt
  rw [List.getD_eq_getElem?_getD, List.getElem?_eq_none h]
  rfl
theorem leV_pad (r : List UInt8) (j : Nat) (h : r.length < 8) : leV ((r ++ [1]) ++ List.replicate j 0) = leV r + (2 ^ (8 * r.length) : Nat) := by
  have B := bAt_beyond r
  unfold leV
  simp only [bAt_pad]
  generalize r.length = n at *
  match n, h with
  | 0, _ => simp [B]
  | 1, _ => simp [B]
  | 2, _ => simp [B]
  | 3, _ => simp [B]
  | 4, _ => simp [B]
  | 5, _ => simp [B]
  | 6, _ => simp [B]
  | 7, _ => simp [B]
theorem leV_short (r : List UInt8) (h : r.length ≤ 8) : leV r < (2 ^ (8 * r.length) : Nat) := by
  have := leV_take_lt r r.length h
  rwa [List.take_of_length_le (Nat.le_refl _)] at this
theorem last_word (l : List UInt8) (k n : Nat) (hn : 8 * k + n = l.length) (h8 : n < 8) : bits .or .u64 (leV (l.drop (8 * k))) (IntKind.u64.wrap (2 ^ (8 * n))) = leV ((padded l).drop (8 * k)) := by
  rw [show ((2 : Int) ^ (8 * n)) = ((2 ^ (8 * n) : Nat) : Int) by push_cast; rfl]
  have hr : (l.drop (8 * k)).length = n := by simp; omega
  unfold padded
  rw [List.append_assoc, List.drop_append_of_le_length (by omega), ← List.append_assoc, leV_pad _ _ (by omega), hr]
  have h2 := leV_short (l.drop (8 * k)) (by omega)
  rw [hr] at h2
  have h3 : (2 ^ (8 * n) : Nat) < 18446744073709551616 := Nat.pow_lt_pow_right (a := 2) (m := 8 * n) (n := 64) (by decide) (by omega)
  have h5 : (0 : Int) ≤ ((2 ^ (8 * n) : Nat) : Int) := Int.natCast_nonneg _
  have h6 : ((2 ^ (8 * n) : Nat) : Int) < 18446744073709551616 := Int.ofNat_lt.2 h3
  rw [IntKind.wrap_u64, Int.emod_eq_of_lt h5 h6]
  have h4 := or_join (2 ^ (8 * n)) (8 * n) rfl (Nat.le_of_lt h3) _ 1 (leV_ge (l.drop (8 * k))) h2 (by decide) (by rw [Int.one_mul]; exact h6)
  rw [Int.one_mul] at h4
  exact h4
def first : S5 := S5.perm ⟨0x0000080100cc0002, 0, 0, 0, 0⟩
def soaked (l : List UInt8) : S5 := absorb (padded l) first (l.length / 8 + 1)
theorem soaked_last (l : List UInt8) (k n : Nat) (hn : 8 * k + n = l.length) (h8 : n < 8) : soaked l = ((absorb (padded l) first k).mixed (W (leV ((padded l).drop (8 * k))))).perm := by
  unfold soaked
  rw [show l.length / 8 = k by omega]
  rfl
/-- The state behind j blocks, under a name. -/
theorem absorb_all (l : List UInt8) : ∃ ab : Nat → S5, ab 0 = first ∧ (∀ j : Nat, ab (j + 1) = ((ab j).mixed (W (leV ((padded l).drop (8 * j))))).perm) ∧ soaked l = ab (l.length / 8 + 1) :=
  ⟨absorb (padded l) first, rfl, fun _ => rfl, rfl⟩
/-- How many noughts. -/
def noughts (l : List UInt8) : Nat := (8 - (l.length + 1) % 8) % 8
theorem padded_is (l : List UInt8) : padded l = (l ++ [1]) ++ List.replicate (noughts l) 0 := rfl
theorem replicate_one (j : Nat) : List.replicate (j + 1) (0 : UInt8) = List.replicate j 0 ++ [0] := by rw [List.replicate_succ']
def squeeze (s : S5) : Nat → S5
  | 0 => s
  | k + 1 => (squeeze s k).perm
/-- The first k eights of bytes. -/
def eights (s : S5) : Nat → List UInt8
  | 0 => []
  | k + 1 => eights s k ++ leB (U (squeeze s k).a)
def sumB (l : List UInt8) : List UInt8 := eights (soaked l) 4
theorem eights_len (s : S5) (k : Nat) : (eights s k).length = 8 * k := by
  induction k with
  | zero => rfl
  | succ k ih => simp only [eights, List.length_append, ih, leB_length]; omega
theorem sumB_len (l : List UInt8) : (sumB l).length = 32 := eights_len _ 4

/-- A list laid over another one, item by item. -/
theorem splice_step {α : Type} (L cs : List α) (off m : Nat) (hm : m < cs.length) (hfit : off + cs.length ≤ L.length) (x : α) (hx : cs[m]? = some x) : (splice L off (cs.take m)).set (off + m) x = splice L off (cs.take (m + 1)) := by
  apply List.ext_getElem?
  intro i
  have hxm : cs[m] = x := (List.getElem?_eq_some_iff.1 hx).2
  unfold splice
  simp only [List.getElem?_set, List.length_append, List.length_take, List.length_drop, List.getElem?_append, List.getElem?_take, List.getElem?_drop]
  by_cases h1 : off + m = i
  · subst h1
    simp [show min off L.length = off by omega, show min m cs.length = m by omega, show min (m + 1) cs.length = m + 1 by omega, show off + m - off = m by omega, hx]
    rw [if_pos (by omega), if_neg (by omega)]
  · rw [if_neg h1]
    by_cases h2 : i < off
    · simp [h2, show min off L.length = off by omega]
    · by_cases h3 : i < off + m
      · simp [show min off L.length = off by omega, show min m cs.length = m by omega, show min (m + 1) cs.length = m + 1 by omega, show ¬ i < off by omega, show i - off < m by omega, show i - off < m + 1 by omega]
      · simp [show min off L.length = off by omega, show min m cs.length = m by omega, show min (m + 1) cs.length = m + 1 by omega, show ¬ i < off by omega, show ¬ i - off < m by omega, show ¬ i - off < m + 1 by omega]
        congr 1
        omega

/-- A state with one word xored. -/
def S5.xoredAt (s : S5) (x : U64) : Nat → S5
  | 0 => { s with a := s.a ^^^ x }
  | 1 => { s with b := s.b ^^^ x }
  | 2 => { s with c := s.c ^^^ x }
  | 3 => { s with d := s.d ^^^ x }
  | _ => { s with e := s.e ^^^ x }
theorem xor_same (a x : U64) : a = a ^^^ x ↔ x = 0 := by
  constructor
  · intro h
    have := congrArg (a ^^^ ·) h
    simpa [← BitVec.xor_assoc] using this.symm
  · rintro rfl; simp
theorem xoredAt_eq (s : S5) (x : U64) (j : Nat) : s = s.xoredAt x j ↔ x = 0 := by
  obtain ⟨a, b, c, d, e⟩ := s
  unfold S5.xoredAt
  split <;> simp [xor_same]
/-! ### Texts -/
def lumpB (l : List UInt8) : List UInt8 := leB l.length ++ l
def textB (tag : Int) (ls : List (List UInt8)) : List UInt8 := byteOf tag :: (ls.map lumpB).flatten
theorem textB_take (tag : Int) (ls : List (List UInt8)) (k : Nat) (h : k < ls.length) : textB tag (ls.take (k + 1)) = textB tag (ls.take k) ++ (leB ls[k].length ++ ls[k]) := by
  unfold textB
  rw [List.take_succ_eq_append_getElem h]
  simp only [List.map_append, List.map_cons, List.map_nil, List.flatten_append, List.flatten_cons, List.flatten_nil, List.append_nil, lumpB, List.cons_append]
/-- What Text lays one behind another. -/
def partsB (tag : Int) (ls : List (List UInt8)) : List (List UInt8) := [byteOf tag] :: ls.map lumpB
theorem partsB_flat (tag : Int) (ls : List (List UInt8)) : (partsB tag ls).flatten = textB tag ls := rfl
theorem partsB_len (tag : Int) (ls : List (List UInt8)) : (partsB tag ls).length = ls.length + 1 := by simp [partsB]
theorem partsB_take (tag : Int) (ls : List (List UInt8)) (k : Nat) (h : k < ls.length) : partsB tag (ls.take (k + 1)) = partsB tag (ls.take k) ++ [leB ls[k].length ++ ls[k]] := by
  unfold partsB
  rw [List.take_succ_eq_append_getElem h]
  simp only [List.map_append, List.map_cons, List.map_nil, lumpB, List.cons_append]
theorem total_lumps (ls : List (List UInt8)) : (ls.map lumpB).flatten.length = 8 * ls.length + total ls := by
  unfold total
  induction ls with
  | nil => rfl
  | cons l ls ih => simp only [List.map_cons, List.flatten_cons, List.length_append, List.length_cons, ih, lumpB, leB_length]; omega
theorem textB_length (tag : Int) (ls : List (List UInt8)) : (textB tag ls).length = 1 + 8 * ls.length + total ls := by
  unfold textB
  simp only [List.length_cons, total_lumps]
  omega
theorem at_total (ls : List (List UInt8)) (k : Nat) (h : k < ls.length) : ls[k].length ≤ total ls := by
  have := total_take ls k h
  have := total_take_le ls (k + 1)
  omega

theorem lumpB_inj {a b : List UInt8} (ha : a.length < 18446744073709551616) (hb : b.length < 18446744073709551616) (h : lumpB a = lumpB b) : a = b := by
  have h1 := St.lump_said a a.length (by omega) ha []
  have h2 := St.lump_said b a.length (by have := congrArg List.length h; simp [lumpB, leB_length] at this; omega) hb []
  have h3 : (leB a.length ++ a) ++ [] = (leB b.length ++ b) ++ [] := by rw [List.append_nil, List.append_nil]; exact h
  rw [← h1.1, ← h2.1, h3]
theorem textB_one (t : Int) {a b : List UInt8} (ha : a.length < 18446744073709551616) (hb : b.length < 18446744073709551616) : textB t [a] = textB t [b] ↔ a = b := by
  refine ⟨fun h => ?_, fun h => by rw [h]⟩
  simp only [textB, List.map_cons, List.map_nil, List.flatten_cons, List.flatten_nil, List.append_nil, List.cons.injEq, true_and] at h
  exact lumpB_inj ha hb h
theorem textB_two (t : Int) (a b : List UInt8) : textB t [a, b] ≠ textB t [a ++ b] := fun h => by
  have := congrArg List.length h
  simp [textB, lumpB, leB_length] at this
theorem textB_tag {t t' : Int} (h0 : 0 ≤ t) (h1 : t < 256) (h0' : 0 ≤ t') (h1' : t' < 256) (ls : List (List UInt8)) : textB t ls = textB t' ls ↔ t = t' := by
  refine ⟨fun h => ?_, fun h => by rw [h]⟩
  simp only [textB, List.cons.injEq, and_true] at h
  have := congrArg (fun b : UInt8 => (b.toNat : Int)) h
  simp only [byteOf_toNat] at this
  omega
/-! ### What is known -/
theorem perm_zero : S5.perm ⟨0, 0, 0, 0, 0⟩ ≠ ⟨0, 0, 0, 0, 0⟩ := by decide +kernel
theorem sum_none : sumB [] ≠ sumB [0] := by decide +kernel
theorem text_known : textB 97 [[98]] = [97, 1, 0, 0, 0, 0, 0, 0, 0, 98] := by decide +kernel
theorem text_alone : textB 97 [] = [97] := by decide +kernel
end Go.Pm
