/- Growth of logs (chapter 9) as plain mathematics: proofs that a log begins with an elder one, and what such a proof comes to. -/
import Derived.Test.YtkogkcaflhjlhaaLog8
namespace Go.Pm
open Go Go.RowKit

/-! ### Proofs -/
def subF : Nat → List (List UInt8) → Nat → Bool → List (List UInt8)
  | 0, _, _, _ => []
  | f + 1, l, m, wh => if m = l.length then (if wh then [] else [rootL l]) else if m ≤ splitN l.length then subF f (l.take (splitN l.length)) m wh ++ [rootL (l.drop (splitN l.length))] else subF f (l.drop (splitN l.length)) (m - splitN l.length) false ++ [rootL (l.take (splitN l.length))]
def subL (l : List (List UInt8)) (m : Nat) (wh : Bool) : List (List UInt8) := subF l.length l m wh
theorem subF_any : ∀ (f g : Nat) (l : List (List UInt8)) (m : Nat) (wh : Bool), l.length ≤ f → l.length ≤ g → 1 ≤ m → m ≤ l.length → subF f l m wh = subF g l m wh
  | 0, _, _, _, _, h, _, h1, h2 => by omega
  | _ + 1, 0, _, _, _, _, h, h1, h2 => by omega
  | f + 1, g + 1, l, m, wh, h1, h2, hm, hml => by
    rw [subF, subF]
    by_cases h0 : m = l.length
    · rw [if_pos h0, if_pos h0]
    · rw [if_neg h0, if_neg h0]
      have hk := splitN_lt (n := l.length) (by omega)
      have hp := splitN_pos (n := l.length) (by omega)
      by_cases hs : m ≤ splitN l.length
      · rw [if_pos hs, if_pos hs, subF_any f g (l.take (splitN l.length)) m wh (by rw [List.length_take]; omega) (by rw [List.length_take]; omega) hm (by rw [List.length_take]; omega)]
      · rw [if_neg hs, if_neg hs, subF_any f g (l.drop (splitN l.length)) (m - splitN l.length) false (by rw [List.length_drop]; omega) (by rw [List.length_drop]; omega) (by omega) (by rw [List.length_drop]; omega)]
theorem subL_all {l : List (List UInt8)} (h : 1 ≤ l.length) (wh : Bool) : subL l l.length wh = if wh then [] else [rootL l] := by
  unfold subL
  obtain ⟨f, hf⟩ : ∃ f, l.length = f + 1 := ⟨l.length - 1, by omega⟩
  conv => lhs; arg 1; rw [hf]
  rw [subF, if_pos rfl]
theorem subL_left {l : List (List UInt8)} {m : Nat} (hm : 1 ≤ m) (hml : m < l.length) (hs : m ≤ splitN l.length) (wh : Bool) : subL l m wh = subL (l.take (splitN l.length)) m wh ++ [rootL (l.drop (splitN l.length))] := by
  have hk := splitN_lt (n := l.length) (by omega)
  unfold subL
  obtain ⟨f, hf⟩ : ∃ f, l.length = f + 1 := ⟨l.length - 1, by omega⟩
  conv => lhs; rw [hf]
  rw [subF, if_neg (by omega), if_pos hs, subF_any f (l.take (splitN l.length)).length (l.take (splitN l.length)) m wh (by rw [List.length_take]; omega) (Nat.le_refl _) hm (by rw [List.length_take]; omega)]
theorem subL_right {l : List (List UInt8)} {m : Nat} (hml : m < l.length) (hs : ¬ m ≤ splitN l.length) (wh : Bool) : subL l m wh = subL (l.drop (splitN l.length)) (m - splitN l.length) false ++ [rootL (l.take (splitN l.length))] := by
  have hp := splitN_pos (n := l.length) (by omega)
  unfold subL
  obtain ⟨f, hf⟩ : ∃ f, l.length = f + 1 := ⟨l.length - 1, by omega⟩
  conv => lhs; rw [hf]
  rw [subF, if_neg (by omega), if_neg hs, subF_any f (l.drop (splitN l.length)).length (l.drop (splitN l.length)) _ false (by rw [List.length_drop]; omega) (Nat.le_refl _) (by omega) (by rw [List.length_drop]; omega)]
theorem subL_h32 : ∀ (f : Nat) {l : List (List UInt8)} (m : Nat) (wh : Bool), l.length ≤ f → 1 ≤ m → m ≤ l.length → H32 l → H32 (subL l m wh)
  | 0, l, m, wh, hf, h1, h2, h => by omega
  | f + 1, l, m, wh, hf, h1, h2, h => by
    by_cases hl : m = l.length
    · rw [hl, subL_all (by omega)]
      cases wh with
      | true => exact H32.nil
      | false => exact H32.one (rootL_len h)
    · have hk := splitN_lt (n := l.length) (by omega)
      have hp := splitN_pos (n := l.length) (by omega)
      by_cases hs : m ≤ splitN l.length
      · rw [subL_left h1 (by omega) hs]
        exact (subL_h32 f m wh (by rw [List.length_take]; omega) h1 (by rw [List.length_take]; omega) (h.take _)).append (H32.one (rootL_len (h.drop _)))
      · rw [subL_right (by omega) hs]
        exact (subL_h32 f _ false (by rw [List.length_drop]; omega) (by omega) (by rw [List.length_drop]; omega) (h.drop _)).append (H32.one (rootL_len (h.take _)))
theorem subL_len : ∀ (f : Nat) {l : List (List UInt8)} (m : Nat) (wh : Bool), l.length ≤ f → 1 ≤ m → m ≤ l.length → (subL l m wh).length ≤ l.length
  | 0, l, m, wh, hf, h1, h2 => by omega
  | f + 1, l, m, wh, hf, h1, h2 => by
    by_cases hl : m = l.length
    · rw [hl, subL_all (by omega)]
      cases wh with
      | true => simp
      | false => simp only [Bool.false_eq_true, if_false, List.length_cons, List.length_nil]; omega
    · have hk := splitN_lt (n := l.length) (by omega)
      have hp := splitN_pos (n := l.length) (by omega)
      by_cases hs : m ≤ splitN l.length
      · rw [subL_left h1 (by omega) hs, List.length_append]
        have := subL_len f (l := l.take (splitN l.length)) m wh (by rw [List.length_take]; omega) h1 (by rw [List.length_take]; omega)
        rw [List.length_take] at this
        simp only [List.length_cons, List.length_nil]
        omega
      · rw [subL_right (by omega) hs, List.length_append]
        have := subL_len f (l := l.drop (splitN l.length)) (m - splitN l.length) false (by rw [List.length_drop]; omega) (by omega) (by rw [List.length_drop]; omega)
        rw [List.length_drop] at this
        simp only [List.length_cons, List.length_nil]
        omega
theorem subL_some {l : List (List UInt8)} {m : Nat} (hm : 1 ≤ m) (hml : m < l.length) (wh : Bool) : subL l m wh ≠ [] := by
  by_cases hs : m ≤ splitN l.length
  · rw [subL_left hm hml hs]; simp
  · rw [subL_right hml hs]; simp

/-! ### What a proof comes to: the document's way (its hashes the last one first) -/
abbrev Trio := List UInt8 × List UInt8 × Bool
def bothEnd (old : List UInt8) (ps : List (List UInt8)) (wh : Bool) : Trio := if wh then (old, old, ps.length == 0) else match ps with
  | [p] => (p, p, true)
  | _ => (zero32, zero32, false)
def bothR (old : List UInt8) : List (List UInt8) → Nat → Nat → Bool → Trio
  | [], m, n, wh => if m = n then bothEnd old [] wh else (zero32, zero32, false)
  | p :: ps, m, n, wh => if m = n then bothEnd old (p :: ps) wh else if m ≤ splitN n then ((bothR old ps m (splitN n) wh).1, nodeL (bothR old ps m (splitN n) wh).2.1 p, (bothR old ps m (splitN n) wh).2.2) else (nodeL p (bothR old ps (m - splitN n) (n - splitN n) false).1, nodeL p (bothR old ps (m - splitN n) (n - splitN n) false).2.1, (bothR old ps (m - splitN n) (n - splitN n) false).2.2)
def bothL (old : List UInt8) (path : List (List UInt8)) (m n : Nat) (wh : Bool) : Trio := bothR old path.reverse m n wh
theorem bothR_same (old : List UInt8) (ps : List (List UInt8)) (n : Nat) (wh : Bool) : bothR old ps n n wh = bothEnd old ps wh := by
  cases ps with
  | nil => rw [bothR, if_pos rfl]
  | cons p ps => rw [bothR, if_pos rfl]
theorem bothR_none (old : List UInt8) {m n : Nat} (h : m ≠ n) (wh : Bool) : bothR old [] m n wh = (zero32, zero32, false) := by rw [bothR, if_neg h]
theorem bothR_left (old p : List UInt8) (ps : List (List UInt8)) {m n : Nat} (h : m ≠ n) (hs : m ≤ splitN n) (wh : Bool) : bothR old (p :: ps) m n wh = ((bothR old ps m (splitN n) wh).1, nodeL (bothR old ps m (splitN n) wh).2.1 p, (bothR old ps m (splitN n) wh).2.2) := by rw [bothR, if_neg h, if_pos hs]
theorem bothR_right (old p : List UInt8) (ps : List (List UInt8)) {m n : Nat} (h : m ≠ n) (hs : ¬ m ≤ splitN n) (wh : Bool) : bothR old (p :: ps) m n wh = (nodeL p (bothR old ps (m - splitN n) (n - splitN n) false).1, nodeL p (bothR old ps (m - splitN n) (n - splitN n) false).2.1, (bothR old ps (m - splitN n) (n - splitN n) false).2.2) := by rw [bothR, if_neg h, if_neg hs]
theorem bothEnd_len {old : List UInt8} (ho : old.length = 32) {ps : List (List UInt8)} (hp : H32 ps) (wh : Bool) : (bothEnd old ps wh).1.length = 32 ∧ (bothEnd old ps wh).2.1.length = 32 := by
  unfold bothEnd
  cases wh with
  | true => exact ⟨ho, ho⟩
  | false =>
    match ps, hp with
    | [], _ => exact ⟨zero32_len, zero32_len⟩
    | [p], hp => exact ⟨hp p (List.mem_cons_self ..), hp p (List.mem_cons_self ..)⟩
    | p :: q :: ps, _ => exact ⟨zero32_len, zero32_len⟩
theorem bothR_len {old : List UInt8} (ho : old.length = 32) : ∀ (ps : List (List UInt8)), H32 ps → ∀ (m n : Nat) (wh : Bool), (bothR old ps m n wh).1.length = 32 ∧ (bothR old ps m n wh).2.1.length = 32
  | [], hp, m, n, wh => by
    by_cases h : m = n
    · rw [h, bothR_same]; exact bothEnd_len ho hp wh
    · rw [bothR_none _ h]; exact ⟨zero32_len, zero32_len⟩
  | p :: ps, hp, m, n, wh => by
    have hps : H32 ps := fun x hx => hp x (List.mem_cons_of_mem _ hx)
    by_cases h : m = n
    · rw [h, bothR_same]; exact bothEnd_len ho hp wh
    · by_cases hs : m ≤ splitN n
      · rw [bothR_left _ _ _ h hs]; exact ⟨(bothR_len ho ps hps _ _ _).1, nodeL_len _ _⟩
      · rw [bothR_right _ _ _ h hs]; exact ⟨nodeL_len _ _, nodeL_len _ _⟩
/-- A log's own proof leads to both roots. -/
theorem both_sub (old : List UInt8) : ∀ (f : Nat) (l : List (List UInt8)) (m : Nat) (wh : Bool), l.length ≤ f → 1 ≤ m → m ≤ l.length → (wh = true → old = rootL (l.take m)) → bothL old (subL l m wh) m l.length wh = (rootL (l.take m), rootL l, true)
  | 0, l, m, wh, hf, h1, h2, _ => by omega
  | f + 1, l, m, wh, hf, h1, h2, ho => by
    unfold bothL
    by_cases hl : m = l.length
    · rw [hl, bothR_same, subL_all (by omega), List.take_length]
      cases wh with
      | true =>
        have h3 := ho rfl
        rw [hl, List.take_length] at h3
        rw [h3]
        rfl
      | false => rfl
    · have h22 : 2 ≤ l.length := by omega
      have hk := splitN_lt h22
      have hp := splitN_pos h22
      have ht := splitN_twice h22
      have lt : (l.take (splitN l.length)).length = splitN l.length := by rw [List.length_take]; omega
      have ld : (l.drop (splitN l.length)).length = l.length - splitN l.length := by rw [List.length_drop]
      by_cases hs : m ≤ splitN l.length
      · rw [subL_left h1 (by omega) hs, List.reverse_append, List.reverse_singleton, List.singleton_append, bothR_left _ _ _ hl hs]
        have h5 : (l.take (splitN l.length)).take m = l.take m := by rw [List.take_take, Nat.min_eq_left hs]
        have ih := both_sub old f (l.take (splitN l.length)) m wh (by omega) h1 (by omega) (fun h => by rw [h5]; exact ho h)
        unfold bothL at ih
        rw [lt, h5] at ih
        rw [ih, rootL_more h22]
      · rw [subL_right (by omega) hs, List.reverse_append, List.reverse_singleton, List.singleton_append, bothR_right _ _ _ hl hs]
        have ih := both_sub old f (l.drop (splitN l.length)) (m - splitN l.length) false (by omega) (by omega) (by omega) (fun h => by cases h)
        unfold bothL at ih
        rw [ld] at ih
        rw [ih]
        have e1 : splitN m = splitN l.length := by
          have h6 := splitN_is h22
          rw [h6] at hs ht ⊢
          exact splitN_only (by omega) (by omega)
        have lm : (l.take m).length = m := by rw [List.length_take]; omega
        have e2 := rootL_more (l := l.take m) (by omega)
        rw [lm, e1, List.take_take, Nat.min_eq_left (by omega), List.drop_take] at e2
        rw [e2, rootL_more h22]

/-! ### Directions: which neighbour is at the left -/
/-- From the places of both logs' last parts up to the top. -/
def dirs (a b : Nat) : List Bool := if h : b = 0 then [] else if a % 2 = 1 then true :: dirs (a / 2) (b / 2) else if a < b then false :: dirs (a / 2) (b / 2) else dirs (a / 2) (b / 2)
termination_by b
decreasing_by all_goals omega
theorem beq_succ (a b : Nat) : (a + 1 == b + 1) = (a == b) := by simp
theorem dirs_zero (a : Nat) : dirs a 0 = [] := by rw [dirs, dif_pos rfl]
theorem dirs_odd {a b : Nat} (hb : b ≠ 0) (ha : a % 2 = 1) : dirs a b = true :: dirs (a / 2) (b / 2) := by rw [dirs, dif_neg hb, if_pos ha]
theorem dirs_less {a b : Nat} (hb : b ≠ 0) (ha : ¬ a % 2 = 1) (h : a < b) : dirs a b = false :: dirs (a / 2) (b / 2) := by rw [dirs, dif_neg hb, if_neg ha, if_pos h]
theorem dirs_skip {a b : Nat} (hb : b ≠ 0) (ha : ¬ a % 2 = 1) (h : ¬ a < b) : dirs a b = dirs (a / 2) (b / 2) := by rw [dirs, dif_neg hb, if_neg ha, if_neg h]
theorem log2_half {c : Nat} (h : 2 ≤ c) : c.log2 = (c / 2).log2 + 1 := by
  conv => lhs; rw [Nat.log2_def, if_pos h]
theorem log2_le {c : Nat} (h : 1 ≤ c) : 2 ^ c.log2 ≤ c := Nat.log2_self_le (by omega)
theorem log2_gt (c : Nat) : c < 2 ^ c.log2 * 2 := by
  have := Nat.lt_log2_self (n := c)
  rwa [Nat.pow_succ] at this
theorem dirs_top : ∀ (f : Nat) (y c : Nat), c ≤ f → 1 ≤ c → y ≤ c → dirs y c = if y < 2 ^ c.log2 then dirs y (2 ^ c.log2 - 1) ++ [false] else dirs (y - 2 ^ c.log2) (c - 2 ^ c.log2) ++ [true]
  | 0, y, c, hf, h1, h2 => by omega
  | f + 1, y, c, hf, h1, h2 => by
    by_cases hc : c = 1
    · subst hc
      have e : Nat.log2 1 = 0 := by decide
      rw [e]
      have hy : y = 0 ∨ y = 1 := by omega
      rcases hy with rfl | rfl
      · rw [if_pos (by decide), dirs_less (by decide) (by decide) (by decide)]
        rw [show 2 ^ 0 - 1 = 0 by decide, dirs_zero]; rfl
      · rw [if_neg (by decide), dirs_odd (by decide) (by decide)]
        rw [show 1 - 2 ^ 0 = 0 by decide, dirs_zero]; rfl
    · have hc2 : 2 ≤ c := by omega
      have e := log2_half hc2
      have g1 := log2_le (c := c / 2) (by omega)
      have g2 := log2_gt (c / 2)
      obtain ⟨q, hq⟩ : ∃ q, q = 2 ^ (c / 2).log2 := ⟨_, rfl⟩
      have hq0 : 1 ≤ q := by rw [hq]; exact Nat.two_pow_pos _
      have e2 : 2 ^ c.log2 = 2 * q := by rw [e, Nat.pow_succ, hq]; omega
      rw [e2]
      rw [← hq] at g1 g2
      have ih := dirs_top f (y / 2) (c / 2) (by omega) (by omega) (by omega)
      rw [← hq] at ih
      by_cases hy : y < 2 * q
      · rw [if_pos hy]
        rw [if_pos (by omega)] at ih
        have h3 : (2 * q - 1) / 2 = q - 1 := by omega
        by_cases ho : y % 2 = 1
        · rw [dirs_odd (by omega) ho, dirs_odd (b := 2 * q - 1) (by omega) ho, h3, ih]; rfl
        · rw [dirs_less (b := 2 * q - 1) (by omega) ho (by omega), h3]
          by_cases hl : y < c
          · rw [dirs_less (by omega) ho hl, ih]; rfl
          · exact absurd hy (by omega)
      · rw [if_neg hy]
        rw [if_neg (by omega)] at ih
        have h3 : (y - 2 * q) / 2 = y / 2 - q := by omega
        have h4 : (c - 2 * q) / 2 = c / 2 - q := by omega
        by_cases ho : y % 2 = 1
        · rw [dirs_odd (by omega) ho, dirs_odd (a := y - 2 * q) (by omega) (by omega), h3, h4, ih]; rfl
        · by_cases hl : y < c
          · rw [dirs_less (by omega) ho hl, dirs_less (a := y - 2 * q) (by omega) (by omega) (by omega), h3, h4, ih]; rfl
          · rw [dirs_skip (by omega) ho hl, ih]
            by_cases hz : c - 2 * q = 0
            · rw [hz, dirs_zero, show c / 2 - q = 0 by omega, dirs_zero]
            · rw [dirs_skip (a := y - 2 * q) hz (by omega) (by omega), h3, h4]
theorem dirs_some : ∀ (f : Nat) (a b : Nat), b ≤ f → b ≠ 0 → a ≤ b → dirs a b ≠ []
  | 0, a, b, hf, hb, h => by omega
  | f + 1, a, b, hf, hb, h => by
    by_cases ho : a % 2 = 1
    · rw [dirs_odd hb ho]; simp
    · by_cases hl : a < b
      · rw [dirs_less hb ho hl]; simp
      · rw [dirs_skip hb ho hl]
        exact dirs_some f _ _ (by omega) (by omega) (by omega)

/-! ### The same directions from the top -/
def wayF : Nat → Nat → Nat → List Bool
  | 0, _, _ => []
  | f + 1, m, n => if m = n then [] else if m ≤ splitN n then wayF f m (splitN n) ++ [false] else wayF f (m - splitN n) (n - splitN n) ++ [true]
def way (m n : Nat) : List Bool := wayF n m n
theorem wayF_any : ∀ (f g m n : Nat), n ≤ f → n ≤ g → 1 ≤ m → m ≤ n → wayF f m n = wayF g m n
  | 0, _, _, _, h, _, h1, h2 => by omega
  | _ + 1, 0, _, _, _, h, h1, h2 => by omega
  | f + 1, g + 1, m, n, h1, h2, hm, hn => by
    rw [wayF, wayF]
    by_cases h : m = n
    · rw [if_pos h, if_pos h]
    · have hk := splitN_lt (n := n) (by omega)
      have hp := splitN_pos (n := n) (by omega)
      rw [if_neg h, if_neg h]
      by_cases hs : m ≤ splitN n
      · rw [if_pos hs, if_pos hs, wayF_any f g m (splitN n) (by omega) (by omega) hm hs]
      · rw [if_neg hs, if_neg hs, wayF_any f g (m - splitN n) (n - splitN n) (by omega) (by omega) (by omega) (by omega)]
theorem way_all (n : Nat) : way n n = [] := by
  unfold way
  cases n with
  | zero => rfl
  | succ n => rw [wayF, if_pos rfl]
theorem way_left {m n : Nat} (hm : 1 ≤ m) (h : m < n) (hs : m ≤ splitN n) : way m n = way m (splitN n) ++ [false] := by
  have hk := splitN_lt (n := n) (by omega)
  unfold way
  obtain ⟨f, hf⟩ : ∃ f, n = f + 1 := ⟨n - 1, by omega⟩
  conv => lhs; arg 1; rw [hf]
  rw [wayF, if_neg (by omega), if_pos hs, wayF_any f (splitN n) m (splitN n) (by omega) (Nat.le_refl _) hm hs]
theorem way_right {m n : Nat} (h : m < n) (hs : ¬ m ≤ splitN n) : way m n = way (m - splitN n) (n - splitN n) ++ [true] := by
  have hp := splitN_pos (n := n) (by omega)
  unfold way
  obtain ⟨f, hf⟩ : ∃ f, n = f + 1 := ⟨n - 1, by omega⟩
  conv => lhs; arg 1; rw [hf]
  rw [wayF, if_neg (by omega), if_neg hs, wayF_any f (n - splitN n) (m - splitN n) (n - splitN n) (by omega) (Nat.le_refl _) (by omega) (by omega)]
/-- The last part of the elder log is a left one: its neighbour is the way's first. -/
theorem way_even : ∀ (f x b : Nat), b ≤ f → 2 * x < b → way (2 * x + 1) (b + 1) = false :: dirs x (b / 2)
  | 0, x, b, hf, h => by omega
  | f + 1, x, b, hf, h => by
    have es := splitN_is (n := b + 1) (by omega)
    rw [Nat.add_sub_cancel] at es
    have g1 := log2_le (c := b) (by omega)
    have g2 := log2_gt b
    by_cases hb : b = 1
    · subst hb
      obtain rfl : x = 0 := by omega
      have e : splitN (1 + 1) = 1 := by decide
      rw [way_left (by omega) (by omega) (by omega), e, way_all, show 1 / 2 = 0 by decide, dirs_zero]; rfl
    · have e := log2_half (c := b) (by omega)
      have d := dirs_top f x (b / 2) (by omega) (by omega) (by omega)
      obtain ⟨q, hq⟩ : ∃ q, q = 2 ^ (b / 2).log2 := ⟨_, rfl⟩
      have hq0 : 1 ≤ q := by rw [hq]; exact Nat.two_pow_pos _
      have e2 : 2 ^ b.log2 = 2 * q := by rw [e, Nat.pow_succ, hq]; omega
      rw [e2] at es g1 g2
      rw [← hq] at d
      by_cases hs : 2 * x + 1 ≤ 2 * q
      · rw [way_left (by omega) (by omega) (by omega), es, show 2 * q = (2 * q - 1) + 1 by omega, way_even f x (2 * q - 1) (by omega) (by omega), d, if_pos (by omega), show (2 * q - 1) / 2 = q - 1 by omega]; rfl
      · rw [way_right (by omega) (by omega), es, show 2 * x + 1 - 2 * q = 2 * (x - q) + 1 by omega, show b + 1 - 2 * q = (b - 2 * q) + 1 by omega, way_even f (x - q) (b - 2 * q) (by omega) (by omega), d, if_neg (by omega), show (b - 2 * q) / 2 = b / 2 - q by omega]; rfl
/-- It is a right one: so one level up. -/
theorem way_odd : ∀ (f x b : Nat), b ≤ f → 2 * x + 1 < b → way (2 * x + 2) (b + 1) = way (x + 1) (b / 2 + 1)
  | 0, x, b, hf, h => by omega
  | f + 1, x, b, hf, h => by
    have es := splitN_is (n := b + 1) (by omega)
    rw [Nat.add_sub_cancel] at es
    have es2 := splitN_is (n := b / 2 + 1) (by omega)
    rw [Nat.add_sub_cancel] at es2
    have g1 := log2_le (c := b) (by omega)
    have g2 := log2_gt b
    have e := log2_half (c := b) (by omega)
    obtain ⟨q, hq⟩ : ∃ q, q = 2 ^ (b / 2).log2 := ⟨_, rfl⟩
    have hq0 : 1 ≤ q := by rw [hq]; exact Nat.two_pow_pos _
    have e2 : 2 ^ b.log2 = 2 * q := by rw [e, Nat.pow_succ, hq]; omega
    rw [e2] at es g1 g2
    rw [← hq] at es2
    by_cases hs : 2 * x + 2 ≤ 2 * q
    · rw [way_left (by omega) (by omega) (by omega), way_left (m := x + 1) (by omega) (by omega) (by omega), es, es2]
      by_cases hx : x + 1 = q
      · rw [show 2 * x + 2 = 2 * q by omega, hx, way_all, way_all]
      · rw [show 2 * q = (2 * q - 1) + 1 by omega, way_odd f x (2 * q - 1) (by omega) (by omega), show (2 * q - 1) / 2 + 1 = q by omega]
    · rw [way_right (by omega) (by omega), way_right (m := x + 1) (by omega) (by omega), es, es2, show 2 * x + 2 - 2 * q = 2 * (x - q) + 2 by omega, show b + 1 - 2 * q = (b - 2 * q) + 1 by omega, way_odd f (x - q) (b - 2 * q) (by omega) (by omega), show (b - 2 * q) / 2 + 1 = b / 2 + 1 - q by omega, show x + 1 - q = x - q + 1 by omega]

/-! ### The program's way: place by place -/
def stripO (a b : Nat) : Nat × Nat := if a % 2 = 1 then stripO (a / 2) (b / 2) else (a, b)
termination_by a
decreasing_by omega
def stripE (a b : Nat) : Nat × Nat := if h : a % 2 = 0 ∧ a ≠ 0 then stripE (a / 2) (b / 2) else (a, b)
termination_by a
decreasing_by omega
theorem stripO_odd {a : Nat} (h : a % 2 = 1) (b : Nat) : stripO a b = stripO (a / 2) (b / 2) := by rw [stripO, if_pos h]
theorem stripO_even {a : Nat} (h : ¬ a % 2 = 1) (b : Nat) : stripO a b = (a, b) := by rw [stripO, if_neg h]
theorem stripE_even {a : Nat} (h : a % 2 = 0 ∧ a ≠ 0) (b : Nat) : stripE a b = stripE (a / 2) (b / 2) := by rw [stripE, dif_pos h]
theorem stripE_odd {a : Nat} (h : ¬ (a % 2 = 0 ∧ a ≠ 0)) (b : Nat) : stripE a b = (a, b) := by rw [stripE, dif_neg h]
def climbP : List (List UInt8) → Nat → Nat → List UInt8 → List UInt8 → Trio
  | [], _, b, el, nw => (el, nw, b == 0)
  | h :: hs, a, b, el, nw => if b = 0 then (zero32, zero32, false) else if a % 2 = 1 ∨ a = b then climbP hs ((stripE a b).1 / 2) ((stripE a b).2 / 2) (nodeL h el) (nodeL h nw) else climbP hs (a / 2) (b / 2) el (nodeL nw h)
def foldG : List Bool → List (List UInt8) → List UInt8 × List UInt8 → List UInt8 × List UInt8
  | true :: ds, h :: hs, p => foldG ds hs (nodeL h p.1, nodeL h p.2)
  | false :: ds, h :: hs, p => foldG ds hs (p.1, nodeL p.2 h)
  | _, _, p => p
theorem dirs_strip : ∀ (f c : Nat), c ≤ f → c ≠ 0 → dirs c c = true :: dirs ((stripE c c).1 / 2) ((stripE c c).2 / 2) ∧ (stripE c c).1 = (stripE c c).2
  | 0, c, hf, h => by omega
  | f + 1, c, hf, h => by
    by_cases ho : c % 2 = 1
    · rw [dirs_odd h ho, stripE_odd (by omega)]
      exact ⟨rfl, rfl⟩
    · rw [dirs_skip h ho (by omega), stripE_even (by omega)]
      exact dirs_strip f (c / 2) (by omega) (by omega)
/-- Just as many hashes as there are directions, and then these directions' roots. -/
theorem climbP_dirs : ∀ (hs : List (List UInt8)) (a b : Nat) (el nw : List UInt8), a ≤ b → (climbP hs a b el nw).2.2 = (hs.length == (dirs a b).length) ∧ (hs.length = (dirs a b).length → ((climbP hs a b el nw).1, (climbP hs a b el nw).2.1) = foldG (dirs a b) hs (el, nw))
  | [], a, b, el, nw, h => by
    by_cases hb : b = 0
    · subst hb
      rw [dirs_zero]
      exact ⟨rfl, fun _ => rfl⟩
    · have h1 := dirs_some b a b (Nat.le_refl _) hb h
      have h2 : (dirs a b).length ≠ 0 := fun e => h1 (List.length_eq_zero_iff.1 e)
      refine ⟨?_, fun e => absurd e.symm h2⟩
      show (b == 0) = (0 == (dirs a b).length)
      rw [beq_eq_false_iff_ne.2 hb, beq_eq_false_iff_ne.2 (Ne.symm h2)]
  | x :: hs, a, b, el, nw, h => by
    rw [climbP]
    by_cases hb : b = 0
    · subst hb
      rw [if_pos rfl, dirs_zero]
      exact ⟨rfl, fun e => by cases e⟩
    · rw [if_neg hb]
      by_cases ho : a % 2 = 1
      · rw [if_pos (.inl ho), stripE_odd (by omega), dirs_odd hb ho]
        have ih := climbP_dirs hs (a / 2) (b / 2) (nodeL x el) (nodeL x nw) (by omega)
        refine ⟨?_, fun e => ?_⟩
        · rw [List.length_cons, List.length_cons, beq_succ]; exact ih.1
        · rw [List.length_cons, List.length_cons] at e
          exact ih.2 (by omega)
      · by_cases hl : a = b
        · subst hl
          rw [if_pos (.inr rfl)]
          obtain ⟨d1, d2⟩ := dirs_strip a a (Nat.le_refl _) hb
          rw [d1, d2]
          have ih := climbP_dirs hs ((stripE a a).2 / 2) ((stripE a a).2 / 2) (nodeL x el) (nodeL x nw) (Nat.le_refl _)
          refine ⟨?_, fun e => ?_⟩
          · rw [List.length_cons, List.length_cons, beq_succ]; exact ih.1
          · rw [List.length_cons, List.length_cons] at e
            exact ih.2 (by omega)
        · rw [if_neg (by omega), dirs_less hb ho (by omega)]
          have ih := climbP_dirs hs (a / 2) (b / 2) el (nodeL nw x) (by omega)
          refine ⟨?_, fun e => ?_⟩
          · rw [List.length_cons, List.length_cons, beq_succ]; exact ih.1
          · rw [List.length_cons, List.length_cons] at e
            exact ih.2 (by omega)
theorem way_strip : ∀ (f m n : Nat), m ≤ f → 1 ≤ m → m < n → way m n = dirs (stripO (m - 1) (n - 1)).1 (stripO (m - 1) (n - 1)).2 ∧ (stripO (m - 1) (n - 1)).1 < (stripO (m - 1) (n - 1)).2
  | 0, m, n, hf, h1, h2 => by omega
  | f + 1, m, n, hf, h1, h2 => by
    by_cases ho : (m - 1) % 2 = 1
    · rw [stripO_odd ho]
      have h3 := way_odd (n - 1) ((m - 1) / 2) (n - 1) (Nat.le_refl _) (by omega)
      rw [show 2 * ((m - 1) / 2) + 2 = m by omega, show n - 1 + 1 = n by omega] at h3
      have ih := way_strip f ((m - 1) / 2 + 1) ((n - 1) / 2 + 1) (by omega) (by omega) (by omega)
      rw [Nat.add_sub_cancel, Nat.add_sub_cancel] at ih
      rw [h3]
      exact ih
    · rw [stripO_even ho]
      have h3 := way_even (n - 1) ((m - 1) / 2) (n - 1) (Nat.le_refl _) (by omega)
      rw [show 2 * ((m - 1) / 2) + 1 = m by omega, show n - 1 + 1 = n by omega] at h3
      rw [h3, dirs_less (by omega) ho (by omega)]
      exact ⟨rfl, by show m - 1 < n - 1; omega⟩

/-! ### The document's way is that of these directions -/
def wholeF : Nat → Nat → Nat → Bool → Bool
  | 0, _, _, wh => wh
  | f + 1, m, n, wh => if m = n then wh else if m ≤ splitN n then wholeF f m (splitN n) wh else false
theorem foldG_snoc : ∀ (ds : List Bool) (hs : List (List UInt8)) (d : Bool) (h : List UInt8) (p : List UInt8 × List UInt8), hs.length = ds.length → foldG (ds ++ [d]) (hs ++ [h]) p = if d then (nodeL h (foldG ds hs p).1, nodeL h (foldG ds hs p).2) else ((foldG ds hs p).1, nodeL (foldG ds hs p).2 h)
  | [], [], d, h, p, _ => by cases d <;> rfl
  | true :: ds, x :: hs, d, h, p, e => by
    rw [List.length_cons, List.length_cons] at e
    exact foldG_snoc ds hs d h _ (by omega)
  | false :: ds, x :: hs, d, h, p, e => by
    rw [List.length_cons, List.length_cons] at e
    exact foldG_snoc ds hs d h _ (by omega)
  | [], _ :: _, _, _, _, e => by cases e
  | _ :: _, [], _, _, _, e => by cases e
/-- A path that is all of the way, and its start. -/
def BothIs (old : List UInt8) (ps : List (List UInt8)) (ds : List Bool) (wh : Bool) (t : Trio) : Prop :=
  if wh then t.2.2 = (ps.length == ds.length) ∧ (ps.length = ds.length → (t.1, t.2.1) = foldG ds ps.reverse (old, old))
  else t.2.2 = (ps.length == ds.length + 1) ∧ (ps.length = ds.length + 1 → ∃ s rest, ps.reverse = s :: rest ∧ (t.1, t.2.1) = foldG ds rest (s, s))
theorem bothEnd_is (old : List UInt8) (ps : List (List UInt8)) (wh : Bool) : BothIs old ps [] wh (bothEnd old ps wh) := by
  unfold BothIs bothEnd
  cases wh with
  | true => exact ⟨rfl, fun _ => rfl⟩
  | false =>
    match ps with
    | [] => exact ⟨rfl, fun e => by cases e⟩
    | [p] => exact ⟨rfl, fun _ => ⟨p, [], rfl, rfl⟩⟩
    | p :: q :: ps =>
      refine ⟨?_, fun e => by simp at e⟩
      show false = ((p :: q :: ps).length == 0 + 1)
      rw [eq_comm, beq_eq_false_iff_ne]
      simp
theorem bothR_is (old : List UInt8) : ∀ (f : Nat) (ps : List (List UInt8)) (m n : Nat) (wh : Bool), n ≤ f → 1 ≤ m → m ≤ n → BothIs old ps (way m n) (wholeF f m n wh) (bothR old ps m n wh)
  | 0, ps, m, n, wh, hf, h1, h2 => by omega
  | f + 1, ps, m, n, wh, hf, h1, h2 => by
    rw [wholeF]
    by_cases h : m = n
    · rw [if_pos h]
      subst h
      rw [way_all, bothR_same]
      exact bothEnd_is old ps wh
    · rw [if_neg h]
      have hk := splitN_lt (n := n) (by omega)
      have hp := splitN_pos (n := n) (by omega)
      by_cases hs : m ≤ splitN n
      · rw [if_pos hs, way_left h1 (by omega) hs]
        match ps with
        | [] =>
          rw [bothR_none old h]
          unfold BothIs
          cases wholeF f m (splitN n) wh with
          | true => refine ⟨?_, fun e => by simp at e⟩; simp
          | false => refine ⟨?_, fun e => by simp at e⟩; simp
        | p :: ps =>
          rw [bothR_left old p ps h hs]
          have ih := bothR_is old f ps m (splitN n) wh (by omega) h1 hs
          unfold BothIs at ih ⊢
          cases hw : wholeF f m (splitN n) wh with
          | true =>
            rw [hw, if_pos rfl] at ih
            rw [if_pos rfl]
            rw [List.length_cons, List.length_append]
            refine ⟨by rw [ih.1]; exact (beq_succ ..).symm, fun e => ?_⟩
            have e2 : ps.length = (way m (splitN n)).length := by simpa using e
            rw [List.reverse_cons, foldG_snoc _ _ _ _ _ (by simpa using e2), ← ih.2 e2]
            rfl
          | false =>
            rw [hw, if_neg (by decide)] at ih
            rw [if_neg (by decide)]
            rw [List.length_cons, List.length_append]
            refine ⟨by rw [ih.1]; exact (beq_succ ..).symm, fun e => ?_⟩
            have e2 : ps.length = (way m (splitN n)).length + 1 := by simpa using e
            obtain ⟨s, rest, r1, r2⟩ := ih.2 e2
            refine ⟨s, rest ++ [p], by rw [List.reverse_cons, r1]; rfl, ?_⟩
            have e3 : rest.length = (way m (splitN n)).length := by
              have := congrArg List.length r1
              simp only [List.length_reverse, List.length_cons] at this
              omega
            rw [foldG_snoc _ _ _ _ _ e3, ← r2]
            rfl
      · rw [if_neg hs, way_right (by omega) hs]
        match ps with
        | [] =>
          rw [bothR_none old h]
          unfold BothIs
          rw [if_neg (by decide)]
          refine ⟨?_, fun e => by simp at e⟩; simp
        | p :: ps =>
          rw [bothR_right old p ps h hs]
          have ih := bothR_is old f ps (m - splitN n) (n - splitN n) false (by omega) (by omega) (by omega)
          have hw : wholeF f (m - splitN n) (n - splitN n) false = false := by
            have : ∀ (f m n : Nat), wholeF f m n false = false := fun f => by
              induction f with
              | zero => intros; rfl
              | succ f ih => intro m n; rw [wholeF]; split; · rfl
                             split; · exact ih _ _
                             rfl
            exact this _ _ _
          unfold BothIs at ih ⊢
          rw [hw, if_neg (by decide)] at ih
          rw [if_neg (by decide)]
          rw [List.length_cons, List.length_append]
          refine ⟨by rw [ih.1]; exact (beq_succ ..).symm, fun e => ?_⟩
          have e2 : ps.length = (way (m - splitN n) (n - splitN n)).length + 1 := by simpa using e
          obtain ⟨s, rest, r1, r2⟩ := ih.2 e2
          refine ⟨s, rest ++ [p], by rw [List.reverse_cons, r1]; rfl, ?_⟩
          have e3 : rest.length = (way (m - splitN n) (n - splitN n)).length := by
            have := congrArg List.length r1
            simp only [List.length_reverse, List.length_cons] at this
            omega
          rw [foldG_snoc _ _ _ _ _ e3, ← r2]
          rfl

/-! ### Powers of two -/
def fullN (m : Nat) : Bool := m == 2 ^ m.log2
theorem and_pred {m : Nat} (h : 1 ≤ m) : (m &&& (m - 1) == 0) = fullN m := by
  unfold fullN
  have g1 := log2_le h
  have g2 := log2_gt m
  obtain ⟨e, he⟩ : ∃ e, e = m.log2 := ⟨_, rfl⟩
  rw [← he] at g1 g2 ⊢
  by_cases hp : m = 2 ^ e
  · rw [show (m == 2 ^ e) = true by simpa using hp, hp, Nat.and_two_pow_sub_one_eq_mod, Nat.mod_self]
    rfl
  · rw [show (m == 2 ^ e) = false by simpa using hp, beq_eq_false_iff_ne]
    intro h0
    have t1 : (m &&& (m - 1)).testBit e = true := by
      rw [Nat.testBit_and, Nat.testBit_eq_decide_div_mod_eq, Nat.testBit_eq_decide_div_mod_eq]
      have hq : 0 < 2 ^ e := Nat.two_pow_pos _
      have d1 : m / 2 ^ e = 1 := Nat.div_eq_of_lt_le (by omega) (by omega)
      have d2 : (m - 1) / 2 ^ e = 1 := Nat.div_eq_of_lt_le (by omega) (by omega)
      rw [d1, d2]
      rfl
    rw [h0, Nat.zero_testBit] at t1
    cases t1
theorem wholeF_full : ∀ (f m n : Nat), n ≤ f → 1 ≤ m → m < n → wholeF f m n true = fullN m
  | 0, m, n, hf, h1, h2 => by omega
  | f + 1, m, n, hf, h1, h2 => by
    have hk := splitN_lt (n := n) (by omega)
    have hp := splitN_pos (n := n) (by omega)
    have ht := splitN_twice (n := n) (by omega)
    have hi := splitN_is (n := n) (by omega)
    rw [wholeF, if_neg (by omega)]
    by_cases hs : m ≤ splitN n
    · rw [if_pos hs]
      by_cases he : m = splitN n
      · have e1 : wholeF f m (splitN n) true = true := by
          rw [he]
          cases f with
          | zero => rfl
          | succ f => rw [wholeF, if_pos rfl]
        rw [e1]
        unfold fullN
        rw [he, hi, Nat.log2_two_pow]
        simp
      · exact wholeF_full f m (splitN n) (by omega) h1 (by omega)
    · rw [if_neg hs]
      unfold fullN
      rw [eq_comm, beq_eq_false_iff_ne]
      intro h3
      rw [hi] at hs ht
      have e1 : m.log2 = (n - 1).log2 := (Nat.log2_eq_iff (by omega)).2 ⟨by omega, by rw [Nat.pow_succ]; omega⟩
      rw [e1] at h3
      omega

/-! ### Check -/
/-- The program's: the start, the elder log's last part; then up. -/
def climbC (old : List UInt8) (path : List (List UInt8)) (m n : Nat) : Trio :=
  if fullN m then climbP path (stripO (m - 1) (n - 1)).1 (stripO (m - 1) (n - 1)).2 old old
  else match path with
    | [] => (zero32, zero32, false)
    | p :: ps => climbP ps (stripO (m - 1) (n - 1)).1 (stripO (m - 1) (n - 1)).2 p p
theorem climbC_both (old : List UInt8) (path : List (List UInt8)) (m n : Nat) (h1 : 1 ≤ m) (h2 : m < n) : (climbC old path m n).2.2 = (bothL old path m n true).2.2 ∧ ((climbC old path m n).2.2 = true → climbC old path m n = bothL old path m n true) := by
  have hb := bothR_is old n path.reverse m n true (Nat.le_refl _) h1 (by omega)
  rw [wholeF_full n m n (Nat.le_refl _) h1 h2] at hb
  obtain ⟨hw, hlt⟩ := way_strip m m n (Nat.le_refl _) h1 h2
  unfold climbC bothL
  unfold BothIs at hb
  rw [List.length_reverse, List.reverse_reverse, hw] at hb
  cases hf : fullN m with
  | true =>
    rw [hf, if_pos rfl] at hb
    rw [if_pos rfl]
    have hc := climbP_dirs path (stripO (m - 1) (n - 1)).1 (stripO (m - 1) (n - 1)).2 old old (by omega)
    refine ⟨hc.1.trans hb.1.symm, fun ht => ?_⟩
    have hl := hc.1.symm.trans ht
    rw [beq_iff_eq] at hl
    have e1 := (hc.2 hl).trans (hb.2 hl).symm
    have e2 := hc.1.trans hb.1.symm
    injection e1 with e3 e4
    exact Prod.ext e3 (Prod.ext e4 e2)
  | false =>
    rw [hf, if_neg (by decide)] at hb
    rw [if_neg (by decide)]
    match path, hb with
    | [], hb =>
      refine ⟨?_, fun ht => by cases ht⟩
      rw [hb.1]
      rw [eq_comm, beq_eq_false_iff_ne]
      simp
    | p :: ps, hb =>
      have hc := climbP_dirs ps (stripO (m - 1) (n - 1)).1 (stripO (m - 1) (n - 1)).2 p p (by omega)
      have hb1 := hb.1
      rw [List.length_cons, beq_succ] at hb1
      refine ⟨hc.1.trans hb1.symm, fun ht => ?_⟩
      have hl := hc.1.symm.trans ht
      rw [beq_iff_eq] at hl
      obtain ⟨s, rest, r1, r2⟩ := hb.2 (by rw [List.length_cons, hl])
      injection r1 with r3 r4
      subst r3 r4
      have e1 := (hc.2 hl).trans r2.symm
      have e2 := hc.1.trans hb1.symm
      injection e1 with e3 e4
      exact Prod.ext e3 (Prod.ext e4 e2)
/-- Grown. -/
def grownL (old new : List UInt8) (m n : Int) (path : List (List UInt8)) : Bool := if m < 1 ∨ n < m then false else (bothL old path m.toNat n.toNat true).2.2 && ((bothL old path m.toNat n.toNat true).1 == old && (bothL old path m.toNat n.toNat true).2.1 == new)
theorem grown_all (old new : List UInt8) (n : Nat) (h : 1 ≤ n) (path : List (List UInt8)) : grownL old new n n path = (path.length == 0 && old == new) := by
  unfold grownL
  rw [if_neg (by omega), Int.toNat_natCast]
  unfold bothL
  rw [bothR_same]
  unfold bothEnd
  simp
theorem grown_climb (old new : List UInt8) (m n : Nat) (h1 : 1 ≤ m) (h2 : m < n) (path : List (List UInt8)) : grownL old new m n path = ((climbC old path m n).2.2 && ((climbC old path m n).1 == old && (climbC old path m n).2.1 == new)) := by
  unfold grownL
  rw [if_neg (by omega), Int.toNat_natCast, Int.toNat_natCast]
  obtain ⟨e1, e2⟩ := climbC_both old path m n h1 h2
  cases hc : (climbC old path m n).2.2 with
  | false => rw [← e1, hc]; rfl
  | true =>
    have e3 := e2 hc
    rw [← e3, hc]
theorem grown_sub (l : List (List UInt8)) (m : Nat) (h1 : 1 ≤ m) (h2 : m ≤ l.length) : grownL (rootL (l.take m)) (rootL l) m l.length (subL l m true) = true := by
  unfold grownL
  rw [if_neg (by omega), Int.toNat_natCast, Int.toNat_natCast, both_sub _ l.length l m true (Nat.le_refl _) h1 h2 (fun _ => rfl)]
  simp
/-- A proof of another length is none. -/
theorem grown_long (l : List (List UInt8)) (m : Nat) (h1 : 1 ≤ m) (h2 : m < l.length) (old new : List UInt8) (path : List (List UInt8)) (h : path.length ≠ (subL l m true).length) : grownL old new m l.length path = false := by
  unfold grownL
  rw [if_neg (by omega), Int.toNat_natCast, Int.toNat_natCast]
  have e1 := both_sub (rootL (l.take m)) l.length l m true (Nat.le_refl _) h1 (by omega) (fun _ => rfl)
  have b1 := bothR_is (rootL (l.take m)) l.length (subL l m true).reverse m l.length true (Nat.le_refl _) h1 (by omega)
  have b2 := bothR_is old l.length path.reverse m l.length true (Nat.le_refl _) h1 (by omega)
  rw [wholeF_full l.length m l.length (Nat.le_refl _) h1 h2] at b1 b2
  unfold bothL at e1 ⊢
  unfold BothIs at b1 b2
  rw [e1] at b1
  rw [List.length_reverse] at b1 b2
  cases hf : fullN m with
  | true =>
    rw [hf, if_pos rfl] at b1 b2
    have h3 := b1.1.symm
    rw [beq_iff_eq] at h3
    rw [b2.1, show (path.length == (way m l.length).length) = false by rw [beq_eq_false_iff_ne]; omega]
    rfl
  | false =>
    rw [hf, if_neg (by decide)] at b1 b2
    have h3 := b1.1.symm
    rw [beq_iff_eq] at h3
    rw [b2.1, show (path.length == (way m l.length).length + 1) = false by rw [beq_eq_false_iff_ne]; omega]
    rfl
end Go.Pm
