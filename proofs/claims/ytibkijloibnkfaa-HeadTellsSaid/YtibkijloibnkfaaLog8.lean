/- Logs (chapter 8) as plain mathematics: where a log is parted, its root, paths, what a path comes to. -/
import Derived.Test.YtibkijloibnkfaaPrf7
namespace Go.Pm
open Go Go.RowKit

/-! ### The greatest power of two below n -/
def splitN (n : Nat) : Nat := if n < 2 then 0 else 2 ^ (n - 1).log2
theorem splitN_few {n : Nat} (h : n < 2) : splitN n = 0 := if_pos h
theorem splitN_is {n : Nat} (h : 2 ≤ n) : splitN n = 2 ^ (n - 1).log2 := if_neg (by omega)
theorem splitN_lt {n : Nat} (h : 2 ≤ n) : splitN n < n := by
  rw [splitN_is h]
  have := Nat.log2_self_le (n := n - 1) (by omega)
  omega
theorem splitN_pos {n : Nat} (h : 2 ≤ n) : 0 < splitN n := by
  rw [splitN_is h]
  exact Nat.two_pow_pos _
theorem splitN_twice {n : Nat} (h : 2 ≤ n) : n ≤ 2 * splitN n := by
  rw [splitN_is h]
  have := Nat.lt_log2_self (n := n - 1)
  rw [Nat.pow_succ] at this
  omega
/-- There is one such power only. -/
theorem splitN_only {n e : Nat} (h1 : 2 ^ e < n) (h2 : n ≤ 2 * 2 ^ e) : splitN n = 2 ^ e := by
  have hp := Nat.two_pow_pos e
  rw [splitN_is (by omega)]
  congr 1
  have : (n - 1).log2 = e := by
    refine (Nat.log2_eq_iff (by omega)).2 ⟨by omega, ?_⟩
    rw [Nat.pow_succ]
    omega
  exact this

/-! ### Hashes -/
def leafL (b : List UInt8) : List UInt8 := sumB (textB 76 [b])
def nodeL (a b : List UInt8) : List UInt8 := sumB (textB 78 [a, b])
def emptyL : List UInt8 := sumB (textB 69 [])
theorem leafL_len (b : List UInt8) : (leafL b).length = 32 := sumB_len _
theorem nodeL_len (a b : List UInt8) : (nodeL a b).length = 32 := sumB_len _
theorem emptyL_len : emptyL.length = 32 := sumB_len _

/-! ### Roots -/
def rootF : Nat → List (List UInt8) → List UInt8
  | 0, _ => emptyL
  | f + 1, l => if l.length = 0 then emptyL else if l.length = 1 then l.getD 0 [] else nodeL (rootF f (l.take (splitN l.length))) (rootF f (l.drop (splitN l.length)))
def rootL (l : List (List UInt8)) : List UInt8 := rootF l.length l
theorem rootF_any : ∀ (f g : Nat) (l : List (List UInt8)), l.length ≤ f → l.length ≤ g → rootF f l = rootF g l
  | 0, 0, _, _, _ => rfl
  | 0, g + 1, l, h, _ => by
    have h0 : l.length = 0 := by omega
    rw [rootF, rootF, if_pos h0]
  | f + 1, 0, l, _, h => by
    have h0 : l.length = 0 := by omega
    rw [rootF, rootF, if_pos h0]
  | f + 1, g + 1, l, h1, h2 => by
    rw [rootF, rootF]
    by_cases h0 : l.length = 0
    · rw [if_pos h0, if_pos h0]
    · rw [if_neg h0, if_neg h0]
      by_cases h3 : l.length = 1
      · rw [if_pos h3, if_pos h3]
      · rw [if_neg h3, if_neg h3]
        have hk := splitN_lt (n := l.length) (by omega)
        have hp := splitN_pos (n := l.length) (by omega)
        rw [rootF_any f g (l.take (splitN l.length)) (by rw [List.length_take]; omega) (by rw [List.length_take]; omega), rootF_any f g (l.drop (splitN l.length)) (by rw [List.length_drop]; omega) (by rw [List.length_drop]; omega)]
theorem rootL_nil : rootL [] = emptyL := rfl
theorem rootL_one (x : List UInt8) : rootL [x] = x := rfl
theorem rootL_more {l : List (List UInt8)} (h : 2 ≤ l.length) : rootL l = nodeL (rootL (l.take (splitN l.length))) (rootL (l.drop (splitN l.length))) := by
  have hk := splitN_lt h
  have hp := splitN_pos h
  unfold rootL
  obtain ⟨f, hf⟩ : ∃ f, l.length = f + 1 := ⟨l.length - 1, by omega⟩
  conv => lhs; rw [hf, rootF]
  rw [if_neg (by omega), if_neg (by omega)]
  rw [rootF_any f (l.take (splitN l.length)).length (l.take (splitN l.length)) (by rw [List.length_take]; omega) (Nat.le_refl _), rootF_any f (l.drop (splitN l.length)).length (l.drop (splitN l.length)) (by rw [List.length_drop]; omega) (Nat.le_refl _)]
theorem rootL_len {l : List (List UInt8)} (h : H32 l) : (rootL l).length = 32 := by
  match l, h with
  | [], _ => exact emptyL_len
  | [x], h => exact h x (List.mem_cons_self ..)
  | x :: y :: l, _ => rw [rootL_more (by simp)]; exact nodeL_len _ _

/-! ### Paths -/
def pathF : Nat → List (List UInt8) → Nat → List (List UInt8)
  | 0, _, _ => []
  | f + 1, l, i => if l.length < 2 then [] else if i < splitN l.length then pathF f (l.take (splitN l.length)) i ++ [rootL (l.drop (splitN l.length))] else pathF f (l.drop (splitN l.length)) (i - splitN l.length) ++ [rootL (l.take (splitN l.length))]
def pathL (l : List (List UInt8)) (i : Nat) : List (List UInt8) := pathF l.length l i
theorem pathF_any : ∀ (f g : Nat) (l : List (List UInt8)) (i : Nat), l.length ≤ f → l.length ≤ g → pathF f l i = pathF g l i
  | 0, 0, _, _, _, _ => rfl
  | 0, g + 1, l, i, h, _ => by
    rw [pathF, pathF, if_pos (by omega)]
  | f + 1, 0, l, i, _, h => by
    rw [pathF, pathF, if_pos (by omega)]
  | f + 1, g + 1, l, i, h1, h2 => by
    rw [pathF, pathF]
    by_cases h0 : l.length < 2
    · rw [if_pos h0, if_pos h0]
    · rw [if_neg h0, if_neg h0]
      have hk := splitN_lt (n := l.length) (by omega)
      have hp := splitN_pos (n := l.length) (by omega)
      rw [pathF_any f g (l.take (splitN l.length)) i (by rw [List.length_take]; omega) (by rw [List.length_take]; omega), pathF_any f g (l.drop (splitN l.length)) (i - splitN l.length) (by rw [List.length_drop]; omega) (by rw [List.length_drop]; omega)]
theorem pathL_few {l : List (List UInt8)} (h : l.length < 2) (i : Nat) : pathL l i = [] := by
  unfold pathL
  match l, h with
  | [], _ => rfl
  | [x], _ => rfl
  | x :: y :: l, h => simp at h; omega
theorem pathL_left {l : List (List UInt8)} (h : 2 ≤ l.length) {i : Nat} (hi : i < splitN l.length) : pathL l i = pathL (l.take (splitN l.length)) i ++ [rootL (l.drop (splitN l.length))] := by
  have hk := splitN_lt h
  unfold pathL
  obtain ⟨f, hf⟩ : ∃ f, l.length = f + 1 := ⟨l.length - 1, by omega⟩
  conv => lhs; rw [hf, pathF]
  rw [if_neg (by omega), if_pos hi, pathF_any f (l.take (splitN l.length)).length (l.take (splitN l.length)) i (by rw [List.length_take]; omega) (Nat.le_refl _)]
theorem pathL_right {l : List (List UInt8)} (h : 2 ≤ l.length) {i : Nat} (hi : ¬ i < splitN l.length) : pathL l i = pathL (l.drop (splitN l.length)) (i - splitN l.length) ++ [rootL (l.take (splitN l.length))] := by
  have hp := splitN_pos h
  unfold pathL
  obtain ⟨f, hf⟩ : ∃ f, l.length = f + 1 := ⟨l.length - 1, by omega⟩
  conv => lhs; rw [hf, pathF]
  rw [if_neg (by omega), if_neg hi, pathF_any f (l.drop (splitN l.length)).length (l.drop (splitN l.length)) _ (by rw [List.length_drop]; omega) (Nat.le_refl _)]
theorem H32.drop {a : List (List UInt8)} (h : H32 a) (n : Nat) : H32 (a.drop n) := fun x hx => h x (List.mem_of_mem_drop hx)
theorem pathL_h32 : ∀ (f : Nat) {l : List (List UInt8)} (i : Nat), l.length ≤ f → H32 l → H32 (pathL l i)
  | f, l, i, hf, h => by
    by_cases h2 : l.length < 2
    · rw [pathL_few h2]; exact H32.nil
    · have h2' : 2 ≤ l.length := by omega
      have hk := splitN_lt h2'
      have hp := splitN_pos h2'
      match f, hf with
      | 0, hf => omega
      | f + 1, hf =>
        by_cases hi : i < splitN l.length
        · rw [pathL_left h2' hi]
          exact (pathL_h32 f i (by rw [List.length_take]; omega) (h.take _)).append (H32.one (rootL_len (h.drop _)))
        · rw [pathL_right h2' hi]
          exact (pathL_h32 f _ (by rw [List.length_drop]; omega) (h.drop _)).append (H32.one (rootL_len (h.take _)))
theorem pathL_len : ∀ (f : Nat) {l : List (List UInt8)} (i : Nat), l.length ≤ f → (pathL l i).length ≤ l.length
  | f, l, i, hf => by
    by_cases h2 : l.length < 2
    · rw [pathL_few h2]; simp
    · have h2' : 2 ≤ l.length := by omega
      have hk := splitN_lt h2'
      have hp := splitN_pos h2'
      match f, hf with
      | 0, hf => omega
      | f + 1, hf =>
        by_cases hi : i < splitN l.length
        · rw [pathL_left h2' hi, List.length_append]
          have := pathL_len f (l := l.take (splitN l.length)) i (by rw [List.length_take]; omega)
          rw [List.length_take] at this
          simp only [List.length_cons, List.length_nil]
          omega
        · rw [pathL_right h2' hi, List.length_append]
          have := pathL_len f (l := l.drop (splitN l.length)) (i - splitN l.length) (by rw [List.length_drop]; omega)
          rw [List.length_drop] at this
          simp only [List.length_cons, List.length_nil]
          omega

/-! ### What a path comes to (its hashes the last one first) -/
def upR (leaf : List UInt8) : List (List UInt8) → Nat → Nat → List UInt8 × Bool
  | [], n, _ => if n = 1 then (leaf, true) else (zero32, false)
  | p :: ps, n, i => if n = 1 then (leaf, false) else if i < splitN n then (nodeL (upR leaf ps (splitN n) i).1 p, (upR leaf ps (splitN n) i).2) else (nodeL p (upR leaf ps (n - splitN n) (i - splitN n)).1, (upR leaf ps (n - splitN n) (i - splitN n)).2)
def upL (leaf : List UInt8) (path : List (List UInt8)) (n i : Nat) : List UInt8 × Bool := upR leaf path.reverse n i
theorem upL_one (leaf : List UInt8) (path : List (List UInt8)) (i : Nat) : upL leaf path 1 i = (leaf, path.length == 0) := by
  unfold upL
  rcases h : path.reverse with _ | ⟨p, ps⟩
  · have := congrArg List.length h
    simp only [List.length_reverse, List.length_nil] at this
    rw [this]
    rfl
  · have := congrArg List.length h
    simp only [List.length_reverse, List.length_cons] at this
    rw [this]
    rfl
theorem upL_none (leaf : List UInt8) {n : Nat} (hn : n ≠ 1) (i : Nat) : upL leaf [] n i = (zero32, false) := by
  unfold upL
  rw [List.reverse_nil, upR, if_neg hn]
theorem upL_left (leaf : List UInt8) (path : List (List UInt8)) (p : List UInt8) {n i : Nat} (hn : n ≠ 1) (hi : i < splitN n) : upL leaf (path ++ [p]) n i = (nodeL (upL leaf path (splitN n) i).1 p, (upL leaf path (splitN n) i).2) := by
  unfold upL
  rw [List.reverse_append, List.reverse_singleton, List.singleton_append, upR, if_neg hn, if_pos hi]
theorem upL_right (leaf : List UInt8) (path : List (List UInt8)) (p : List UInt8) {n i : Nat} (hn : n ≠ 1) (hi : ¬ i < splitN n) : upL leaf (path ++ [p]) n i = (nodeL p (upL leaf path (n - splitN n) (i - splitN n)).1, (upL leaf path (n - splitN n) (i - splitN n)).2) := by
  unfold upL
  rw [List.reverse_append, List.reverse_singleton, List.singleton_append, upR, if_neg hn, if_neg hi]
theorem upR_nil (leaf : List UInt8) (n i : Nat) : upR leaf [] n i = if n = 1 then (leaf, true) else (zero32, false) := by rfl
theorem upR_cons (leaf p : List UInt8) (ps : List (List UInt8)) (n i : Nat) : upR leaf (p :: ps) n i = if n = 1 then (leaf, false) else if i < splitN n then (nodeL (upR leaf ps (splitN n) i).1 p, (upR leaf ps (splitN n) i).2) else (nodeL p (upR leaf ps (n - splitN n) (i - splitN n)).1, (upR leaf ps (n - splitN n) (i - splitN n)).2) := by rfl
theorem upR_len (leaf : List UInt8) (hl : leaf.length = 32) (ps : List (List UInt8)) (n i : Nat) : (upR leaf ps n i).1.length = 32 := by
  cases ps with
  | nil =>
    rw [upR_nil]
    split
    · exact hl
    · exact zero32_len
  | cons p ps =>
    rw [upR_cons]
    split
    · exact hl
    · split
      · exact nodeL_len _ _
      · exact nodeL_len _ _
theorem upL_len {leaf : List UInt8} (hl : leaf.length = 32) (path : List (List UInt8)) (n i : Nat) : (upL leaf path n i).1.length = 32 := upR_len leaf hl _ _ _
/-- A path of another length is none. -/
theorem upR_same (a b : List UInt8) : ∀ (ps qs : List (List UInt8)) (n i : Nat), (upR a ps n i).2 = true → (upR b qs n i).2 = true → ps.length = qs.length
  | [], [], _, _, _, _ => rfl
  | [], q :: qs, n, i, h1, h2 => by
    rw [upR_nil] at h1
    rw [upR_cons] at h2
    by_cases hn : n = 1
    · rw [if_pos hn] at h2; cases h2
    · rw [if_neg hn] at h1; cases h1
  | p :: ps, [], n, i, h1, h2 => by
    rw [upR_cons] at h1
    rw [upR_nil] at h2
    by_cases hn : n = 1
    · rw [if_pos hn] at h1; cases h1
    · rw [if_neg hn] at h2; cases h2
  | p :: ps, q :: qs, n, i, h1, h2 => by
    rw [upR_cons] at h1 h2
    by_cases hn : n = 1
    · rw [if_pos hn] at h1; cases h1
    · rw [if_neg hn] at h1 h2
      by_cases hi : i < splitN n
      · rw [if_pos hi] at h1 h2
        rw [List.length_cons, List.length_cons, upR_same a b ps qs _ _ h1 h2]
      · rw [if_neg hi] at h1 h2
        rw [List.length_cons, List.length_cons, upR_same a b ps qs _ _ h1 h2]
theorem upL_same (a b : List UInt8) (ps qs : List (List UInt8)) (n i : Nat) (h1 : (upL a ps n i).2 = true) (h2 : (upL b qs n i).2 = true) : ps.length = qs.length := by
  have := upR_same a b _ _ n i h1 h2
  rwa [List.length_reverse, List.length_reverse] at this
/-- A leaf's own path leads to the root. -/
theorem up_path : ∀ (f : Nat) (l : List (List UInt8)) (i : Nat) (a : List UInt8), l.length ≤ f → l[i]? = some a → upL a (pathL l i) l.length i = (rootL l, true)
  | f, l, i, a, hf, ha => by
    have hi : i < l.length := (List.getElem?_eq_some_iff.1 ha).1
    by_cases h2 : l.length < 2
    · obtain ⟨x, rfl⟩ := List.length_eq_one_iff.1 (show l.length = 1 by omega)
      obtain rfl : i = 0 := by simpa using hi
      obtain rfl : x = a := by simpa using ha
      rfl
    · have h2' : 2 ≤ l.length := by omega
      have hk := splitN_lt h2'
      have hp := splitN_pos h2'
      match f, hf with
      | 0, hf => omega
      | f + 1, hf =>
        rw [rootL_more h2']
        by_cases hs : i < splitN l.length
        · have hl : (l.take (splitN l.length)).length = splitN l.length := by rw [List.length_take]; omega
          rw [pathL_left h2' hs, upL_left _ _ _ (by omega) hs]
          have ih := up_path f (l.take (splitN l.length)) i a (by omega) (by rw [List.getElem?_take, if_pos hs]; exact ha)
          rw [hl] at ih
          rw [ih]
        · have hl : (l.drop (splitN l.length)).length = l.length - splitN l.length := by rw [List.length_drop]
          rw [pathL_right h2' hs, upL_right _ _ _ (by omega) hs]
          have ih := up_path f (l.drop (splitN l.length)) (i - splitN l.length) a (by omega) (by rw [List.getElem?_drop, show splitN l.length + (i - splitN l.length) = i by omega]; exact ha)
          rw [hl] at ih
          rw [ih]
/-- Check: a place that is there, as many hashes as it has, the root. -/
def checkL (root : List UInt8) (n i : Int) (leaf : List UInt8) (path : List (List UInt8)) : Bool := if i < 0 ∨ n ≤ i then false else (upL leaf path n.toNat i.toNat).2 && ((upL leaf path n.toNat i.toNat).1 == root)
theorem checkL_path (l : List (List UInt8)) (i : Nat) (a : List UInt8) (ha : l[i]? = some a) : checkL (rootL l) l.length i a (pathL l i) = true := by
  have hi : i < l.length := (List.getElem?_eq_some_iff.1 ha).1
  unfold checkL
  rw [if_neg (by omega), Int.toNat_natCast, Int.toNat_natCast, up_path l.length l i a (Nat.le_refl _) ha]
  simp
theorem checkL_long (l : List (List UInt8)) (i : Nat) (hi : i < l.length) (root p a : List UInt8) : checkL root l.length i a (pathL l i ++ [p]) = false := by
  unfold checkL
  rw [if_neg (by omega), Int.toNat_natCast, Int.toNat_natCast]
  cases h : (upL a (pathL l i ++ [p]) l.length i).2 with
  | false => rfl
  | true =>
    have h2 := up_path l.length l i l[i] (Nat.le_refl _) (List.getElem?_eq_getElem hi)
    have := upL_same _ _ _ _ _ _ h (by rw [h2])
    simp at this
end Go.Pm
