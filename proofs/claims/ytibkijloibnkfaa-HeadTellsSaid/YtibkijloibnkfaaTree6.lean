/- Trees (chapter 6) as plain mathematics: items in order, the last one of each index; roots by bits. Program-independent. -/
import Derived.Test.YtibkijloibnkfaaLow
namespace Go.Pm
open Go Go.RowKit

/-! ### The order of bytes -/
theorem less_irrefl : ∀ a : List UInt8, Op.bytesLess a a = false
  | [] => rfl
  | x :: a => by
    unfold Op.bytesLess
    rw [less_irrefl a]
    simp
theorem less_trans : ∀ {a b c : List UInt8}, Op.bytesLess a b = true → Op.bytesLess b c = true → Op.bytesLess a c = true
  | _, [], _, h, _ => by cases ‹List UInt8› <;> simp [Op.bytesLess] at h
  | _, _ :: _, [], _, h => by simp [Op.bytesLess] at h
  | [], _ :: _, _ :: _, _, _ => rfl
  | x :: a, y :: b, z :: c, h1, h2 => by
    unfold Op.bytesLess at h1 h2 ⊢
    simp only [Bool.or_eq_true, Bool.and_eq_true, decide_eq_true_eq, beq_iff_eq] at h1 h2 ⊢
    rcases h1 with h1 | ⟨rfl, h1⟩
    · rcases h2 with h2 | ⟨rfl, h2⟩
      · exact .inl (UInt8.lt_trans h1 h2)
      · exact .inl h1
    · rcases h2 with h2 | ⟨rfl, h2⟩
      · exact .inl h2
      · exact .inr ⟨rfl, less_trans h1 h2⟩
theorem less_total : ∀ a b : List UInt8, Op.bytesLess a b = true ∨ a = b ∨ Op.bytesLess b a = true
  | [], [] => .inr (.inl rfl)
  | [], _ :: _ => .inl rfl
  | _ :: _, [] => .inr (.inr rfl)
  | x :: a, y :: b => by
    unfold Op.bytesLess
    simp only [Bool.or_eq_true, Bool.and_eq_true, decide_eq_true_eq, beq_iff_eq]
    by_cases hxy : x = y
    · subst hxy
      rcases less_total a b with h | h | h
      · exact .inl (.inr ⟨rfl, h⟩)
      · exact .inr (.inl (by rw [h]))
      · exact .inr (.inr (.inr ⟨rfl, h⟩))
    · rcases UInt8.lt_or_lt_of_ne hxy with h | h
      · exact .inl (.inl h)
      · exact .inr (.inr (.inl h))
theorem less_asymm {a b : List UInt8} (h : Op.bytesLess a b = true) : Op.bytesLess b a = false := by
  cases h2 : Op.bytesLess b a with
  | false => rfl
  | true => have := less_trans h h2; rw [less_irrefl] at this; cases this
theorem less_ne {a b : List UInt8} (h : Op.bytesLess a b = true) : a ≠ b := fun e => by subst e; rw [less_irrefl] at h; cases h

/-! ### Items -/
structure It where
  i : List UInt8
  v : List UInt8
  deriving DecidableEq
/-- Strictly rising. -/
def Srt (l : List It) : Prop := l.Pairwise (fun a b => Op.bytesLess a.i b.i = true)
/-- An item, into its place. -/
def insI (x : It) : List It → List It
  | [] => [x]
  | y :: l => if Op.bytesLess y.i x.i then y :: insI x l else if y.i = x.i then x :: l else x :: y :: l
/-- Set, of all items one behind another. -/
def setI (l : List It) : List It := l.foldl (fun out x => insI x out) []
theorem mem_insI {x z : It} : ∀ {l : List It}, Srt l → (z ∈ insI x l ↔ z = x ∨ z ∈ l ∧ z.i ≠ x.i)
  | [], _ => by simp [insI]
  | y :: l, h => by
    obtain ⟨hy, hl⟩ := List.pairwise_cons.1 h
    unfold insI
    split
    · rename_i h1
      rw [List.mem_cons, mem_insI hl, List.mem_cons]
      have hne := less_ne h1
      constructor
      · rintro (rfl | rfl | ⟨h2, h3⟩)
        · exact .inr ⟨.inl rfl, hne⟩
        · exact .inl rfl
        · exact .inr ⟨.inr h2, h3⟩
      · rintro (rfl | ⟨rfl | h2, h3⟩)
        · exact .inr (.inl rfl)
        · exact .inl rfl
        · exact .inr (.inr ⟨h2, h3⟩)
    · rename_i h1
      have out : ∀ w ∈ l, ¬ w.i = x.i ∨ False := fun w hw => by
        left
        intro e
        have h2 := hy w hw
        rcases less_total y.i x.i with h3 | h3 | h3
        · exact h1 h3
        · rw [e, ← h3, less_irrefl] at h2; cases h2
        · rw [e] at h2; exact h1 h2
      split
      · rename_i h2
        rw [List.mem_cons, List.mem_cons]
        constructor
        · rintro (rfl | h3)
          · exact .inl rfl
          · exact .inr ⟨.inr h3, (out z h3).elim id False.elim⟩
        · rintro (rfl | ⟨rfl | h3, h4⟩)
          · exact .inl rfl
          · exact absurd h2 h4
          · exact .inr h3
      · rename_i h2
        rw [List.mem_cons, List.mem_cons]
        constructor
        · rintro (rfl | rfl | h3)
          · exact .inl rfl
          · exact .inr ⟨.inl rfl, h2⟩
          · exact .inr ⟨.inr h3, (out z h3).elim id False.elim⟩
        · rintro (rfl | ⟨h3, _⟩)
          · exact .inl rfl
          · exact .inr h3
theorem srt_insI (x : It) : ∀ {l : List It}, Srt l → Srt (insI x l)
  | [], _ => by simp [insI, Srt]
  | y :: l, h => by
    obtain ⟨hy, hl⟩ := List.pairwise_cons.1 h
    unfold insI
    split
    · rename_i h1
      refine List.pairwise_cons.2 ⟨fun z hz => ?_, srt_insI x hl⟩
      rcases (mem_insI hl).1 hz with rfl | ⟨h2, _⟩
      · exact h1
      · exact hy z h2
    · rename_i h1
      split
      · rename_i h2
        exact List.pairwise_cons.2 ⟨fun z hz => by rw [← h2]; exact hy z hz, hl⟩
      · rename_i h2
        have h3 : Op.bytesLess x.i y.i = true := by
          rcases less_total y.i x.i with h | h | h
          · exact absurd h h1
          · exact absurd h h2
          · exact h
        refine List.pairwise_cons.2 ⟨fun z hz => ?_, h⟩
        rcases List.mem_cons.1 hz with rfl | hz
        · exact h3
        · exact less_trans h3 (hy z hz)
theorem srt_fold (l : List It) : ∀ {o : List It}, Srt o → Srt (l.foldl (fun out x => insI x out) o) := by
  induction l with
  | nil => exact fun h => h
  | cons x l ih => exact fun h => ih (srt_insI x h)
theorem srt_setI (l : List It) : Srt (setI l) := srt_fold l List.Pairwise.nil
/-- The last one of an index. -/
def lastI (l : List It) (i : List UInt8) : Option It := l.reverse.find? (fun x => decide (x.i = i))
theorem lastI_snoc (l : List It) (x : It) (i : List UInt8) : lastI (l ++ [x]) i = if x.i = i then some x else lastI l i := by
  unfold lastI
  rw [List.reverse_append, List.reverse_singleton, List.singleton_append, List.find?_cons]
  by_cases h : x.i = i
  · simp [h]
  · simp [h]
theorem setI_snoc (l : List It) (x : It) : setI (l ++ [x]) = insI x (setI l) := by
  unfold setI
  rw [List.foldl_append]
  rfl
/-- Just the last ones are in it. -/
theorem mem_setI (z : It) (l : List It) : z ∈ setI l ↔ lastI l z.i = some z := by
  suffices h : ∀ r : List It, z ∈ setI r.reverse ↔ lastI r.reverse z.i = some z by
    have := h l.reverse
    rwa [List.reverse_reverse] at this
  intro r
  induction r with
  | nil => simp [setI, lastI]
  | cons x r ih =>
    rw [List.reverse_cons, setI_snoc, mem_insI (srt_setI _), lastI_snoc]
    by_cases h : x.i = z.i
    · rw [if_pos h]
      constructor
      · rintro (rfl | ⟨_, h2⟩)
        · rfl
        · exact absurd h.symm h2
      · intro h2
        exact .inl (Option.some.inj h2).symm
    · rw [if_neg h, ← ih]
      constructor
      · rintro (rfl | ⟨h2, _⟩)
        · exact absurd rfl h
        · exact h2
      · exact fun h2 => .inr ⟨h2, fun e => h e.symm⟩
/-- What rises and has the same items is the same. -/
theorem srt_ext : ∀ {a b : List It}, Srt a → Srt b → (∀ z, z ∈ a ↔ z ∈ b) → a = b
  | [], [], _, _, _ => rfl
  | [], y :: b, _, _, h => by have := (h y).2 (List.mem_cons_self ..); cases this
  | x :: a, [], _, _, h => by have := (h x).1 (List.mem_cons_self ..); cases this
  | x :: a, y :: b, ha, hb, h => by
    obtain ⟨hx, ha'⟩ := List.pairwise_cons.1 ha
    obtain ⟨hy, hb'⟩ := List.pairwise_cons.1 hb
    have hxy : x = y := by
      rcases List.mem_cons.1 ((h x).1 (List.mem_cons_self ..)) with h1 | h1
      · exact h1
      · rcases List.mem_cons.1 ((h y).2 (List.mem_cons_self ..)) with h2 | h2
        · exact h2.symm
        · have h3 := hy x h1
          have h4 := hx y h2
          rw [less_asymm h3] at h4
          cases h4
    subst hxy
    rw [srt_ext ha' hb' fun z => ?_]
    constructor
    · intro hz
      rcases List.mem_cons.1 ((h z).1 (List.mem_cons_of_mem _ hz)) with rfl | h1
      · have h3 := hx z hz; rw [less_irrefl] at h3; cases h3
      · exact h1
    · intro hz
      rcases List.mem_cons.1 ((h z).2 (List.mem_cons_of_mem _ hz)) with rfl | h1
      · have h3 := hy z hz; rw [less_irrefl] at h3; cases h3
      · exact h1
/-- Whatever rises and has just the last ones is the Set. -/
theorem set_is {l s : List It} (h : Srt s) (hm : ∀ z, z ∈ s ↔ lastI l z.i = some z) : s = setI l :=
  srt_ext h (srt_setI l) fun z => (hm z).trans (mem_setI z l).symm
theorem srt_one {l : List It} (h : Srt l) {a b : It} (ha : a ∈ l) (hb : b ∈ l) (hi : a.i = b.i) : a = b := by
  induction l with
  | nil => cases ha
  | cons x l ih =>
    obtain ⟨hx, hl⟩ := List.pairwise_cons.1 h
    rcases List.mem_cons.1 ha with ha1 | ha1 <;> rcases List.mem_cons.1 hb with hb1 | hb1
    · rw [ha1, hb1]
    · have := hx b hb1; rw [← ha1, hi, less_irrefl] at this; cases this
    · have := hx a ha1; rw [← hb1, hi, less_irrefl] at this; cases this
    · exact ih hl ha1 hb1
theorem find_some {l : List It} {i : List UInt8} {z : It} (h : lastI l i = some z) : z ∈ l ∧ z.i = i := by
  unfold lastI at h
  exact ⟨List.mem_reverse.1 (List.mem_of_find?_eq_some h), by simpa using List.find?_some h⟩
/-- Of a rising list each is the last one of its index. -/
theorem last_srt {l : List It} (h : Srt l) (z : It) : lastI l z.i = some z ↔ z ∈ l := by
  constructor
  · exact fun h2 => (find_some h2).1
  · intro hz
    cases hf : lastI l z.i with
    | none =>
      unfold lastI at hf
      have := List.find?_eq_none.1 hf z (List.mem_reverse.2 hz)
      simp at this
    | some y =>
      obtain ⟨h1, h2⟩ := find_some hf
      rw [srt_one h h1 hz h2]
/-- The Set of a rising list is the list. -/
theorem set_srt {l : List It} (h : Srt l) : setI l = l := (set_is h fun z => (last_srt h z).symm).symm

/-- Where no two unlike ones have one index, each is the last one of it. -/
theorem last_one {l : List It} (h : ∀ a ∈ l, ∀ b ∈ l, a.i = b.i → a = b) (z : It) : lastI l z.i = some z ↔ z ∈ l := by
  constructor
  · exact fun h2 => (find_some h2).1
  · intro hz
    cases hf : lastI l z.i with
    | none =>
      unfold lastI at hf
      have := List.find?_eq_none.1 hf z (List.mem_reverse.2 hz)
      simp at this
    | some y =>
      obtain ⟨h1, h2⟩ := find_some hf
      rw [h y h1 z hz h2]
/-- The same items in whatever order, as often as may be: the same Set. -/
theorem set_like {l s : List It} (hs : Srt s) (h : ∀ z, z ∈ l ↔ z ∈ s) : setI l = s :=
  (set_is hs fun z => (h z).symm.trans (last_one (fun _ ha _ hb hi => srt_one hs ((h _).1 ha) ((h _).1 hb) hi) z).symm).symm

/-! ### Bits and roots -/
/-- A hash's bit. -/
def bitI (h : List UInt8) (j : Nat) : Nat := (h.getD (j / 8) 0).toNat / 2 ^ (7 - j % 8) % 2
theorem bitI_two (h : List UInt8) (j : Nat) : bitI h j = 0 ∨ bitI h j = 1 := by unfold bitI; omega
theorem byte_bits {a b : Nat} (ha : a < 256) (hb : b < 256) (h : ∀ k, k < 8 → a / 2 ^ (7 - k) % 2 = b / 2 ^ (7 - k) % 2) : a = b := by
  have h0 := h 0 (by decide)
  have h1 := h 1 (by decide)
  have h2 := h 2 (by decide)
  have h3 := h 3 (by decide)
  have h4 := h 4 (by decide)
  have h5 := h 5 (by decide)
  have h6 := h 6 (by decide)
  have h7 := h 7 (by decide)
  simp only [Nat.sub_zero, show (2 : Nat) ^ 7 = 128 by decide, show (2 : Nat) ^ (7 - 1) = 64 by decide, show (2 : Nat) ^ (7 - 2) = 32 by decide, show (2 : Nat) ^ (7 - 3) = 16 by decide, show (2 : Nat) ^ (7 - 4) = 8 by decide, show (2 : Nat) ^ (7 - 5) = 4 by decide, show (2 : Nat) ^ (7 - 6) = 2 by decide, show (2 : Nat) ^ (7 - 7) = 1 by decide] at h0 h1 h2 h3 h4 h5 h6 h7
  omega
/-- Hashes of like bits are the same. -/
theorem bits_ext {a b : List UInt8} (ha : a.length = 32) (hb : b.length = 32) (h : ∀ j, j < 256 → bitI a j = bitI b j) : a = b := by
  refine List.ext_getElem (by omega) fun n h1 h2 => ?_
  apply UInt8.toNat_inj.1
  refine byte_bits (UInt8.toNat_lt _) (UInt8.toNat_lt _) fun k hk => ?_
  have hb' := h (8 * n + k) (by omega)
  unfold bitI at hb'
  rw [show (8 * n + k) / 8 = n by omega, show (8 * n + k) % 8 = k by omega] at hb'
  simpa [List.getD, List.getElem?_eq_getElem h1, List.getElem?_eq_getElem h2] using hb'
/-- All agree on the bits ahead of a place. -/
def Agree (l : List It) (j : Nat) : Prop := ∀ a ∈ l, ∀ b ∈ l, ∀ k, k < j → bitI a.i k = bitI b.i k
def Len (l : List It) : Prop := ∀ a ∈ l, a.i.length = 32 ∧ a.v.length = 32
/-- Two of them agree on fewer than all bits. -/
theorem agree_lt {l : List It} (h : Srt l) (hl : Len l) {j : Nat} (ha : Agree l j) (h2 : 2 ≤ l.length) : j < 256 := by
  match l, h2 with
  | x :: y :: l, _ =>
    rcases Nat.lt_or_ge j 256 with h3 | h3
    · exact h3
    · exfalso
      have hx : x ∈ x :: y :: l := List.mem_cons_self ..
      have hy : y ∈ x :: y :: l := List.mem_cons_of_mem _ (List.mem_cons_self ..)
      have he := bits_ext (hl x hx).1 (hl y hy).1 fun k hk => ha x hx y hy k (by omega)
      have := (List.pairwise_cons.1 h).1 y (List.mem_cons_self ..)
      rw [he, less_irrefl] at this
      cases this
/-- The half of those whose bit is b. -/
def half (l : List It) (j b : Nat) : List It := l.filter (fun x => bitI x.i j == b)
theorem mem_half {l : List It} {j b : Nat} {x : It} : x ∈ half l j b ↔ x ∈ l ∧ bitI x.i j = b := by unfold half; rw [List.mem_filter, beq_iff_eq]
theorem srt_half {l : List It} (h : Srt l) (j b : Nat) : Srt (half l j b) := List.Pairwise.filter _ h
theorem len_half {l : List It} (h : Len l) (j b : Nat) : Len (half l j b) := fun a ha => h a (mem_half.1 ha).1
theorem agree_half {l : List It} {j : Nat} (h : Agree l j) (b : Nat) : Agree (half l j b) (j + 1) := fun x hx y hy k hk => by
  obtain ⟨h1, h2⟩ := mem_half.1 hx
  obtain ⟨h3, h4⟩ := mem_half.1 hy
  by_cases he : k = j
  · subst he; rw [h2, h4]
  · exact h x h1 y h3 k (by omega)
def leafH (x : It) : List UInt8 := sumB (textB 108 [x.i, x.v])
def nodeH (a b : List UInt8) : List UInt8 := sumB (textB 110 [a, b])
def emptyH : List UInt8 := sumB (textB 122 [])
/-- The root of what rises, from a place on; 'f': so many levels at most. -/
def rootI : Nat → List It → Nat → List UInt8
  | _, [], _ => emptyH
  | _, [x], _ => leafH x
  | 0, _ :: _ :: _, _ => []
  | f + 1, x :: y :: l, j => nodeH (rootI f (half (x :: y :: l) j 0) (j + 1)) (rootI f (half (x :: y :: l) j 1) (j + 1))
/-- Root. -/
def rootOf (l : List It) : List UInt8 := rootI 256 (setI l) 0
/-- More levels than there are bits change nothing. -/
theorem rootI_more : ∀ (f : Nat) {l : List It} {j : Nat}, Srt l → Len l → Agree l j → 256 ≤ f + j → ∀ e, rootI (f + e) l j = rootI f l j
  | f, [], j, _, _, _, _, e => by cases f <;> cases e <;> rfl
  | f, [x], j, _, _, _, _, e => by cases f <;> cases e <;> rfl
  | 0, x :: y :: l, j, h, hl, ha, hf, e => absurd (agree_lt h hl ha (by simp)) (by omega)
  | f + 1, x :: y :: l, j, h, hl, ha, hf, e => by
    rw [show f + 1 + e = (f + e) + 1 by omega]
    show nodeH _ _ = nodeH _ _
    rw [rootI_more f (srt_half h j 0) (len_half hl j 0) (agree_half ha 0) (by omega) e, rootI_more f (srt_half h j 1) (len_half hl j 1) (agree_half ha 1) (by omega) e]
/-- A root of two or more is that of both halves. -/
theorem root_halves {l : List It} (h : Srt l) (h2 : 2 ≤ l.length) : rootOf l = nodeH (rootI 255 (half l 0 0) 1) (rootI 255 (half l 0 1) 1) := by
  unfold rootOf
  rw [set_srt h]
  match l, h2 with
  | x :: y :: l, _ => rfl
theorem rootI_len : ∀ (f : Nat) {l : List It} {j : Nat}, Srt l → Len l → Agree l j → 256 ≤ f + j → (rootI f l j).length = 32
  | f, [], j, _, _, _, _ => by cases f <;> exact sumB_len _
  | f, [x], j, _, _, _, _ => by cases f <;> exact sumB_len _
  | 0, x :: y :: l, j, h, hl, ha, hf => absurd (agree_lt h hl ha (by simp)) (by omega)
  | f + 1, x :: y :: l, j, h, hl, ha, hf => sumB_len _
end Go.Pm
