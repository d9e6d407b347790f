/- Texts joined: Tree6, ItemA6, NmA, SetCl, Rows6, Pcs7, Kn16, Dir16, LowByt, SgTy, LowBin, EntA, Prf7, Nm7. -/
import Derived.Test.YtdobmebhjmgkmaaPk1
import Derived.Laws.Tables
import Derived.Deep.MidRow
import Derived.BigQuiet
import Derived.Laws.OwnMore
import Derived.Great.BuildSlice
import Derived.Test.YtdobmebhjmgkmaaProg
import Derived.Lib.SlBytesConst
namespace Go.Pm
open Go Go.RowKit

/-! ### The order of bytes -/
theorem less_irrefl : ∀ a : List UInt8, Op.bytesLess a a = false
  | [] => rfl
  | x :: a => by
    unfold Op.bytesLess
    rw [less_irrefl a]
    simp
theorem less_trans : ∀ {a b c : List UInt8}, Op.bytesLess a b = true → Op.bytesLess b c = true → Op.bytesLess a c = true
  | _, [], _, h, _ => by cases ‹List UInt8› <;> simp [Op.bytesLess] at h
  | _, _ :: _, [], _, h => by simp [Op.bytesLess] at h
  | [], _ :: _, _ :: _, _, _ => rfl
  | x :: a, y :: b, z :: c, h1, h2 => by
    unfold Op.bytesLess at h1 h2 ⊢
    simp only [Bool.or_eq_true, Bool.and_eq_true, decide_eq_true_eq, beq_iff_eq] at h1 h2 ⊢
    rcases h1 with h1 | ⟨rfl, h1⟩
    · rcases h2 with h2 | ⟨rfl, h2⟩
      · exact .inl (UInt8.lt_trans h1 h2)
      · exact .inl h1
    · rcases h2 with h2 | ⟨rfl, h2⟩
      · exact .inl h2
      · exact .inr ⟨rfl, less_trans h1 h2⟩
theorem less_total : ∀ a b : List UInt8, Op.bytesLess a b = true ∨ a = b ∨ Op.bytesLess b a = true
  | [], [] => .inr (.inl rfl)
  | [], _ :: _ => .inl rfl
  | _ :: _, [] => .inr (.inr rfl)
  | x :: a, y :: b => by
    unfold Op.bytesLess
    simp only [Bool.or_eq_true, Bool.and_eq_true, decide_eq_true_eq, beq_iff_eq]
    by_cases hxy : x = y
    · subst hxy
      rcases less_total a b with h | h | h
      · exact .inl (.inr ⟨rfl, h⟩)
      · exact .inr (.inl (by rw [h]))
      · exact .inr (.inr (.inr ⟨rfl, h⟩))
    · rcases UInt8.lt_or_lt_of_ne hxy with h | h
      · exact .inl (.inl h)
      · exact .inr (.inr (.inl h))
theorem less_asymm {a b : List UInt8} (h : Op.bytesLess a b = true) : Op.bytesLess b a = false := by
  cases h2 : Op.bytesLess b a with
  | false => rfl
  | true => have := less_trans h h2; rw [less_irrefl] at this; cases this
theorem less_ne {a b : List UInt8} (h : Op.bytesLess a b = true) : a ≠ b := fun e => by subst e; rw [less_irrefl] at h; cases h

/-! ### Items -/
structure It where
  i : List UInt8
  v : List UInt8
  deriving DecidableEq
/-- Strictly rising. -/
def Srt (l : List It) : Prop := l.Pairwise (fun a b => Op.bytesLess a.i b.i = true)
/-- An item, into its place. -/
def insI (x : It) : List It → List It
  | [] => [x]
  | y :: l => if Op.bytesLess y.i x.i then y :: insI x l else if y.i = x.i then x :: l else x :: y :: l
/-- Set, of all items one behind another. -/
def setI (l : List It) : List It := l.foldl (fun out x => insI x out) []
theorem mem_insI {x z : It} : ∀ {l : List It}, Srt l → (z ∈ insI x l ↔ z = x ∨ z ∈ l ∧ z.i ≠ x.i)
  | [], _ => by simp [insI]
  | y :: l, h => by
    obtain ⟨hy, hl⟩ := List.pairwise_cons.1 h
    unfold insI
    split
    · rename_i h1
      rw [List.mem_cons, mem_insI hl, List.mem_cons]
      have hne := less_ne h1
      constructor
      · rintro (rfl | rfl | ⟨h2, h3⟩)
        · exact .inr ⟨.inl rfl, hne⟩
        · exact .inl rfl
        · exact .inr ⟨.inr h2, h3⟩
      · rintro (rfl | ⟨rfl | h2, h3⟩)
        · exact .inr (.inl rfl)
        · exact .inl rfl
        · exact .inr (.inr ⟨h2, h3⟩)
    · rename_i h1
      have out : ∀ w ∈ l, ¬ w.i = x.i ∨ False := fun w hw => by
        left
        intro e
        have h2 := hy w hw
        rcases less_total y.i x.i with h3 | h3 | h3
        · exact h1 h3
        · rw [e, ← h3, less_irrefl] at h2; cases h2
        · rw [e] at h2; exact h1 h2
      split
      · rename_i h2
        rw [List.mem_cons, List.mem_cons]
        constructor
        · rintro (rfl | h3)
          · exact .inl rfl
          · exact .inr ⟨.inr h3, (out z h3).elim id False.elim⟩
        · rintro (rfl | ⟨rfl | h3, h4⟩)
          · exact .inl rfl
          · exact absurd h2 h4
          · exact .inr h3
      · rename_i h2
        rw [List.mem_cons, List.mem_cons]
        constructor
        · rintro (rfl | rfl | h3)
          · exact .inl rfl
          · exact .inr ⟨.inl rfl, h2⟩
          · exact .inr ⟨.inr h3, (out z h3).elim id False.elim⟩
        · rintro (rfl | ⟨h3, _⟩)
          · exact .inl rfl
          · exact .inr h3
theorem srt_insI (x : It) : ∀ {l : List It}, Srt l → Srt (insI x l)
  | [], _ => by simp [insI, Srt]
  | y :: l, h => by
    obtain ⟨hy, hl⟩ := List.pairwise_cons.1 h
    unfold insI
    split
    · rename_i h1
      refine List.pairwise_cons.2 ⟨fun z hz => ?_, srt_insI x hl⟩
      rcases (mem_insI hl).1 hz with rfl | ⟨h2, _⟩
      · exact h1
      · exact hy z h2
    · rename_i h1
      split
      · rename_i h2
        exact List.pairwise_cons.2 ⟨fun z hz => by rw [← h2]; exact hy z hz, hl⟩
      · rename_i h2
        have h3 : Op.bytesLess x.i y.i = true := by
          rcases less_total y.i x.i with h | h | h
          · exact absurd h h1
          · exact absurd h h2
          · exact h
        refine List.pairwise_cons.2 ⟨fun z hz => ?_, h⟩
        rcases List.mem_cons.1 hz with rfl | hz
        · exact h3
        · exact less_trans h3 (hy z hz)
theorem srt_fold (l : List It) : ∀ {o : List It}, Srt o → Srt (l.foldl (fun out x => insI x out) o) := by
  induction l with
  | nil => exact fun h => h
  | cons x l ih => exact fun h => ih (srt_insI x h)
theorem srt_setI (l : List It) : Srt (setI l) := srt_fold l List.Pairwise.nil
/-- The last one of an index. -/
def lastI (l : List It) (i : List UInt8) : Option It := l.reverse.find? (fun x => decide (x.i = i))
theorem lastI_snoc (l : List It) (x : It) (i : List UInt8) : lastI (l ++ [x]) i = if x.i = i then some x else lastI l i := by
  unfold lastI
  rw [List.reverse_append, List.reverse_singleton, List.singleton_append, List.find?_cons]
  by_cases h : x.i = i
  · simp [h]
  · simp [h]
theorem setI_snoc (l : List It) (x : It) : setI (l ++ [x]) = insI x (setI l) := by
  unfold setI
  rw [List.foldl_append]
  rfl
/-- Just the last ones are in it. -/
theorem mem_setI (z : It) (l : List It) : z ∈ setI l ↔ lastI l z.i = some z := by
  suffices h : ∀ r : List It, z ∈ setI r.reverse ↔ lastI r.reverse z.i = some z by
    have := h l.reverse
    rwa [List.reverse_reverse] at this
  intro r
  induction r with
  | nil => simp [setI, lastI]
  | cons x r ih =>
    rw [List.reverse_cons, setI_snoc, mem_insI (srt_setI _), lastI_snoc]
    by_cases h : x.i = z.i
    · rw [if_pos h]
      constructor
      · rintro (rfl | ⟨_, h2⟩)
        · rfl
        · exact absurd h.symm h2
      · intro h2
        exact .inl (Option.some.inj h2).symm
    · rw [if_neg h, ← ih]
      constructor
      · rintro (rfl | ⟨h2, _⟩)
        · exact absurd rfl h
        · exact h2
      · exact fun h2 => .inr ⟨h2, fun e => h e.symm⟩
/-- What rises and has the same items is the same. -/
theorem srt_ext : ∀ {a b : List It}, Srt a → Srt b → (∀ z, z ∈ a ↔ z ∈ b) → a = b
  | [], [], _, _, _ => rfl
  | [], y :: b, _, _, h => by have := (h y).2 (List.mem_cons_self ..); cases this
  | x :: a, [], _, _, h => by have := (h x).1 (List.mem_cons_self ..); cases this
  | x :: a, y :: b, ha, hb, h => by
    obtain ⟨hx, ha'⟩ := List.pairwise_cons.1 ha
    obtain ⟨hy, hb'⟩ := List.pairwise_cons.1 hb
    have hxy : x = y := by
      rcases List.mem_cons.1 ((h x).1 (List.mem_cons_self ..)) with h1 | h1
      · exact h1
      · rcases List.mem_cons.1 ((h y).2 (List.mem_cons_self ..)) with h2 | h2
        · exact h2.symm
        · have h3 := hy x h1
          have h4 := hx y h2
          rw [less_asymm h3] at h4
          cases h4
    subst hxy
    rw [srt_ext ha' hb' fun z => ?_]
    constructor
    · intro hz
      rcases List.mem_cons.1 ((h z).1 (List.mem_cons_of_mem _ hz)) with rfl | h1
      · have h3 := hx z hz; rw [less_irrefl] at h3; cases h3
      · exact h1
    · intro hz
      rcases List.mem_cons.1 ((h z).2 (List.mem_cons_of_mem _ hz)) with rfl | h1
      · have h3 := hy z hz; rw [less_irrefl] at h3; cases h3
      · exact h1
/-- Whatever rises and has just the last ones is the Set. -/
theorem set_is {l s : List It} (h : Srt s) (hm : ∀ z, z ∈ s ↔ lastI l z.i = some z) : s = setI l :=
  srt_ext h (srt_setI l) fun z => (hm z).trans (mem_setI z l).symm
theorem srt_one {l : List It} (h : Srt l) {a b : It} (ha : a ∈ l) (hb : b ∈ l) (hi : a.i = b.i) : a = b := by
  induction l with
  | nil => cases ha
  | cons x l ih =>
    obtain ⟨hx, hl⟩ := List.pairwise_cons.1 h
    rcases List.mem_cons.1 ha with ha1 | ha1 <;> rcases List.mem_cons.1 hb with hb1 | hb1
    · rw [ha1, hb1]
    · have := hx b hb1; rw [← ha1, hi, less_irrefl] at this; cases this
    · have := hx a ha1; rw [← hb1, hi, less_irrefl] at this; cases this
    · exact ih hl ha1 hb1
theorem find_some {l : List It} {i : List UInt8} {z : It} (h : lastI l i = some z) : z ∈ l ∧ z.i = i := by
  unfold lastI at h
  exact ⟨List.mem_reverse.1 (List.mem_of_find?_eq_some h), by simpa using List.find?_some h⟩
/-- Of a rising list each is the last one of its index. -/
theorem last_srt {l : List It} (h : Srt l) (z : It) : lastI l z.i = some z ↔ z ∈ l := by
  constructor
  · exact fun h2 => (find_some h2).1
  · intro hz
    cases hf : lastI l z.i with
    | none =>
      unfold lastI at hf
      have := List.find?_eq_none.1 hf z (List.mem_reverse.2 hz)
      simp at this
    | some y =>
      obtain ⟨h1, h2⟩ := find_some hf
      rw [srt_one h h1 hz h2]
/-- The Set of a rising list is the list. -/
theorem set_srt {l : List It} (h : Srt l) : setI l = l := (set_is h fun z => (last_srt h z).symm).symm

/-- Where no two unlike ones have one index, each is the last one of it. -/
theorem last_one {l : List It} (h : ∀ a ∈ l, ∀ b ∈ l, a.i = b.i → a = b) (z : It) : lastI l z.i = some z ↔ z ∈ l := by
  constructor
  · exact fun h2 => (find_some h2).1
  · intro hz
    cases hf : lastI l z.i with
    | none =>
      unfold lastI at hf
      have := List.find?_eq_none.1 hf z (List.mem_reverse.2 hz)
      simp at this
    | some y =>
      obtain ⟨h1, h2⟩ := find_some hf
      rw [h y h1 z hz h2]
/-- The same items in whatever order, as often as may be: the same Set. -/
theorem set_like {l s : List It} (hs : Srt s) (h : ∀ z, z ∈ l ↔ z ∈ s) : setI l = s :=
  (set_is hs fun z => (h z).symm.trans (last_one (fun _ ha _ hb hi => srt_one hs ((h _).1 ha) ((h _).1 hb) hi) z).symm).symm

/-! ### Bits and roots -/
/-- A hash's bit. -/
def bitI (h : List UInt8) (j : Nat) : Nat := (h.getD (j / 8) 0).toNat / 2 ^ (7 - j % 8) % 2
theorem bitI_two (h : List UInt8) (j : Nat) : bitI h j = 0 ∨ bitI h j = 1 := by unfold bitI; omega
theorem byte_bits {a b : Nat} (ha : a < 256) (hb : b < 256) (h : ∀ k, k < 8 → a / 2 ^ (7 - k) % 2 = b / 2 ^ (7 - k) % 2) : a = b := by
  have h0 := h 0 (by decide)
  have h1 := h 1 (by decide)
  have h2 := h 2 (by decide)
  have h3 := h 3 (by decide)
  have h4 := h 4 (by decide)
  have h5 := h 5 (by decide)
  have h6 := h 6 (by decide)
  have h7 := h 7 (by decide)
  simp only [Nat.sub_zero, show (2 : Nat) ^ 7 = 128 by decide, show (2 : Nat) ^ (7 - 1) = 64 by decide, show (2 : Nat) ^ (7 - 2) = 32 by decide, show (2 : Nat) ^ (7 - 3) = 16 by decide, show (2 : Nat) ^ (7 - 4) = 8 by decide, show (2 : Nat) ^ (7 - 5) = 4 by decide, show (2 : Nat) ^ (7 - 6) = 2 by decide, show (2 : Nat) ^ (7 - 7) = 1 by decide] at h0 h1 h2 h3 h4 h5 h6 h7
  omega
/-- Hashes of like bits are the same. -/
theorem bits_ext {a b : List UInt8} (ha : a.length = 32) (hb : b.length = 32) (h : ∀ j, j < 256 → bitI a j = bitI b j) : a = b := by
  refine List.ext_getElem (by omega) fun n h1 h2 => ?_
  apply UInt8.toNat_inj.1
  refine byte_bits (UInt8.toNat_lt _) (UInt8.toNat_lt _) fun k hk => ?_
  have hb' := h (8 * n + k) (by omega)
  unfold bitI at hb'
  rw [show (8 * n + k) / 8 = n by omega, show (8 * n + k) % 8 = k by omega] at hb'
  simpa [List.getD, List.getElem?_eq_getElem h1, List.getElem?_eq_getElem h2] using hb'
/-- All agree on the bits ahead of a place. -/
def Agree (l : List It) (j : Nat) : Prop := ∀ a ∈ l, ∀ b ∈ l, ∀ k, k < j → bitI a.i k = bitI b.i k
def Len (l : List It) : Prop := ∀ a ∈ l, a.i.length = 32 ∧ a.v.length = 32
/-- Two of them agree on fewer than all bits. -/
theorem agree_lt {l : List It} (h : Srt l) (hl : Len l) {j : Nat} (ha : Agree l j) (h2 : 2 ≤ l.length) : j < 256 := by
  match l, h2 with
  | x :: y :: l, _ =>
    rcases Nat.lt_or_ge j 256 with h3 | h3
    · exact h3
    · exfalso
      have hx : x ∈ x :: y :: l := List.mem_cons_self ..
      have hy : y ∈ x :: y :: l := List.mem_cons_of_mem _ (List.mem_cons_self ..)
      have he := bits_ext (hl x hx).1 (hl y hy).1 fun k hk => ha x hx y hy k (by omega)
      have := (List.pairwise_cons.1 h).1 y (List.mem_cons_self ..)
      rw [he, less_irrefl] at this
      cases this
/-- The half of those whose bit is b. -/
def half (l : List It) (j b : Nat) : List It := l.filter (fun x => bitI x.i j == b)
theorem mem_half {l : List It} {j b : Nat} {x : It} : x ∈ half l j b ↔ x ∈ l ∧ bitI x.i j = b := by unfold half; rw [List.mem_filter, beq_iff_eq]
theorem srt_half {l : List It} (h : Srt l) (j b : Nat) : Srt (half l j b) := List.Pairwise.filter _ h
theorem len_half {l : List It} (h : Len l) (j b : Nat) : Len (half l j b) := fun a ha => h a (mem_half.1 ha).1
theorem agree_half {l : List It} {j : Nat} (h : Agree l j) (b : Nat) : Agree (half l j b) (j + 1) := fun x hx y hy k hk => by
  obtain ⟨h1, h2⟩ := mem_half.1 hx
  obtain ⟨h3, h4⟩ := mem_half.1 hy
  by_cases he : k = j
  · subst he; rw [h2, h4]
  · exact h x h1 y h3 k (by omega)
def leafH (x : It) : List UInt8 := sumB (textB 108 [x.i, x.v])
def nodeH (a b : List UInt8) : List UInt8 := sumB (textB 110 [a, b])
def emptyH : List UInt8 := sumB (textB 122 [])
/-- The root of what rises, from a place on; 'f': so many levels at most. -/
def rootI : Nat → List It → Nat → List UInt8
  | _, [], _ => emptyH
  | _, [x], _ => leafH x
  | 0, _ :: _ :: _, _ => []
  | f + 1, x :: y :: l, j => nodeH (rootI f (half (x :: y :: l) j 0) (j + 1)) (rootI f (half (x :: y :: l) j 1) (j + 1))
/-- Root. -/
def rootOf (l : List It) : List UInt8 := rootI 256 (setI l) 0
/-- More levels than there are bits change nothing. -/
theorem rootI_more : ∀ (f : Nat) {l : List It} {j : Nat}, Srt l → Len l → Agree l j → 256 ≤ f + j → ∀ e, rootI (f + e) l j = rootI f l j
  | f, [], j, _, _, _, _, e => by cases f <;> cases e <;> rfl
  | f, [x], j, _, _, _, _, e => by cases f <;> cases e <;> rfl
  | 0, x :: y :: l, j, h, hl, ha, hf, e => absurd (agree_lt h hl ha (by simp)) (by omega)
  | f + 1, x :: y :: l, j, h, hl, ha, hf, e => by
    rw [show f + 1 + e = (f + e) + 1 by omega]
    show nodeH _ _ = nodeH _ _
    rw [rootI_more f (srt_half h j 0) (len_half hl j 0) (agree_half ha 0) (by omega) e, rootI_more f (srt_half h j 1) (len_half hl j 1) (agree_half ha 1) (by omega) e]
/-- A root of two or more is that of both halves. -/
theorem root_halves {l : List It} (h : Srt l) (h2 : 2 ≤ l.length) : rootOf l = nodeH (rootI 255 (half l 0 0) 1) (rootI 255 (half l 0 1) 1) := by
  unfold rootOf
  rw [set_srt h]
  match l, h2 with
  | x :: y :: l, _ => rfl
theorem rootI_len : ∀ (f : Nat) {l : List It} {j : Nat}, Srt l → Len l → Agree l j → 256 ≤ f + j → (rootI f l j).length = 32
  | f, [], j, _, _, _, _ => by cases f <;> exact sumB_len _
  | f, [x], j, _, _, _, _ => by cases f <;> exact sumB_len _
  | 0, x :: y :: l, j, h, hl, ha, hf => absurd (agree_lt h hl ha (by simp)) (by omega)
  | f + 1, x :: y :: l, j, h, hl, ha, hf => sumB_len _
end Go.Pm
namespace Go.Pm
open Go Go.RowKit

theorem fold_put (off : Nat) : ∀ (l : List Value) (k : Nat) (cs : Array Value), off + k + l.length ≤ cs.size →
    (l.zipIdx k).foldl (fun cs (p : Value × Nat) => cs.setIfInBounds (off + p.2) p.1) cs = (cs.toList.take (off + k) ++ l ++ cs.toList.drop (off + k + l.length)).toArray
  | [], k, cs, h => by simp
  | v :: l, k, cs, h => by
    simp only [List.length_cons] at h
    rw [List.zipIdx_cons, List.foldl_cons, fold_put off l (k + 1) _ (by simp; omega)]
    apply Array.ext'
    simp only [Array.toList_setIfInBounds, List.length_cons]
    have h1 : (cs.toList.set (off + k) v).take (off + (k + 1)) = cs.toList.take (off + k) ++ [v] := by
      rw [show off + (k + 1) = off + k + 1 by omega, List.take_succ_eq_append_getElem (by simp; omega), List.getElem_set_self, List.take_set_of_le (Nat.le_refl _)]
    have h2 : (cs.toList.set (off + k) v).drop (off + (k + 1) + l.length) = cs.toList.drop (off + k + (l.length + 1)) := by
      rw [List.drop_set_of_lt (by omega)]
      congr 1
      omega
    rw [h1, h2]
    simp
theorem fill_cons {place : Nat → Option (Nat × Nat)} {cells : Array Value} {i : Nat} {v : Value} {rest : List (Nat × Value)} {off size : Nat} (h : place i = some (off, size)) (h1 : v.cells.size = size) (h2 : off + v.cells.size ≤ cells.size) :
    Instr.fill place cells ((i, v) :: rest) = Instr.fill place (v.cells.zipIdx.foldl (fun cs (c, j) => cs.setIfInBounds (off + j) c) cells) rest := by
  conv => lhs; unfold Instr.fill
  rw [h]
  simp only
  rw [if_neg]
  simp [h1]
  omega
theorem fill_two (z A B : Array Value) (hz : z.size = 64) (hA : A.size = 32) (hB : B.size = 32) : Instr.fill (fun i => #[(0, 32), (32, 32)][i]?) z [(0, .agg A), (1, .agg B)] = some (A ++ B) := by
  have ha := fold_put 0 A.toList 0 z (by simp; omega)
  have hb := fold_put 32 B.toList 0 (A ++ (z.toList.drop 32).toArray) (by simp; omega)
  have e1 : A.zipIdx.foldl (fun cs (c, j) => cs.setIfInBounds (0 + j) c) z = A ++ (z.toList.drop 32).toArray := by
    rw [← Array.foldl_toList, Array.toList_zipIdx]
    refine ha.trans ?_
    apply Array.ext'
    simp [hA]
  have e2 : B.zipIdx.foldl (fun cs (c, j) => cs.setIfInBounds (32 + j) c) (A ++ (z.toList.drop 32).toArray) = A ++ B := by
    rw [← Array.foldl_toList, Array.toList_zipIdx]
    refine hb.trans ?_
    apply Array.ext'
    have h1 : (A.toList ++ z.toList.drop 32).take 32 = A.toList := List.take_left' (by simpa using hA)
    have h2 : (A.toList ++ z.toList.drop 32).drop 64 = [] := List.drop_eq_nil_of_le (by simp; omega)
    simp [hB, h1, h2]
  rw [fill_cons (v := .agg A) (off := 0) (size := 32) rfl (show (Value.agg A).cells.size = 32 from hA) (by show 0 + A.size ≤ z.size; omega)]
  rw [show (Value.agg A).cells = A from rfl, e1]
  rw [fill_cons (v := .agg B) (off := 32) (size := 32) rfl (show (Value.agg B).cells.size = 32 from hB) (by show 32 + B.size ≤ _; simp; omega)]
  rw [show (Value.agg B).cells = B from rfl, e2]
  rfl
theorem aggOf {P : Program} {t : TypeId} {n : Nat} (h : (P.underlying t).map aggD = some true) (h2 : (P.info? t).map (·.size) = some n) : AggTy P t n := by
  cases hu : P.underlying t with
  | none => rw [hu] at h; cases h
  | some d => rw [hu] at h; exact ⟨⟨d, hu, by simpa using h⟩, h2⟩
theorem run_execOp_build {P : Program} {ρ : Operand → Value} {o : Oper} {w : World} {t : TypeId} {parts : Array (Nat × Operand)} {v : Value} (ho : o.op = .build t parts)
    (h : (Instr.build t (parts.map fun (i, x) => (i, ρ x))).run P w = .ok v w) : (execOp ρ o).run P w = .ok (.value v) w := by
  unfold execOp
  simp only [ho, Sem.run_bind, h, Result.andThen_ok]
  rfl
end Go.Pm
namespace Go.Pm
open Go Go.RowKit
theorem rangeAt_kept {w w' : World} {b o : Nat} {cs : List Value} (h : w.rangeAt b o cs) (hk : Kept None w w') : w'.rangeAt b o cs := fun j v hv => by
  have h1 := h j v hv
  rw [hk.cell (block_lt_of_cell h1) (fun h => h)]
  exact h1
/-- A load, of a known range. -/
theorem exec_load_at {P : Program} {o : Oper} {ev : Operand → Value} {W : World} {ty : TypeId} {x : Operand} {b off : Nat} {cs : List Value} (ho : o.op = .load ty x) (hx : ev x = .pointer (some ⟨b, off, none⟩)) (hc : W.rangeAt b off cs) (hT : AggTy P ty cs.length) : (execOp ev o).run P W = .ok (.value (.agg cs.toArray)) W := by
  obtain ⟨d, hu, hd⟩ := hT.ag
  unfold execOp
  simp only [ho, hx, Instr.loadAt, Instr.sureAddr, Sem.run_bind, Sem.run_pure, Result.andThen_ok, run_loadVar_mid W b off ty cs d hc hu (by cases d <;> first | rfl | exact hd) hT.size]
theorem Calls.nm {P : Program} {f : FuncId} {args : Array Value} {w : World} {K : Ending → World → Prop} (h : ∀ w1, w1 = w → Calls P f args w1 K) : Calls P f args w K := h w rfl
theorem wp_nm {P : Program} {c : Code} {Q : Exit → Act → World → Prop} {a : Act} {w : World} (h : ∀ w1, w1 = w → c.wp P Q a w1) : c.wp P Q a w := h w rfl
theorem wpList_nm {P : Program} {ops : Array Oper} {l : List Oper} {Q : Exit → Act → World → Prop} {a : Act} {w : World} (h : ∀ w1, w1 = w → wpList P ops Q l a w1) : wpList P ops Q l a w := h w rfl
theorem u8v_all' (l : List UInt8) : (l.map u8v).toArray.all (·.oneCell') = true := by
  rw [Array.all_eq_true']
  intro x hx
  exact u8v_one l x (by simpa using hx)
/-- A store to a new block touches nothing that was there. -/
theorem Kept.fresh {w w' : World} {o : Obj} (k : Kept (Just w.heap.size) (w.alloc o) w') : Kept None w w' := ((Kept.refl None w).alloc o).then k (fun i hi h => by have h : i = w.heap.size := h; omega)
/-- A new block, its size alone. -/
theorem Blk.any {w : World} {g n : Nat} {cs : Array Value} {t : TypeId} (h : Blk w g cs t) (hs : cs.size = n) : ∃ z : Array Value, z.size = n ∧ Blk w g z t := ⟨cs, hs, h⟩
/-- Cells in the midst of a row, loaded, guarded or not. -/
theorem wpList_load_wr {P : Program} {ops : Array Oper} {rest : List Oper} {o : Oper} {a : Act} {w : World} {Q : Exit → Act → World → Prop} (hw : Region.wanted o (yielded ops a.tmps) = true) {ty : TypeId} {x : Operand} (ho : o.op = .load ty x)
    {b off : Nat} (hx : a.eval x = .pointer (some ⟨b, off, none⟩)) {cs : List Value} (hc : w.rangeAt b off cs) (hT : AggTy P ty cs.length)
    (h : wpList P ops Q rest (a.put o.dst (.agg cs.toArray)) w) : wpList P ops Q (o :: rest) a w :=
  BigFrame.wpList_want hw fun K hK => by
    unfold Oper.wp
    rw [exec_load_at ho hx hc hT]
    exact hK _ _ h
theorem wpList_load_bw {P : Program} {ops : Array Oper} {rest : List Oper} {o : Oper} {a : Act} {w : World} {Q : Exit → Act → World → Prop} (hw : Region.wanted o (yielded ops a.tmps) = true) {ty : TypeId} {x : Operand} (ho : o.op = .load ty x)
    {g : Nat} (hx : a.eval x = .pointer (some ⟨g, 0, none⟩)) {t : TypeId} {cs : Array Value} (hb : Blk w g cs t) (hT : AggTy P ty cs.size)
    (h : wpList P ops Q rest (a.put o.dst (.agg cs)) w) : wpList P ops Q (o :: rest) a w :=
  BigFrame.wpList_want hw fun K hK => by
    unfold Oper.wp
    rw [exec_load_blk ty x ho hx hb hT]
    exact hK _ _ h
theorem Blk.rg {w : World} {g : Nat} {cs : Array Value} {t : TypeId} (h : Blk w g cs t) : w.rangeAt g 0 cs.toList := fun j c hj => by rw [Nat.zero_add, h.cell]; simpa using hj
/-- It makes a block of so many noughts. -/
abbrev Fct.room (k : Nat) (lo n : Nat) (t : TypeId) (uses : List Nat := []) : Fct := { k := k, uses := uses, pure := fun u => ∃ g, u = .pointer (some ⟨g, 0, none⟩), fact := fun u W => ∃ g z, u = .pointer (some ⟨g, 0, none⟩) ∧ lo ≤ g ∧ z.size = n ∧ Blk W g z t }
theorem Steady.room {l : List Fct} {k : Nat} {us : List Nat} {lo n : Nat} {t : TypeId} (h : Steady l) : Steady (.room k lo n t us :: l) := .cons ⟨_, 0, rfl⟩ (fun _ _ _ hk ⟨g, z, h1, h2, h3, h4⟩ => ⟨g, z, h1, h2, h3, h4.kept hk (fun h => h)⟩) h
end Go.Pm
namespace Go.Pm
open Go Go.RowKit
theorem kept_setCells {S : Nat → Prop} {a : World} {b : Nat} (hb : b < a.heap.size → S b) : ∀ (cs : List Value) (o : Nat) (w : World), Kept S a w → Kept S a (w.setCells b o cs)
  | [], _, _, h => h
  | c :: cs, o, _w, h => kept_setCells hb cs (o + 1) _ (h.setCell (p := ⟨b, o, none⟩) hb c)
theorem Blk.setCells {g : Nat} {t : TypeId} : ∀ (cs : List Value) (o : Nat) (w : World) (cur : Array Value), Blk w g cur t → o + cs.length ≤ cur.size →
    Blk (w.setCells g o cs) g (cur.toList.take o ++ cs ++ cur.toList.drop (o + cs.length)).toArray t
  | [], o, w, cur, h, _ => by simpa [World.setCells] using h
  | c :: cs, o, w, cur, h, hl => by
    simp only [List.length_cons] at hl
    have h1 := Blk.setCells cs (o + 1) (w.setCell ⟨g, o, none⟩ c) (cur.setIfInBounds o c) (h.set o c) (by simp; omega)
    rw [World.setCells]
    have e : (cur.setIfInBounds o c).toList.take (o + 1) ++ cs ++ (cur.setIfInBounds o c).toList.drop (o + 1 + cs.length) = cur.toList.take o ++ c :: cs ++ cur.toList.drop (o + (cs.length + 1)) := by
      rw [Array.toList_setIfInBounds, List.take_succ_eq_append_getElem (by simp; omega), List.getElem_set_self, List.take_set_of_le (Nat.le_refl _), List.drop_set_of_lt (by omega)]
      simp [Nat.add_assoc, Nat.add_comm 1 cs.length]
    rw [e] at h1
    simpa using h1
/-- A struct, stored into the midst of a block. -/
theorem wpList_store_agg {P : Program} {ops : Array Oper} {rest : List Oper} {o : Oper} {a : Act} {w : World} {Q : Exit → Act → World → Prop} (hgd : o.guard = none) (ty : TypeId) (x y : Operand) (ho : o.op = .store ty x y)
    {g off : Nat} {cur xs : List Value} {t : TypeId} (hx : a.eval x = .pointer (some ⟨g, off, none⟩)) (hy : a.eval y = .agg xs.toArray) (hb : Blk w g cur.toArray t) (hT : (P.info? ty).map (·.size) = some xs.length) (h1 : xs.toArray.all (·.oneCell') = true)
    (hoff : off + xs.length ≤ cur.length)
    (hk : ∀ w', Blk w' g (cur.take off ++ xs ++ cur.drop (off + xs.length)).toArray t → Kept (Just g) w w' → wpList P ops Q rest (a.put o.dst undef) w') : wpList P ops Q (o :: rest) a w := by
  refine wpList_store_mid hgd ty x y ho g off xs.toArray hx hy (fun j hj => ?_) (by simpa using hT) h1 ?_
  · simp only [List.size_toArray] at hj
    refine ⟨?_, hb.free _⟩
    rw [hb.cell]
    simp [show off + j < cur.length by omega]
  · refine hk _ ?_ (kept_setCells (S := Just g) (fun _ => rfl) _ _ _ (Kept.refl _ _))
    have hs := Blk.setCells xs off w cur.toArray hb (by simpa using hoff)
    simpa using hs
/-- A region of which the head is walked by what is said upfront. -/
theorem wp_region_kn_tail {P : Program} {id : Nat} {Q : Exit → Act → World → Prop} {a : Act} {w : World} {ops : List Oper} (n : Nat) (w0 : World) (l : List Fct) (hs : Steady l) (hk : Kept None w0 w) (hm : P.follows .mixedOrders = true) (hB : Region.lexTailB .any ops.toArray n = true) (hok : (planOf (Kept None w0) l).ok .any ops.toArray = true)
    (h : wpPar P (planOf (Kept None w0) l) ops.toArray (fun a' w' => wpList P ops.toArray Q (ops.drop n) a' w') 0 (ops.take n) a (starts (planOf (Kept None w0) l) [])) : (Code.region id ops.toArray true).wp P Q a w :=
  wp_region_plan_tail n (Kept None w0) l [] hm hB hok rfl hs.pure hk.drew (fun j hj => by cases hj) h
end Go.Pm
namespace Go.Pm
open Go Go.RowKit

/-- The slice value v holds n pieces of k cells, which read as the cells xs; they lie in blocks from lo on, below hi. -/
def Fs (k : Nat) (w : World) (lo hi : Nat) (v : Value) (n : Nat) (xs : List Value) : Prop :=
  xs.length = n * k ∧ ∃ a cap, v = .slice a n cap ∧ n ≤ cap ∧ cap ≤ maxLen ∧ (a = none → cap = 0) ∧ ∀ ad, a = some ad → ∀ i x, xs[i]? = some x → lo ≤ ad.block ∧ ad.block < hi ∧ w.cell? (ad.add i) = some x
theorem Fs.kept {k : Nat} {S : Nat → Prop} {w w' : World} {lo hi : Nat} {v : Value} {n : Nat} {xs : List Value} (h : Fs k w lo hi v n xs) (hk : Kept S w w') (hs : ∀ k, lo ≤ k → k < hi → ¬ S k) : Fs k w' lo hi v n xs := by
  obtain ⟨h0, a, cap, hv, h1, h2, h3, h4⟩ := h
  refine ⟨h0, a, cap, hv, h1, h2, h3, fun ad had i x hx => ?_⟩
  obtain ⟨q1, q2, q3⟩ := h4 ad had i x hx
  refine ⟨q1, q2, ?_⟩
  rw [hk.cell (block_lt_of_cell q3) (by rw [add_block]; exact hs _ q1 q2)]
  exact q3
theorem Fs.wider {k : Nat} {w : World} {lo hi lo' hi' : Nat} {v : Value} {n : Nat} {xs : List Value} (h : Fs k w lo hi v n xs) (h1 : lo' ≤ lo) (h2 : hi ≤ hi') : Fs k w lo' hi' v n xs := by
  obtain ⟨h0, a, cap, hv, g1, g2, g3, g4⟩ := h
  exact ⟨h0, a, cap, hv, g1, g2, g3, fun ad had i x hx => ⟨Nat.le_trans h1 (g4 ad had i x hx).1, Nat.lt_of_lt_of_le (g4 ad had i x hx).2.1 h2, (g4 ad had i x hx).2.2⟩⟩
theorem Fs.nil (k : Nat) (w : World) (lo hi : Nat) : Fs k w lo hi (.slice none 0 0) 0 [] := ⟨by simp, none, 0, rfl, Nat.le_refl _, Nat.zero_le _, fun _ => rfl, fun ad h => by cases h⟩
theorem Fs.lt {k : Nat} {w : World} {lo hi : Nat} {v : Value} {n : Nat} {xs : List Value} (h : Fs k w lo hi v n xs) : Fs k w lo (min hi w.heap.size) v n xs := by
  obtain ⟨h0, a, cap, hv, g1, g2, g3, g4⟩ := h
  refine ⟨h0, a, cap, hv, g1, g2, g3, fun ad had i x hx => ?_⟩
  obtain ⟨q1, q2, q3⟩ := g4 ad had i x hx
  have := block_lt_of_cell q3
  rw [add_block] at this
  exact ⟨q1, by omega, q3⟩
/-- A row that the call owns. -/
theorem Fs.ofRow {k : Nat} {w : World} {base : Nat} {e : TypeId} {v : Value} {n : Nat} {xs : List Value} (h : w.ownsRow base e k v n xs) {hi : Nat} (hh : w.heap.size ≤ hi) : Fs k w base hi v n xs := by
  obtain ⟨h1, h2⟩ := h
  rcases h2 with ⟨rfl, rfl⟩ | ⟨g, cap, cur, rfl, hb, hg, hnc, hcm, hcs, ht⟩
  · have : xs = [] := List.eq_nil_of_length_eq_zero (by simpa using h1)
    subst this
    exact Fs.nil k w _ _
  · refine ⟨h1, some ⟨g, 0, none⟩, cap, rfl, hnc, hcm, (fun h => by cases h), ?_⟩
    intro ad had i x hx
    simp at had
    subst had
    have hlt := lt_of_block hg
    refine ⟨hb, by show g < hi; omega, ?_⟩
    rw [Addr.add_lit, Nat.zero_add, cell_of_row w g i cur e (0, 0) hg]
    rw [← ht, List.getElem?_take] at hx
    split at hx
    · simpa using hx
    · cases hx
/-- What an append at pieces of k cells wants of the program. -/
structure RowTyK (P : Program) (t e : TypeId) (z : Value) (k bytes : Nat) : Prop where
  sl : P.underlying t = some (.slice e)
  info : ∃ i, P.info? e = some i ∧ i.zero = some z ∧ i.size = k ∧ i.bytes = bytes
  cells : z.cells.size = k
  pos : 0 < k
theorem run_append_fs {P : Program} {w : World} {t ty e : TypeId} {z : Value} {k bytes : Nat} (hT : RowTyK P t e z k bytes) {base : Nat} {v : Value} {n : Nat} {xs : List Value} (hown : w.ownsRow base e k v n xs)
    {lo hi : Nat} {u : Value} {m : Nat} {news : List Value} (hu : Fs k w lo hi u m news) (h1 : ∀ x ∈ news, x.oneCell' = true) (h63 : n + m ≤ maxLen) (hbytes : (n + m) * bytes ≤ 140737488355328) (hbase : base ≤ w.heap.size) :
    ∃ v' w', (Builtin.append_ #[t, t] ty #[v, u]).run P w = .ok v' w' ∧ w'.ownsRow base e k v' (n + m) (xs ++ news) ∧ w.grownBy w' v.ownBlock := by
  obtain ⟨i, hi, hz, hs, hb⟩ := hT.info
  obtain ⟨h0, a, cap, rfl, g1, g2, g3, g4⟩ := hu
  cases a with
  | none =>
    have hc := g3 rfl
    subst hc
    obtain rfl : m = 0 := by omega
    have hn : news = [] := List.eq_nil_of_length_eq_zero (by simpa using h0)
    subst hn
    exact ⟨v, w, run_append_owned_none (w := w) base t ty e i k hT.sl hi v n xs hown, by simpa using hown, World.grownBy.refl _ _⟩
  | some ad =>
    obtain ⟨v', w', r1, r2, r3, _⟩ := run_append_own (P := P) w base t ty e i z k bytes hT.sl hi hz hs hb hT.cells hT.pos v n xs hown ad m cap news h0 (fun j u hj => (g4 ad rfl j u hj).2.2) h1 h63 hbytes hbase
    exact ⟨v', w', r1, r2, r3⟩
/-- An append, where the row lies afterwards: in its old block, or in a new one. -/
theorem append_blockK {P : Program} {w w' : World} {t ty e : TypeId} {z : Value} {k bytes : Nat} (hT : RowTyK P t e z k bytes) {base : Nat} {v v' : Value} {n : Nat} {xs : List Value} (hown : w.ownsRow base e k v n xs)
    {lo hi : Nat} {u : Value} {m : Nat} {news : List Value} (hu : Fs k w lo hi u m news) (h1 : ∀ x ∈ news, x.oneCell' = true) (h63 : n + m ≤ maxLen) (hbytes : (n + m) * bytes ≤ 140737488355328)
    (hr : (Builtin.append_ #[t, t] ty #[v, u]).run P w = .ok v' w') : v'.ownBlock = v.ownBlock ∨ v'.ownBlock = some w.heap.size := by
  obtain ⟨i, hi, hz, hs, hb⟩ := hT.info
  obtain ⟨h0, a, cap, rfl, g1, g2, g3, g4⟩ := hu
  cases a with
  | none =>
    have hc := g3 rfl
    subst hc
    obtain rfl : m = 0 := by omega
    rw [run_append_owned_none (w := w) base t ty e i k hT.sl hi v n xs hown] at hr
    simp only [Result.ok.injEq] at hr
    rw [← hr.1]
    exact .inl rfl
  | some ad =>
    have hnews : ∀ j u, news[j]? = some u → w.cell? (ad.add j) = some u := fun j u hj => (g4 ad rfl j u hj).2.2
    have hlen : n + m ≤ 9223372036854775807 := by unfold maxLen at h63; omega
    subst hs
    rcases hown.2 with ⟨rfl, rfl⟩ | ⟨g, cap', cur, rfl, hbg, hg, hnc, hcm, hcs, htake⟩
    · by_cases hm : m = 0
      · subst hm
        simp [Builtin.append_, run_underlying hT.sl, sizeOf, typeInfo, hi, Builtin.lenOf, Builtin.firstCells, loadCells, loadCellsFrom] at hr
        rw [← hr.1]
        exact .inl rfl
      · have h2 := run_append_nil (P := P) w t ty e i z hT.sl hi hz ad m cap news h0 hnews (by omega) (by omega) (by rw [hb]; have hb' := hbytes; simp only [Nat.zero_add] at hb'; omega)
        rw [h2] at hr
        simp only [Result.ok.injEq] at hr
        rw [← hr.1]
        exact .inr rfl
    · by_cases hroom : n + m ≤ cap'
      · have h2 := run_append_room (P := P) w t ty e i hT.sl hi g n cap' cur hg ad m cap news h0 hnews h1 hroom (by rw [h0, hcs, ← Nat.add_mul]; exact Nat.mul_le_mul_right _ hroom)
        rw [h2] at hr
        simp only [Result.ok.injEq] at hr
        rw [← hr.1]
        exact .inl rfl
      · have holds : ∀ j u, xs[j]? = some u → w.cell? ((⟨g, 0, none⟩ : Addr).add j) = some u := hown.cells (g := g) rfl
        have h2 := run_append_grow (P := P) w t ty e i z hT.sl hi hz ⟨g, 0, none⟩ n cap' xs hown.1 holds ad m cap news h0 hnews (by omega) (by omega) (by rw [hb]; exact growslice_fits (by omega) hbytes)
        rw [h2] at hr
        simp only [Result.ok.injEq] at hr
        rw [← hr.1]
        exact .inr rfl

/-! ### Items -/
def itC (x : It) : List Value := x.i.map u8v ++ x.v.map u8v
def Full (l : List It) : Prop := ∀ x ∈ l, x.i.length = 32 ∧ x.v.length = 32
def itsC (l : List It) : List Value := l.flatMap itC
theorem itC_len {x : It} (h : x.i.length = 32 ∧ x.v.length = 32) : (itC x).length = 64 := by simp [itC, h.1, h.2]
theorem itsC_len : ∀ {l : List It}, Full l → (itsC l).length = l.length * 64
  | [], _ => by simp [itsC]
  | x :: l, h => by
    have h1 := itC_len (h x (List.mem_cons_self ..))
    have h2 := itsC_len (l := l) (fun y hy => h y (List.mem_cons_of_mem _ hy))
    unfold itsC at h2 ⊢
    simp only [List.flatMap_cons, List.length_append, List.length_cons, h1, h2]
    omega
theorem itsC_get : ∀ {l : List It}, Full l → ∀ {i : Nat} {x : It}, l[i]? = some x → ∀ {j : Nat} {c : Value}, (itC x)[j]? = some c → (itsC l)[i * 64 + j]? = some c
  | [], _, i, x, h, _, _, _ => by simp at h
  | y :: l, h, 0, x, hx, j, c, hc => by
    obtain rfl : y = x := by simpa using hx
    have hj : j < (itC y).length := (List.getElem?_eq_some_iff.1 hc).1
    unfold itsC
    rw [List.flatMap_cons, List.getElem?_append_left (by omega)]
    simpa using hc
  | y :: l, h, i + 1, x, hx, j, c, hc => by
    have h1 := itC_len (h y (List.mem_cons_self ..))
    have h2 := itsC_get (l := l) (fun z hz => h z (List.mem_cons_of_mem _ hz)) (i := i) (x := x) (by simpa using hx) hc
    unfold itsC at h2 ⊢
    rw [List.flatMap_cons, List.getElem?_append_right (by omega), h1, show (i + 1) * 64 + j - 64 = i * 64 + j by omega]
    exact h2
theorem itsC_append (a b : List It) : itsC (a ++ b) = itsC a ++ itsC b := by simp [itsC]
theorem itsC_one (l : List It) : ∀ x ∈ itsC l, x.oneCell' = true := by
  intro x hx
  unfold itsC at hx
  obtain ⟨y, _, hy⟩ := List.mem_flatMap.1 hx
  unfold itC at hy
  rcases List.mem_append.1 hy with h | h
  · exact u8v_one _ x h
  · exact u8v_one _ x h
/-- The []api.Item v reads as the items l. -/
def Its (w : World) (lo hi : Nat) (v : Value) (l : List It) : Prop := Full l ∧ Fs 64 w lo hi v l.length (itsC l)
/-- .. that the call owns. -/
def Ito (e : TypeId) (w : World) (base : Nat) (v : Value) (l : List It) : Prop := Full l ∧ w.ownsRow base e 64 v l.length (itsC l)
theorem Its.kept {S : Nat → Prop} {w w' : World} {lo hi : Nat} {v : Value} {l : List It} (h : Its w lo hi v l) (hk : Kept S w w') (hs : ∀ k, lo ≤ k → k < hi → ¬ S k) : Its w' lo hi v l := ⟨h.1, h.2.kept hk hs⟩
theorem Its.wider {w : World} {lo hi lo' hi' : Nat} {v : Value} {l : List It} (h : Its w lo hi v l) (h1 : lo' ≤ lo) (h2 : hi ≤ hi') : Its w lo' hi' v l := ⟨h.1, h.2.wider h1 h2⟩
theorem Its.nil (w : World) (lo hi : Nat) : Its w lo hi (.slice none 0 0) [] := ⟨fun _ h => by simp at h, Fs.nil ..⟩
theorem Ito.nil (e : TypeId) (w : World) (base : Nat) : Ito e w base (.slice none 0 0) [] := ⟨fun _ h => by simp at h, World.ownsRow_nil w base e 64⟩
theorem Ito.its {e : TypeId} {w : World} {base : Nat} {v : Value} {l : List It} (h : Ito e w base v l) {hi : Nat} (hh : w.heap.size ≤ hi) : Its w base hi v l := ⟨h.1, Fs.ofRow h.2 hh⟩
theorem Its.form {w : World} {lo hi : Nat} {v : Value} {l : List It} (h : Its w lo hi v l) : ∃ a cap, v = .slice a l.length cap ∧ l.length ≤ cap ∧ cap ≤ maxLen ∧ (a = none → cap = 0) := by
  obtain ⟨_, _, a, cap, hv, h1, h2, h3, _⟩ := h
  exact ⟨a, cap, hv, h1, h2, h3⟩
/-- The cells of one of them. -/
theorem Its.cells {w : World} {lo hi : Nat} {ad : Addr} {n cap : Nat} {l : List It} (h : Its w lo hi (.slice (some ad) n cap) l) {i : Nat} {x : It} (hx : l[i]? = some x) {j : Nat} {c : Value} (hc : (itC x)[j]? = some c) :
    lo ≤ ad.block ∧ ad.block < hi ∧ w.cell? (ad.add (i * 64 + j)) = some c := by
  obtain ⟨hf, _, a, cap', hv, _, _, _, h4⟩ := h
  cases hv
  exact h4 ad rfl _ c (itsC_get hf hx hc)
/-- One of them, loaded. -/
theorem Its.load {P : Program} {ty : TypeId} {w : World} {lo hi : Nat} {ad : Addr} {n cap : Nat} {l : List It} (h : Its w lo hi (.slice (some ad) n cap) l) (hT : AggTy P ty 64) {i : Nat} {x : It} (hx : l[i]? = some x) :
    (Instr.loadAt ty (.pointer (some (ad.add (i * 64))))).run P w = .ok (.agg (itC x).toArray) w := by
  have h64 : (itC x).length = 64 := itC_len (h.1 x (List.mem_of_getElem? hx))
  have hl := run_loadCells_list (P := P) w (ad.add (i * 64)) (itC x) (fun j v hv => by rw [add_add']; exact (h.cells hx hv).2.2)
  obtain ⟨d, hu, hd⟩ := hT.ag
  have hi := hT.size
  cases hq : P.info? ty with
  | none => simp [hq] at hi
  | some inf =>
    have hs : inf.size = (itC x).length := by rw [hq] at hi; simpa [h64] using hi
    have hagg : (isAgg ty).run P w = .ok true w := by
      unfold isAgg
      rw [Sem.run_bind, run_underlying hu w]
      cases d <;> simp_all [aggD]
    simp [Instr.loadAt, Instr.sureAddr, loadVar, Sem.run_bind, hagg, sizeOf, typeInfo, hq, hs, hl]
/-! ### Items of the call's own -/
theorem Ito.form {e : TypeId} {w : World} {base : Nat} {v : Value} {l : List It} (h : Ito e w base v l) : ∃ a cap, v = .slice a l.length cap := by
  rcases h.2.2 with ⟨rfl, h0⟩ | ⟨g, cap, cur, rfl, _⟩
  · exact ⟨none, 0, by rw [h0]⟩
  · exact ⟨_, _, rfl⟩
theorem Ito.kept {e : TypeId} {w w' : World} {base : Nat} {v : Value} {l : List It} {S : Nat → Prop} (h : Ito e w base v l) (hk : Kept S w w') (hs : ∀ k, v.ownBlock = some k → ¬ S k) : Ito e w' base v l := by
  refine ⟨h.1, h.2.1, ?_⟩
  rcases h.2.2 with h2 | ⟨g, cap, cur, hv, hb, hg, r⟩
  · exact .inl h2
  · refine .inr ⟨g, cap, cur, hv, hb, ?_, r⟩
    rw [hk.block g (lt_of_block hg) (hs g (by rw [hv]; rfl))]
    exact hg
theorem Ito.base {e : TypeId} {w : World} {base base' : Nat} {v : Value} {l : List It} (h : Ito e w base v l) (hb : base' ≤ base) : Ito e w base' v l := by
  refine ⟨h.1, h.2.1, ?_⟩
  rcases h.2.2 with h2 | ⟨g, cap, cur, hv, hg, r⟩
  · exact .inl h2
  · exact .inr ⟨g, cap, cur, hv, Nat.le_trans hb hg, r⟩
theorem Ito.own {e : TypeId} {w : World} {base : Nat} {v : Value} {l : List It} (h : Ito e w base v l) : ∀ k, v.ownBlock = some k → base ≤ k ∧ k < w.heap.size := World.ownsRow.lt h.2
theorem Ito.alloc {e : TypeId} {w : World} {base : Nat} {v : Value} {l : List It} (h : Ito e w base v l) (o : Obj) : Ito e (w.alloc o) base v l := ⟨h.1, World.ownsRow.alloc h.2 o⟩
/-- An append of items to items of the call's own. -/
theorem run_append_ito {P : Program} {w : World} {t ty e : TypeId} {z : Value} (hT : RowTyK P t e z 64 64) {base : Nat} {v : Value} {l : List It} (hown : Ito e w base v l) {lo hi : Nat} {u : Value} {m : List It} (hu : Its w lo hi u m)
    (h63 : l.length + m.length ≤ 1099511627776) (hbase : base ≤ w.heap.size) :
    ∃ a' n' c' w', (Builtin.append_ #[t, t] ty #[v, u]).run P w = .ok (.slice a' n' c') w' ∧ Ito e w' base (.slice a' n' c') (l ++ m) ∧ Kept (Of v) w w' ∧ (∀ k, (Value.slice a' n' c').ownBlock = some k → v.ownBlock = some k ∨ k = w.heap.size) := by
  obtain ⟨v', w', hr, r2, r3⟩ := run_append_fs (w := w) (ty := ty) hT hown.2 hu.2 (itsC_one m) (by unfold maxLen; omega) (by omega) hbase
  have hblk := append_blockK hT hown.2 hu.2 (itsC_one m) (by unfold maxLen; omega) (by omega) hr
  have hb : Ito e w' base v' (l ++ m) := ⟨fun x hx => (List.mem_append.1 hx).elim (hown.1 x) (hu.1 x), by rw [List.length_append, itsC_append]; exact r2⟩
  obtain ⟨a', cap', rfl⟩ := hb.form
  refine ⟨_, _, _, w', hr, hb, Kept.ofGrown r3, fun k hk => ?_⟩
  rcases hblk with h | h
  · left; rw [← h]; exact hk
  · right; rw [h] at hk; exact (Option.some.inj hk).symm
/-- A new row of one item ('append(a, x)'). -/
theorem Its.one (w : World) (t : TypeId) (x : It) (h : x.i.length = 32 ∧ x.v.length = 32) : Its (w.alloc (.cells (itC x).toArray t)) w.heap.size (w.heap.size + 1) (.slice (some ⟨w.heap.size, 0, none⟩) 1 1) [x] := by
  refine ⟨by simpa [Full] using h, by simp [itsC, itC_len h], some ⟨w.heap.size, 0, none⟩, 1, rfl, Nat.le_refl _, by unfold maxLen; omega, (fun h => by cases h), ?_⟩
  intro ad had i c hc
  simp only [Option.some.injEq] at had
  subst had
  refine ⟨Nat.le_refl _, by simp, ?_⟩
  rw [Addr.add_lit, Nat.zero_add, World.cell?_alloc_new]
  simpa [itsC] using hc
/-- Where they lie. -/
theorem Its.ne {w : World} {lo hi : Nat} {a : Option Addr} {n cap : Nat} {l : List It} (h : Its w lo hi (.slice a n cap) l) (hn : 0 < l.length) :
    ∃ b o, a = some ⟨b, o, none⟩ ∧ lo ≤ b ∧ b < hi ∧ b < w.heap.size ∧ ∀ (i : Nat) (x : It), l[i]? = some x → w.rangeAt b (o + i * 64) (itC x) := by
  obtain ⟨hf, hl, a', cap', hv, g1, g2, g3, g4⟩ := h
  injection hv with e1 e2 e3
  subst e1 e2 e3
  cases a with
  | none => have := g3 rfl; omega
  | some ad =>
    obtain ⟨b, o, sp⟩ := ad
    have h0 := g4 _ rfl 0 _ (List.getElem?_eq_getElem (by omega))
    have hsp : sp = none := by
      have h2 := h0.2.2
      simp only [Addr.add_zero'] at h2
      unfold World.cell? at h2
      split at h2
      · cases sp with
        | none => rfl
        | some s => simp at h2
      · cases h2
    subst hsp
    refine ⟨b, o, rfl, h0.1, h0.2.1, by simpa [add_block] using block_lt_of_cell h0.2.2, fun i x hx j c hc => ?_⟩
    have h1 := (g4 _ rfl _ c (itsC_get hf hx hc)).2.2
    rw [Addr.add_mid] at h1
    rw [Nat.add_assoc]
    exact h1
theorem rangeAt_take {w : World} {b o : Nat} {cs : List Value} (h : w.rangeAt b o cs) (n : Nat) : w.rangeAt b o (cs.take n) := fun j v hv => h j v (by
  rw [List.getElem?_take] at hv
  split at hv
  · exact hv
  · cases hv)
/-- An append of items, for the walk. -/
theorem wpList_append_ito {P : Program} {ops : Array Oper} {rest : List Oper} {o : Oper} {a : Act} {w : World} {Q : Exit → Act → World → Prop} (hgd : o.guard = none) (s x : Operand) (t : TypeId)
    (ho : o.op = .call { callee := .builtin .append, args := #[s, x], argTypes := #[t, t] }) {e : TypeId} {z : Value} (hT : RowTyK P t e z 64 64)
    {v : Value} (hs : a.eval s = v) {u : Value} (hx : a.eval x = u) {base : Nat} {l : List It} (hown : Ito e w base v l) {lo hi : Nat} {m : List It} (hu : Its w lo hi u m)
    (h63 : l.length + m.length ≤ 1099511627776) (hbase : base ≤ w.heap.size)
    (h : ∀ a' n' cap' w', Ito e w' base (.slice a' n' cap') (l ++ m) → Kept (Of v) w w' → (∀ k, (Value.slice a' n' cap').ownBlock = some k → v.ownBlock = some k ∨ k = w.heap.size) → wpList P ops Q rest (a.put o.dst (.slice a' n' cap')) w') : wpList P ops Q (o :: rest) a w := by
  refine wpList_plain hgd fun K hK' => ?_
  obtain ⟨a', n', c', w', hr, r2, r3, r4⟩ := run_append_ito (w := w) (ty := o.type) hT hown hu h63 hbase
  unfold Oper.wp
  simp only [execOp, ho, resolve, invoke, builtin, Sem.run_bind, Sem.run_pure, Result.andThen_ok, List.map_toArray, List.map_cons, List.map_nil, hs, hx, hr]
  exact hK' _ _ (h a' n' c' w' r2 r3 r4)
/-- Cells in the midst of a row, loaded. -/
theorem wpList_load_at {P : Program} {ops : Array Oper} {rest : List Oper} {op : Oper} {a : Act} {w : World} {Q : Exit → Act → World → Prop} (hgd : op.guard = none) (ty : TypeId) (x : Operand) (ho : op.op = .load ty x)
    {b o : Nat} (hx : a.eval x = .pointer (some ⟨b, o, none⟩)) {cs : List Value} (hc : w.rangeAt b o cs) (hT : AggTy P ty cs.length)
    (h : wpList P ops Q rest (a.put op.dst (.agg cs.toArray)) w) : wpList P ops Q (op :: rest) a w := by
  obtain ⟨d, hu, hd⟩ := hT.ag
  exact wpList_load_mid hgd ty x ho b o hx cs d hc hu (by cases d <;> first | rfl | exact hd) hT.size h
theorem fill_one (k : Nat) (z A : Array Value) (hz : z.size = k) (hA : A.size = k) : Instr.fill (fun i => some (i * k, k)) z [(0, .agg A)] = some A := by
  have ha := fold_put 0 A.toList 0 z (by simp; omega)
  have e1 : A.zipIdx.foldl (fun cs (c, j) => cs.setIfInBounds (0 + j) c) z = A := by
    rw [← Array.foldl_toList, Array.toList_zipIdx]
    refine ha.trans ?_
    apply Array.ext'
    simp [hA, hz]
  rw [fill_cons (v := .agg A) (off := 0) (size := k) (by simp) (show (Value.agg A).cells.size = k from hA) (by show 0 + A.size ≤ z.size; omega)]
  rw [show (Value.agg A).cells = A from rfl, e1]
  rfl
/-- A new row of one item, for the walk. -/
theorem wpList_one_item {P : Program} {ops : Array Oper} {rest : List Oper} {o : Oper} {a : Act} {w : World} {Q : Exit → Act → World → Prop} (hg : o.guard = none) (t : TypeId) (y : Operand) (ho : o.op = .buildSlice t 1 #[(0, y)])
    {e : TypeId} {z : Value} {k bytes : Nat} (hT : RowTyK P t e z k bytes) (hk : k ≤ 16777216) {A : Array Value} (hy : a.eval y = .agg A) (hA : A.size = k)
    (h : wpList P ops Q rest (a.put o.dst (.slice (some ⟨w.heap.size, 0, none⟩) 1 1)) (w.alloc (.cells A e))) : wpList P ops Q (o :: rest) a w := by
  obtain ⟨i, hi, hz, hs, hb⟩ := hT.info
  have hp := hT.pos
  refine wpList_buildSlice hg t e 1 #[(0, y)] ho A i z hT.sl hi hz (by omega) (by omega) ?_ h
  rw [hs, show ((#[(0, y)] : Array (Nat × Operand)).map fun (i, x) => (i, a.eval x)).toList = [(0, .agg A)] by simp [hy]]
  exact fill_one k _ A (by simp) hA
/-! ### One of them, stored over -/
theorem itsC_set : ∀ {l : List It}, Full l → ∀ {k : Nat} (x : It), k < l.length → x.i.length = 32 ∧ x.v.length = 32 → itsC (l.set k x) = (itsC l).take (k * 64) ++ itC x ++ (itsC l).drop (k * 64 + 64)
  | [], _, k, x, hk, _ => by simp at hk
  | y :: l, h, 0, x, _, hx => by
    have h1 := itC_len (h y (List.mem_cons_self ..))
    simp [itsC, List.drop_left' h1]
  | y :: l, h, k + 1, x, hk, hx => by
    have h1 := itC_len (h y (List.mem_cons_self ..))
    have h2 := itsC_set (l := l) (fun z hz => h z (List.mem_cons_of_mem _ hz)) (k := k) x (by simpa using hk) hx
    have t1 : (itC y).take ((k + 1) * 64) = itC y := List.take_of_length_le (by omega)
    have d1 : (itC y).drop ((k + 1) * 64 + 64) = [] := List.drop_of_length_le (by omega)
    unfold itsC at h2 ⊢
    rw [List.set_cons_succ, List.flatMap_cons, h2, List.flatMap_cons, List.take_append, List.drop_append, t1, d1, h1,
      show (k + 1) * 64 - 64 = k * 64 by omega, show (k + 1) * 64 + 64 - 64 = k * 64 + 64 by omega]
    simp
/-- One of the call's own items, stored over, for the walk. -/
theorem wpList_store_item {P : Program} {ops : Array Oper} {rest : List Oper} {op : Oper} {a : Act} {w : World} {Q : Exit → Act → World → Prop} (hgd : op.guard = none) (ty : TypeId) (x y : Operand) (ho : op.op = .store ty x y)
    {e : TypeId} {base g n cap : Nat} {l : List It} (hown : Ito e w base (.slice (some ⟨g, 0, none⟩) n cap) l) {k : Nat} (hk : k < l.length) {v : It} (hv : v.i.length = 32 ∧ v.v.length = 32)
    (hx : a.eval x = .pointer (some ⟨g, k * 64, none⟩)) (hy : a.eval y = .agg (itC v).toArray) (hT : AggTy P ty 64)
    (h : ∀ w', Ito e w' base (.slice (some ⟨g, 0, none⟩) n cap) (l.set k v) → Kept (Just g) w w' → wpList P ops Q rest (a.put op.dst undef) w') : wpList P ops Q (op :: rest) a w := by
  have h64 := itC_len hv
  obtain ⟨hf, hlen, h2⟩ := hown
  rcases h2 with ⟨h3, _⟩ | ⟨g', cap', cur, hvv, hb, hg, hnc, hcm, hcs, htake⟩
  · cases h3
  injection hvv with e1 e2 e3
  obtain rfl : g = g' := by simpa using e1
  subst e2 e3
  have hblk : Blk w g cur e := hg
  have hL := itsC_len hf
  have hfit : k * 64 + 64 ≤ cur.size := by omega
  refine wpList_store_mid hgd ty x y ho g (k * 64) (itC v).toArray hx hy (fun j hj => ?_) (by simpa [h64] using hT.size) (all_oneCell_toArray (fun c hc => itsC_one [v] c (by simpa [itsC] using hc))) ?_
  · simp only [List.size_toArray, h64] at hj
    refine ⟨?_, hblk.free _⟩
    rw [hblk.cell]
    simp [show k * 64 + j < cur.size by omega]
  · refine h _ ⟨?_, ?_, ?_⟩ (kept_setCells (S := Just g) (fun _ => rfl) _ _ _ (Kept.refl _ _))
    · intro z hz
      rcases List.mem_or_eq_of_mem_set hz with h | rfl
      · exact hf z h
      · exact hv
    · rw [itsC_len (fun z hz => by
        rcases List.mem_or_eq_of_mem_set hz with h | rfl
        · exact hf z h
        · exact hv)]
    · refine .inr ⟨g, cap, _, by simp, hb, Blk.setCells (itC v) (k * 64) w cur hblk (by omega), by simpa using hnc, hcm, ?_, ?_⟩
      · simp only [List.size_toArray, List.length_append, List.length_take, List.length_drop, Array.length_toList, h64]
        omega
      · rw [itsC_set hf v hk hv, ← htake, List.length_set]
        have q1 : (cur.toList.take (l.length * 64)).take (k * 64) = cur.toList.take (k * 64) := by rw [List.take_take, Nat.min_eq_left (by omega)]
        rw [q1, h64, List.append_assoc, List.take_append, List.append_assoc, List.take_of_length_le (by simp; omega)]
        congr 1
        rw [List.take_append, List.take_of_length_le (by simp [h64]; omega)]
        congr 1
        rw [List.take_drop]
        congr 2
        simp [h64]
        omega
/-! ### Cuts -/
theorem Fs.sliced {k : Nat} {w : World} {lo hi : Nat} {a : Option Addr} {n cap : Nat} {xs : List Value} (h : Fs k w lo hi (.slice a n cap) n xs) (l m : Nat) (hl : l ≤ m) (hm : m ≤ n) :
    Fs k w lo hi (.slice (if cap = l then a else a.map (·.add (l * k))) (m - l) (cap - l)) (m - l) ((xs.take (m * k)).drop (l * k)) := by
  obtain ⟨h0, a', cap', hv, g1, g2, g3, g4⟩ := h
  injection hv with e1 e2 e3
  subst e1 e3
  have h1 : l * k ≤ m * k := Nat.mul_le_mul_right _ hl
  have h2 : m * k ≤ n * k := Nat.mul_le_mul_right _ hm
  refine ⟨by rw [List.length_drop, List.length_take, h0, Nat.min_eq_left h2, Nat.sub_mul], _, cap - l, rfl, by omega, by omega, ?_, ?_⟩
  · intro hn
    have hnone : a = none := by
      by_cases hc : cap = l
      · rw [if_pos hc] at hn; exact hn
      · rw [if_neg hc] at hn; cases a with
        | none => rfl
        | some ad => simp at hn
    have := g3 hnone
    omega
  · intro ad had i x hx
    have hi : l * k + i < m * k ∧ xs[l * k + i]? = some x := by
      rw [List.getElem?_drop, List.getElem?_take] at hx
      split at hx
      · exact ⟨by assumption, hx⟩
      · cases hx
    have hne : ¬ cap = l := by
      intro e
      have : m ≤ l := by omega
      have := Nat.mul_le_mul_right k this
      omega
    rw [if_neg hne] at had
    cases a with
    | none => simp at had
    | some ad0 =>
      simp at had
      subst had
      obtain ⟨q1, q2, q3⟩ := g4 ad0 rfl (l * k + i) x hi.2
      rw [add_block, add_add']
      exact ⟨q1, q2, q3⟩
theorem itsC_take : ∀ {l : List It}, Full l → ∀ (m : Nat), itsC (l.take m) = (itsC l).take (m * 64)
  | [], _, m => by simp [itsC]
  | x :: l, _, 0 => by simp [itsC]
  | x :: l, h, m + 1 => by
    have h1 := itC_len (h x (List.mem_cons_self ..))
    have h2 := itsC_take (l := l) (fun z hz => h z (List.mem_cons_of_mem _ hz)) m
    have t1 : (itC x).take ((m + 1) * 64) = itC x := List.take_of_length_le (by omega)
    unfold itsC at h2 ⊢
    rw [List.take_succ_cons, List.flatMap_cons, h2, List.flatMap_cons, List.take_append, t1, h1, show (m + 1) * 64 - 64 = m * 64 by omega]
theorem itsC_drop : ∀ {l : List It}, Full l → ∀ (m : Nat), itsC (l.drop m) = (itsC l).drop (m * 64)
  | [], _, m => by simp [itsC]
  | x :: l, _, 0 => by simp [itsC]
  | x :: l, h, m + 1 => by
    have h1 := itC_len (h x (List.mem_cons_self ..))
    have h2 := itsC_drop (l := l) (fun z hz => h z (List.mem_cons_of_mem _ hz)) m
    have d1 : (itC x).drop ((m + 1) * 64) = [] := List.drop_of_length_le (by omega)
    unfold itsC at h2 ⊢
    rw [List.drop_succ_cons, h2, List.flatMap_cons, List.drop_append, d1, h1, show (m + 1) * 64 - 64 = m * 64 by omega]
    simp
/-- 's[l:h]' at items. -/
theorem Its.sliced {w : World} {lo hi : Nat} {a : Option Addr} {n cap : Nat} {xs : List It} (h : Its w lo hi (.slice a n cap) xs) (l m : Nat) (hl : l ≤ m) (hm : m ≤ n) :
    Its w lo hi (.slice (if cap = l then a else a.map (·.add (l * 64))) (m - l) (cap - l)) ((xs.take m).drop l) := by
  obtain ⟨a', c', hv, _⟩ := h.form
  injection hv with e1 e2 e3
  subst e2
  have hf : Full (xs.take m) := fun z hz => h.1 z (List.mem_of_mem_take hz)
  refine ⟨fun z hz => hf z (List.mem_of_mem_drop hz), ?_⟩
  have h1 := Fs.sliced h.2 l m hl hm
  rw [itsC_drop hf, itsC_take h.1]
  have e : ((xs.take m).drop l).length = m - l := by simp; omega
  rw [e]
  exact h1
theorem exec_one_item {P : Program} {o : Oper} {ev : Operand → Value} {w : World} (t : TypeId) (y : Operand) (ho : o.op = .buildSlice t 1 #[(0, y)])
    {e : TypeId} {z : Value} {k bytes : Nat} (hT : RowTyK P t e z k bytes) (hk : k ≤ 16777216) {A : Array Value} (hy : ev y = .agg A) (hA : A.size = k) :
    (execOp ev o).run P w = .ok (.value (.slice (some ⟨w.heap.size, 0, none⟩) 1 1)) (w.alloc (.cells A e)) := by
  obtain ⟨i, hi, hz, hs, hb⟩ := hT.info
  have hp := hT.pos
  have hr := run_buildSlice (P := P) w t e 1 #[(0, .agg A)] A i z hT.sl hi hz (by omega) (by omega) (by rw [hs]; exact fill_one k _ A (by simp) hA)
  unfold execOp
  simp only [ho, Sem.run_bind]
  rw [show (#[(0, y)] : Array (Nat × Operand)).map (fun (i, x) => (i, ev x)) = #[(0, .agg A)] by simp [hy]]
  rw [hr]
  rfl
end Go.Pm
namespace Go.Pm
open Go Go.RowKit

/-- Each piece has k cells. -/
def Each (k : Nat) (xs : List (List Value)) : Prop := ∀ x ∈ xs, x.length = k
theorem Each.nil (k : Nat) : Each k [] := fun _ h => by simp at h
theorem Each.one {k : Nat} {x : List Value} (h : x.length = k) : Each k [x] := fun y hy => by simp at hy; subst hy; exact h
theorem Each.append {k : Nat} {a b : List (List Value)} (ha : Each k a) (hb : Each k b) : Each k (a ++ b) := fun x hx => (List.mem_append.1 hx).elim (ha x) (hb x)
theorem Each.tail {k : Nat} {x : List Value} {a : List (List Value)} (h : Each k (x :: a)) : Each k a := fun y hy => h y (List.mem_cons_of_mem _ hy)
theorem Each.take {k : Nat} {a : List (List Value)} (h : Each k a) (n : Nat) : Each k (a.take n) := fun y hy => h y (List.mem_of_mem_take hy)
theorem Each.drop {k : Nat} {a : List (List Value)} (h : Each k a) (n : Nat) : Each k (a.drop n) := fun y hy => h y (List.mem_of_mem_drop hy)
theorem flat_len {k : Nat} : ∀ {xs : List (List Value)}, Each k xs → xs.flatten.length = xs.length * k
  | [], _ => by simp
  | x :: xs, h => by
    have h1 := h x (List.mem_cons_self ..)
    have h2 := flat_len h.tail
    simp only [List.flatten_cons, List.length_append, List.length_cons, h1, h2, Nat.add_mul]
    omega
theorem flat_get {k : Nat} : ∀ {xs : List (List Value)}, Each k xs → ∀ {i : Nat} {x : List Value}, xs[i]? = some x → ∀ {j : Nat} {c : Value}, x[j]? = some c → xs.flatten[i * k + j]? = some c
  | [], _, i, x, h, _, _, _ => by simp at h
  | y :: xs, h, 0, x, hx, j, c, hc => by
    obtain rfl : y = x := by simpa using hx
    have hj : j < y.length := (List.getElem?_eq_some_iff.1 hc).1
    rw [List.flatten_cons, List.getElem?_append_left (by omega)]
    simpa using hc
  | y :: xs, h, i + 1, x, hx, j, c, hc => by
    have h1 := h y (List.mem_cons_self ..)
    have h2 := flat_get h.tail (i := i) (x := x) (by simpa using hx) hc
    rw [List.flatten_cons, List.getElem?_append_right (by rw [h1, Nat.add_mul]; omega), h1, show (i + 1) * k + j - k = i * k + j by rw [Nat.add_mul]; omega]
    exact h2
theorem flat_take {k : Nat} : ∀ {xs : List (List Value)}, Each k xs → ∀ m, (xs.take m).flatten = xs.flatten.take (m * k)
  | [], _, m => by simp
  | x :: xs, _, 0 => by simp
  | x :: xs, h, m + 1 => by
    have h1 := h x (List.mem_cons_self ..)
    have h2 := flat_take h.tail m
    have e : (m + 1) * k = m * k + k := by rw [Nat.add_mul]; omega
    rw [List.take_succ_cons, List.flatten_cons, h2, List.flatten_cons, List.take_append, List.take_of_length_le (l := x) (by omega), h1, e, Nat.add_sub_cancel]
theorem flat_drop {k : Nat} : ∀ {xs : List (List Value)}, Each k xs → ∀ m, (xs.drop m).flatten = xs.flatten.drop (m * k)
  | [], _, m => by simp
  | x :: xs, _, 0 => by simp
  | x :: xs, h, m + 1 => by
    have h1 := h x (List.mem_cons_self ..)
    have h2 := flat_drop h.tail m
    have e : (m + 1) * k = m * k + k := by rw [Nat.add_mul]; omega
    rw [List.drop_succ_cons, h2, List.flatten_cons, List.drop_append, List.drop_of_length_le (l := x) (by omega), h1, e, Nat.add_sub_cancel, List.nil_append]

/-- The slice v holds the pieces xs; they lie in blocks from lo on, below hi. -/
def Ps (k : Nat) (w : World) (lo hi : Nat) (v : Value) (xs : List (List Value)) : Prop := Each k xs ∧ Fs k w lo hi v xs.length xs.flatten
/-- .. that the call owns. -/
def Po (k : Nat) (e : TypeId) (w : World) (base : Nat) (v : Value) (xs : List (List Value)) : Prop := Each k xs ∧ w.ownsRow base e k v xs.length xs.flatten
theorem Ps.kept {k : Nat} {S : Nat → Prop} {w w' : World} {lo hi : Nat} {v : Value} {xs : List (List Value)} (h : Ps k w lo hi v xs) (hk : Kept S w w') (hs : ∀ k, lo ≤ k → k < hi → ¬ S k) : Ps k w' lo hi v xs := ⟨h.1, h.2.kept hk hs⟩
theorem Ps.wider {k : Nat} {w : World} {lo hi lo' hi' : Nat} {v : Value} {xs : List (List Value)} (h : Ps k w lo hi v xs) (h1 : lo' ≤ lo) (h2 : hi ≤ hi') : Ps k w lo' hi' v xs := ⟨h.1, h.2.wider h1 h2⟩
theorem Ps.lt {k : Nat} {w : World} {lo hi : Nat} {v : Value} {xs : List (List Value)} (h : Ps k w lo hi v xs) : Ps k w lo (min hi w.heap.size) v xs := ⟨h.1, h.2.lt⟩
theorem Ps.nil (k : Nat) (w : World) (lo hi : Nat) : Ps k w lo hi (.slice none 0 0) [] := ⟨Each.nil k, Fs.nil ..⟩
theorem Po.nil (k : Nat) (e : TypeId) (w : World) (base : Nat) : Po k e w base (.slice none 0 0) [] := ⟨Each.nil k, World.ownsRow_nil w base e k⟩
theorem Po.ps {k : Nat} {e : TypeId} {w : World} {base : Nat} {v : Value} {xs : List (List Value)} (h : Po k e w base v xs) {hi : Nat} (hh : w.heap.size ≤ hi) : Ps k w base hi v xs := ⟨h.1, Fs.ofRow h.2 hh⟩
theorem Ps.form {k : Nat} {w : World} {lo hi : Nat} {v : Value} {xs : List (List Value)} (h : Ps k w lo hi v xs) : ∃ a cap, v = .slice a xs.length cap ∧ xs.length ≤ cap ∧ cap ≤ 9223372036854775807 ∧ (a = none → cap = 0) := by
  obtain ⟨_, _, a, cap, hv, h1, h2, h3, _⟩ := h
  exact ⟨a, cap, hv, h1, h2, h3⟩
theorem Po.form {k : Nat} {e : TypeId} {w : World} {base : Nat} {v : Value} {xs : List (List Value)} (h : Po k e w base v xs) : ∃ a cap, v = .slice a xs.length cap := by
  rcases h.2.2 with ⟨rfl, h0⟩ | ⟨g, cap, cur, rfl, _⟩
  · exact ⟨none, 0, by rw [h0]⟩
  · exact ⟨_, _, rfl⟩
theorem Po.kept {k : Nat} {e : TypeId} {w w' : World} {base : Nat} {v : Value} {xs : List (List Value)} {S : Nat → Prop} (h : Po k e w base v xs) (hk : Kept S w w') (hs : ∀ k, v.ownBlock = some k → ¬ S k) : Po k e w' base v xs := by
  refine ⟨h.1, h.2.1, ?_⟩
  rcases h.2.2 with h2 | ⟨g, cap, cur, hv, hb, hg, r⟩
  · exact .inl h2
  · refine .inr ⟨g, cap, cur, hv, hb, ?_, r⟩
    rw [hk.block g (lt_of_block hg) (hs g (by rw [hv]; rfl))]
    exact hg
theorem Po.base {k : Nat} {e : TypeId} {w : World} {base base' : Nat} {v : Value} {xs : List (List Value)} (h : Po k e w base v xs) (hb : base' ≤ base) : Po k e w base' v xs := by
  refine ⟨h.1, h.2.1, ?_⟩
  rcases h.2.2 with h2 | ⟨g, cap, cur, hv, hg, r⟩
  · exact .inl h2
  · exact .inr ⟨g, cap, cur, hv, Nat.le_trans hb hg, r⟩
theorem Po.own {k : Nat} {e : TypeId} {w : World} {base : Nat} {v : Value} {xs : List (List Value)} (h : Po k e w base v xs) : ∀ k, v.ownBlock = some k → base ≤ k ∧ k < w.heap.size := World.ownsRow.lt h.2
theorem Po.alloc {k : Nat} {e : TypeId} {w : World} {base : Nat} {v : Value} {xs : List (List Value)} (h : Po k e w base v xs) (o : Obj) : Po k e (w.alloc o) base v xs := ⟨h.1, World.ownsRow.alloc h.2 o⟩
/-- Where they lie. -/
theorem Ps.ne {k : Nat} (hk : 0 < k) {w : World} {lo hi : Nat} {a : Option Addr} {n cap : Nat} {xs : List (List Value)} (h : Ps k w lo hi (.slice a n cap) xs) (hn : 0 < xs.length) :
    ∃ b o, a = some ⟨b, o, none⟩ ∧ lo ≤ b ∧ b < hi ∧ b < w.heap.size ∧ ∀ (i : Nat) (x : List Value), xs[i]? = some x → w.rangeAt b (o + i * k) x := by
  obtain ⟨hf, hl, a', cap', hv, g1, g2, g3, g4⟩ := h
  injection hv with e1 e2 e3
  subst e1 e2 e3
  cases a with
  | none => have := g3 rfl; omega
  | some ad =>
    obtain ⟨b, o, sp⟩ := ad
    have hp : 0 < xs.flatten.length := by rw [hl]; exact Nat.mul_pos hn hk
    have h0 := g4 _ rfl 0 _ (List.getElem?_eq_getElem hp)
    have hsp : sp = none := by
      have h2 := h0.2.2
      simp only [Addr.add_zero'] at h2
      unfold World.cell? at h2
      split at h2
      · cases sp with
        | none => rfl
        | some s => simp at h2
      · cases h2
    subst hsp
    refine ⟨b, o, rfl, h0.1, h0.2.1, by simpa [add_block] using block_lt_of_cell h0.2.2, fun i x hx j c hc => ?_⟩
    have h1 := (g4 _ rfl _ c (flat_get hf hx hc)).2.2
    rw [Addr.add_mid] at h1
    rw [Nat.add_assoc]
    exact h1
/-- An append of pieces to pieces of the call's own. -/
theorem run_append_po {P : Program} {w : World} {t ty e : TypeId} {z : Value} {k bytes : Nat} (hT : RowTyK P t e z k bytes) {base : Nat} {v : Value} {l : List (List Value)} (hown : Po k e w base v l) {lo hi : Nat} {u : Value} {m : List (List Value)} (hu : Ps k w lo hi u m)
    (h1 : ∀ x ∈ m, ∀ c ∈ x, c.oneCell' = true) (h63 : l.length + m.length ≤ 1099511627776) (hb : bytes ≤ 128) (hbase : base ≤ w.heap.size) :
    ∃ a' n' c' w', (Builtin.append_ #[t, t] ty #[v, u]).run P w = .ok (.slice a' n' c') w' ∧ Po k e w' base (.slice a' n' c') (l ++ m) ∧ Kept (Of v) w w' ∧ (∀ k, (Value.slice a' n' c').ownBlock = some k → v.ownBlock = some k ∨ k = w.heap.size) := by
  have hone : ∀ x ∈ m.flatten, x.oneCell' = true := fun x hx => by
    obtain ⟨y, hy, hxy⟩ := List.mem_flatten.1 hx
    exact h1 y hy x hxy
  have hbb : (l.length + m.length) * bytes ≤ 140737488355328 := Nat.le_trans (Nat.mul_le_mul h63 hb) (by decide)
  obtain ⟨v', w', hr, r2, r3⟩ := run_append_fs (w := w) (ty := ty) hT hown.2 hu.2 hone (by unfold maxLen; omega) hbb hbase
  have hblk := append_blockK hT hown.2 hu.2 hone (by unfold maxLen; omega) hbb hr
  have hb : Po k e w' base v' (l ++ m) := ⟨hown.1.append hu.1, by rw [List.length_append, List.flatten_append]; exact r2⟩
  obtain ⟨a', cap', rfl⟩ := hb.form
  refine ⟨_, _, _, w', hr, hb, Kept.ofGrown r3, fun k hk => ?_⟩
  rcases hblk with h | h
  · left; rw [← h]; exact hk
  · right; rw [h] at hk; exact (Option.some.inj hk).symm
/-- .. for the walk. -/
theorem wpList_append_po {P : Program} {ops : Array Oper} {rest : List Oper} {o : Oper} {a : Act} {w : World} {Q : Exit → Act → World → Prop} (hgd : o.guard = none) (s x : Operand) (t : TypeId)
    (ho : o.op = .call { callee := .builtin .append, args := #[s, x], argTypes := #[t, t] }) {e : TypeId} {z : Value} {k bytes : Nat} (hT : RowTyK P t e z k bytes) (hb : bytes ≤ 128)
    {v : Value} (hs : a.eval s = v) {u : Value} (hx : a.eval x = u) {base : Nat} {l : List (List Value)} (hown : Po k e w base v l) {lo hi : Nat} {m : List (List Value)} (hu : Ps k w lo hi u m)
    (h1 : ∀ x ∈ m, ∀ c ∈ x, c.oneCell' = true) (h63 : l.length + m.length ≤ 1099511627776) (hbase : base ≤ w.heap.size)
    (h : ∀ a' n' cap' w', Po k e w' base (.slice a' n' cap') (l ++ m) → Kept (Of v) w w' → (∀ k, (Value.slice a' n' cap').ownBlock = some k → v.ownBlock = some k ∨ k = w.heap.size) → wpList P ops Q rest (a.put o.dst (.slice a' n' cap')) w') : wpList P ops Q (o :: rest) a w := by
  refine wpList_plain hgd fun K hK' => ?_
  obtain ⟨a', n', c', w', hr, r2, r3, r4⟩ := run_append_po (w := w) (ty := o.type) hT hown hu h1 h63 hb hbase
  unfold Oper.wp
  simp only [execOp, ho, resolve, invoke, builtin, Sem.run_bind, Sem.run_pure, Result.andThen_ok, List.map_toArray, List.map_cons, List.map_nil, hs, hx, hr]
  exact hK' _ _ (h a' n' c' w' r2 r3 r4)
/-- .. in a drawn region. -/
theorem gives_append_po {P : Program} {o : Oper} {a : Act} {w : World} {X : Value → World → Prop} (s x : Operand) (t : TypeId)
    (ho : o.op = .call { callee := .builtin .append, args := #[s, x], argTypes := #[t, t] }) {e : TypeId} {z : Value} {k bytes : Nat} (hT : RowTyK P t e z k bytes) (hb : bytes ≤ 128)
    {v : Value} (hs : a.eval s = v) {u : Value} (hx : a.eval x = u) {base : Nat} {l : List (List Value)} (hown : Po k e w base v l) {lo hi : Nat} {m : List (List Value)} (hu : Ps k w lo hi u m)
    (h1 : ∀ x ∈ m, ∀ c ∈ x, c.oneCell' = true) (h63 : l.length + m.length ≤ 1099511627776) (hbase : base ≤ w.heap.size)
    (h : ∀ a' n' cap' w', Po k e w' base (.slice a' n' cap') (l ++ m) → Kept (Of v) w w' → (∀ k, (Value.slice a' n' cap').ownBlock = some k → v.ownBlock = some k ∨ k = w.heap.size) → X (.slice a' n' cap') w') : Gives P o a w X := by
  obtain ⟨a', n', c', w', hr, r2, r3, r4⟩ := run_append_po (w := w) (ty := o.type) hT hown hu h1 h63 hb hbase
  unfold Gives
  simp only [execOp, ho, resolve, invoke, builtin, Sem.run_bind, Sem.run_pure, Result.andThen_ok, List.map_toArray, List.map_cons, List.map_nil, hs, hx, hr]
  exact h a' n' c' w' r2 r3 r4
/-- A new row of one piece. -/
theorem Ps.one (k : Nat) (w : World) (t : TypeId) (x : List Value) (h : x.length = k) : Ps k (w.alloc (.cells x.toArray t)) w.heap.size (w.heap.size + 1) (.slice (some ⟨w.heap.size, 0, none⟩) 1 1) [x] := by
  refine ⟨Each.one h, by simp [h], some ⟨w.heap.size, 0, none⟩, 1, rfl, Nat.le_refl _, by unfold maxLen; omega, (fun h => by cases h), ?_⟩
  intro ad had i c hc
  simp only [Option.some.injEq] at had
  subst had
  refine ⟨Nat.le_refl _, by simp, ?_⟩
  rw [Addr.add_lit, Nat.zero_add, World.cell?_alloc_new]
  simpa using hc
/-- .. that the call owns. -/
theorem Po.one (k : Nat) (w : World) (t : TypeId) (x : List Value) (h : x.length = k) : Po k t (w.alloc (.cells x.toArray t)) w.heap.size (.slice (some ⟨w.heap.size, 0, none⟩) 1 1) [x] := by
  refine ⟨Each.one h, by simp [h], .inr ⟨w.heap.size, 1, x.toArray, rfl, Nat.le_refl _, heap_alloc_new w _, by simp, by unfold maxLen; omega, by simp [h], ?_⟩⟩
  simp [← h]
/-- 's[l:h]' at pieces. -/
theorem Ps.sliced {k : Nat} {w : World} {lo hi : Nat} {a : Option Addr} {n cap : Nat} {xs : List (List Value)} (h : Ps k w lo hi (.slice a n cap) xs) (l m : Nat) (hl : l ≤ m) (hm : m ≤ n) :
    Ps k w lo hi (.slice (if cap = l then a else a.map (·.add (l * k))) (m - l) (cap - l)) ((xs.take m).drop l) := by
  obtain ⟨a', c', hv, _⟩ := h.form
  injection hv with e1 e2 e3
  subst e2
  refine ⟨(h.1.take m).drop l, ?_⟩
  have h1 := Fs.sliced h.2 l m hl hm
  rw [flat_drop (h.1.take m), flat_take h.1]
  have e : ((xs.take m).drop l).length = m - l := by simp; omega
  rw [e]
  exact h1
/-- One of the pieces, loaded, in a drawn region or not: its cells. -/
theorem Ps.at {k : Nat} (hk : 0 < k) {w : World} {lo hi : Nat} {a : Option Addr} {n cap : Nat} {xs : List (List Value)} (h : Ps k w lo hi (.slice a n cap) xs) {i : Nat} (hi' : i < xs.length) :
    ∃ b o, a = some ⟨b, o, none⟩ ∧ w.rangeAt b (o + i * k) xs[i] := by
  obtain ⟨b, o, rfl, _, _, _, hr⟩ := h.ne hk (by omega)
  exact ⟨b, o, rfl, hr i _ (List.getElem?_eq_getElem hi')⟩

/-! ### Hashes -/
def hsC (hs : List (List UInt8)) : List (List Value) := hs.map (·.map u8v)
/-- Each has 32 bytes. -/
def H32 (hs : List (List UInt8)) : Prop := ∀ h ∈ hs, h.length = 32
theorem H32.nil : H32 [] := fun _ h => by simp at h
theorem H32.one {h : List UInt8} (hl : h.length = 32) : H32 [h] := fun y hy => by simp at hy; subst hy; exact hl
theorem H32.append {a b : List (List UInt8)} (ha : H32 a) (hb : H32 b) : H32 (a ++ b) := fun x hx => (List.mem_append.1 hx).elim (ha x) (hb x)
theorem H32.cons {h : List UInt8} {b : List (List UInt8)} (ha : h.length = 32) (hb : H32 b) : H32 (h :: b) := fun x hx => (List.mem_cons.1 hx).elim (fun e => e ▸ ha) (hb x)
theorem H32.head {h : List UInt8} {b : List (List UInt8)} (hb : H32 (h :: b)) : h.length = 32 := hb _ (List.mem_cons_self ..)
theorem H32.tail {h : List UInt8} {b : List (List UInt8)} (hb : H32 (h :: b)) : H32 b := fun y hy => hb y (List.mem_cons_of_mem _ hy)
theorem H32.take {a : List (List UInt8)} (h : H32 a) (n : Nat) : H32 (a.take n) := fun y hy => h y (List.mem_of_mem_take hy)
theorem hsC_each {hs : List (List UInt8)} (h : H32 hs) : Each 32 (hsC hs) := fun x hx => by
  obtain ⟨y, hy, rfl⟩ := List.mem_map.1 hx
  rw [List.length_map]
  exact h y hy
theorem hsC_len (hs : List (List UInt8)) : (hsC hs).length = hs.length := List.length_map _
theorem hsC_one (hs : List (List UInt8)) : ∀ x ∈ hsC hs, ∀ c ∈ x, c.oneCell' = true := fun x hx c hc => by
  obtain ⟨y, _, rfl⟩ := List.mem_map.1 hx
  exact u8v_one y c hc
theorem hsC_append (a b : List (List UInt8)) : hsC (a ++ b) = hsC a ++ hsC b := List.map_append
theorem hsC_snoc (a : List (List UInt8)) (h : List UInt8) : hsC (a ++ [h]) = hsC a ++ [h.map u8v] := List.map_append
/-- The []api.Hash v reads as the hashes hs. -/
abbrev Hs (w : World) (lo hi : Nat) (v : Value) (hs : List (List UInt8)) : Prop := H32 hs ∧ Ps 32 w lo hi v (hsC hs)
/-- .. that the call owns. -/
abbrev Ho (e : TypeId) (w : World) (base : Nat) (v : Value) (hs : List (List UInt8)) : Prop := H32 hs ∧ Po 32 e w base v (hsC hs)
theorem Hs.kept {S : Nat → Prop} {w w' : World} {lo hi : Nat} {v : Value} {hs : List (List UInt8)} (h : Hs w lo hi v hs) (hk : Kept S w w') (hh : ∀ k, lo ≤ k → k < hi → ¬ S k) : Hs w' lo hi v hs := ⟨h.1, h.2.kept hk hh⟩
theorem Hs.nil (w : World) (lo hi : Nat) : Hs w lo hi (.slice none 0 0) [] := ⟨H32.nil, Ps.nil ..⟩
theorem Ho.nil (e : TypeId) (w : World) (base : Nat) : Ho e w base (.slice none 0 0) [] := ⟨H32.nil, Po.nil ..⟩
theorem Ho.kept {e : TypeId} {w w' : World} {base : Nat} {v : Value} {hs : List (List UInt8)} {S : Nat → Prop} (h : Ho e w base v hs) (hk : Kept S w w') (hh : ∀ k, v.ownBlock = some k → ¬ S k) : Ho e w' base v hs := ⟨h.1, h.2.kept hk hh⟩
theorem Ho.base {e : TypeId} {w : World} {base base' : Nat} {v : Value} {hs : List (List UInt8)} (h : Ho e w base v hs) (hb : base' ≤ base) : Ho e w base' v hs := ⟨h.1, h.2.base hb⟩
theorem Ho.hs {e : TypeId} {w : World} {base : Nat} {v : Value} {hs : List (List UInt8)} (h : Ho e w base v hs) {hi : Nat} (hh : w.heap.size ≤ hi) : Hs w base hi v hs := ⟨h.1, h.2.ps hh⟩
theorem Hs.form {w : World} {lo hi : Nat} {v : Value} {hs : List (List UInt8)} (h : Hs w lo hi v hs) : ∃ a cap, v = .slice a hs.length cap ∧ hs.length ≤ cap ∧ cap ≤ 9223372036854775807 ∧ (a = none → cap = 0) := by
  have := h.2.form
  rwa [hsC_len] at this
theorem Ho.form {e : TypeId} {w : World} {base : Nat} {v : Value} {hs : List (List UInt8)} (h : Ho e w base v hs) : ∃ a cap, v = .slice a hs.length cap := by
  have := h.2.form
  rwa [hsC_len] at this
/-- One of them. -/
theorem Hs.at {w : World} {lo hi : Nat} {a : Option Addr} {n cap : Nat} {hs : List (List UInt8)} (h : Hs w lo hi (.slice a n cap) hs) {i : Nat} (hi' : i < hs.length) :
    ∃ b o, a = some ⟨b, o, none⟩ ∧ w.rangeAt b (o + i * 32) (hs[i].map u8v) := by
  obtain ⟨b, o, h1, h2⟩ := h.2.at (by decide) (i := i) (by rw [hsC_len]; exact hi')
  refine ⟨b, o, h1, ?_⟩
  simpa [hsC] using h2
theorem Hs.lo {w : World} {lo hi : Nat} {a : Option Addr} {n cap : Nat} {hs : List (List UInt8)} (h : Hs w lo hi (.slice a n cap) hs) (hn : 0 < hs.length) :
    ∃ b o, a = some ⟨b, o, none⟩ ∧ lo ≤ b ∧ b < hi ∧ b < w.heap.size ∧ ∀ i (hi' : i < hs.length), w.rangeAt b (o + i * 32) (hs[i].map u8v) := by
  obtain ⟨b, o, h1, h2, h3, h4, h5⟩ := h.2.ne (by decide) (by rw [hsC_len]; exact hn)
  refine ⟨b, o, h1, h2, h3, h4, fun i hi' => h5 i _ ?_⟩
  simp [hsC, List.getElem?_eq_getElem hi']
end Go.Pm
namespace Go.Pm
open Go Go.RowKit

structure Ent where
  n : ByteArray
  v : Int
  k : Nat
def Ent.none : Ent := ⟨⟨#[]⟩, 0, 0⟩
structure Kno where
  e : Ent
  p : Int
def Kno.none : Kno := ⟨Ent.none, 0⟩
abbrev entC (x : Ent) : List Value := [.string x.n, .int .i64 x.v, .int .u64 (x.k : Int)]
abbrev knoC (x : Kno) : List Value := [.string x.e.n, .int .i64 x.e.v, .int .u64 (x.e.k : Int), .int .i64 x.p]
abbrev Ent.V (x : Ent) : Value := .agg (entC x).toArray
abbrev Kno.V (x : Kno) : Value := .agg (knoC x).toArray
def entsC (l : List Ent) : List (List Value) := l.map entC
def knosC (l : List Kno) : List (List Value) := l.map knoC
/-- Its name is a string that a machine may have, its key a word. -/
def Ent.Ok (x : Ent) : Prop := x.n.size ≤ 274877906944 ∧ x.k < 18446744073709551616
def EOk (l : List Ent) : Prop := ∀ x ∈ l, x.Ok
def KOk (l : List Kno) : Prop := ∀ x ∈ l, x.e.Ok
theorem entsC_each (l : List Ent) : Each 3 (entsC l) := fun x hx => by
  obtain ⟨y, _, rfl⟩ := List.mem_map.1 hx
  rfl
theorem knosC_each (l : List Kno) : Each 4 (knosC l) := fun x hx => by
  obtain ⟨y, _, rfl⟩ := List.mem_map.1 hx
  rfl
theorem entC_one (x : Ent) : ∀ c ∈ entC x, c.oneCell' = true := by
  intro c hc
  simp only [entC, List.mem_cons, List.not_mem_nil, or_false] at hc
  rcases hc with rfl | rfl | rfl <;> rfl
theorem knoC_one (x : Kno) : ∀ c ∈ knoC x, c.oneCell' = true := by
  intro c hc
  simp only [knoC, List.mem_cons, List.not_mem_nil, or_false] at hc
  rcases hc with rfl | rfl | rfl | rfl <;> rfl
theorem entsC_one (l : List Ent) : ∀ x ∈ entsC l, ∀ c ∈ x, c.oneCell' = true := fun x hx => by
  obtain ⟨y, _, rfl⟩ := List.mem_map.1 hx
  exact entC_one y
theorem knosC_one (l : List Kno) : ∀ x ∈ knosC l, ∀ c ∈ x, c.oneCell' = true := fun x hx => by
  obtain ⟨y, _, rfl⟩ := List.mem_map.1 hx
  exact knoC_one y
theorem entsC_len (l : List Ent) : (entsC l).length = l.length := List.length_map _
theorem knosC_len (l : List Kno) : (knosC l).length = l.length := List.length_map _
theorem entsC_app (a b : List Ent) : entsC (a ++ b) = entsC a ++ entsC b := List.map_append
theorem knosC_app (a b : List Kno) : knosC (a ++ b) = knosC a ++ knosC b := List.map_append
theorem entsC_at (l : List Ent) (i : Nat) (h : i < l.length) : (entsC l)[i]? = some (entC l[i]) := by
  unfold entsC
  rw [List.getElem?_map, List.getElem?_eq_getElem h]
  rfl
theorem knosC_at (l : List Kno) (i : Nat) (h : i < l.length) : (knosC l)[i]? = some (knoC l[i]) := by
  unfold knosC
  rw [List.getElem?_map, List.getElem?_eq_getElem h]
  rfl
/-- The cells of entry i, of what is known i. -/
theorem Ps.ent {w : World} {lo hi : Nat} {a : Option Addr} {n cap : Nat} {l : List Ent} (h : Ps 3 w lo hi (.slice a n cap) (entsC l)) (hn : 0 < l.length) :
    ∃ b o, a = some ⟨b, o, none⟩ ∧ ∀ i (hi : i < l.length), w.cell? ⟨b, o + i * 3, none⟩ = some (.string l[i].n) ∧ w.cell? ⟨b, o + i * 3 + 1, none⟩ = some (.int .i64 l[i].v) ∧ w.cell? ⟨b, o + i * 3 + 2, none⟩ = some (.int .u64 (l[i].k : Int)) ∧ w.rangeAt b (o + i * 3) (entC l[i]) := by
  obtain ⟨b, o, rfl, _, _, _, hr⟩ := h.ne (by decide) (by rw [entsC_len]; exact hn)
  refine ⟨b, o, rfl, fun i hi => ?_⟩
  have h1 := hr i _ (entsC_at l i hi)
  exact ⟨h1 0 _ rfl, h1 1 _ rfl, h1 2 _ rfl, h1⟩
theorem Ps.kno {w : World} {lo hi : Nat} {a : Option Addr} {n cap : Nat} {l : List Kno} (h : Ps 4 w lo hi (.slice a n cap) (knosC l)) (hn : 0 < l.length) :
    ∃ b o, a = some ⟨b, o, none⟩ ∧ ∀ i (hi : i < l.length), w.cell? ⟨b, o + i * 4, none⟩ = some (.string l[i].e.n) ∧ w.cell? ⟨b, o + i * 4 + 1, none⟩ = some (.int .i64 l[i].e.v) ∧ w.cell? ⟨b, o + i * 4 + 2, none⟩ = some (.int .u64 (l[i].e.k : Int)) ∧ w.cell? ⟨b, o + i * 4 + 3, none⟩ = some (.int .i64 l[i].p) ∧ w.rangeAt b (o + i * 4) (knoC l[i]) ∧ w.rangeAt b (o + i * 4) (entC l[i].e) := by
  obtain ⟨b, o, rfl, _, _, _, hr⟩ := h.ne (by decide) (by rw [knosC_len]; exact hn)
  refine ⟨b, o, rfl, fun i hi => ?_⟩
  have h1 := hr i _ (knosC_at l i hi)
  refine ⟨h1 0 _ rfl, h1 1 _ rfl, h1 2 _ rfl, h1 3 _ rfl, h1, fun j v hj => h1 j v ?_⟩
  match j, hj with
  | 0, hj => exact hj
  | 1, hj => exact hj
  | 2, hj => exact hj
  | j + 3, hj => simp at hj

/-- 's[:i]', 's[i:]' of pieces. -/
theorem ps_to {P : Program} {t : TypeId} {k : Nat} (ht : P.underlying t = some (.slice (P.elem t))) (hz : ∀ W, (sizeOf (P.elem t)).run P W = .ok k W) {w : World} {lo hi : Nat} {a : Option Addr} {n cap : Nat} {xs : List (List Value)} (h : Ps k w lo hi (.slice a n cap) xs) (kd : IntKind) (i : Nat) (h1 : i ≤ n) :
    ∃ a', (∀ W, (Instr.slice t (.slice a n cap) none (some (.int kd i)) none).run P W = .ok (.slice a' i cap) W) ∧ Ps k w lo hi (.slice a' i cap) (xs.take i) := by
  have hc : n ≤ cap := by obtain ⟨a', cap', hv, hc, _⟩ := h.form; injection hv; omega
  refine ⟨if cap = 0 then a else a.map (·.add 0), fun W => ?_, ?_⟩
  · rw [run_slice_h (P := P) W t a n cap ht kd i (by omega) (by omega), hz]
    simp [Go.sliced]
  · have := Ps.sliced h 0 i (by omega) (by omega)
    simpa using this
theorem ps_from {P : Program} {t : TypeId} {k : Nat} (ht : P.underlying t = some (.slice (P.elem t))) (hz : ∀ W, (sizeOf (P.elem t)).run P W = .ok k W) {w : World} {lo hi : Nat} {a : Option Addr} {n cap : Nat} {xs : List (List Value)} (h : Ps k w lo hi (.slice a n cap) xs) (kd : IntKind) (i : Nat) (h1 : i ≤ n) :
    ∃ a', (∀ W, (Instr.slice t (.slice a n cap) (some (.int kd i)) none none).run P W = .ok (.slice a' (n - i) (cap - i)) W) ∧ Ps k w lo hi (.slice a' (n - i) (cap - i)) (xs.drop i) := by
  refine ⟨if cap = i then a else a.map (·.add (i * k)), fun W => ?_, ?_⟩
  · rw [run_slice_l (P := P) W t a n cap ht kd i (by omega) (by omega), hz]
    simp [Go.sliced]
  · have hn : n = xs.length := by obtain ⟨a', cap', hv, _⟩ := h.form; injection hv
    have := Ps.sliced h i n (by omega) (Nat.le_refl _)
    rw [List.take_of_length_le (by omega)] at this
    exact this
theorem knosC_take (l : List Kno) (i : Nat) : knosC (l.take i) = (knosC l).take i := List.map_take
theorem knosC_drop (l : List Kno) (i : Nat) : knosC (l.drop i) = (knosC l).drop i := List.map_drop
theorem entsC_take (l : List Ent) (i : Nat) : entsC (l.take i) = (entsC l).take i := List.map_take
theorem entsC_drop (l : List Ent) (i : Nat) : entsC (l.drop i) = (entsC l).drop i := List.map_drop

/-- Where a row of pieces lies: within [lo, hi), or in memory that is newer than world w. -/
def Off (k : Nat) (w : World) (lo hi : Nat) (w' : World) (r : Value) (xs : List (List Value)) : Prop := ∃ lo2 hi2, Ps k w' lo2 hi2 r xs ∧ ((lo ≤ lo2 ∧ hi2 ≤ hi) ∨ w.heap.size ≤ lo2)
theorem Off.kept {k : Nat} {S : Nat → Prop} {w w' w2 : World} {lo hi : Nat} {r : Value} {xs : List (List Value)} (h : Off k w lo hi w' r xs) (hk : Kept S w' w2) (h1 : ∀ b, lo ≤ b → b < hi → ¬ S b) (h2 : ∀ b, w.heap.size ≤ b → ¬ S b) : Off k w lo hi w2 r xs := by
  obtain ⟨lo2, hi2, hp, hq⟩ := h
  refine ⟨lo2, hi2, hp.kept hk (fun b q1 q2 => ?_), hq⟩
  rcases hq with ⟨p1, p2⟩ | p1
  · exact h1 b (by omega) (by omega)
  · exact h2 b (by omega)
theorem Off.ps {k : Nat} {w w' : World} {lo hi : Nat} {r : Value} {xs : List (List Value)} (h : Off k w lo hi w' r xs) : Ps k w' 0 w'.heap.size r xs := by
  obtain ⟨lo2, hi2, hp, _⟩ := h
  exact hp.lt.wider (Nat.zero_le _) (Nat.min_le_right _ _)
theorem Off.base {k : Nat} {w w0 w' : World} {lo hi : Nat} {r : Value} {xs : List (List Value)} (h : Off k w lo hi w' r xs) (hb : w0.heap.size ≤ w.heap.size) : Off k w0 lo hi w' r xs := by
  obtain ⟨lo2, hi2, hp, hq⟩ := h
  exact ⟨lo2, hi2, hp, hq.elim .inl (fun p => .inr (by omega))⟩
theorem Off.of {k : Nat} {w : World} {lo hi : Nat} {r : Value} {xs : List (List Value)} (w0 : World) (h : Ps k w lo hi r xs) : Off k w0 lo hi w r xs := ⟨lo, hi, h, .inl ⟨Nat.le_refl _, Nat.le_refl _⟩⟩

/-! ### The document's directory -/
/-- Names are alike; one is ahead of another one. -/
def eqN (a b : ByteArray) : Bool := a.toList == b.toList
def ltN (a b : ByteArray) : Bool := Go.Op.bytesLess a.toList b.toList
/-- One step of Latest. -/
def latS (nm : ByteArray) (s : Kno × Bool) (x : Kno) : Kno × Bool := if eqN x.e.n nm && (!s.2 || decide (s.1.e.v < x.e.v)) then (x, true) else s
def latF (l : List Kno) (nm : ByteArray) : Kno × Bool := l.foldl (latS nm) (Kno.none, false)
theorem latF_take (l : List Kno) (nm : ByteArray) (i : Nat) (h : i < l.length) : (l.take (i + 1)).foldl (latS nm) (Kno.none, false) = latS nm ((l.take i).foldl (latS nm) (Kno.none, false)) l[i] := by
  rw [List.take_succ_eq_append_getElem h, List.foldl_append]
  rfl
theorem latF_all (l : List Kno) (nm : ByteArray) : (l.take l.length).foldl (latS nm) (Kno.none, false) = latF l nm := by rw [List.take_length]; rfl
theorem latS_ok {nm : ByteArray} {s : Kno × Bool} {x : Kno} (hs : s.1.e.Ok) (hx : x.e.Ok) : (latS nm s x).1.e.Ok := by
  unfold latS
  split
  · exact hx
  · exact hs
theorem latF_Ok : ∀ (l : List Kno) (nm : ByteArray), KOk l → (latF l nm).1.e.Ok := by
  intro l nm h
  have g : ∀ (l : List Kno) (s : Kno × Bool), KOk l → s.1.e.Ok → (l.foldl (latS nm) s).1.e.Ok := by
    intro l
    induction l with
    | nil => intro s _ hs; exact hs
    | cons x l ih =>
      intro s hl hs
      exact ih _ (fun y hy => hl y (List.mem_cons_of_mem _ hy)) (latS_ok hs (hl x (List.mem_cons_self ..)))
  exact g l _ h ⟨by decide, by decide⟩
/-- Ahead of an entry, in the order by names and versions. -/
def aheadK (y : Kno) (e : Ent) : Bool := ltN y.e.n e.n || (eqN y.e.n e.n && decide (y.e.v < e.v))
/-- How many stand ahead: the first so many. -/
def place (l : List Kno) (e : Ent) : Nat := (l.takeWhile (fun y => aheadK y e)).length
def insK (l : List Kno) (x : Kno) : List Kno := l.take (place l x.e) ++ x :: l.drop (place l x.e)
theorem place_le (l : List Kno) (e : Ent) : place l e ≤ l.length := by
  unfold place
  exact (List.takeWhile_sublist _).length_le
theorem place_lt {l : List Kno} {e : Ent} {i : Nat} (h : i < place l e) (hl : i < l.length) : aheadK l[i] e = true := by
  induction l generalizing i with
  | nil => simp at hl
  | cons y l ih =>
    unfold place at h
    rw [List.takeWhile_cons] at h
    split at h
    · rename_i hy
      cases i with
      | zero => exact hy
      | succ i => exact ih (by simpa [place] using h) (by simpa using hl)
    · simp at h
theorem place_at {l : List Kno} {e : Ent} (hl : place l e < l.length) : aheadK l[place l e] e = false := by
  induction l with
  | nil => simp at hl
  | cons y l ih =>
    cases hy : aheadK y e with
    | false =>
      have : place (y :: l) e = 0 := by simp [place, hy]
      simp only [this, List.getElem_cons_zero, hy]
    | true =>
      have e1 : place (y :: l) e = place l e + 1 := by simp [place, hy]
      have hl' : place l e < l.length := by rw [e1] at hl; simpa using hl
      have := ih hl'
      simp only [e1, List.getElem_cons_succ]
      exact this
/-- May entry e of a batch come at this epoch; ahead of it in the batch: b. -/
def mayE (l : List Kno) (b : List Ent) (e : Ent) : Bool := (entR e.n.size e.v e.k && decide (e.v = IntKind.i64.wrap ((latF l e.n).1.e.v + 1))) && !(b.any (fun y => eqN y.n e.n))
/-- The directory behind the first i of a batch; none: one of them may not be. -/
def addN (l : List Kno) (p : Int) (b : List Ent) : Nat → Option (List Kno)
  | 0 => some l
  | i + 1 => match addN l p b i with
    | Option.none => Option.none
    | some out => match b[i]? with
      | Option.none => some out
      | some e => if mayE l (b.take i) e then some (insK out ⟨e, p⟩) else Option.none
def addR (l : List Kno) : Option (List Kno) → List Kno × Bool
  | Option.none => (l, false)
  | some out => (out, true)
def addF (l : List Kno) (p : Int) (b : List Ent) : List Kno × Bool :=
  if p < 1 then (l, false) else if l.any (fun y => decide (p ≤ y.p)) then (l, false) else addR l (addN l p b b.length)
theorem addN_none {l : List Kno} {p : Int} {b : List Ent} {i : Nat} (h : addN l p b i = Option.none) : ∀ j, addN l p b (i + j) = Option.none
  | 0 => h
  | j + 1 => by
    show addN l p b (i + j + 1) = _
    unfold addN
    rw [addN_none h j]
theorem addN_stop {l : List Kno} {p : Int} {b : List Ent} {i : Nat} (h : addN l p b i = Option.none) (hi : i ≤ b.length) : addN l p b b.length = Option.none := by
  have := addN_none h (b.length - i)
  rwa [Nat.add_sub_cancel' hi] at this
theorem addN_bad {l out : List Kno} {p : Int} {b : List Ent} {i : Nat} (h : addN l p b i = some out) (hi : i < b.length) (hm : mayE l (b.take i) b[i] = false) : addN l p b (i + 1) = Option.none := by
  unfold addN
  rw [h, List.getElem?_eq_getElem hi]
  simp only [hm]
  rfl
theorem addN_good {l out : List Kno} {p : Int} {b : List Ent} {i : Nat} (h : addN l p b i = some out) (hi : i < b.length) (hm : mayE l (b.take i) b[i] = true) : addN l p b (i + 1) = some (insK out ⟨b[i], p⟩) := by
  unfold addN
  rw [h, List.getElem?_eq_getElem hi]
  simp only [hm, if_true]
theorem insK_len (l : List Kno) (x : Kno) : (insK l x).length = l.length + 1 := by
  unfold insK
  have := place_le l x.e
  simp
  omega
theorem insK_ok {l : List Kno} {x : Kno} (hl : KOk l) (hx : x.e.Ok) : KOk (insK l x) := fun y hy => by
  unfold insK at hy
  rcases List.mem_append.1 hy with h | h
  · exact hl y (List.mem_of_mem_take h)
  · rcases List.mem_cons.1 h with h | h
    · rw [h]; exact hx
    · exact hl y (List.mem_of_mem_drop h)
theorem addN_ok {l : List Kno} {p : Int} {b : List Ent} (hl : KOk l) (hb : EOk b) : ∀ (i : Nat) (out : List Kno), addN l p b i = some out → KOk out ∧ out.length ≤ l.length + i
  | 0, out, h => by
    obtain rfl := Option.some.inj h
    exact ⟨hl, Nat.le_refl _⟩
  | i + 1, out, h => by
    unfold addN at h
    cases h0 : addN l p b i with
    | none => rw [h0] at h; cases h
    | some o =>
      obtain ⟨q1, q2⟩ := addN_ok hl hb i o h0
      rw [h0] at h
      cases h1 : b[i]? with
      | none =>
        rw [h1] at h
        obtain rfl := Option.some.inj h
        exact ⟨q1, by omega⟩
      | some e =>
        rw [h1] at h
        simp only at h
        split at h
        · obtain rfl := Option.some.inj h
          exact ⟨insK_ok q1 (hb e (List.mem_of_getElem? h1)), by rw [insK_len]; omega⟩
        · cases h
theorem addF_ok {l : List Kno} {p : Int} {b : List Ent} (hl : KOk l) (hb : EOk b) : KOk (addF l p b).1 ∧ (addF l p b).1.length ≤ l.length + b.length := by
  unfold addF
  split
  · exact ⟨hl, Nat.le_add_right _ _⟩
  · split
    · exact ⟨hl, Nat.le_add_right _ _⟩
    · cases h : addN l p b b.length with
      | none => exact ⟨hl, Nat.le_add_right _ _⟩
      | some out => exact addN_ok hl hb _ _ h
end Go.Pm
namespace Go.Pm
open Go Go.RowKit

theorem eqN_iff {a b : ByteArray} : eqN a b = true ↔ a.toList = b.toList := by unfold eqN; exact beq_iff_eq
theorem eqN_no {a b : ByteArray} : eqN a b = false ↔ a.toList ≠ b.toList := by unfold eqN; exact beq_eq_false_iff_ne
/-- The order of a directory: by names, then by versions. -/
def KLt (a b : Kno) : Prop := ltN a.e.n b.e.n = true ∨ (a.e.n.toList = b.e.n.toList ∧ a.e.v < b.e.v)
theorem KLt.trans {a b c : Kno} (h : KLt a b) (g : KLt b c) : KLt a c := by
  unfold KLt ltN at *
  rcases h with h | ⟨h1, h2⟩
  · rcases g with g | ⟨g1, _⟩
    · exact .inl (less_trans h g)
    · exact .inl (g1 ▸ h)
  · rcases g with g | ⟨g1, g2⟩
    · exact .inl (h1 ▸ g)
    · exact .inr ⟨h1.trans g1, by omega⟩
theorem KLt.irrefl {a : Kno} : ¬ KLt a a := by
  rintro (h | ⟨_, h⟩)
  · unfold ltN at h
    rw [less_irrefl] at h
    cases h
  · omega
theorem KLt.total (a b : Kno) : KLt a b ∨ (a.e.n.toList = b.e.n.toList ∧ a.e.v = b.e.v) ∨ KLt b a := by
  unfold KLt ltN
  rcases less_total a.e.n.toList b.e.n.toList with h | h | h
  · exact .inl (.inl h)
  · rcases Int.lt_trichotomy a.e.v b.e.v with g | g | g
    · exact .inl (.inr ⟨h, g⟩)
    · exact .inr (.inl ⟨h, g⟩)
    · exact .inr (.inr (.inr ⟨h.symm, g⟩))
  · exact .inr (.inr (.inl h))
theorem aheadK_iff {y : Kno} {e : Ent} {p : Int} : aheadK y e = true ↔ KLt y ⟨e, p⟩ := by
  unfold aheadK KLt
  rw [Bool.or_eq_true, Bool.and_eq_true, eqN_iff, decide_eq_true_eq]
theorem lt_idx {l : List Kno} (hp : l.Pairwise KLt) {i j : Nat} (hi : i < l.length) (hj : j < l.length) (h : KLt l[i] l[j]) : i < j := by
  rcases Nat.lt_trichotomy i j with g | g | g
  · exact g
  · subst g
    exact absurd h KLt.irrefl
  · exact absurd (h.trans (List.pairwise_iff_getElem.1 hp j i hj hi g)) KLt.irrefl
/-- A name's version stands but once. -/
theorem key_one {l : List Kno} (hp : l.Pairwise KLt) {x y : Kno} (hx : x ∈ l) (hy : y ∈ l) (hn : x.e.n.toList = y.e.n.toList) (hv : x.e.v = y.e.v) : x = y := by
  obtain ⟨i, hi, rfl⟩ := List.getElem_of_mem hx
  obtain ⟨j, hj, rfl⟩ := List.getElem_of_mem hy
  have hno : ∀ a b : Kno, a.e.n.toList = b.e.n.toList → a.e.v = b.e.v → ¬ KLt a b := by
    rintro a b e1 e2 (h | ⟨_, h⟩)
    · unfold ltN at h
      rw [e1, less_irrefl] at h
      cases h
    · omega
  rcases Nat.lt_trichotomy i j with g | g | g
  · exact absurd (List.pairwise_iff_getElem.1 hp i j hi hj g) (hno _ _ hn hv)
  · subst g
    rfl
  · exact absurd (List.pairwise_iff_getElem.1 hp j i hj hi g) (hno _ _ hn.symm hv.symm)

/-! ### Right -/
def headK (x : Kno) : Bool := entR x.e.n.size x.e.v x.e.k && decide (1 ≤ x.p)
/-- May x stand behind a. -/
def behK (a x : Kno) : Bool := !ltN x.e.n a.e.n && (if eqN a.e.n x.e.n then decide (x.e.v = a.e.v + 1) && decide (a.p < x.p) else decide (x.e.v = 1))
def okK (l : List Kno) (i : Nat) : Bool := match l[i]? with
  | Option.none => true
  | some x => headK x && (if i = 0 then decide (x.e.v = 1) else match l[i - 1]? with
    | Option.none => true
    | some a => behK a x)
def rightK (l : List Kno) : Bool := (List.range l.length).all (okK l)
theorem okK_first (l : List Kno) (h : 0 < l.length) : okK l 0 = (headK l[0] && decide (l[0].e.v = 1)) := by
  unfold okK
  rw [List.getElem?_eq_getElem h]
  rfl
theorem okK_next (l : List Kno) (i : Nat) (h : i < l.length) (h0 : 0 < i) : okK l i = (headK l[i] && behK (l[i - 1]'(by omega)) l[i]) := by
  unfold okK
  rw [List.getElem?_eq_getElem h, List.getElem?_eq_getElem (show i - 1 < l.length by omega)]
  show (headK l[i] && (if i = 0 then _ else _)) = _
  rw [if_neg (by omega)]
theorem rightK_all {l : List Kno} (h : ∀ i, i < l.length → okK l i = true) : rightK l = true := List.all_eq_true.2 (fun i hi => h i (List.mem_range.1 hi))
theorem rightK_at {l : List Kno} (h : rightK l = true) {i : Nat} (hi : i < l.length) : okK l i = true := List.all_eq_true.1 h i (List.mem_range.2 hi)
theorem rightK_no {l : List Kno} {i : Nat} (hi : i < l.length) (h : okK l i = false) : rightK l = false := by
  cases hr : rightK l with
  | false => rfl
  | true => rw [rightK_at hr hi] at h; cases h
/-- The same, whatever the order. -/
structure RtK (l : List Kno) : Prop where
  head : ∀ x ∈ l, headK x = true
  lt : l.Pairwise KLt
  pre : ∀ x ∈ l, x.e.v ≠ 1 → ∃ y ∈ l, y.e.n.toList = x.e.n.toList ∧ y.e.v + 1 = x.e.v ∧ y.p < x.p
theorem headK_v {x : Kno} (h : headK x = true) : 1 ≤ x.e.v ∧ x.e.v ≤ 1073741824 ∧ 1 ≤ x.p := by
  unfold headK entR at h
  simp only [Bool.and_eq_true, decide_eq_true_eq] at h
  omega
theorem behK_lt {a x : Kno} (h : behK a x = true) : KLt a x := by
  unfold behK at h
  rw [Bool.and_eq_true, Bool.not_eq_true'] at h
  obtain ⟨h1, h2⟩ := h
  split at h2
  · rename_i he
    rw [Bool.and_eq_true, decide_eq_true_eq] at h2
    exact .inr ⟨eqN_iff.1 he, by omega⟩
  · rename_i he
    rcases less_total a.e.n.toList x.e.n.toList with g | g | g
    · exact .inl g
    · exact absurd (eqN_iff.2 g) he
    · unfold ltN at h1
      rw [g] at h1
      cases h1
theorem behK_pre {a x : Kno} (h : behK a x = true) (hv : x.e.v ≠ 1) : a.e.n.toList = x.e.n.toList ∧ a.e.v + 1 = x.e.v ∧ a.p < x.p := by
  unfold behK at h
  rw [Bool.and_eq_true] at h
  obtain ⟨_, h2⟩ := h
  split at h2
  · rename_i he
    rw [Bool.and_eq_true, decide_eq_true_eq, decide_eq_true_eq] at h2
    exact ⟨eqN_iff.1 he, h2.1.symm, h2.2⟩
  · rw [decide_eq_true_eq] at h2
    exact absurd h2 hv
theorem rightK_iff (l : List Kno) : rightK l = true ↔ RtK l := by
  constructor
  · intro h
    have hb : ∀ i (h1 : i < l.length) (h0 : 0 < i), behK (l[i - 1]'(by omega)) l[i] = true := fun i h1 h0 => by
      have := rightK_at h h1
      rw [okK_next l i h1 h0, Bool.and_eq_true] at this
      exact this.2
    refine ⟨fun x hx => ?_, ?_, fun x hx hv => ?_⟩
    · obtain ⟨i, hi, rfl⟩ := List.getElem_of_mem hx
      have := rightK_at h hi
      rcases Nat.eq_zero_or_pos i with h0 | h0
      · subst h0
        rw [okK_first l hi, Bool.and_eq_true] at this
        exact this.1
      · rw [okK_next l i hi h0, Bool.and_eq_true] at this
        exact this.1
    · refine List.pairwise_iff_getElem.2 (fun i j hi hj hij => ?_)
      have g : ∀ d (hd : i + 1 + d < l.length), KLt l[i] l[i + 1 + d] := by
        intro d
        induction d with
        | zero => exact fun hd => behK_lt (hb (i + 1) hd (by omega))
        | succ d ih => exact fun hd => (ih (by omega)).trans (behK_lt (hb (i + 1 + (d + 1)) hd (by omega)))
      have := g (j - (i + 1)) (by omega)
      have e : i + 1 + (j - (i + 1)) = j := by omega
      simp only [e] at this
      exact this
    · obtain ⟨i, hi, rfl⟩ := List.getElem_of_mem hx
      rcases Nat.eq_zero_or_pos i with h0 | h0
      · subst h0
        have := rightK_at h hi
        rw [okK_first l hi, Bool.and_eq_true, decide_eq_true_eq] at this
        exact absurd this.2 hv
      · exact ⟨_, List.getElem_mem _, behK_pre (hb i hi h0) hv⟩
  · intro h
    refine rightK_all (fun i hi => ?_)
    have hx := h.head _ (List.getElem_mem hi)
    have hv1 := headK_v hx
    rcases Nat.eq_zero_or_pos i with h0 | h0
    · subst h0
      rw [okK_first l hi, hx, Bool.true_and, decide_eq_true_eq]
      refine Decidable.byContradiction (fun hv => ?_)
      obtain ⟨y, hy, y1, y2, _⟩ := h.pre _ (List.getElem_mem hi) hv
      obtain ⟨j, hj, rfl⟩ := List.getElem_of_mem hy
      have := lt_idx h.lt hj hi (.inr ⟨y1, by omega⟩)
      omega
    · rw [okK_next l i hi h0, hx, Bool.true_and]
      have hl := List.pairwise_iff_getElem.1 h.lt (i - 1) i (by omega) hi (by omega)
      have ha1 := headK_v (h.head _ (List.getElem_mem (show i - 1 < l.length by omega)))
      have hp := h.pre _ (List.getElem_mem hi)
      have hy : ∀ y ∈ l, KLt y l[i] → ¬ KLt (l[i - 1]'(by omega)) y := by
        intro y hy g1 g2
        obtain ⟨j, hj, rfl⟩ := List.getElem_of_mem hy
        have q1 := lt_idx h.lt hj hi g1
        have q2 := lt_idx h.lt (by omega) hj g2
        omega
      have ham : l[i - 1]'(by omega) ∈ l := List.getElem_mem _
      generalize l[i] = x at *
      generalize (l[i - 1]'(by omega)) = a at *
      unfold behK
      rw [Bool.and_eq_true, Bool.not_eq_true']
      constructor
      · cases g : ltN x.e.n a.e.n with
        | false => rfl
        | true => exact absurd (hl.trans (.inl g)) KLt.irrefl
      · split
        · rename_i he
          have he' := eqN_iff.1 he
          rw [Bool.and_eq_true, decide_eq_true_eq, decide_eq_true_eq]
          have hav : a.e.v < x.e.v := by
            rcases hl with g | ⟨_, g⟩
            · unfold ltN at g
              rw [he', less_irrefl] at g
              cases g
            · exact g
          obtain ⟨y, y0, y1, y2, y3⟩ := hp (by omega)
          have hno := hy y y0 (.inr ⟨y1, by omega⟩)
          have hve : ¬ a.e.v < y.e.v := fun g => hno (.inr ⟨he'.trans y1.symm, g⟩)
          exact ⟨by omega, by
            rw [key_one h.lt ham y0 (he'.trans y1.symm) (by omega)]
            exact y3⟩
        · rename_i he
          rw [decide_eq_true_eq]
          refine Decidable.byContradiction (fun hv => ?_)
          obtain ⟨y, y0, y1, y2, _⟩ := hp hv
          refine hy y y0 (.inr ⟨y1, by omega⟩) ?_
          rcases hl with g | ⟨g, _⟩
          · exact .inl (by unfold ltN at *; rw [y1]; exact g)
          · exact absurd (eqN_iff.2 g) he

/-! ### Latest -/
structure LatP (nm : ByteArray) (l : List Kno) (s : Kno × Bool) : Prop where
  yes : s.2 = true → s.1 ∈ l ∧ s.1.e.n.toList = nm.toList
  no : s.2 = false → s.1 = Kno.none ∧ ∀ x ∈ l, x.e.n.toList ≠ nm.toList
  top : ∀ x ∈ l, x.e.n.toList = nm.toList → s.2 = true ∧ x.e.v ≤ s.1.e.v
theorem LatP.step {nm : ByteArray} {l : List Kno} {s : Kno × Bool} (h : LatP nm l s) (x : Kno) : LatP nm (l ++ [x]) (latS nm s x) := by
  unfold latS
  split
  · rename_i hc
    rw [Bool.and_eq_true, eqN_iff, Bool.or_eq_true, Bool.not_eq_true', decide_eq_true_eq] at hc
    refine ⟨fun _ => ⟨List.mem_append_right _ (List.mem_singleton.2 rfl), hc.1⟩, (fun h => by cases h), fun y hy he => ⟨rfl, ?_⟩⟩
    rcases List.mem_append.1 hy with g | g
    · obtain ⟨q1, q2⟩ := h.top y g he
      rcases hc.2 with c | c
      · rw [q1] at c
        cases c
      · show y.e.v ≤ x.e.v
        omega
    · rw [List.mem_singleton.1 g]
      exact Int.le_refl _
  · rename_i hc
    rw [Bool.and_eq_true, eqN_iff, Bool.or_eq_true, Bool.not_eq_true', decide_eq_true_eq] at hc
    refine ⟨fun q => ⟨List.mem_append_left _ (h.yes q).1, (h.yes q).2⟩, fun q => ⟨(h.no q).1, fun y hy => ?_⟩, fun y hy he => ?_⟩
    · rcases List.mem_append.1 hy with g | g
      · exact (h.no q).2 y g
      · rw [List.mem_singleton.1 g]
        exact fun e => hc ⟨e, .inl q⟩
    · rcases List.mem_append.1 hy with g | g
      · exact h.top y g he
      · rw [List.mem_singleton.1 g] at he ⊢
        cases hs : s.2 with
        | false => exact absurd ⟨he, .inl hs⟩ hc
        | true => exact ⟨rfl, Decidable.byContradiction (fun q => hc ⟨he, .inr (by omega)⟩)⟩
theorem latF_spec (l : List Kno) (nm : ByteArray) : LatP nm l (latF l nm) := by
  have g : ∀ (l a : List Kno) (s : Kno × Bool), LatP nm a s → LatP nm (a ++ l) (l.foldl (latS nm) s) := by
    intro l
    induction l with
    | nil => intro a s h; rw [List.append_nil]; exact h
    | cons x l ih =>
      intro a s h
      have := ih (a ++ [x]) _ (h.step x)
      rw [List.append_assoc, List.singleton_append] at this
      exact this
  have := g l [] (Kno.none, false) ⟨(fun h => by cases h), fun _ => ⟨rfl, fun _ h => by cases h⟩, fun _ h => by cases h⟩
  rwa [List.nil_append] at this
/-- The latest version: at least 0, and no more than a version may be. -/
theorem ver_le {l : List Kno} (h : RtK l) (nm : ByteArray) : 0 ≤ (latF l nm).1.e.v ∧ (latF l nm).1.e.v ≤ 1073741824 := by
  have s := latF_spec l nm
  cases hb : (latF l nm).2 with
  | true =>
    have := headK_v (h.head _ (s.yes hb).1)
    omega
  | false =>
    rw [(s.no hb).1]
    exact ⟨Int.le_refl _, by decide⟩

/-! ### Find -/
def finK (l : List Kno) (nm : ByteArray) (v : Int) : Kno × Bool := match l.find? (fun x => eqN x.e.n nm && decide (x.e.v = v)) with
  | Option.none => (Kno.none, false)
  | some x => (x, true)
theorem finK_some {l : List Kno} (hp : l.Pairwise KLt) {x : Kno} (hx : x ∈ l) {nm : ByteArray} (hn : x.e.n.toList = nm.toList) {v : Int} (hv : x.e.v = v) : finK l nm v = (x, true) := by
  unfold finK
  cases hf : l.find? (fun x => eqN x.e.n nm && decide (x.e.v = v)) with
  | none =>
    have := List.find?_eq_none.1 hf x hx
    simp only [Bool.and_eq_true, eqN_iff, decide_eq_true_eq] at this
    exact absurd ⟨hn, hv⟩ this
  | some y =>
    have h1 := List.mem_of_find?_eq_some hf
    have h2 := List.find?_some hf
    simp only [Bool.and_eq_true, eqN_iff, decide_eq_true_eq] at h2
    rw [key_one hp h1 hx (h2.1.trans hn.symm) (by omega)]
theorem finK_none {l : List Kno} {nm : ByteArray} {v : Int} (h : ∀ x ∈ l, x.e.n.toList = nm.toList → x.e.v ≠ v) : finK l nm v = (Kno.none, false) := by
  unfold finK
  rw [List.find?_eq_none.2 (fun x hx => by
    simp only [Bool.and_eq_true, eqN_iff, decide_eq_true_eq]
    exact fun q => h x hx q.1 q.2)]
/-- All the versions up to one that is there are there. -/
theorem chain_down {l : List Kno} (h : RtK l) : ∀ (d : Nat) {x : Kno}, x ∈ l → ∀ v, 1 ≤ v → x.e.v = v + d → ∃ y ∈ l, y.e.n.toList = x.e.n.toList ∧ y.e.v = v ∧ y.p ≤ x.p
  | 0, x, hx, v, _, e => ⟨x, hx, rfl, by omega, Int.le_refl _⟩
  | d + 1, x, hx, v, hv, e => by
    obtain ⟨y, hy, y1, y2, y3⟩ := h.pre x hx (by omega)
    obtain ⟨z, hz, z1, z2, z3⟩ := chain_down h d hy v hv (by omega)
    exact ⟨z, hz, z1.trans y1, z2, by omega⟩

/-! ### Add -/
theorem insK_perm (l : List Kno) (x : Kno) : (insK l x).Perm (x :: l) := by
  unfold insK
  refine List.perm_middle.trans ?_
  rw [List.take_append_drop]
theorem insK_filter {l : List Kno} {x : Kno} (f : Kno → Bool) (hx : f x = false) : (insK l x).filter f = l.filter f := by
  unfold insK
  rw [List.filter_append, List.filter_cons_of_neg (by rw [hx]; decide), ← List.filter_append, List.take_append_drop]
theorem insK_lt {l : List Kno} {x : Kno} (hp : l.Pairwise KLt) (hne : ∀ y ∈ l, ¬ (y.e.n.toList = x.e.n.toList ∧ y.e.v = x.e.v)) : (insK l x).Pairwise KLt := by
  unfold insK
  have hd : ∀ y ∈ l.drop (place l x.e), KLt x y := by
    intro y hy
    obtain ⟨j, hj, rfl⟩ := List.getElem_of_mem hy
    rw [List.length_drop] at hj
    have hl : place l x.e < l.length := by omega
    have h0 := place_at hl
    have h1 : KLt x l[place l x.e] := by
      rcases KLt.total l[place l x.e] x with g | g | g
      · have q := aheadK_iff (y := l[place l x.e]) (e := x.e) (p := x.p)
        rw [h0] at q
        exact absurd (q.2 g) (by decide)
      · exact absurd g (hne _ (List.getElem_mem hl))
      · exact g
    rw [List.getElem_drop]
    rcases Nat.eq_zero_or_pos j with e | e
    · subst e
      exact h1
    · exact h1.trans (List.pairwise_iff_getElem.1 hp _ _ hl (by omega) (by omega))
  have ht : ∀ y ∈ l.take (place l x.e), KLt y x := by
    intro y hy
    obtain ⟨j, hj, rfl⟩ := List.getElem_of_mem hy
    rw [List.length_take] at hj
    rw [List.getElem_take]
    exact (aheadK_iff (p := x.p)).1 (place_lt (by omega) (by omega))
  refine List.pairwise_append.2 ⟨hp.sublist (List.take_sublist _ _), List.pairwise_cons.2 ⟨hd, hp.sublist (List.drop_sublist _ _)⟩, fun a ha b hb => ?_⟩
  rcases List.mem_cons.1 hb with rfl | hb
  · exact ht a ha
  · exact (ht a ha).trans (hd b hb)
/-- What Add asks of an entry, whatever else is in the batch. -/
def goodE (l : List Kno) (e : Ent) : Prop := entR e.n.size e.v e.k = true ∧ e.v = IntKind.i64.wrap ((latF l e.n).1.e.v + 1)
theorem mayE_iff {l : List Kno} {b : List Ent} {e : Ent} : mayE l b e = true ↔ goodE l e ∧ ∀ y ∈ b, y.n.toList ≠ e.n.toList := by
  unfold mayE goodE
  rw [Bool.and_eq_true, Bool.and_eq_true, decide_eq_true_eq, Bool.not_eq_true', List.any_eq_false]
  constructor
  · rintro ⟨h1, h2⟩
    exact ⟨h1, fun y hy e => h2 y hy (eqN_iff.2 e)⟩
  · rintro ⟨h1, h2⟩
    exact ⟨h1, fun y hy e => h2 y hy (eqN_iff.1 e)⟩
theorem good_v {l : List Kno} (h : RtK l) {e : Ent} (g : goodE l e) : e.v = (latF l e.n).1.e.v + 1 := by
  have := ver_le h e.n
  rw [g.2, IntKind.wrap_i64]
  omega
theorem addN_step {l out : List Kno} {p : Int} {b : List Ent} {i : Nat} (h : addN l p b (i + 1) = some out) (hi : i < b.length) : ∃ o, addN l p b i = some o ∧ mayE l (b.take i) b[i] = true ∧ out = insK o ⟨b[i], p⟩ := by
  unfold addN at h
  cases h0 : addN l p b i with
  | none => rw [h0] at h; cases h
  | some o =>
    rw [h0, List.getElem?_eq_getElem hi] at h
    simp only at h
    split at h
    · rename_i hm
      exact ⟨o, rfl, hm, (Option.some.inj h).symm⟩
    · cases h
theorem take_one {α : Type} (l : List α) (i : Nat) (h : i < l.length) : l.take (i + 1) = l.take i ++ [l[i]] := List.take_succ_eq_append_getElem h
theorem addN_perm {l : List Kno} {p : Int} {b : List Ent} : ∀ (i : Nat) (out : List Kno), i ≤ b.length → addN l p b i = some out → out.Perm ((b.take i).map (fun e => ⟨e, p⟩) ++ l)
  | 0, out, _, h => by
    obtain rfl := Option.some.inj h
    exact List.Perm.refl _
  | i + 1, out, hi, h => by
    obtain ⟨o, h0, _, rfl⟩ := addN_step h (by omega)
    have ih := addN_perm i o (by omega) h0
    rw [take_one b i (by omega), List.map_append, List.append_assoc]
    refine (insK_perm _ _).trans ((ih.cons _).trans ?_)
    exact List.perm_middle.symm
theorem addN_filter {l : List Kno} {p : Int} {b : List Ent} (f : Kno → Bool) (hf : ∀ e, f ⟨e, p⟩ = false) : ∀ (i : Nat) (out : List Kno), i ≤ b.length → addN l p b i = some out → out.filter f = l.filter f
  | 0, out, _, h => by
    obtain rfl := Option.some.inj h
    rfl
  | i + 1, out, hi, h => by
    obtain ⟨o, h0, _, rfl⟩ := addN_step h (by omega)
    rw [insK_filter f (hf _)]
    exact addN_filter f hf i o (by omega) h0
theorem addN_lt {l : List Kno} {p : Int} {b : List Ent} (hl : RtK l) : ∀ (i : Nat) (out : List Kno), i ≤ b.length → addN l p b i = some out → out.Pairwise KLt
  | 0, out, _, h => by
    obtain rfl := Option.some.inj h
    exact hl.lt
  | i + 1, out, hi, h => by
    obtain ⟨o, h0, hm, rfl⟩ := addN_step h (by omega)
    refine insK_lt (addN_lt hl i o (by omega) h0) (fun y hy hk => ?_)
    obtain ⟨hg, hn⟩ := mayE_iff.1 hm
    have hv := good_v hl hg
    rcases List.mem_append.1 ((addN_perm i o (by omega) h0).mem_iff.1 hy) with q | q
    · obtain ⟨e, he, rfl⟩ := List.mem_map.1 q
      exact hn e he hk.1
    · have := ((latF_spec l b[i].n).top y q hk.1).2
      have h2 : y.e.v = b[i].v := hk.2
      omega
theorem addN_good_all {l : List Kno} {p : Int} {b : List Ent} : ∀ (i : Nat) (out : List Kno), i ≤ b.length → addN l p b i = some out → (∀ e ∈ b.take i, goodE l e) ∧ (b.take i).Pairwise (fun x y => x.n.toList ≠ y.n.toList)
  | 0, out, _, _ => ⟨(fun e h => by simp at h), by simp⟩
  | i + 1, out, hi, h => by
    obtain ⟨o, h0, hm, rfl⟩ := addN_step h (by omega)
    obtain ⟨hg, hn⟩ := mayE_iff.1 hm
    obtain ⟨g1, g2⟩ := addN_good_all i o (by omega) h0
    rw [take_one b i (by omega)]
    refine ⟨fun e he => ?_, List.pairwise_append.2 ⟨g2, List.pairwise_singleton _ _, fun x hx y hy => ?_⟩⟩
    · rcases List.mem_append.1 he with q | q
      · exact g1 e q
      · rw [List.mem_singleton.1 q]
        exact hg
    · rw [List.mem_singleton.1 hy]
      exact hn x hx
theorem addN_some {l : List Kno} {p : Int} {b : List Ent} (hg : ∀ e ∈ b, goodE l e) (hn : b.Pairwise (fun x y => x.n.toList ≠ y.n.toList)) : ∀ i, i ≤ b.length → ∃ out, addN l p b i = some out
  | 0, _ => ⟨l, rfl⟩
  | i + 1, hi => by
    obtain ⟨o, h0⟩ := addN_some hg hn i (by omega)
    refine ⟨_, addN_good h0 (by omega) (mayE_iff.2 ⟨hg _ (List.getElem_mem _), fun y hy => ?_⟩)⟩
    obtain ⟨j, hj, rfl⟩ := List.getElem_of_mem hy
    rw [List.length_take] at hj
    rw [List.getElem_take]
    exact List.pairwise_iff_getElem.1 hn j i (by omega) (by omega) (by omega)
/-- What a batch that comes makes of a directory. -/
structure Adds (l : List Kno) (p : Int) (b : List Ent) (out : List Kno) : Prop where
  pos : 1 ≤ p
  new : ∀ y ∈ l, y.p < p
  perm : out.Perm (b.map (fun e => ⟨e, p⟩) ++ l)
  good : ∀ e ∈ b, goodE l e
  names : b.Pairwise (fun x y => x.n.toList ≠ y.n.toList)
  eqn : addN l p b b.length = some out
theorem addF_no {l : List Kno} {p : Int} {b : List Ent} (h : (addF l p b).2 = false) : (addF l p b).1 = l := by
  unfold addF at *
  split at h
  · rename_i h1
    rw [if_pos h1]
  · rename_i h1
    rw [if_neg h1]
    split at h
    · rename_i h2
      rw [if_pos h2]
    · rename_i h2
      rw [if_neg h2]
      cases h3 : addN l p b b.length with
      | none => rfl
      | some o => rw [h3] at h; cases h
theorem addF_yes {l : List Kno} {p : Int} {b : List Ent} (h : (addF l p b).2 = true) : Adds l p b (addF l p b).1 := by
  unfold addF at *
  split at h
  · cases h
  · rename_i h1
    rw [if_neg h1]
    split at h
    · cases h
    · rename_i h2
      rw [if_neg h2]
      cases h3 : addN l p b b.length with
      | none => rw [h3] at h; cases h
      | some o =>
        have q := addN_good_all b.length o (Nat.le_refl _) h3
        have r := addN_perm b.length o (Nat.le_refl _) h3
        rw [List.take_length] at q r
        refine ⟨by omega, fun y hy => ?_, r, q.1, q.2, h3⟩
        simp only [List.any_eq_true, decide_eq_true_eq, not_exists, not_and] at h2
        have := h2 y hy
        omega
theorem Adds.len {l : List Kno} {p : Int} {b : List Ent} {out : List Kno} (h : Adds l p b out) : out.length = l.length + b.length := by
  have := h.perm.length_eq
  simp at this
  omega
theorem Adds.mem {l : List Kno} {p : Int} {b : List Ent} {out : List Kno} (h : Adds l p b out) (x : Kno) : x ∈ out ↔ (∃ e ∈ b, x = ⟨e, p⟩) ∨ x ∈ l := by
  rw [h.perm.mem_iff, List.mem_append, List.mem_map]
  constructor
  · rintro (⟨e, he, rfl⟩ | q)
    · exact .inl ⟨e, he, rfl⟩
    · exact .inr q
  · rintro (⟨e, he, rfl⟩ | q)
    · exact .inl ⟨e, he, rfl⟩
    · exact .inr q
theorem Adds.right {l : List Kno} {p : Int} {b : List Ent} {out : List Kno} (h : Adds l p b out) (hl : RtK l) : RtK out := by
  refine ⟨fun x hx => ?_, addN_lt hl _ _ (Nat.le_refl _) h.eqn, fun x hx hv => ?_⟩
  · rcases (h.mem x).1 hx with ⟨e, he, rfl⟩ | q
    · unfold headK
      rw [Bool.and_eq_true, decide_eq_true_eq]
      exact ⟨(h.good e he).1, h.pos⟩
    · exact hl.head x q
  · rcases (h.mem x).1 hx with ⟨e, he, rfl⟩ | q
    · have hv' : e.v ≠ 1 := hv
      have gv := good_v hl (h.good e he)
      have s := latF_spec l e.n
      cases hb : (latF l e.n).2 with
      | false =>
        have e0 : (latF l e.n).1.e.v = 0 := by rw [(s.no hb).1]; rfl
        omega
      | true =>
        obtain ⟨y1, y2⟩ := s.yes hb
        exact ⟨_, (h.mem _).2 (.inr y1), y2, gv.symm, h.new _ y1⟩
    · obtain ⟨y, y0, y1⟩ := hl.pre x q hv
      exact ⟨y, (h.mem _).2 (.inr y0), y1⟩
/-- Each version of a new one is there; only the last one is of this epoch. -/
theorem Adds.chain {l : List Kno} {p : Int} {b : List Ent} {out : List Kno} (h : Adds l p b out) (hl : RtK l) {e : Ent} (he : e ∈ b) {v : Int} (h1 : 1 ≤ v) (h2 : v ≤ e.v) : ∃ k, finK out e.n v = (k, true) ∧ k.e.v = v ∧ (k.p = p ↔ v = e.v) := by
  have hr := (h.right hl).lt
  by_cases hv : v = e.v
  · subst hv
    exact ⟨⟨e, p⟩, finK_some hr ((h.mem _).2 (.inl ⟨e, he, rfl⟩)) rfl rfl, rfl, ⟨fun _ => rfl, fun _ => rfl⟩⟩
  · have gv := good_v hl (h.good e he)
    have s := latF_spec l e.n
    cases hb : (latF l e.n).2 with
    | false =>
      have e0 : (latF l e.n).1.e.v = 0 := by rw [(s.no hb).1]; rfl
      omega
    | true =>
      obtain ⟨y1, y2⟩ := s.yes hb
      obtain ⟨z, z0, z1, z2, _⟩ := chain_down hl ((latF l e.n).1.e.v - v).toNat y1 v h1 (by omega)
      have := h.new z z0
      exact ⟨z, finK_some hr ((h.mem _).2 (.inr z0)) (z1.trans y2) z2, z2, ⟨fun q => by omega, fun q => by omega⟩⟩
/-- In whatever order. -/
theorem addF_perm {l : List Kno} (hl : RtK l) {p : Int} {b b' : List Ent} (hb : b.Perm b') : addF l p b = addF l p b' := by
  have key : ∀ {b b' : List Ent}, b.Perm b' → ∀ out, addN l p b b.length = some out → addN l p b' b'.length = some out := by
    intro b b' hb out h
    have q := addN_good_all b.length out (Nat.le_refl _) h
    have r := addN_perm b.length out (Nat.le_refl _) h
    have t := addN_lt hl b.length out (Nat.le_refl _) h
    rw [List.take_length] at q r
    obtain ⟨o, ho⟩ := addN_some (l := l) (p := p) (b := b') (fun e he => q.1 e (hb.mem_iff.2 he)) ((hb.pairwise_iff (fun {x y} h => Ne.symm h)).1 q.2) b'.length (Nat.le_refl _)
    have r' := addN_perm b'.length o (Nat.le_refl _) ho
    have t' := addN_lt hl b'.length o (Nat.le_refl _) ho
    rw [List.take_length] at r'
    have hp : out.Perm o := r.trans (((hb.map _).append_right l).trans r'.symm)
    rw [ho, hp.eq_of_pairwise (fun x y _ _ h1 h2 => absurd (h1.trans h2) KLt.irrefl) t t']
  have e : addN l p b b.length = addN l p b' b'.length := by
    cases h : addN l p b b.length with
    | some o => exact (key hb o h).symm
    | none =>
      cases h' : addN l p b' b'.length with
      | none => rfl
      | some o => rw [key hb.symm o h'] at h; cases h
  unfold addF
  rw [e]
end Go.Pm
namespace Go.Proofs.Ytdobmebhjmgkmaa
open Go.RowKit Go.Pm

theorem tBytes : Try.prog.underlying 22 = some (.slice (Try.prog.elem 22)) := by kernel_rfl
theorem tBytes' : Try.prog.underlying 22 = some (.slice 5) := by kernel_rfl
theorem tByte : Try.prog.underlying 5 = some (.int .u8) := by kernel_rfl
theorem tString : Try.prog.underlying 9 = some .string := by kernel_rfl
theorem zBytes : ∀ W, (sizeOf (Try.prog.elem 22)).run Try.prog W = .ok 1 W := fun _ => by kernel_rfl
theorem infoByte : (Try.prog.info? 5).map (fun i => (i.zero, i.size, i.bytes)) = some (some (.int .u8 0), 1, 1) := by kernel_rfl
theorem rtBytes : RowTy Try.prog 22 5 (.int .u8 0) 1 := ⟨by kernel_rfl, info_parts infoByte, rfl⟩
/-- Bytes that the call owns. -/
abbrev Ob (w : World) (base : Nat) (v : Value) (l : List UInt8) : Prop := Bo 5 w base v l


theorem cvBytes {w : World} {lo hi : Nat} {v : Value} {l : List UInt8} (h : Bs w lo hi v l) : (convert 22 9 v).run Try.prog w = .ok (.string ⟨l.toArray⟩) w := run_string_bs tBytes' tByte tString h

/-- '[]byte("..")' of a constant. -/
theorem constBytes (w : World) (C : Array Value) (n c g : Nat) (hg : g = w.heap.size) : (convert 22 22 (.slice (some ⟨g, 0, none⟩) n c)).run Try.prog (w.alloc (.cells C 5)) = .ok (.slice (some ⟨g, 0, none⟩) n c) (w.alloc (.cells C 5 (C.size, C.size + 1))) := by
  subst hg; exact Lib.run_convert_bytes_const w 22 5 C n c tBytes' tByte

end Go.Proofs.Ytdobmebhjmgkmaa
namespace Go.Proofs.Ytdobmebhjmgkmaa
open Go.RowKit Go.Pm
namespace Sg
theorem num_end (h : List UInt8) : leV (h.take 8) % 2305843009213693950 = (numB h : Nat) := by
  unfold numB
  rw [Int.natCast_emod, leV_nat, leV_take]
  rfl

/-- A signature. -/
abbrev sigV (r s : Nat) : Value := .agg #[.int .u64 r, .int .u64 s]

theorem AggTy.of {P : Program} {t : TypeId} {n : Nat} (h : (P.underlying t).map aggD = some true) (h2 : (P.info? t).map (·.size) = some n) : AggTy P t n := by
  cases hu : P.underlying t with
  | none => rw [hu] at h; cases h
  | some d => rw [hu] at h; exact ⟨⟨d, hu, by simpa using h⟩, h2⟩
theorem aSig : AggTy Try.prog 25 2 := AggTy.of (by kernel_rfl) (by kernel_rfl)
theorem sig_all (r s : Nat) : (#[.int .u64 (r : Int), .int .u64 (s : Int)] : Array Value).all (·.oneCell') = true := by simp [Value.oneCell']

/-- A signature's bytes. -/
def sigB (r s : Nat) : List UInt8 := leB r ++ leB s
theorem sigB_len (r s : Nat) : (sigB r s).length = 16 := by simp [sigB, leB_length]

end Sg
end Go.Proofs.Ytdobmebhjmgkmaa
/- Package bin, what writes: each function by its contract. -/
namespace Go.Proofs.Ytdobmebhjmgkmaa
open Go.RowKit Go.Pm

namespace Bin
theorem mk8 : ∀ w : World, (Instr.makeSlice 22 (.int .i64 8) (.int .i64 8)).run Try.prog w = .ok (.slice (some ⟨w.heap.size, 0, none⟩) 8 8) (w.alloc (.cells (Array.replicate 8 (.int .u8 0)) 5)) := fun _ => by kernel_rfl

set_option maxHeartbeats 400000 in
/-- bin.Num. -/
theorem num (n : Int) (w : World) (h0 : 0 ≤ n) (h1 : n < 18446744073709551616) :
    Calls Try.prog 56 #[.int .u64 n] w fun e w' => ∃ v, e = .returned v ∧ Kept None w w' ∧ Ob w' w.heap.size v (leB n) := by
  have hmk := mk8
  go_enter Try.func56, Try.ntmps56
  go_wp2
  refine wp_loop_rounds 9 ?_
  iterate 9 (rw [rounds_succ]; go_wp2)
  go_ret
  refine ⟨_, rfl, (Kept.refl _ _).alloc _, Bo.new w 5 (leB n) _ ?_ 8 rfl (by decide)⟩
  simp [leB, u8v_byteOf]
  omega

set_option maxHeartbeats 1000000 in
/-- bin.Join. -/
theorem join (v : Value) (lo hi lo' hi' : Nat) (ls : List (List UInt8)) (w : World) (hv : Bss w lo hi lo' hi' v ls) (hl : total ls ≤ 140737488355328) :
    Calls Try.prog 54 #[v] w fun en w' => ∃ v', en = .returned v' ∧ Kept None w w' ∧ Ob w' w.heap.size v' ls.flatten := by
  obtain ⟨a, cap, rfl, g1, g2, g3⟩ := hv.shape
  have hlen : ls.length ≤ 9223372036854775807 := by omega
  obtain ⟨i0, hi0, hz0, hz1, hz2⟩ := info_parts infoByte
  go_enter Try.func54, Try.ntmps54
  go_wp2
  go_loop [3, 11] (fun t i => ∃ k : Nat, k ≤ ls.length ∧ i = .int .i64 k ∧ ∃ m : Nat, m = total (ls.take k) ∧ t = .int .i64 m) (fun _ i => ls.length - (intOf i).toNat)
  case atStart => exact ⟨0, Nat.zero_le _, rfl, 0, by simp [total], rfl⟩
  case round =>
    obtain ⟨k, hk, rfl, m, hm, rfl⟩ := hrel
    have hml : m ≤ 140737488355328 := by have := total_take_le ls k; omega
    by_cases hlt : k < ls.length
    · obtain ⟨b, o, rfl, q1, q2, q3, hc⟩ := Bss.at hv (by omega)
      obtain ⟨a', c', hc', hb'⟩ := hc k hlt
      have hm' : m + ls[k].length = total (ls.take (k + 1)) := by rw [total_take ls k hlt, hm]
      have hml' : m + ls[k].length ≤ 140737488355328 := by have := total_take_le ls (k + 1); omega
      generalize hn' : ls[k].length = n' at *
      have HM := hid hm'
      clear hm' hm hb' hc g3 hv hn'
      go_wp2
      go_round
      case rel => exact ⟨k + 1, by omega, by go_num, m + n', HM.out, by go_num⟩
      case measure => simp [intOf]; omega
    · have hm2 : m = total ls := by rw [hm, List.take_of_length_le (by omega)]
      have HM := hid hm2
      clear hm2 hm
      go_wp2_with (at_make; refine wpList_make_own _ rfl _ _ 22 rfl w.heap.size 5 i0 (.int .u8 0) 1 tBytes' hi0 hz0 hz1 .i64 .i64 (m : Int) m rfl rfl rfl ?h1 ?h2 ?h3 ?h4)
      case h1 => omega
      case h2 => unfold maxLen; omega
      case h4 =>
        intro w1 hown hgrow
        have hk1 : Kept None w w1 := Kept.grown (Kept.refl _ _) hgrow (fun _ h => by cases h)
        have hb1 : Ob w1 w.heap.size (.slice (some ⟨w.heap.size, 0, none⟩) 0 m) [] := hown
        clear hown hgrow
        go_wp2
        go_loopw [6, 24] (fun t i wr => ∃ k : Nat, k ≤ ls.length ∧ i = .int .i64 k ∧ (∃ a n c, t = .slice a n c) ∧ Ob wr w.heap.size t (ls.take k).flatten ∧ Kept None w wr) (fun _ i _ => ls.length - (intOf i).toNat)
        case atStart => exact ⟨0, Nat.zero_le _, rfl, ⟨_, _, _, rfl⟩, hb1, hk1⟩
        case round =>
          clear hb1 hk1
          obtain ⟨k, hk, rfl, ⟨a1, n1, c1, rfl⟩, hb, hkk⟩ := hrel
          have hsz := hkk.size
          by_cases hlt : k < ls.length
          · have hvr := hv.kept hkk (fun _ _ _ h => h) (fun _ _ _ h => h)
            obtain ⟨b, o, rfl, q1, q2, q3, hc⟩ := Bss.at hvr (by omega)
            obtain ⟨a', c', hc', hb'⟩ := hc k hlt
            have hml : total (ls.take k) + ls[k].length ≤ 140737488355328 := by have := total_take_le ls (k + 1); rw [total_take ls k hlt] at this; omega
            have hfl := flatten_take ls k hlt
            generalize hx : ls[k] = x at *
            have HF := hid hfl
            clear hfl hx hc hvr g3 hv
            go_wp2_with (at_builtin; refine wpList_append_bo (l := (ls.take k).flatten) (m := x) (base := w.heap.size) (lo := lo') (hi := hi') rfl _ _ 22 rfl rtBytes rfl rfl ?k1 ?k2 ?k3 ?k4 ?k5)
            case k1 => exact hb
            case k2 => exact hb'
            case k3 => exact hml
            case k4 => exact hsz
            case k5 =>
              intro a2 n2 c2 w2 hb2 hk2
              have hk3 := Kept.own hkk hk2 (fun k hk => (hb.own k hk).1)
              rw [← HF.out] at hb2
              clear hb hb' hkk hk2 HF
              go_wp2
              go_roundw
              case rel => exact ⟨k + 1, by omega, by go_num, ⟨_, _, _, rfl⟩, hb2, hk3⟩
              case measure => simp [intOf]; omega
          · have hb3 : Ob wr w.heap.size (.slice a1 n1 c1) ls.flatten := by rw [List.take_of_length_le (by omega)] at hb; exact hb
            clear hb hv g3
            go_wp2
            go_ret
            exact ⟨_, rfl, hkk, hb3⟩

set_option maxHeartbeats 400000 in
/-- bin.Lump. -/
theorem lump (v : Value) (lo hi : Nat) (l : List UInt8) (w : World) (hv : Bs w lo hi v l) (hl : l.length ≤ 70368744177664) :
    Calls Try.prog 55 #[v] w fun en w' => ∃ v', en = .returned v' ∧ Kept None w w' ∧ Ob w' w.heap.size v' (leB l.length ++ l) := by
  obtain ⟨a, cap, rfl, g1, g2, g3⟩ := hv.shape
  go_enter Try.func55, Try.ntmps55
  go_wp2_with fail
  refine (num _ w (by omega) (by omega)).mono ?_
  rintro e1 w1 ⟨v1, rfl, hk, hb⟩
  obtain ⟨a1, c1, rfl⟩ := hb.form
  have hs := hb.bs (Nat.le_refl _)
  have hv1 := hv.kept hk (fun _ _ _ h => h)
  rw [leB_length] at hs
  clear hb hv g3
  go_wp2_with fail
  rw [leB_length]
  have hbs := Bss.new w1 #[.slice a1 8 c1, .slice a l.length cap] 22 [leB l.length, l] 2 rfl (by decide) ⟨hs.all, hv1.all, trivial⟩
  refine (join _ _ _ _ _ _ _ hbs (by simp [total, leB_length]; omega)).mono ?_
  rintro e2 w2 ⟨v2, rfl, hk2, hb2⟩
  have hsz := hk.size
  go_wp2
  go_ret
  exact ⟨_, rfl, (hk.alloc _).then hk2 (fun _ _ h => h.elim), by have := Bo.base (base' := w.heap.size) hb2 (by simp; omega); simpa using this⟩
end Bin
end Go.Proofs.Ytdobmebhjmgkmaa

/- Package postmarkref1, what writes bytes: each function by its contract, over the same plain functions as package bin. -/
namespace Go.Proofs.Ytdobmebhjmgkmaa
open Go.RowKit Go.Pm

namespace Ref
set_option maxHeartbeats 400000 in
/-- postmarkref1.Num. -/
theorem num (n : Int) (w : World) (h0 : 0 ≤ n) (_h1 : n < 18446744073709551616) :
    Calls Try.prog 45 #[.int .u64 n] w fun e w' => ∃ v, e = .returned v ∧ Kept None w w' ∧ Ob w' w.heap.size v (leB n) := by
  go_enter Try.func45, Try.ntmps45
  go_wp2
  go_loopw [3, 4] (fun b i wr => ∃ k : Nat, k ≤ 8 ∧ i = .int .i64 k ∧ Ob wr w.heap.size b ((leB n).take k) ∧ Kept None w wr ∧ (∃ a n c, b = .slice a n c)) (fun _ i _ => 8 - (intOf i).toNat)
  case atStart => exact ⟨0, by omega, rfl, Bo.nil _ _ _, Kept.refl _ _, _, _, _, rfl⟩
  case round =>
    obtain ⟨k, hk8, rfl, hb, hk, a, m, c, rfl⟩ := hrel
    by_cases hlt : k < 8
    · have hpos : (0 : Int) ≤ n / 2 ^ (8 * k) := Int.ediv_nonneg h0 (Int.pow_nonneg (by decide))
      go_wp2_with (at_builtin; refine wpList_append_byte rfl _ _ 22 rfl rtBytes rfl rfl hb ?h1 ?h2 ?h3 ?h4 ?h5)
      case h1 => omega
      case h2 => omega
      case h3 => simp [leB_length]; omega
      case h4 => exact hk.size
      case h5 =>
        intro a' n' cap' w' h1 h2
        have hk' := Kept.own hk h2 (fun k hk => (hb.own k hk).1)
        have hb' : Ob w' w.heap.size (.slice a' n' cap') ((leB n).take (k + 1)) := by rw [leB_take n k hlt]; exact h1
        clear hk hb h1 h2
        go_wp2
        go_roundw
        case rel => exact ⟨k + 1, by omega, by go_num, hb', hk', _, _, _, rfl⟩
        case measure => simp [intOf]; omega
    · have h8 : k = 8 := by omega
      have hfin : ∃ v, Ending.returned (.slice a m c) = .returned v ∧ Kept None w wr ∧ Ob wr w.heap.size v (leB n) := ⟨_, rfl, hk, by subst h8; exact hb⟩
      clear h8
      go_wp2
      go_ret
      exact hfin

set_option maxHeartbeats 400000 in
/-- postmarkref1.Lump. -/
theorem lump (v : Value) (lo hi : Nat) (l : List UInt8) (w : World) (hv : Bs w lo hi v l) (hl : l.length ≤ 70368744177664) :
    Calls Try.prog 61 #[v] w fun en w' => ∃ v', en = .returned v' ∧ Kept None w w' ∧ Ob w' w.heap.size v' (leB l.length ++ l) := by
  obtain ⟨a, cap, rfl, g1, g2, g3⟩ := hv.shape
  go_enter Try.func61, Try.ntmps61
  go_wp2_with fail
  refine (num _ w (by omega) (by omega)).mono ?_
  rintro e1 w1 ⟨v1, rfl, hk, hb⟩
  obtain ⟨a1, c1, rfl⟩ := hb.form
  have hv1 := hv.kept hk (fun _ _ _ h => h)
  have hsz := hk.size
  clear hv g3
  go_wp2_with (at_builtin; refine wpList_append_bo (l := leB l.length) (m := l) (base := w.heap.size) (lo := lo) (hi := hi) rfl _ _ 22 rfl rtBytes rfl rfl ?k1 ?k2 ?k3 ?k4 ?k5)
  case k1 => exact hb
  case k2 => exact hv1
  case k3 => rw [leB_length]; omega
  case k4 => exact hsz
  case k5 =>
    intro a2 n2 c2 w2 hb2 hk2
    have hk3 := Kept.own hk hk2 (fun k hk => (hb.own k hk).1)
    clear hb hv1 hk hk2
    go_wp2
    go_ret
    exact ⟨_, rfl, hk3, hb2⟩

set_option maxHeartbeats 1000000 in
/-- postmarkref1.Word. -/
theorem word (v : Value) (lo hi : Nat) (l : List UInt8) (w : World) (hv : Bs w lo hi v l) (hl : l.length = 8) :
    Calls Try.prog 58 #[v] w fun en w' => en = .returned (.int .u64 (leV l)) ∧ w = w' := by
  have hV : leV l = leV l := rfl
  conv at hV => rhs; unfold leV
  generalize leV l = V at hV ⊢
  obtain ⟨b, o, cap, rfl, g1, g2, q1, q2, q3, hc⟩ := Bs.lit hv 8 hl (by omega)
  have c0 := hc 0 (by omega)
  have c1 := hc 1 (by omega)
  have c2 := hc 2 (by omega)
  have c3 := hc 3 (by omega)
  have c4 := hc 4 (by omega)
  have c5 := hc 5 (by omega)
  have c6 := hc 6 (by omega)
  have c7 := hc 7 (by omega)
  simp only [Nat.add_zero] at c0
  have B := fun i => bAt_lt l i
  have A := fun i => bAt_ge l i
  clear hc hv hl
  have b0 := B 0
  have a0 := A 0
  have b1 := B 1
  have a1 := A 1
  have b2 := B 2
  have a2 := A 2
  have b3 := B 3
  have a3 := A 3
  have b4 := B 4
  have a4 := A 4
  have b5 := B 5
  have a5 := A 5
  have b6 := B 6
  have a6 := A 6
  have b7 := B 7
  have a7 := A 7
  clear A B
  generalize bAt l 0 = x0 at *
  generalize bAt l 1 = x1 at *
  generalize bAt l 2 = x2 at *
  generalize bAt l 3 = x3 at *
  generalize bAt l 4 = x4 at *
  generalize bAt l 5 = x5 at *
  generalize bAt l 6 = x6 at *
  generalize bAt l 7 = x7 at *
  have HV := hid hV
  clear hV
  go_enter Try.func58, Try.ntmps58
  go_wp2
  refine wp_loop_rounds 9 ?_
  iterate 9 (rw [rounds_succ]; go_wp2)
  go_ret
  refine ⟨?_, rfl⟩
  show Ending.returned (.int .u64 _) = _
  rw [or_zero x7 a7 b7, or_step x7 x6 (by omega) (by omega) a6 b6, or_step _ x5 (by omega) (by omega) a5 b5, or_step _ x4 (by omega) (by omega) a4 b4, or_step _ x3 (by omega) (by omega) a3 b3,
    or_step _ x2 (by omega) (by omega) a2 b2, or_step _ x1 (by omega) (by omega) a1 b1, or_step _ x0 (by omega) (by omega) a0 b0, HV.out]
  congr 2
  omega

end Ref
end Go.Proofs.Ytdobmebhjmgkmaa
namespace Go.Proofs.Ytdobmebhjmgkmaa
open Go.RowKit Go.Pm
namespace Up
theorem aEnt : AggTy Try.prog 48 3 := Sg.AggTy.of (by kernel_rfl) (by kernel_rfl)
theorem ent_all (n : ByteArray) (v : Int) (k : Nat) : (#[.string n, .int .i64 v, .int .u64 (k : Int)] : Array Value).all (·.oneCell') = true := by simp [Value.oneCell']
end Up
end Go.Proofs.Ytdobmebhjmgkmaa
namespace Go.Pm
open Go Go.RowKit

structure Pf where
  path : List (List UInt8)
  e : Int
  x : It
  deriving DecidableEq
def zero32 : List UInt8 := List.replicate 32 0
def zeroIt : It := ⟨zero32, zero32⟩
def zeroPf : Pf := ⟨[], 0, zeroIt⟩
/-- Its hashes have 32 bytes. -/
def Pf.Ok (p : Pf) : Prop := H32 p.path ∧ p.x.i.length = 32 ∧ p.x.v.length = 32
theorem zero32_len : zero32.length = 32 := rfl
theorem zeroPf_ok : zeroPf.Ok := ⟨H32.nil, rfl, rfl⟩

/-! ### The way down -/
/-- The other sides' roots on the way of an index, and what is left at its end. -/
def downI : Nat → List It → List UInt8 → Nat → List (List UInt8) × List It
  | 0, l, _, _ => ([], l)
  | f + 1, l, i, j => if l.length < 2 then ([], l) else (rootI f (half l j (1 - bitI i j)) (j + 1) :: (downI f (half l j (bitI i j)) i (j + 1)).1, (downI f (half l j (bitI i j)) i (j + 1)).2)
theorem downI_few (f : Nat) {l : List It} (i : List UInt8) (j : Nat) (h : l.length < 2) : downI f l i j = ([], l) := by
  cases f
  · rfl
  · unfold downI; rw [if_pos h]
theorem downI_more (f : Nat) {l : List It} (i : List UInt8) (j : Nat) (h : 2 ≤ l.length) : downI (f + 1) l i j = (rootI f (half l j (1 - bitI i j)) (j + 1) :: (downI f (half l j (bitI i j)) i (j + 1)).1, (downI f (half l j (bitI i j)) i (j + 1)).2) := by
  conv => lhs; unfold downI
  rw [if_neg (by omega)]
/-- The proof of a way and what is left at its end. -/
def endI (p : List (List UInt8)) (r : List It) (i : List UInt8) : Pf :=
  match r with
  | [] => ⟨p, 1, zeroIt⟩
  | x :: _ => if x.i = i then ⟨p, 0, x⟩ else ⟨p, 2, x⟩
theorem endI_path (p : List (List UInt8)) (r : List It) (i : List UInt8) : (endI p r i).path = p := by
  unfold endI
  split
  · rfl
  · split <;> rfl
/-- Make. -/
def makeP (l : List It) (i : List UInt8) : Pf := endI (downI 256 (setI l) i 0).1 (downI 256 (setI l) i 0).2 i
theorem rootI_len' (f : Nat) (l : List It) (j : Nat) (h : Srt l) (hl : Len l) (ha : Agree l j) (hf : 256 ≤ f + j) : (rootI f l j).length = 32 := by
  match f, l with
  | 0, [] => exact sumB_len _
  | _ + 1, [] => exact sumB_len _
  | 0, [x] => exact sumB_len _
  | _ + 1, [x] => exact sumB_len _
  | 0, x :: y :: l => have := agree_lt h hl ha (by simp); omega
  | f + 1, x :: y :: l => exact sumB_len _
theorem half_len' (l : List It) (j b : Nat) : (half l j b).length ≤ l.length := List.length_filter_le _ _
theorem downI_h32 : ∀ (f : Nat) (l : List It) (i : List UInt8) (j : Nat), Srt l → Len l → Agree l j → 256 ≤ f + j → H32 (downI f l i j).1
  | 0, l, i, j, _, _, _, _ => H32.nil
  | f + 1, l, i, j, hs, hl, ha, hf => by
    by_cases h : l.length < 2
    · rw [downI_few _ _ _ h]; exact H32.nil
    · rw [downI_more f i j (by omega)]
      exact H32.cons (rootI_len' f _ _ (srt_half hs _ _) (len_half hl _ _) (agree_half ha _) (by omega)) (downI_h32 f _ i (j + 1) (srt_half hs _ _) (len_half hl _ _) (agree_half ha _) (by omega))
theorem downI_rest : ∀ (f : Nat) (l : List It) (i : List UInt8) (j : Nat), ∀ x ∈ (downI f l i j).2, x ∈ l ∧ ∀ k, k < (downI f l i j).1.length → bitI x.i (j + k) = bitI i (j + k)
  | 0, l, i, j => fun x hx => ⟨hx, fun k hk => by simp [downI] at hk⟩
  | f + 1, l, i, j => by
    by_cases h : l.length < 2
    · rw [downI_few _ _ _ h]; exact fun x hx => ⟨hx, fun k hk => by simp at hk⟩
    · rw [downI_more f i j (by omega)]
      intro x hx
      obtain ⟨h1, h2⟩ := downI_rest f _ i (j + 1) x hx
      obtain ⟨h3, h4⟩ := mem_half.1 h1
      refine ⟨h3, fun k hk => ?_⟩
      cases k with
      | zero => exact h4
      | succ k =>
        have := h2 k (by simpa using hk)
        rwa [show j + 1 + k = j + (k + 1) by omega] at this
theorem downI_few_left : ∀ (f : Nat) (l : List It) (i : List UInt8) (j : Nat), Srt l → Len l → Agree l j → 256 ≤ f + j → (downI f l i j).2.length < 2
  | 0, l, i, j, hs, hl, ha, hf => by
    show l.length < 2
    rcases Nat.lt_or_ge l.length 2 with h | h
    · exact h
    · have := agree_lt hs hl ha h; omega
  | f + 1, l, i, j, hs, hl, ha, hf => by
    by_cases h : l.length < 2
    · rw [downI_few _ _ _ h]; exact h
    · rw [downI_more f i j (by omega)]
      exact downI_few_left f _ i (j + 1) (srt_half hs _ _) (len_half hl _ _) (agree_half ha _) (by omega)
theorem downI_len : ∀ (f : Nat) (l : List It) (i : List UInt8) (j : Nat), (downI f l i j).1.length ≤ f
  | 0, l, i, j => Nat.le_refl _
  | f + 1, l, i, j => by
    by_cases h : l.length < 2
    · rw [downI_few _ _ _ h]; exact Nat.zero_le _
    · rw [downI_more f i j (by omega)]
      have := downI_len f (half l j (bitI i j)) i (j + 1)
      simp only [List.length_cons]
      omega
/-- Who has the index is left. -/
theorem downI_has : ∀ (f : Nat) (l : List It) (i : List UInt8) (j : Nat), ∀ x ∈ l, x.i = i → x ∈ (downI f l i j).2
  | 0, l, i, j => fun x hx _ => hx
  | f + 1, l, i, j => by
    by_cases h : l.length < 2
    · rw [downI_few _ _ _ h]; exact fun x hx _ => hx
    · rw [downI_more f i j (by omega)]
      exact fun x hx hi => downI_has f _ i (j + 1) x (mem_half.2 ⟨hx, by rw [hi]⟩) hi

/-! ### The way up -/
/-- The text of a proof's end. -/
def footB (p : Pf) : List UInt8 := if p.e = 1 then textB 122 [] else textB 108 [p.x.i, p.x.v]
/-- The texts from a place on. -/
def climbB (i foot : List UInt8) : List (List UInt8) → Nat → List (List UInt8)
  | [], _ => [foot]
  | r :: rs, j => (if bitI i j = 1 then textB 110 [r, sumB ((climbB i foot rs (j + 1)).headD [])] else textB 110 [sumB ((climbB i foot rs (j + 1)).headD []), r]) :: climbB i foot rs (j + 1)
theorem climbB_len (i foot : List UInt8) : ∀ (rs : List (List UInt8)) (j : Nat), (climbB i foot rs j).length = rs.length + 1
  | [], _ => rfl
  | r :: rs, j => by simp [climbB, climbB_len i foot rs (j + 1)]
/-- What they come to. -/
def climbH (i foot : List UInt8) (rs : List (List UInt8)) (j : Nat) : List UInt8 := sumB ((climbB i foot rs j).headD [])
theorem climbH_len (i foot : List UInt8) (rs : List (List UInt8)) (j : Nat) : (climbH i foot rs j).length = 32 := sumB_len _
theorem climbH_nil (i foot : List UInt8) (j : Nat) : climbH i foot [] j = sumB foot := rfl
theorem climbH_cons (i foot r : List UInt8) (rs : List (List UInt8)) (j : Nat) : climbH i foot (r :: rs) j = if bitI i j = 1 then nodeH r (climbH i foot rs (j + 1)) else nodeH (climbH i foot rs (j + 1)) r := by
  unfold climbH
  rw [climbB]
  split <;> rfl
def textsP (i : List UInt8) (p : Pf) : List (List UInt8) := climbB i (footB p) p.path 0
def rootP (i : List UInt8) (p : Pf) : List UInt8 := climbH i (footB p) p.path 0
theorem foot_end (p : List (List UInt8)) (r : List It) (i : List UInt8) (f j : Nat) (h : r.length < 2) : sumB (footB (endI p r i)) = rootI f r j := by
  match r, h with
  | [], _ => cases f <;> rfl
  | [x], _ =>
    have e : rootI f [x] j = leafH x := by cases f <;> rfl
    rw [e]
    unfold endI footB
    dsimp only
    split <;> rfl
theorem foot_of (p q : List (List UInt8)) (r : List It) (i : List UInt8) : footB (endI p r i) = footB (endI q r i) := by
  unfold endI footB
  cases r with
  | nil => rfl
  | cons x r => dsimp only; split <;> rfl
theorem rootI_of (f j : Nat) {l : List It} (h : 2 ≤ l.length) : rootI (f + 1) l j = nodeH (rootI f (half l j 0) (j + 1)) (rootI f (half l j 1) (j + 1)) := by
  match l, h with
  | x :: y :: l, _ => rfl
theorem climb_down : ∀ (f : Nat) (l : List It) (i : List UInt8) (j : Nat) (q : List (List UInt8)), Srt l → Len l → Agree l j → 256 ≤ f + j → climbH i (footB (endI q (downI f l i j).2 i)) (downI f l i j).1 j = rootI f l j
  | 0, l, i, j, q, hs, hl, ha, hf => by
    have h : l.length < 2 := downI_few_left 0 l i j hs hl ha hf
    rw [downI_few _ _ _ h, climbH_nil]
    exact foot_end q l i 0 j h
  | f + 1, l, i, j, q, hs, hl, ha, hf => by
    by_cases h : l.length < 2
    · rw [downI_few _ _ _ h, climbH_nil]
      exact foot_end q l i (f + 1) j h
    · have ih := climb_down f (half l j (bitI i j)) i (j + 1) q (srt_half hs _ _) (len_half hl _ _) (agree_half ha _) (by omega)
      rw [downI_more f i j (by omega), climbH_cons, rootI_of f j (by omega)]
      dsimp only
      rw [ih]
      rcases bitI_two i j with hb | hb <;> rw [hb]
      · simp
      · simp
/-- What is made comes to the root. -/
theorem root_make (l : List It) (hl : Len l) (i : List UInt8) : rootP i (makeP l i) = rootOf l := by
  have hL : Len (setI l) := fun x hx => hl x (find_some ((mem_setI x l).1 hx)).1
  unfold rootP makeP
  rw [endI_path]
  exact climb_down 256 (setI l) i 0 _ (srt_setI l) hL (fun _ _ _ _ k hk => by omega) (by omega)

/-! ### Which ones may be, and what they say -/
/-- The first n bits are alike. -/
def alikeB (a b : List UInt8) (n : Nat) : Bool := decide (∀ k, k < n → bitI a k = bitI b k)
/-- Right. -/
def rightP (i : List UInt8) (p : Pf) : Bool :=
  decide (p.path.length ≤ 256) && (if p.e = 0 then p.x.i == i else if p.e = 1 then p.x == zeroIt else if p.e = 2 then !(p.x.i == i) && alikeB p.x.i i p.path.length else false)
theorem rightP_len {i : List UInt8} {p : Pf} (h : rightP i p = true) : p.path.length ≤ 256 := by
  unfold rightP at h
  simp at h
  exact h.1
theorem right_make (l : List It) (hl : Len l) (i : List UInt8) : rightP i (makeP l i) = true := by
  have hL : Len (setI l) := fun x hx => hl x (find_some ((mem_setI x l).1 hx)).1
  have h1 := downI_len 256 (setI l) i 0
  have h2 := downI_rest 256 (setI l) i 0
  unfold rightP makeP
  rw [endI_path]
  generalize downI 256 (setI l) i 0 = d at *
  unfold endI
  cases hd : d.2 with
  | nil => simp [h1]
  | cons x r =>
    dsimp only
    by_cases hx : x.i = i
    · simp [h1, hx]
    · have h3 := (h2 x (by rw [hd]; exact List.mem_cons_self ..)).2
      simp only [Nat.zero_add] at h3
      simp [h1, hx, alikeB]
      exact h3
theorem ok_make (l : List It) (hl : Len l) (i : List UInt8) : (makeP l i).Ok := by
  have hL : Len (setI l) := fun x hx => hl x (find_some ((mem_setI x l).1 hx)).1
  have h1 := downI_h32 256 (setI l) i 0 (srt_setI l) hL (fun _ _ _ _ k hk => by omega) (by omega)
  have h2 := downI_rest 256 (setI l) i 0
  unfold makeP Pf.Ok
  rw [endI_path]
  refine ⟨h1, ?_⟩
  generalize downI 256 (setI l) i 0 = d at *
  unfold endI
  cases hd : d.2 with
  | nil => exact ⟨rfl, rfl⟩
  | cons x r =>
    have h3 := hL x (h2 x (by rw [hd]; exact List.mem_cons_self ..)).1
    dsimp only
    split <;> exact h3
/-- It says 'Here' just of who is there. -/
theorem here_make (l : List It) (i : List UInt8) (hl : Len l) : (makeP l i).e = 0 ↔ ∃ x ∈ l, x.i = i := by
  have hL : Len (setI l) := fun x hx => hl x (find_some ((mem_setI x l).1 hx)).1
  have h2 := downI_rest 256 (setI l) i 0
  have h3 := downI_has 256 (setI l) i 0
  have h4 := downI_few_left 256 (setI l) i 0 (srt_setI l) hL (fun _ _ _ _ k hk => by omega) (by omega)
  unfold makeP
  constructor
  · intro h
    unfold endI at h
    cases hd : (downI 256 (setI l) i 0).2 with
    | nil => rw [hd] at h; cases h
    | cons x r =>
      rw [hd] at h
      dsimp only at h
      by_cases hx : x.i = i
      · have hm := (h2 x (by rw [hd]; exact List.mem_cons_self ..)).1
        exact ⟨x, (find_some ((mem_setI x l).1 hm)).1, hx⟩
      · rw [if_neg hx] at h; cases h
  · rintro ⟨x, hx, hi⟩
    obtain ⟨z, hz, hzi⟩ : ∃ z ∈ setI l, z.i = i := by
      cases hf : lastI l i with
      | none =>
        unfold lastI at hf
        have := List.find?_eq_none.1 hf x (List.mem_reverse.2 hx)
        simp [hi] at this
      | some z =>
        have hzi := (find_some hf).2
        exact ⟨z, (mem_setI z l).2 (by rw [hzi]; exact hf), hzi⟩
    have hm := h3 z hz hzi
    match hd : (downI 256 (setI l) i 0).2, hm, h4 with
    | [y], hm, _ =>
      obtain rfl : z = y := by simpa [hd] using hm
      unfold endI
      dsimp only
      rw [if_pos hzi]
/-- Of who is there it says the item. -/
theorem item_make (l : List It) (hl : Len l) (hs : Srt l) {x : It} (hx : x ∈ l) : (makeP l x.i).e = 0 ∧ (makeP l x.i).x = x := by
  have e : setI l = l := set_srt hs
  have h3 := downI_has 256 l x.i 0 x hx rfl
  have h4 := downI_few_left 256 l x.i 0 hs hl (fun _ _ _ _ k hk => by omega) (by omega)
  unfold makeP
  rw [e]
  match hd : (downI 256 l x.i 0).2, h3, h4 with
  | [y], hm, _ =>
    obtain rfl : x = y := by simpa [hd] using hm
    unfold endI
    dsimp only
    rw [if_pos rfl]
    exact ⟨rfl, rfl⟩
/-- What a proof says. -/
def saysV (p : Pf) : List UInt8 := if p.e = 0 then p.x.v else zero32
def saysH (p : Pf) : Bool := decide (p.e = 0)
/-- Check. -/
def okP (root i : List UInt8) (p : Pf) : Bool := rightP i p && (rootP i p == root)
def checkV (root i : List UInt8) (p : Pf) : List UInt8 := if okP root i p then saysV p else zero32
def checkH (root i : List UInt8) (p : Pf) : Bool := okP root i p && saysH p
theorem saysV_len {p : Pf} (h : p.Ok) : (saysV p).length = 32 := by unfold saysV; split; exact h.2.2; rfl
theorem checkV_len {root i : List UInt8} {p : Pf} (h : p.Ok) : (checkV root i p).length = 32 := by unfold checkV; split; exact saysV_len h; rfl

/-! ### Clashes -/
def sameP (p q : Pf) : Bool := (saysV p == saysV q) && (saysH p == saysH q)
/-- Where two lists of texts part first. -/
def partB : List (List UInt8) → List (List UInt8) → Option (List UInt8 × List UInt8)
  | a :: l, b :: m => if a = b then partB l m else some (a, b)
  | _, _ => none
def clashP (i : List UInt8) (p q : Pf) : Option (List UInt8 × List UInt8) :=
  if rightP i p && rightP i q && !(sameP p q) && (rootP i p == rootP i q) then partB (textsP i p) (textsP i q) else none
theorem foot_tag (p : Pf) (a b : List UInt8) : footB p ≠ textB 110 [a, b] := fun e => by
  unfold footB at e
  split at e
  · have h : byteOf 122 = byteOf 110 := (List.cons.inj (show byteOf 122 :: _ = byteOf 110 :: _ from e)).1
    revert h; decide
  · have h : byteOf 108 = byteOf 110 := (List.cons.inj (by unfold textB at e; exact e)).1
    revert h; decide
theorem text_two {a b c d : List UInt8} (ha : a.length = 32) (hc : c.length = 32) (hb : b.length = 32) (hd : d.length = 32) (h : textB 110 [a, b] = textB 110 [c, d]) : a = c ∧ b = d := by
  unfold textB at h
  have h := (List.cons.inj h).2
  simp only [List.map_cons, List.map_nil, List.flatten_cons, List.flatten_nil, List.append_nil, lumpB, ha, hb, hc, hd] at h
  have h1 := List.append_inj h (by simp [ha, hc])
  exact ⟨(List.append_inj h1.1 rfl).2, (List.append_inj h1.2 rfl).2⟩
theorem partB_cons (a b : List UInt8) (l m : List (List UInt8)) : partB (a :: l) (b :: m) = if a = b then partB l m else some (a, b) := rfl
theorem climb_head (i foot r : List UInt8) (rs : List (List UInt8)) (j : Nat) : ∃ c d, climbB i foot (r :: rs) j = textB 110 [c, d] :: climbB i foot rs (j + 1) := by
  rw [climbB]
  split
  · exact ⟨_, _, rfl⟩
  · exact ⟨_, _, rfl⟩
theorem part_climb (i : List UInt8) (P Q : Pf) : ∀ (rs qs : List (List UInt8)) (j : Nat) (a b : List UInt8), H32 rs → H32 qs → climbH i (footB P) rs j = climbH i (footB Q) qs j → partB (climbB i (footB P) rs j) (climbB i (footB Q) qs j) = some (a, b) → a ≠ b ∧ sumB a = sumB b
  | [], [], j, a, b, _, _, hh, hp => by
    rw [climbB, climbB, partB_cons] at hp
    by_cases he : footB P = footB Q
    · rw [if_pos he] at hp; cases hp
    · rw [if_neg he] at hp
      simp only [Option.some.injEq, Prod.mk.injEq] at hp
      rw [← hp.1, ← hp.2]
      exact ⟨he, hh⟩
  | [], q :: qs, j, a, b, _, _, hh, hp => by
    obtain ⟨c, d, hc⟩ := climb_head i (footB Q) q qs j
    unfold climbH at hh
    rw [hc, climbB] at hh
    rw [hc, climbB, partB_cons, if_neg (foot_tag P c d)] at hp
    simp only [Option.some.injEq, Prod.mk.injEq] at hp
    rw [← hp.1, ← hp.2]
    exact ⟨foot_tag P c d, hh⟩
  | r :: rs, [], j, a, b, _, _, hh, hp => by
    obtain ⟨c, d, hc⟩ := climb_head i (footB P) r rs j
    unfold climbH at hh
    rw [hc, climbB] at hh
    rw [hc, climbB, partB_cons, if_neg (fun e => foot_tag Q c d e.symm)] at hp
    simp only [Option.some.injEq, Prod.mk.injEq] at hp
    rw [← hp.1, ← hp.2]
    exact ⟨fun e => foot_tag Q c d e.symm, hh⟩
  | r :: rs, q :: qs, j, a, b, h1, h2, hh, hp => by
    by_cases hb : bitI i j = 1
    · unfold climbH at hh
      rw [climbB, climbB, if_pos hb, if_pos hb] at hh
      rw [climbB, climbB, if_pos hb, if_pos hb, partB_cons] at hp
      split at hp
      · rename_i he
        exact part_climb i P Q rs qs (j + 1) a b h1.tail h2.tail (text_two h1.head h2.head (sumB_len _) (sumB_len _) he).2 hp
      · rename_i he
        simp only [Option.some.injEq, Prod.mk.injEq] at hp
        rw [← hp.1, ← hp.2]
        exact ⟨he, hh⟩
    · unfold climbH at hh
      rw [climbB, climbB, if_neg hb, if_neg hb] at hh
      rw [climbB, climbB, if_neg hb, if_neg hb, partB_cons] at hp
      split at hp
      · rename_i he
        exact part_climb i P Q rs qs (j + 1) a b h1.tail h2.tail (text_two (sumB_len _) (sumB_len _) h1.head h2.head he).1 hp
      · rename_i he
        simp only [Option.some.injEq, Prod.mk.injEq] at hp
        rw [← hp.1, ← hp.2]
        exact ⟨he, hh⟩
/-- Two texts that are unlike, with one sum. -/
theorem clash_is {i : List UInt8} {p q : Pf} (hp : p.Ok) (hq : q.Ok) {a b : List UInt8} (h : clashP i p q = some (a, b)) : a ≠ b ∧ sumB a = sumB b := by
  unfold clashP at h
  split at h
  · rename_i hc
    simp only [Bool.and_eq_true, beq_iff_eq] at hc
    exact part_climb i p q p.path q.path 0 a b hp.1 hq.1 hc.2 h
  · cases h
end Go.Pm

