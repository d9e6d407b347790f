/- Texts joined: Low. -/
import Derived.WalkKit
import Derived.WalkSpells
import Derived.WalkLawsBesides
import Derived.Still
import Derived.Laws.CopyOwn
import Derived.Laws.Rows
import Derived.StillTailTactics
import Derived.Stop.BytesEq
import Derived.StillTail
import Derived.Lib.ConvBytes
import Derived.Laws.AppendOwn
import Derived.Lib.AppendZerosOnto
namespace Go.Pm
open Go Go.RowKit

theorem hid {p : Prop} (h : p) : Hid p := h
/-- The whole block r holds the cells cs, of type t, and none is frozen. -/
def Blk (w : World) (r : Nat) (cs : Array Value) (t : TypeId) : Prop := w.heap[r]? = some (.cells cs t (0, 0))

theorem Blk.lt {w : World} {r : Nat} {cs : Array Value} {t : TypeId} (h : Blk w r cs t) : r < w.heap.size := lt_of_block h
theorem Blk.cell {w : World} {r : Nat} {cs : Array Value} {t : TypeId} (h : Blk w r cs t) (i : Nat) : w.cell? ⟨r, i, none⟩ = cs[i]? := cell_of_row w r i cs t (0, 0) h
theorem Blk.free {w : World} {r : Nat} {cs : Array Value} {t : TypeId} (h : Blk w r cs t) (i : Nat) : w.frozen? ⟨r, i, none⟩ = false := frozen_of_row w r i cs t h
theorem Blk.set {w : World} {r : Nat} {cs : Array Value} {t : TypeId} (h : Blk w r cs t) (i : Nat) (v : Value) : Blk (w.setCell ⟨r, i, none⟩ v) r (cs.setIfInBounds i v) t :=
  heap_setCell_same w r i cs t v h
theorem Blk.setOther {w : World} {r : Nat} {cs : Array Value} {t : TypeId} (h : Blk w r cs t) {a : Addr} (ha : r ≠ a.block) (v : Value) : Blk (w.setCell a v) r cs t := by
  unfold Blk; rw [heap_setCell_other w a r v ha]; exact h
theorem Blk.new (w : World) (cs : Array Value) (t : TypeId) : Blk (w.alloc (.cells cs t)) w.heap.size cs t := heap_alloc_new w _
theorem Blk.alloc {w : World} {r : Nat} {cs : Array Value} {t : TypeId} (h : Blk w r cs t) (o : Obj) : Blk (w.alloc o) r cs t := by
  unfold Blk; rw [Below.heap_alloc w o r h.lt]; exact h
theorem Blk.drew {w : World} {r : Nat} {cs : Array Value} {t : TypeId} (h : Blk w r cs t) : Blk w.drew r cs t := h
theorem Blk.drewN {w : World} {r : Nat} {cs : Array Value} {t : TypeId} (h : Blk w r cs t) (n : Nat) : Blk (w.drewN n) r cs t := h
theorem Blk.new2 (w : World) (o : Obj) (cs : Array Value) (t : TypeId) : Blk ((w.alloc o).alloc (.cells cs t)) (w.heap.size + 1) cs t := by simpa using Blk.new (w.alloc o) cs t

theorem Blk.new3 (w : World) (o o' : Obj) (cs : Array Value) (t : TypeId) : Blk (((w.alloc o).alloc o').alloc (.cells cs t)) (w.heap.size + 1 + 1) cs t := by simpa using Blk.new ((w.alloc o).alloc o') cs t

/-- Only the blocks that S names may have turned, and new ones may be there. -/
structure Kept (S : Nat → Prop) (w w' : World) : Prop where
  os : w'.os = w.os
  tape : w'.tape = w.tape
  output : w'.output = w.output
  size : w.heap.size ≤ w'.heap.size
  block : ∀ k, k < w.heap.size → ¬ S k → w'.heap[k]? = w.heap[k]?

theorem Kept.refl (S : Nat → Prop) (w : World) : Kept S w w := ⟨rfl, rfl, rfl, Nat.le_refl _, fun _ _ _ => rfl⟩
theorem Kept.trans {S : Nat → Prop} {a b c : World} (h : Kept S a b) (k : Kept S b c) : Kept S a c :=
  ⟨k.os.trans h.os, k.tape.trans h.tape, k.output.trans h.output, Nat.le_trans h.size k.size, fun i hi hs => (k.block i (Nat.lt_of_lt_of_le hi h.size) hs).trans (h.block i hi hs)⟩
theorem Kept.mono {S T : Nat → Prop} {w w' : World} (h : Kept S w w') (hs : ∀ k, k < w.heap.size → S k → T k) : Kept T w w' :=
  ⟨h.os, h.tape, h.output, h.size, fun k hk ht => h.block k hk (fun s => ht (hs k hk s))⟩
theorem Kept.drew {S : Nat → Prop} {a w : World} (h : Kept S a w) : Kept S a w.drew := ⟨h.os, h.tape, h.output, h.size, h.block⟩
theorem Kept.drewN {S : Nat → Prop} {a w : World} (h : Kept S a w) (n : Nat) : Kept S a (w.drewN n) := ⟨h.os, h.tape, h.output, h.size, h.block⟩
theorem Kept.toDrewN (S : Nat → Prop) (w : World) (n : Nat) : Kept S w (w.drewN n) := (Kept.refl S w).drewN n
theorem Calls.same {P : Program} {f : FuncId} {args : Array Value} {w : World} {v : Value} (h : Calls P f args w fun e w' => e = .returned v ∧ w = w') : Calls P f args w fun e w' => e = .returned v ∧ w' = w := h.mono fun _ _ ⟨a, b⟩ => ⟨a, b.symm⟩
theorem Kept.alloc {S : Nat → Prop} {a w : World} (h : Kept S a w) (o : Obj) : Kept S a (w.alloc o) :=
  h.trans ⟨rfl, rfl, rfl, by simp, fun k hk _ => Below.heap_alloc w o k hk⟩
theorem Kept.setCell {S : Nat → Prop} {a w : World} (h : Kept S a w) {p : Addr} (hp : p.block < a.heap.size → S p.block) (u : Value) : Kept S a (w.setCell p u) :=
  ⟨h.os, h.tape, h.output, by simpa using h.size, fun k hk hs => by
    rw [heap_setCell_other w p k u (fun e => hs (by rw [e]; exact hp (by rw [← e]; exact hk)))]; exact h.block k hk hs⟩
/-- A store to a block that is newer. -/
theorem Kept.setNew {S : Nat → Prop} {a w : World} (h : Kept S a w) {b : Nat} (hb : a.heap.size ≤ b) (i : Nat) (u : Value) : Kept S a (w.setCell ⟨b, i, none⟩ u) :=
  h.setCell (p := ⟨b, i, none⟩) (fun h => absurd h (Nat.not_lt.2 hb)) u
theorem Kept.grown {S : Nat → Prop} {a w w' : World} {row : Option Nat} (h : Kept S a w) (hg : w.grownBy w' row) (hr : ∀ k, row = some k → k < a.heap.size → S k) : Kept S a w' :=
  ⟨hg.os.trans h.os, hg.tape.trans h.tape, hg.output.trans h.output, Nat.le_trans h.size hg.size, fun k hk hs =>
    (hg.block k (Nat.lt_of_lt_of_le hk h.size) (fun e => hs (hr k e.symm hk))).trans (h.block k hk hs)⟩
/-- From a later world on. -/
theorem Kept.then {S T : Nat → Prop} {a b c : World} (h : Kept S a b) (k : Kept T b c) (hT : ∀ i, i < a.heap.size → T i → S i) : Kept S a c :=
  ⟨k.os.trans h.os, k.tape.trans h.tape, k.output.trans h.output, Nat.le_trans h.size k.size, fun i hi hs => (k.block i (Nat.lt_of_lt_of_le hi h.size) (fun t => hs (hT i hi t))).trans (h.block i hi hs)⟩
theorem Kept.cell {S : Nat → Prop} {w w' : World} (h : Kept S w w') {p : Addr} (hp : p.block < w.heap.size) (hs : ¬ S p.block) : w'.cell? p = w.cell? p := World.cell?_of_block (w := w) (h.block p.block hp hs)
theorem Kept.frozen {S : Nat → Prop} {w w' : World} (h : Kept S w w') {p : Addr} (hp : p.block < w.heap.size) (hs : ¬ S p.block) : w'.frozen? p = w.frozen? p := World.frozen?_of_block (w := w) (h.block p.block hp hs)
theorem Kept.below {S : Nat → Prop} {w w' : World} (h : Kept S w w') (hs : ∀ k, k < w.heap.size → ¬ S k) : Below w.heap.size w w' := ⟨h.os, h.tape, h.output, h.size, fun k hk => h.block k hk (hs k hk)⟩
theorem Blk.kept {S : Nat → Prop} {w w' : World} {r : Nat} {cs : Array Value} {t : TypeId} (h : Blk w r cs t) (hk : Kept S w w') (hs : ¬ S r) : Blk w' r cs t := (hk.block r h.lt hs).trans h

/-- Nothing that was there has turned. -/
abbrev None : Nat → Prop := fun _ => False

/-- The slice value v reads as the one-cell values xs; its cells lie in blocks from lo on, below hi. -/
def Vs (w : World) (lo hi : Nat) (v : Value) (xs : List Value) : Prop :=
  ∃ a cap, v = .slice a xs.length cap ∧ xs.length ≤ cap ∧ cap ≤ maxLen ∧ (a = none → cap = 0) ∧ ∀ ad, a = some ad → ∀ i x, xs[i]? = some x → lo ≤ ad.block ∧ ad.block < hi ∧ w.cell? (ad.add i) = some x

def u8v (b : UInt8) : Value := .int .u8 (b.toNat : Int)
/-- The []byte v reads as the bytes l. -/
def Bs (w : World) (lo hi : Nat) (v : Value) (l : List UInt8) : Prop := Vs w lo hi v (l.map u8v)

theorem add_block (a : Addr) (i : Nat) : (a.add i).block = a.block := by unfold Addr.add; split <;> rfl

theorem Vs.kept {S : Nat → Prop} {w w' : World} {lo hi : Nat} {v : Value} {xs : List Value} (h : Vs w lo hi v xs) (hk : Kept S w w') (hs : ∀ k, lo ≤ k → k < hi → ¬ S k) : Vs w' lo hi v xs := by
  obtain ⟨a, cap, hv, h1, h2, h3, h4⟩ := h
  refine ⟨a, cap, hv, h1, h2, h3, fun ad had i x hx => ?_⟩
  obtain ⟨q1, q2, q3⟩ := h4 ad had i x hx
  refine ⟨q1, q2, ?_⟩
  rw [hk.cell (block_lt_of_cell q3) (by rw [add_block]; exact hs _ q1 q2)]
  exact q3
theorem Vs.wider {w : World} {lo hi lo' hi' : Nat} {v : Value} {xs : List Value} (h : Vs w lo hi v xs) (h1 : lo' ≤ lo) (h2 : hi ≤ hi') : Vs w lo' hi' v xs := by
  obtain ⟨a, cap, hv, g1, g2, g3, g4⟩ := h
  exact ⟨a, cap, hv, g1, g2, g3, fun ad had i x hx => ⟨Nat.le_trans h1 (g4 ad had i x hx).1, Nat.lt_of_lt_of_le (g4 ad had i x hx).2.1 h2, (g4 ad had i x hx).2.2⟩⟩
theorem Vs.nil (w : World) (lo hi : Nat) : Vs w lo hi (.slice none 0 0) [] := ⟨none, 0, rfl, Nat.le_refl _, Nat.zero_le _, fun _ => rfl, fun ad h => by cases h⟩
theorem Vs.lt {w : World} {lo hi : Nat} {v : Value} {xs : List Value} (h : Vs w lo hi v xs) : Vs w lo (min hi w.heap.size) v xs := by
  obtain ⟨a, cap, hv, g1, g2, g3, g4⟩ := h
  refine ⟨a, cap, hv, g1, g2, g3, fun ad had i x hx => ?_⟩
  obtain ⟨q1, q2, q3⟩ := g4 ad had i x hx
  have := block_lt_of_cell q3
  rw [add_block] at this
  exact ⟨q1, by omega, q3⟩
theorem Vs.len_le {w : World} {lo hi : Nat} {v : Value} {xs : List Value} (h : Vs w lo hi v xs) : xs.length ≤ maxLen := by
  obtain ⟨a, cap, hv, g1, g2, g3, g4⟩ := h; omega

theorem add_add (a : Addr) (i j : Nat) : (a.add i).add j = if i + j = 0 then a else ⟨a.block, a.off + i + j, none⟩ := by
  unfold Addr.add
  by_cases hi : i = 0 <;> by_cases hj : j = 0 <;> simp [hi, hj, Nat.add_assoc]
theorem add_add' (a : Addr) (i j : Nat) : (a.add i).add j = a.add (i + j) := by
  rw [add_add]; unfold Addr.add; simp [Nat.add_assoc]

/-- 's[l:h]', in whichever form: 'sliced' reads as the cut. -/
theorem Vs.sliced {w : World} {lo hi : Nat} {a : Option Addr} {n cap : Nat} {xs : List Value} (h : Vs w lo hi (.slice a n cap) xs) (l m : Nat) (hl : l ≤ m) (hm : m ≤ n) :
    Vs w lo hi (.slice (if cap = l then a else a.map (·.add l)) (m - l) (cap - l)) ((xs.take m).drop l) := by
  obtain ⟨a', cap', hv, g1, g2, g3, g4⟩ := h
  injection hv with e1 e2 e3
  subst e1 e2 e3
  have hlen : ((xs.take m).drop l).length = m - l := by simp; omega
  refine ⟨_, cap - l, by rw [hlen], by rw [hlen]; omega, by omega, ?_, ?_⟩
  · intro hn
    have hnone : a = none := by
      by_cases hc : cap = l
      · rw [if_pos hc] at hn; exact hn
      · rw [if_neg hc] at hn; cases a with
        | none => rfl
        | some ad => simp at hn
    have := g3 hnone
    omega
  · intro ad had i x hx
    have hi : l + i < m ∧ xs[l + i]? = some x := by
      rw [List.getElem?_drop, List.getElem?_take] at hx
      split at hx
      · exact ⟨by assumption, hx⟩
      · cases hx
    have hlen : l + i < xs.length := (List.getElem?_eq_some_iff.1 hi.2).1
    rw [if_neg (show ¬ cap = l by omega)] at had
    cases a with
    | none => simp at had
    | some ad0 =>
      simp at had
      subst had
      obtain ⟨q1, q2, q3⟩ := g4 ad0 rfl (l + i) x hi.2
      rw [add_block, add_add']
      exact ⟨q1, q2, q3⟩

theorem Vs.ofRow {w : World} {base : Nat} {e : TypeId} {v : Value} {n : Nat} {xs : List Value} (h : w.ownsRow base e 1 v n xs) {hi : Nat} (hh : w.heap.size ≤ hi) : Vs w base hi v xs := by
  obtain ⟨h1, h2⟩ := h
  have h1' : xs.length = n := by omega
  rcases h2 with ⟨rfl, rfl⟩ | ⟨g, cap, cur, rfl, hb, hg, hnc, hcm, hcs, ht⟩
  · have : xs = [] := List.eq_nil_of_length_eq_zero h1'
    subst this
    exact Vs.nil w _ _
  · refine ⟨some ⟨g, 0, none⟩, cap, by rw [h1'], by omega, hcm, (fun h => by cases h), ?_⟩
    intro ad had i x hx
    simp at had
    subst had
    have hlt := lt_of_block hg
    refine ⟨hb, by show g < hi; omega, ?_⟩
    rw [Addr.add_lit, Nat.zero_add, cell_of_row w g i cur e (0, 0) hg]
    rw [← ht, List.getElem?_take] at hx
    split at hx
    · simpa using hx
    · cases hx

/-- A byte of a list, as a number. -/
def bAt (l : List UInt8) (i : Nat) : Int := ((l.getD i 0).toNat : Int)
theorem bAt_ge (l : List UInt8) (i : Nat) : 0 ≤ bAt l i := by unfold bAt; omega
theorem bAt_lt (l : List UInt8) (i : Nat) : bAt l i < 256 := by unfold bAt; have := (l.getD i 0).toNat_lt; omega
theorem bAt_drop (l : List UInt8) (i j : Nat) : bAt (l.drop i) j = bAt l (i + j) := by unfold bAt; simp [List.getD, List.getElem?_drop]
theorem bAt_cons (b : UInt8) (l : List UInt8) : bAt (b :: l) 0 = b.toNat := rfl

theorem Bs.shape {w : World} {lo hi : Nat} {v : Value} {l : List UInt8} (h : Bs w lo hi v l) : ∃ a cap, v = .slice a l.length cap ∧ l.length ≤ cap ∧ cap ≤ 9223372036854775807 ∧ (a = none → cap = 0) := by
  obtain ⟨a, cap, hv, g1, g2, g3, g4⟩ := h
  refine ⟨a, cap, by simpa using hv, by simpa using g1, by unfold maxLen at g2; omega, g3⟩
/-- A byte slice that is not empty, written out. -/
theorem Bs.ne {w : World} {lo hi : Nat} {a : Option Addr} {n cap : Nat} {l : List UInt8} (h : Bs w lo hi (.slice a n cap) l) (hn : 0 < l.length) :
    ∃ b o, a = some ⟨b, o, none⟩ ∧ lo ≤ b ∧ b < hi ∧ b < w.heap.size ∧ ∀ i, i < l.length → w.cell? ⟨b, o + i, none⟩ = some (.int .u8 (bAt l i)) := by
  obtain ⟨a', cap', hv, g1, g2, g3, g4⟩ := h
  injection hv with e1 e2 e3
  subst e1 e2 e3
  cases a with
  | none => have := g3 rfl; simp at g1; omega
  | some ad =>
    obtain ⟨b, o, sp⟩ := ad
    have h0 := g4 _ rfl 0 _ (List.getElem?_eq_getElem (by simpa using hn))
    have hsp : sp = none := by
      have h2 := h0.2.2
      simp only [Addr.add_zero'] at h2
      unfold World.cell? at h2
      split at h2
      · cases sp with
        | none => rfl
        | some s => simp at h2
      · cases h2
    subst hsp
    refine ⟨b, o, rfl, h0.1, h0.2.1, by simpa [add_block] using block_lt_of_cell h0.2.2, fun i hi => ?_⟩
    have h3 := (g4 _ rfl i _ (List.getElem?_eq_getElem (by simpa using hi))).2.2
    rw [Addr.add_lit] at h3
    rw [h3]
    simp [u8v, bAt, List.getD, List.getElem?_eq_getElem hi]
/-- A byte slice of a known length. -/
theorem Bs.lit {w : World} {lo hi : Nat} {v : Value} {l : List UInt8} (h : Bs w lo hi v l) (n : Nat) (hn : l.length = n) (h0 : 0 < n) :
    ∃ b o cap, v = .slice (some ⟨b, o, none⟩) n cap ∧ n ≤ cap ∧ cap ≤ 9223372036854775807 ∧ lo ≤ b ∧ b < hi ∧ b < w.heap.size ∧ ∀ i, i < n → w.cell? ⟨b, o + i, none⟩ = some (.int .u8 (bAt l i)) := by
  obtain ⟨a, cap, rfl, g1, g2, g3⟩ := h.shape
  obtain ⟨b, o, rfl, q1, q2, q3, q4⟩ := h.ne (by omega)
  subst hn
  exact ⟨b, o, cap, rfl, g1, g2, q1, q2, q3, q4⟩
theorem Bs.kept {S : Nat → Prop} {w w' : World} {lo hi : Nat} {v : Value} {l : List UInt8} (h : Bs w lo hi v l) (hk : Kept S w w') (hs : ∀ k, lo ≤ k → k < hi → ¬ S k) : Bs w' lo hi v l := Vs.kept h hk hs
theorem Bs.nil (w : World) (lo hi : Nat) : Bs w lo hi (.slice none 0 0) [] := Vs.nil w lo hi

section
variable {P : Program} {t : TypeId} (ht : P.underlying t = some (.slice (P.elem t))) (hz : ∀ W, (sizeOf (P.elem t)).run P W = .ok 1 W)
include ht hz
/-- 's[i:]', 's[:i]', 's[i:j]': the value under a name. -/
theorem slice_from {w : World} {lo hi : Nat} {a : Option Addr} {n cap : Nat} {xs : List Value} (h : Vs w lo hi (.slice a n cap) xs) (k : IntKind) (i : Int) (h0 : 0 ≤ i) (h1 : i ≤ n) :
    ∃ a', (∀ W, (Instr.slice t (.slice a n cap) (some (.int k i)) none none).run P W = .ok (.slice a' (n - i.toNat) (cap - i.toNat)) W) ∧ Vs w lo hi (.slice a' (n - i.toNat) (cap - i.toNat)) (xs.drop i.toNat) := by
  refine ⟨if cap = i.toNat then a else a.map (·.add i.toNat), fun W => ?_, ?_⟩
  · rw [run_slice_l (P := P) W t a n cap ht k i h0 h1, hz]
    simp only [Result.andThen, Go.sliced, Nat.mul_one]
  · have hn : n = xs.length := by obtain ⟨a', cap', hv, _⟩ := h; injection hv
    have := Vs.sliced h i.toNat n (by omega) (Nat.le_refl _)
    rw [List.take_of_length_le (by omega)] at this
    exact this
theorem slice_to {w : World} {lo hi : Nat} {a : Option Addr} {n cap : Nat} {xs : List Value} (h : Vs w lo hi (.slice a n cap) xs) (k : IntKind) (i : Int) (h0 : 0 ≤ i) (h1 : i ≤ n) :
    ∃ a', (∀ W, (Instr.slice t (.slice a n cap) none (some (.int k i)) none).run P W = .ok (.slice a' i.toNat cap) W) ∧ Vs w lo hi (.slice a' i.toNat cap) (xs.take i.toNat) := by
  have hc : n ≤ cap := by obtain ⟨a', cap', hv, hc, _⟩ := h; injection hv; omega
  refine ⟨if cap = 0 then a else a.map (·.add 0), fun W => ?_, ?_⟩
  · rw [run_slice_h (P := P) W t a n cap ht k i h0 (by omega), hz]
    simp only [Result.andThen, Go.sliced, Nat.mul_one, Nat.sub_zero]
  · have := Vs.sliced h 0 i.toNat (by omega) (by omega)
    simpa using this
theorem slice_mid {w : World} {lo hi : Nat} {a : Option Addr} {n cap : Nat} {xs : List Value} (h : Vs w lo hi (.slice a n cap) xs) (k k' : IntKind) (i j : Int) (h0 : 0 ≤ i) (h1 : i ≤ j) (h2 : j ≤ n) :
    ∃ a', (∀ W, (Instr.slice t (.slice a n cap) (some (.int k i)) (some (.int k' j)) none).run P W = .ok (.slice a' (j.toNat - i.toNat) (cap - i.toNat)) W) ∧ Vs w lo hi (.slice a' (j.toNat - i.toNat) (cap - i.toNat)) ((xs.take j.toNat).drop i.toNat) := by
  have hc : n ≤ cap := by obtain ⟨a', cap', hv, hc, _⟩ := h; injection hv; omega
  refine ⟨if cap = i.toNat then a else a.map (·.add i.toNat), fun W => ?_, ?_⟩
  · rw [run_slice_lh (P := P) W t a n cap ht k k' i j h0 h1 (by omega), hz]
    simp only [Result.andThen, Go.sliced, Nat.mul_one]
  · exact Vs.sliced h i.toNat j.toNat (by omega) (by omega)
end

/-- Block r alone. -/
abbrev Just (r : Nat) : Nat → Prop := fun k => k = r
theorem Kept.one (w : World) (r i : Nat) (v : Value) : Kept (Just r) w (w.setCell ⟨r, i, none⟩ v) := Kept.setCell (S := Just r) (Kept.refl _ _) (fun _ => rfl) v
theorem Kept.one' {a w : World} {r : Nat} (h : Kept (Just r) a w) (i : Nat) (v : Value) : Kept (Just r) a (w.setCell ⟨r, i, none⟩ v) := Kept.setCell (S := Just r) h (fun _ => rfl) v

/-! ### What the call itself has made: []byte values that own their row. -/
/-- v owns the bytes l, in a block from base on. -/
def Bo (e : TypeId) (w : World) (base : Nat) (v : Value) (l : List UInt8) : Prop := w.ownsRow base e 1 v l.length (l.map u8v)
theorem Bo.nil (e : TypeId) (w : World) (base : Nat) : Bo e w base (.slice none 0 0) [] := World.ownsRow_nil w base e 1
theorem Bo.form {e : TypeId} {w : World} {base : Nat} {v : Value} {l : List UInt8} (h : Bo e w base v l) : ∃ a cap, v = .slice a l.length cap := by
  rcases h.2 with ⟨rfl, h0⟩ | ⟨g, cap, cur, rfl, _⟩
  · exact ⟨none, 0, by rw [h0]⟩
  · exact ⟨_, _, rfl⟩
theorem Bo.bs {e : TypeId} {w : World} {base : Nat} {v : Value} {l : List UInt8} (h : Bo e w base v l) {hi : Nat} (hh : w.heap.size ≤ hi) : Bs w base hi v l := Vs.ofRow h hh
theorem Bo.kept {e : TypeId} {w w' : World} {base : Nat} {v : Value} {l : List UInt8} {S : Nat → Prop} (h : Bo e w base v l) (hk : Kept S w w') (hs : ∀ k, v.ownBlock = some k → ¬ S k) : Bo e w' base v l := by
  refine ⟨h.1, ?_⟩
  rcases h.2 with h2 | ⟨g, cap, cur, hv, hb, hg, r⟩
  · exact .inl h2
  · refine .inr ⟨g, cap, cur, hv, hb, ?_, r⟩
    rw [hk.block g (lt_of_block hg) (hs g (by rw [hv]; rfl))]
    exact hg
theorem Bo.base {e : TypeId} {w : World} {base base' : Nat} {v : Value} {l : List UInt8} (h : Bo e w base v l) (hb : base' ≤ base) : Bo e w base' v l := by
  refine ⟨h.1, ?_⟩
  rcases h.2 with h2 | ⟨g, cap, cur, hv, hg, r⟩
  · exact .inl h2
  · exact .inr ⟨g, cap, cur, hv, Nat.le_trans hb hg, r⟩
/-- The block is one of the call's own. -/
theorem Bo.own {e : TypeId} {w : World} {base : Nat} {v : Value} {l : List UInt8} (h : Bo e w base v l) : ∀ k, v.ownBlock = some k → base ≤ k ∧ k < w.heap.size := World.ownsRow.lt h
theorem Bo.alloc {e : TypeId} {w : World} {base : Nat} {v : Value} {l : List UInt8} (h : Bo e w base v l) (o : Obj) : Bo e (w.alloc o) base v l := World.ownsRow.alloc h o
theorem Bo.drew {e : TypeId} {w : World} {base : Nat} {v : Value} {l : List UInt8} (h : Bo e w base v l) : Bo e w.drew base v l := h

/-- A new block of cells. -/
theorem Vs.new (w : World) (cs : Array Value) (t : TypeId) (cap : Nat) (h1 : cs.size ≤ cap) (h2 : cap ≤ maxLen) : Vs (w.alloc (.cells cs t)) w.heap.size (w.heap.size + 1) (.slice (some ⟨w.heap.size, 0, none⟩) cs.size cap) cs.toList := by
  refine ⟨some ⟨w.heap.size, 0, none⟩, cap, by simp, by simpa using h1, h2, (fun h => by cases h), ?_⟩
  intro ad had i x hx
  simp only [Option.some.injEq] at had
  subst had
  refine ⟨Nat.le_refl _, by simp, ?_⟩
  rw [Addr.add_lit, Nat.zero_add, World.cell?_alloc_new]
  simpa using hx
theorem Bo.new (w : World) (e : TypeId) (l : List UInt8) (cs : Array Value) (hc : cs.toList.take l.length = l.map u8v) (cap : Nat) (hs : cs.size = cap) (h2 : cap ≤ maxLen) : Bo e (w.alloc (.cells cs e)) w.heap.size (.slice (some ⟨w.heap.size, 0, none⟩) l.length cap) l := by
  have hl : l.length ≤ cap := by
    have := congrArg List.length hc
    simp at this
    omega
  exact ⟨by simp, .inr ⟨_, cap, cs, rfl, Nat.le_refl _, heap_alloc_new w _, hl, h2, by omega, by simpa using hc⟩⟩

/-- What the laws on append ask of a type of slices. -/
structure RowTy (P : Program) (t e : TypeId) (z : Value) (bytes : Nat) : Prop where
  sl : P.underlying t = some (.slice e)
  info : ∃ i, P.info? e = some i ∧ i.zero = some z ∧ i.size = 1 ∧ i.bytes = bytes
  one : z.cells.size = 1

theorem run_append_vs {P : Program} {w : World} {t ty e : TypeId} {z : Value} {bytes : Nat} (hT : RowTy P t e z bytes) {base : Nat} {v : Value} {n : Nat} {xs : List Value} (hown : w.ownsRow base e 1 v n xs)
    {lo hi : Nat} {u : Value} {news : List Value} (hu : Vs w lo hi u news) (h1 : ∀ x ∈ news, x.oneCell' = true) (h63 : n + news.length ≤ maxLen) (hbytes : (n + news.length) * bytes ≤ 140737488355328) (hbase : base ≤ w.heap.size) :
    ∃ v' w', (Builtin.append_ #[t, t] ty #[v, u]).run P w = .ok v' w' ∧ w'.ownsRow base e 1 v' (n + news.length) (xs ++ news) ∧ w.grownBy w' v.ownBlock := by
  obtain ⟨i, hi, hz, hs, hb⟩ := hT.info
  obtain ⟨a, cap, rfl, g1, g2, g3, g4⟩ := hu
  cases a with
  | none =>
    have hc := g3 rfl
    subst hc
    have hn : news = [] := List.eq_nil_of_length_eq_zero (by omega)
    subst hn
    exact ⟨v, w, run_append_owned_none (w := w) base t ty e i 1 hT.sl hi v n xs hown, by simpa using hown, World.grownBy.refl _ _⟩
  | some ad =>
    obtain ⟨v', w', r1, r2, r3, _⟩ := run_append_own (P := P) w base t ty e i z 1 bytes hT.sl hi hz hs hb hT.one (by decide) v n xs hown ad news.length cap news (by simp) (fun j u hj => (g4 ad rfl j u hj).2.2) h1 h63 hbytes hbase
    exact ⟨v', w', r1, r2, r3⟩

/-- Where an append leaves its row: the old block, or a new one. -/
theorem append_block {P : Program} {w w' : World} {t ty e : TypeId} {z : Value} {bytes : Nat} (hT : RowTy P t e z bytes) {base : Nat} {v v' : Value} {n : Nat} {xs : List Value} (hown : w.ownsRow base e 1 v n xs)
    {lo hi : Nat} {u : Value} {news : List Value} (hu : Vs w lo hi u news) (h1 : ∀ x ∈ news, x.oneCell' = true) (h63 : n + news.length ≤ maxLen) (hbytes : (n + news.length) * bytes ≤ 140737488355328) (_hbase : base ≤ w.heap.size)
    (hr : (Builtin.append_ #[t, t] ty #[v, u]).run P w = .ok v' w') : v'.ownBlock = v.ownBlock ∨ v'.ownBlock = some w.heap.size := by
  obtain ⟨i, hi, hz, hs, hb⟩ := hT.info
  obtain ⟨a, cap, rfl, g1, g2, g3, g4⟩ := hu
  cases a with
  | none =>
    have hc := g3 rfl
    subst hc
    have hn : news = [] := List.eq_nil_of_length_eq_zero (by omega)
    subst hn
    rw [show ([] : List Value).length = 0 from rfl, run_append_owned_none (w := w) base t ty e i 1 hT.sl hi v n xs hown] at hr
    simp only [Result.ok.injEq] at hr
    rw [← hr.1]
    exact .inl rfl
  | some ad =>
    have hnews : ∀ j u, news[j]? = some u → w.cell? (ad.add j) = some u := fun j u hj => (g4 ad rfl j u hj).2.2
    have hlen : n + news.length ≤ 9223372036854775807 := by unfold maxLen at h63; omega
    rcases hown.2 with ⟨rfl, rfl⟩ | ⟨g, cap', cur, rfl, hbg, hg, hnc, hcm, hcs, htake⟩
    · by_cases hm : news.length = 0
      · have hn : news = [] := List.eq_nil_of_length_eq_zero hm
        subst hn
        simp [Builtin.append_, run_underlying hT.sl, sizeOf, typeInfo, hi, Builtin.lenOf, Builtin.firstCells, loadCells, loadCellsFrom] at hr
        rw [← hr.1]
        exact .inl rfl
      · have h2 := run_append_nil (P := P) w t ty e i z hT.sl hi hz ad news.length cap news (by rw [hs]; simp) hnews (by omega) (by omega) (by rw [hb]; have hb' := hbytes; simp only [Nat.zero_add] at hb'; omega)
        rw [h2] at hr
        simp only [Result.ok.injEq] at hr
        rw [← hr.1]
        exact .inr rfl
    · by_cases hroom : n + news.length ≤ cap'
      · have h2 := run_append_room (P := P) w t ty e i hT.sl hi g n cap' cur hg ad news.length cap news (by rw [hs]; simp) hnews h1 hroom (by rw [hs]; omega)
        rw [h2] at hr
        simp only [Result.ok.injEq] at hr
        rw [← hr.1]
        exact .inl rfl
      · have holds : ∀ j u, xs[j]? = some u → w.cell? ((⟨g, 0, none⟩ : Addr).add j) = some u := hown.cells (g := g) rfl
        have h2 := run_append_grow (P := P) w t ty e i z hT.sl hi hz ⟨g, 0, none⟩ n cap' xs (by rw [hs]; exact hown.1) holds ad news.length cap news (by rw [hs]; simp) hnews (by omega) (by omega) (by rw [hb]; exact growslice_fits (by omega) hbytes)
        rw [h2] at hr
        simp only [Result.ok.injEq] at hr
        rw [← hr.1]
        exact .inr rfl

theorem u8v_one (l : List UInt8) : ∀ x ∈ l.map u8v, x.oneCell' = true := by
  intro u hu
  obtain ⟨_, _, rfl⟩ := List.mem_map.1 hu
  rfl

/-- The block of a value that the call owns. -/
abbrev Of (v : Value) : Nat → Prop := fun k => v.ownBlock = some k
theorem Kept.ofGrown {w w' : World} {v : Value} (h : w.grownBy w' v.ownBlock) : Kept (Of v) w w' := ⟨h.os, h.tape, h.output, h.size, fun k hk hs => h.block k hk (fun e => hs e.symm)⟩

/-- 'append' of bytes to bytes of the call's own, for the walk. -/
theorem wpList_append_bo {P : Program} {ops : Array Oper} {rest : List Oper} {o : Oper} {a : Act} {w : World} {Q : Exit → Act → World → Prop} (hgd : o.guard = none) (s x : Operand) (t : TypeId)
    (ho : o.op = .call { callee := .builtin .append, args := #[s, x], argTypes := #[t, t] }) {e : TypeId} (hT : RowTy P t e (.int .u8 0) 1)
    {v : Value} (hs : a.eval s = v) {u : Value} (hx : a.eval x = u) {base : Nat} {l : List UInt8} (hown : Bo e w base v l) {lo hi : Nat} {m : List UInt8} (hu : Bs w lo hi u m)
    (h63 : l.length + m.length ≤ 140737488355328) (hbase : base ≤ w.heap.size)
    (h : ∀ a' n' cap' w', Bo e w' base (.slice a' n' cap') (l ++ m) → Kept (Of v) w w' → wpList P ops Q rest (a.put o.dst (.slice a' n' cap')) w') : wpList P ops Q (o :: rest) a w := by
  refine wpList_plain hgd fun K hK' => ?_
  obtain ⟨v', w', hr, r2, r3⟩ := run_append_vs (w := w) (ty := o.type) hT hown hu (u8v_one m) (by rw [List.length_map]; unfold maxLen; omega) (by rw [List.length_map]; omega) hbase
  have hb : Bo e w' base v' (l ++ m) := by unfold Bo; rw [List.length_append, List.map_append]; simpa using r2
  obtain ⟨a', cap', rfl⟩ := hb.form
  unfold Oper.wp
  simp only [execOp, ho, resolve, invoke, builtin, Sem.run_bind, Sem.run_pure, Result.andThen_ok, List.map_toArray, List.map_cons, List.map_nil, hs, hx, hr]
  exact hK' _ _ (h _ _ _ _ hb (Kept.ofGrown r3))

/-- The lowest byte of a number. -/
def byteOf (x : Int) : UInt8 := UInt8.ofNat (x % 256).toNat
theorem byteOf_toNat (x : Int) : ((byteOf x).toNat : Int) = x % 256 := by
  unfold byteOf
  rw [UInt8.toNat_ofNat']
  omega
theorem u8v_byteOf (x : Int) : u8v (byteOf x) = .int .u8 (x % 256) := by unfold u8v; rw [byteOf_toNat]
theorem u8v_byteOf' {x : Int} (h0 : 0 ≤ x) (h1 : x < 256) : u8v (byteOf x) = .int .u8 x := by rw [u8v_byteOf, Int.emod_eq_of_lt h0 h1]
theorem u8v_at (l : List UInt8) (i : Nat) (h : i < l.length) : u8v l[i] = .int .u8 (bAt l i) := by simp [u8v, bAt, List.getD, List.getElem?_eq_getElem h]
/-- A number as eight bytes, the lowest first. -/
def leB (n : Int) : List UInt8 := [byteOf n, byteOf (n / 256), byteOf (n / 65536), byteOf (n / 16777216), byteOf (n / 4294967296), byteOf (n / 1099511627776), byteOf (n / 281474976710656), byteOf (n / 72057594037927936)]
theorem leB_length (n : Int) : (leB n).length = 8 := rfl

theorem byteOf_mod (x : Int) : byteOf (x % 256) = byteOf x := by unfold byteOf; rw [Int.emod_emod_of_dvd _ (by decide)]
theorem leB_take (n : Int) (k : Nat) (h : k < 8) : (leB n).take (k + 1) = (leB n).take k ++ [byteOf (n / 2 ^ (8 * k) % 256)] := by
  rw [byteOf_mod]
  match k, h with
  | 0, _ => simp [leB]
  | 1, _ => simp [leB]
  | 2, _ => simp [leB]
  | 3, _ => simp [leB]
  | 4, _ => simp [leB]
  | 5, _ => simp [leB]
  | 6, _ => simp [leB]
  | 7, _ => simp [leB]

/-- 'append' of one byte. -/
theorem wpList_append_byte {P : Program} {ops : Array Oper} {rest : List Oper} {o : Oper} {a : Act} {w : World} {Q : Exit → Act → World → Prop} (hgd : o.guard = none) (s x : Operand) (t : TypeId)
    (ho : o.op = .call { callee := .builtin .append, args := #[s, x], argTypes := #[t, t] }) {e : TypeId} (hT : RowTy P t e (.int .u8 0) 1) {b : Int}
    {v : Value} (hs : a.eval s = v) (hx : a.eval x = .slice (some ⟨w.heap.size, 0, none⟩) 1 1) {base : Nat} {l : List UInt8} (hown : Bo e w base v l) (hb0 : 0 ≤ b) (hb1 : b < 256)
    (h63 : l.length + 1 ≤ 140737488355328) (hbase : base ≤ w.heap.size)
    (h : ∀ a' n' cap' w', Bo e w' base (.slice a' n' cap') (l ++ [byteOf b]) → Kept (Of v) w w' → wpList P ops Q rest (a.put o.dst (.slice a' n' cap')) w') : wpList P ops Q (o :: rest) a (w.alloc (.cells #[.int .u8 b] e)) := by
  have hu : Bs (w.alloc (.cells #[.int .u8 b] e)) w.heap.size (w.heap.size + 1) (.slice (some ⟨w.heap.size, 0, none⟩) 1 1) [byteOf b] := by
    have := Vs.new w #[.int .u8 b] e 1 (by simp) (by decide)
    unfold Bs
    simpa [u8v_byteOf' hb0 hb1] using this
  refine wpList_append_bo hgd s x t ho hT hs hx (hown.alloc _) hu h63 (by simp; omega) fun a' n' cap' w' h1 h2 => ?_
  exact h a' n' cap' w' h1 (((Kept.refl _ w).alloc _).then h2 (fun _ _ h => h))

/-- A step that writes to what the call itself has made. -/
theorem Kept.own {S : Nat → Prop} {a w w' : World} (h : Kept S a w) {v : Value} (k : Kept (Of v) w w') (hv : ∀ k, v.ownBlock = some k → a.heap.size ≤ k) : Kept S a w' :=
  h.then k (fun i hi ho => absurd (hv i ho) (by omega))

/-- 'string(b)'. -/
theorem run_string_bs {P : Program} {w : World} {src dst e : TypeId} (hs : P.underlying src = some (.slice e)) (he : P.underlying e = some (.int .u8)) (hd : P.underlying dst = some .string) {lo hi : Nat} {v : Value} {l : List UInt8} (h : Bs w lo hi v l) :
    (convert src dst v).run P w = .ok (.string ⟨l.toArray⟩) w := by
  obtain ⟨a, cap, rfl, g1, g2, g3, g4⟩ := h
  rw [List.length_map]
  cases a with
  | none =>
    have hc := g3 rfl
    have hn : l = [] := List.eq_nil_of_length_eq_zero (by simp at g1; omega)
    subst hn
    exact run_convert_bytes_nil w src e hs he _ _ dst hd
  | some ad => exact run_convert_bytes_back w src dst e ad cap l hs he hd (fun j hj => by
      have := (g4 ad rfl j _ (List.getElem?_eq_getElem (by simpa using hj))).2.2
      simpa [u8v] using this)

/-! ### Lists of bytes: a [][]byte. -/
/-- The [][]byte v reads as ls: its row in blocks from lo on, below hi; the bytes of each from lo' on, below hi'. -/
def Bss (w : World) (lo hi lo' hi' : Nat) (v : Value) (ls : List (List UInt8)) : Prop :=
  ∃ xs : List Value, Vs w lo hi v xs ∧ xs.length = ls.length ∧ ∀ (i : Nat) (x : Value) (l : List UInt8), xs[i]? = some x → ls[i]? = some l → Bs w lo' hi' x l
theorem Bss.kept {S : Nat → Prop} {w w' : World} {lo hi lo' hi' : Nat} {v : Value} {ls : List (List UInt8)} (h : Bss w lo hi lo' hi' v ls) (hk : Kept S w w') (h1 : ∀ k, lo ≤ k → k < hi → ¬ S k) (h2 : ∀ k, lo' ≤ k → k < hi' → ¬ S k) : Bss w' lo hi lo' hi' v ls := by
  obtain ⟨xs, hv, hl, hx⟩ := h
  exact ⟨xs, hv.kept hk h1, hl, fun i x l a b => (hx i x l a b).kept hk h2⟩
theorem Bss.shape {w : World} {lo hi lo' hi' : Nat} {v : Value} {ls : List (List UInt8)} (h : Bss w lo hi lo' hi' v ls) : ∃ a cap, v = .slice a ls.length cap ∧ ls.length ≤ cap ∧ cap ≤ 9223372036854775807 ∧ (a = none → cap = 0) := by
  obtain ⟨xs, ⟨a, cap, hv, g1, g2, g3, g4⟩, hl, hx⟩ := h
  exact ⟨a, cap, by rw [← hl]; exact hv, by omega, by unfold maxLen at g2; omega, g3⟩
theorem Vs.ne {w : World} {lo hi : Nat} {a : Option Addr} {n cap : Nat} {xs : List Value} (h : Vs w lo hi (.slice a n cap) xs) (hn : 0 < xs.length) :
    ∃ b o, a = some ⟨b, o, none⟩ ∧ lo ≤ b ∧ b < hi ∧ b < w.heap.size ∧ ∀ i x, xs[i]? = some x → w.cell? ⟨b, o + i, none⟩ = some x := by
  obtain ⟨a', cap', hv, g1, g2, g3, g4⟩ := h
  injection hv with e1 e2 e3
  subst e1 e2 e3
  cases a with
  | none => have := g3 rfl; omega
  | some ad =>
    obtain ⟨b, o, sp⟩ := ad
    have h0 := g4 _ rfl 0 _ (List.getElem?_eq_getElem hn)
    have hsp : sp = none := by
      have h2 := h0.2.2
      simp only [Addr.add_zero'] at h2
      unfold World.cell? at h2
      split at h2
      · cases sp with
        | none => rfl
        | some s => simp at h2
      · cases h2
    subst hsp
    refine ⟨b, o, rfl, h0.1, h0.2.1, by simpa [add_block] using block_lt_of_cell h0.2.2, fun i x hi => ?_⟩
    have h3 := (g4 _ rfl i _ hi).2.2
    rw [Addr.add_lit] at h3
    exact h3
/-- One of them: its cell, written out, and what it reads as. -/
theorem Bss.at {w : World} {lo hi lo' hi' : Nat} {a : Option Addr} {n cap : Nat} {ls : List (List UInt8)} (h : Bss w lo hi lo' hi' (.slice a n cap) ls) (hn : 0 < ls.length) :
    ∃ b o, a = some ⟨b, o, none⟩ ∧ lo ≤ b ∧ b < hi ∧ b < w.heap.size ∧ ∀ i (hi : i < ls.length), ∃ a' c', w.cell? ⟨b, o + i, none⟩ = some (.slice a' ls[i].length c') ∧ Bs w lo' hi' (.slice a' ls[i].length c') ls[i] := by
  obtain ⟨xs, hv, hl, hx⟩ := h
  obtain ⟨b, o, rfl, q1, q2, q3, q4⟩ := hv.ne (by omega)
  refine ⟨b, o, rfl, q1, q2, q3, fun i hi => ?_⟩
  have hb := hx i _ _ (List.getElem?_eq_getElem (by omega)) (List.getElem?_eq_getElem hi)
  obtain ⟨a', c', he, _⟩ := hb.shape
  have hc := q4 i _ (List.getElem?_eq_getElem (by omega))
  rw [he] at hb hc
  exact ⟨a', c', hc, hb⟩
/-- How many bytes they are together. -/
def total (ls : List (List UInt8)) : Nat := ls.flatten.length
theorem total_take (ls : List (List UInt8)) (k : Nat) (h : k < ls.length) : total (ls.take (k + 1)) = total (ls.take k) + ls[k].length := by
  unfold total
  rw [List.take_succ_eq_append_getElem h]
  simp only [List.flatten_append, List.flatten_cons, List.flatten_nil, List.append_nil, List.length_append]
theorem total_take_le (ls : List (List UInt8)) (k : Nat) : total (ls.take k) ≤ total ls := by
  unfold total
  conv => rhs; rw [← List.take_append_drop k ls]
  simp only [List.flatten_append, List.length_append]
  omega
theorem flatten_take (ls : List (List UInt8)) (k : Nat) (h : k < ls.length) : (ls.take (k + 1)).flatten = (ls.take k).flatten ++ ls[k] := by
  rw [List.take_succ_eq_append_getElem h]
  simp only [List.flatten_append, List.flatten_cons, List.flatten_nil, List.append_nil]

theorem Bs.all {w : World} {lo hi : Nat} {v : Value} {l : List UInt8} (h : Bs w lo hi v l) : Bs w 0 w.heap.size v l := Vs.wider (Vs.lt h) (Nat.zero_le _) (Nat.min_le_right _ _)
theorem Bs.wider {w : World} {lo hi lo' hi' : Nat} {v : Value} {l : List UInt8} (h : Bs w lo hi v l) (h1 : lo' ≤ lo) (h2 : hi ≤ hi') : Bs w lo' hi' v l := Vs.wider h h1 h2
/-- Pointwise, for a list that is written out. -/
def Reads (w : World) (lo hi : Nat) : List Value → List (List UInt8) → Prop
  | [], [] => True
  | x :: xs, l :: ls => Bs w lo hi x l ∧ Reads w lo hi xs ls
  | _, _ => False
theorem Reads.at {w : World} {lo hi : Nat} : ∀ {xs : List Value} {ls : List (List UInt8)}, Reads w lo hi xs ls → xs.length = ls.length ∧ ∀ (i : Nat) (x : Value) (l : List UInt8), xs[i]? = some x → ls[i]? = some l → Bs w lo hi x l
  | [], [], _ => ⟨rfl, fun i x l h _ => by simp at h⟩
  | x :: xs, l :: ls, ⟨h1, h2⟩ => by
    obtain ⟨g1, g2⟩ := Reads.at h2
    refine ⟨by simp [g1], fun i y m hy hm => ?_⟩
    cases i with
    | zero => simp at hy hm; subst hy hm; exact h1
    | succ i => exact g2 i y m (by simpa using hy) (by simpa using hm)
/-- The new row of a call with any number of arguments. -/
theorem Bss.new (w : World) (cs : Array Value) (t : TypeId) (ls : List (List UInt8)) (n : Nat) (hn : cs.size = n) (hm : n ≤ 9223372036854775807) (h : Reads w 0 w.heap.size cs.toList ls) :
    Bss (w.alloc (.cells cs t)) w.heap.size (w.heap.size + 1) 0 w.heap.size (.slice (some ⟨w.heap.size, 0, none⟩) n n) ls := by
  subst hn
  obtain ⟨h1, h2⟩ := h.at
  refine ⟨cs.toList, Vs.new w cs t cs.size (Nat.le_refl _) (by unfold maxLen; omega), h1, fun i x l a b => ?_⟩
  exact (h2 i x l a b).kept ((Kept.refl None w).alloc _) (fun _ _ _ h => h)

/-- A new block of cells that bears the run-time's mark ('[]byte("..")'). -/
theorem Vs.newMark (w : World) (cs : Array Value) (t : TypeId) (fr : Nat × Nat) (n : Nat) (hn : cs.size = n) (cap : Nat) (h1 : n ≤ cap) (h2 : cap ≤ maxLen) : Vs (w.alloc (.cells cs t fr)) w.heap.size (w.heap.size + 1) (.slice (some ⟨w.heap.size, 0, none⟩) n cap) cs.toList := by
  subst hn
  refine ⟨some ⟨w.heap.size, 0, none⟩, cap, by simp, by simpa using h1, h2, (fun h => by cases h), ?_⟩
  intro ad had i x hx
  simp only [Option.some.injEq] at had
  subst had
  refine ⟨Nat.le_refl _, by simp, ?_⟩
  rw [Addr.add_lit, Nat.zero_add, World.cell?_alloc_mark]
  simpa using hx
theorem Bs.newMark (w : World) (cs : Array Value) (t : TypeId) (fr : Nat × Nat) (n : Nat) (hn : cs.size = n) (h2 : n ≤ 9223372036854775807) (l : List UInt8) (hl : cs.toList = l.map u8v) : Bs (w.alloc (.cells cs t fr)) w.heap.size (w.heap.size + 1) (.slice (some ⟨w.heap.size, 0, none⟩) n n) l := by
  have := Vs.newMark w cs t fr n hn n (Nat.le_refl _) (by unfold maxLen; omega)
  rw [hl] at this
  exact this

/-- 'append' of bytes, as one step of a region that draws its order. -/
theorem step_append_bo {P : Program} {ops : Array Oper} {o : Oper} {a : Act} {w : World} {K : Act → World → Prop} {Q : Exit → Act → World → Prop} {E : Prop} (hgd : o.guard = none) (s x : Operand) (t : TypeId)
    (ho : o.op = .call { callee := .builtin .append, args := #[s, x], argTypes := #[t, t] }) {e : TypeId} (hT : RowTy P t e (.int .u8 0) 1)
    {v : Value} (hs : a.eval s = v) {u : Value} (hx : a.eval x = u) {base : Nat} {l : List UInt8} (hown : Bo e w base v l) {lo hi : Nat} {m : List UInt8} (hu : Bs w lo hi u m)
    (h63 : l.length + m.length ≤ 140737488355328) (hbase : base ≤ w.heap.size)
    (h : ∀ a' n' cap' w', Bo e w' base (.slice a' n' cap') (l ++ m) → Kept (Of v) w w' → K (a.put o.dst (.slice a' n' cap')) w') : if Region.wanted o (yielded ops a.tmps) = true then Oper.wp P o a w K Q else E := by
  have hw : Region.wanted o (yielded ops a.tmps) = true := by simp [Region.wanted, hgd]
  rw [if_pos hw]
  obtain ⟨v', w', hr, r2, r3⟩ := run_append_vs (w := w) (ty := o.type) hT hown hu (u8v_one m) (by rw [List.length_map]; unfold maxLen; omega) (by rw [List.length_map]; omega) hbase
  have hb : Bo e w' base v' (l ++ m) := by unfold Bo; rw [List.length_append, List.map_append]; simpa using r2
  obtain ⟨a', cap', rfl⟩ := hb.form
  unfold Oper.wp
  simp only [execOp, ho, resolve, invoke, builtin, Sem.run_bind, Sem.run_pure, Result.andThen_ok, List.map_toArray, List.map_cons, List.map_nil, hs, hx, hr]
  exact h _ _ _ _ hb (Kept.ofGrown r3)

/-- Numbers that a []uint64 reads as. -/
def u64v (n : Int) : Value := .int .u64 n
def Ns (w : World) (lo hi : Nat) (v : Value) (ns : List Int) : Prop := Vs w lo hi v (ns.map u64v) ∧ ∀ n ∈ ns, 0 ≤ n ∧ n < 18446744073709551616

/-- 'append' of bytes, run. -/
theorem run_append_bo {P : Program} {w : World} {t ty e : TypeId} (hT : RowTy P t e (.int .u8 0) 1) {base : Nat} {v : Value} {l : List UInt8} (hown : Bo e w base v l) {lo hi : Nat} {u : Value} {m : List UInt8} (hu : Bs w lo hi u m)
    (h63 : l.length + m.length ≤ 140737488355328) (hbase : base ≤ w.heap.size) :
    ∃ a' n' c' w', (Builtin.append_ #[t, t] ty #[v, u]).run P w = .ok (.slice a' n' c') w' ∧ Bo e w' base (.slice a' n' c') (l ++ m) ∧ Kept (Of v) w w' ∧ (∀ k, (Value.slice a' n' c').ownBlock = some k → v.ownBlock = some k ∨ k = w.heap.size) := by
  obtain ⟨v', w', hr, r2, r3⟩ := run_append_vs (w := w) (ty := ty) hT hown hu (u8v_one m) (by rw [List.length_map]; unfold maxLen; omega) (by rw [List.length_map]; omega) hbase
  have hblk := append_block hT hown hu (u8v_one m) (by rw [List.length_map]; unfold maxLen; omega) (by rw [List.length_map]; omega) hbase hr
  have hb : Bo e w' base v' (l ++ m) := by unfold Bo; rw [List.length_append, List.map_append]; simpa using r2
  obtain ⟨a', cap', rfl⟩ := hb.form
  refine ⟨_, _, _, w', hr, hb, Kept.ofGrown r3, fun k hk => ?_⟩
  rcases hblk with h | h
  · left; rw [← h]; exact hk
  · right; rw [h] at hk; exact (Option.some.inj hk).symm

/-- A slice of structs of two cells: a byte, an int. -/
def Acts (w : World) (lo hi : Nat) (v : Value) (l : List (Int × Int)) : Prop :=
  (∃ a cap, v = .slice a l.length cap ∧ l.length ≤ cap ∧ cap ≤ 9223372036854775807 ∧ (a = none → cap = 0) ∧
    ∀ ad, a = some ad → ∀ (i : Nat) (x : Int × Int), l[i]? = some x → lo ≤ ad.block ∧ ad.block < hi ∧ w.cell? (ad.add (i * 2)) = some (.int .u8 x.1) ∧ w.cell? ((ad.add (i * 2)).add 1) = some (.int .i64 x.2)) ∧
  ∀ x ∈ l, 0 ≤ x.1 ∧ x.1 < 256 ∧ -9223372036854775808 ≤ x.2 ∧ x.2 < 9223372036854775808
theorem Acts.ne {w : World} {lo hi : Nat} {a : Option Addr} {n cap : Nat} {l : List (Int × Int)} (h : Acts w lo hi (.slice a n cap) l) (hn : 0 < l.length) :
    ∃ b o, a = some ⟨b, o, none⟩ ∧ lo ≤ b ∧ b < hi ∧ b < w.heap.size ∧ ∀ i (hi : i < l.length), w.cell? ⟨b, o + i * 2, none⟩ = some (.int .u8 l[i].1) ∧ w.cell? ⟨b, o + i * 2 + 1, none⟩ = some (.int .i64 l[i].2) := by
  obtain ⟨⟨a', cap', hv, g1, g2, g3, g4⟩, _⟩ := h
  injection hv with e1 e2 e3
  subst e1 e2 e3
  cases a with
  | none => have := g3 rfl; omega
  | some ad =>
    obtain ⟨b, o, sp⟩ := ad
    have h0 := g4 _ rfl 0 _ (List.getElem?_eq_getElem hn)
    have hsp : sp = none := by
      have h2 := h0.2.2.1
      simp only [Nat.zero_mul, Addr.add_zero'] at h2
      unfold World.cell? at h2
      split at h2
      · cases sp with
        | none => rfl
        | some s => simp at h2
      · cases h2
    subst hsp
    refine ⟨b, o, rfl, h0.1, h0.2.1, by simpa [add_block] using block_lt_of_cell h0.2.2.1, fun i hi => ?_⟩
    have h3 := (g4 _ rfl i _ (List.getElem?_eq_getElem hi)).2.2
    rw [Addr.add_lit, Addr.add_lit] at h3
    exact h3

end Go.Pm

/- The document's Reader (chapter 1) as plain functions: program-independent. -/
namespace Go.Pm
open Go Go.RowKit

/-- Eight bytes as a number, the lowest first. -/
def leV (l : List UInt8) : Int := bAt l 0 + bAt l 1 * 256 + bAt l 2 * 65536 + bAt l 3 * 16777216 + bAt l 4 * 4294967296 + bAt l 5 * 1099511627776 + bAt l 6 * 281474976710656 + bAt l 7 * 72057594037927936

theorem leV_ge (l : List UInt8) : 0 ≤ leV l := by
  have A := bAt_ge l
  have := A 0; have := A 1; have := A 2; have := A 3; have := A 4; have := A 5; have := A 6; have := A 7
  unfold leV; omega
theorem leV_lt (l : List UInt8) : leV l < 18446744073709551616 := by
  have A := bAt_ge l
  have B := bAt_lt l
  have := A 0; have := A 1; have := A 2; have := A 3; have := A 4; have := A 5; have := A 6; have := A 7
  have := B 0; have := B 1; have := B 2; have := B 3; have := B 4; have := B 5; have := B 6; have := B 7
  unfold leV; omega
theorem bAt_byteOf_cons (x : Int) (l : List UInt8) : bAt (byteOf x :: l) 0 = x % 256 := byteOf_toNat x
theorem bAt_succ (b : UInt8) (l : List UInt8) (i : Nat) : bAt (b :: l) (i + 1) = bAt l i := by simp [bAt]
theorem leV_leB (n : Int) (h0 : 0 ≤ n) (h1 : n < 18446744073709551616) (r : List UInt8) : leV (leB n ++ r) = n := by
  unfold leV leB
  simp only [List.cons_append, bAt_succ, bAt_byteOf_cons]
  omega
theorem bAt_take (l : List UInt8) (n i : Nat) (h : i < n) : bAt (l.take n) i = bAt l i := by simp [bAt, List.getD, h]
theorem leV_take (l : List UInt8) : leV (l.take 8) = leV l := by unfold leV; simp [bAt_take]

/-- An or of numbers whose bits are apart is their sum. -/
theorem or_join (M k : Nat) (hM : 2 ^ k = M) (h64 : M ≤ 18446744073709551616) (x y : Int) (h0 : 0 ≤ x) (h1 : x < M) (h2 : 0 ≤ y) (h3 : y * M < 18446744073709551616) : bits .or .u64 x (y * M) = x + y * M := by
  obtain ⟨x, rfl⟩ := Int.eq_ofNat_of_zero_le h0
  obtain ⟨y, rfl⟩ := Int.eq_ofNat_of_zero_le h2
  have h1' : x < M := by omega
  have h3' : y * M < 18446744073709551616 := by have := Int.natCast_mul y M; omega
  rw [← Int.natCast_mul, u64_or_nat x (y * M) (by omega) h3', Nat.or_comm, nat_join k (y * M) x (by rw [hM]; exact Nat.mul_mod_left y M) (by rw [hM]; exact h1')]
  push_cast
  omega
theorem or_joinl (M k : Nat) (hM : 2 ^ k = M) (h64 : M ≤ 18446744073709551616) (x y : Int) (h0 : 0 ≤ x) (h1 : x < M) (h2 : 0 ≤ y) (h3 : y * M < 18446744073709551616) : bits .or .u64 (y * M) x = y * M + x := by
  obtain ⟨x, rfl⟩ := Int.eq_ofNat_of_zero_le h0
  obtain ⟨y, rfl⟩ := Int.eq_ofNat_of_zero_le h2
  have h1' : x < M := by omega
  have h3' : y * M < 18446744073709551616 := by have := Int.natCast_mul y M; omega
  rw [← Int.natCast_mul, u64_or_nat (y * M) x h3' (by omega), nat_join k (y * M) x (by rw [hM]; exact Nat.mul_mod_left y M) (by rw [hM]; exact h1')]
  push_cast
  omega

/-- What bin's Reader comes to by eight bytes, each shifted to its place. -/
theorem or_up (x0 x1 x2 x3 x4 x5 x6 x7 : Int) (a0 : 0 ≤ x0) (b0 : x0 < 256) (a1 : 0 ≤ x1) (b1 : x1 < 256) (a2 : 0 ≤ x2) (b2 : x2 < 256) (a3 : 0 ≤ x3) (b3 : x3 < 256)
    (a4 : 0 ≤ x4) (b4 : x4 < 256) (a5 : 0 ≤ x5) (b5 : x5 < 256) (a6 : 0 ≤ x6) (b6 : x6 < 256) (a7 : 0 ≤ x7) (b7 : x7 < 256) :
    bits .or .u64 (bits .or .u64 (bits .or .u64 (bits .or .u64 (bits .or .u64 (bits .or .u64 (bits .or .u64 (bits .or .u64 0 x0) (x1 * 256)) (x2 * 65536)) (x3 * 16777216)) (x4 * 4294967296)) (x5 * 1099511627776)) (x6 * 281474976710656)) (x7 * 72057594037927936) =
      x0 + x1 * 256 + x2 * 65536 + x3 * 16777216 + x4 * 4294967296 + x5 * 1099511627776 + x6 * 281474976710656 + x7 * 72057594037927936 := by
  have e0 := or_join 1 0 rfl (by decide) 0 x0 (by omega) (by omega) (by omega) (by omega)
  simp only [Int.natCast_one, Int.mul_one, Int.zero_add] at e0
  rw [e0]
  have e1 := or_join 256 8 rfl (by decide) x0 x1 (by omega) (by omega) (by omega) (by omega)
  have e2 := or_join 65536 16 rfl (by decide) (x0 + x1 * 256) x2 (by omega) (by omega) (by omega) (by omega)
  have e3 := or_join 16777216 24 rfl (by decide) (x0 + x1 * 256 + x2 * 65536) x3 (by omega) (by omega) (by omega) (by omega)
  have e4 := or_join 4294967296 32 rfl (by decide) (x0 + x1 * 256 + x2 * 65536 + x3 * 16777216) x4 (by omega) (by omega) (by omega) (by omega)
  have e5 := or_join 1099511627776 40 rfl (by decide) (x0 + x1 * 256 + x2 * 65536 + x3 * 16777216 + x4 * 4294967296) x5 (by omega) (by omega) (by omega) (by omega)
  have e6 := or_join 281474976710656 48 rfl (by decide) (x0 + x1 * 256 + x2 * 65536 + x3 * 16777216 + x4 * 4294967296 + x5 * 1099511627776) x6 (by omega) (by omega) (by omega) (by omega)
  have e7 := or_join 72057594037927936 56 rfl (by decide) (x0 + x1 * 256 + x2 * 65536 + x3 * 16777216 + x4 * 4294967296 + x5 * 1099511627776 + x6 * 281474976710656) x7 (by omega) (by omega) (by omega) (by omega)
  exact (congrArg (fun z => bits .or .u64 (bits .or .u64 (bits .or .u64 (bits .or .u64 (bits .or .u64 (bits .or .u64 z (x2 * 65536)) (x3 * 16777216)) (x4 * 4294967296)) (x5 * 1099511627776)) (x6 * 281474976710656)) (x7 * 72057594037927936)) e1).trans
    ((congrArg (fun z => bits .or .u64 (bits .or .u64 (bits .or .u64 (bits .or .u64 (bits .or .u64 z (x3 * 16777216)) (x4 * 4294967296)) (x5 * 1099511627776)) (x6 * 281474976710656)) (x7 * 72057594037927936)) e2).trans
    ((congrArg (fun z => bits .or .u64 (bits .or .u64 (bits .or .u64 (bits .or .u64 z (x4 * 4294967296)) (x5 * 1099511627776)) (x6 * 281474976710656)) (x7 * 72057594037927936)) e3).trans
    ((congrArg (fun z => bits .or .u64 (bits .or .u64 (bits .or .u64 z (x5 * 1099511627776)) (x6 * 281474976710656)) (x7 * 72057594037927936)) e4).trans
    ((congrArg (fun z => bits .or .u64 (bits .or .u64 z (x6 * 281474976710656)) (x7 * 72057594037927936)) e5).trans
    ((congrArg (fun z => bits .or .u64 z (x7 * 72057594037927936)) e6).trans e7)))))

/-- A step of the reference's Word: shifted up, a byte behind it. -/
theorem or_step (v x : Int) (h0 : 0 ≤ v) (h1 : v < 72057594037927936) (a : 0 ≤ x) (b : x < 256) : bits .or .u64 (IntKind.u64.wrap (v * 256)) x = v * 256 + x := by
  rw [IntKind.wrap_u64, Int.emod_eq_of_lt (by omega) (by omega)]
  exact or_joinl 256 8 rfl (by decide) x v a (by omega) h0 (by omega)
theorem or_zero (x : Int) (a : 0 ≤ x) (b : x < 256) : bits .or .u64 0 x = x := by
  have e0 := or_join 1 0 rfl (by decide) 0 x (by omega) (by omega) (by omega) (by omega)
  simpa using e0

/-! ### The Reader: what it has before it, and its first error (0: none). -/
structure St where
  l : List UInt8
  e : Int
def St.Ok (s : St) : Prop := s.e ≠ 0 → s.l = []
def St.num (s : St) : Int := if s.e = 0 ∧ 8 ≤ s.l.length then leV s.l else 0
def St.numS (s : St) : St := if s.e = 0 then (if 8 ≤ s.l.length then ⟨s.l.drop 8, 0⟩ else ⟨[], 21⟩) else s
def St.raw (s : St) (n : Int) : List UInt8 := if s.e = 0 ∧ n ≤ s.l.length then s.l.take n.toNat else []
def St.rawS (s : St) (n : Int) : St := if s.e = 0 then (if n ≤ s.l.length then ⟨s.l.drop n.toNat, 0⟩ else ⟨[], 21⟩) else s
def St.lump (s : St) (m : Int) : List UInt8 := if s.numS.e = 0 ∧ s.num ≤ max m 0 then s.numS.raw s.num else []
def St.lumpS (s : St) (m : Int) : St := if s.numS.e = 0 then (if s.num ≤ max m 0 then s.numS.rawS s.num else ⟨[], 22⟩) else s.numS

theorem St.num_ge (s : St) : 0 ≤ s.num := by unfold St.num; split; exact leV_ge _; exact Int.le_refl _
theorem St.num_lt (s : St) : s.num < 18446744073709551616 := by unfold St.num; split; exact leV_lt _; decide
theorem St.numS_ok {s : St} (h : s.Ok) : s.numS.Ok := by
  unfold St.numS
  split
  · split
    · intro h'; exact absurd rfl h'
    · intro _; rfl
  · exact h
theorem St.rawS_ok {s : St} (h : s.Ok) (n : Int) : (s.rawS n).Ok := by
  unfold St.rawS
  split
  · split
    · intro h'; exact absurd rfl h'
    · intro _; rfl
  · exact h
theorem St.lumpS_ok {s : St} (h : s.Ok) (m : Int) : (s.lumpS m).Ok := by
  unfold St.lumpS
  split
  · split
    · exact St.rawS_ok (St.numS_ok h) _
    · intro _; rfl
  · exact St.numS_ok h
theorem St.raw_max (s : St) (n : Int) : s.raw (max n 0) = s.raw n := by
  unfold St.raw
  by_cases h : 0 ≤ n
  · rw [Int.max_eq_left h]
  · have h1 : max n 0 = 0 := by omega
    have h2 : n.toNat = 0 := by omega
    have h3 : n ≤ s.l.length := by omega
    rw [h1, h2]
    simp [h3]
theorem St.rawS_max (s : St) (n : Int) : s.rawS (max n 0) = s.rawS n := by
  unfold St.rawS
  by_cases h : 0 ≤ n
  · rw [Int.max_eq_left h]
  · have h1 : max n 0 = 0 := by omega
    have h2 : n.toNat = 0 := by omega
    have h3 : n ≤ s.l.length := by omega
    rw [h1, h2]
    simp [h3]
theorem St.raw_len (s : St) (n : Int) : (s.raw n).length ≤ s.l.length := by unfold St.raw; split <;> simp; omega
theorem St.rawS_len (s : St) (n : Int) : (s.rawS n).l.length ≤ s.l.length := by unfold St.rawS; (repeat' split) <;> simp
theorem St.numS_len (s : St) : s.numS.l.length ≤ s.l.length := by unfold St.numS; (repeat' split) <;> simp
theorem St.lump_len (s : St) (n : Int) : (s.lump n).length ≤ s.l.length := by
  unfold St.lump; split
  · exact Nat.le_trans (St.raw_len _ _) (St.numS_len _)
  · simp
theorem St.lumpS_len (s : St) (n : Int) : (s.lumpS n).l.length ≤ s.l.length := by
  unfold St.lumpS
  split
  · split
    · exact Nat.le_trans (St.rawS_len _ _) (St.numS_len _)
    · simp
  · exact St.numS_len _
/-! ### What is said is heard. -/
theorem St.num_said (n : Int) (h0 : 0 ≤ n) (h1 : n < 18446744073709551616) (r : List UInt8) : St.num ⟨leB n ++ r, 0⟩ = n ∧ St.numS ⟨leB n ++ r, 0⟩ = ⟨r, 0⟩ := by
  have h8 : 8 ≤ (leB n ++ r).length := by simp [leB_length]
  constructor
  · unfold St.num
    rw [if_pos ⟨rfl, h8⟩]
    exact leV_leB n h0 h1 r
  · unfold St.numS
    rw [if_pos rfl, if_pos h8]
    simp only [St.mk.injEq, and_true]
    exact List.drop_left' (leB_length n)
theorem St.lump_said (l : List UInt8) (m : Int) (hm : (l.length : Int) ≤ m) (hl : l.length < 18446744073709551616) (r : List UInt8) : St.lump ⟨(leB l.length ++ l) ++ r, 0⟩ m = l ∧ St.lumpS ⟨(leB l.length ++ l) ++ r, 0⟩ m = ⟨r, 0⟩ := by
  rw [List.append_assoc]
  obtain ⟨h1, h2⟩ := St.num_said (l.length : Int) (by omega) (by omega) (l ++ r)
  unfold St.lump St.lumpS St.raw St.rawS
  rw [h1, h2]
  have hle : (l.length : Int) ≤ ((l ++ r).length : Int) := by simp; omega
  have hmax : (l.length : Int) ≤ max m 0 := by omega
  constructor
  · rw [if_pos ⟨rfl, hmax⟩, if_pos ⟨rfl, hle⟩, Int.toNat_natCast]
    exact List.take_left' rfl
  · rw [if_pos rfl, if_pos hmax, if_pos rfl, if_pos hle, Int.toNat_natCast]
    simp only [St.mk.injEq, and_true]
    exact List.drop_left' rfl
end Go.Pm

/- Numbers modulo 2^61 - 1 and 2^61 - 2 (chapter 3) as plain mathematics: program-independent. Each number but 0 to the power 2^61 - 2 is 1 modulo 2^61 - 1. -/
namespace Go.Pm

/-! ### Powers modulo m, by squares (so that the kernel can reckon them) -/
def powSq (m : Nat) : Nat → Nat → Nat → Nat → Nat
  | 0, _, _, out => out
  | f + 1, a, n, out => powSq m f (a * a % m) (n / 2) (if n % 2 = 1 then out * a % m else out)
theorem powSq_is (m : Nat) : ∀ (f a n out : Nat), n < 2 ^ f → powSq m f a n out % m = out * a ^ n % m
  | 0, a, n, out, h => by
    have : n = 0 := by simpa using h
    subst this
    simp [powSq]
  | f + 1, a, n, out, h => by
    unfold powSq
    rw [powSq_is m f _ _ _ (by rw [Nat.pow_succ] at h; omega)]
    have hn : n = 2 * (n / 2) + n % 2 := by omega
    have h2 : a ^ (2 * (n / 2)) = (a * a) ^ (n / 2) := by rw [Nat.pow_mul, Nat.pow_two]
    have h3 : (a * a % m) ^ (n / 2) % m = (a * a) ^ (n / 2) % m := (Nat.pow_mod (a * a) (n / 2) m).symm
    by_cases ho : n % 2 = 1
    · rw [if_pos ho]
      conv => rhs; rw [hn, ho, Nat.pow_succ, h2]
      rw [Nat.mul_mod, h3, Nat.mod_mod, ← Nat.mul_mod, Nat.mul_assoc, Nat.mul_comm a]
    · rw [if_neg ho]
      have h0 : n % 2 = 0 := by omega
      conv => rhs; rw [hn, h0, Nat.add_zero, h2]
      rw [Nat.mul_mod, h3, ← Nat.mul_mod]

/-! ### A set of n things that is sent into itself, one to one, is sent onto itself -/
theorem onto_of_inj : ∀ (n : Nat) (f : Nat → Nat), (∀ i, i < n → f i < n) → (∀ i j, i < n → j < n → f i = f j → i = j) → ∀ y, y < n → ∃ x, x < n ∧ f x = y
  | 0, _, _, _, y, hy => by omega
  | n + 1, f, hf, hi, y, hy => by
    -- the last one's image changes places with n
    have hlast := hf n (by omega)
    let g : Nat → Nat := fun i => if f i = n then f n else f i
    have hg : ∀ i, i < n → g i < n := fun i h => by
      show (if f i = n then f n else f i) < n
      by_cases e : f i = n
      · rw [if_pos e]
        have : f n ≠ n := fun e2 => by have := hi i n (by omega) (by omega) (e.trans e2.symm); omega
        omega
      · rw [if_neg e]
        have := hf i (by omega)
        omega
    have hgi : ∀ i j, i < n → j < n → g i = g j → i = j := fun i j h1 h2 h => by
      change (if f i = n then f n else f i) = (if f j = n then f n else f j) at h
      by_cases e1 : f i = n <;> by_cases e2 : f j = n
      · exact hi i j (by omega) (by omega) (e1.trans e2.symm)
      · rw [if_pos e1, if_neg e2] at h
        have := hi n j (by omega) (by omega) h
        omega
      · rw [if_neg e1, if_pos e2] at h
        have := hi i n (by omega) (by omega) h
        omega
      · rw [if_neg e1, if_neg e2] at h
        exact hi i j (by omega) (by omega) h
    by_cases e : f n = y
    · exact ⟨n, by omega, e⟩
    · by_cases hyn : y = n
      · -- n itself: who is sent to the place of f n under g was sent to n
        subst hyn
        obtain ⟨x, hx, hgx⟩ := onto_of_inj y g hg hgi (f y) (by omega)
        refine ⟨x, by omega, ?_⟩
        change (if f x = y then f y else f x) = f y at hgx
        by_cases e2 : f x = y
        · exact e2
        · rw [if_neg e2] at hgx
          have := hi x y (by omega) (by omega) hgx
          omega
      · obtain ⟨x, hx, hgx⟩ := onto_of_inj n g hg hgi y (by omega)
        refine ⟨x, by omega, ?_⟩
        change (if f x = n then f n else f x) = y at hgx
        by_cases e2 : f x = n
        · rw [if_pos e2] at hgx; exact absurd hgx e
        · rwa [if_neg e2] at hgx

/-! ### A number whose powers go round as late as may be -/
/-- q has no divisors but 1 and itself. -/
def noDiv (q : Nat) : Bool := (List.range (q + 1)).all fun d => decide (d = 1) || decide (d = q) || decide (q % d ≠ 0)
theorem noDiv_spec {q d : Nat} (h : noDiv q = true) (hq : 0 < q) (hd : d ∣ q) : d = 1 ∨ d = q := by
  have hle := Nat.le_of_dvd hq hd
  have := List.all_eq_true.1 h d (List.mem_range.2 (by omega))
  simp only [Bool.or_eq_true, decide_eq_true_eq] at this
  rcases this with (h1 | h1) | h1
  · exact .inl h1
  · exact .inr h1
  · exact absurd (Nat.mod_eq_zero_of_dvd hd) h1
/-- Whoever divides a product of such numbers and is not 1 is divided by one of them. -/
theorem has_factor : ∀ (l : List Nat) (m : Nat), (∀ q ∈ l, 1 < q ∧ noDiv q = true) → 1 < m → m ∣ l.foldr (· * ·) 1 → ∃ q ∈ l, q ∣ m
  | [], m, _, h1, h => by simp at h; omega
  | q :: l, m, hl, h1, h => by
    have hq := hl q (by simp)
    have hg := Nat.gcd_dvd_right m q
    rcases noDiv_spec hq.2 (by omega) hg with e | e
    · have hc : Nat.Coprime m q := e
      have h2 : m ∣ l.foldr (· * ·) 1 := hc.dvd_of_dvd_mul_left (by simpa using h)
      obtain ⟨r, hr, hd⟩ := has_factor l m (fun x hx => hl x (by simp [hx])) h1 h2
      exact ⟨r, by simp [hr], hd⟩
    · exact ⟨q, by simp, by rw [← e]; exact Nat.gcd_dvd_left m q⟩

theorem least {p : Nat → Prop} : ∀ n, p n → ∃ k, p k ∧ ∀ j, j < k → ¬ p j := by
  intro n
  induction n using Nat.strongRecOn with
  | ind n ih =>
    intro h
    by_cases e : ∃ j, j < n ∧ p j
    · obtain ⟨j, hj, hp⟩ := e
      exact ih j hj hp
    · exact ⟨n, h, fun j hj hp => e ⟨j, hj, hp⟩⟩

/-- Where a power of g is 1, so is that by the rest of it. -/
theorem pow_rest {P g o n : Nat} (ho : g ^ o % P = 1) (hn : g ^ n % P = 1) : g ^ (n % o) % P = 1 := by
  have h2 : g ^ (o * (n / o)) % P = 1 % P := by rw [Nat.pow_mul, Nat.pow_mod, ho, Nat.one_pow]
  have h3 : g ^ n % P = (g ^ (o * (n / o)) % P) * (g ^ (n % o) % P) % P := by
    conv => lhs; rw [← Nat.div_add_mod n o, Nat.pow_add]
    exact Nat.mul_mod _ _ _
  rw [h2, hn] at h3
  rw [← Nat.mul_mod, Nat.one_mul] at h3
  exact h3.symm
section
variable {P g N : Nat} (hP : P = N + 1) (h1 : g ^ N % P = 1)
include h1
theorem pow_mul_one (k : Nat) : g ^ (N * k) % P = 1 % P := by
  rw [Nat.pow_mul, Nat.pow_mod, h1, Nat.one_pow]
theorem pow_add_N (i : Nat) : g ^ (N + i) % P = g ^ i % P := by
  rw [Nat.pow_add, Nat.mul_mod, h1, Nat.one_mul, Nat.mod_mod]
include hP
/-- If no power by N over one of N's factors is 1, none below N is. -/
theorem order_full (hN : 0 < N) {l : List Nat} (hl : ∀ q ∈ l, 1 < q ∧ noDiv q = true) (hprod : l.foldr (· * ·) 1 = N) (hq : ∀ q ∈ l, g ^ (N / q) % P ≠ 1) : ∀ d, 0 < d → d < N → g ^ d % P ≠ 1 := by
  obtain ⟨o, ⟨ho0, ho1⟩, hmin⟩ := least (p := fun n => 0 < n ∧ g ^ n % P = 1) N ⟨hN, h1⟩
  have hdvd : N % o = 0 := by
    by_cases e : N % o = 0
    · exact e
    · exact absurd ⟨Nat.pos_of_ne_zero e, pow_rest ho1 h1⟩ (hmin _ (Nat.mod_lt _ ho0))
  have hoN : o = N := by
    have hle : o ≤ N := Nat.le_of_dvd hN (Nat.dvd_of_mod_eq_zero hdvd)
    by_cases e : o = N
    · exact e
    · exfalso
      have hm : N = o * (N / o) := by have := Nat.div_add_mod N o; rw [hdvd] at this; omega
      have hgt : 1 < N / o := by
        rcases Nat.lt_or_ge 1 (N / o) with h | h
        · exact h
        · exfalso
          have : N ≤ o * 1 := Nat.le_trans (Nat.le_of_eq hm) (Nat.mul_le_mul_left o h)
          omega
      obtain ⟨q, hqm, hqd⟩ := has_factor l (N / o) hl hgt (by rw [hprod]; exact ⟨o, by rw [Nat.mul_comm]; exact hm⟩)
      obtain ⟨r, hr⟩ := hqd
      have hq1 := (hl q hqm).1
      have hNq : N / q = o * r := by
        rw [hm, hr, show o * (q * r) = q * (o * r) by rw [Nat.mul_left_comm]]
        exact Nat.mul_div_cancel_left _ (by omega)
      refine hq q hqm ?_
      rw [hNq, Nat.pow_mul, Nat.pow_mod, ho1, Nat.one_pow]
      exact Nat.mod_eq_of_lt (by omega)
  intro d hd0 hd1 hd
  exact hmin d (by omega) ⟨hd0, hd⟩
/-- Each number but 0, to the power N, is 1 modulo P. -/
theorem fermat_of (hN : 0 < N) (hfull : ∀ d, 0 < d → d < N → g ^ d % P ≠ 1) (x : Nat) (hx : x % P ≠ 0) : x ^ N % P = 1 := by
  have hP1 : 1 % P = 1 := Nat.mod_eq_of_lt (by omega)
  have hne : ∀ i, i < N → g ^ i % P ≠ 0 := fun i hi e => by
    have h2 : g ^ N % P = (g ^ i % P) * (g ^ (N - i) % P) % P := by
      rw [← Nat.mul_mod, ← Nat.pow_add, show i + (N - i) = N by omega]
    rw [e, Nat.zero_mul, Nat.zero_mod] at h2
    omega
  have hlt : ∀ i, g ^ i % P < P := fun i => Nat.mod_lt _ (by omega)
  have hinj : ∀ i j, i < j → j < N → g ^ i % P ≠ g ^ j % P := fun i j hij hj e => by
    have h2 : g ^ (N + (j - i)) % P = g ^ N % P := by
      have e1 : N + (j - i) = (N - i) + j := by omega
      have e2 : N = (N - i) + i := by omega
      rw [e1, Nat.pow_add, Nat.mul_mod, ← e, ← Nat.mul_mod, ← Nat.pow_add, ← e2]
    rw [pow_add_N h1, h1] at h2
    exact hfull (j - i) (by omega) (by omega) h2
  have hr := hlt 0
  obtain ⟨i, hi, he⟩ := onto_of_inj N (fun i => g ^ i % P - 1) (fun i hi => by have := hne i hi; have := hlt i; show g ^ i % P - 1 < N; omega)
    (fun i j hi hj e => by
      change g ^ i % P - 1 = g ^ j % P - 1 at e
      have := hne i hi
      have := hne j hj
      have e' : g ^ i % P = g ^ j % P := by omega
      rcases Nat.lt_trichotomy i j with h | h | h
      · exact absurd e' (hinj i j h hj)
      · exact h
      · exact absurd e'.symm (hinj j i h hi)) (x % P - 1) (by have := Nat.mod_lt x (show 0 < P by omega); omega)
  change g ^ i % P - 1 = x % P - 1 at he
  have := hne i hi
  have hxi : x % P = g ^ i % P := by omega
  rw [Nat.pow_mod, hxi, ← Nat.pow_mod, ← Nat.pow_mul, Nat.mul_comm, pow_mul_one h1, hP1]
end

/-! ### The prime -/
def prime61 : Nat := 2305843009213693951
def order61 : Nat := 2305843009213693950
def factors61 : List Nat := [2, 3, 3, 5, 5, 7, 11, 13, 31, 41, 61, 151, 331, 1321]
/-- x to the n, modulo m (by a name, so that no great power is ever written out). -/
@[irreducible] def powm (m x n : Nat) : Nat := x ^ n % m
theorem powm_is (m x n : Nat) : powm m x n = x ^ n % m := by unfold powm; rfl
theorem fermat_cert {P N f g : Nat} {l : List Nat} (hP : P = N + 1) (hN : 0 < N) (hf : N < 2 ^ f) (hl : ∀ q ∈ l, 1 < q ∧ noDiv q = true) (hprod : l.foldr (· * ·) 1 = N) (h1 : powSq P f g N 1 % P = 1) (hq : ∀ q ∈ l, powSq P f g (N / q) 1 % P ≠ 1) (x : Nat) (hx : x % P ≠ 0) : powm P x N = 1 := by
  rw [powm_is]
  have h2 : g ^ N % P = 1 := by rw [powSq_is P f g N 1 hf, Nat.one_mul] at h1; exact h1
  refine fermat_of hP h2 hN (order_full hP h2 hN hl hprod fun q hqm e => hq q hqm ?_) x hx
  rw [powSq_is P f g (N / q) 1 (Nat.lt_of_le_of_lt (Nat.div_le_self _ _) hf), Nat.one_mul]
  exact e
theorem fermat61 (x : Nat) (hx : x % prime61 ≠ 0) : powm prime61 x order61 = 1 :=
  fermat_cert (f := 61) (g := 37) (l := factors61) rfl (by decide) (by decide) (by decide +kernel) (by decide +kernel) (by decide +kernel) (by decide +kernel) x hx

/-! ### Steps of doubling and adding, of squaring and multiplying -/
theorem mul_odd (m out a b : Nat) (h : b % 2 = 1) : ((out + a) % m + (a + a) % m * (b / 2)) % m = (out + a * b) % m := by
  have hb : b = 2 * (b / 2) + 1 := by omega
  rw [Nat.add_mod, Nat.mod_mod, Nat.mul_mod, Nat.mod_mod, ← Nat.mul_mod, ← Nat.add_mod]
  congr 1
  conv => rhs; rw [hb]
  rw [Nat.mul_add, Nat.mul_one, ← Nat.mul_assoc, show a * 2 = a + a by omega]
  omega
theorem mul_even (m out a b : Nat) (h : b % 2 = 0) : (out + (a + a) % m * (b / 2)) % m = (out + a * b) % m := by
  have hb : b = 2 * (b / 2) := by omega
  rw [Nat.add_mod, Nat.mul_mod, Nat.mod_mod, ← Nat.mul_mod, ← Nat.add_mod]
  congr 1
  conv => rhs; rw [hb]
  rw [← Nat.mul_assoc, show a * 2 = a + a by omega]
theorem pow_odd (m out a n : Nat) (h : n % 2 = 1) : (out * a % m) * powm m (a * a % m) (n / 2) % m = out * powm m a n % m := by
  have hn : n = 2 * (n / 2) + 1 := by omega
  rw [powm_is, powm_is]
  have h2 : a ^ n = (a * a) ^ (n / 2) * a := by
    conv => lhs; rw [hn, Nat.pow_succ, Nat.pow_mul, Nat.pow_two]
  have h3 : out * a % m * ((a * a % m) ^ (n / 2) % m) % m = out * a % m * ((a * a) ^ (n / 2) % m) % m := by rw [← Nat.pow_mod]
  rw [h2, h3, ← Nat.mul_mod, Nat.mul_mod_mod, Nat.mul_assoc, Nat.mul_comm a]
theorem pow_even (m out a n : Nat) (h : n % 2 = 0) : out * powm m (a * a % m) (n / 2) % m = out * powm m a n % m := by
  have hn : n = 2 * (n / 2) := by omega
  rw [powm_is, powm_is]
  have h2 : a ^ n = (a * a) ^ (n / 2) := by
    conv => lhs; rw [hn, Nat.pow_mul, Nat.pow_two]
  rw [h2, ← Nat.pow_mod]
theorem powm_zero (m a : Nat) : powm m a 0 = 1 % m := by rw [powm_is, Nat.pow_zero]
theorem powm_one (m a : Nat) : powm m a 1 = a % m := by rw [powm_is, Nat.pow_one]
theorem powm_lt (m a n : Nat) (h : 0 < m) : powm m a n < m := by rw [powm_is]; exact Nat.mod_lt _ h
theorem powm_mod (m a n : Nat) : powm m (a % m) n = powm m a n := by rw [powm_is, powm_is, ← Nat.pow_mod]
theorem powm_add (m a i j : Nat) : powm m a (i + j) = powm m a i * powm m a j % m := by rw [powm_is, powm_is, powm_is, Nat.pow_add, Nat.mul_mod]
theorem powm_succ (m a i : Nat) : powm m a (i + 1) = powm m a i * a % m := by rw [powm_is, powm_is, Nat.pow_succ, Nat.mod_mul_mod]
theorem powm_pow (m a i j : Nat) : powm m (powm m a i) j = powm m a (i * j) := by rw [powm_is, powm_is, powm_is, ← Nat.pow_mod, Nat.pow_mul]
theorem powm_mul (m a b n : Nat) : powm m (a * b % m) n = powm m a n * powm m b n % m := by rw [powm_mod, powm_is, powm_is, powm_is, Nat.mul_pow, Nat.mul_mod]
theorem powm_one' (m n : Nat) : powm m 1 n = 1 % m := by rw [powm_is, Nat.one_pow]

/-! ### The laws -/
theorem mulm_assoc (m a b c : Nat) : a * (b * c % m) % m = (a * b % m) * c % m := by rw [Nat.mul_mod_mod, Nat.mod_mul_mod, Nat.mul_assoc]
theorem mulm_dist (m a b c : Nat) : a * ((b + c) % m) % m = (a * b % m + a * c % m) % m := by rw [Nat.mul_mod_mod, Nat.mul_add, ← Nat.add_mod]

/-! ### What is undone -/
def invm (a : Nat) : Nat := powm prime61 a 2305843009213693949
theorem invm_mul (a : Nat) (h : a % prime61 ≠ 0) : a * invm a % prime61 = 1 := by
  have h1 := fermat61 a h
  rw [show order61 = 2305843009213693949 + 1 from rfl, powm_succ, Nat.mul_comm] at h1
  exact h1
theorem invm_zero (a : Nat) (h : a % prime61 = 0) : invm a = 0 := by
  unfold invm
  rw [← powm_mod, h, show (2305843009213693949 : Nat) = 2305843009213693948 + 1 from rfl, powm_succ, Nat.mul_zero, Nat.zero_mod]
theorem invm_lt (a : Nat) : invm a < prime61 := powm_lt _ _ _ (by decide)
theorem invm_mod (a : Nat) : invm (a % prime61) = invm a := powm_mod _ _ _
/-- There is one such number only. -/
theorem invm_only (a b : Nat) (h : a * b % prime61 = 1) (hb : b < prime61) : b = invm a := by
  have ha : a % prime61 ≠ 0 := fun e => by
    rw [Nat.mul_mod, e, Nat.zero_mul, Nat.zero_mod] at h
    cases h
  have h1 := invm_mul a ha
  have h2 : b * (a * invm a % prime61) % prime61 = (b * a % prime61) * invm a % prime61 := mulm_assoc _ _ _ _
  rw [h1, Nat.mul_comm b a, h, Nat.mul_one, Nat.one_mul, Nat.mod_eq_of_lt hb, Nat.mod_eq_of_lt (invm_lt a)] at h2
  exact h2
theorem invm_ne (a : Nat) (h : a % prime61 ≠ 0) : invm a % prime61 ≠ 0 := fun e => by
  have := invm_mul a h
  rw [Nat.mul_mod, e, Nat.mul_zero, Nat.zero_mod] at this
  cases this
theorem invm_twice (a : Nat) : invm (invm a) = a % prime61 := by
  by_cases h : a % prime61 = 0
  · rw [invm_zero a h, h]; exact invm_zero 0 rfl
  · refine (invm_only (invm a) (a % prime61) ?_ (Nat.mod_lt _ (by decide))).symm
    rw [Nat.mul_mod_mod, Nat.mul_comm]
    exact invm_mul a h
theorem invm_prod (a b : Nat) : invm (a * b % prime61) = invm a * invm b % prime61 := powm_mul _ _ _ _
theorem invm_pow (a n : Nat) : powm prime61 (invm a) n = invm (powm prime61 a n) := by
  unfold invm
  rw [powm_pow, powm_pow, Nat.mul_comm]
theorem one_iff (a : Nat) : powm prime61 a order61 = 1 ↔ a % prime61 ≠ 0 := by
  refine ⟨fun h e => ?_, fermat61 a⟩
  rw [← powm_mod, e, show order61 = 2305843009213693949 + 1 from rfl, powm_succ, Nat.mul_zero, Nat.zero_mod] at h
  cases h
theorem invm_iff (a : Nat) : a * invm a % prime61 = 1 ↔ a % prime61 ≠ 0 := by
  refine ⟨fun h e => ?_, invm_mul a⟩
  rw [invm_zero a e, Nat.mul_zero, Nat.zero_mod] at h
  cases h
end Go.Pm

/- Long division of two words by one, digit by digit, as plain mathematics (program-independent): conditions: the divisor's highest bit is set; a digit is 32 bits. -/
namespace Go.Pm

/-- One step of a digit's guess: it is too great, so one less is no less than the digit. -/
theorem digit_step {y y1 y0 u d q r : Nat} (hy : y = y1 * 4294967296 + y0) (hu : u < y) (hd : d < 4294967296) (hq : q * y1 + r = u) (hle : (u * 4294967296 + d) / y ≤ q)
    (hc : 4294967296 ≤ q ∨ 4294967296 * r + d < q * y0) : 1 ≤ q ∧ (u * 4294967296 + d) / y ≤ q - 1 ∧ (q - 1) * y1 + (r + y1) = u := by
  have hlt : (u * 4294967296 + d) / y < q := by
    rcases hc with h | h
    · refine Nat.lt_of_lt_of_le ((Nat.div_lt_iff_lt_mul (by omega)).2 ?_) h
      rw [Nat.mul_comm]
      have : (u + 1) * 4294967296 ≤ y * 4294967296 := Nat.mul_le_mul_right _ hu
      omega
    · refine (Nat.div_lt_iff_lt_mul (by omega)).2 ?_
      have e1 : q * y = (q * y1) * 4294967296 + q * y0 := by rw [hy, Nat.mul_add, Nat.mul_assoc]
      omega
  obtain ⟨Q, hQ⟩ : ∃ Q, Q = (u * 4294967296 + d) / y := ⟨_, rfl⟩
  rw [← hQ] at hle hlt ⊢
  clear hQ
  refine ⟨by omega, by omega, ?_⟩
  obtain ⟨p, rfl⟩ : ∃ p, q = p + 1 := ⟨q - 1, by omega⟩
  rw [Nat.add_mul] at hq
  simp only [Nat.add_sub_cancel]
  omega

/-- A guess that is not too great any more is the digit. -/
theorem digit_done {y y1 y0 u d q r : Nat} (hy : y = y1 * 4294967296 + y0) (hu : u < y) (hq : q * y1 + r = u) (hle : (u * 4294967296 + d) / y ≤ q) (hc : q * y0 ≤ 4294967296 * r + d) : q = (u * 4294967296 + d) / y := by
  refine Nat.le_antisymm ((Nat.le_div_iff_mul_le (by omega)).2 ?_) hle
  have e1 : q * y = (q * y1) * 4294967296 + q * y0 := by rw [hy, Nat.mul_add, Nat.mul_assoc]
  omega
theorem digit_break {y y1 y0 u d q r : Nat} (hy : y = y1 * 4294967296 + y0) (h0 : y0 < 4294967296) (hu : u < y) (hq : q * y1 + r = u) (hle : (u * 4294967296 + d) / y ≤ q) (hr : 4294967296 ≤ r) (hb : q ≤ 4294967296) : q = (u * 4294967296 + d) / y := by
  refine digit_done hy hu hq hle ?_
  have := Nat.mul_le_mul hb (show y0 ≤ 4294967295 by omega)
  omega
/-- The first guess. -/
theorem digit_first {y y1 y0 u d : Nat} (hy : y = y1 * 4294967296 + y0) (h0 : y0 < 4294967296) (h1 : 2147483648 ≤ y1) (hu : u < y) (hd : d < 4294967296) : (u * 4294967296 + d) / y ≤ u / y1 ∧ u / y1 ≤ 4294967297 ∧ u / y1 * y1 + u % y1 = u ∧ u % y1 < y1 := by
  have hm : u / y1 * y1 + u % y1 = u := by rw [Nat.mul_comm]; exact Nat.div_add_mod u y1
  refine ⟨?_, ?_, hm, Nat.mod_lt _ (by omega)⟩
  · rw [Nat.le_div_iff_mul_le (by omega)]
    have hq : (u * 4294967296 + d) / y * y ≤ u * 4294967296 + d := Nat.div_mul_le_self _ _
    obtain ⟨q, hqe⟩ : ∃ q, q = (u * 4294967296 + d) / y := ⟨_, rfl⟩
    rw [← hqe] at hq ⊢
    have e1 : q * y = (q * y1) * 4294967296 + q * y0 := by rw [hy, Nat.mul_add, Nat.mul_assoc]
    omega
  · obtain ⟨q, hqe⟩ : ∃ q, q = u / y1 := ⟨_, rfl⟩
    rw [← hqe] at hm ⊢
    rcases Nat.lt_or_ge q 4294967298 with h | h
    · omega
    · exfalso
      have := Nat.mul_le_mul_right y1 h
      omega
/-- A guess q of the digit of (u, d) by y, with what it leaves, r. -/
def Guess (y y1 u d q r : Nat) : Prop := q * y1 + r = u ∧ (u * 4294967296 + d) / y ≤ q
/-- Two words by one: y's halves are y1 and y0, its highest bit is set; u is less than y. -/
def Halved (y y1 y0 : Nat) : Prop := y = y1 * 4294967296 + y0 ∧ y0 < 4294967296 ∧ 2147483648 ≤ y1
theorem Guess.first {y y1 y0 u d : Nat} (h : Halved y y1 y0) (hu : u < y) (hd : d < 4294967296) : Guess y y1 u d (u / y1) (u % y1) ∧ u / y1 ≤ 4294967297 ∧ u % y1 < y1 := by
  obtain ⟨a, b, c, e⟩ := digit_first h.1 h.2.1 h.2.2 hu hd
  exact ⟨⟨c, a⟩, b, e⟩
theorem Guess.step {y y1 y0 u d q r : Nat} (h : Halved y y1 y0) (hu : u < y) (hd : d < 4294967296) (g : Guess y y1 u d q r) (hc : 4294967296 ≤ q ∨ 4294967296 * r + d < q * y0) : 1 ≤ q ∧ Guess y y1 u d (q - 1) (r + y1) := by
  obtain ⟨a, b, c⟩ := digit_step h.1 hu hd g.1 g.2 hc
  exact ⟨a, c, b⟩
theorem Guess.done {y y1 y0 u d q r : Nat} (h : Halved y y1 y0) (hu : u < y) (g : Guess y y1 u d q r) (hc : q * y0 ≤ 4294967296 * r + d) : q = (u * 4294967296 + d) / y := digit_done h.1 hu g.1 g.2 hc
theorem Guess.broke {y y1 y0 u d q r : Nat} (h : Halved y y1 y0) (hu : u < y) (g : Guess y y1 u d q r) (hr : 4294967296 ≤ r) (hb : q ≤ 4294967296) : q = (u * 4294967296 + d) / y := digit_break h.1 h.2.1 hu g.1 g.2 hr hb
/-- The first guess, as a word; what it leaves. -/
theorem first_q {u y1 : Nat} (h : u < 18446744073709551616) : IntKind.u64.wrap ((u : Int).tdiv (y1 : Int)) = ((u / y1 : Nat) : Int) := by
  have hle := Nat.div_le_self u y1
  rw [Int.tdiv_eq_ediv_of_nonneg (by omega), ← Int.natCast_ediv, IntKind.wrap_u64]
  obtain ⟨q, hq⟩ : ∃ q, q = u / y1 := ⟨_, rfl⟩
  rw [← hq] at hle ⊢
  omega
theorem first_q2 {u y1 : Nat} (h : u < 18446744073709551616) : IntKind.u64.wrap ((u : Int) / (y1 : Int)) = ((u / y1 : Nat) : Int) := by
  rw [← first_q h, Int.tdiv_eq_ediv_of_nonneg (by omega)]
theorem first_r {u y1 : Nat} (h : u < 18446744073709551616) : IntKind.u64.wrap ((u : Int) - IntKind.u64.wrap (((u / y1 : Nat) : Int) * (y1 : Int))) = ((u % y1 : Nat) : Int) := by
  have hm : u / y1 * y1 + u % y1 = u := by rw [Nat.mul_comm]; exact Nat.div_add_mod u y1
  obtain ⟨q, hq⟩ : ∃ q, q = u / y1 := ⟨_, rfl⟩
  obtain ⟨r, hr⟩ : ∃ r, r = u % y1 := ⟨_, rfl⟩
  rw [← hq, ← hr] at hm
  rw [← hq, ← hr, ← Int.natCast_mul]
  obtain ⟨p, hp⟩ : ∃ p, p = q * y1 := ⟨_, rfl⟩
  rw [← hp] at hm ⊢
  simp only [IntKind.wrap_u64]
  omega
/-- What is left behind a digit. -/
theorem digit_rest {y y1 y0 u d : Nat} (h : Halved y y1 y0) (_hu : u < y) (_hd : d < 4294967296) (hy : y < 18446744073709551616) :
    IntKind.u64.wrap (IntKind.u64.wrap (IntKind.u64.wrap ((u : Int) * 4294967296) + d) - IntKind.u64.wrap ((((u * 4294967296 + d) / y : Nat) : Int) * y)) = (((u * 4294967296 + d) % y : Nat) : Int) := by
  have hm := Nat.div_add_mod (u * 4294967296 + d) y
  have hl := Nat.mod_lt (u * 4294967296 + d) (show 0 < y by have := h.2.2; have := h.1; omega)
  rw [Nat.mul_comm] at hm
  obtain ⟨q, hq⟩ : ∃ q, q = (u * 4294967296 + d) / y := ⟨_, rfl⟩
  obtain ⟨r, hr⟩ : ∃ r, r = (u * 4294967296 + d) % y := ⟨_, rfl⟩
  rw [← hq, ← hr] at hm
  rw [← hr] at hl
  rw [← hq, ← hr, ← Int.natCast_mul]
  obtain ⟨p, hp⟩ : ∃ p, p = q * y := ⟨_, rfl⟩
  rw [← hp] at hm ⊢
  simp only [IntKind.wrap_u64]
  omega
/-- What is left behind two digits. -/
theorem two_digits {y u d e : Nat} (_hy : 0 < y) : (((u * 4294967296 + d) % y) * 4294967296 + e) % y = (u * 18446744073709551616 + d * 4294967296 + e) % y := by
  have h : u * 18446744073709551616 + d * 4294967296 + e = (u * 4294967296 + d) * 4294967296 + e := by omega
  rw [h, Nat.add_mod, Nat.mod_mul_mod, ← Nat.add_mod]
/-- A remainder by the divisor shifted by three is the remainder shifted by three. -/
theorem rem_shift (n m : Nat) : (n * 8) % (m * 8) / 8 = n % m := by rw [Nat.mul_mod_mul_right]; omega
theorem rem_high (hi lo m : Nat) : (hi % m * 18446744073709551616 + lo) % m = (hi * 18446744073709551616 + lo) % m := by
  rw [Nat.add_mod, Nat.mod_mul_mod, ← Nat.add_mod]
/-- A product's halves, put together. -/
theorem halves (a b : Nat) : a * b / 18446744073709551616 * 18446744073709551616 + a * b % 18446744073709551616 = a * b := by
  rw [Nat.mul_comm]; exact Nat.div_add_mod _ _
end Go.Pm

/- A REGION THAT DRAWS ITS ORDER: ONE WALK OF THE LEXICAL ORDER SERVES EVERY ORDER, where each operation says upfront what it leans on and what it leaves known.
   'Base': what holds of every world of the region. An operation is either 'pure' (one value in every world of Base), or it ADDS: it may lean on Base and on the facts U i (of operations that it waits for; or facts of the beginning, numbered from 'ops.size' on),
   it uses up the facts C i among them, and it leaves a value v of which PF i v holds, and a world of which F i v holds; every fact that it doesn't use up stays. -/
namespace Go.Pm
open Go Go.RowKit

def givesUpon (P : Program) (X : Value → World → Prop) : Result Next → Prop
  | .ok (.value u) w' => X u w'
  | .ok .skip w' => X undef w'
  | .ok (.enter f args) w' => Calls P f args w' (fun e w'' => ∃ v, e = .returned v ∧ X v w'')
  | _ => False
/-- Operation o, in the frame a and the world W, ends with a value and a world of which X holds. -/
def Gives (P : Program) (o : Oper) (a : Act) (W : World) (X : Value → World → Prop) : Prop := givesUpon P X ((execOp a.eval o).run P W)

/-- What is said upfront. -/
structure Plan where
  base : World → Prop
  adds : Nat → Bool
  uses : Nat → List Nat
  spends : Nat → List Nat
  later : Nat → List Nat
  pure : Nat → Value → Prop
  fact : Nat → Value → World → Prop

/-- What is known behind operation i. -/
def Plan.after (T : Plan) (G : Nat → World → Prop) (i : Nat) (v : Value) : Nat → World → Prop := fun k => if k = i then T.fact i v else if k ∈ T.spends i then fun _ => True else G k
/-- Every fact that operation i doesn't use up stays ('later i': operations that wait for i: their facts aren't there yet). -/
def Plan.keeps (T : Plan) (i : Nat) (W W' : World) : Prop := ∀ k, k ∉ T.spends i → k ∉ T.later i → k ≠ i → ∀ u, T.fact k u W → T.fact k u W'
/-- What operation i leaves. -/
def Plan.leaves (T : Plan) (i : Nat) (W : World) (v : Value) (W' : World) : Prop := T.base W' ∧ T.pure i v ∧ T.fact i v W' ∧ T.keeps i W W'

section
variable {P : Program} {ops : Array Oper} {md : Region.Mode} {T : Plan}

/-- Operation k comes up: what is asked of it, and what follows. -/
def ParOp (P : Program) (T : Plan) (ops : Array Oper) (k : Nat) (o : Oper) (a : Act) (G : Nat → World → Prop) (K : Act → (Nat → World → Prop) → Prop) : Prop :=
  if Region.wanted o (yielded ops a.tmps) = true then
    if T.adds k = true then
      (∀ W, T.base W → (∀ j ∈ T.uses k, G j W) → Gives P o a W (T.leaves k W)) ∧ ∀ v, T.pure k v → K (a.put o.dst v) (T.after G k v)
    else ∃ v, (∀ W, T.base W → (execOp a.eval o).run P W = .ok (.value v) W) ∧ K (a.put o.dst v) G
  else K (a.put o.dst undef) G

/-- The lexical walk. -/
def wpPar (P : Program) (T : Plan) (ops : Array Oper) (Q : Act → World → Prop) : Nat → List Oper → Act → (Nat → World → Prop) → Prop
  | _, [], a, G => ∀ W, T.base W → (∀ i, G i W) → Q a W
  | k, o :: rest, a, G => ParOp P T ops k o a G (wpPar P T ops Q (k + 1) rest)

/-- Whatever order. -/
def wpAnyP (P : Program) (md : Region.Mode) (T : Plan) (ops : Array Oper) (Q : Act → World → Prop) : Nat → Array Bool → Act → (Nat → World → Prop) → Prop
  | 0, listed, a, G => Region.ready md ops listed = [] ∧ ∀ W, T.base W → (∀ i, G i W) → Q a W
  | fuel + 1, listed, a, G => (Region.ready md ops listed = [] → ∀ W, T.base W → (∀ i, G i W) → Q a W) ∧
    ∀ i ∈ Region.ready md ops listed, ∀ o, ops[i]? = some o → ParOp P T ops i o a G (wpAnyP P md T ops Q fuel (listed.setIfInBounds i true))

theorem Gives.wp {o : Oper} {a : Act} {W : World} {X : Value → World → Prop} {K : Act → World → Prop} {Q : Exit → Act → World → Prop} (h : Gives P o a W X) (hK : ∀ v W', X v W' → K (a.put o.dst v) W') : o.wp P a W K Q := by
  unfold Gives at h
  unfold Oper.wp
  generalize (execOp a.eval o).run P W = r at *
  cases r with
  | ok n w' =>
    cases n <;> simp only [givesUpon] at h <;> simp only [Oper.upon]
    case value u => exact hK _ _ h
    case skip => exact hK _ _ h
    case enter f args => exact h.mono fun e w'' ⟨v, he, hx⟩ => by subst he; exact hK _ _ hx
  | halt x w' => simp only [givesUpon] at h

theorem Gives.of_eq {o : Oper} {a a' : Act} {W : World} {X : Value → World → Prop} (he : execOp a'.eval o = execOp a.eval o) (h : Gives P o a W X) : Gives P o a' W X := by
  unfold Gives at *; rw [he]; exact h

theorem after_same (G : Nat → World → Prop) (k : Nat) (v : Value) : T.after G k v k = T.fact k v := if_pos rfl
theorem after_spent {G : Nat → World → Prop} {i k : Nat} (h : k ≠ i) (hs : k ∈ T.spends i) (v : Value) : T.after G i v k = fun _ => True := by unfold Plan.after; rw [if_neg h, if_pos hs]
theorem after_ne {G : Nat → World → Prop} {i k : Nat} (h : k ≠ i) (hs : k ∉ T.spends i) (v : Value) : T.after G i v k = G k := by unfold Plan.after; rw [if_neg h, if_neg hs]

/-- Does y wait for x, by way of at most n steps? -/
def waitsN (md : Region.Mode) (ops : Array Oper) : Nat → Nat → Nat → Bool
  | 0, _, _ => false
  | n + 1, y, x => match ops[y]? with | some o => o.after.any fun e => Region.binds md e && (e.on == x || waitsN md ops n e.on x) | none => false
def waits (md : Region.Mode) (ops : Array Oper) (y x : Nat) : Bool := waitsN md ops 6 y x
/-- Is the plan sound: an operation leans on what it waits for; what it uses up no other one leans on that isn't ordered with it. -/
def Plan.ok (T : Plan) (md : Region.Mode) (ops : Array Oper) : Bool :=
  (List.range ops.size).all fun i => (T.uses i).all (fun j => decide (ops.size ≤ j) || waits md ops i j) && (T.spends i).all (fun j => (T.uses i).contains j) && (T.later i).all (fun j => decide (j < ops.size) && waits md ops j i) &&
    (List.range ops.size).all fun j => i == j || ((T.spends j).all fun k => !(T.uses i).contains k) || waits md ops i j || waits md ops j i

/-- What has come up has come up behind all that it waits for. -/
def Down (md : Region.Mode) (ops : Array Oper) (listed : Array Bool) : Prop := ∀ k o, ops[k]? = some o → listed.getD k false = true → ∀ e ∈ o.after, Region.binds md e = true → listed.getD e.on false = true
theorem waitsN_listed {listed : Array Bool} (hd : Down md ops listed) : ∀ (n y x : Nat) (o : Oper), ops[y]? = some o → (∀ e ∈ o.after, Region.binds md e = true → listed.getD e.on false = true) → waitsN md ops n y x = true → listed.getD x false = true
  | 0, _, _, _, _, _, h => by simp [waitsN] at h
  | n + 1, y, x, o, ho, hall, h => by
    unfold waitsN at h
    rw [ho] at h
    obtain ⟨e, he, hb⟩ := Array.any_eq_true'.1 h
    simp only [Bool.and_eq_true, Bool.or_eq_true, beq_iff_eq] at hb
    have hl := hall e he hb.1
    rcases hb.2 with rfl | h'
    · exact hl
    · cases n with
      | zero => simp [waitsN] at h'
      | succ n =>
        cases ho' : ops[e.on]? with
        | none => unfold waitsN at h'; rw [ho'] at h'; cases h'
        | some o' => exact waitsN_listed hd (n + 1) e.on x o' ho' (hd e.on o' ho' hl) h'
theorem Down.set {listed : Array Bool} (hd : Down md ops listed) {j : Nat} {oj : Oper} (hoj : ops[j]? = some oj) (hall : ∀ e ∈ oj.after, Region.binds md e = true → listed.getD e.on false = true) : Down md ops (listed.setIfInBounds j true) := fun k o ho hk e he hb => by
  refine getD_set_true ?_
  by_cases hjk : j = k
  · subst hjk
    rw [hoj] at ho
    cases ho
    exact hall e he hb
  · rw [getD_set_ne false hjk] at hk
    exact hd k o ho hk e he hb

section
variable (hok : T.ok md ops = true)
include hok
theorem ok_uses {i j : Nat} (hi : i < ops.size) (hj : j ∈ T.uses i) : ops.size ≤ j ∨ waits md ops i j = true := by
  have := List.all_eq_true.1 hok i (List.mem_range.2 hi)
  simp only [Bool.and_eq_true, List.all_eq_true, Bool.or_eq_true, decide_eq_true_eq] at this
  exact this.1.1.1 j hj
theorem ok_spends {i j : Nat} (hi : i < ops.size) (hj : j ∈ T.spends i) : j ∈ T.uses i := by
  have := List.all_eq_true.1 hok i (List.mem_range.2 hi)
  simp only [Bool.and_eq_true, List.all_eq_true, List.contains_iff_mem] at this
  exact this.1.1.2 j hj
theorem ok_later {i j : Nat} (hi : i < ops.size) (hj : j ∈ T.later i) : j < ops.size ∧ waits md ops j i = true := by
  have := List.all_eq_true.1 hok i (List.mem_range.2 hi)
  simp only [Bool.and_eq_true, List.all_eq_true, decide_eq_true_eq] at this
  exact this.1.2 j hj
theorem ok_apart {i j k : Nat} (hi : i < ops.size) (hj : j < ops.size) (hne : i ≠ j) (h1 : waits md ops i j = false) (h2 : waits md ops j i = false) (hk : k ∈ T.spends j) : k ∉ T.uses i := by
  have := List.all_eq_true.1 hok i (List.mem_range.2 hi)
  simp only [Bool.and_eq_true] at this
  have h3 := List.all_eq_true.1 this.2 j (List.mem_range.2 hj)
  simp only [h1, h2, Bool.or_false, Bool.or_eq_true, beq_iff_eq, hne, false_or] at h3
  have h4 := List.all_eq_true.1 h3 k hk
  simpa using h4
end

/-- Asked of an operation; the values that it may come to; what is known then: by kind. -/
def Asked (P : Program) (T : Plan) (k : Nat) (o : Oper) (a : Act) (G : Nat → World → Prop) : Bool → Prop
  | true => ∀ W, T.base W → (∀ j ∈ T.uses k, G j W) → Gives P o a W (T.leaves k W)
  | false => ∃ v, ∀ W, T.base W → (execOp a.eval o).run P W = .ok (.value v) W
def May (P : Program) (T : Plan) (k : Nat) (o : Oper) (a : Act) (v : Value) : Bool → Prop
  | true => T.pure k v
  | false => ∀ W, T.base W → (execOp a.eval o).run P W = .ok (.value v) W
def Then (T : Plan) (G : Nat → World → Prop) (k : Nat) (v : Value) : Bool → Nat → World → Prop
  | true => T.after G k v
  | false => G

theorem parOp_iff {k : Nat} {o : Oper} {a : Act} {G : Nat → World → Prop} {K : Act → (Nat → World → Prop) → Prop} {w0 : World} (hbase : T.base w0) (hw : Region.wanted o (yielded ops a.tmps) = true) :
    ParOp P T ops k o a G K ↔ Asked P T k o a G (T.adds k) ∧ ∀ v, May P T k o a v (T.adds k) → K (a.put o.dst v) (Then T G k v (T.adds k)) := by
  unfold ParOp
  rw [if_pos hw]
  cases hR : T.adds k with
  | false =>
    rw [if_neg (by decide)]
    constructor
    · rintro ⟨v, h1, h2⟩
      refine ⟨⟨v, h1⟩, fun u hu => ?_⟩
      have e := (h1 w0 hbase).symm.trans (hu w0 hbase)
      simp only [Result.ok.injEq, Next.value.injEq, and_true] at e
      subst e
      exact h2
    · rintro ⟨⟨v, h1⟩, h2⟩
      exact ⟨v, h1, h2 v h1⟩
  | true => rw [if_pos rfl]; exact Iff.rfl

/-- An operation that may come up now, and that no other one's doing concerns, may be taken first. -/
theorem wpAnyP_first (hok : T.ok md ops = true) {w0 : World} (hbase : T.base w0) (hpure : ∀ k, T.adds k = true → ∃ v, T.pure k v) {Q : Act → World → Prop} {i : Nat} {oi : Oper} (hi : ops[i]? = some oi)
    (hsel : ∀ (j : Nat) (o : Oper) cs b, ops[j]? = some o → o.op ≠ .select cs b) :
    ∀ (fuel : Nat) (listed : Array Bool) (a : Act) (G : Nat → World → Prop), Down md ops listed →
      (∀ j oj, ops[j]? = some oj → j ≠ i → listed.getD j true = false → (∀ e ∈ oj.after, Region.binds md e = true → e.on ≠ i) → oi.apart ops oj = true) →
      i ∈ Region.ready md ops listed → ParOp P T ops i oi a G (wpAnyP P md T ops Q fuel (listed.setIfInBounds i true)) →
      wpAnyP P md T ops Q (fuel + 1) listed a G := by
  intro fuel
  induction fuel with
  | zero =>
    intro listed a G hdown hfree hr H
    refine ⟨fun h => (by rw [h] at hr; cases hr), fun j hj oj hoj => ?_⟩
    by_cases hji : j = i
    · subst hji
      rw [hi] at hoj
      cases hoj
      exact H
    · exfalso
      have hno := ready_mono hj hji
      have hnil : Region.ready md ops (listed.setIfInBounds i true) = [] := by
        by_cases hw : Region.wanted oi (yielded ops a.tmps) = true
        · rw [parOp_iff hbase hw] at H
          cases hRi : T.adds i with
          | false =>
            rw [hRi] at H
            obtain ⟨⟨v, hv⟩, h2⟩ := H
            exact (h2 v hv).1
          | true =>
            rw [hRi] at H
            obtain ⟨v, hv⟩ := hpure i hRi
            exact (H.2 v hv).1
        · unfold ParOp at H
          rw [if_neg hw] at H
          exact H.1
      rw [hnil] at hno
      cases hno
  | succ fuel ih =>
    intro listed a G hdown hfree hr H
    refine ⟨fun h => (by rw [h] at hr; cases hr), fun j hj oj hoj => ?_⟩
    by_cases hji : j = i
    · subst hji
      rw [hi] at hoj
      cases hoj
      exact H
    · obtain ⟨hjun, oj', hoj', hall⟩ := mem_ready.1 hj
      rw [hoj] at hoj'
      cases hoj'
      obtain ⟨hiun, oi', hoi', halli⟩ := mem_ready.1 hr
      rw [hi] at hoi'
      cases hoi'
      have hltI : i < ops.size := (Array.getElem?_eq_some_iff.1 hi).1
      have hltJ : j < ops.size := (Array.getElem?_eq_some_iff.1 hoj).1
      have nowait : ∀ (x : Nat) (o : Oper), listed.getD x true = false → (∀ e ∈ o.after, Region.binds md e = true → listed.getD e.on false = true) → ∀ e ∈ o.after, Region.binds md e = true → e.on ≠ x := fun x o hx ho e he hb heq => by
        have h1 := ho e he hb
        rw [heq] at h1
        rcases Nat.lt_or_ge x listed.size with h' | h'
        · simp [h'] at hx h1; rw [hx] at h1; cases h1
        · simp [Array.getElem?_eq_none h'] at h1
      have nwj := nowait i oj hiun hall
      have nwi := nowait j oi hjun halli
      have unlisted : ∀ x, listed.getD x true = false → listed.getD x false = false := fun x hx => by
        rcases Nat.lt_or_ge x listed.size with h' | h'
        · simpa [h'] using hx
        · simp [Array.getElem?_eq_none h']
      have wji : waits md ops j i = false := by
        cases hw : waits md ops j i with
        | false => rfl
        | true => have h1 := waitsN_listed hdown 6 j i oj hoj hall hw; rw [unlisted i hiun] at h1; cases h1
      have wij : waits md ops i j = false := by
        cases hw : waits md ops i j with
        | false => rfl
        | true => have h1 := waitsN_listed hdown 6 i j oi hi halli hw; rw [unlisted j hjun] at h1; cases h1
      have hdown' := hdown.set hoj hall
      -- neither leans on the other's fact, nor uses up what the other leans on
      have uji : i ∉ T.uses j := fun h => by rcases ok_uses hok hltJ h with h' | h'; omega; rw [wji] at h'; cases h'
      have uij : j ∉ T.uses i := fun h => by rcases ok_uses hok hltI h with h' | h'; omega; rw [wij] at h'; cases h'
      have sji : i ∉ T.spends j := fun h => uji (ok_spends hok hltJ h)
      have sij : j ∉ T.spends i := fun h => uij (ok_spends hok hltI h)
      have sIJ : ∀ k ∈ T.uses i, k ∉ T.spends j := fun k hk hs => ok_apart hok hltI hltJ (Ne.symm hji) wij wji hs hk
      have hap := hfree j oj hoj hji hjun nwj
      obtain ⟨h1, h2, h3⟩ := Oper.apart_spec hap
      have hready' : j ∈ Region.ready md ops (listed.setIfInBounds i true) := ready_mono hj hji
      have eqj : ∀ v, execOp (a.put oi.dst v).eval oj = execOp a.eval oj := fun v => execOp_put oj (fun cs b => hsel j oj cs b hoj) a oi.dst v h1
      have eqi : ∀ u, execOp (a.put oj.dst u).eval oi = execOp a.eval oi := fun u => execOp_put oi (fun cs b => hsel i oi cs b hi) a oj.dst u h3
      have wj : ∀ v, Region.wanted oj (yielded ops (a.put oi.dst v).tmps) = Region.wanted oj (yielded ops a.tmps) := fun v => wanted_put oj a oi.dst v h1
      have wi : ∀ u, Region.wanted oi (yielded ops (a.put oj.dst u).tmps) = Region.wanted oi (yielded ops a.tmps) := fun u => wanted_put oi a oj.dst u h3
      have hlisted : (listed.setIfInBounds i true).setIfInBounds j true = (listed.setIfInBounds j true).setIfInBounds i true := (Array.setIfInBounds_comm _ _ hji).symm
      have hfree' : ∀ k ok, ops[k]? = some ok → k ≠ i → (listed.setIfInBounds j true).getD k true = false →
          (∀ e ∈ ok.after, Region.binds md e = true → e.on ≠ i) → oi.apart ops ok = true := fun k ok hk hki hun hno => by
        refine hfree k ok hk hki ?_ hno
        by_cases hjk : j = k
        · subst hjk; exact hjun
        · rw [getD_set_ne true hjk] at hun; exact hun
      have hri' : i ∈ Region.ready md ops (listed.setIfInBounds j true) := ready_mono hr (Ne.symm hji)
      have askJ : ∀ (v : Value), Asked P T j oj (a.put oi.dst v) (Then T G i v (T.adds i)) (T.adds j) → Asked P T j oj a G (T.adds j) := fun v h => by
        cases hRj : T.adds j with
        | false => rw [hRj] at h; obtain ⟨u, hu⟩ := h; exact ⟨u, fun W hW => by rw [← eqj v]; exact hu W hW⟩
        | true =>
          rw [hRj] at h
          refine fun W hW hd => (h W hW (fun k hk => ?_)).of_eq (eqj v).symm
          cases hRi : T.adds i with
          | false => exact hd k hk
          | true =>
            have hki : k ≠ i := fun e => uji (e ▸ hk)
            simp only [Then]
            by_cases hs : k ∈ T.spends i
            · rw [after_spent hki hs]; trivial
            · rw [after_ne hki hs]; exact hd k hk
      have askJ' : ∀ (v : Value), Asked P T j oj (a.put oi.dst v) G (T.adds j) → Asked P T j oj a G (T.adds j) := fun v h => by
        cases hRj : T.adds j with
        | false => rw [hRj] at h; obtain ⟨u, hu⟩ := h; exact ⟨u, fun W hW => by rw [← eqj v]; exact hu W hW⟩
        | true => rw [hRj] at h; exact fun W hW hd => (h W hW hd).of_eq (eqj v).symm
      have askI : ∀ (u : Value), Asked P T i oi a G (T.adds i) → Asked P T i oi (a.put oj.dst u) (Then T G j u (T.adds j)) (T.adds i) := fun u h => by
        cases hRi : T.adds i with
        | false => rw [hRi] at h; obtain ⟨v, hv⟩ := h; exact ⟨v, fun W hW => by rw [eqi u]; exact hv W hW⟩
        | true =>
          rw [hRi] at h
          refine fun W hW hd => (h W hW (fun k hk => ?_)).of_eq (eqi u)
          have := hd k hk
          cases hRj : T.adds j with
          | false => rw [hRj] at this; exact this
          | true =>
            rw [hRj] at this
            simp only [Then] at this
            rwa [after_ne (fun e : k = j => uij (e ▸ hk)) (sIJ k hk)] at this
      have askI' : ∀ (u : Value), Asked P T i oi a G (T.adds i) → Asked P T i oi (a.put oj.dst u) G (T.adds i) := fun u h => by
        cases hRi : T.adds i with
        | false => rw [hRi] at h; obtain ⟨v, hv⟩ := h; exact ⟨v, fun W hW => by rw [eqi u]; exact hv W hW⟩
        | true => rw [hRi] at h; exact fun W hW hd => (h W hW hd).of_eq (eqi u)
      have mayI : ∀ (u v : Value), May P T i oi (a.put oj.dst u) v (T.adds i) → May P T i oi a v (T.adds i) := fun u v h => by
        cases hRi : T.adds i with
        | false => rw [hRi] at h; exact fun W hW => by rw [← eqi u]; exact h W hW
        | true => rw [hRi] at h; exact h
      have mayJ : ∀ (v u : Value), May P T j oj a u (T.adds j) → May P T j oj (a.put oi.dst v) u (T.adds j) := fun v u h => by
        cases hRj : T.adds j with
        | false => rw [hRj] at h; exact fun W hW => by rw [eqj v]; exact h W hW
        | true => rw [hRj] at h; exact h
      have eG : ∀ u v, Then T (Then T G j u (T.adds j)) i v (T.adds i) = Then T (Then T G i v (T.adds i)) j u (T.adds j) := fun u v => by
        cases T.adds i <;> cases T.adds j <;> simp only [Then]
        funext k
        unfold Plan.after
        by_cases e1 : k = i
        · subst e1; rw [if_pos rfl, if_neg (Ne.symm hji), if_neg sji, if_pos rfl]
        · by_cases e2 : k = j
          · subst e2; rw [if_neg e1, if_neg sij, if_pos rfl, if_pos rfl]
          · rw [if_neg e1, if_neg e2, if_neg e2, if_neg e1]
            split <;> split <;> rfl
      by_cases hwj : Region.wanted oj (yielded ops a.tmps) = true
      · rw [parOp_iff hbase hwj]
        by_cases hwi : Region.wanted oi (yielded ops a.tmps) = true
        · rw [parOp_iff hbase hwi] at H
          obtain ⟨HA, HB⟩ := H
          obtain ⟨vs, hvs⟩ : ∃ v, May P T i oi a v (T.adds i) := by
            cases hRi : T.adds i with
            | false => rw [hRi] at HA; exact HA
            | true => exact hpure i hRi
          have hjv := (HB vs hvs).2 j hready' oj hoj
          rw [parOp_iff hbase (by rw [wj]; exact hwj)] at hjv
          refine ⟨askJ vs hjv.1, fun u hu => ?_⟩
          refine ih (listed.setIfInBounds j true) (a.put oj.dst u) (Then T G j u (T.adds j)) hdown' hfree' hri' ?_
          rw [parOp_iff hbase (by rw [wi]; exact hwi)]
          refine ⟨askI u HA, fun v hv => ?_⟩
          have hk := (HB v (mayI u v hv)).2 j hready' oj hoj
          rw [parOp_iff hbase (by rw [wj]; exact hwj)] at hk
          have hfin := hk.2 u (mayJ v u hu)
          rw [← hlisted, ← Act.put_comm a v u h2, eG]
          exact hfin
        · unfold ParOp at H
          rw [if_neg hwi] at H
          have hjv := H.2 j hready' oj hoj
          rw [parOp_iff hbase (by rw [wj]; exact hwj)] at hjv
          refine ⟨askJ' undef hjv.1, fun u hu => ?_⟩
          refine ih (listed.setIfInBounds j true) (a.put oj.dst u) (Then T G j u (T.adds j)) hdown' hfree' hri' ?_
          unfold ParOp
          rw [if_neg (by rw [wi]; exact hwi)]
          have hfin := hjv.2 u (mayJ undef u hu)
          rw [← hlisted, ← Act.put_comm a undef u h2]
          exact hfin
      · unfold ParOp
        rw [if_neg hwj]
        refine ih (listed.setIfInBounds j true) (a.put oj.dst undef) G hdown' hfree' hri' ?_
        by_cases hwi : Region.wanted oi (yielded ops a.tmps) = true
        · rw [parOp_iff hbase hwi] at H
          rw [parOp_iff hbase (by rw [wi]; exact hwi)]
          refine ⟨askI' undef H.1, fun v hv => ?_⟩
          have hk := (H.2 v (mayI undef v hv)).2 j hready' oj hoj
          unfold ParOp at hk
          rw [if_neg (by rw [wj]; exact hwj)] at hk
          rw [← hlisted, ← Act.put_comm a v undef h2]
          exact hk
        · unfold ParOp at H ⊢
          rw [if_neg hwi] at H
          rw [if_neg (by rw [wi]; exact hwi)]
          have hk := H.2 j hready' oj hoj
          unfold ParOp at hk
          rw [if_neg (by rw [wj]; exact hwj)] at hk
          rw [← hlisted, ← Act.put_comm a undef undef h2]
          exact hk

theorem wpAnyP_lex (hok : T.ok md ops = true) {w0 : World} (hbase : T.base w0) (hpure : ∀ k, T.adds k = true → ∃ v, T.pure k v) {Q : Act → World → Prop} (hs : Region.noSelect ops = true) :
    ∀ (l : List Oper) (k : Nat) (listed : Array Bool) (a : Act) (G : Nat → World → Prop), (∀ j, l[j]? = ops[k + j]?) → Region.lexFrom md ops l.length k listed = true → Down md ops listed → wpPar P T ops Q k l a G → wpAnyP P md T ops Q l.length listed a G
  | [], _, _, _, _, _, hB, _, h => ⟨by simpa [Region.lexFrom] using hB, h⟩
  | o :: l, k, listed, a, G, hl, hB, hdown, h => by
    have h0 : ops[k]? = some o := by simpa using (hl 0).symm
    simp only [List.length_cons, Region.lexFrom, Bool.and_eq_true] at hB
    obtain ⟨⟨hr, hf⟩, hB'⟩ := hB
    have hr' : k ∈ Region.ready md ops listed := by simpa using hr
    obtain ⟨_, o', ho', hall⟩ := mem_ready.1 hr'
    rw [h0] at ho'
    cases ho'
    have next : ∀ (a' : Act) (G' : Nat → World → Prop), wpPar P T ops Q (k + 1) l a' G' → wpAnyP P md T ops Q l.length (listed.setIfInBounds k true) a' G' := fun a' G' h' =>
      wpAnyP_lex hok hbase hpure hs l (k + 1) _ a' G' (fun j => by have := hl (j + 1); simpa [Nat.add_assoc, Nat.add_comm 1 j] using this) hB' (hdown.set h0 hall) h'
    refine wpAnyP_first hok hbase hpure h0 (Region.noSelect_spec hs) l.length listed a G hdown (Region.free_spec h0 hf) hr' ?_
    have hP : ParOp P T ops k o a G (wpPar P T ops Q (k + 1) l) := h
    unfold ParOp at hP ⊢
    split
    · rename_i hw
      rw [if_pos hw] at hP
      split
      · rename_i hR
        rw [if_pos hR] at hP
        exact ⟨hP.1, fun v hv => next _ _ (hP.2 v hv)⟩
      · rename_i hR
        rw [if_neg hR] at hP
        obtain ⟨v, h1, h2⟩ := hP
        exact ⟨v, h1, next _ _ h2⟩
    · rename_i hw
      rw [if_neg hw] at hP
      exact next _ _ hP

/-- Every fact is either said of some value, or empty. -/
def Plan.known (T : Plan) (G : Nat → World → Prop) : Prop := ∀ k, (∀ W, G k W) ∨ ∃ u, G k = T.fact k u

theorem wpAny_of_par (hok : T.ok md ops = true) {Q : Act → World → Prop} {Q' : Exit → Act → World → Prop} (hQ : ∀ a w, Q a w → Q' .normal a w) : ∀ (fuel : Nat) (listed : Array Bool) (a : Act) (G : Nat → World → Prop) (w : World), T.known G → Down md ops listed → (listed.size = ops.size ∧ ∀ k, k < ops.size → listed.getD k false = false → ∀ W, G k W) → T.base w → (∀ i, G i w) →
    wpAnyP P md T ops Q fuel listed a G → wpAny P md ops Q' fuel listed a w
  | 0, _, _, _, _, _, _, _, hb, hw, h => ⟨h.1, hQ _ _ (h.2 _ hb hw)⟩
  | fuel + 1, listed, a, G, w, hG, hD, ⟨hS, hN⟩, hb, hw, h => by
    refine ⟨fun h0 => hQ _ _ (h.1 h0 _ hb hw), fun i hi => ?_⟩
    obtain ⟨hiun, o, ho, halli⟩ := mem_ready.1 hi
    have hP := h.2 i hi o ho
    have hltI : i < ops.size := (Array.getElem?_eq_some_iff.1 ho).1
    have hD' := hD.set ho halli
    have hN' : ∀ G' : Nat → World → Prop, (∀ k, k ≠ i → G' k = G k ∨ ∀ W, G' k W) → (listed.setIfInBounds i true).size = ops.size ∧ ∀ k, k < ops.size → (listed.setIfInBounds i true).getD k false = false → ∀ W, G' k W := fun G' hg => ⟨by simpa using hS, fun k hk hl W => by
      have hki : k ≠ i := fun e => by subst e; simp [hS, hk] at hl
      rw [getD_set_ne false (Ne.symm hki)] at hl
      rcases hg k hki with e | e
      · rw [e]; exact hN k hk hl W
      · exact e W⟩
    have hlater : ∀ k ∈ T.later i, ∀ W, G k W := fun k hk => by
      obtain ⟨hkl, hkw⟩ := ok_later hok hltI hk
      refine hN k hkl ?_
      cases hl : listed.getD k false with
      | false => rfl
      | true =>
        obtain ⟨ok, hok'⟩ : ∃ ok, ops[k]? = some ok := ⟨ops[k], Array.getElem?_eq_getElem hkl⟩
        have h1 := waitsN_listed hD 6 k i ok hok' (hD k ok hok' hl) hkw
        have h2 : listed.getD i false = false := by
          have := hS ▸ hltI
          simpa [this] using hiun
        rw [h2] at h1
        cases h1
    unfold ParOp at hP
    unfold wpOp
    simp only [ho]
    split
    · rename_i hwt
      rw [if_pos hwt] at hP
      refine .inl ?_
      by_cases hR : T.adds i = true
      · rw [if_pos hR] at hP
        refine (hP.1 w hb (fun j _ => hw j)).wp fun v W' ⟨hb', hp, hf, hk⟩ => ?_
        refine wpAny_of_par hok hQ fuel _ _ (T.after G i v) W' (fun k => ?_) hD' (hN' _ fun k hk => ?_) hb' (fun k => ?_) (hP.2 v hp)
        · by_cases e : k = i
          · subst e; exact .inr ⟨v, after_same G k v⟩
          · by_cases hs : k ∈ T.spends i
            · rw [after_spent e hs]; exact .inl fun _ => trivial
            · rw [after_ne e hs]; exact hG k
        · by_cases hs : k ∈ T.spends i
          · right; rw [after_spent hk hs]; exact fun _ => trivial
          · left; exact after_ne hk hs v
        · by_cases e : k = i
          · subst e; rw [after_same]; exact hf
          · by_cases hs : k ∈ T.spends i
            · rw [after_spent e hs]; trivial
            · rw [after_ne e hs]
              rcases hG k with h' | ⟨u, hu⟩
              · exact h' _
              · have := hw k
                by_cases hl : k ∈ T.later i
                · exact hlater k hl _
                · rw [hu] at this ⊢
                  exact hk k hs hl e u this
      · rw [if_neg hR] at hP
        obtain ⟨v, h1, h2⟩ := hP
        unfold Oper.wp
        rw [h1 w hb]
        exact wpAny_of_par hok hQ fuel _ _ G w hG hD' (hN' G fun _ _ => .inl rfl) hb hw h2
    · rename_i hwt
      rw [if_neg hwt] at hP
      exact wpAny_of_par hok hQ fuel _ _ G w hG hD' (hN' G fun _ _ => .inl rfl) hb hw hP

/-- ONE WALK OF THE LEXICAL ORDER SERVES EVERY ORDER. The facts of the beginning: 'G', at the numbers from 'l.length' on. -/
theorem wp_region_par {id : Nat} {Q : Exit → Act → World → Prop} {a : Act} {w : World} {l : List Oper} (T : Plan) (G : Nat → World → Prop) (hm : P.follows .mixedOrders = true) (hB : Region.lexB .any l.toArray = true) (hok : T.ok .any l.toArray = true)
    (hpure : ∀ k, T.adds k = true → ∃ v, T.pure k v) (hG : T.known G) (hN : ∀ k, k < l.length → ∀ W, G k W) (hbase : T.base w.drew) (hw : ∀ k, G k w.drew)
    (h : wpPar P T l.toArray (fun a' w' => Q .normal a' w') 0 l a G) : (Code.region id l.toArray true).wp P Q a w := by
  simp only [Region.lexB, Bool.and_eq_true] at hB
  have hdown : Down .any l.toArray (Array.replicate l.toArray.size false) := fun k o _ hk => by rw [Array.getD_eq_getD_getElem?, Array.getElem?_replicate] at hk; split at hk <;> simp at hk
  refine wp_region_any hm (wpAny_of_par (T := T) hok (Q := fun a' w' => Q .normal a' w') (fun _ _ h => h) _ _ _ G w.drew hG hdown ⟨by simp, fun k hk _ => hN k (by simpa using hk)⟩ hbase hw ?_)
  have := wpAnyP_lex (P := P) (md := .any) (Q := fun a' w' => Q .normal a' w') hok hbase hpure hB.1 l 0 (Array.replicate l.toArray.size false) a G (by simp) (by simpa using hB.2) hdown h
  simpa using this

/-! ### The steps of the lexical walk -/
theorem wpPar_nil {Q : Act → World → Prop} {k : Nat} {a : Act} {G : Nat → World → Prop} (h : ∀ W, T.base W → (∀ i, G i W) → Q a W) : wpPar P T ops Q k [] a G := h
/-- An operation that yields one value, whatever has gone on. -/
theorem wpPar_pure {Q : Act → World → Prop} {k : Nat} {o : Oper} {rest : List Oper} {a : Act} {G : Nat → World → Prop} (hR : T.adds k = false) (hw : Region.wanted o (yielded ops a.tmps) = true) (v : Value) (h1 : ∀ W, T.base W → (execOp a.eval o).run P W = .ok (.value v) W)
    (h2 : wpPar P T ops Q (k + 1) rest (a.put o.dst v) G) : wpPar P T ops Q k (o :: rest) a G := by
  show ParOp _ _ _ _ _ _ _ _
  unfold ParOp
  rw [if_pos hw, if_neg (by rw [hR]; decide)]
  exact ⟨v, h1, h2⟩
theorem wpPar_skip {Q : Act → World → Prop} {k : Nat} {o : Oper} {rest : List Oper} {a : Act} {G : Nat → World → Prop} (hw : Region.wanted o (yielded ops a.tmps) = false) (h2 : wpPar P T ops Q (k + 1) rest (a.put o.dst undef) G) : wpPar P T ops Q k (o :: rest) a G := by
  show ParOp _ _ _ _ _ _ _ _
  unfold ParOp
  rw [if_neg (by rw [hw]; decide)]
  exact h2
/-- An operation that adds. -/
theorem wpPar_adds {Q : Act → World → Prop} {k : Nat} {o : Oper} {rest : List Oper} {a : Act} {G : Nat → World → Prop} (hR : T.adds k = true) (hw : Region.wanted o (yielded ops a.tmps) = true)
    (h1 : ∀ W, T.base W → (∀ j ∈ T.uses k, G j W) → Gives P o a W (T.leaves k W))
    (h2 : ∀ v, T.pure k v → wpPar P T ops Q (k + 1) rest (a.put o.dst v) (T.after G k v)) : wpPar P T ops Q k (o :: rest) a G := by
  show ParOp _ _ _ _ _ _ _ _
  unfold ParOp
  rw [if_pos hw, if_pos hR]
  exact ⟨h1, h2⟩
theorem givesUpon_value (X : Value → World → Prop) (u : Value) (W : World) : givesUpon P X (.ok (.value u) W) = X u W := rfl
theorem givesUpon_skip (X : Value → World → Prop) (W : World) : givesUpon P X (.ok .skip W) = X undef W := rfl
theorem givesUpon_enter (X : Value → World → Prop) (f : FuncId) (args : Array Value) (W : World) : givesUpon P X (.ok (.enter f args) W) = Calls P f args W (fun e w'' => ∃ v, e = .returned v ∧ X v w'') := rfl
end

/-! ### A plan as a list: an entry for each operation that adds, and for each fact of the beginning. -/
structure Fct where
  k : Nat
  uses : List Nat
  spends : List Nat := []
  later : List Nat := []
  pure : Value → Prop := fun _ => True
  fact : Value → World → Prop := fun _ _ => True
def planOf (base : World → Prop) (l : List Fct) : Plan where
  base := base
  adds k := l.any fun f => f.k == k
  uses k := match l.find? (fun f => f.k == k) with | some f => f.uses | none => []
  spends k := match l.find? (fun f => f.k == k) with | some f => f.spends | none => []
  later k := match l.find? (fun f => f.k == k) with | some f => f.later | none => []
  pure k v := match l.find? (fun f => f.k == k) with | some f => f.pure v | none => True
  fact k v W := match l.find? (fun f => f.k == k) with | some f => f.fact v W | none => True
/-- What is known at the beginning. -/
def starts (T : Plan) (inits : List Nat) : Nat → World → Prop := fun k => if k ∈ inits then T.fact k undef else fun _ => True
theorem starts_known (T : Plan) (inits : List Nat) : T.known (starts T inits) := fun k => by
  unfold starts
  split
  · exact .inr ⟨undef, rfl⟩
  · exact .inl fun _ => trivial
theorem keeps_of {base : World → Prop} {l : List Fct} {i : Nat} {W W' : World} (h : ∀ f ∈ l, f.k ∉ (planOf base l).spends i → f.k ∉ (planOf base l).later i → f.k ≠ i → ∀ u, f.fact u W → f.fact u W') : (planOf base l).keeps i W W' := fun k hk hl hne u hf => by
  simp only [planOf] at hf ⊢
  cases hfind : l.find? (fun f => f.k == k) with
  | none => trivial
  | some f =>
    rw [hfind] at hf
    have hm := List.mem_of_find?_eq_some hfind
    have he : f.k = k := by simpa using List.find?_some hfind
    exact h f hm (by rw [he]; exact hk) (by rw [he]; exact hl) (by rw [he]; exact hne) u hf
/-- Nothing that was there has turned. -/
theorem keeps_all {base : World → Prop} {l : List Fct} {i : Nat} {W W' : World} (h : ∀ f ∈ l, ∀ u, f.fact u W → f.fact u W') : (planOf base l).keeps i W W' := keeps_of fun f hf _ _ _ => h f hf
theorem wp_region_plan {P : Program} {id : Nat} {Q : Exit → Act → World → Prop} {a : Act} {w : World} {ops : List Oper} (base : World → Prop) (l : List Fct) (inits : List Nat) (hm : P.follows .mixedOrders = true) (hB : Region.lexB .any ops.toArray = true) (hok : (planOf base l).ok .any ops.toArray = true)
    (hin : inits.all (fun k => decide (ops.length ≤ k)) = true) (hpure : ∀ f ∈ l, ∃ v, f.pure v) (hbase : base w.drew) (hw : ∀ k ∈ inits, (planOf base l).fact k undef w.drew)
    (h : wpPar P (planOf base l) ops.toArray (fun a' w' => Q .normal a' w') 0 ops a (starts (planOf base l) inits)) : (Code.region id ops.toArray true).wp P Q a w := by
  refine wp_region_par (planOf base l) _ hm hB hok (fun k _ => ?_) (starts_known _ inits) (fun k hk W => ?_) hbase (fun k => ?_) h
  · simp only [planOf]
    cases hfind : l.find? (fun f => f.k == k) with
    | none => exact ⟨undef, trivial⟩
    | some f => exact hpure f (List.mem_of_find?_eq_some hfind)
  · unfold starts
    rw [if_neg]
    · trivial
    · intro hm
      have := List.all_eq_true.1 hin k hm
      simp only [decide_eq_true_eq] at this
      omega
  · unfold starts
    split
    · rename_i hk; exact hw k hk
    · trivial
/-- A call, met by its contract. -/
theorem gives_call {P : Program} {X : Value → World → Prop} {f : FuncId} {args : Array Value} {W : World} {R : Ending → World → Prop} (h : Calls P f args W R) (hR : ∀ e w', R e w' → ∃ v, e = .returned v ∧ X v w') : givesUpon P X (.ok (.enter f args) W) := h.mono hR
/-- 'append' of bytes, as an operation that adds. -/
theorem gives_append_bo {P : Program} {o : Oper} {a : Act} {w : World} {X : Value → World → Prop} (s x : Operand) (t : TypeId)
    (ho : o.op = .call { callee := .builtin .append, args := #[s, x], argTypes := #[t, t] }) {e : TypeId} (hT : RowTy P t e (.int .u8 0) 1)
    {v : Value} (hs : a.eval s = v) {u : Value} (hx : a.eval x = u) {base : Nat} {l : List UInt8} (hown : Bo e w base v l) {lo hi : Nat} {m : List UInt8} (hu : Bs w lo hi u m)
    (h63 : l.length + m.length ≤ 140737488355328) (hbase : base ≤ w.heap.size)
    (h : ∀ a' n' c' w', Bo e w' base (.slice a' n' c') (l ++ m) → Kept (Of v) w w' → (∀ k, (Value.slice a' n' c').ownBlock = some k → v.ownBlock = some k ∨ k = w.heap.size) → X (.slice a' n' c') w') : Gives P o a w X := by
  obtain ⟨a', n', c', w', hr, h1, h2, h3⟩ := run_append_bo (w := w) (ty := o.type) hT hown hu h63 hbase
  unfold Gives
  simp only [execOp, ho, resolve, invoke, builtin, Sem.run_bind, Sem.run_pure, Result.andThen_ok, List.map_toArray, List.map_cons, List.map_nil, hs, hx, hr]
  exact h _ _ _ _ h1 h2 h3
end Go.Pm

/- The document's permutation and sums (chapter 2) as plain functions: program-independent. The permutation is one to one. -/
namespace Go.Pm
open Go Go.RowKit

abbrev U64 := BitVec 64
/-- Turned to the right by n. -/
def rot (x : U64) (n : Nat) : U64 := (x >>> n) ||| (x <<< (64 - n))
/-- A word, itself xor itself turned by two numbers. -/
def lin (x : U64) (a b : Nat) : U64 := (x ^^^ rot x a) ^^^ rot x b
/-- A state. -/
structure S5 where
  a : U64
  b : U64
  c : U64
  d : U64
  e : U64
deriving DecidableEq
/-- A round's first part: the number, and three words. -/
def S5.add (s : S5) (k : U64) : S5 := ⟨s.a ^^^ s.e, s.b, (s.c ^^^ k) ^^^ s.b, s.d, s.e ^^^ s.d⟩
/-- Its second part: t0 to t4, and what they are then. -/
def S5.chi (s : S5) : S5 := ⟨s.a ^^^ (~~~s.b &&& s.c), s.b ^^^ (~~~s.c &&& s.d), s.c ^^^ (~~~s.d &&& s.e), s.d ^^^ (~~~s.e &&& s.a), s.e ^^^ (~~~s.a &&& s.b)⟩
def S5.mix (t : S5) : S5 := ⟨t.a ^^^ t.e, t.b ^^^ t.a, ~~~t.c, t.d ^^^ t.c, t.e⟩
/-- Its third part. -/
def S5.spread (t : S5) : S5 := ⟨lin t.a 19 28, lin t.b 61 39, lin t.c 1 6, lin t.d 10 17, lin t.e 7 41⟩
def S5.round (s : S5) (k : U64) : S5 := (((s.add k).chi).mix).spread
/-- The numbers of the rounds. -/
def consts : List U64 := [0xf0, 0xe1, 0xd2, 0xc3, 0xb4, 0xa5, 0x96, 0x87, 0x78, 0x69, 0x5a, 0x4b]
def S5.perm (s : S5) : S5 := consts.foldl S5.round s

/-! ### One to one -/
theorem xor_can {x y k : U64} (h : x ^^^ k = y ^^^ k) : x = y := by
  have := congrArg (· ^^^ k) h
  simpa [BitVec.xor_assoc] using this
theorem add_inj {s t : S5} {k : U64} (h : s.add k = t.add k) : s = t := by
  obtain ⟨a, b, c, d, e⟩ := s
  obtain ⟨a', b', c', d', e'⟩ := t
  simp only [S5.add, S5.mk.injEq] at h
  obtain ⟨h1, rfl, h3, rfl, h5⟩ := h
  obtain rfl := xor_can h5
  obtain rfl := xor_can h1
  obtain rfl := xor_can (xor_can h3)
  rfl
theorem mix_inj {s t : S5} (h : s.mix = t.mix) : s = t := by
  obtain ⟨a, b, c, d, e⟩ := s
  obtain ⟨a', b', c', d', e'⟩ := t
  simp only [S5.mix, S5.mk.injEq] at h
  obtain ⟨h1, h2, h3, h4, rfl⟩ := h
  obtain rfl := xor_can h1
  obtain rfl := xor_can h2
  have h3' := congrArg (~~~ ·) h3
  simp only [BitVec.not_not] at h3'
  subst h3'
  obtain rfl := xor_can h4
  rfl
theorem chi_bits : ∀ a b c d e a' b' c' d' e' : Bool, (a ^^ (!b && c)) = (a' ^^ (!b' && c')) → (b ^^ (!c && d)) = (b' ^^ (!c' && d')) → (c ^^ (!d && e)) = (c' ^^ (!d' && e')) → (d ^^ (!e && a)) = (d' ^^ (!e' && a')) → (e ^^ (!a && b)) = (e' ^^ (!a' && b')) →
    a = a' ∧ b = b' ∧ c = c' ∧ d = d' ∧ e = e' := by decide +kernel
theorem chi_inj {s t : S5} (h : s.chi = t.chi) : s = t := by
  obtain ⟨a, b, c, d, e⟩ := s
  obtain ⟨a', b', c', d', e'⟩ := t
  simp only [S5.chi, S5.mk.injEq] at h
  obtain ⟨h1, h2, h3, h4, h5⟩ := h
  have key : ∀ i, i < 64 → a.getLsbD i = a'.getLsbD i ∧ b.getLsbD i = b'.getLsbD i ∧ c.getLsbD i = c'.getLsbD i ∧ d.getLsbD i = d'.getLsbD i ∧ e.getLsbD i = e'.getLsbD i := fun i hi => by
    have g1 := congrArg (fun x : U64 => x.getLsbD i) h1
    have g2 := congrArg (fun x : U64 => x.getLsbD i) h2
    have g3 := congrArg (fun x : U64 => x.getLsbD i) h3
    have g4 := congrArg (fun x : U64 => x.getLsbD i) h4
    have g5 := congrArg (fun x : U64 => x.getLsbD i) h5
    simp only [BitVec.getLsbD_xor, BitVec.getLsbD_and, BitVec.getLsbD_not, hi, decide_true, Bool.true_and] at g1 g2 g3 g4 g5
    exact chi_bits _ _ _ _ _ _ _ _ _ _ g1 g2 g3 g4 g5
  simp only [S5.mk.injEq]
  exact ⟨BitVec.eq_of_getLsbD_eq fun i hi => (key i hi).1, BitVec.eq_of_getLsbD_eq fun i hi => (key i hi).2.1, BitVec.eq_of_getLsbD_eq fun i hi => (key i hi).2.2.1, BitVec.eq_of_getLsbD_eq fun i hi => (key i hi).2.2.2.1,
    BitVec.eq_of_getLsbD_eq fun i hi => (key i hi).2.2.2.2⟩

/-- A word's bits, going round. -/
def wheel (x : U64) : Nat → Bool := fun i => x.getLsbD (i % 64)
def linF (a b : Nat) (f : Nat → Bool) : Nat → Bool := fun i => (f i ^^ f (i + a)) ^^ f (i + b)
theorem linF_twice (a b : Nat) (f : Nat → Bool) : linF a b (linF a b f) = linF (2 * a) (2 * b) f := by
  funext i
  unfold linF
  rw [show i + a + a = i + 2 * a by omega, show i + b + b = i + 2 * b by omega, show i + b + a = i + a + b by omega]
  generalize f i = p, f (i + a) = q, f (i + b) = r, f (i + 2 * a) = s, f (i + a + b) = t, f (i + 2 * b) = u
  revert p q r s t u
  decide
theorem linF_double {a b : Nat} {f g : Nat → Bool} (h : linF a b f = linF a b g) : linF (2 * a) (2 * b) f = linF (2 * a) (2 * b) g := by
  rw [← linF_twice, ← linF_twice, h]
theorem linF_round (a b : Nat) (f : Nat → Bool) (hf : ∀ i, f (i + 64) = f i) : linF (64 * a) (64 * b) f = f := by
  have key : ∀ k i, f (i + 64 * k) = f i := fun k => by
    induction k with
    | zero => intro i; rfl
    | succ k ih => intro i; rw [show i + 64 * (k + 1) = (i + 64 * k) + 64 by omega, hf, ih]
  funext i
  unfold linF
  rw [key, key]
  simp
theorem linF_inj {a b : Nat} {f g : Nat → Bool} (hf : ∀ i, f (i + 64) = f i) (hg : ∀ i, g (i + 64) = g i) (h : linF a b f = linF a b g) : f = g := by
  have h6 := linF_double (linF_double (linF_double (linF_double (linF_double (linF_double h)))))
  rw [show 2 * (2 * (2 * (2 * (2 * (2 * a))))) = 64 * a by omega, show 2 * (2 * (2 * (2 * (2 * (2 * b))))) = 64 * b by omega, linF_round a b f hf, linF_round a b g hg] at h6
  exact h6
theorem wheel_round (x : U64) (i : Nat) : wheel x (i + 64) = wheel x i := by unfold wheel; rw [Nat.add_mod_right]
theorem rot_bit (x : U64) (n : Nat) (h0 : 0 < n) (h1 : n < 64) (i : Nat) (hi : i < 64) : (rot x n).getLsbD i = wheel x (i + n) := by
  unfold rot wheel
  simp only [BitVec.getLsbD_or, BitVec.getLsbD_ushiftRight, BitVec.getLsbD_shiftLeft]
  by_cases h : i + n < 64
  · rw [Nat.mod_eq_of_lt h, show decide (i < 64 - n) = true by simp; omega]
    simp [Nat.add_comm]
  · rw [show (i + n) % 64 = i + n - 64 by omega, BitVec.getLsbD_of_ge x (n + i) (by omega), show decide (i < 64 - n) = false by simp; omega, show decide (i < 64) = true by simp; omega, show i - (64 - n) = i + n - 64 by omega]
    simp
theorem lin_wheel (x : U64) (a b : Nat) (a0 : 0 < a) (a1 : a < 64) (b0 : 0 < b) (b1 : b < 64) : wheel (lin x a b) = linF a b (wheel x) := by
  funext i
  unfold linF
  have hm : i % 64 < 64 := Nat.mod_lt _ (by decide)
  have e : ∀ n, wheel x (i % 64 + n) = wheel x (i + n) := fun n => by unfold wheel; rw [Nat.mod_add_mod]
  rw [← e a, ← e b, ← rot_bit x a a0 a1 _ hm, ← rot_bit x b b0 b1 _ hm]
  unfold wheel lin
  simp only [BitVec.getLsbD_xor]
theorem lin_inj {x y : U64} (a b : Nat) (a0 : 0 < a) (a1 : a < 64) (b0 : 0 < b) (b1 : b < 64) (h : lin x a b = lin y a b) : x = y := by
  have h1 : wheel x = wheel y := linF_inj (wheel_round x) (wheel_round y) (by rw [← lin_wheel x a b a0 a1 b0 b1, ← lin_wheel y a b a0 a1 b0 b1, h])
  refine BitVec.eq_of_getLsbD_eq fun i hi => ?_
  have := congrFun h1 i
  unfold wheel at this
  rwa [Nat.mod_eq_of_lt hi] at this
theorem spread_inj {s t : S5} (h : s.spread = t.spread) : s = t := by
  obtain ⟨a, b, c, d, e⟩ := s
  obtain ⟨a', b', c', d', e'⟩ := t
  simp only [S5.spread, S5.mk.injEq] at h
  obtain ⟨h1, h2, h3, h4, h5⟩ := h
  simp only [S5.mk.injEq]
  exact ⟨lin_inj 19 28 (by decide) (by decide) (by decide) (by decide) h1, lin_inj 61 39 (by decide) (by decide) (by decide) (by decide) h2, lin_inj 1 6 (by decide) (by decide) (by decide) (by decide) h3,
    lin_inj 10 17 (by decide) (by decide) (by decide) (by decide) h4, lin_inj 7 41 (by decide) (by decide) (by decide) (by decide) h5⟩
theorem round_inj {s t : S5} {k : U64} (h : s.round k = t.round k) : s = t := add_inj (chi_inj (mix_inj (spread_inj h)))
theorem foldl_round_inj : ∀ (l : List U64) {s t : S5}, l.foldl S5.round s = l.foldl S5.round t → s = t
  | [], _, _, h => h
  | _ :: l, _, _, h => round_inj (foldl_round_inj l h)
theorem perm_inj {s t : S5} (h : s.perm = t.perm) : s = t := foldl_round_inj consts h
theorem perm_eq (s t : S5) : s.perm = t.perm ↔ s = t := ⟨perm_inj, fun h => by rw [h]⟩

/-! ### Words as the program's numbers -/
def U (x : U64) : Int := (x.toNat : Int)
theorem U_ge (x : U64) : 0 ≤ U x := by unfold U; omega
theorem U_lt (x : U64) : U x < 18446744073709551616 := by unfold U; have := x.isLt; omega
theorem U_inj {x y : U64} (h : U x = U y) : x = y := by
  unfold U at h
  exact BitVec.eq_of_toNat_eq (by omega)
theorem U_eq (x y : U64) : U x = U y ↔ x = y := ⟨U_inj, fun h => by rw [h]⟩
theorem ofInt_U (x : U64) : BitVec.ofInt 64 (U x) = x := by
  unfold U
  rw [BitVec.ofInt_natCast]
  exact BitVec.eq_of_toNat_eq (by rw [BitVec.toNat_ofNat]; exact Nat.mod_eq_of_lt x.isLt)
theorem wrap_U (x : U64) : IntKind.u64.wrap (x.toNat : Int) = U x := by
  have := U_lt x
  have := U_ge x
  rw [IntKind.wrap_u64]
  exact Int.emod_eq_of_lt (U_ge x) (U_lt x)
theorem U_xor (x y : U64) : bits .xor .u64 (U x) (U y) = U (x ^^^ y) := by
  show IntKind.u64.wrap ((BitVec.ofInt 64 (U x) ^^^ BitVec.ofInt 64 (U y)).toNat : Int) = _
  rw [ofInt_U, ofInt_U, wrap_U]
theorem U_and (x y : U64) : bits .and .u64 (U x) (U y) = U (x &&& y) := by
  show IntKind.u64.wrap ((BitVec.ofInt 64 (U x) &&& BitVec.ofInt 64 (U y)).toNat : Int) = _
  rw [ofInt_U, ofInt_U, wrap_U]
theorem U_or (x y : U64) : bits .or .u64 (U x) (U y) = U (x ||| y) := by
  show IntKind.u64.wrap ((BitVec.ofInt 64 (U x) ||| BitVec.ofInt 64 (U y)).toNat : Int) = _
  rw [ofInt_U, ofInt_U, wrap_U]
theorem U_not (x : U64) : bits .xor .u64 18446744073709551615 (U x) = U (~~~x) := by
  show IntKind.u64.wrap ((BitVec.ofInt 64 18446744073709551615 ^^^ BitVec.ofInt 64 (U x)).toNat : Int) = _
  rw [ofInt_U, wrap_U, show BitVec.ofInt 64 18446744073709551615 = BitVec.allOnes 64 by decide, BitVec.allOnes_xor]
theorem U_not' (x : U64) : bits .xor .u64 IntKind.u64.max (U x) = U (~~~x) := U_not x
theorem U_shr (x : U64) (n : Nat) : U x / (2 ^ n : Nat) = U (x >>> n) := by
  unfold U
  rw [BitVec.toNat_ushiftRight, Nat.shiftRight_eq_div_pow]
  norm_cast
theorem U_shl (x : U64) (n : Nat) : IntKind.u64.wrap (U x * (2 ^ n : Nat)) = U (x <<< n) := by
  unfold U
  rw [IntKind.wrap_u64, BitVec.toNat_shiftLeft, Nat.shiftLeft_eq, ← Int.natCast_mul, show (2 : Nat) ^ 64 = 18446744073709551616 from rfl]
  generalize x.toNat * 2 ^ n = z
  omega
/-- A number of the program's as a word. -/
def W (n : Int) : U64 := BitVec.ofNat 64 n.toNat
theorem U_W (n : Int) (h0 : 0 ≤ n) (h1 : n < 18446744073709551616) : U (W n) = n := by
  unfold U W
  rw [BitVec.toNat_ofNat, Nat.mod_eq_of_lt (by omega)]
  omega
theorem W_U (x : U64) : W (U x) = x := U_inj (U_W _ (U_ge x) (U_lt x))

theorem consts_at : ∀ k : Fin 12, consts[k.1]? = some (W (240 - 15 * k.1)) := by decide +kernel
/-- One round more. -/
theorem consts_step (k : Nat) (hk : k < 12) (n : U64) (hn : U n = 240 - 15 * k) (s : S5) : (consts.take (k + 1)).foldl S5.round s = ((consts.take k).foldl S5.round s).round n := by
  have hc := consts_at ⟨k, hk⟩
  simp only at hc
  rw [← hn, W_U] at hc
  rw [List.take_add_one, hc, List.foldl_append]
  rfl
/-- The number of the next round. -/
theorem U_next (n : U64) (h : 75 ≤ U n) : ∃ m : U64, U m = U n - 15 := ⟨W (U n - 15), U_W _ (by omega) (by have := U_lt n; omega)⟩

theorem wrap_next (n : U64) (h : 75 ≤ U n) : IntKind.u64.wrap (U n - 15) = U n - 15 := by
  have := U_lt n
  rw [IntKind.wrap_u64]
  exact Int.emod_eq_of_lt (by omega) (by omega)

/-! ### The sum -/
/-- Eight bytes as a word, the lowest first. -/
def wordOf (l : List UInt8) : U64 := W (leV l)
theorem U_wordOf (l : List UInt8) : U (wordOf l) = leV l := U_W _ (leV_ge l) (leV_lt l)
theorem bAt_take_if (l : List UInt8) (n i : Nat) : bAt (l.take n) i = if i < n then bAt l i else 0 := by
  by_cases h : i < n
  · rw [if_pos h, bAt_take l n i h]
  · rw [if_neg h]
    unfold bAt
    rw [List.getD_eq_getElem?_getD, List.getElem?_eq_none (by simp; omega)]
    rfl
theorem leV_take_succ (l : List UInt8) (k : Nat) (hk : k < 8) : leV (l.take (k + 1)) = leV (l.take k) + bAt l k * (2 ^ (8 * k) : Nat) := by
  unfold leV
  simp only [bAt_take_if]
  match k, hk with
  | 0, _ => simp
  | 1, _ => simp
  | 2, _ => simp
  | 3, _ => simp
  | 4, _ => simp
  | 5, _ => simp
  | 6, _ => simp
  | 7, _ => simp
theorem leV_zero (l : List UInt8) : leV (l.take 0) = 0 := by unfold leV; simp only [bAt_take_if]; simp
theorem leV_take_lt (l : List UInt8) (k : Nat) (hk : k ≤ 8) : leV (l.take k) < (2 ^ (8 * k) : Nat) := by
  have A := bAt_ge l
  have B := bAt_lt l
  have := A 0; have := A 1; have := A 2; have := A 3; have := A 4; have := A 5; have := A 6; have := A 7
  have := B 0; have := B 1; have := B 2; have := B 3; have := B 4; have := B 5; have := B 6; have := B 7
  unfold leV
  simp only [bAt_take_if]
  match k, hk with
  | 0, _ => simp
  | 1, _ => simp; omega
  | 2, _ => simp; omega
  | 3, _ => simp; omega
  | 4, _ => simp; omega
  | 5, _ => simp; omega
  | 6, _ => simp; omega
  | 7, _ => simp; omega
  | 8, _ => simp; omega
/-- A step of package sponge's word. -/
theorem word_step (l : List UInt8) (k : Nat) (hk : k < 8) : bits .or .u64 (leV (l.take k)) (IntKind.u64.wrap (bAt l k * 2 ^ (8 * k))) = leV (l.take (k + 1)) := by
  rw [show ((2 : Int) ^ (8 * k)) = ((2 ^ (8 * k) : Nat) : Int) by push_cast; rfl]
  rw [leV_take_succ l k hk]
  have h0 := leV_ge (l.take (k + 1))
  have h1 := leV_lt (l.take (k + 1))
  rw [leV_take_succ l k hk] at h0 h1
  have h2 := leV_ge (l.take k)
  have h3 : 0 ≤ bAt l k * (2 ^ (8 * k) : Nat) := Int.mul_nonneg (bAt_ge l k) (Int.natCast_nonneg _)
  rw [IntKind.wrap_u64, Int.emod_eq_of_lt h3 (by omega)]
  refine or_join (2 ^ (8 * k)) (8 * k) rfl ?_ _ _ h2 (leV_take_lt l k (by omega)) (bAt_ge l k) (by omega)
  exact Nat.le_trans (Nat.pow_le_pow_right (by decide) (show 8 * k ≤ 64 by omega)) (by decide)
/-- One more block. -/
def S5.block (s : S5) (l : List UInt8) : S5 := ({ s with a := s.a ^^^ wordOf l } : S5).perm
def absorb (l : List UInt8) (s : S5) : Nat → S5
  | 0 => s
  | k + 1 => (absorb l s k).block (l.drop (8 * k))
def padded (l : List UInt8) : List UInt8 := (l ++ [1]) ++ List.replicate ((8 - (l.length + 1) % 8) % 8) 0
theorem padded_len (l : List UInt8) : (padded l).length = 8 * (l.length / 8 + 1) := by
  unfold padded
  simp only [List.length_append, List.length_cons, List.length_nil, List.length_replicate]
  omega
/-- The state with its first word xored. -/
def S5.mixed (s : S5) (x : U64) : S5 := { s with a := s.a ^^^ x }
theorem mixed_a (s : S5) (x : Int) (h0 : 0 ≤ x) (h1 : x < 18446744073709551616) : bits .xor .u64 (U s.a) x = U (s.mixed (W x)).a := by
  have := U_xor s.a (W x)
  rw [U_W x h0 h1] at this
  exact this
theorem pad_drop (l : List UInt8) (k : Nat) (h : 8 * k + 8 ≤ l.length) : leV ((padded l).drop (8 * k)) = leV ((l.drop (8 * k)).take 8) := by
  rw [← leV_take ((padded l).drop (8 * k))]
  congr 1
  unfold padded
  rw [List.append_assoc, List.drop_append_of_le_length (by omega), List.take_append_of_le_length (by simp; omega)]
theorem absorb_step (l : List UInt8) (s : S5) (k : Nat) (h : 8 * k + 8 ≤ l.length) : absorb (padded l) s (k + 1) = ((absorb (padded l) s k).mixed (W (leV ((l.drop (8 * k)).take 8)))).perm := by
  show (absorb (padded l) s k).block ((padded l).drop (8 * k)) = _
  unfold S5.block wordOf
  rw [pad_drop l k h]
  rfl
theorem bAt_pad (r : List UInt8) (j i : Nat) : bAt ((r ++ [1]) ++ List.replicate j 0) i = if i < r.length then bAt r i else if i = r.length then 1 else 0 := by
  unfold bAt
  simp only [List.getD_eq_getElem?_getD]
  by_cases h : i < r.length
  · rw [if_pos h, List.getElem?_append_left (by simp; omega), List.getElem?_append_left h]
  · rw [if_neg h]
    by_cases h2 : i = r.length
    · rw [if_pos h2, List.getElem?_append_left (by simp; omega), List.getElem?_append_right (by omega), h2]
      simp
    · rw [if_neg h2, List.getElem?_append_right (by simp; omega)]
      rw [List.getElem?_replicate]
      split <;> rfl
theorem bAt_beyond (r : List UInt8) (i : Nat) (h : r.length ≤ i) : bAt r i = 0 := by
  unfold bAt
  rw [List.getD_eq_getElem?_getD, List.getElem?_eq_none h]
  rfl
theorem leV_pad (r : List UInt8) (j : Nat) (h : r.length < 8) : leV ((r ++ [1]) ++ List.replicate j 0) = leV r + (2 ^ (8 * r.length) : Nat) := by
  have B := bAt_beyond r
  unfold leV
  simp only [bAt_pad]
  generalize r.length = n at *
  match n, h with
  | 0, _ => simp [B]
  | 1, _ => simp [B]
  | 2, _ => simp [B]
  | 3, _ => simp [B]
  | 4, _ => simp [B]
  | 5, _ => simp [B]
  | 6, _ => simp [B]
  | 7, _ => simp [B]
theorem leV_short (r : List UInt8) (h : r.length ≤ 8) : leV r < (2 ^ (8 * r.length) : Nat) := by
  have := leV_take_lt r r.length h
  rwa [List.take_of_length_le (Nat.le_refl _)] at this
theorem last_word (l : List UInt8) (k n : Nat) (hn : 8 * k + n = l.length) (h8 : n < 8) : bits .or .u64 (leV (l.drop (8 * k))) (IntKind.u64.wrap (2 ^ (8 * n))) = leV ((padded l).drop (8 * k)) := by
  rw [show ((2 : Int) ^ (8 * n)) = ((2 ^ (8 * n) : Nat) : Int) by push_cast; rfl]
  have hr : (l.drop (8 * k)).length = n := by simp; omega
  unfold padded
  rw [List.append_assoc, List.drop_append_of_le_length (by omega), ← List.append_assoc, leV_pad _ _ (by omega), hr]
  have h2 := leV_short (l.drop (8 * k)) (by omega)
  rw [hr] at h2
  have h3 : (2 ^ (8 * n) : Nat) < 18446744073709551616 := Nat.pow_lt_pow_right (a := 2) (m := 8 * n) (n := 64) (by decide) (by omega)
  have h5 : (0 : Int) ≤ ((2 ^ (8 * n) : Nat) : Int) := Int.natCast_nonneg _
  have h6 : ((2 ^ (8 * n) : Nat) : Int) < 18446744073709551616 := Int.ofNat_lt.2 h3
  rw [IntKind.wrap_u64, Int.emod_eq_of_lt h5 h6]
  have h4 := or_join (2 ^ (8 * n)) (8 * n) rfl (Nat.le_of_lt h3) _ 1 (leV_ge (l.drop (8 * k))) h2 (by decide) (by rw [Int.one_mul]; exact h6)
  rw [Int.one_mul] at h4
  exact h4
def first : S5 := S5.perm ⟨0x0000080100cc0002, 0, 0, 0, 0⟩
def soaked (l : List UInt8) : S5 := absorb (padded l) first (l.length / 8 + 1)
theorem soaked_last (l : List UInt8) (k n : Nat) (hn : 8 * k + n = l.length) (h8 : n < 8) : soaked l = ((absorb (padded l) first k).mixed (W (leV ((padded l).drop (8 * k))))).perm := by
  unfold soaked
  rw [show l.length / 8 = k by omega]
  rfl
/-- The state behind j blocks, under a name. -/
theorem absorb_all (l : List UInt8) : ∃ ab : Nat → S5, ab 0 = first ∧ (∀ j : Nat, ab (j + 1) = ((ab j).mixed (W (leV ((padded l).drop (8 * j))))).perm) ∧ soaked l = ab (l.length / 8 + 1) :=
  ⟨absorb (padded l) first, rfl, fun _ => rfl, rfl⟩
/-- How many noughts. -/
def noughts (l : List UInt8) : Nat := (8 - (l.length + 1) % 8) % 8
theorem padded_is (l : List UInt8) : padded l = (l ++ [1]) ++ List.replicate (noughts l) 0 := rfl
theorem replicate_one (j : Nat) : List.replicate (j + 1) (0 : UInt8) = List.replicate j 0 ++ [0] := by rw [List.replicate_succ']
def squeeze (s : S5) : Nat → S5
  | 0 => s
  | k + 1 => (squeeze s k).perm
/-- The first k eights of bytes. -/
def eights (s : S5) : Nat → List UInt8
  | 0 => []
  | k + 1 => eights s k ++ leB (U (squeeze s k).a)
def sumB (l : List UInt8) : List UInt8 := eights (soaked l) 4
theorem eights_len (s : S5) (k : Nat) : (eights s k).length = 8 * k := by
  induction k with
  | zero => rfl
  | succ k ih => simp only [eights, List.length_append, ih, leB_length]; omega
theorem sumB_len (l : List UInt8) : (sumB l).length = 32 := eights_len _ 4

/-- A list laid over another one, item by item. -/
theorem splice_step {α : Type} (L cs : List α) (off m : Nat) (hm : m < cs.length) (hfit : off + cs.length ≤ L.length) (x : α) (hx : cs[m]? = some x) : (splice L off (cs.take m)).set (off + m) x = splice L off (cs.take (m + 1)) := by
  apply List.ext_getElem?
  intro i
  have hxm : cs[m] = x := (List.getElem?_eq_some_iff.1 hx).2
  unfold splice
  simp only [List.getElem?_set, List.length_append, List.length_take, List.length_drop, List.getElem?_append, List.getElem?_take, List.getElem?_drop]
  by_cases h1 : off + m = i
  · subst h1
    simp [show min off L.length = off by omega, show min m cs.length = m by omega, show min (m + 1) cs.length = m + 1 by omega, show off + m - off = m by omega, hx]
    rw [if_pos (by omega), if_neg (by omega)]
  · rw [if_neg h1]
    by_cases h2 : i < off
    · simp [h2, show min off L.length = off by omega]
    · by_cases h3 : i < off + m
      · simp [show min off L.length = off by omega, show min m cs.length = m by omega, show min (m + 1) cs.length = m + 1 by omega, show ¬ i < off by omega, show i - off < m by omega, show i - off < m + 1 by omega]
      · simp [show min off L.length = off by omega, show min m cs.length = m by omega, show min (m + 1) cs.length = m + 1 by omega, show ¬ i < off by omega, show ¬ i - off < m by omega, show ¬ i - off < m + 1 by omega]
        congr 1
        omega

/-- A state with one word xored. -/
def S5.xoredAt (s : S5) (x : U64) : Nat → S5
  | 0 => { s with a := s.a ^^^ x }
  | 1 => { s with b := s.b ^^^ x }
  | 2 => { s with c := s.c ^^^ x }
  | 3 => { s with d := s.d ^^^ x }
  | _ => { s with e := s.e ^^^ x }
theorem xor_same (a x : U64) : a = a ^^^ x ↔ x = 0 := by
  constructor
  · intro h
    have := congrArg (a ^^^ ·) h
    simpa [← BitVec.xor_assoc] using this.symm
  · rintro rfl; simp
theorem xoredAt_eq (s : S5) (x : U64) (j : Nat) : s = s.xoredAt x j ↔ x = 0 := by
  obtain ⟨a, b, c, d, e⟩ := s
  unfold S5.xoredAt
  split <;> simp [xor_same]
/-! ### Texts -/
def lumpB (l : List UInt8) : List UInt8 := leB l.length ++ l
def textB (tag : Int) (ls : List (List UInt8)) : List UInt8 := byteOf tag :: (ls.map lumpB).flatten
theorem textB_take (tag : Int) (ls : List (List UInt8)) (k : Nat) (h : k < ls.length) : textB tag (ls.take (k + 1)) = textB tag (ls.take k) ++ (leB ls[k].length ++ ls[k]) := by
  unfold textB
  rw [List.take_succ_eq_append_getElem h]
  simp only [List.map_append, List.map_cons, List.map_nil, List.flatten_append, List.flatten_cons, List.flatten_nil, List.append_nil, lumpB, List.cons_append]
/-- What Text lays one behind another. -/
def partsB (tag : Int) (ls : List (List UInt8)) : List (List UInt8) := [byteOf tag] :: ls.map lumpB
theorem partsB_flat (tag : Int) (ls : List (List UInt8)) : (partsB tag ls).flatten = textB tag ls := rfl
theorem partsB_len (tag : Int) (ls : List (List UInt8)) : (partsB tag ls).length = ls.length + 1 := by simp [partsB]
theorem partsB_take (tag : Int) (ls : List (List UInt8)) (k : Nat) (h : k < ls.length) : partsB tag (ls.take (k + 1)) = partsB tag (ls.take k) ++ [leB ls[k].length ++ ls[k]] := by
  unfold partsB
  rw [List.take_succ_eq_append_getElem h]
  simp only [List.map_append, List.map_cons, List.map_nil, lumpB, List.cons_append]
theorem total_lumps (ls : List (List UInt8)) : (ls.map lumpB).flatten.length = 8 * ls.length + total ls := by
  unfold total
  induction ls with
  | nil => rfl
  | cons l ls ih => simp only [List.map_cons, List.flatten_cons, List.length_append, List.length_cons, ih, lumpB, leB_length]; omega
theorem textB_length (tag : Int) (ls : List (List UInt8)) : (textB tag ls).length = 1 + 8 * ls.length + total ls := by
  unfold textB
  simp only [List.length_cons, total_lumps]
  omega
theorem at_total (ls : List (List UInt8)) (k : Nat) (h : k < ls.length) : ls[k].length ≤ total ls := by
  have := total_take ls k h
  have := total_take_le ls (k + 1)
  omega

theorem lumpB_inj {a b : List UInt8} (ha : a.length < 18446744073709551616) (hb : b.length < 18446744073709551616) (h : lumpB a = lumpB b) : a = b := by
  have h1 := St.lump_said a a.length (by omega) ha []
  have h2 := St.lump_said b a.length (by have := congrArg List.length h; simp [lumpB, leB_length] at this; omega) hb []
  have h3 : (leB a.length ++ a) ++ [] = (leB b.length ++ b) ++ [] := by rw [List.append_nil, List.append_nil]; exact h
  rw [← h1.1, ← h2.1, h3]
theorem textB_one (t : Int) {a b : List UInt8} (ha : a.length < 18446744073709551616) (hb : b.length < 18446744073709551616) : textB t [a] = textB t [b] ↔ a = b := by
  refine ⟨fun h => ?_, fun h => by rw [h]⟩
  simp only [textB, List.map_cons, List.map_nil, List.flatten_cons, List.flatten_nil, List.append_nil, List.cons.injEq, true_and] at h
  exact lumpB_inj ha hb h
theorem textB_two (t : Int) (a b : List UInt8) : textB t [a, b] ≠ textB t [a ++ b] := fun h => by
  have := congrArg List.length h
  simp [textB, lumpB, leB_length] at this
theorem textB_tag {t t' : Int} (h0 : 0 ≤ t) (h1 : t < 256) (h0' : 0 ≤ t') (h1' : t' < 256) (ls : List (List UInt8)) : textB t ls = textB t' ls ↔ t = t' := by
  refine ⟨fun h => ?_, fun h => by rw [h]⟩
  simp only [textB, List.cons.injEq, and_true] at h
  have := congrArg (fun b : UInt8 => (b.toNat : Int)) h
  simp only [byteOf_toNat] at this
  omega
/-! ### What is known -/
theorem perm_zero : S5.perm ⟨0, 0, 0, 0, 0⟩ ≠ ⟨0, 0, 0, 0, 0⟩ := by decide +kernel
theorem sum_none : sumB [] ≠ sumB [0] := by decide +kernel
theorem text_known : textB 97 [[98]] = [97, 1, 0, 0, 0, 0, 0, 0, 0, 98] := by decide +kernel
theorem text_alone : textB 97 [] = [97] := by decide +kernel
end Go.Pm

/- Arrays as values: blocks that are loaded and stored whole. Program-independent. -/
namespace Go.Pm
open Go Go.RowKit

theorem Blk.setRow {w : World} {r : Nat} {cs : Array Value} {t : TypeId} (h : Blk w r cs t) (cs' : Array Value) : Blk (w.setRow r cs') r cs' t := setRow_heap w r cs cs' t _ h
theorem Blk.setRowOther {w : World} {r : Nat} {cs : Array Value} {t : TypeId} (h : Blk w r cs t) {g : Nat} (hg : r ≠ g) (cs' : Array Value) : Blk (w.setRow g cs') r cs t := by
  unfold Blk; rw [setRow_other w g r cs' hg]; exact h
theorem Kept.row (w : World) (g : Nat) (cs : Array Value) : Kept (Just g) w (w.setRow g cs) := ⟨rfl, rfl, rfl, by simp, fun k _ hs => setRow_other w g k cs hs⟩
theorem Kept.setRow {S : Nat → Prop} {a w : World} (h : Kept S a w) {g : Nat} (hg : g < a.heap.size → S g) (cs : Array Value) : Kept S a (w.setRow g cs) :=
  h.then (Kept.row w g cs) (fun i hi (e : i = g) => by subst e; exact hg hi)
def aggD : TypeDesc → Bool
  | .struct _ => true
  | .array _ _ => true
  | _ => false
/-- A type of arrays or structs of n cells. -/
structure AggTy (P : Program) (t : TypeId) (n : Nat) : Prop where
  ag : ∃ d, P.underlying t = some d ∧ aggD d = true
  size : (P.info? t).map (·.size) = some n

theorem wpList_load_blk {P : Program} {ops : Array Oper} {rest : List Oper} {o : Oper} {a : Act} {w : World} {Q : Exit → Act → World → Prop} (hgd : o.guard = none) (ty : TypeId) (x : Operand) (ho : o.op = .load ty x)
    {g : Nat} (hx : a.eval x = .pointer (some ⟨g, 0, none⟩)) {t : TypeId} {cs : Array Value} (hb : Blk w g cs t) (hT : AggTy P ty cs.size)
    (h : wpList P ops Q rest (a.put o.dst (.agg cs)) w) : wpList P ops Q (o :: rest) a w := by
  obtain ⟨d, hu, hd⟩ := hT.ag
  exact wpList_load_row hgd ty x ho g hx t cs (0, 0) d hb hu (by cases d <;> first | rfl | exact hd) hT.size h
theorem wpList_store_blk {P : Program} {ops : Array Oper} {rest : List Oper} {o : Oper} {a : Act} {w : World} {Q : Exit → Act → World → Prop} (hgd : o.guard = none) (ty : TypeId) (x y : Operand) (ho : o.op = .store ty x y)
    {g : Nat} (hx : a.eval x = .pointer (some ⟨g, 0, none⟩)) {cs' : Array Value} (hy : a.eval y = .agg cs') {t : TypeId} {cs : Array Value} (hb : Blk w g cs t) (hT : AggTy P ty cs'.size) (hs : cs.size = cs'.size) (h1 : cs'.all (·.oneCell') = true)
    (h : ∀ w', Blk w' g cs' t → Kept (Just g) w w' → wpList P ops Q rest (a.put o.dst undef) w') : wpList P ops Q (o :: rest) a w :=
  wpList_plain hgd fun _ hK => wp_store_row ty x y ho g cs' hx hy t cs hb hT.size hs h1 (hK _ _ (h _ (hb.setRow _) (Kept.row _ _ _)))
theorem run_load_blk {P : Program} {w : World} {ty t : TypeId} {g : Nat} {cs : Array Value} (hb : Blk w g cs t) (hT : AggTy P ty cs.size) : (Instr.loadAt ty (.pointer (some ⟨g, 0, none⟩))).run P w = .ok (.agg cs) w := by
  obtain ⟨d, hu, hd⟩ := hT.ag
  have hr := run_loadVar_row w g t ty cs (0, 0) d hb hu (by cases d <;> first | rfl | exact hd) hT.size
  simp only [Instr.loadAt, Instr.sureAddr, Sem.run_bind, Sem.run_pure, Result.andThen_ok, hr]
theorem run_store_blk {P : Program} {w : World} {ty t : TypeId} {g : Nat} {cs cs' : Array Value} (hb : Blk w g cs t) (hT : AggTy P ty cs'.size) (hs : cs.size = cs'.size) (h1 : cs'.all (·.oneCell') = true) :
    (Instr.storeAt ty (.pointer (some ⟨g, 0, none⟩)) (.agg cs')).run P w = .ok () (w.setRow g cs') := by
  simp only [Instr.storeAt, Instr.sureAddr, Sem.run_bind, Sem.run_pure, Result.andThen_ok, run_storeVar_row w g t ty cs cs' hb hT.size hs h1]
/-- What a function tells that has one result, an array or a struct in a cell. -/
theorem results_blk {P : Program} {fn : Func} {p : Tmp} {ty : TypeId} (h : fn.results = #[.cell p ty]) (tmps : Array Value) {w : World} {g : Nat} {t : TypeId} {cs : Array Value} (hp : tmps.getD p undef = .pointer (some ⟨g, 0, none⟩)) (hb : Blk w g cs t)
    (hT : AggTy P ty cs.size) : (results fn tmps).run P w = .ok (.agg cs) w := by
  obtain ⟨d, hu, hd⟩ := hT.ag
  exact results_cell_row h tmps w g t cs (0, 0) d hp hb hu (by cases d <;> first | rfl | exact hd) hT.size
/-- A region that draws its order, of which all but the end only reads: the world behind the draw under a name. -/
theorem wp_tail {P : Program} {id : Nat} {Q : Exit → Act → World → Prop} {a : Act} {w : World} {l : List Oper} (n : Nat) (hm : P.follows .mixedOrders = true) (hB : Region.lexTailB .any l.toArray n = true)
    (h : ∀ wy, Kept None w wy → wpStill P l.toArray wy (fun a' => wpList P l.toArray Q (l.drop n) a' wy) (l.take n) a) : (Code.region id l.toArray true).wp P Q a w :=
  wp_region_still_tail n hm hB (h w.drew (Kept.refl None w).drew)
/-- 'copy' of bytes into a block, as an operation of a region that adds. -/
theorem gives_copy {P : Program} {o : Oper} {a : Act} {w : World} {X : Value → World → Prop} (d s : Operand) (dT sT : TypeId)
    (ho : o.op = .call { callee := .builtin .copy, args := #[d, s], argTypes := #[dT, sT] }) (elem : TypeId) (hu : P.underlying dT = some (.slice elem)) (hsz : (P.info? elem).map (·.size) = some 1)
    {g off dLen dCap : Nat} {u : Value} (hd : a.eval d = .slice (some ⟨g, off, none⟩) dLen dCap) (hs : a.eval s = u) {lo hi : Nat} {l : List UInt8} (hv : Bs w lo hi u l) (h0 : 0 < l.length)
    {cur : List Value} {t : TypeId} (hb : Blk w g cur.toArray t) (hn : l.length ≤ dLen) (hfit : off + l.length ≤ cur.length)
    (h : ∀ w', Blk w' g (splice cur off (l.map u8v)).toArray t → Kept (Just g) w w' → X (goInt l.length) w') : Gives P o a w X := by
  obtain ⟨sp, sc, rfl, g1, g2, g3⟩ := hv.shape
  obtain ⟨a', cap', e, _, _, h3, h4⟩ := hv
  injection e with e1 e2 e3
  subst e1 e3
  cases sp with
  | none => have := h3 rfl; omega
  | some ad =>
    have hrun := run_copy_row (P := P) w dT sT o.type elem g off dLen dCap ad l.length sc cur.toArray t (l.map u8v) hu hsz hb (by rw [List.length_map]; exact (Nat.min_eq_left hn).symm) (fun j v hj => (h4 ad rfl j v hj).2.2) (by simpa using hfit) (u8v_one l)
    unfold Gives
    simp only [execOp, ho, resolve, invoke, builtin, Sem.run_bind, Sem.run_pure, Result.andThen_ok, List.map_toArray, List.map_cons, List.map_nil, hd, hs, hrun, List.length_map]
    refine h _ ?_ (Kept.row _ _ _)
    have := hb.setRow (splice cur off (l.map u8v)).toArray
    simpa [splice] using this

/-- Bytes as an array. -/
abbrev hashV (l : List UInt8) : Value := .agg (l.map u8v).toArray
theorem u8v_all (l : List UInt8) : (l.map u8v).toArray.all (·.oneCell') = true := by
  rw [Array.all_eq_true_iff_forall_mem]
  intro x hx
  exact u8v_one l x (by simpa using hx)
end Go.Pm

/- 'append' of bytes that makes a new row: what came in is as it was. Loads of whole blocks in regions. Program-independent. -/
namespace Go.Pm
open Go Go.RowKit

/-- The row that an append has made: the bytes, noughts behind them. -/
def rowB (l : List UInt8) (cap : Nat) : Array Value := (l.map u8v).toArray ++ Builtin.zeroCells (Value.cells (.int .u8 0)) (cap - l.length)
/-- 'append(v, u..)' where v has no room. -/
theorem run_append_new {P : Program} {w : World} {t ty e : TypeId} (hT : RowTy P t e (.int .u8 0) 1) {lo hi lo' hi' : Nat} {ad : Addr} {cap : Nat} {u : Value} {l m : List UInt8} (hv : Bs w lo hi (.slice (some ad) l.length cap) l) (hu : Bs w lo' hi' u m)
    (hm : 0 < m.length) (hcap : cap < l.length + m.length) (h63 : l.length + m.length ≤ 140737488355328) :
    ∃ c w', (Builtin.append_ #[t, t] ty #[.slice (some ad) l.length cap, u]).run P w = .ok (.slice (some ⟨w.heap.size, 0, none⟩) (l ++ m).length c) w' ∧ Blk w' w.heap.size (rowB (l ++ m) c) e ∧ (l ++ m).length ≤ c ∧ c ≤ maxLen ∧ Kept None w w' := by
  obtain ⟨i, hi, hz, hs, hb⟩ := hT.info
  obtain ⟨sp, sc, rfl, g1, g2, g3⟩ := hu.shape
  obtain ⟨a', cap', e1, _, _, h3, h4⟩ := hu
  injection e1 with e1 e2 e3
  subst e1 e3
  cases sp with
  | none => have := g3 rfl; omega
  | some au =>
    obtain ⟨b', cap2, f1, _, _, _, h5⟩ := hv
    injection f1 with f1 f2 f3
    subst f1 f3
    have hr := run_append_grow (P := P) w t ty e i (.int .u8 0) hT.sl hi hz ad l.length cap (l.map u8v) (by simp [hs]) (fun j v hj => (h5 ad rfl j v hj).2.2) au m.length sc (m.map u8v) (by simp [hs]) (fun j v hj => (h4 au rfl j v hj).2.2) hcap (by omega)
      (by rw [hb]; exact growslice_fits hcap (by omega))
    refine ⟨_, _, by rw [List.length_append]; exact hr, ?_, ?_, ?_, ((Kept.refl None w).drew).alloc _⟩
    · have h6 := Blk.new w.drew ((l.map u8v).toArray ++ (m.map u8v).toArray ++ Builtin.zeroCells (Value.cells (.int .u8 0)) (grownCap w (l.length + m.length) cap e - (l.length + m.length))) e
      unfold rowB
      rw [List.map_append, List.length_append, ← List.append_toArray]
      exact h6
    · rw [List.length_append]; exact grownCap_ge _ _ _ _
    · exact grownCap_le_maxLen _ _ _ _ (by unfold maxLen; omega)
/-- 'append([]byte(nil), u..)'. -/
theorem run_append_first {P : Program} {w : World} {t ty e : TypeId} (hT : RowTy P t e (.int .u8 0) 1) {lo' hi' : Nat} {u : Value} {m : List UInt8} (hu : Bs w lo' hi' u m) (hm : 0 < m.length) (h63 : m.length ≤ 140737488355328) :
    ∃ c w', (Builtin.append_ #[t, t] ty #[.slice none 0 0, u]).run P w = .ok (.slice (some ⟨w.heap.size, 0, none⟩) m.length c) w' ∧ Blk w' w.heap.size (rowB m c) e ∧ m.length ≤ c ∧ c ≤ maxLen ∧ Kept None w w' := by
  obtain ⟨i, hi, hz, hs, hb⟩ := hT.info
  obtain ⟨sp, sc, rfl, g1, g2, g3⟩ := hu.shape
  obtain ⟨a', cap', e1, _, _, h3, h4⟩ := hu
  injection e1 with e1 e2 e3
  subst e1 e3
  cases sp with
  | none => have := g3 rfl; omega
  | some au =>
    have hr := run_append_nil (P := P) w t ty e i (.int .u8 0) hT.sl hi hz au m.length sc (m.map u8v) (by simp [hs]) (fun j v hj => (h4 au rfl j v hj).2.2) hm (by omega) (by rw [hb]; omega)
    refine ⟨_, _, hr, ?_, grownCap_ge _ _ _ _, grownCap_le_maxLen _ _ _ _ (by unfold maxLen; omega), ((Kept.refl None w).drew).alloc _⟩
    exact Blk.new w.drew _ e
/-- A row that an append has made reads as its bytes. -/
theorem rowB_bs {w : World} {g c : Nat} {l : List UInt8} {e : TypeId} (hb : Blk w g (rowB l c) e) (h1 : l.length ≤ c) (h2 : c ≤ maxLen) : Bs w g (g + 1) (.slice (some ⟨g, 0, none⟩) l.length c) l := by
  refine ⟨some ⟨g, 0, none⟩, c, by simp, by simpa using h1, h2, (fun h => by cases h), fun ad had i x hx => ?_⟩
  obtain rfl := Option.some.inj had
  refine ⟨Nat.le_refl _, Nat.lt_succ_self _, ?_⟩
  rw [Addr.add_lit, Nat.zero_add, hb.cell]
  have hi := (List.getElem?_eq_some_iff.1 hx).1
  unfold rowB
  rw [Array.getElem?_append_left (by simpa using hi)]
  simpa using hx
/-- A whole block, loaded in a region. -/
theorem exec_load_blk {P : Program} {o : Oper} {a : Act} {w : World} (ty : TypeId) (x : Operand) (ho : o.op = .load ty x) {g : Nat} (hx : a.eval x = .pointer (some ⟨g, 0, none⟩)) {t : TypeId} {cs : Array Value} (hb : Blk w g cs t) (hT : AggTy P ty cs.size) :
    (execOp a.eval o).run P w = .ok (.value (.agg cs)) w := by
  have hr := run_load_blk (P := P) (ty := ty) hb hT
  unfold execOp
  simp only [ho, hx, Sem.run_bind, hr, Result.andThen_ok, Sem.run_pure]
/-- An append in a region. -/
theorem gives_append {P : Program} {o : Oper} {a : Act} {w : World} {X : Value → World → Prop} (s x : Operand) (t : TypeId) (ho : o.op = .call { callee := .builtin .append, args := #[s, x], argTypes := #[t, t] }) {v u : Value} (hs : a.eval s = v) (hx : a.eval x = u) {r : Value} {w' : World}
    (hr : (Builtin.append_ #[t, t] o.type #[v, u]).run P w = .ok r w') (h : X r w') : Gives P o a w X := by
  unfold Gives
  simp only [execOp, ho, resolve, invoke, builtin, Sem.run_bind, Sem.run_pure, Result.andThen_ok, List.map_toArray, List.map_cons, List.map_nil, hs, hx, hr]
  exact h
end Go.Pm

/- Lists of bytes that grow: a [][]byte that the call itself has made. Program-independent. -/
namespace Go.Pm
open Go Go.RowKit

/-- What reads stays so where the value's own block isn't touched. -/
theorem Vs.keptOwn {S : Nat → Prop} {w w' : World} {lo hi : Nat} {v : Value} {xs : List Value} (h : Vs w lo hi v xs) (hk : Kept S w w') (hs : 0 < xs.length → ∀ k, v.ownBlock = some k → ¬ S k) : Vs w' lo hi v xs := by
  obtain ⟨a, cap, rfl, h1, h2, h3, h4⟩ := h
  refine ⟨a, cap, rfl, h1, h2, h3, fun ad had i x hx => ?_⟩
  obtain ⟨q1, q2, q3⟩ := h4 ad had i x hx
  refine ⟨q1, q2, ?_⟩
  subst had
  rw [hk.cell (block_lt_of_cell q3) (by rw [add_block]; exact hs (by have := (List.getElem?_eq_some_iff.1 hx).1; omega) _ rfl)]
  exact q3
theorem Bs.keptOwn {S : Nat → Prop} {w w' : World} {lo hi : Nat} {v : Value} {l : List UInt8} (h : Bs w lo hi v l) (hk : Kept S w w') (hs : 0 < l.length → ∀ k, v.ownBlock = some k → ¬ S k) : Bs w' lo hi v l := Vs.keptOwn h hk (by rw [List.length_map]; exact hs)
/-- v owns a row of []byte values, in a block from base on; each reads as one of ls, and lies in another block. -/
def Bos (e : TypeId) (w : World) (base : Nat) (v : Value) (ls : List (List UInt8)) : Prop :=
  ∃ xs, w.ownsRow base e 1 v ls.length xs ∧ ∀ (i : Nat) (x : Value) (l : List UInt8), xs[i]? = some x → ls[i]? = some l → Bs w 0 w.heap.size x l ∧ (0 < l.length → ∀ k, x.ownBlock = some k → v.ownBlock ≠ some k)
theorem Bos.nil (e : TypeId) (w : World) (base : Nat) : Bos e w base (.slice none 0 0) [] := ⟨[], World.ownsRow_nil w base e 1, fun i x l h => by simp at h⟩
theorem Bos.form {e : TypeId} {w : World} {base : Nat} {v : Value} {ls : List (List UInt8)} (h : Bos e w base v ls) : ∃ a cap, v = .slice a ls.length cap := by
  obtain ⟨xs, h, _⟩ := h
  rcases h.2 with ⟨rfl, h0⟩ | ⟨g, cap, cur, rfl, _⟩
  · exact ⟨none, 0, by rw [h0]⟩
  · exact ⟨_, _, rfl⟩
theorem Bos.own {e : TypeId} {w : World} {base : Nat} {v : Value} {ls : List (List UInt8)} (h : Bos e w base v ls) : ∀ k, v.ownBlock = some k → base ≤ k ∧ k < w.heap.size := by
  obtain ⟨xs, h, _⟩ := h
  exact World.ownsRow.lt h
theorem Bos.bss {e : TypeId} {w : World} {base : Nat} {v : Value} {ls : List (List UInt8)} (h : Bos e w base v ls) : Bss w base w.heap.size 0 w.heap.size v ls := by
  obtain ⟨xs, h, hi⟩ := h
  have := h.1
  exact ⟨xs, Vs.ofRow h (Nat.le_refl _), by omega, fun i x l a b => (hi i x l a b).1⟩
/-- Where only new memory is made. -/
theorem Bos.kept {e : TypeId} {w w' : World} {base : Nat} {v : Value} {ls : List (List UInt8)} (h : Bos e w base v ls) (hk : Kept None w w') : Bos e w' base v ls := by
  obtain ⟨xs, h, hi⟩ := h
  refine ⟨xs, ⟨h.1, ?_⟩, fun i x l a b => ⟨((hi i x l a b).1.kept hk (fun _ _ _ h => h)).wider (Nat.le_refl _) hk.size, (hi i x l a b).2⟩⟩
  rcases h.2 with h2 | ⟨g, cap, cur, hv, hb, hg, r⟩
  · exact .inl h2
  · refine .inr ⟨g, cap, cur, hv, hb, ?_, r⟩
    rw [hk.block g (lt_of_block hg) (fun h => h)]
    exact hg
/-- Some blocks may have turned, none of these. -/
theorem Bos.keptS {S : Nat → Prop} {e : TypeId} {w w' : World} {base : Nat} {v : Value} {ls : List (List UInt8)} (h : Bos e w base v ls) (hk : Kept S w w') (hv : ∀ k, v.ownBlock = some k → ¬ S k)
    (hx : ∀ (x : Value) (l : List UInt8), l ∈ ls → Bs w 0 w.heap.size x l → 0 < l.length → ∀ k, x.ownBlock = some k → ¬ S k) : Bos e w' base v ls := by
  obtain ⟨xs, h, hi⟩ := h
  refine ⟨xs, ⟨h.1, ?_⟩, fun i x l a b => ⟨((hi i x l a b).1.keptOwn hk (hx x l (List.mem_of_getElem? b) (hi i x l a b).1)).wider (Nat.le_refl _) hk.size, (hi i x l a b).2⟩⟩
  rcases h.2 with h2 | ⟨g, cap, cur, hv', hb, hg, r⟩
  · exact .inl h2
  · refine .inr ⟨g, cap, cur, hv', hb, ?_, r⟩
    rw [hk.block g (lt_of_block hg) (hv g (by rw [hv']; rfl))]
    exact hg
/-- 'append' of one []byte (the row of one cell has just been laid). -/
theorem wpList_append_item {P : Program} {ops : Array Oper} {rest : List Oper} {o : Oper} {a : Act} {w : World} {Q : Exit → Act → World → Prop} (hgd : o.guard = none) (s x : Operand) (t : TypeId)
    (ho : o.op = .call { callee := .builtin .append, args := #[s, x], argTypes := #[t, t] }) {e : TypeId} (hT : RowTy P t e (.slice none 0 0) 24)
    {v : Value} (hs : a.eval s = v) {y : Value} {g : Nat} (hx : a.eval x = .slice (some ⟨g, 0, none⟩) 1 1) (hg : g = w.heap.size) {base : Nat} {ls : List (List UInt8)} {l : List UInt8} (hown : Bos e w base v ls) (hy : Bs w 0 w.heap.size y l) (hne : 0 < l.length → ∀ k, y.ownBlock = some k → v.ownBlock ≠ some k)
    (h63 : (ls.length + 1) * 24 ≤ 140737488355328) (hbase : base ≤ w.heap.size)
    (h : ∀ a' n' cap' w', Bos e w' base (.slice a' n' cap') (ls ++ [l]) → Kept (Of v) w w' → (∀ k, (Value.slice a' n' cap').ownBlock = some k → v.ownBlock = some k ∨ k = w.heap.size + 1) → wpList P ops Q rest (a.put o.dst (.slice a' n' cap')) w') : wpList P ops Q (o :: rest) a (w.alloc (.cells #[y] e)) := by
  subst hg
  refine wpList_plain hgd fun K hK' => ?_
  obtain ⟨xs, hown, hi⟩ := hown
  have hu : Vs (w.alloc (.cells #[y] e)) w.heap.size (w.heap.size + 1) (.slice (some ⟨w.heap.size, 0, none⟩) 1 1) [y] := by
    have := Vs.new w #[y] e 1 (by simp) (by decide)
    simpa using this
  have h1 : ∀ z ∈ [y], z.oneCell' = true := fun z hz => by
    obtain rfl := List.mem_singleton.1 hz
    obtain ⟨a0, c0, rfl, _⟩ := hy.shape
    rfl
  obtain ⟨v', w', hr, r2, r3⟩ := run_append_vs (w := w.alloc (.cells #[y] e)) (ty := o.type) hT (hown.alloc _) hu h1 (by simp; unfold maxLen; omega) (by simpa using h63) (by simp; omega)
  have hblk := append_block hT (hown.alloc (.cells #[y] e)) hu h1 (by simp; unfold maxLen; omega) (by simpa using h63) (by simp; omega) hr
  have hk1 : Kept (Of v) w (w.alloc (.cells #[y] e)) := (Kept.refl _ w).alloc _
  have hk2 : Kept (Of v) w w' := hk1.then (Kept.ofGrown r3) (fun _ _ h => h)
  have hxl := hown.1
  have hb : Bos e w' base v' (ls ++ [l]) := by
    have read : ∀ (x : Value) (m : List UInt8), Bs w 0 w.heap.size x m → (0 < m.length → ∀ k, x.ownBlock = some k → v.ownBlock ≠ some k) → Bs w' 0 w'.heap.size x m ∧ (0 < m.length → ∀ k, x.ownBlock = some k → v'.ownBlock ≠ some k) := fun x m hm hn => by
      refine ⟨(hm.keptOwn hk2 hn).wider (Nat.le_refl _) hk2.size, fun h0 k hk e' => ?_⟩
      rcases hblk with hb | hb
      · rw [hb] at e'; exact hn h0 k hk e'
      · rw [hb] at e'
        simp only [World.size_alloc, Option.some.injEq] at e'
        obtain ⟨a0, c0, rfl, g1, g2, g3⟩ := hm.shape
        cases a0 with
        | none => cases hk
        | some ad =>
          simp only [Value.ownBlock, Option.some.injEq] at hk
          subst hk
          obtain ⟨a1, c1, e1, q1, q2, q3, q4⟩ := hm
          injection e1 with e2 e3 e4
          subst e2
          have := q4 ad rfl 0 _ (List.getElem?_eq_getElem (by simpa using h0))
          omega
    refine ⟨xs ++ [y], by simpa using r2, fun i x m hx hm => ?_⟩
    by_cases hlt : i < xs.length
    · rw [List.getElem?_append_left hlt] at hx
      rw [List.getElem?_append_left (by omega)] at hm
      obtain ⟨p1, p2⟩ := hi i x m hx hm
      exact read x m p1 p2
    · have hlt2 := (List.getElem?_eq_some_iff.1 hx).1
      simp at hlt2
      have e1 : i = xs.length := by omega
      subst e1
      rw [List.getElem?_append_right (Nat.le_refl _)] at hx
      rw [List.getElem?_append_right (by omega)] at hm
      simp at hx
      simp only [show xs.length - ls.length = 0 by omega, List.getElem?_cons_zero, Option.some.injEq] at hm
      subst hx hm
      exact read _ _ hy hne
  obtain ⟨a', cap', rfl⟩ := hb.form
  unfold Oper.wp
  simp only [execOp, ho, resolve, invoke, builtin, Sem.run_bind, Sem.run_pure, Result.andThen_ok, List.map_toArray, List.map_cons, List.map_nil, hs, hx, hr]
  refine hK' _ _ (h _ _ _ _ hb hk2 fun k hk => ?_)
  rcases hblk with h | h
  · left; rw [← h]; exact hk
  · right; rw [h] at hk; simpa using (Option.some.inj hk).symm
end Go.Pm

/- Arrays held against one another. Program-independent. -/
namespace Go.Pm
open Go Go.RowKit

theorem cell_u8v : Extern.Stop.cell = u8v := rfl
section
variable {P : Program} {t e : TypeId} (he : P.underlying e = some (.int .u8)) (hsz : ∀ w, (sizeOf e).run P w = .ok 1 w)
include he hsz
/-- Two arrays of bytes. -/
theorem run_eql_hash {n : Nat} (ht : P.underlying t = some (.array n e)) (xs ys : List UInt8) (hx : xs.length = n) (hy : ys.length = n) (w : World) : (binOp .eql t (.agg (xs.map u8v).toArray) (.agg (ys.map u8v).toArray)).run P w = .ok (.bool (xs == ys)) w :=
  run_eql_bytes w t e n ht he hsz xs ys hx hy
theorem run_neq_hash {n : Nat} (ht : P.underlying t = some (.array n e)) (xs ys : List UInt8) (hx : xs.length = n) (hy : ys.length = n) (w : World) : (binOp .neq t (.agg (xs.map u8v).toArray) (.agg (ys.map u8v).toArray)).run P w = .ok (.bool (!(xs == ys))) w := by
  rw [run_neq_struct]
  have := run_equalIn_bytes (P := P) w 9998 t e n ht he hsz xs ys hx hy
  rw [cell_u8v] at this
  rw [this]
  rfl
end

theorem all_range_int : ∀ (xs ys : List Int), xs.length = ys.length → ((List.range xs.length).all fun i => xs.getD i 0 == ys.getD i 0) = (xs == ys)
  | [], [], _ => rfl
  | x :: xs, y :: ys, h => by
    have ih := all_range_int xs ys (by simpa using h)
    rw [List.length_cons, List.range_succ_eq_map, List.all_cons, List.all_map]
    simp only [List.getD_cons_zero, Function.comp_def, List.getD_cons_succ, ih]
    simp [List.cons_beq_cons]
  | [], _ :: _, h => by simp at h
  | _ :: _, [], h => by simp at h
theorem run_equalIn_ints {P : Program} (w : World) (d : Nat) (t e : TypeId) (kd : IntKind) (n : Nat) (ht : P.underlying t = some (.array n e)) (he : P.underlying e = some (.int kd)) (hsz : ∀ w, (sizeOf e).run P w = .ok 1 w)
    (xs ys : List Int) (hx : xs.length = n) (hy : ys.length = n) :
    (Op.equalIn (d + 2) t (.agg (xs.map (Value.int kd)).toArray) (.agg (ys.map (Value.int kd)).toArray)).run P w = .ok (xs == ys) w := by
  rw [← all_range_int xs ys (hx.trans hy.symm), hx, List.range_eq_range', Op.equalIn]
  simp only [Sem.run_bind, run_underlying ht, Result.andThen_ok, hsz, Std.Legacy.Range.forIn_eq_forIn_range', Std.Legacy.Range.size, Nat.sub_zero, Nat.add_sub_cancel, Nat.div_one]
  have hl : ∀ i ∈ List.range' 0 n 1, i < n := fun i hi => by simpa using (List.mem_range'_1.1 hi).2
  generalize List.range' 0 n 1 = l at hl ⊢
  induction l with
  | nil => simp
  | cons i l ih =>
    have hi : i < n := hl i (by simp)
    have px : (part e (xs.map (Value.int kd)).toArray (i * 1)).run P w = .ok (.int kd (xs.getD i 0)) w := by
      simp [part, isAgg, run_underlying he, List.getD, List.getElem?_eq_getElem (show i < xs.length by omega)]
    have py : (part e (ys.map (Value.int kd)).toArray (i * 1)).run P w = .ok (.int kd (ys.getD i 0)) w := by
      simp [part, isAgg, run_underlying he, List.getD, List.getElem?_eq_getElem (show i < ys.length by omega)]
    have pe := run_equalIn_int (P := P) w d e kd kd (xs.getD i 0) (ys.getD i 0) he
    simp only [List.forIn_cons, Sem.run_bind, px, py, pe, Result.andThen_ok, List.all_cons]
    cases hb : (xs.getD i 0 == ys.getD i 0)
    · simp
    · simp only [Bool.not_true, Bool.false_eq_true, if_false, Sem.run_pure, Result.andThen_ok, Bool.true_and]
      exact ih fun j hj => hl j (by simp [hj])

/-- A state's words. -/
def wordsOf (s : S5) : List Int := [U s.a, U s.b, U s.c, U s.d, U s.e]
theorem wordsOf_beq (s t : S5) : (wordsOf s == wordsOf t) = decide (s = t) := by
  rw [Bool.eq_iff_iff]
  obtain ⟨a, b, c, d, e⟩ := s
  obtain ⟨a', b', c', d', e'⟩ := t
  simp [wordsOf, U_eq]
section
variable {P : Program} {t e : TypeId} (he : P.underlying e = some (.int .u64)) (hsz : ∀ w, (sizeOf e).run P w = .ok 1 w) (ht : P.underlying t = some (.array 5 e))
include he hsz ht
/-- Two states. -/
theorem run_eql_state (s s' : S5) (w : World) : (binOp .eql t (.agg #[.int .u64 (U s.a), .int .u64 (U s.b), .int .u64 (U s.c), .int .u64 (U s.d), .int .u64 (U s.e)]) (.agg #[.int .u64 (U s'.a), .int .u64 (U s'.b), .int .u64 (U s'.c), .int .u64 (U s'.d), .int .u64 (U s'.e)])).run P w = .ok (.bool (decide (s = s'))) w := by
  rw [run_eql_struct, ← wordsOf_beq]
  have := run_equalIn_ints (P := P) w 9998 t e .u64 5 ht he hsz (wordsOf s) (wordsOf s') rfl rfl
  simp only [wordsOf, List.map_cons, List.map_nil] at this
  rw [this]
  rfl
theorem run_neq_state (s s' : S5) (w : World) : (binOp .neq t (.agg #[.int .u64 (U s.a), .int .u64 (U s.b), .int .u64 (U s.c), .int .u64 (U s.d), .int .u64 (U s.e)]) (.agg #[.int .u64 (U s'.a), .int .u64 (U s'.b), .int .u64 (U s'.c), .int .u64 (U s'.d), .int .u64 (U s'.e)])).run P w = .ok (.bool (!decide (s = s'))) w := by
  rw [run_neq_struct, ← wordsOf_beq]
  have := run_equalIn_ints (P := P) w 9998 t e .u64 5 ht he hsz (wordsOf s) (wordsOf s') rfl rfl
  simp only [wordsOf, List.map_cons, List.map_nil] at this
  rw [this]
  rfl
end
end Go.Pm

/- Regions that draw their order and hold calls: what each operation that adds leaves known: a value, bytes, a list of bytes, a constant's row. Program-independent. -/
namespace Go.Pm
open Go Go.RowKit

/-- All that was there reads as it did: only the run-time's marks may have turned. -/
structure Soft (w w' : World) : Prop where
  size : w.heap.size ≤ w'.heap.size
  cells : ∀ k, k < w.heap.size → ∀ cs e fr, w.heap[k]? = some (.cells cs e fr) → ∃ fr', w'.heap[k]? = some (.cells cs e fr')
theorem Kept.soft {w w' : World} (h : Kept None w w') : Soft w w' := ⟨h.size, fun k hk cs e fr hc => ⟨fr, by rw [h.block k hk (fun h => h)]; exact hc⟩⟩
theorem Soft.cell {w w' : World} (h : Soft w w') {a : Addr} {v : Value} (hc : w.cell? a = some v) : w'.cell? a = some v := by
  have hlt := block_lt_of_cell hc
  unfold World.cell? at hc ⊢
  split at hc
  · rename_i c e fr he
    obtain ⟨fr', h'⟩ := h.cells _ hlt _ _ _ he
    rw [h']
    exact hc
  · cases hc
theorem Vs.soft {w w' : World} {lo hi : Nat} {v : Value} {xs : List Value} (h : Vs w lo hi v xs) (hs : Soft w w') : Vs w' lo hi v xs := by
  obtain ⟨a, cap, hv, h1, h2, h3, h4⟩ := h
  exact ⟨a, cap, hv, h1, h2, h3, fun ad had i x hx => ⟨(h4 ad had i x hx).1, (h4 ad had i x hx).2.1, hs.cell (h4 ad had i x hx).2.2⟩⟩
theorem Bs.soft {w w' : World} {lo hi : Nat} {v : Value} {l : List UInt8} (h : Bs w lo hi v l) (hs : Soft w w') : Bs w' lo hi v l := Vs.soft h hs
theorem Bss.soft {w w' : World} {lo hi lo' hi' : Nat} {v : Value} {ls : List (List UInt8)} (h : Bss w lo hi lo' hi' v ls) (hs : Soft w w') : Bss w' lo hi lo' hi' v ls := by
  obtain ⟨xs, hv, hl, hx⟩ := h
  exact ⟨xs, hv.soft hs, hl, fun i x l a b => (hx i x l a b).soft hs⟩

theorem heap_freeze (w : World) (a : Addr) (n k : Nat) : (w.freeze a n).heap[k]? = w.heap[k]? ∨ k = a.block ∧ ∀ cs e fr, w.heap[k]? = some (.cells cs e fr) → ∃ fr', (w.freeze a n).heap[k]? = some (.cells cs e fr') := by
  unfold World.freeze
  split
  · exact .inl rfl
  · by_cases h : a.block = k
    · refine .inr ⟨h.symm, fun cs e fr hc => ?_⟩
      simp only [Array.getElem?_modify, h, if_true, hc, Option.map_some]
      exact ⟨_, rfl⟩
    · left
      simp only [Array.getElem?_modify, h, if_false]
theorem size_freeze (w : World) (a : Addr) (n : Nat) : (w.freeze a n).heap.size = w.heap.size := by
  unfold World.freeze
  split
  · rfl
  · simp
theorem soft_freeze (w : World) (a : Addr) (n : Nat) : Soft w (w.freeze a n) := by
  refine ⟨by rw [size_freeze]; exact Nat.le_refl _, fun k _ cs e fr hc => ?_⟩
  rcases heap_freeze w a n k with h | ⟨_, h⟩
  · exact ⟨fr, by rw [h]; exact hc⟩
  · exact h cs e fr hc
theorem Kept.freeze {S : Nat → Prop} {w0 w : World} (h : Kept S w0 w) (a : Addr) (n : Nat) (ha : w0.heap.size ≤ a.block) : Kept S w0 (w.freeze a n) := by
  refine ⟨?_, ?_, ?_, by rw [size_freeze]; exact h.size, fun k hk hs => ?_⟩
  · rw [show (w.freeze a n).os = w.os by unfold World.freeze; split <;> rfl]; exact h.os
  · rw [show (w.freeze a n).tape = w.tape by unfold World.freeze; split <;> rfl]; exact h.tape
  · rw [show (w.freeze a n).output = w.output by unfold World.freeze; split <;> rfl]; exact h.output
  · rcases heap_freeze w a n k with h' | ⟨e, _⟩
    · rw [h']; exact h.block k hk hs
    · omega

/-- The row of a constant's bytes, in a block from lo on. -/
def Raw (e : TypeId) (w : World) (lo : Nat) (v : Value) (l : List UInt8) : Prop := ∃ b fr, v = .slice (some ⟨b, 0, none⟩) l.length l.length ∧ lo ≤ b ∧ w.heap[b]? = some (.cells (l.map u8v).toArray e fr)
theorem Raw.soft {e : TypeId} {w w' : World} {lo : Nat} {v : Value} {l : List UInt8} (h : Raw e w lo v l) (hs : Soft w w') : Raw e w' lo v l := by
  obtain ⟨b, fr, hv, hb, hc⟩ := h
  obtain ⟨fr', h'⟩ := hs.cells b (lt_of_block hc) _ _ _ hc
  exact ⟨b, fr', hv, hb, h'⟩
theorem Raw.bs {e : TypeId} {w : World} {lo : Nat} {v : Value} {l : List UInt8} (h : Raw e w lo v l) (hl : l.length ≤ maxLen) : Bs w lo w.heap.size v l := by
  obtain ⟨b, fr, hv, hb, hc⟩ := h
  refine ⟨some ⟨b, 0, none⟩, l.length, by rw [hv, List.length_map], by rw [List.length_map]; exact Nat.le_refl _, hl, (fun h => by cases h), fun ad had i x hx => ?_⟩
  simp only [Option.some.injEq] at had
  subst had
  refine ⟨hb, lt_of_block hc, ?_⟩
  rw [Addr.add_lit, Nat.zero_add]
  unfold World.cell?
  simp only [hc]
  simpa using hx
theorem Raw.new (e : TypeId) (w : World) (lo : Nat) (l : List UInt8) (cs : Array Value) (hc : cs = (l.map u8v).toArray) (hb : lo ≤ w.heap.size) : Raw e (w.alloc (.cells cs e)) lo (.slice (some ⟨w.heap.size, 0, none⟩) l.length l.length) l :=
  ⟨w.heap.size, (0, 0), rfl, hb, by rw [heap_alloc_new, hc]⟩
/-- '[]byte("..")', wherever its row lies. -/
theorem run_convert_raw {P : Program} {w : World} {t e : TypeId} {lo : Nat} {v : Value} {l : List UInt8} (h : Raw e w lo v l) (ht : P.underlying t = some (.slice e)) (he : P.underlying e = some (.int .u8)) :
    ∃ a : Addr, lo ≤ a.block ∧ (convert t t v).run P w = .ok v (w.freeze a 1) := by
  obtain ⟨b, fr, rfl, hb, hc⟩ := h
  have hsh : w.shape? b = some (e, (l.map u8v).toArray.size) := by
    unfold World.shape?
    rw [hc]
  refine ⟨⟨b, (l.map u8v).toArray.size, none⟩, hb, ?_⟩
  simp [convert, run_underlying ht, run_underlying he, markStringish, hsh]

/-! ### What is said upfront of an operation -/
/-- It tells v. -/
abbrev Fct.val (k : Nat) (v : Value) (uses : List Nat := []) : Fct := { k := k, uses := uses, pure := fun u => u = v }
/-- It tells the bytes l. -/
abbrev Fct.bytes (k : Nat) (l : List UInt8) (uses : List Nat := []) : Fct := { k := k, uses := uses, pure := fun u => ∃ a c, u = .slice a l.length c, fact := fun u W => ∃ lo hi, Bs W lo hi u l }
/-- It tells lists of bytes. -/
abbrev Fct.lists (k : Nat) (ls : List (List UInt8)) (uses : List Nat := []) : Fct := { k := k, uses := uses, pure := fun u => ∃ a c, u = .slice a ls.length c, fact := fun u W => ∃ lo hi lo' hi', Bss W lo hi lo' hi' u ls }
/-- It lays a constant's row. -/
abbrev Fct.raw (e : TypeId) (k : Nat) (lo : Nat) (l : List UInt8) (uses : List Nat := []) : Fct := { k := k, uses := uses, pure := fun u => ∃ a c, u = .slice a l.length c, fact := fun u W => Raw e W lo u l }
/-- It tells bytes of the call's own. -/
abbrev Fct.own (e : TypeId) (k : Nat) (lo : Nat) (l : List UInt8) (uses : List Nat := []) (spends : List Nat := []) : Fct := { k := k, uses := uses, spends := spends, pure := fun u => ∃ a c, u = .slice a l.length c, fact := fun u W => Bo e W lo u l }

/-- Each may be so; none is undone by what makes new things. -/
def Steady (l : List Fct) : Prop := ∀ f ∈ l, (∃ v, f.pure v) ∧ ∀ u W W', Kept None W W' → f.fact u W → f.fact u W'
/-- Nor by the run-time's marks. -/
def Tame (l : List Fct) : Prop := ∀ f ∈ l, (∃ v, f.pure v) ∧ ∀ u W W', Soft W W' → f.fact u W → f.fact u W'
theorem Tame.steady {l : List Fct} (h : Tame l) : Steady l := fun f hf => ⟨(h f hf).1, fun u _ _ hk => (h f hf).2 u _ _ hk.soft⟩
theorem Steady.pure {l : List Fct} (h : Steady l) : ∀ f ∈ l, ∃ v, f.pure v := fun f hf => (h f hf).1
theorem Steady.nil : Steady [] := fun f hf => by cases hf
theorem Steady.cons {f : Fct} {l : List Fct} (h1 : ∃ v, f.pure v) (h2 : ∀ u W W', Kept None W W' → f.fact u W → f.fact u W') (h : Steady l) : Steady (f :: l) := fun g hg => by
  rcases List.mem_cons.1 hg with rfl | hg
  · exact ⟨h1, h2⟩
  · exact h g hg
theorem Tame.nil : Tame [] := fun f hf => by cases hf
theorem Tame.cons {f : Fct} {l : List Fct} (h1 : ∃ v, f.pure v) (h2 : ∀ u W W', Soft W W' → f.fact u W → f.fact u W') (h : Tame l) : Tame (f :: l) := fun g hg => by
  rcases List.mem_cons.1 hg with rfl | hg
  · exact ⟨h1, h2⟩
  · exact h g hg
section
variable {l : List Fct} {k : Nat} {us : List Nat}
theorem Steady.val {v : Value} (h : Steady l) : Steady (.val k v us :: l) := .cons ⟨v, rfl⟩ (fun _ _ _ _ h => h) h
theorem Steady.bytes {m : List UInt8} (h : Steady l) : Steady (.bytes k m us :: l) := .cons ⟨_, none, 0, rfl⟩ (fun _ _ _ hk ⟨lo, hi, hb⟩ => ⟨lo, hi, hb.kept hk (fun _ _ _ h => h)⟩) h
theorem Steady.lists {ms : List (List UInt8)} (h : Steady l) : Steady (.lists k ms us :: l) := .cons ⟨_, none, 0, rfl⟩ (fun _ _ _ hk ⟨lo, hi, lo', hi', hb⟩ => ⟨lo, hi, lo', hi', hb.kept hk (fun _ _ _ h => h) (fun _ _ _ h => h)⟩) h
theorem Steady.raw {e : TypeId} {lo : Nat} {m : List UInt8} (h : Steady l) : Steady (.raw e k lo m us :: l) := .cons ⟨_, none, 0, rfl⟩ (fun _ _ _ hk hb => Raw.soft hb hk.soft) h
theorem Steady.own {e : TypeId} {lo : Nat} {m : List UInt8} {sp : List Nat} (h : Steady l) : Steady (.own e k lo m us sp :: l) := .cons ⟨_, none, 0, rfl⟩ (fun _ _ _ hk hb => Bo.kept hb hk (fun _ _ h => h)) h
theorem Tame.val {v : Value} (h : Tame l) : Tame (.val k v us :: l) := .cons ⟨v, rfl⟩ (fun _ _ _ _ h => h) h
theorem Tame.bytes {m : List UInt8} (h : Tame l) : Tame (.bytes k m us :: l) := .cons ⟨_, none, 0, rfl⟩ (fun _ _ _ hk ⟨lo, hi, hb⟩ => ⟨lo, hi, hb.soft hk⟩) h
theorem Tame.lists {ms : List (List UInt8)} (h : Tame l) : Tame (.lists k ms us :: l) := .cons ⟨_, none, 0, rfl⟩ (fun _ _ _ hk ⟨lo, hi, lo', hi', hb⟩ => ⟨lo, hi, lo', hi', hb.soft hk⟩) h
theorem Tame.raw {e : TypeId} {lo : Nat} {m : List UInt8} (h : Tame l) : Tame (.raw e k lo m us :: l) := .cons ⟨_, none, 0, rfl⟩ (fun _ _ _ hk hb => Raw.soft hb hk) h
theorem Steady.keeps (h : Steady l) {base : World → Prop} {i : Nat} {W W' : World} (hk : Kept None W W') : (planOf base l).keeps i W W' := keeps_all fun f hf u hu => (h f hf).2 u _ _ hk hu
theorem Tame.keeps (h : Tame l) {base : World → Prop} {i : Nat} {W W' : World} (hk : Soft W W') : (planOf base l).keeps i W W' := keeps_all fun f hf u hu => (h f hf).2 u _ _ hk hu
end

/-- A region, by what is said upfront. -/
theorem wp_region_kn {P : Program} {id : Nat} {Q : Exit → Act → World → Prop} {a : Act} {w : World} {ops : List Oper} (w0 : World) (l : List Fct) (hs : Steady l) (hk : Kept None w0 w) (hm : P.follows .mixedOrders = true) (hB : Region.lexB .any ops.toArray = true) (hok : (planOf (Kept None w0) l).ok .any ops.toArray = true)
    (h : wpPar P (planOf (Kept None w0) l) ops.toArray (fun a' w' => Q .normal a' w') 0 ops a (starts (planOf (Kept None w0) l) [])) : (Code.region id ops.toArray true).wp P Q a w :=
  wp_region_plan (Kept None w0) l [] hm hB hok rfl hs.pure hk.drew (fun j hj => by cases hj) h

section
variable {P : Program} {ops : Array Oper} {w0 : World} {l : List Fct} {Q : Act → World → Prop} {k : Nat} {o : Oper} {rest : List Oper} {a : Act} {G : Nat → World → Prop}
theorem givesUpon_mono {X Y : Value → World → Prop} (h : ∀ v W', X v W' → Y v W') : ∀ {r : Result Next}, givesUpon P X r → givesUpon P Y r
  | .ok (.value _) _, hx => h _ _ hx
  | .ok .skip _, hx => h _ _ hx
  | .ok (.enter _ _) _, hx => Calls.mono hx fun _ _ ⟨v, he, hv⟩ => ⟨v, he, h _ _ hv⟩
  | .halt .., hx => hx.elim
/-- A call (or what else makes new things alone). -/
theorem wpKn_adds (hs : Steady l) (hR : (planOf (Kept None w0) l).adds k = true) (hw : Region.wanted o (yielded ops a.tmps) = true)
    (h1 : ∀ W, Kept None w0 W → (∀ j ∈ (planOf (Kept None w0) l).uses k, G j W) → Gives P o a W (fun v W' => Kept None W W' ∧ (planOf (Kept None w0) l).pure k v ∧ (planOf (Kept None w0) l).fact k v W'))
    (h2 : ∀ v, (planOf (Kept None w0) l).pure k v → wpPar P (planOf (Kept None w0) l) ops Q (k + 1) rest (a.put o.dst v) ((planOf (Kept None w0) l).after G k v)) : wpPar P (planOf (Kept None w0) l) ops Q k (o :: rest) a G :=
  wpPar_adds hR hw (fun W hW hd => by
    have h := h1 W hW hd
    unfold Gives at h ⊢
    exact givesUpon_mono (fun v W' ⟨k1, k2, k3⟩ => ⟨hW.then k1 (fun _ _ h => h), k2, k3, hs.keeps k1⟩) h) h2
/-- What turns a mark of a new thing alone. -/
theorem wpKn_mark (hs : Tame l) (hR : (planOf (Kept None w0) l).adds k = true) (hw : Region.wanted o (yielded ops a.tmps) = true)
    (h1 : ∀ W, Kept None w0 W → (∀ j ∈ (planOf (Kept None w0) l).uses k, G j W) → Gives P o a W (fun v W' => Kept None w0 W' ∧ Soft W W' ∧ (planOf (Kept None w0) l).pure k v ∧ (planOf (Kept None w0) l).fact k v W'))
    (h2 : ∀ v, (planOf (Kept None w0) l).pure k v → wpPar P (planOf (Kept None w0) l) ops Q (k + 1) rest (a.put o.dst v) ((planOf (Kept None w0) l).after G k v)) : wpPar P (planOf (Kept None w0) l) ops Q k (o :: rest) a G :=
  wpPar_adds hR hw (fun W hW hd => by
    have h := h1 W hW hd
    unfold Gives at h ⊢
    exact givesUpon_mono (fun v W' ⟨k0, k1, k2, k3⟩ => ⟨k0, k2, k3, hs.keeps k1⟩) h) h2
end
end Go.Pm

/- A region that draws its order, of which what stands behind operation n waits for all that is ahead: one walk of the head by a plan (XPar), then the rest as it stands. Program-independent. -/
namespace Go.Pm
open Go Go.RowKit
section
variable {P : Program} {ops : Array Oper} {md : Region.Mode} {T : Plan}

/-- Whatever order of the head. -/
def wpAnyPL (P : Program) (md : Region.Mode) (T : Plan) (ops : Array Oper) (n : Nat) (L : Array Bool → Act → (Nat → World → Prop) → Prop) : Nat → Array Bool → Act → (Nat → World → Prop) → Prop
  | 0, listed, a, G => L listed a G
  | fuel + 1, listed, a, G => Region.ready md ops listed ≠ [] ∧ ∀ i ∈ Region.ready md ops listed, i < n ∧ ∀ o, ops[i]? = some o → ParOp P T ops i o a G (wpAnyPL P md T ops n L fuel (listed.setIfInBounds i true))

theorem wpAnyPL_first (hok : T.ok md ops = true) {w0 : World} (hbase : T.base w0) (hpure : ∀ k, T.adds k = true → ∃ v, T.pure k v) {n : Nat} {L : Array Bool → Act → (Nat → World → Prop) → Prop} {i : Nat} {oi : Oper} (hi : ops[i]? = some oi)
    (hsel : ∀ (j : Nat) (o : Oper) cs b, ops[j]? = some o → o.op ≠ .select cs b) (hs : Region.sinkB md ops n = true) (hc : Region.chainB md ops n = true) (hn : n < ops.size) (hin : i < n)
    (hdone : ∀ listed a G, L listed a G → ∀ j ∈ Region.ready md ops listed, n ≤ j) :
    ∀ (fuel : Nat) (listed : Array Bool) (a : Act) (G : Nat → World → Prop), HeadInv md ops n listed →
      (∀ j oj, ops[j]? = some oj → j ≠ i → listed.getD j true = false → (∀ e ∈ oj.after, Region.binds md e = true → e.on ≠ i) → oi.apart ops oj = true) →
      i ∈ Region.ready md ops listed → ParOp P T ops i oi a G (wpAnyPL P md T ops n L fuel (listed.setIfInBounds i true)) →
      wpAnyPL P md T ops n L (fuel + 1) listed a G := by
  intro fuel
  induction fuel with
  | zero =>
    intro listed a G inv hfree hr H
    have hun := (mem_ready.1 hr).1
    refine ⟨fun h => (by rw [h] at hr; cases hr), fun j hj => ?_⟩
    have hjn : j < n := by
      rcases Nat.lt_or_ge j n with h | h
      · exact h
      · exact absurd hj (tail_waits hs hc hn inv _ i rfl hin hun j h)
    refine ⟨hjn, fun oj hoj => ?_⟩
    by_cases hji : j = i
    · subst hji
      rw [hi] at hoj
      cases hoj
      exact H
    · exfalso
      have hno := ready_mono hj hji
      have hge : n ≤ j := by
        by_cases hw : Region.wanted oi (yielded ops a.tmps) = true
        · rw [parOp_iff hbase hw] at H
          cases hRi : T.adds i with
          | false =>
            rw [hRi] at H
            obtain ⟨⟨v, hv⟩, h2⟩ := H
            exact hdone _ _ _ (h2 v hv) j hno
          | true =>
            rw [hRi] at H
            obtain ⟨v, hv⟩ := hpure i hRi
            exact hdone _ _ _ (H.2 v hv) j hno
        · unfold ParOp at H
          rw [if_neg hw] at H
          exact hdone _ _ _ H j hno
      omega
  | succ fuel ih =>
    intro listed a G inv hfree hr H
    have hun := (mem_ready.1 hr).1
    refine ⟨fun h => (by rw [h] at hr; cases hr), fun j hj => ?_⟩
    have hjn : j < n := by
      rcases Nat.lt_or_ge j n with h | h
      · exact h
      · exact absurd hj (tail_waits hs hc hn inv _ i rfl hin hun j h)
    refine ⟨hjn, fun oj hoj => ?_⟩
    have hdown : Down md ops listed := inv.closed
    by_cases hji : j = i
    · subst hji
      rw [hi] at hoj
      cases hoj
      exact H
    · obtain ⟨hjun, oj', hoj', hall⟩ := mem_ready.1 hj
      rw [hoj] at hoj'
      cases hoj'
      obtain ⟨hiun, oi', hoi', halli⟩ := mem_ready.1 hr
      rw [hi] at hoi'
      cases hoi'
      have hltI : i < ops.size := (Array.getElem?_eq_some_iff.1 hi).1
      have hltJ : j < ops.size := (Array.getElem?_eq_some_iff.1 hoj).1
      have nowait : ∀ (x : Nat) (o : Oper), listed.getD x true = false → (∀ e ∈ o.after, Region.binds md e = true → listed.getD e.on false = true) → ∀ e ∈ o.after, Region.binds md e = true → e.on ≠ x := fun x o hx ho e he hb heq => by
        have h1 := ho e he hb
        rw [heq] at h1
        rcases Nat.lt_or_ge x listed.size with h' | h'
        · simp [h'] at hx h1; rw [hx] at h1; cases h1
        · simp [Array.getElem?_eq_none h'] at h1
      have nwj := nowait i oj hiun hall
      have nwi := nowait j oi hjun halli
      have unlisted : ∀ x, listed.getD x true = false → listed.getD x false = false := fun x hx => by
        rcases Nat.lt_or_ge x listed.size with h' | h'
        · simpa [h'] using hx
        · simp [Array.getElem?_eq_none h']
      have wji : waits md ops j i = false := by
        cases hw : waits md ops j i with
        | false => rfl
        | true => have h1 := waitsN_listed hdown 6 j i oj hoj hall hw; rw [unlisted i hiun] at h1; cases h1
      have wij : waits md ops i j = false := by
        cases hw : waits md ops i j with
        | false => rfl
        | true => have h1 := waitsN_listed hdown 6 i j oi hi halli hw; rw [unlisted j hjun] at h1; cases h1
      have hdown' := inv.set hj hjn
      -- neither leans on the other's fact, nor uses up what the other leans on
      have uji : i ∉ T.uses j := fun h => by rcases ok_uses hok hltJ h with h' | h'; omega; rw [wji] at h'; cases h'
      have uij : j ∉ T.uses i := fun h => by rcases ok_uses hok hltI h with h' | h'; omega; rw [wij] at h'; cases h'
      have sji : i ∉ T.spends j := fun h => uji (ok_spends hok hltJ h)
      have sij : j ∉ T.spends i := fun h => uij (ok_spends hok hltI h)
      have sIJ : ∀ k ∈ T.uses i, k ∉ T.spends j := fun k hk hs => ok_apart hok hltI hltJ (Ne.symm hji) wij wji hs hk
      have hap := hfree j oj hoj hji hjun nwj
      obtain ⟨h1, h2, h3⟩ := Oper.apart_spec hap
      have hready' : j ∈ Region.ready md ops (listed.setIfInBounds i true) := ready_mono hj hji
      have eqj : ∀ v, execOp (a.put oi.dst v).eval oj = execOp a.eval oj := fun v => execOp_put oj (fun cs b => hsel j oj cs b hoj) a oi.dst v h1
      have eqi : ∀ u, execOp (a.put oj.dst u).eval oi = execOp a.eval oi := fun u => execOp_put oi (fun cs b => hsel i oi cs b hi) a oj.dst u h3
      have wj : ∀ v, Region.wanted oj (yielded ops (a.put oi.dst v).tmps) = Region.wanted oj (yielded ops a.tmps) := fun v => wanted_put oj a oi.dst v h1
      have wi : ∀ u, Region.wanted oi (yielded ops (a.put oj.dst u).tmps) = Region.wanted oi (yielded ops a.tmps) := fun u => wanted_put oi a oj.dst u h3
      have hlisted : (listed.setIfInBounds i true).setIfInBounds j true = (listed.setIfInBounds j true).setIfInBounds i true := (Array.setIfInBounds_comm _ _ hji).symm
      have hfree' : ∀ k ok, ops[k]? = some ok → k ≠ i → (listed.setIfInBounds j true).getD k true = false →
          (∀ e ∈ ok.after, Region.binds md e = true → e.on ≠ i) → oi.apart ops ok = true := fun k ok hk hki hun hno => by
        refine hfree k ok hk hki ?_ hno
        by_cases hjk : j = k
        · subst hjk; exact hjun
        · rw [getD_set_ne true hjk] at hun; exact hun
      have hri' : i ∈ Region.ready md ops (listed.setIfInBounds j true) := ready_mono hr (Ne.symm hji)
      have askJ : ∀ (v : Value), Asked P T j oj (a.put oi.dst v) (Then T G i v (T.adds i)) (T.adds j) → Asked P T j oj a G (T.adds j) := fun v h => by
        cases hRj : T.adds j with
        | false => rw [hRj] at h; obtain ⟨u, hu⟩ := h; exact ⟨u, fun W hW => by rw [← eqj v]; exact hu W hW⟩
        | true =>
          rw [hRj] at h
          refine fun W hW hd => (h W hW (fun k hk => ?_)).of_eq (eqj v).symm
          cases hRi : T.adds i with
          | false => exact hd k hk
          | true =>
            have hki : k ≠ i := fun e => uji (e ▸ hk)
            simp only [Then]
            by_cases hs : k ∈ T.spends i
            · rw [after_spent hki hs]; trivial
            · rw [after_ne hki hs]; exact hd k hk
      have askJ' : ∀ (v : Value), Asked P T j oj (a.put oi.dst v) G (T.adds j) → Asked P T j oj a G (T.adds j) := fun v h => by
        cases hRj : T.adds j with
        | false => rw [hRj] at h; obtain ⟨u, hu⟩ := h; exact ⟨u, fun W hW => by rw [← eqj v]; exact hu W hW⟩
        | true => rw [hRj] at h; exact fun W hW hd => (h W hW hd).of_eq (eqj v).symm
      have askI : ∀ (u : Value), Asked P T i oi a G (T.adds i) → Asked P T i oi (a.put oj.dst u) (Then T G j u (T.adds j)) (T.adds i) := fun u h => by
        cases hRi : T.adds i with
        | false => rw [hRi] at h; obtain ⟨v, hv⟩ := h; exact ⟨v, fun W hW => by rw [eqi u]; exact hv W hW⟩
        | true =>
          rw [hRi] at h
          refine fun W hW hd => (h W hW (fun k hk => ?_)).of_eq (eqi u)
          have := hd k hk
          cases hRj : T.adds j with
          | false => rw [hRj] at this; exact this
          | true =>
            rw [hRj] at this
            simp only [Then] at this
            rwa [after_ne (fun e : k = j => uij (e ▸ hk)) (sIJ k hk)] at this
      have askI' : ∀ (u : Value), Asked P T i oi a G (T.adds i) → Asked P T i oi (a.put oj.dst u) G (T.adds i) := fun u h => by
        cases hRi : T.adds i with
        | false => rw [hRi] at h; obtain ⟨v, hv⟩ := h; exact ⟨v, fun W hW => by rw [eqi u]; exact hv W hW⟩
        | true => rw [hRi] at h; exact fun W hW hd => (h W hW hd).of_eq (eqi u)
      have mayI : ∀ (u v : Value), May P T i oi (a.put oj.dst u) v (T.adds i) → May P T i oi a v (T.adds i) := fun u v h => by
        cases hRi : T.adds i with
        | false => rw [hRi] at h; exact fun W hW => by rw [← eqi u]; exact h W hW
        | true => rw [hRi] at h; exact h
      have mayJ : ∀ (v u : Value), May P T j oj a u (T.adds j) → May P T j oj (a.put oi.dst v) u (T.adds j) := fun v u h => by
        cases hRj : T.adds j with
        | false => rw [hRj] at h; exact fun W hW => by rw [eqj v]; exact h W hW
        | true => rw [hRj] at h; exact h
      have eG : ∀ u v, Then T (Then T G j u (T.adds j)) i v (T.adds i) = Then T (Then T G i v (T.adds i)) j u (T.adds j) := fun u v => by
        cases T.adds i <;> cases T.adds j <;> simp only [Then]
        funext k
        unfold Plan.after
        by_cases e1 : k = i
        · subst e1; rw [if_pos rfl, if_neg (Ne.symm hji), if_neg sji, if_pos rfl]
        · by_cases e2 : k = j
          · subst e2; rw [if_neg e1, if_neg sij, if_pos rfl, if_pos rfl]
          · rw [if_neg e1, if_neg e2, if_neg e2, if_neg e1]
            split <;> split <;> rfl
      by_cases hwj : Region.wanted oj (yielded ops a.tmps) = true
      · rw [parOp_iff hbase hwj]
        by_cases hwi : Region.wanted oi (yielded ops a.tmps) = true
        · rw [parOp_iff hbase hwi] at H
          obtain ⟨HA, HB⟩ := H
          obtain ⟨vs, hvs⟩ : ∃ v, May P T i oi a v (T.adds i) := by
            cases hRi : T.adds i with
            | false => rw [hRi] at HA; exact HA
            | true => exact hpure i hRi
          have hjv := ((HB vs hvs).2 j hready').2 oj hoj
          rw [parOp_iff hbase (by rw [wj]; exact hwj)] at hjv
          refine ⟨askJ vs hjv.1, fun u hu => ?_⟩
          refine ih (listed.setIfInBounds j true) (a.put oj.dst u) (Then T G j u (T.adds j)) hdown' hfree' hri' ?_
          rw [parOp_iff hbase (by rw [wi]; exact hwi)]
          refine ⟨askI u HA, fun v hv => ?_⟩
          have hk := ((HB v (mayI u v hv)).2 j hready').2 oj hoj
          rw [parOp_iff hbase (by rw [wj]; exact hwj)] at hk
          have hfin := hk.2 u (mayJ v u hu)
          rw [← hlisted, ← Act.put_comm a v u h2, eG]
          exact hfin
        · unfold ParOp at H
          rw [if_neg hwi] at H
          have hjv := (H.2 j hready').2 oj hoj
          rw [parOp_iff hbase (by rw [wj]; exact hwj)] at hjv
          refine ⟨askJ' undef hjv.1, fun u hu => ?_⟩
          refine ih (listed.setIfInBounds j true) (a.put oj.dst u) (Then T G j u (T.adds j)) hdown' hfree' hri' ?_
          unfold ParOp
          rw [if_neg (by rw [wi]; exact hwi)]
          have hfin := hjv.2 u (mayJ undef u hu)
          rw [← hlisted, ← Act.put_comm a undef u h2]
          exact hfin
      · unfold ParOp
        rw [if_neg hwj]
        refine ih (listed.setIfInBounds j true) (a.put oj.dst undef) G hdown' hfree' hri' ?_
        by_cases hwi : Region.wanted oi (yielded ops a.tmps) = true
        · rw [parOp_iff hbase hwi] at H
          rw [parOp_iff hbase (by rw [wi]; exact hwi)]
          refine ⟨askI' undef H.1, fun v hv => ?_⟩
          have hk := ((H.2 v (mayI undef v hv)).2 j hready').2 oj hoj
          unfold ParOp at hk
          rw [if_neg (by rw [wj]; exact hwj)] at hk
          rw [← hlisted, ← Act.put_comm a v undef h2]
          exact hk
        · unfold ParOp at H ⊢
          rw [if_neg hwi] at H
          rw [if_neg (by rw [wi]; exact hwi)]
          have hk := (H.2 j hready').2 oj hoj
          unfold ParOp at hk
          rw [if_neg (by rw [wj]; exact hwj)] at hk
          rw [← hlisted, ← Act.put_comm a undef undef h2]
          exact hk


theorem wpAnyPL_lex (hok : T.ok md ops = true) {w0 : World} (hbase : T.base w0) (hpure : ∀ k, T.adds k = true → ∃ v, T.pure k v) {n g : Nat} {Lq : Act → World → Prop} (hsel : Region.noSelect ops = true) (hs : Region.sinkB md ops n = true) (hc : Region.chainB md ops n = true) (hn : n < ops.size) :
    ∀ (l : List Oper) (k : Nat) (listed : Array Bool) (a : Act) (G : Nat → World → Prop), (∀ j, j < l.length → l[j]? = ops[k + j]?) → k + l.length = n → HeadInv md ops n listed →
    Region.lexHead md ops g l.length k listed = true → wpPar P T ops Lq k l a G →
    wpAnyPL P md T ops n (fun listed' a' G' => Region.seqB md ops g n listed' = true ∧ ∀ W, T.base W → (∀ i, G' i W) → Lq a' W) l.length listed a G
  | [], k, listed, a, G, _, hk, _, hB, h => by
    have : k = n := by simpa using hk
    subst this
    exact ⟨by simpa [Region.lexHead] using hB, h⟩
  | o :: l, k, listed, a, G, hl, hk, inv, hB, h => by
    have h0 : ops[k]? = some o := by simpa using (hl 0 (by simp)).symm
    simp only [List.length_cons, Region.lexHead, Bool.and_eq_true] at hB
    obtain ⟨⟨hr, hf⟩, hB'⟩ := hB
    have hkn : k < n := by simp only [List.length_cons] at hk; omega
    have hr' : k ∈ Region.ready md ops listed := by simpa using hr
    have next : ∀ (a' : Act) (G' : Nat → World → Prop), wpPar P T ops Lq (k + 1) l a' G' → wpAnyPL P md T ops n (fun listed' a' G' => Region.seqB md ops g n listed' = true ∧ ∀ W, T.base W → (∀ i, G' i W) → Lq a' W) l.length (listed.setIfInBounds k true) a' G' := fun a' G' h' =>
      wpAnyPL_lex hok hbase hpure hsel hs hc hn l (k + 1) _ a' G' (fun j hj => by have := hl (j + 1) (by simp; omega); simpa [Nat.add_assoc, Nat.add_comm 1 j] using this) (by simp only [List.length_cons] at hk; omega) (inv.set hr' hkn) hB' h'
    refine wpAnyPL_first hok hbase hpure h0 (Region.noSelect_spec hsel) hs hc hn hkn (fun listed' a' G' hL => seqB_ready hL.1) l.length listed a G inv (Region.free_spec h0 hf) hr' ?_
    have hP : ParOp P T ops k o a G (wpPar P T ops Lq (k + 1) l) := h
    unfold ParOp at hP ⊢
    split
    · rename_i hw
      rw [if_pos hw] at hP
      split
      · rename_i hR
        rw [if_pos hR] at hP
        exact ⟨hP.1, fun v hv => next _ _ (hP.2 v hv)⟩
      · rename_i hR
        rw [if_neg hR] at hP
        obtain ⟨v, h1, h2⟩ := hP
        exact ⟨v, h1, next _ _ h2⟩
    · rename_i hw
      rw [if_neg hw] at hP
      exact next _ _ hP

theorem wpAny_of_parL (hok : T.ok md ops = true) {n g : Nat} {L : Array Bool → Act → (Nat → World → Prop) → Prop} {Q' : Exit → Act → World → Prop} (hL : ∀ listed a G w, L listed a G → T.base w → (∀ i, G i w) → wpAny P md ops Q' g listed a w) : ∀ (fuel : Nat) (listed : Array Bool) (a : Act) (G : Nat → World → Prop) (w : World), T.known G → Down md ops listed → (listed.size = ops.size ∧ ∀ k, k < ops.size → listed.getD k false = false → ∀ W, G k W) → T.base w → (∀ i, G i w) →
    wpAnyPL P md T ops n L fuel listed a G → wpAny P md ops Q' (fuel + g) listed a w
  | 0, _, _, _, _, _, _, _, hb, hw, h => by rw [Nat.zero_add]; exact hL _ _ _ _ h hb hw
  | fuel + 1, listed, a, G, w, hG, hD, ⟨hS, hN⟩, hb, hw, h => by
    rw [show fuel + 1 + g = (fuel + g) + 1 by omega]
    refine ⟨fun h0 => absurd h0 h.1, fun i hi => ?_⟩
    obtain ⟨hiun, o, ho, halli⟩ := mem_ready.1 hi
    have hP := (h.2 i hi).2 o ho
    have hltI : i < ops.size := (Array.getElem?_eq_some_iff.1 ho).1
    have hD' := hD.set ho halli
    have hN' : ∀ G' : Nat → World → Prop, (∀ k, k ≠ i → G' k = G k ∨ ∀ W, G' k W) → (listed.setIfInBounds i true).size = ops.size ∧ ∀ k, k < ops.size → (listed.setIfInBounds i true).getD k false = false → ∀ W, G' k W := fun G' hg => ⟨by simpa using hS, fun k hk hl W => by
      have hki : k ≠ i := fun e => by subst e; simp [hS, hk] at hl
      rw [getD_set_ne false (Ne.symm hki)] at hl
      rcases hg k hki with e | e
      · rw [e]; exact hN k hk hl W
      · exact e W⟩
    have hlater : ∀ k ∈ T.later i, ∀ W, G k W := fun k hk => by
      obtain ⟨hkl, hkw⟩ := ok_later hok hltI hk
      refine hN k hkl ?_
      cases hl : listed.getD k false with
      | false => rfl
      | true =>
        obtain ⟨ok, hok'⟩ : ∃ ok, ops[k]? = some ok := ⟨ops[k], Array.getElem?_eq_getElem hkl⟩
        have h1 := waitsN_listed hD 6 k i ok hok' (hD k ok hok' hl) hkw
        have h2 : listed.getD i false = false := by
          have := hS ▸ hltI
          simpa [this] using hiun
        rw [h2] at h1
        cases h1
    unfold ParOp at hP
    unfold wpOp
    simp only [ho]
    split
    · rename_i hwt
      rw [if_pos hwt] at hP
      refine .inl ?_
      by_cases hR : T.adds i = true
      · rw [if_pos hR] at hP
        refine (hP.1 w hb (fun j _ => hw j)).wp fun v W' ⟨hb', hp, hf, hk⟩ => ?_
        refine wpAny_of_parL hok hL fuel _ _ (T.after G i v) W' (fun k => ?_) hD' (hN' _ fun k hk => ?_) hb' (fun k => ?_) (hP.2 v hp)
        · by_cases e : k = i
          · subst e; exact .inr ⟨v, after_same G k v⟩
          · by_cases hs : k ∈ T.spends i
            · rw [after_spent e hs]; exact .inl fun _ => trivial
            · rw [after_ne e hs]; exact hG k
        · by_cases hs : k ∈ T.spends i
          · right; rw [after_spent hk hs]; exact fun _ => trivial
          · left; exact after_ne hk hs v
        · by_cases e : k = i
          · subst e; rw [after_same]; exact hf
          · by_cases hs : k ∈ T.spends i
            · rw [after_spent e hs]; trivial
            · rw [after_ne e hs]
              rcases hG k with h' | ⟨u, hu⟩
              · exact h' _
              · have := hw k
                by_cases hl : k ∈ T.later i
                · exact hlater k hl _
                · rw [hu] at this ⊢
                  exact hk k hs hl e u this
      · rw [if_neg hR] at hP
        obtain ⟨v, h1, h2⟩ := hP
        unfold Oper.wp
        rw [h1 w hb]
        exact wpAny_of_parL hok hL fuel _ _ G w hG hD' (hN' G fun _ _ => .inl rfl) hb hw h2
    · rename_i hwt
      rw [if_neg hwt] at hP
      exact wpAny_of_parL hok hL fuel _ _ G w hG hD' (hN' G fun _ _ => .inl rfl) hb hw hP


/-- ONE WALK OF THE HEAD SERVES EVERY ORDER of it; what stands behind it waits for all of it. -/
theorem wp_region_plan_tail {id : Nat} {Q : Exit → Act → World → Prop} {a : Act} {w : World} {l : List Oper} (n : Nat) (base : World → Prop) (F : List Fct) (inits : List Nat) (hm : P.follows .mixedOrders = true) (hB : Region.lexTailB .any l.toArray n = true) (hok : (planOf base F).ok .any l.toArray = true)
    (hin : inits.all (fun k => decide (l.length ≤ k)) = true) (hpure : ∀ f ∈ F, ∃ v, f.pure v) (hbase : base w.drew) (hw : ∀ k ∈ inits, (planOf base F).fact k undef w.drew)
    (h : wpPar P (planOf base F) l.toArray (fun a' w' => wpList P l.toArray Q (l.drop n) a' w') 0 (l.take n) a (starts (planOf base F) inits)) : (Code.region id l.toArray true).wp P Q a w := by
  simp only [Region.lexTailB, Bool.and_eq_true, decide_eq_true_eq] at hB
  obtain ⟨⟨⟨⟨hsel, hn⟩, hs⟩, hc⟩, hlex⟩ := hB
  have htl : (l.take n).length = n := by simp at hn; simp; omega
  have hdl : (l.drop n).length = l.toArray.size - n := by simp
  have inv0 : HeadInv .any l.toArray n (Array.replicate l.toArray.size false) :=
    ⟨by simp, fun j oj _ hl => (by rw [getD_replicate_false] at hl; cases hl), fun t _ ht => getD_in (by simpa using ht) (getD_replicate_false _ _)⟩
  have hp : ∀ k, (planOf base F).adds k = true → ∃ v, (planOf base F).pure k v := fun k _ => by
    simp only [planOf]
    cases hfind : F.find? (fun f => f.k == k) with
    | none => exact ⟨undef, trivial⟩
    | some f => exact hpure f (List.mem_of_find?_eq_some hfind)
  have H := wpAnyPL_lex (P := P) (md := .any) (g := l.toArray.size - n) hok hbase hp hsel hs hc hn (l.take n) 0 _ a _ (fun j hj => by
    have hj' : j < n := by rw [htl] at hj; exact hj
    simp [hj']) (by simpa using htl) inv0 (by rw [htl]; exact hlex) h
  refine wp_region_any hm ?_
  have := wpAny_of_parL (P := P) (Q' := Q) (g := l.toArray.size - n) hok (fun listed a' G' w' hL hb hG => by
    have := wpAny_of_seq (md := .any) (Q' := Q) (l.drop n) n listed a' w' (fun j => by simp [List.getElem?_drop]) (by rw [hdl]; exact hL.1) (hL.2 w' hb hG)
    rwa [hdl] at this) _ _ _ _ w.drew (starts_known _ inits) inv0.closed ⟨by simp, fun k hk _ => ?_⟩ hbase (fun k => ?_) H
  · rw [htl, show n + (l.toArray.size - n) = l.toArray.size by omega] at this
    exact this
  · intro W
    unfold starts
    rw [if_neg]
    · trivial
    · intro hmm
      have := List.all_eq_true.1 hin k hmm
      simp only [decide_eq_true_eq] at this
      simp at hk
      omega
  · unfold starts
    split
    · rename_i hk; exact hw k hk
    · trivial
end
end Go.Pm

/- Signatures (chapter 4) as plain mathematics: program-independent. Who signs is believed. -/
namespace Go.Pm

/-- Another multiple of the order in the power of what is not 0. -/
theorem powm_order (x n : Nat) (hx : x % prime61 ≠ 0) : powm prime61 x (n % order61) = powm prime61 x n := by
  conv => rhs; rw [← Nat.div_add_mod n order61, powm_add, ← powm_pow, fermat61 x hx, powm_one']
  have := powm_lt prime61 x (n % order61) (by decide)
  rw [Nat.mod_eq_of_lt (show 1 < prime61 by decide), Nat.one_mul, Nat.mod_eq_of_lt this]
theorem powm_ne (x n : Nat) (hx : x % prime61 ≠ 0) : powm prime61 x n % prime61 ≠ 0 := by
  rw [← one_iff, powm_pow, Nat.mul_comm, ← powm_pow, fermat61 x hx, powm_one']
  decide

/-- The number of a hash. -/
def numB (h : List UInt8) : Nat := (leV h).toNat % order61
theorem numB_lt (h : List UInt8) : numB h < order61 := Nat.mod_lt _ (by decide)
theorem leV_nat (h : List UInt8) : (((leV h).toNat : Nat) : Int) = leV h := Int.toNat_of_nonneg (leV_ge h)
/-- Public. -/
def pubN (x : Nat) : Nat := powm prime61 7 (x % order61)
theorem seven : 7 % prime61 ≠ 0 := by decide
theorem pubN_lt (x : Nat) : pubN x < prime61 := powm_lt _ _ _ (by decide)
theorem pow7_pos (n : Nat) : 1 ≤ powm prime61 7 n := by
  have h := powm_ne 7 n seven
  have := powm_lt prime61 7 n (by decide)
  rw [Nat.mod_eq_of_lt this] at h
  omega
theorem pubN_pos (x : Nat) : 1 ≤ pubN x := pow7_pos _
theorem pubN_mod (x : Nat) : pubN (x % order61) = pubN x := by unfold pubN; rw [Nat.mod_mod]
theorem pubN_more (x : Nat) : pubN (x + order61) = pubN x := by unfold pubN; rw [Nat.add_mod_right]
theorem pubN_add (x y : Nat) : pubN ((x + y) % order61) = pubN x * pubN y % prime61 := by
  rw [pubN_mod]
  unfold pubN
  rw [powm_order _ _ seven, powm_order _ _ seven, powm_order _ _ seven, powm_add]

/-- k. -/
def keyN (x : Nat) (m : List UInt8) : Nat := numB (sumB (textB 107 [leB x, m]))
/-- e. -/
def chN (r y : Nat) (m : List UInt8) : Nat := numB (sumB (textB 101 [leB r, leB y, m]))
theorem keyN_lt (x : Nat) (m : List UInt8) : keyN x m < order61 := numB_lt _
theorem chN_lt (r y : Nat) (m : List UInt8) : chN r y m < order61 := numB_lt _
/-- A signature's R. -/
def sigR (x : Nat) (m : List UInt8) : Nat := powm prime61 7 (keyN (x % order61) m)
/-- A signature's S. -/
def sigS (x : Nat) (m : List UInt8) : Nat := (keyN (x % order61) m + (x % order61) * chN (sigR x m) (pubN x) m % order61) % order61
theorem sigR_lt (x : Nat) (m : List UInt8) : sigR x m < prime61 := powm_lt _ _ _ (by decide)
theorem sigR_pos (x : Nat) (m : List UInt8) : 1 ≤ sigR x m := pow7_pos _
theorem sigS_lt (x : Nat) (m : List UInt8) : sigS x m < order61 := Nat.mod_lt _ (by decide)
theorem sigR_mod (x : Nat) (m : List UInt8) : sigR (x % order61) m = sigR x m := by unfold sigR; rw [Nat.mod_mod]
theorem sigS_mod (x : Nat) (m : List UInt8) : sigS (x % order61) m = sigS x m := by unfold sigS; rw [Nat.mod_mod, sigR_mod, pubN_mod]
theorem sigR_more (x : Nat) (m : List UInt8) : sigR (x + order61) m = sigR x m := by unfold sigR; rw [Nat.add_mod_right]
theorem sigS_more (x : Nat) (m : List UInt8) : sigS (x + order61) m = sigS x m := by unfold sigS; rw [Nat.add_mod_right, sigR_more, pubN_more]

/-- What is within the bounds. -/
def fitsN (n : Nat) : Bool := decide (1 ≤ n) && decide (n < prime61)
/-- The equation. -/
def holdsN (y : Nat) (m : List UInt8) (r s : Nat) : Bool := powm prime61 7 s == r * powm prime61 y (chN r y m) % prime61
/-- Check. -/
def checkN (y : Nat) (m : List UInt8) (r s : Nat) : Bool := (fitsN y && fitsN r && decide (s < order61)) && holdsN y m r s

/-- Who signs is believed. -/
theorem check_sign (x : Nat) (m : List UInt8) : checkN (pubN x) m (sigR x m) (sigS x m) = true := by
  have h : holdsN (pubN x) m (sigR x m) (sigS x m) = true := by
    unfold holdsN sigS
    generalize he : chN (sigR x m) (pubN x) m = e
    unfold sigR pubN
    generalize keyN (x % order61) m = k
    rw [powm_order _ _ seven, powm_add, powm_order _ _ seven, powm_pow]
    exact beq_self_eq_true _
  unfold checkN fitsN
  simp [h, pubN_pos, pubN_lt, sigR_pos, sigR_lt, sigS_lt]
theorem check_y {y : Nat} (m : List UInt8) (r s : Nat) (h : fitsN y = false) : checkN y m r s = false := by unfold checkN; rw [h]; rfl
theorem check_r (y : Nat) (m : List UInt8) {r : Nat} (s : Nat) (h : fitsN r = false) : checkN y m r s = false := by unfold checkN; rw [h]; simp
theorem check_s (y : Nat) (m : List UInt8) (r : Nat) {s : Nat} (h : order61 ≤ s) : checkN y m r s = false := by unfold checkN; simp; intro _ _ h2; omega
theorem fits_none : fitsN 0 = false := by decide
theorem fits_great {n : Nat} (h : prime61 ≤ n) : fitsN n = false := by unfold fitsN; simp; omega

/-! ### What is known: the key 9, 'm' and 'n' -/
/-- powm, reckoned. -/
theorem powm_sq (m a n : Nat) (h : n < 2 ^ 61) : powm m a n = powSq m 61 a n 1 % m := by rw [powm_is, powSq_is m 61 a n 1 h, Nat.one_mul]
theorem pub9 : pubN 9 = 40353607 := by unfold pubN; rw [powm_sq _ _ _ (by decide)]; decide +kernel
theorem pub0 : pubN 0 = 1 := by unfold pubN; rw [powm_sq _ _ _ (by decide)]; decide +kernel
theorem pub1 : pubN 1 = 7 := by unfold pubN; rw [powm_sq _ _ _ (by decide)]; decide +kernel
theorem key9 : keyN 9 [109] = 1255322646153914929 := by decide +kernel
theorem sigR9 : sigR 9 [109] = 1300817579545318276 := by
  unfold sigR
  rw [show 9 % order61 = 9 by decide, key9, powm_sq _ _ _ (by decide)]
  decide +kernel
theorem ch9 : chN 1300817579545318276 40353607 [109] = 626251909614015781 := by decide +kernel
theorem ch9n : chN 1300817579545318276 40353607 [110] = 1376759600133736344 := by decide +kernel
theorem sigS_of {x x' k R y e : Nat} {m : List UInt8} (hx : x % order61 = x') (hk : keyN x' m = k) (hR : sigR x m = R) (hy : pubN x = y) (he : chN R y m = e) : sigS x m = (k + x' * e % order61) % order61 := by
  unfold sigS
  rw [hx, hk, hR, hy, he]
theorem sigS9 : sigS 9 [109] = 2279903814252669058 := (sigS_of (by decide) key9 sigR9 pub9 ch9).trans (by decide +kernel)
/-- Another message isn't believed. -/
theorem check9n : checkN (pubN 9) [110] (sigR 9 [109]) (sigS 9 [109]) = false := by
  rw [sigR9, sigS9, pub9]
  have h : holdsN 40353607 [110] 1300817579545318276 2279903814252669058 = false := by
    unfold holdsN
    rw [ch9n, powm_sq _ _ _ (by decide), powm_sq _ _ _ (by decide)]
    decide +kernel
  unfold checkN
  rw [h, Bool.and_false]
end Go.Pm

/- Requests (chapter 5) as plain functions: program-independent. -/
namespace Go.Pm
open Go Go.RowKit

/-- An int as a uint64. -/
abbrev U6 (v : Int) : Int := v % 18446744073709551616
theorem U6_ge (v : Int) : 0 ≤ U6 v := by unfold U6; omega
theorem U6_lt (v : Int) : U6 v < 18446744073709551616 := by unfold U6; omega
/-- A string's bytes. -/
def strB (n : ByteArray) : List UInt8 := n.data.toList
theorem strB_len (n : ByteArray) : (strB n).length = n.size := by simp [strB]
theorem strB_back (n : ByteArray) : (⟨(strB n).toArray⟩ : ByteArray) = n := by simp [strB]
theorem strB_of (l : List UInt8) : strB ⟨l.toArray⟩ = l := by simp [strB]
theorem size_of (l : List UInt8) : (⟨l.toArray⟩ : ByteArray).size = l.length := by simp [ByteArray.size]

abbrev entV (n : ByteArray) (v : Int) (k : Nat) : Value := .agg #[.string n, .int .i64 v, .int .u64 k]
abbrev updV (n : ByteArray) (v : Int) (k : Nat) (c : Int) (r s : Nat) : Value := .agg #[.string n, .int .i64 v, .int .u64 k, .int .i64 c, .int .u64 r, .int .u64 s]

/-- EntryRight: of a name's length, a version, a key. -/
def entR (m : Nat) (v : Int) (k : Nat) : Bool := decide (1 ≤ m) && decide (m ≤ 32) && decide (1 ≤ v) && decide (v ≤ 1073741824) && decide (1 ≤ k) && decide (k < prime61)
/-- Right. -/
def rightB (m : Nat) (v : Int) (k : Nat) (c : Int) : Bool := entR m v k && (decide (c = 0) || decide (c = 1))
theorem rightB_iff (m : Nat) (v : Int) (k : Nat) (c : Int) : rightB m v k c = true ↔ (1 ≤ m ∧ m ≤ 32 ∧ 1 ≤ v ∧ v ≤ 1073741824 ∧ 1 ≤ k ∧ k < prime61) ∧ (c = 0 ∨ c = 1) := by
  unfold rightB entR
  simp only [Bool.and_eq_true, Bool.or_eq_true, decide_eq_true_eq, and_assoc]
theorem rightB_no {m : Nat} {v : Int} {k : Nat} {c : Int} (h : ¬ ((1 ≤ m ∧ m ≤ 32 ∧ 1 ≤ v ∧ v ≤ 1073741824 ∧ 1 ≤ k ∧ k < prime61) ∧ (c = 0 ∨ c = 1))) : rightB m v k c = false := by
  cases hb : rightB m v k c with
  | false => rfl
  | true => exact absurd ((rightB_iff m v k c).1 hb) h

theorem lumpB_len (l : List UInt8) : (lumpB l).length = 8 + l.length := by simp [lumpB, leB_length]
def fieldsB (n : ByteArray) (v : Int) (k : Nat) : List UInt8 := lumpB (strB n) ++ leB (U6 v) ++ leB k
theorem fieldsB_len (n : ByteArray) (v : Int) (k : Nat) : (fieldsB n v k).length = 24 + n.size := by simp [fieldsB, lumpB_len, leB_length, strB_len]; omega
/-- Message. -/
def msgB (n : ByteArray) (v : Int) (k : Nat) : List UInt8 := 85 :: fieldsB n v k
theorem msgB_len (n : ByteArray) (v : Int) (k : Nat) : (msgB n v k).length = 25 + n.size := by simp [msgB, fieldsB_len]; omega
/-- Put, of what may be. -/
def putB (n : ByteArray) (v : Int) (k : Nat) (c : Int) (r s : Nat) : List UInt8 := fieldsB n v k ++ leB (U6 c) ++ (leB r ++ leB s)
theorem putB_len (n : ByteArray) (v : Int) (k : Nat) (c : Int) (r s : Nat) : (putB n v k c r s).length = 48 + n.size := by simp [putB, fieldsB_len, leB_length]; omega
/-- Put's bytes and its error. -/
def putE (m : Nat) (v : Int) (k : Nat) (c : Int) : Int := if rightB m v k c then 0 else 23
def putL (n : ByteArray) (v : Int) (k : Nat) (c : Int) (r s : Nat) : List UInt8 := if rightB n.size v k c then putB n v k c r s else []

/-! ### Read -/
/-- A request, read. -/
structure Req where
  n : ByteArray
  v : Int
  k : Nat
  c : Int
  r : Nat
  s : Nat
def Req.none : Req := ⟨⟨#[]⟩, 0, 0, 0, 0, 0⟩
abbrev Req.V (q : Req) : Value := updV q.n q.v q.k q.c q.r q.s
def Req.right (q : Req) : Bool := rightB q.n.size q.v q.k q.c
/-- A number that the Reader has, as a natural number. -/
def St.nat (s : St) : Nat := s.num.toNat
theorem St.nat_eq (s : St) : ((s.nat : Nat) : Int) = s.num := Int.toNat_of_nonneg (St.num_ge s)
theorem St.nat_lt (s : St) : s.nat < 18446744073709551616 := by have := s.num_lt; have := s.nat_eq; omega
/-- update.whole. -/
def wholeI (n : Int) : Int := min n 9223372036854775807
/-- The reference's Int. -/
def intI (n : Int) : Int := if 9223372036854775807 < n then -1 else n
/-- The states behind each part. -/
def rd1 (l : List UInt8) : St := St.lumpS ⟨l, 0⟩ 32
def rdN (l : List UInt8) : List UInt8 := St.lump ⟨l, 0⟩ 32
def rd2 (l : List UInt8) : St := (rd1 l).numS
def rd3 (l : List UInt8) : St := (rd2 l).numS
def rd4 (l : List UInt8) : St := (rd3 l).numS
def rd5 (l : List UInt8) : St := (rd4 l).numS
def rd6 (l : List UInt8) : St := (rd5 l).numS
/-- All fields, by how a number becomes an int. -/
def reqOf (f : Int → Int) (l : List UInt8) : Req := ⟨⟨(rdN l).toArray⟩, f (rd1 l).num, (rd2 l).nat, f (rd3 l).num, (rd4 l).nat, (rd5 l).nat⟩
/-- Read's error and request. -/
def readE (l : List UInt8) : Int := if 512 < l.length then 22 else if (rd6 l).e ≠ 0 then (rd6 l).e else if 0 < (rd6 l).l.length then 20 else if (reqOf wholeI l).right then 0 else 23
def readQ (l : List UInt8) : Req := if readE l = 0 then reqOf wholeI l else Req.none

theorem rightB_cut {f : Int → Int} (hf : ∀ n, 0 ≤ n → n ≤ 1073741824 → f n = n) (hg : ∀ n, 1073741824 < n → n < 18446744073709551616 → 1073741824 < f n ∨ f n < 0) (m : Nat) (a : Int) (k : Nat) (c : Int) (a0 : 0 ≤ a) (a1 : a < 18446744073709551616) (c0 : 0 ≤ c) (c1 : c < 18446744073709551616) :
    rightB m (f a) k (f c) = rightB m a k c := by
  rw [Bool.eq_iff_iff, rightB_iff, rightB_iff]
  have ha : f a = a ∨ 1073741824 < a ∧ (1073741824 < f a ∨ f a < 0) := by
    by_cases h : a ≤ 1073741824
    · exact .inl (hf a a0 h)
    · exact .inr ⟨by omega, hg a (by omega) a1⟩
  have hc : f c = c ∨ 1073741824 < c ∧ (1073741824 < f c ∨ f c < 0) := by
    by_cases h : c ≤ 1073741824
    · exact .inl (hf c c0 h)
    · exact .inr ⟨by omega, hg c (by omega) c1⟩
  omega
theorem whole_small (n : Int) (_h0 : 0 ≤ n) (h : n ≤ 1073741824) : wholeI n = n := by unfold wholeI; omega
theorem whole_great (n : Int) (h : 1073741824 < n) (_h1 : n < 18446744073709551616) : 1073741824 < wholeI n ∨ wholeI n < 0 := by unfold wholeI; omega
theorem int_small (n : Int) (_h0 : 0 ≤ n) (h : n ≤ 1073741824) : intI n = n := by unfold intI; rw [if_neg (by omega)]
theorem int_great (n : Int) (h : 1073741824 < n) (_h1 : n < 18446744073709551616) : 1073741824 < intI n ∨ intI n < 0 := by unfold intI; split <;> omega
theorem right_whole (l : List UInt8) : (reqOf wholeI l).right = rightB (rdN l).length (rd1 l).num (rd2 l).nat (rd3 l).num := by
  unfold Req.right reqOf
  simp only [size_of]
  exact rightB_cut whole_small whole_great _ _ _ _ (St.num_ge _) (St.num_lt _) (St.num_ge _) (St.num_lt _)
theorem right_int (l : List UInt8) : (reqOf intI l).right = rightB (rdN l).length (rd1 l).num (rd2 l).nat (rd3 l).num := by
  unfold Req.right reqOf
  simp only [size_of]
  exact rightB_cut int_small int_great _ _ _ _ (St.num_ge _) (St.num_lt _) (St.num_ge _) (St.num_lt _)
/-- Where it may be, both are the numbers themselves. -/
theorem reqOf_right (l : List UInt8) (h : (reqOf wholeI l).right = true) : reqOf intI l = reqOf wholeI l := by
  rw [right_whole, rightB_iff] at h
  have g1 := St.num_ge (rd1 l)
  have g3 := St.num_ge (rd3 l)
  unfold reqOf
  rw [whole_small _ g1 (by omega), whole_small _ g3 (by omega), int_small _ g1 (by omega), int_small _ g3 (by omega)]
/-- What is put is read. -/
theorem rd_put (n : ByteArray) (v : Int) (k : Nat) (c : Int) (r s : Nat) (hn : n.size ≤ 32) (hv : 0 ≤ v ∧ v < 18446744073709551616) (hk : k < 18446744073709551616) (hc : 0 ≤ c ∧ c < 18446744073709551616) (hr : r < 18446744073709551616) (hs : s < 18446744073709551616) :
    rdN (putB n v k c r s) = strB n ∧ rd6 (putB n v k c r s) = ⟨[], 0⟩ ∧ (rd1 (putB n v k c r s)).num = v ∧ (rd2 (putB n v k c r s)).num = k ∧ (rd3 (putB n v k c r s)).num = c ∧ (rd4 (putB n v k c r s)).num = r ∧ (rd5 (putB n v k c r s)).num = s := by
  have hb : putB n v k c r s = (leB (strB n).length ++ strB n) ++ (leB v ++ (leB k ++ (leB c ++ (leB r ++ (leB s ++ []))))) := by
    unfold putB fieldsB lumpB U6
    rw [Int.emod_eq_of_lt hv.1 hv.2, Int.emod_eq_of_lt hc.1 hc.2]
    simp only [List.append_assoc, List.append_nil]
  have hl := strB_len n
  have h1 := St.lump_said (strB n) 32 (by omega) (by omega) (leB v ++ (leB k ++ (leB c ++ (leB r ++ (leB s ++ [])))))
  have h2 := St.num_said v hv.1 hv.2 (leB k ++ (leB c ++ (leB r ++ (leB s ++ []))))
  have h3 := St.num_said k (by omega) (by omega) (leB c ++ (leB r ++ (leB s ++ [])))
  have h4 := St.num_said c hc.1 hc.2 (leB r ++ (leB s ++ []))
  have h5 := St.num_said r (by omega) (by omega) (leB s ++ [])
  have h6 := St.num_said s (by omega) (by omega) []
  unfold rd6 rd5 rd4 rd3 rd2 rd1 rdN
  rw [hb, h1.1, h1.2, h2.2, h3.2, h4.2, h5.2, h6.2]
  exact ⟨rfl, rfl, h2.1, h3.1, h4.1, h5.1, h6.1⟩
theorem read_put (n : ByteArray) (v : Int) (k : Nat) (c : Int) (r s : Nat) (h : rightB n.size v k c = true) (hr : r < 18446744073709551616) (hs : s < 18446744073709551616) :
    readE (putB n v k c r s) = 0 ∧ readQ (putB n v k c r s) = ⟨n, v, k, c, r, s⟩ := by
  have hh := (rightB_iff _ _ _ _).1 h
  have hp : prime61 < 18446744073709551616 := by decide
  obtain ⟨h1, h2, h3, h4, h5, h6, h7⟩ := rd_put n v k c r s hh.1.2.1 ⟨by omega, by omega⟩ (by omega) ⟨by omega, by omega⟩ hr hs
  have hq : reqOf wholeI (putB n v k c r s) = ⟨n, v, k, c, r, s⟩ := by
    unfold reqOf St.nat
    rw [h1, h3, h4, h5, h6, h7, whole_small v (by omega) (by omega), whole_small c (by omega) (by omega), strB_back]
    simp
  have he : readE (putB n v k c r s) = 0 := by
    unfold readE
    rw [if_neg (by rw [putB_len]; omega), h2, hq]
    unfold Req.right
    simp [h]
  refine ⟨he, ?_⟩
  unfold readQ
  rw [if_pos he, hq]
/-- One byte more. -/
theorem read_more (n : ByteArray) (v : Int) (k : Nat) (c : Int) (r s : Nat) (x : UInt8) (h : rightB n.size v k c = true) (hr : r < 18446744073709551616) (hs : s < 18446744073709551616) : readE (putB n v k c r s ++ [x]) = 20 := by
  have hh := (rightB_iff _ _ _ _).1 h
  have hp : prime61 < 18446744073709551616 := by decide
  have hv : 0 ≤ v ∧ v < 18446744073709551616 := ⟨by omega, by omega⟩
  have hc : 0 ≤ c ∧ c < 18446744073709551616 := ⟨by omega, by omega⟩
  have hb : putB n v k c r s ++ [x] = (leB (strB n).length ++ strB n) ++ (leB v ++ (leB k ++ (leB c ++ (leB r ++ (leB s ++ [x]))))) := by
    unfold putB fieldsB lumpB U6
    rw [Int.emod_eq_of_lt hv.1 hv.2, Int.emod_eq_of_lt hc.1 hc.2]
    simp only [List.append_assoc]
  have hl := strB_len n
  have h1 := St.lump_said (strB n) 32 (by omega) (by omega) (leB v ++ (leB k ++ (leB c ++ (leB r ++ (leB s ++ [x])))))
  have h2 := St.num_said v hv.1 hv.2 (leB k ++ (leB c ++ (leB r ++ (leB s ++ [x]))))
  have h3 := St.num_said k (by omega) (by omega) (leB c ++ (leB r ++ (leB s ++ [x])))
  have h4 := St.num_said c hc.1 hc.2 (leB r ++ (leB s ++ [x]))
  have h5 := St.num_said r (by omega) (by omega) (leB s ++ [x])
  have h6 := St.num_said s (by omega) (by omega) [x]
  have h7 : rd6 (putB n v k c r s ++ [x]) = ⟨[x], 0⟩ := by
    unfold rd6 rd5 rd4 rd3 rd2 rd1
    rw [hb, h1.2, h2.2, h3.2, h4.2, h5.2, h6.2]
  unfold readE
  rw [if_neg (by rw [List.length_append, putB_len]; simp; omega), h7]
  simp

/-! ### The seat's requests -/
/-- A name's number, byte by byte. -/
def nameN : List UInt8 → Nat → Nat
  | [], a => a
  | b :: l, a => nameN l ((a * 31 % 18446744073709551616 + b.toNat) % 18446744073709551616)
theorem nameN_snoc (l : List UInt8) (b : UInt8) (a : Nat) : nameN (l ++ [b]) a = (nameN l a * 31 % 18446744073709551616 + b.toNat) % 18446744073709551616 := by
  induction l generalizing a with
  | nil => rfl
  | cons c l ih => exact ih _
theorem nameN_lt (l : List UInt8) : ∀ a, a < 18446744073709551616 → nameN l a < 18446744073709551616 := by
  induction l with
  | nil => intro a h; exact h
  | cons c l ih => intro a _; exact ih _ (Nat.mod_lt _ (by decide))
end Go.Pm

/- A text's bytes ('[]byte(s)'), and bytes as a text, as steps of a walk. Program-independent. -/
namespace Go.Pm
open Go Go.RowKit

theorem bytesCells_at (w : World) (e : TypeId) (s : ByteArray) (i : Nat) (x : Value) (h : ((strB s).map u8v)[i]? = some x) : (Lib.bytesCells w e s)[i]? = some x := by
  unfold Lib.bytesCells
  have hi := (List.getElem?_eq_some_iff.1 h).1
  simp [strB] at hi
  rw [Array.getElem?_append_left (by simpa using hi)]
  simpa [strB, u8v] using h
theorem run_bytes_str {P : Program} (w : World) {src dst e : TypeId} (s : ByteArray) (hs : P.underlying src = some .string) (hd : P.underlying dst = some (.slice e)) (he : P.underlying e = some (.int .u8)) (hl : s.size ≤ 140737488355328) :
    ∃ c w', (convert src dst (.string s)).run P w = .ok (.slice (some ⟨w.heap.size, 0, none⟩) s.size c) w' ∧ Kept None w w' ∧ Bs w' w.heap.size (w.heap.size + 1) (.slice (some ⟨w.heap.size, 0, none⟩) s.size c) (strB s) := by
  refine ⟨_, _, Lib.run_convert_string_bytes w src dst e s hs hd he, ?_, ?_⟩
  · have k0 : Kept None w (w.drew.alloc (.cells (Lib.bytesCells w e s) e)) := ((Kept.refl None w).drew).alloc _
    exact k0.freeze _ _ (Nat.le_refl _)
  · refine ⟨some ⟨w.heap.size, 0, none⟩, grownCap w s.size 0 e, by rw [List.length_map, strB_len], by rw [List.length_map, strB_len]; exact grownCap_ge _ _ _ _, grownCap_le_maxLen _ _ _ _ (by unfold maxLen; omega), (fun h => by cases h), fun ad had i x hx => ?_⟩
    obtain rfl := Option.some.inj had
    refine ⟨Nat.le_refl _, Nat.lt_succ_self _, ?_⟩
    rw [Addr.add_lit, Nat.zero_add]
    unfold World.cell?
    rw [Lib.bytesWorld_at_new]
    exact bytesCells_at w e s i x hx
/-- '[]byte(s)', for the walk. -/
theorem wpList_bytes {P : Program} {ops : Array Oper} {rest : List Oper} {o : Oper} {a : Act} {w : World} {Q : Exit → Act → World → Prop} (hgd : o.guard = none) (src dst e : TypeId) (x : Operand) (ho : o.op = .convert src dst x)
    (hs : P.underlying src = some .string) (hd : P.underlying dst = some (.slice e)) (he : P.underlying e = some (.int .u8)) {s : ByteArray} (hx : a.eval x = .string s) (hl : s.size ≤ 140737488355328)
    (h : ∀ g c w', w.heap.size ≤ g → Kept None w w' → Bs w' g (g + 1) (.slice (some ⟨g, 0, none⟩) s.size c) (strB s) → wpList P ops Q rest (a.put o.dst (.slice (some ⟨g, 0, none⟩) s.size c)) w') : wpList P ops Q (o :: rest) a w := by
  refine wpList_plain hgd fun K hK' => ?_
  obtain ⟨c, w', hr, h1, h2⟩ := run_bytes_str (P := P) w (src := src) (dst := dst) s hs hd he hl
  unfold Oper.wp
  simp only [execOp, ho, Sem.run_bind, Sem.run_pure, Result.andThen_ok, hx, hr]
  exact hK' _ _ (h _ _ _ (Nat.le_refl _) h1 h2)
/-- 'string(b)', for the walk. -/
theorem wpList_text {P : Program} {ops : Array Oper} {rest : List Oper} {o : Oper} {a : Act} {w : World} {Q : Exit → Act → World → Prop} (hgd : o.guard = none) (src dst e : TypeId) (x : Operand) (ho : o.op = .convert src dst x)
    (hs : P.underlying src = some (.slice e)) (he : P.underlying e = some (.int .u8)) (hd : P.underlying dst = some .string) {v : Value} (hx : a.eval x = v) {lo hi : Nat} {l : List UInt8} (hv : Bs w lo hi v l)
    (h : wpList P ops Q rest (a.put o.dst (.string ⟨l.toArray⟩)) w) : wpList P ops Q (o :: rest) a w := by
  refine wpList_plain hgd fun K hK' => ?_
  have hr := run_string_bs (P := P) hs he hd hv
  unfold Oper.wp
  simp only [execOp, ho, Sem.run_bind, Sem.run_pure, Result.andThen_ok, hx, hr]
  exact hK' _ _ h
/-- '[]byte(s)', as an operation of a region that adds. -/
theorem gives_bytes {P : Program} {o : Oper} {a : Act} {w : World} {X : Value → World → Prop} (src dst e : TypeId) (x : Operand) (ho : o.op = .convert src dst x)
    (hs : P.underlying src = some .string) (hd : P.underlying dst = some (.slice e)) (he : P.underlying e = some (.int .u8)) {s : ByteArray} (hx : a.eval x = .string s) (hl : s.size ≤ 140737488355328)
    (h : ∀ c w', Kept None w w' → Bs w' w.heap.size (w.heap.size + 1) (.slice (some ⟨w.heap.size, 0, none⟩) s.size c) (strB s) → X (.slice (some ⟨w.heap.size, 0, none⟩) s.size c) w') : Gives P o a w X := by
  obtain ⟨c, w', hr, h1, h2⟩ := run_bytes_str (P := P) w (src := src) (dst := dst) s hs hd he hl
  unfold Gives
  simp only [execOp, ho, Sem.run_bind, Sem.run_pure, Result.andThen_ok, hx, hr]
  exact h _ _ h1 h2
end Go.Pm

/- 'append(s, make([]byte, k)...)' of bytes that the call owns, and a store to one of them. Program-independent. -/
namespace Go.Pm
open Go Go.RowKit

/-- So many zerosB. -/
def zerosB (k : Nat) : List UInt8 := List.replicate k 0
theorem zero_cells (k : Nat) : (Builtin.zeroCells (Value.cells (.int .u8 0)) k) = ((zerosB k).map u8v).toArray := by
  have h1 : (Value.cells (.int .u8 0)) = #[.int .u8 0] := rfl
  rw [h1]
  apply Array.ext (by simp [Builtin.zeroCells, zerosB])
  intro j h1 h2
  simp [Builtin.zeroCells, zerosB, u8v, Nat.mod_one]
theorem run_append_room_zeros {P : Program} {w : World} {t tn ty e : TypeId} {i : TypeInfo} {kq kn : IntKind} (ht : P.underlying t = some (.slice e)) (htn : P.underlying tn = some (.int kn)) (hi : P.info? e = some i) (hz : i.zero = some (.int .u8 0)) (hs : i.size = 1) (hb : i.bytes = 1)
    (g sLen sCap : Nat) (cur : Array Value) (hg : w.heap[g]? = some (.cells cur e (0, 0))) (k : Nat) (h0 : 0 < k) (h63 : sLen + k ≤ 140737488355328) (hroom : sLen + k ≤ sCap) (hfit : sLen + k ≤ cur.size) :
    (Builtin.append_ #[t, tn] ty #[.slice (some ⟨g, 0, none⟩) sLen sCap, .int kq k]).run P w =
      .ok (.slice (some ⟨g, 0, none⟩) (sLen + k) sCap) (w.setRow g (cur.toList.take sLen ++ (zerosB k).map u8v ++ cur.toList.drop (sLen + k)).toArray) := by
  have hst := run_storeCells_at P g sLen e ((zerosB k).map u8v) 0 cur w hg (by simpa [zerosB] using hfit) (u8v_one _)
  simp only [Nat.add_zero] at hst
  have hk : k ≠ 0 := by omega
  have hw : IntKind.i64.wrap (k : Int) = k := by rw [IntKind.wrap_i64]; omega
  have h48i : ¬ (281474976710656 < (k : Int)) := by omega
  have hneg : ¬ ((k : Int) < 0) := by omega
  have hl : (zerosB k).length = k := by simp [zerosB]
  simp [Builtin.append_, run_underlying ht, run_underlying htn, sizeOf, typeInfo, zeroValue, hi, hz, hs, hb, asInt, asIntOf, hw, hneg, hk, h48i, hroom, Addr.add_lit, zero_cells, hst, hl]
/-- 'append(s, make([]byte, k)...)'. -/
theorem run_append_zeros_bo {P : Program} {w : World} {t tn ty e : TypeId} {kq kn : IntKind} (hT : RowTy P t e (.int .u8 0) 1) (htn : P.underlying tn = some (.int kn)) {base : Nat} {v : Value} {l : List UInt8} (hown : Bo e w base v l) (hl : 0 < l.length)
    (k : Nat) (h0 : 0 < k) (h63 : l.length + k ≤ 140737488355328) (hbase : base ≤ w.heap.size) :
    ∃ a' n' c' w', (Builtin.append_ #[t, tn] ty #[v, .int kq k]).run P w = .ok (.slice a' n' c') w' ∧ Bo e w' base (.slice a' n' c') (l ++ zerosB k) ∧ Kept (Of v) w w' := by
  obtain ⟨i, hi, hz, hs, hb⟩ := hT.info
  have hlen : (l ++ zerosB k).length = l.length + k := by simp [zerosB]
  have hlm : ((l ++ zerosB k).map u8v).length = (l.length + k) * 1 := by rw [List.length_map, hlen, Nat.mul_one]
  rcases hown.2 with ⟨rfl, h0'⟩ | ⟨g, cap, cur, rfl, hbg, hg, hnc, hcm, hcs, htake⟩
  · omega
  · by_cases hroom : l.length + k ≤ cap
    · have hr := run_append_room_zeros (P := P) (ty := ty) (kq := kq) hT.sl htn hi hz hs hb g l.length cap cur hg k h0 h63 hroom (by omega)
      refine ⟨_, _, _, _, hr, ?_, ⟨rfl, rfl, rfl, by simp, fun j _ hj => setRow_other w g j _ (fun e => hj (by simp [Of, Value.ownBlock, e]))⟩⟩
      unfold Bo
      rw [hlen]
      refine ⟨hlm, .inr ⟨g, cap, _, rfl, hbg, setRow_heap w g cur _ e _ hg, hroom, hcm, ?_, ?_⟩⟩
      · simp only [List.size_toArray, List.length_append, List.length_take, List.length_drop, Array.length_toList, List.length_map]
        simp [zerosB]
        omega
      · rw [Nat.mul_one] at htake ⊢
        rw [htake, ← List.map_append]
        rw [← hlen, ← List.length_map (f := u8v)]
        exact List.take_left
    · have holds : ∀ j u, (l.map u8v)[j]? = some u → w.cell? ((⟨g, 0, none⟩ : Addr).add j) = some u := World.ownsRow.cells (g := g) hown rfl
      have hf := run_firstCells_some (P := P) w.drew i.size l.length ⟨g, 0, none⟩ l.length cap (l.map u8v) (by rw [List.length_map, hs, Nat.mul_one]) (by simpa using holds)
      have hr := Lib.run_append_grow_zeros (P := P) w t tn ty e i (.int .u8 0) kq kn hT.sl htn hi hz (some ⟨g, 0, none⟩) l.length cap (l.map u8v) hf k h0 (by omega) (by omega) (by omega) (by rw [hb]; omega) (by rw [hb]; exact growslice_fits (by omega) (by omega))
      refine ⟨_, _, _, _, hr, ?_, ((Kept.refl _ w).drew).alloc _⟩
      unfold Bo
      rw [hlen]
      refine ⟨hlm, .inr ⟨w.heap.size, _, _, rfl, hbase, heap_alloc_new w.drew _, grownCap_ge _ _ _ _, grownCap_le_maxLen _ _ _ _ (by unfold maxLen; omega), ?_, ?_⟩⟩
      · have hge := grownCap_ge w (l.length + k) cap e
        simp only [Array.size_append, List.size_toArray, size_zeroCells, List.length_map]
        simp [Value.cells]
        omega
      · rw [zero_cells k]
        simp only [Array.toList_append, Nat.mul_one]
        rw [← List.map_append, ← hlen, ← List.length_map (f := u8v)]
        exact List.take_left
/-- In a walk. -/
theorem wpList_append_zeros {P : Program} {ops : Array Oper} {rest : List Oper} {o : Oper} {a : Act} {w : World} {Q : Exit → Act → World → Prop} (hgd : o.guard = none) (s x : Operand) (t tn : TypeId)
    (ho : o.op = .call { callee := .builtin .append, args := #[s, x], argTypes := #[t, tn] }) {e : TypeId} {kq kn : IntKind} (hT : RowTy P t e (.int .u8 0) 1) (htn : P.underlying tn = some (.int kn))
    {v : Value} (hs : a.eval s = v) {base : Nat} {l : List UInt8} (hown : Bo e w base v l) (hl : 0 < l.length) (k : Nat) (hx : a.eval x = .int kq k) (h0 : 0 < k) (h63 : l.length + k ≤ 140737488355328) (hbase : base ≤ w.heap.size)
    (h : ∀ a' n' cap' w', Bo e w' base (.slice a' n' cap') (l ++ zerosB k) → Kept (Of v) w w' → wpList P ops Q rest (a.put o.dst (.slice a' n' cap')) w') : wpList P ops Q (o :: rest) a w := by
  obtain ⟨a', n', c', w', hr, h1, h2⟩ := run_append_zeros_bo (P := P) (ty := o.type) (kq := kq) hT htn hown hl k h0 h63 hbase
  exact Lib.wpList_append_run w hgd s x t tn ho v _ hs hx _ w' hr (h _ _ _ _ h1 h2)

/-- A byte of a row of one's own, written over. -/
theorem Bo.set {e : TypeId} {w : World} {base : Nat} {g n cap : Nat} {l : List UInt8} (h : Bo e w base (.slice (some ⟨g, 0, none⟩) n cap) l) (i : Nat) (b : Int) (h0 : 0 ≤ b) (h1 : b < 256) :
    Bo e (w.setCell ⟨g, i, none⟩ (.int .u8 b)) base (.slice (some ⟨g, 0, none⟩) n cap) (l.set i (Go.Pm.byteOf b)) := by
  rcases h.2 with ⟨hn, _⟩ | ⟨g', cap', cur, hv, hbg, hg, hnc, hcm, hcs, htake⟩
  · cases hn
  · injection hv with e1 e2 e3
    injection e1 with e1
    injection e1 with e1
    subst e1 e3
    have hB : Blk w g cur e := hg
    unfold Bo
    rw [List.length_set]
    refine ⟨by simp, .inr ⟨g, cap, _, by rw [e2], hbg, hB.set i _, hnc, hcm, by simpa using hcs, ?_⟩⟩
    rw [Array.toList_setIfInBounds, List.take_set, htake, List.map_set, u8v_byteOf' h0 h1]
end Go.Pm
