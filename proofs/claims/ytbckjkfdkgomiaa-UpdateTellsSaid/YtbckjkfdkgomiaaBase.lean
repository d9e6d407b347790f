import Derived.WalkKit
import Derived.WalkSpells
import Derived.WalkLawsBesides
namespace Go.Pm
open Go Go.RowKit

theorem hid {p : Prop} (h : p) : Hid p := h
/-- The whole block r holds the cells cs, of type t, and none is frozen. -/
def Blk (w : World) (r : Nat) (cs : Array Value) (t : TypeId) : Prop := w.heap[r]? = some (.cells cs t (0, 0))

theorem Blk.lt {w : World} {r : Nat} {cs : Array Value} {t : TypeId} (h : Blk w r cs t) : r < w.heap.size := lt_of_block h
theorem Blk.cell {w : World} {r : Nat} {cs : Array Value} {t : TypeId} (h : Blk w r cs t) (i : Nat) : w.cell? ⟨r, i, none⟩ = cs[i]? := cell_of_row w r i cs t (0, 0) h
theorem Blk.free {w : World} {r : Nat} {cs : Array Value} {t : TypeId} (h : Blk w r cs t) (i : Nat) : w.frozen? ⟨r, i, none⟩ = false := frozen_of_row w r i cs t h
theorem Blk.set {w : World} {r : Nat} {cs : Array Value} {t : TypeId} (h : Blk w r cs t) (i : Nat) (v : Value) : Blk (w.setCell ⟨r, i, none⟩ v) r (cs.setIfInBounds i v) t :=
  heap_setCell_same w r i cs t v h
theorem Blk.setOther {w : World} {r : Nat} {cs : Array Value} {t : TypeId} (h : Blk w r cs t) {a : Addr} (ha : r ≠ a.block) (v : Value) : Blk (w.setCell a v) r cs t := by
  unfold Blk; rw [heap_setCell_other w a r v ha]; exact h
theorem Blk.new (w : World) (cs : Array Value) (t : TypeId) : Blk (w.alloc (.cells cs t)) w.heap.size cs t := heap_alloc_new w _
theorem Blk.alloc {w : World} {r : Nat} {cs : Array Value} {t : TypeId} (h : Blk w r cs t) (o : Obj) : Blk (w.alloc o) r cs t := by
  unfold Blk; rw [Below.heap_alloc w o r h.lt]; exact h
theorem Blk.drew {w : World} {r : Nat} {cs : Array Value} {t : TypeId} (h : Blk w r cs t) : Blk w.drew r cs t := h
theorem Blk.drewN {w : World} {r : Nat} {cs : Array Value} {t : TypeId} (h : Blk w r cs t) (n : Nat) : Blk (w.drewN n) r cs t := h
theorem Blk.new2 (w : World) (o : Obj) (cs : Array Value) (t : TypeId) : Blk ((w.alloc o).alloc (.cells cs t)) (w.heap.size + 1) cs t := by simpa using Blk.new (w.alloc o) cs t

theorem Blk.new3 (w : World) (o o' : Obj) (cs : Array Value) (t : TypeId) : Blk (((w.alloc o).alloc o').alloc (.cells cs t)) (w.heap.size + 1 + 1) cs t := by simpa using Blk.new ((w.alloc o).alloc o') cs t

/-- Only the blocks that S names may have turned, and new ones may be there. -/
structure Kept (S : Nat → Prop) (w w' : World) : Prop where
  os : w'.os = w.os
  tape : w'.tape = w.tape
  output : w'.output = w.output
  size : w.heap.size ≤ w'.heap.size
  block : ∀ k, k < w.heap.size → ¬ S k → w'.heap[k]? = w.heap[k]?

theorem Kept.refl (S : Nat → Prop) (w : World) : Kept S w w := ⟨rfl, rfl, rfl, Nat.le_refl _, fun _ _ _ => rfl⟩
theorem Kept.trans {S : Nat → Prop} {a b c : World} (h : Kept S a b) (k : Kept S b c) : Kept S a c :=
  ⟨k.os.trans h.os, k.tape.trans h.tape, k.output.trans h.output, Nat.le_trans h.size k.size, fun i hi hs => (k.block i (Nat.lt_of_lt_of_le hi h.size) hs).trans (h.block i hi hs)⟩
theorem Kept.mono {S T : Nat → Prop} {w w' : World} (h : Kept S w w') (hs : ∀ k, k < w.heap.size → S k → T k) : Kept T w w' :=
  ⟨h.os, h.tape, h.output, h.size, fun k hk ht => h.block k hk (fun s => ht (hs k hk s))⟩
theorem Kept.drew {S : Nat → Prop} {a w : World} (h : Kept S a w) : Kept S a w.drew := ⟨h.os, h.tape, h.output, h.size, h.block⟩
theorem Kept.drewN {S : Nat → Prop} {a w : World} (h : Kept S a w) (n : Nat) : Kept S a (w.drewN n) := ⟨h.os, h.tape, h.output, h.size, h.block⟩
theorem Kept.toDrewN (S : Nat → Prop) (w : World) (n : Nat) : Kept S w (w.drewN n) := (Kept.refl S w).drewN n
theorem Calls.same {P : Program} {f : FuncId} {args : Array Value} {w : World} {v : Value} (h : Calls P f args w fun e w' => e = .returned v ∧ w = w') : Calls P f args w fun e w' => e = .returned v ∧ w' = w := h.mono fun _ _ ⟨a, b⟩ => ⟨a, b.symm⟩
theorem Kept.alloc {S : Nat → Prop} {a w : World} (h : Kept S a w) (o : Obj) : Kept S a (w.alloc o) :=
  h.trans ⟨rfl, rfl, rfl, by simp, fun k hk _ => Below.heap_alloc w o k hk⟩
theorem Kept.setCell {S : Nat → Prop} {a w : World} (h : Kept S a w) {p : Addr} (hp : p.block < a.heap.size → S p.block) (u : Value) : Kept S a (w.setCell p u) :=
  ⟨h.os, h.tape, h.output, by simpa using h.size, fun k hk hs => by
    rw [heap_setCell_other w p k u (fun e => hs (by rw [e]; exact hp (by rw [← e]; exact hk)))]; exact h.block k hk hs⟩
/-- A store to a block that is newer. -/
theorem Kept.setNew {S : Nat → Prop} {a w : World} (h : Kept S a w) {b : Nat} (hb : a.heap.size ≤ b) (i : Nat) (u : Value) : Kept S a (w.setCell ⟨b, i, none⟩ u) :=
  h.setCell (p := ⟨b, i, none⟩) (fun h => absurd h (Nat.not_lt.2 hb)) u
theorem Kept.grown {S : Nat → Prop} {a w w' : World} {row : Option Nat} (h : Kept S a w) (hg : w.grownBy w' row) (hr : ∀ k, row = some k → k < a.heap.size → S k) : Kept S a w' :=
  ⟨hg.os.trans h.os, hg.tape.trans h.tape, hg.output.trans h.output, Nat.le_trans h.size hg.size, fun k hk hs =>
    (hg.block k (Nat.lt_of_lt_of_le hk h.size) (fun e => hs (hr k e.symm hk))).trans (h.block k hk hs)⟩
/-- From a later world on. -/
theorem Kept.then {S T : Nat → Prop} {a b c : World} (h : Kept S a b) (k : Kept T b c) (hT : ∀ i, i < a.heap.size → T i → S i) : Kept S a c :=
  ⟨k.os.trans h.os, k.tape.trans h.tape, k.output.trans h.output, Nat.le_trans h.size k.size, fun i hi hs => (k.block i (Nat.lt_of_lt_of_le hi h.size) (fun t => hs (hT i hi t))).trans (h.block i hi hs)⟩
theorem Kept.cell {S : Nat → Prop} {w w' : World} (h : Kept S w w') {p : Addr} (hp : p.block < w.heap.size) (hs : ¬ S p.block) : w'.cell? p = w.cell? p := World.cell?_of_block (w := w) (h.block p.block hp hs)
theorem Kept.frozen {S : Nat → Prop} {w w' : World} (h : Kept S w w') {p : Addr} (hp : p.block < w.heap.size) (hs : ¬ S p.block) : w'.frozen? p = w.frozen? p := World.frozen?_of_block (w := w) (h.block p.block hp hs)
theorem Kept.below {S : Nat → Prop} {w w' : World} (h : Kept S w w') (hs : ∀ k, k < w.heap.size → ¬ S k) : Below w.heap.size w w' := ⟨h.os, h.tape, h.output, h.size, fun k hk => h.block k hk (hs k hk)⟩
theorem Blk.kept {S : Nat → Prop} {w w' : World} {r : Nat} {cs : Array Value} {t : TypeId} (h : Blk w r cs t) (hk : Kept S w w') (hs : ¬ S r) : Blk w' r cs t := (hk.block r h.lt hs).trans h

/-- Nothing that was there has turned. -/
abbrev None : Nat → Prop := fun _ => False

/-- The slice value v reads as the one-cell values xs; its cells lie in blocks from lo on, below hi. -/
def Vs (w : World) (lo hi : Nat) (v : Value) (xs : List Value) : Prop :=
  ∃ a cap, v = .slice a xs.length cap ∧ xs.length ≤ cap ∧ cap ≤ maxLen ∧ (a = none → cap = 0) ∧ ∀ ad, a = some ad → ∀ i x, xs[i]? = some x → lo ≤ ad.block ∧ ad.block < hi ∧ w.cell? (ad.add i) = some x

def u8v (b : UInt8) : Value := .int .u8 (b.toNat : Int)
/-- The []byte v reads as the bytes l. -/
def Bs (w : World) (lo hi : Nat) (v : Value) (l : List UInt8) : Prop := Vs w lo hi v (l.map u8v)

theorem add_block (a : Addr) (i : Nat) : (a.add i).block = a.block := by unfold Addr.add; split <;> rfl

theorem Vs.kept {S : Nat → Prop} {w w' : World} {lo hi : Nat} {v : Value} {xs : List Value} (h : Vs w lo hi v xs) (hk : Kept S w w') (hs : ∀ k, lo ≤ k → k < hi → ¬ S k) : Vs w' lo hi v xs := by
  obtain ⟨a, cap, hv, h1, h2, h3, h4⟩ := h
  refine ⟨a, cap, hv, h1, h2, h3, fun ad had i x hx => ?_⟩
  obtain ⟨q1, q2, q3⟩ := h4 ad had i x hx
  refine ⟨q1, q2, ?_⟩
  rw [hk.cell (block_lt_of_cell q3) (by rw [add_block]; exact hs _ q1 q2)]
  exact q3
theorem Vs.wider {w : World} {lo hi lo' hi' : Nat} {v : Value} {xs : List Value} (h : Vs w lo hi v xs) (h1 : lo' ≤ lo) (h2 : hi ≤ hi') : Vs w lo' hi' v xs := by
  obtain ⟨a, cap, hv, g1, g2, g3, g4⟩ := h
  exact ⟨a, cap, hv, g1, g2, g3, fun ad had i x hx => ⟨Nat.le_trans h1 (g4 ad had i x hx).1, Nat.lt_of_lt_of_le (g4 ad had i x hx).2.1 h2, (g4 ad had i x hx).2.2⟩⟩
theorem Vs.nil (w : World) (lo hi : Nat) : Vs w lo hi (.slice none 0 0) [] := ⟨none, 0, rfl, Nat.le_refl _, Nat.zero_le _, fun _ => rfl, fun ad h => by cases h⟩
theorem Vs.lt {w : World} {lo hi : Nat} {v : Value} {xs : List Value} (h : Vs w lo hi v xs) : Vs w lo (min hi w.heap.size) v xs := by
  obtain ⟨a, cap, hv, g1, g2, g3, g4⟩ := h
  refine ⟨a, cap, hv, g1, g2, g3, fun ad had i x hx => ?_⟩
  obtain ⟨q1, q2, q3⟩ := g4 ad had i x hx
  have := block_lt_of_cell q3
  rw [add_block] at this
  exact ⟨q1, by omega, q3⟩
theorem Vs.len_le {w : World} {lo hi : Nat} {v : Value} {xs : List Value} (h : Vs w lo hi v xs) : xs.length ≤ maxLen := by
  obtain ⟨a, cap, hv, g1, g2, g3, g4⟩ := h; omega

theorem add_add (a : Addr) (i j : Nat) : (a.add i).add j = if i + j = 0 then a else ⟨a.block, a.off + i + j, none⟩ := by
  unfold Addr.add
  by_cases hi : i = 0 <;> by_cases hj : j = 0 <;> simp [hi, hj, Nat.add_assoc]
theorem add_add' (a : Addr) (i j : Nat) : (a.add i).add j = a.add (i + j) := by
  rw [add_add]; unfold Addr.add; simp [Nat.add_assoc]

/-- 's[l:h]', in whichever form: 'sliced' reads as the cut. -/
theorem Vs.sliced {w : World} {lo hi : Nat} {a : Option Addr} {n cap : Nat} {xs : List Value} (h : Vs w lo hi (.slice a n cap) xs) (l m : Nat) (hl : l ≤ m) (hm : m ≤ n) :
    Vs w lo hi (.slice (if cap = l then a else a.map (·.add l)) (m - l) (cap - l)) ((xs.take m).drop l) := by
  obtain ⟨a', cap', hv, g1, g2, g3, g4⟩ := h
  injection hv with e1 e2 e3
  subst e1 e2 e3
  have hlen : ((xs.take m).drop l).length = m - l := by simp; omega
  refine ⟨_, cap - l, by rw [hlen], by rw [hlen]; omega, by omega, ?_, ?_⟩
  · intro hn
    have hnone : a = none := by
      by_cases hc : cap = l
      · rw [if_pos hc] at hn; exact hn
      · rw [if_neg hc] at hn; cases a with
        | none => rfl
        | some ad => simp at hn
    have := g3 hnone
    omega
  · intro ad had i x hx
    have hi : l + i < m ∧ xs[l + i]? = some x := by
      rw [List.getElem?_drop, List.getElem?_take] at hx
      split at hx
      · exact ⟨by assumption, hx⟩
      · cases hx
    have hlen : l + i < xs.length := (List.getElem?_eq_some_iff.1 hi.2).1
    rw [if_neg (show ¬ cap = l by omega)] at had
    cases a with
    | none => simp at had
    | some ad0 =>
      simp at had
      subst had
      obtain ⟨q1, q2, q3⟩ := g4 ad0 rfl (l + i) x hi.2
      rw [add_block, add_add']
      exact ⟨q1, q2, q3⟩

theorem Vs.ofRow {w : World} {base : Nat} {e : TypeId} {v : Value} {n : Nat} {xs : List Value} (h : w.ownsRow base e 1 v n xs) {hi : Nat} (hh : w.heap.size ≤ hi) : Vs w base hi v xs := by
  obtain ⟨h1, h2⟩ := h
  have h1' : xs.length = n := by omega
  rcases h2 with ⟨rfl, rfl⟩ | ⟨g, cap, cur, rfl, hb, hg, hnc, hcm, hcs, ht⟩
  · have : xs = [] := List.eq_nil_of_length_eq_zero h1'
    subst this
    exact Vs.nil w _ _
  · refine ⟨some ⟨g, 0, none⟩, cap, by rw [h1'], by omega, hcm, (fun h => by cases h), ?_⟩
    intro ad had i x hx
    simp at had
    subst had
    have hlt := lt_of_block hg
    refine ⟨hb, by show g < hi; omega, ?_⟩
    rw [Addr.add_lit, Nat.zero_add, cell_of_row w g i cur e (0, 0) hg]
    rw [← ht, List.getElem?_take] at hx
    split at hx
    · simpa using hx
    · cases hx

/-- A byte of a list, as a number. -/
def bAt (l : List UInt8) (i : Nat) : Int := ((l.getD i 0).toNat : Int)
theorem bAt_ge (l : List UInt8) (i : Nat) : 0 ≤ bAt l i := by unfold bAt; omega
theorem bAt_lt (l : List UInt8) (i : Nat) : bAt l i < 256 := by unfold bAt; have := (l.getD i 0).toNat_lt; omega
theorem bAt_drop (l : List UInt8) (i j : Nat) : bAt (l.drop i) j = bAt l (i + j) := by unfold bAt; simp [List.getD, List.getElem?_drop]
theorem bAt_cons (b : UInt8) (l : List UInt8) : bAt (b :: l) 0 = b.toNat := rfl

theorem Bs.shape {w : World} {lo hi : Nat} {v : Value} {l : List UInt8} (h : Bs w lo hi v l) : ∃ a cap, v = .slice a l.length cap ∧ l.length ≤ cap ∧ cap ≤ 9223372036854775807 ∧ (a = none → cap = 0) := by
  obtain ⟨a, cap, hv, g1, g2, g3, g4⟩ := h
  refine ⟨a, cap, by simpa using hv, by simpa using g1, by unfold maxLen at g2; omega, g3⟩
/-- A byte slice that is not empty, written out. -/
theorem Bs.ne {w : World} {lo hi : Nat} {a : Option Addr} {n cap : Nat} {l : List UInt8} (h : Bs w lo hi (.slice a n cap) l) (hn : 0 < l.length) :
    ∃ b o, a = some ⟨b, o, none⟩ ∧ lo ≤ b ∧ b < hi ∧ b < w.heap.size ∧ ∀ i, i < l.length → w.cell? ⟨b, o + i, none⟩ = some (.int .u8 (bAt l i)) := by
  obtain ⟨a', cap', hv, g1, g2, g3, g4⟩ := h
  injection hv with e1 e2 e3
  subst e1 e2 e3
  cases a with
  | none => have := g3 rfl; simp at g1; omega
  | some ad =>
    obtain ⟨b, o, sp⟩ := ad
    have h0 := g4 _ rfl 0 _ (List.getElem?_eq_getElem (by simpa using hn))
    have hsp : sp = none := by
      have h2 := h0.2.2
      simp only [Addr.add_zero'] at h2
      unfold World.cell? at h2
      split at h2
      · cases sp with
        | none => rfl
        | some s => simp at h2
      · cases h2
    subst hsp
    refine ⟨b, o, rfl, h0.1, h0.2.1, by simpa [add_block] using block_lt_of_cell h0.2.2, fun i hi => ?_⟩
    have h3 := (g4 _ rfl i _ (List.getElem?_eq_getElem (by simpa using hi))).2.2
    rw [Addr.add_lit] at h3
    rw [h3]
    simp [u8v, bAt, List.getD, List.getElem?_eq_getElem hi]
/-- A byte slice of a known length. -/
theorem Bs.lit {w : World} {lo hi : Nat} {v : Value} {l : List UInt8} (h : Bs w lo hi v l) (n : Nat) (hn : l.length = n) (h0 : 0 < n) :
    ∃ b o cap, v = .slice (some ⟨b, o, none⟩) n cap ∧ n ≤ cap ∧ cap ≤ 9223372036854775807 ∧ lo ≤ b ∧ b < hi ∧ b < w.heap.size ∧ ∀ i, i < n → w.cell? ⟨b, o + i, none⟩ = some (.int .u8 (bAt l i)) := by
  obtain ⟨a, cap, rfl, g1, g2, g3⟩ := h.shape
  obtain ⟨b, o, rfl, q1, q2, q3, q4⟩ := h.ne (by omega)
  subst hn
  exact ⟨b, o, cap, rfl, g1, g2, q1, q2, q3, q4⟩
theorem Bs.kept {S : Nat → Prop} {w w' : World} {lo hi : Nat} {v : Value} {l : List UInt8} (h : Bs w lo hi v l) (hk : Kept S w w') (hs : ∀ k, lo ≤ k → k < hi → ¬ S k) : Bs w' lo hi v l := Vs.kept h hk hs
theorem Bs.nil (w : World) (lo hi : Nat) : Bs w lo hi (.slice none 0 0) [] := Vs.nil w lo hi

section
variable {P : Program} {t : TypeId} (ht : P.underlying t = some (.slice (P.elem t))) (hz : ∀ W, (sizeOf (P.elem t)).run P W = .ok 1 W)
include ht hz
/-- 's[i:]', 's[:i]', 's[i:j]': the value under a name. -/
theorem slice_from {w : World} {lo hi : Nat} {a : Option Addr} {n cap : Nat} {xs : List Value} (h : Vs w lo hi (.slice a n cap) xs) (k : IntKind) (i : Int) (h0 : 0 ≤ i) (h1 : i ≤ n) :
    ∃ a', (∀ W, (Instr.slice t (.slice a n cap) (some (.int k i)) none none).run P W = .ok (.slice a' (n - i.toNat) (cap - i.toNat)) W) ∧ Vs w lo hi (.slice a' (n - i.toNat) (cap - i.toNat)) (xs.drop i.toNat) := by
  refine ⟨if cap = i.toNat then a else a.map (·.add i.toNat), fun W => ?_, ?_⟩
  · rw [run_slice_l (P := P) W t a n cap ht k i h0 h1, hz]
    simp only [Result.andThen, Go.sliced, Nat.mul_one]
  · have hn : n = xs.length := by obtain ⟨a', cap', hv, _⟩ := h; injection hv
    have := Vs.sliced h i.toNat n (by omega) (Nat.le_refl _)
    rw [List.take_of_length_le (by omega)] at this
    exact this
theorem slice_to {w : World} {lo hi : Nat} {a : Option Addr} {n cap : Nat} {xs : List Value} (h : Vs w lo hi (.slice a n cap) xs) (k : IntKind) (i : Int) (h0 : 0 ≤ i) (h1 : i ≤ n) :
    ∃ a', (∀ W, (Instr.slice t (.slice a n cap) none (some (.int k i)) none).run P W = .ok (.slice a' i.toNat cap) W) ∧ Vs w lo hi (.slice a' i.toNat cap) (xs.take i.toNat) := by
  have hc : n ≤ cap := by obtain ⟨a', cap', hv, hc, _⟩ := h; injection hv; omega
  refine ⟨if cap = 0 then a else a.map (·.add 0), fun W => ?_, ?_⟩
  · rw [run_slice_h (P := P) W t a n cap ht k i h0 (by omega), hz]
    simp only [Result.andThen, Go.sliced, Nat.mul_one, Nat.sub_zero]
  · have := Vs.sliced h 0 i.toNat (by omega) (by omega)
    simpa using this
theorem slice_mid {w : World} {lo hi : Nat} {a : Option Addr} {n cap : Nat} {xs : List Value} (h : Vs w lo hi (.slice a n cap) xs) (k k' : IntKind) (i j : Int) (h0 : 0 ≤ i) (h1 : i ≤ j) (h2 : j ≤ n) :
    ∃ a', (∀ W, (Instr.slice t (.slice a n cap) (some (.int k i)) (some (.int k' j)) none).run P W = .ok (.slice a' (j.toNat - i.toNat) (cap - i.toNat)) W) ∧ Vs w lo hi (.slice a' (j.toNat - i.toNat) (cap - i.toNat)) ((xs.take j.toNat).drop i.toNat) := by
  have hc : n ≤ cap := by obtain ⟨a', cap', hv, hc, _⟩ := h; injection hv; omega
  refine ⟨if cap = i.toNat then a else a.map (·.add i.toNat), fun W => ?_, ?_⟩
  · rw [run_slice_lh (P := P) W t a n cap ht k k' i j h0 h1 (by omega), hz]
    simp only [Result.andThen, Go.sliced, Nat.mul_one]
  · exact Vs.sliced h i.toNat j.toNat (by omega) (by omega)
end

/-- Block r alone. -/
abbrev Just (r : Nat) : Nat → Prop := fun k => k = r
theorem Kept.one (w : World) (r i : Nat) (v : Value) : Kept (Just r) w (w.setCell ⟨r, i, none⟩ v) := Kept.setCell (S := Just r) (Kept.refl _ _) (fun _ => rfl) v
theorem Kept.one' {a w : World} {r : Nat} (h : Kept (Just r) a w) (i : Nat) (v : Value) : Kept (Just r) a (w.setCell ⟨r, i, none⟩ v) := Kept.setCell (S := Just r) h (fun _ => rfl) v

/-! ### What the call itself has made: []byte values that own their row. -/
/-- v owns the bytes l, in a block from base on. -/
def Bo (e : TypeId) (w : World) (base : Nat) (v : Value) (l : List UInt8) : Prop := w.ownsRow base e 1 v l.length (l.map u8v)
theorem Bo.nil (e : TypeId) (w : World) (base : Nat) : Bo e w base (.slice none 0 0) [] := World.ownsRow_nil w base e 1
theorem Bo.form {e : TypeId} {w : World} {base : Nat} {v : Value} {l : List UInt8} (h : Bo e w base v l) : ∃ a cap, v = .slice a l.length cap := by
  rcases h.2 with ⟨rfl, h0⟩ | ⟨g, cap, cur, rfl, _⟩
  · exact ⟨none, 0, by rw [h0]⟩
  · exact ⟨_, _, rfl⟩
theorem Bo.bs {e : TypeId} {w : World} {base : Nat} {v : Value} {l : List UInt8} (h : Bo e w base v l) {hi : Nat} (hh : w.heap.size ≤ hi) : Bs w base hi v l := Vs.ofRow h hh
theorem Bo.kept {e : TypeId} {w w' : World} {base : Nat} {v : Value} {l : List UInt8} {S : Nat → Prop} (h : Bo e w base v l) (hk : Kept S w w') (hs : ∀ k, v.ownBlock = some k → ¬ S k) : Bo e w' base v l := by
  refine ⟨h.1, ?_⟩
  rcases h.2 with h2 | ⟨g, cap, cur, hv, hb, hg, r⟩
  · exact .inl h2
  · refine .inr ⟨g, cap, cur, hv, hb, ?_, r⟩
    rw [hk.block g (lt_of_block hg) (hs g (by rw [hv]; rfl))]
    exact hg
theorem Bo.base {e : TypeId} {w : World} {base base' : Nat} {v : Value} {l : List UInt8} (h : Bo e w base v l) (hb : base' ≤ base) : Bo e w base' v l := by
  refine ⟨h.1, ?_⟩
  rcases h.2 with h2 | ⟨g, cap, cur, hv, hg, r⟩
  · exact .inl h2
  · exact .inr ⟨g, cap, cur, hv, Nat.le_trans hb hg, r⟩
/-- The block is one of the call's own. -/
theorem Bo.own {e : TypeId} {w : World} {base : Nat} {v : Value} {l : List UInt8} (h : Bo e w base v l) : ∀ k, v.ownBlock = some k → base ≤ k ∧ k < w.heap.size := World.ownsRow.lt h
theorem Bo.alloc {e : TypeId} {w : World} {base : Nat} {v : Value} {l : List UInt8} (h : Bo e w base v l) (o : Obj) : Bo e (w.alloc o) base v l := World.ownsRow.alloc h o
theorem Bo.drew {e : TypeId} {w : World} {base : Nat} {v : Value} {l : List UInt8} (h : Bo e w base v l) : Bo e w.drew base v l := h

/-- A new block of cells. -/
theorem Vs.new (w : World) (cs : Array Value) (t : TypeId) (cap : Nat) (h1 : cs.size ≤ cap) (h2 : cap ≤ maxLen) : Vs (w.alloc (.cells cs t)) w.heap.size (w.heap.size + 1) (.slice (some ⟨w.heap.size, 0, none⟩) cs.size cap) cs.toList := by
  refine ⟨some ⟨w.heap.size, 0, none⟩, cap, by simp, by simpa using h1, h2, (fun h => by cases h), ?_⟩
  intro ad had i x hx
  simp only [Option.some.injEq] at had
  subst had
  refine ⟨Nat.le_refl _, by simp, ?_⟩
  rw [Addr.add_lit, Nat.zero_add, World.cell?_alloc_new]
  simpa using hx
theorem Bo.new (w : World) (e : TypeId) (l : List UInt8) (cs : Array Value) (hc : cs.toList.take l.length = l.map u8v) (cap : Nat) (hs : cs.size = cap) (h2 : cap ≤ maxLen) : Bo e (w.alloc (.cells cs e)) w.heap.size (.slice (some ⟨w.heap.size, 0, none⟩) l.length cap) l := by
  have hl : l.length ≤ cap := by
    have := congrArg List.length hc
    simp at this
    omega
  exact ⟨by simp, .inr ⟨_, cap, cs, rfl, Nat.le_refl _, heap_alloc_new w _, hl, h2, by omega, by simpa using hc⟩⟩

/-- What the laws on append ask of a type of slices. -/
structure RowTy (P : Program) (t e : TypeId) (z : Value) (bytes : Nat) : Prop where
  sl : P.underlying t = some (.slice e)
  info : ∃ i, P.info? e = some i ∧ i.zero = some z ∧ i.size = 1 ∧ i.bytes = bytes
  one : z.cells.size = 1

theorem run_append_vs {P : Program} {w : World} {t ty e : TypeId} {z : Value} {bytes : Nat} (hT : RowTy P t e z bytes) {base : Nat} {v : Value} {n : Nat} {xs : List Value} (hown : w.ownsRow base e 1 v n xs)
    {lo hi : Nat} {u : Value} {news : List Value} (hu : Vs w lo hi u news) (h1 : ∀ x ∈ news, x.oneCell' = true) (h63 : n + news.length ≤ maxLen) (hbytes : (n + news.length) * bytes ≤ 140737488355328) (hbase : base ≤ w.heap.size) :
    ∃ v' w', (Builtin.append_ #[t, t] ty #[v, u]).run P w = .ok v' w' ∧ w'.ownsRow base e 1 v' (n + news.length) (xs ++ news) ∧ w.grownBy w' v.ownBlock := by
  obtain ⟨i, hi, hz, hs, hb⟩ := hT.info
  obtain ⟨a, cap, rfl, g1, g2, g3, g4⟩ := hu
  cases a with
  | none =>
    have hc := g3 rfl
    subst hc
    have hn : news = [] := List.eq_nil_of_length_eq_zero (by omega)
    subst hn
    exact ⟨v, w, run_append_owned_none (w := w) base t ty e i 1 hT.sl hi v n xs hown, by simpa using hown, World.grownBy.refl _ _⟩
  | some ad =>
    obtain ⟨v', w', r1, r2, r3, _⟩ := run_append_own (P := P) w base t ty e i z 1 bytes hT.sl hi hz hs hb hT.one (by decide) v n xs hown ad news.length cap news (by simp) (fun j u hj => (g4 ad rfl j u hj).2.2) h1 h63 hbytes hbase
    exact ⟨v', w', r1, r2, r3⟩

/-- Where an append leaves its row: the old block, or a new one. -/
theorem append_block {P : Program} {w w' : World} {t ty e : TypeId} {z : Value} {bytes : Nat} (hT : RowTy P t e z bytes) {base : Nat} {v v' : Value} {n : Nat} {xs : List Value} (hown : w.ownsRow base e 1 v n xs)
    {lo hi : Nat} {u : Value} {news : List Value} (hu : Vs w lo hi u news) (h1 : ∀ x ∈ news, x.oneCell' = true) (h63 : n + news.length ≤ maxLen) (hbytes : (n + news.length) * bytes ≤ 140737488355328) (_hbase : base ≤ w.heap.size)
    (hr : (Builtin.append_ #[t, t] ty #[v, u]).run P w = .ok v' w') : v'.ownBlock = v.ownBlock ∨ v'.ownBlock = some w.heap.size := by
  obtain ⟨i, hi, hz, hs, hb⟩ := hT.info
  obtain ⟨a, cap, rfl, g1, g2, g3, g4⟩ := hu
  cases a with
  | none =>
    have hc := g3 rfl
    subst hc
    have hn : news = [] := List.eq_nil_of_length_eq_zero (by omega)
    subst hn
    rw [show ([] : List Value).length = 0 from rfl, run_append_owned_none (w := w) base t ty e i 1 hT.sl hi v n xs hown] at hr
    simp only [Result.ok.injEq] at hr
    rw [← hr.1]
    exact .inl rfl
  | some ad =>
    have hnews : ∀ j u, news[j]? = some u → w.cell? (ad.add j) = some u := fun j u hj => (g4 ad rfl j u hj).2.2
    have hlen : n + news.length ≤ 9223372036854775807 := by unfold maxLen at h63; omega
    rcases hown.2 with ⟨rfl, rfl⟩ | ⟨g, cap', cur, rfl, hbg, hg, hnc, hcm, hcs, htake⟩
    · by_cases hm : news.length = 0
      · have hn : news = [] := List.eq_nil_of_length_eq_zero hm
        subst hn
        simp [Builtin.append_, run_underlying hT.sl, sizeOf, typeInfo, hi, Builtin.lenOf, Builtin.firstCells, loadCells, loadCellsFrom] at hr
        rw [← hr.1]
        exact .inl rfl
      · have h2 := run_append_nil (P := P) w t ty e i z hT.sl hi hz ad news.length cap news (by rw [hs]; simp) hnews (by omega) (by omega) (by rw [hb]; have hb' := hbytes; simp only [Nat.zero_add] at hb'; omega)
        rw [h2] at hr
        simp only [Result.ok.injEq] at hr
        rw [← hr.1]
        exact .inr rfl
    · by_cases hroom : n + news.length ≤ cap'
      · have h2 := run_append_room (P := P) w t ty e i hT.sl hi g n cap' cur hg ad news.length cap news (by rw [hs]; simp) hnews h1 hroom (by rw [hs]; omega)
        rw [h2] at hr
        simp only [Result.ok.injEq] at hr
        rw [← hr.1]
        exact .inl rfl
      · have holds : ∀ j u, xs[j]? = some u → w.cell? ((⟨g, 0, none⟩ : Addr).add j) = some u := hown.cells (g := g) rfl
        have h2 := run_append_grow (P := P) w t ty e i z hT.sl hi hz ⟨g, 0, none⟩ n cap' xs (by rw [hs]; exact hown.1) holds ad news.length cap news (by rw [hs]; simp) hnews (by omega) (by omega) (by rw [hb]; exact growslice_fits (by omega) hbytes)
        rw [h2] at hr
        simp only [Result.ok.injEq] at hr
        rw [← hr.1]
        exact .inr rfl

theorem u8v_one (l : List UInt8) : ∀ x ∈ l.map u8v, x.oneCell' = true := by
  intro u hu
  obtain ⟨_, _, rfl⟩ := List.mem_map.1 hu
  rfl

/-- The block of a value that the call owns. -/
abbrev Of (v : Value) : Nat → Prop := fun k => v.ownBlock = some k
theorem Kept.ofGrown {w w' : World} {v : Value} (h : w.grownBy w' v.ownBlock) : Kept (Of v) w w' := ⟨h.os, h.tape, h.output, h.size, fun k hk hs => h.block k hk (fun e => hs e.symm)⟩

/-- 'append' of bytes to bytes of the call's own, for the walk. -/
theorem wpList_append_bo {P : Program} {ops : Array Oper} {rest : List Oper} {o : Oper} {a : Act} {w : World} {Q : Exit → Act → World → Prop} (hgd : o.guard = none) (s x : Operand) (t : TypeId)
    (ho : o.op = .call { callee := .builtin .append, args := #[s, x], argTypes := #[t, t] }) {e : TypeId} (hT : RowTy P t e (.int .u8 0) 1)
    {v : Value} (hs : a.eval s = v) {u : Value} (hx : a.eval x = u) {base : Nat} {l : List UInt8} (hown : Bo e w base v l) {lo hi : Nat} {m : List UInt8} (hu : Bs w lo hi u m)
    (h63 : l.length + m.length ≤ 140737488355328) (hbase : base ≤ w.heap.size)
    (h : ∀ a' n' cap' w', Bo e w' base (.slice a' n' cap') (l ++ m) → Kept (Of v) w w' → wpList P ops Q rest (a.put o.dst (.slice a' n' cap')) w') : wpList P ops Q (o :: rest) a w := by
  refine wpList_plain hgd fun K hK' => ?_
  obtain ⟨v', w', hr, r2, r3⟩ := run_append_vs (w := w) (ty := o.type) hT hown hu (u8v_one m) (by rw [List.length_map]; unfold maxLen; omega) (by rw [List.length_map]; omega) hbase
  have hb : Bo e w' base v' (l ++ m) := by unfold Bo; rw [List.length_append, List.map_append]; simpa using r2
  obtain ⟨a', cap', rfl⟩ := hb.form
  unfold Oper.wp
  simp only [execOp, ho, resolve, invoke, builtin, Sem.run_bind, Sem.run_pure, Result.andThen_ok, List.map_toArray, List.map_cons, List.map_nil, hs, hx, hr]
  exact hK' _ _ (h _ _ _ _ hb (Kept.ofGrown r3))

/-- The lowest byte of a number. -/
def byteOf (x : Int) : UInt8 := UInt8.ofNat (x % 256).toNat
theorem byteOf_toNat (x : Int) : ((byteOf x).toNat : Int) = x % 256 := by
  unfold byteOf
  rw [UInt8.toNat_ofNat']
  omega
theorem u8v_byteOf (x : Int) : u8v (byteOf x) = .int .u8 (x % 256) := by unfold u8v; rw [byteOf_toNat]
theorem u8v_byteOf' {x : Int} (h0 : 0 ≤ x) (h1 : x < 256) : u8v (byteOf x) = .int .u8 x := by rw [u8v_byteOf, Int.emod_eq_of_lt h0 h1]
theorem u8v_at (l : List UInt8) (i : Nat) (h : i < l.length) : u8v l[i] = .int .u8 (bAt l i) := by simp [u8v, bAt, List.getD, List.getElem?_eq_getElem h]
/-- A number as eight bytes, the lowest first. -/
def leB (n : Int) : List UInt8 := [byteOf n, byteOf (n / 256), byteOf (n / 65536), byteOf (n / 16777216), byteOf (n / 4294967296), byteOf (n / 1099511627776), byteOf (n / 281474976710656), byteOf (n / 72057594037927936)]
theorem leB_length (n : Int) : (leB n).length = 8 := rfl

theorem byteOf_mod (x : Int) : byteOf (x % 256) = byteOf x := by unfold byteOf; rw [Int.emod_emod_of_dvd _ (by decide)]
theorem leB_take (n : Int) (k : Nat) (h : k < 8) : (leB n).take (k + 1) = (leB n).take k ++ [byteOf (n / 2 ^ (8 * k) % 256)] := by
  rw [byteOf_mod]
  match k, h with
  | 0, _ => simp [leB]
  | 1, _ => simp [leB]
  | 2, _ => simp [leB]
  | 3, _ => simp [leB]
  | 4, _ => simp [leB]
  | 5, _ => simp [leB]
  | 6, _ => simp [leB]
  | 7, _ => simp [leB]

/-- 'append' of one byte. -/
theorem wpList_append_byte {P : Program} {ops : Array Oper} {rest : List Oper} {o : Oper} {a : Act} {w : World} {Q : Exit → Act → World → Prop} (hgd : o.guard = none) (s x : Operand) (t : TypeId)
    (ho : o.op = .call { callee := .builtin .append, args := #[s, x], argTypes := #[t, t] }) {e : TypeId} (hT : RowTy P t e (.int .u8 0) 1) {b : Int}
    {v : Value} (hs : a.eval s = v) (hx : a.eval x = .slice (some ⟨w.heap.size, 0, none⟩) 1 1) {base : Nat} {l : List UInt8} (hown : Bo e w base v l) (hb0 : 0 ≤ b) (hb1 : b < 256)
    (h63 : l.length + 1 ≤ 140737488355328) (hbase : base ≤ w.heap.size)
    (h : ∀ a' n' cap' w', Bo e w' base (.slice a' n' cap') (l ++ [byteOf b]) → Kept (Of v) w w' → wpList P ops Q rest (a.put o.dst (.slice a' n' cap')) w') : wpList P ops Q (o :: rest) a (w.alloc (.cells #[.int .u8 b] e)) := by
  have hu : Bs (w.alloc (.cells #[.int .u8 b] e)) w.heap.size (w.heap.size + 1) (.slice (some ⟨w.heap.size, 0, none⟩) 1 1) [byteOf b] := by
    have := Vs.new w #[.int .u8 b] e 1 (by simp) (by decide)
    unfold Bs
    simpa [u8v_byteOf' hb0 hb1] using this
  refine wpList_append_bo hgd s x t ho hT hs hx (hown.alloc _) hu h63 (by simp; omega) fun a' n' cap' w' h1 h2 => ?_
  exact h a' n' cap' w' h1 (((Kept.refl _ w).alloc _).then h2 (fun _ _ h => h))

/-- A step that writes to what the call itself has made. -/
theorem Kept.own {S : Nat → Prop} {a w w' : World} (h : Kept S a w) {v : Value} (k : Kept (Of v) w w') (hv : ∀ k, v.ownBlock = some k → a.heap.size ≤ k) : Kept S a w' :=
  h.then k (fun i hi ho => absurd (hv i ho) (by omega))

/-- 'string(b)'. -/
theorem run_string_bs {P : Program} {w : World} {src dst e : TypeId} (hs : P.underlying src = some (.slice e)) (he : P.underlying e = some (.int .u8)) (hd : P.underlying dst = some .string) {lo hi : Nat} {v : Value} {l : List UInt8} (h : Bs w lo hi v l) :
    (convert src dst v).run P w = .ok (.string ⟨l.toArray⟩) w := by
  obtain ⟨a, cap, rfl, g1, g2, g3, g4⟩ := h
  rw [List.length_map]
  cases a with
  | none =>
    have hc := g3 rfl
    have hn : l = [] := List.eq_nil_of_length_eq_zero (by simp at g1; omega)
    subst hn
    exact run_convert_bytes_nil w src e hs he _ _ dst hd
  | some ad => exact run_convert_bytes_back w src dst e ad cap l hs he hd (fun j hj => by
      have := (g4 ad rfl j _ (List.getElem?_eq_getElem (by simpa using hj))).2.2
      simpa [u8v] using this)

/-! ### Lists of bytes: a [][]byte. -/
/-- The [][]byte v reads as ls: its row in blocks from lo on, below hi; the bytes of each from lo' on, below hi'. -/
def Bss (w : World) (lo hi lo' hi' : Nat) (v : Value) (ls : List (List UInt8)) : Prop :=
  ∃ xs : List Value, Vs w lo hi v xs ∧ xs.length = ls.length ∧ ∀ (i : Nat) (x : Value) (l : List UInt8), xs[i]? = some x → ls[i]? = some l → Bs w lo' hi' x l
theorem Bss.kept {S : Nat → Prop} {w w' : World} {lo hi lo' hi' : Nat} {v : Value} {ls : List (List UInt8)} (h : Bss w lo hi lo' hi' v ls) (hk : Kept S w w') (h1 : ∀ k, lo ≤ k → k < hi → ¬ S k) (h2 : ∀ k, lo' ≤ k → k < hi' → ¬ S k) : Bss w' lo hi lo' hi' v ls := by
  obtain ⟨xs, hv, hl, hx⟩ := h
  exact ⟨xs, hv.kept hk h1, hl, fun i x l a b => (hx i x l a b).kept hk h2⟩
theorem Bss.shape {w : World} {lo hi lo' hi' : Nat} {v : Value} {ls : List (List UInt8)} (h : Bss w lo hi lo' hi' v ls) : ∃ a cap, v = .slice a ls.length cap ∧ ls.length ≤ cap ∧ cap ≤ 9223372036854775807 ∧ (a = none → cap = 0) := by
  obtain ⟨xs, ⟨a, cap, hv, g1, g2, g3, g4⟩, hl, hx⟩ := h
  exact ⟨a, cap, by rw [← hl]; exact hv, by omega, by unfold maxLen at g2; omega, g3⟩
theorem Vs.ne {w : World} {lo hi : Nat} {a : Option Addr} {n cap : Nat} {xs : List Value} (h : Vs w lo hi (.slice a n cap) xs) (hn : 0 < xs.length) :
    ∃ b o, a = some ⟨b, o, none⟩ ∧ lo ≤ b ∧ b < hi ∧ b < w.heap.size ∧ ∀ i x, xs[i]? = some x → w.cell? ⟨b, o + i, none⟩ = some x := by
  obtain ⟨a', cap', hv, g1, g2, g3, g4⟩ := h
  injection hv with e1 e2 e3
  subst e1 e2 e3
  cases a with
  | none => have := g3 rfl; omega
  | some ad =>
    obtain ⟨b, o, sp⟩ := ad
    have h0 := g4 _ rfl 0 _ (List.getElem?_eq_getElem hn)
    have hsp : sp = none := by
      have h2 := h0.2.2
      simp only [Addr.add_zero'] at h2
      unfold World.cell? at h2
      split at h2
      · cases sp with
        | none => rfl
        | some s => simp at h2
      · cases h2
    subst hsp
    refine ⟨b, o, rfl, h0.1, h0.2.1, by simpa [add_block] using block_lt_of_cell h0.2.2, fun i x hi => ?_⟩
    have h3 := (g4 _ rfl i _ hi).2.2
    rw [Addr.add_lit] at h3
    exact h3
/-- One of them: its cell, written out, and what it reads as. -/
theorem Bss.at {w : World} {lo hi lo' hi' : Nat} {a : Option Addr} {n cap : Nat} {ls : List (List UInt8)} (h : Bss w lo hi lo' hi' (.slice a n cap) ls) (hn : 0 < ls.length) :
    ∃ b o, a = some ⟨b, o, none⟩ ∧ lo ≤ b ∧ b < hi ∧ b < w.heap.size ∧ ∀ i (hi : i < ls.length), ∃ a' c', w.cell? ⟨b, o + i, none⟩ = some (.slice a' ls[i].length c') ∧ Bs w lo' hi' (.slice a' ls[i].length c') ls[i] := by
  obtain ⟨xs, hv, hl, hx⟩ := h
  obtain ⟨b, o, rfl, q1, q2, q3, q4⟩ := hv.ne (by omega)
  refine ⟨b, o, rfl, q1, q2, q3, fun i hi => ?_⟩
  have hb := hx i _ _ (List.getElem?_eq_getElem (by omega)) (List.getElem?_eq_getElem hi)
  obtain ⟨a', c', he, _⟩ := hb.shape
  have hc := q4 i _ (List.getElem?_eq_getElem (by omega))
  rw [he] at hb hc
  exact ⟨a', c', hc, hb⟩
/-- How many bytes they are together. -/
def total (ls : List (List UInt8)) : Nat := ls.flatten.length
theorem total_take (ls : List (List UInt8)) (k : Nat) (h : k < ls.length) : total (ls.take (k + 1)) = total (ls.take k) + ls[k].length := by
  unfold total
  rw [List.take_succ_eq_append_getElem h]
  simp only [List.flatten_append, List.flatten_cons, List.flatten_nil, List.append_nil, List.length_append]
theorem total_take_le (ls : List (List UInt8)) (k : Nat) : total (ls.take k) ≤ total ls := by
  unfold total
  conv => rhs; rw [← List.take_append_drop k ls]
  simp only [List.flatten_append, List.length_append]
  omega
theorem flatten_take (ls : List (List UInt8)) (k : Nat) (h : k < ls.length) : (ls.take (k + 1)).flatten = (ls.take k).flatten ++ ls[k] := by
  rw [List.take_succ_eq_append_getElem h]
  simp only [List.flatten_append, List.flatten_cons, List.flatten_nil, List.append_nil]

theorem Bs.all {w : World} {lo hi : Nat} {v : Value} {l : List UInt8} (h : Bs w lo hi v l) : Bs w 0 w.heap.size v l := Vs.wider (Vs.lt h) (Nat.zero_le _) (Nat.min_le_right _ _)
theorem Bs.wider {w : World} {lo hi lo' hi' : Nat} {v : Value} {l : List UInt8} (h : Bs w lo hi v l) (h1 : lo' ≤ lo) (h2 : hi ≤ hi') : Bs w lo' hi' v l := Vs.wider h h1 h2
/-- Pointwise, for a list that is written out. -/
def Reads (w : World) (lo hi : Nat) : List Value → List (List UInt8) → Prop
  | [], [] => True
  | x :: xs, l :: ls => Bs w lo hi x l ∧ Reads w lo hi xs ls
  | _, _ => False
theorem Reads.at {w : World} {lo hi : Nat} : ∀ {xs : List Value} {ls : List (List UInt8)}, Reads w lo hi xs ls → xs.length = ls.length ∧ ∀ (i : Nat) (x : Value) (l : List UInt8), xs[i]? = some x → ls[i]? = some l → Bs w lo hi x l
  | [], [], _ => ⟨rfl, fun i x l h _ => by simp at h⟩
  | x :: xs, l :: ls, ⟨h1, h2⟩ => by
    obtain ⟨g1, g2⟩ := Reads.at h2
    refine ⟨by simp [g1], fun i y m hy hm => ?_⟩
    cases i with
    | zero => simp at hy hm; subst hy hm; exact h1
    | succ i => exact g2 i y m (by simpa using hy) (by simpa using hm)
/-- The new row of a call with any number of arguments. -/
theorem Bss.new (w : World) (cs : Array Value) (t : TypeId) (ls : List (List UInt8)) (n : Nat) (hn : cs.size = n) (hm : n ≤ 9223372036854775807) (h : Reads w 0 w.heap.size cs.toList ls) :
    Bss (w.alloc (.cells cs t)) w.heap.size (w.heap.size + 1) 0 w.heap.size (.slice (some ⟨w.heap.size, 0, none⟩) n n) ls := by
  subst hn
  obtain ⟨h1, h2⟩ := h.at
  refine ⟨cs.toList, Vs.new w cs t cs.size (Nat.le_refl _) (by unfold maxLen; omega), h1, fun i x l a b => ?_⟩
  exact (h2 i x l a b).kept ((Kept.refl None w).alloc _) (fun _ _ _ h => h)

/-- A new block of cells that bears the run-time's mark ('[]byte("..")'). -/
theorem Vs.newMark (w : World) (cs : Array Value) (t : TypeId) (fr : Nat × Nat) (n : Nat) (hn : cs.size = n) (cap : Nat) (h1 : n ≤ cap) (h2 : cap ≤ maxLen) : Vs (w.alloc (.cells cs t fr)) w.heap.size (w.heap.size + 1) (.slice (some ⟨w.heap.size, 0, none⟩) n cap) cs.toList := by
  subst hn
  refine ⟨some ⟨w.heap.size, 0, none⟩, cap, by simp, by simpa using h1, h2, (fun h => by cases h), ?_⟩
  intro ad had i x hx
  simp only [Option.some.injEq] at had
  subst had
  refine ⟨Nat.le_refl _, by simp, ?_⟩
  rw [Addr.add_lit, Nat.zero_add, World.cell?_alloc_mark]
  simpa using hx
theorem Bs.newMark (w : World) (cs : Array Value) (t : TypeId) (fr : Nat × Nat) (n : Nat) (hn : cs.size = n) (h2 : n ≤ 9223372036854775807) (l : List UInt8) (hl : cs.toList = l.map u8v) : Bs (w.alloc (.cells cs t fr)) w.heap.size (w.heap.size + 1) (.slice (some ⟨w.heap.size, 0, none⟩) n n) l := by
  have := Vs.newMark w cs t fr n hn n (Nat.le_refl _) (by unfold maxLen; omega)
  rw [hl] at this
  exact this

/-- 'append' of bytes, as one step of a region that draws its order. -/
theorem step_append_bo {P : Program} {ops : Array Oper} {o : Oper} {a : Act} {w : World} {K : Act → World → Prop} {Q : Exit → Act → World → Prop} {E : Prop} (hgd : o.guard = none) (s x : Operand) (t : TypeId)
    (ho : o.op = .call { callee := .builtin .append, args := #[s, x], argTypes := #[t, t] }) {e : TypeId} (hT : RowTy P t e (.int .u8 0) 1)
    {v : Value} (hs : a.eval s = v) {u : Value} (hx : a.eval x = u) {base : Nat} {l : List UInt8} (hown : Bo e w base v l) {lo hi : Nat} {m : List UInt8} (hu : Bs w lo hi u m)
    (h63 : l.length + m.length ≤ 140737488355328) (hbase : base ≤ w.heap.size)
    (h : ∀ a' n' cap' w', Bo e w' base (.slice a' n' cap') (l ++ m) → Kept (Of v) w w' → K (a.put o.dst (.slice a' n' cap')) w') : if Region.wanted o (yielded ops a.tmps) = true then Oper.wp P o a w K Q else E := by
  have hw : Region.wanted o (yielded ops a.tmps) = true := by simp [Region.wanted, hgd]
  rw [if_pos hw]
  obtain ⟨v', w', hr, r2, r3⟩ := run_append_vs (w := w) (ty := o.type) hT hown hu (u8v_one m) (by rw [List.length_map]; unfold maxLen; omega) (by rw [List.length_map]; omega) hbase
  have hb : Bo e w' base v' (l ++ m) := by unfold Bo; rw [List.length_append, List.map_append]; simpa using r2
  obtain ⟨a', cap', rfl⟩ := hb.form
  unfold Oper.wp
  simp only [execOp, ho, resolve, invoke, builtin, Sem.run_bind, Sem.run_pure, Result.andThen_ok, List.map_toArray, List.map_cons, List.map_nil, hs, hx, hr]
  exact h _ _ _ _ hb (Kept.ofGrown r3)

/-- Numbers that a []uint64 reads as. -/
def u64v (n : Int) : Value := .int .u64 n
def Ns (w : World) (lo hi : Nat) (v : Value) (ns : List Int) : Prop := Vs w lo hi v (ns.map u64v) ∧ ∀ n ∈ ns, 0 ≤ n ∧ n < 18446744073709551616

/-- 'append' of bytes, run. -/
theorem run_append_bo {P : Program} {w : World} {t ty e : TypeId} (hT : RowTy P t e (.int .u8 0) 1) {base : Nat} {v : Value} {l : List UInt8} (hown : Bo e w base v l) {lo hi : Nat} {u : Value} {m : List UInt8} (hu : Bs w lo hi u m)
    (h63 : l.length + m.length ≤ 140737488355328) (hbase : base ≤ w.heap.size) :
    ∃ a' n' c' w', (Builtin.append_ #[t, t] ty #[v, u]).run P w = .ok (.slice a' n' c') w' ∧ Bo e w' base (.slice a' n' c') (l ++ m) ∧ Kept (Of v) w w' ∧ (∀ k, (Value.slice a' n' c').ownBlock = some k → v.ownBlock = some k ∨ k = w.heap.size) := by
  obtain ⟨v', w', hr, r2, r3⟩ := run_append_vs (w := w) (ty := ty) hT hown hu (u8v_one m) (by rw [List.length_map]; unfold maxLen; omega) (by rw [List.length_map]; omega) hbase
  have hblk := append_block hT hown hu (u8v_one m) (by rw [List.length_map]; unfold maxLen; omega) (by rw [List.length_map]; omega) hbase hr
  have hb : Bo e w' base v' (l ++ m) := by unfold Bo; rw [List.length_append, List.map_append]; simpa using r2
  obtain ⟨a', cap', rfl⟩ := hb.form
  refine ⟨_, _, _, w', hr, hb, Kept.ofGrown r3, fun k hk => ?_⟩
  rcases hblk with h | h
  · left; rw [← h]; exact hk
  · right; rw [h] at hk; exact (Option.some.inj hk).symm

/-- A slice of structs of two cells: a byte, an int. -/
def Acts (w : World) (lo hi : Nat) (v : Value) (l : List (Int × Int)) : Prop :=
  (∃ a cap, v = .slice a l.length cap ∧ l.length ≤ cap ∧ cap ≤ 9223372036854775807 ∧ (a = none → cap = 0) ∧
    ∀ ad, a = some ad → ∀ (i : Nat) (x : Int × Int), l[i]? = some x → lo ≤ ad.block ∧ ad.block < hi ∧ w.cell? (ad.add (i * 2)) = some (.int .u8 x.1) ∧ w.cell? ((ad.add (i * 2)).add 1) = some (.int .i64 x.2)) ∧
  ∀ x ∈ l, 0 ≤ x.1 ∧ x.1 < 256 ∧ -9223372036854775808 ≤ x.2 ∧ x.2 < 9223372036854775808
theorem Acts.ne {w : World} {lo hi : Nat} {a : Option Addr} {n cap : Nat} {l : List (Int × Int)} (h : Acts w lo hi (.slice a n cap) l) (hn : 0 < l.length) :
    ∃ b o, a = some ⟨b, o, none⟩ ∧ lo ≤ b ∧ b < hi ∧ b < w.heap.size ∧ ∀ i (hi : i < l.length), w.cell? ⟨b, o + i * 2, none⟩ = some (.int .u8 l[i].1) ∧ w.cell? ⟨b, o + i * 2 + 1, none⟩ = some (.int .i64 l[i].2) := by
  obtain ⟨⟨a', cap', hv, g1, g2, g3, g4⟩, _⟩ := h
  injection hv with e1 e2 e3
  subst e1 e2 e3
  cases a with
  | none => have := g3 rfl; omega
  | some ad =>
    obtain ⟨b, o, sp⟩ := ad
    have h0 := g4 _ rfl 0 _ (List.getElem?_eq_getElem hn)
    have hsp : sp = none := by
      have h2 := h0.2.2.1
      simp only [Nat.zero_mul, Addr.add_zero'] at h2
      unfold World.cell? at h2
      split at h2
      · cases sp with
        | none => rfl
        | some s => simp at h2
      · cases h2
    subst hsp
    refine ⟨b, o, rfl, h0.1, h0.2.1, by simpa [add_block] using block_lt_of_cell h0.2.2.1, fun i hi => ?_⟩
    have h3 := (g4 _ rfl i _ (List.getElem?_eq_getElem hi)).2.2
    rw [Addr.add_lit, Addr.add_lit] at h3
    exact h3

end Go.Pm
