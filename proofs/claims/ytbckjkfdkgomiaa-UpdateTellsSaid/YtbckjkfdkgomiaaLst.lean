/- Lists of bytes that grow: a [][]byte that the call itself has made. Program-independent. -/
import Derived.Test.YtbckjkfdkgomiaaBase
namespace Go.Pm
open Go Go.RowKit

/-- What reads stays so where the value's own block isn't touched. -/
theorem Vs.keptOwn {S : Nat → Prop} {w w' : World} {lo hi : Nat} {v : Value} {xs : List Value} (h : Vs w lo hi v xs) (hk : Kept S w w') (hs : 0 < xs.length → ∀ k, v.ownBlock = some k → ¬ S k) : Vs w' lo hi v xs := by
  obtain ⟨a, cap, rfl, h1, h2, h3, h4⟩ := h
  refine ⟨a, cap, rfl, h1, h2, h3, fun ad had i x hx => ?_⟩
  obtain ⟨q1, q2, q3⟩ := h4 ad had i x hx
  refine ⟨q1, q2, ?_⟩
  subst had
  rw [hk.cell (block_lt_of_cell q3) (by rw [add_block]; exact hs (by have := (List.getElem?_eq_some_iff.1 hx).1; omega) _ rfl)]
  exact q3
theorem Bs.keptOwn {S : Nat → Prop} {w w' : World} {lo hi : Nat} {v : Value} {l : List UInt8} (h : Bs w lo hi v l) (hk : Kept S w w') (hs : 0 < l.length → ∀ k, v.ownBlock = some k → ¬ S k) : Bs w' lo hi v l := Vs.keptOwn h hk (by rw [List.length_map]; exact hs)
/-- v owns a row of []byte values, in a block from base on; each reads as one of ls, and lies in another block. -/
def Bos (e : TypeId) (w : World) (base : Nat) (v : Value) (ls : List (List UInt8)) : Prop :=
  ∃ xs, w.ownsRow base e 1 v ls.length xs ∧ ∀ (i : Nat) (x : Value) (l : List UInt8), xs[i]? = some x → ls[i]? = some l → Bs w 0 w.heap.size x l ∧ (0 < l.length → ∀ k, x.ownBlock = some k → v.ownBlock ≠ some k)
theorem Bos.nil (e : TypeId) (w : World) (base : Nat) : Bos e w base (.slice none 0 0) [] := ⟨[], World.ownsRow_nil w base e 1, fun i x l h => by simp at h⟩
theorem Bos.form {e : TypeId} {w : World} {base : Nat} {v : Value} {ls : List (List UInt8)} (h : Bos e w base v ls) : ∃ a cap, v = .slice a ls.length cap := by
  obtain ⟨xs, h, _⟩ := h
  rcases h.2 with ⟨rfl, h0⟩ | ⟨g, cap, cur, rfl, _⟩
  · exact ⟨none, 0, by rw [h0]⟩
  · exact ⟨_, _, rfl⟩
theorem Bos.own {e : TypeId} {w : World} {base : Nat} {v : Value} {ls : List (List UInt8)} (h : Bos e w base v ls) : ∀ k, v.ownBlock = some k → base ≤ k ∧ k < w.heap.size := by
  obtain ⟨xs, h, _⟩ := h
  exact World.ownsRow.lt h
theorem Bos.bss {e : TypeId} {w : World} {base : Nat} {v : Value} {ls : List (List UInt8)} (h : Bos e w base v ls) : Bss w base w.heap.size 0 w.heap.size v ls := by
  obtain ⟨xs, h, hi⟩ := h
  have := h.1
  exact ⟨xs, Vs.ofRow h (Nat.le_refl _), by omega, fun i x l a b => (hi i x l a b).1⟩
/-- Where only new memory is made. -/
theorem Bos.kept {e : TypeId} {w w' : World} {base : Nat} {v : Value} {ls : List (List UInt8)} (h : Bos e w base v ls) (hk : Kept None w w') : Bos e w' base v ls := by
  obtain ⟨xs, h, hi⟩ := h
  refine ⟨xs, ⟨h.1, ?_⟩, fun i x l a b => ⟨((hi i x l a b).1.kept hk (fun _ _ _ h => h)).wider (Nat.le_refl _) hk.size, (hi i x l a b).2⟩⟩
  rcases h.2 with h2 | ⟨g, cap, cur, hv, hb, hg, r⟩
  · exact .inl h2
  · refine .inr ⟨g, cap, cur, hv, hb, ?_, r⟩
    rw [hk.block g (lt_of_block hg) (fun h => h)]
    exact hg
/-- Some blocks may have turned, none of these. -/
theorem Bos.keptS {S : Nat → Prop} {e : TypeId} {w w' : World} {base : Nat} {v : Value} {ls : List (List UInt8)} (h : Bos e w base v ls) (hk : Kept S w w') (hv : ∀ k, v.ownBlock = some k → ¬ S k)
    (hx : ∀ (x : Value) (l : List UInt8), l ∈ ls → Bs w 0 w.heap.size x l → 0 < l.length → ∀ k, x.ownBlock = some k → ¬ S k) : Bos e w' base v ls := by
  obtain ⟨xs, h, hi⟩ := h
  refine ⟨xs, ⟨h.1, ?_⟩, fun i x l a b => ⟨((hi i x l a b).1.keptOwn hk (hx x l (List.mem_of_getElem? b) (hi i x l a b).1)).wider (Nat.le_refl _) hk.size, (hi i x l a b).2⟩⟩
  rcases h.2 with h2 | ⟨g, cap, cur, hv', hb, hg, r⟩
  · exact .inl h2
  · refine .inr ⟨g, cap, cur, hv', hb, ?_, r⟩
    rw [hk.block g (lt_of_block hg) (hv g (by rw [hv']; rfl))]
    exact hg
/-- 'append' of one []byte (the row of one cell has just been laid). -/
theorem wpList_append_item {P : Program} {ops : Array Oper} {rest : List Oper} {o : Oper} {a : Act} {w : World} {Q : Exit → Act → World → Prop} (hgd : o.guard = none) (s x : Operand) (t : TypeId)
    (ho : o.op = .call { callee := .builtin .append, args := #[s, x], argTypes := #[t, t] }) {e : TypeId} (hT : RowTy P t e (.slice none 0 0) 24)
    {v : Value} (hs : a.eval s = v) {y : Value} {g : Nat} (hx : a.eval x = .slice (some ⟨g, 0, none⟩) 1 1) (hg : g = w.heap.size) {base : Nat} {ls : List (List UInt8)} {l : List UInt8} (hown : Bos e w base v ls) (hy : Bs w 0 w.heap.size y l) (hne : 0 < l.length → ∀ k, y.ownBlock = some k → v.ownBlock ≠ some k)
    (h63 : (ls.length + 1) * 24 ≤ 140737488355328) (hbase : base ≤ w.heap.size)
    (h : ∀ a' n' cap' w', Bos e w' base (.slice a' n' cap') (ls ++ [l]) → Kept (Of v) w w' → (∀ k, (Value.slice a' n' cap').ownBlock = some k → v.ownBlock = some k ∨ k = w.heap.size + 1) → wpList P ops Q rest (a.put o.dst (.slice a' n' cap')) w') : wpList P ops Q (o :: rest) a (w.alloc (.cells #[y] e)) := by
  subst hg
  refine wpList_plain hgd fun K hK' => ?_
  obtain ⟨xs, hown, hi⟩ := hown
  have hu : Vs (w.alloc (.cells #[y] e)) w.heap.size (w.heap.size + 1) (.slice (some ⟨w.heap.size, 0, none⟩) 1 1) [y] := by
    have := Vs.new w #[y] e 1 (by simp) (by decide)
    simpa using this
  have h1 : ∀ z ∈ [y], z.oneCell' = true := fun z hz => by
    obtain rfl := List.mem_singleton.1 hz
    obtain ⟨a0, c0, rfl, _⟩ := hy.shape
    rfl
  obtain ⟨v', w', hr, r2, r3⟩ := run_append_vs (w := w.alloc (.cells #[y] e)) (ty := o.type) hT (hown.alloc _) hu h1 (by simp; unfold maxLen; omega) (by simpa using h63) (by simp; omega)
  have hblk := append_block hT (hown.alloc (.cells #[y] e)) hu h1 (by simp; unfold maxLen; omega) (by simpa using h63) (by simp; omega) hr
  have hk1 : Kept (Of v) w (w.alloc (.cells #[y] e)) := (Kept.refl _ w).alloc _
  have hk2 : Kept (Of v) w w' := hk1.then (Kept.ofGrown r3) (fun _ _ h => h)
  have hxl := hown.1
  have hb : Bos e w' base v' (ls ++ [l]) := by
    have read : ∀ (x : Value) (m : List UInt8), Bs w 0 w.heap.size x m → (0 < m.length → ∀ k, x.ownBlock = some k → v.ownBlock ≠ some k) → Bs w' 0 w'.heap.size x m ∧ (0 < m.length → ∀ k, x.ownBlock = some k → v'.ownBlock ≠ some k) := fun x m hm hn => by
      refine ⟨(hm.keptOwn hk2 hn).wider (Nat.le_refl _) hk2.size, fun h0 k hk e' => ?_⟩
      rcases hblk with hb | hb
      · rw [hb] at e'; exact hn h0 k hk e'
      · rw [hb] at e'
        simp only [World.size_alloc, Option.some.injEq] at e'
        obtain ⟨a0, c0, rfl, g1, g2, g3⟩ := hm.shape
        cases a0 with
        | none => cases hk
        | some ad =>
          simp only [Value.ownBlock, Option.some.injEq] at hk
          subst hk
          obtain ⟨a1, c1, e1, q1, q2, q3, q4⟩ := hm
          injection e1 with e2 e3 e4
          subst e2
          have := q4 ad rfl 0 _ (List.getElem?_eq_getElem (by simpa using h0))
          omega
    refine ⟨xs ++ [y], by simpa using r2, fun i x m hx hm => ?_⟩
    by_cases hlt : i < xs.length
    · rw [List.getElem?_append_left hlt] at hx
      rw [List.getElem?_append_left (by omega)] at hm
      obtain ⟨p1, p2⟩ := hi i x m hx hm
      exact read x m p1 p2
    · have hlt2 := (List.getElem?_eq_some_iff.1 hx).1
      simp at hlt2
      have e1 : i = xs.length := by omega
      subst e1
      rw [List.getElem?_append_right (Nat.le_refl _)] at hx
      rw [List.getElem?_append_right (by omega)] at hm
      simp at hx
      simp only [show xs.length - ls.length = 0 by omega, List.getElem?_cons_zero, Option.some.injEq] at hm
      subst hx hm
      exact read _ _ hy hne
  obtain ⟨a', cap', rfl⟩ := hb.form
  unfold Oper.wp
  simp only [execOp, ho, resolve, invoke, builtin, Sem.run_bind, Sem.run_pure, Result.andThen_ok, List.map_toArray, List.map_cons, List.map_nil, hs, hx, hr]
  refine hK' _ _ (h _ _ _ _ hb hk2 fun k hk => ?_)
  rcases hblk with h | h
  · left; rw [← h]; exact hk
  · right; rw [h] at hk; simpa using (Option.some.inj hk).symm
end Go.Pm
