/- 'append' of bytes that makes a new row: what came in is as it was. Loads of whole blocks in regions. Program-independent. -/
import Derived.Test.YtffmblafpkdhlaaArr
namespace Go.Pm
open Go Go.RowKit

/-- The row that an append has made: the bytes, noughts behind them. -/
def rowB (l : List UInt8) (cap : Nat) : Array Value := (l.map u8v).toArray ++ Builtin.zeroCells (Value.cells (.int .u8 0)) (cap - l.length)
/-- 'append(v, u..)' where v has no room. -/
theorem run_append_new {P : Program} {w : World} {t ty e : TypeId} (hT : RowTy P t e (.int .u8 0) 1) {lo hi lo' hi' : Nat} {ad : Addr} {cap : Nat} {u : Value} {l m : List UInt8} (hv : Bs w lo hi (.slice (some ad) l.length cap) l) (hu : Bs w lo' hi' u m)
    (hm : 0 < m.length) (hcap : cap < l.length + m.length) (h63 : l.length + m.length ≤ 140737488355328) :
    ∃ c w', (Builtin.append_ #[t, t] ty #[.slice (some ad) l.length cap, u]).run P w = .ok (.slice (some ⟨w.heap.size, 0, none⟩) (l ++ m).length c) w' ∧ Blk w' w.heap.size (rowB (l ++ m) c) e ∧ (l ++ m).length ≤ c ∧ c ≤ maxLen ∧ Kept None w w' := by
  obtain ⟨i, hi, hz, hs, hb⟩ := hT.info
  obtain ⟨sp, sc, rfl, g1, g2, g3⟩ := hu.shape
  obtain ⟨a', cap', e1, _, _, h3, h4⟩ := hu
  injection e1 with e1 e2 e3
  subst e1 e3
  cases sp with
  | none => have := g3 rfl; omega
  | some au =>
    obtain ⟨b', cap2, f1, _, _, _, h5⟩ := hv
    injection f1 with f1 f2 f3
    subst f1 f3
    have hr := run_append_grow (P := P) w t ty e i (.int .u8 0) hT.sl hi hz ad l.length cap (l.map u8v) (by simp [hs]) (fun j v hj => (h5 ad rfl j v hj).2.2) au m.length sc (m.map u8v) (by simp [hs]) (fun j v hj => (h4 au rfl j v hj).2.2) hcap (by omega)
      (by rw [hb]; exact growslice_fits hcap (by omega))
    refine ⟨_, _, by rw [List.length_append]; exact hr, ?_, ?_, ?_, ((Kept.refl None w).drew).alloc _⟩
    · have h6 := Blk.new w.drew ((l.map u8v).toArray ++ (m.map u8v).toArray ++ Builtin.zeroCells (Value.cells (.int .u8 0)) (grownCap w (l.length + m.length) cap e - (l.length + m.length))) e
      unfold rowB
      rw [List.map_append, List.length_append, ← List.append_toArray]
      exact h6
    · rw [List.length_append]; exact grownCap_ge _ _ _ _
    · exact grownCap_le_maxLen _ _ _ _ (by unfold maxLen; omega)
/-- 'append([]byte(nil), u..)'. -/
theorem run_append_first {P : Program} {w : World} {t ty e : TypeId} (hT : RowTy P t e (.int .u8 0) 1) {lo' hi' : Nat} {u : Value} {m : List UInt8} (hu : Bs w lo' hi' u m) (hm : 0 < m.length) (h63 : m.length ≤ 140737488355328) :
    ∃ c w', (Builtin.append_ #[t, t] ty #[.slice none 0 0, u]).run P w = .ok (.slice (some ⟨w.heap.size, 0, none⟩) m.length c) w' ∧ Blk w' w.heap.size (rowB m c) e ∧ m.length ≤ c ∧ c ≤ maxLen ∧ Kept None w w' := by
  obtain ⟨i, hi, hz, hs, hb⟩ := hT.info
  obtain ⟨sp, sc, rfl, g1, g2, g3⟩ := hu.shape
  obtain ⟨a', cap', e1, _, _, h3, h4⟩ := hu
  injection e1 with e1 e2 e3
  subst e1 e3
  cases sp with
  | none => have := g3 rfl; omega
  | some au =>
    have hr := run_append_nil (P := P) w t ty e i (.int .u8 0) hT.sl hi hz au m.length sc (m.map u8v) (by simp [hs]) (fun j v hj => (h4 au rfl j v hj).2.2) hm (by omega) (by rw [hb]; omega)
    refine ⟨_, _, hr, ?_, grownCap_ge _ _ _ _, grownCap_le_maxLen _ _ _ _ (by unfold maxLen; omega), ((Kept.refl None w).drew).alloc _⟩
    exact Blk.new w.drew _ e
/-- A row that an append has made reads as its bytes. -/
theorem rowB_bs {w : World} {g c : Nat} {l : List UInt8} {e : TypeId} (hb : Blk w g (rowB l c) e) (h1 : l.length ≤ c) (h2 : c ≤ maxLen) : Bs w g (g + 1) (.slice (some ⟨g, 0, none⟩) l.length c) l := by
  refine ⟨some ⟨g, 0, none⟩, c, by simp, by simpa using h1, h2, (fun h => by cases h), fun ad had i x hx => ?_⟩
  obtain rfl := Option.some.inj had
  refine ⟨Nat.le_refl _, Nat.lt_succ_self _, ?_⟩
  rw [Addr.add_lit, Nat.zero_add, hb.cell]
  have hi := (List.getElem?_eq_some_iff.1 hx).1
  unfold rowB
  rw [Array.getElem?_append_left (by simpa using hi)]
  simpa using hx
/-- A whole block, loaded in a region. -/
theorem exec_load_blk {P : Program} {o : Oper} {a : Act} {w : World} (ty : TypeId) (x : Operand) (ho : o.op = .load ty x) {g : Nat} (hx : a.eval x = .pointer (some ⟨g, 0, none⟩)) {t : TypeId} {cs : Array Value} (hb : Blk w g cs t) (hT : AggTy P ty cs.size) :
    (execOp a.eval o).run P w = .ok (.value (.agg cs)) w := by
  have hr := run_load_blk (P := P) (ty := ty) hb hT
  unfold execOp
  simp only [ho, hx, Sem.run_bind, hr, Result.andThen_ok, Sem.run_pure]
/-- An append in a region. -/
theorem gives_append {P : Program} {o : Oper} {a : Act} {w : World} {X : Value → World → Prop} (s x : Operand) (t : TypeId) (ho : o.op = .call { callee := .builtin .append, args := #[s, x], argTypes := #[t, t] }) {v u : Value} (hs : a.eval s = v) (hx : a.eval x = u) {r : Value} {w' : World}
    (hr : (Builtin.append_ #[t, t] o.type #[v, u]).run P w = .ok r w') (h : X r w') : Gives P o a w X := by
  unfold Gives
  simp only [execOp, ho, resolve, invoke, builtin, Sem.run_bind, Sem.run_pure, Result.andThen_ok, List.map_toArray, List.map_cons, List.map_nil, hs, hx, hr]
  exact h
end Go.Pm
