/- A text's bytes ('[]byte(s)'), and bytes as a text, as steps of a walk. Program-independent. -/
import Derived.Test.YtbckjkfdkgomiaaKn
import Derived.Test.YtbckjkfdkgomiaaArr
import Derived.Test.YtbckjkfdkgomiaaReq5
import Derived.Lib.ConvBytes
import Derived.Laws.AppendOwn
namespace Go.Pm
open Go Go.RowKit

theorem bytesCells_at (w : World) (e : TypeId) (s : ByteArray) (i : Nat) (x : Value) (h : ((strB s).map u8v)[i]? = some x) : (Lib.bytesCells w e s)[i]? = some x := by
  unfold Lib.bytesCells
  have hi := (List.getElem?_eq_some_iff.1 h).1
  simp [strB] at hi
  rw [Array.getElem?_append_left (by simpa using hi)]
  simpa [strB, u8v] using h
theorem run_bytes_str {P : Program} (w : World) {src dst e : TypeId} (s : ByteArray) (hs : P.underlying src = some .string) (hd : P.underlying dst = some (.slice e)) (he : P.underlying e = some (.int .u8)) (hl : s.size ≤ 140737488355328) :
    ∃ c w', (convert src dst (.string s)).run P w = .ok (.slice (some ⟨w.heap.size, 0, none⟩) s.size c) w' ∧ Kept None w w' ∧ Bs w' w.heap.size (w.heap.size + 1) (.slice (some ⟨w.heap.size, 0, none⟩) s.size c) (strB s) := by
  refine ⟨_, _, Lib.run_convert_string_bytes w src dst e s hs hd he, ?_, ?_⟩
  · have k0 : Kept None w (w.drew.alloc (.cells (Lib.bytesCells w e s) e)) := ((Kept.refl None w).drew).alloc _
    exact k0.freeze _ _ (Nat.le_refl _)
  · refine ⟨some ⟨w.heap.size, 0, none⟩, grownCap w s.size 0 e, by rw [List.length_map, strB_len], by rw [List.length_map, strB_len]; exact grownCap_ge _ _ _ _, grownCap_le_maxLen _ _ _ _ (by unfold maxLen; omega), (fun h => by cases h), fun ad had i x hx => ?_⟩
    obtain rfl := Option.some.inj had
    refine ⟨Nat.le_refl _, Nat.lt_succ_self _, ?_⟩
    rw [Addr.add_lit, Nat.zero_add]
    unfold World.cell?
    rw [Lib.bytesWorld_at_new]
    exact bytesCells_at w e s i x hx
/-- '[]byte(s)', for the walk. -/
theorem wpList_bytes {P : Program} {ops : Array Oper} {rest : List Oper} {o : Oper} {a : Act} {w : World} {Q : Exit → Act → World → Prop} (hgd : o.guard = none) (src dst e : TypeId) (x : Operand) (ho : o.op = .convert src dst x)
    (hs : P.underlying src = some .string) (hd : P.underlying dst = some (.slice e)) (he : P.underlying e = some (.int .u8)) {s : ByteArray} (hx : a.eval x = .string s) (hl : s.size ≤ 140737488355328)
    (h : ∀ g c w', w.heap.size ≤ g → Kept None w w' → Bs w' g (g + 1) (.slice (some ⟨g, 0, none⟩) s.size c) (strB s) → wpList P ops Q rest (a.put o.dst (.slice (some ⟨g, 0, none⟩) s.size c)) w') : wpList P ops Q (o :: rest) a w := by
  refine wpList_plain hgd fun K hK' => ?_
  obtain ⟨c, w', hr, h1, h2⟩ := run_bytes_str (P := P) w (src := src) (dst := dst) s hs hd he hl
  unfold Oper.wp
  simp only [execOp, ho, Sem.run_bind, Sem.run_pure, Result.andThen_ok, hx, hr]
  exact hK' _ _ (h _ _ _ (Nat.le_refl _) h1 h2)
/-- 'string(b)', for the walk. -/
theorem wpList_text {P : Program} {ops : Array Oper} {rest : List Oper} {o : Oper} {a : Act} {w : World} {Q : Exit → Act → World → Prop} (hgd : o.guard = none) (src dst e : TypeId) (x : Operand) (ho : o.op = .convert src dst x)
    (hs : P.underlying src = some (.slice e)) (he : P.underlying e = some (.int .u8)) (hd : P.underlying dst = some .string) {v : Value} (hx : a.eval x = v) {lo hi : Nat} {l : List UInt8} (hv : Bs w lo hi v l)
    (h : wpList P ops Q rest (a.put o.dst (.string ⟨l.toArray⟩)) w) : wpList P ops Q (o :: rest) a w := by
  refine wpList_plain hgd fun K hK' => ?_
  have hr := run_string_bs (P := P) hs he hd hv
  unfold Oper.wp
  simp only [execOp, ho, Sem.run_bind, Sem.run_pure, Result.andThen_ok, hx, hr]
  exact hK' _ _ h
/-- '[]byte(s)', as an operation of a region that adds. -/
theorem gives_bytes {P : Program} {o : Oper} {a : Act} {w : World} {X : Value → World → Prop} (src dst e : TypeId) (x : Operand) (ho : o.op = .convert src dst x)
    (hs : P.underlying src = some .string) (hd : P.underlying dst = some (.slice e)) (he : P.underlying e = some (.int .u8)) {s : ByteArray} (hx : a.eval x = .string s) (hl : s.size ≤ 140737488355328)
    (h : ∀ c w', Kept None w w' → Bs w' w.heap.size (w.heap.size + 1) (.slice (some ⟨w.heap.size, 0, none⟩) s.size c) (strB s) → X (.slice (some ⟨w.heap.size, 0, none⟩) s.size c) w') : Gives P o a w X := by
  obtain ⟨c, w', hr, h1, h2⟩ := run_bytes_str (P := P) w (src := src) (dst := dst) s hs hd he hl
  unfold Gives
  simp only [execOp, ho, Sem.run_bind, Sem.run_pure, Result.andThen_ok, hx, hr]
  exact h _ _ h1 h2
end Go.Pm
