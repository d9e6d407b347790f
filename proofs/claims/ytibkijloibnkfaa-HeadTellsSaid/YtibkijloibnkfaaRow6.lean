/- Arguments that are hashes, opened. Program-independent. -/
import Derived.Test.YtibkijloibnkfaaLowRow
import Derived.Test.YtibkijloibnkfaaRows6
namespace Go.Pm
open Go Go.RowKit Go.ChangeShapes Go.WideShapes Go.ChangeAt
section
variable {H : Type} {enc : TypeId × Value → H} {P : Program}
theorem openHash {W : World} {t e : TypeId} {v : Value} {d : DataW H} {p : List MemPlace} {base : Nat} (ht : P.underlying t = some (.array 32 e)) (he : P.underlying e = some (.int .u8)) (hc : P.cellsOf e = 1) (hC : P.cellsOf t = 32)
    (hok : Value.okWide P W .any base t v) (h : DataW.Trod enc P W 0 (fun _ => true) true t v d p) : ∃ l : List UInt8, v = hashV l ∧ l.length = 32 := by
  obtain ⟨ns, rfl, hl, hw⟩ := openInts ht he hc hC hok h
  refine ⟨ns.map byteOf, ?_, by simpa using hl⟩
  have e1 : (ns.map byteOf).map u8v = ns.map (Value.int .u8) := by
    rw [List.map_map]
    refine List.map_congr_left fun z hz => ?_
    have hw := hw z hz
    simp [Lit.wf, IntKind.min, IntKind.max, IntKind.signed, IntKind.bits] at hw
    exact u8v_byteOf' (by omega) (by omega)
  rw [← e1]
/-- A hash's cells. -/
theorem hashCells {W : World} {t e : TypeId} {m : Nat} {cs : List Value} {x : DataW H × List MemPlace} (ht : P.underlying t = some (.array 32 e)) (he : P.underlying e = some (.int .u8)) (hc : P.cellsOf e = 1) (hl : cs.length = 32)
    (hf : DataW.trod enc P W 0 (fun _ => true) true m t cs = some x) : ∃ l : List UInt8, cs = l.map u8v ∧ l.length = 32 := by
  cases m with
  | zero => simp [DataW.trod] at hf
  | succ m =>
    unfold DataW.trod at hf
    simp only [ht] at hf
    split at hf
    · simp only [Option.map_eq_some_iff] at hf
      obtain ⟨ys, hy, _⟩ := hf
      have each := mapM_each hy
      have get : ∀ i, i < 32 → ∃ b : UInt8, cs[i]? = some (u8v b) := fun i hi => by
        obtain ⟨y, hy⟩ := each i (List.mem_range.2 hi)
        rw [hc, Nat.mul_one] at hy
        have hlt : i < cs.length := by omega
        rw [List.drop_eq_getElem_cons hlt, List.take_succ_cons, List.take_zero] at hy
        obtain ⟨z, ez, _, wz⟩ := DataW.trod_int he hy
        simp [Lit.wf, IntKind.min, IntKind.max, IntKind.signed, IntKind.bits] at wz
        refine ⟨byteOf z, ?_⟩
        rw [u8v_byteOf' (by omega) (by omega), List.getElem?_eq_getElem hlt]
        exact congrArg some (List.cons.inj ez).1
      obtain ⟨l, hl2, hg⟩ := list_of (Q := fun i b => cs[i]? = some (u8v b)) 32 get
      refine ⟨l, ?_, hl2⟩
      apply List.ext_getElem?
      intro i
      simp only [List.getElem?_map]
      by_cases hi : i < l.length
      · rw [List.getElem?_eq_getElem hi, Option.map_some]
        exact hg i _ (List.getElem?_eq_getElem hi)
      · rw [List.getElem?_eq_none (by omega), List.getElem?_eq_none (by omega)]
        rfl
    · cases hf
end
end Go.Pm
