/- Arguments that are hashes, opened. Program-independent. -/
import Derived.Test.YtdalfcbakjgcmaaLowRow
import Derived.Test.YtdalfcbakjgcmaaRows6
namespace Go.Pm
open Go Go.RowKit Go.ChangeShapes Go.WideShapes Go.ChangeAt
section
variable {H : Type} {enc : TypeId × Value → H} {P : Program}
theorem openHash {W : World} {t e : TypeId} {v : Value} {d : DataW H} {p : List MemPlace} {base : Nat} (ht : P.underlying t = some (.array 32 e)) (he : P.underlying e = some (.int .u8)) (hc : P.cellsOf e = 1) (hC : P.cellsOf t = 32)
    (hok : Value.okWide P W .any base t v) (h : DataW.Trod enc P W 0 (fun _ => true) true t v d p) : ∃ l : List UInt8, v = hashV l ∧ l.length = 32 := by
  obtain ⟨ns, rfl, hl, hw⟩ := openInts ht he hc hC hok h
  refine ⟨ns.map byteOf, ?_, by simpa using hl⟩
  have e1 : (ns.map byteOf).map u8v = ns.map (Value.int .u8) := by
    rw [List.map_map]
    refine List.map_congr_left fun z hz => ?_
    have hw := hw z hz
    simp [Lit.wf, IntKind.min, IntKind.max, IntKind.signed, IntKind.bits] at hw
    exact u8v_byteOf' (by omega) (by omega)
  rw [← e1]
end
end Go.Pm
