/- Arguments that are numbers of two bytes, opened. -/
import Derived.Test.YtdlnikkfpfdbbaaLowRow
import Derived.Test.YtdlnikkfpfdbbaaItems6
namespace Go.Pm
open Go Go.RowKit Go.ChangeShapes Go.WideShapes Go.ChangeAt
section
variable {H : Type} {enc : TypeId × Value → H} {P : Program}
/-- A []uint16 argument. -/
theorem openU16s {W : World} {t e : TypeId} {v : Value} {d : DataW H} {p : List MemPlace} {base : Nat} (ht : P.underlying t = some (.slice e)) (he : P.underlying e = some (.int .u16)) (hc : P.cellsOf e = 1)
    (hok : Value.okWide P W .any base t v) (h : DataW.Trod enc P W 0 (fun _ => true) true t v d p) (hlt : ∀ x ∈ p, x.block < W.heap.size) : ∃ ns, U16s W 0 W.heap.size v ns := by
  obtain ⟨a0, len, cap, rfl⟩ := okWide_slice ht hok
  obtain ⟨fuel, hf⟩ := h
  rcases open_ints ht he hc hf with ⟨hcs, hx⟩ | ⟨a, len', cap', zs, hcs, _, hl, hm, hz, hx, hcell, hwz⟩
  · simp [Value.cells] at hcs
    obtain ⟨rfl, rfl, rfl⟩ := hcs
    exact ⟨[], Vs.nil _ _ _, fun n hn => by simp at hn⟩
  · simp [Value.cells] at hcs
    obtain ⟨rfl, rfl, rfl⟩ := hcs
    simp only [Prod.mk.injEq] at hx
    obtain ⟨_, rfl⟩ := hx
    simp only [if_true] at hz
    refine ⟨zs.take len, ⟨some a, cap, ?_, ?_, hm, (fun h => by cases h), ?_⟩, ?_⟩
    · simp; omega
    · simp; omega
    · intro ad had i x hx
      obtain rfl := Option.some.inj had
      have hi : i < len ∧ x = .int .u16 (zs.getD i 0) := by
        rw [List.getElem?_map, List.getElem?_take] at hx
        split at hx
        · rename_i hi
          have hiz : i < zs.length := by omega
          rw [List.getElem?_eq_getElem hiz] at hx
          simp only [Option.map_some, Option.some.injEq] at hx
          refine ⟨hi, ?_⟩
          rw [← hx]
          simp [List.getD, List.getElem?_eq_getElem hiz]
        · simp at hx
      have hb := hlt (.cell (a.add i).block (a.add i).off) (MemPlace.mem_row.2 ⟨i, by omega, by simp [Addr.add]; split <;> simp_all⟩)
      refine ⟨Nat.zero_le _, ?_, ?_⟩
      · rw [← add_block a i]; exact hb
      · rw [hi.2]
        exact hcell i (by omega)
    · intro n hn
      have hw := hwz n (List.mem_of_mem_take hn)
      simp [Lit.wf, IntKind.min, IntKind.max, IntKind.signed, IntKind.bits] at hw
      exact ⟨by omega, by omega⟩
end
end Go.Pm
