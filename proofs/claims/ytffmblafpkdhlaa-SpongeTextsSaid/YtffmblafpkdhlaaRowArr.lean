/- Arguments that are arrays of integers, opened. Program-independent. -/
import Derived.Test.YtffmblafpkdhlaaRow
import Derived.Test.YtffmblafpkdhlaaSpec2
import Derived.Laws.IdiomArrays
namespace Go.Pm
open Go Go.RowKit Go.ChangeShapes Go.WideShapes Go.ChangeAt

theorem mapM_each {α β : Type} {f : α → Option β} : ∀ {l : List α} {ys : List β}, l.mapM f = some ys → ∀ i ∈ l, ∃ y, f i = some y
  | [], ys, _, i, hi => by simp at hi
  | a :: l, ys, h, i, hi => by
    rw [List.mapM_cons] at h
    simp only [bind, Option.bind_eq_some_iff, pure, Option.some.injEq] at h
    obtain ⟨y, hy, ys', hys, rfl⟩ := h
    rcases List.mem_cons.1 hi with rfl | hi
    · exact ⟨y, hy⟩
    · exact mapM_each hys i hi

section
variable {H : Type} {enc : TypeId × Value → H} {P : Program}
/-- An argument that is an array of integers. -/
theorem openInts {W : World} {t e : TypeId} {kd : IntKind} {n : Nat} {v : Value} {d : DataW H} {p : List MemPlace} {base : Nat} (ht : P.underlying t = some (.array n e)) (he : P.underlying e = some (.int kd)) (hc : P.cellsOf e = 1) (hC : P.cellsOf t = n)
    (hok : Value.okWide P W .any base t v) (h : DataW.Trod enc P W 0 (fun _ => true) true t v d p) : ∃ ns : List Int, v = .agg (ns.map (Value.int kd)).toArray ∧ ns.length = n ∧ ∀ z ∈ ns, Lit.wf (.int kd z) = true := by
  simp only [Value.okWide, ht] at hok
  obtain ⟨cs, rfl, h2, _⟩ := hok
  rw [hC] at h2
  obtain ⟨fuel, hf⟩ := h
  cases fuel with
  | zero => simp [DataW.trod] at hf
  | succ m =>
    unfold DataW.trod at hf
    simp only [ht, Value.cells] at hf
    split at hf
    · simp only [Option.map_eq_some_iff] at hf
      obtain ⟨ys, hy, _⟩ := hf
      have each := mapM_each hy
      have get : ∀ i, i < n → ∃ z, cs.toList[i]? = some (.int kd z) ∧ Lit.wf (.int kd z) = true := fun i hi => by
        obtain ⟨y, hy⟩ := each i (List.mem_range.2 hi)
        rw [hc, Nat.mul_one] at hy
        have hlt : i < cs.toList.length := by simpa [h2] using hi
        rw [List.drop_eq_getElem_cons hlt, List.take_succ_cons, List.take_zero] at hy
        obtain ⟨z, ez, _, wz⟩ := DataW.trod_int he hy
        exact ⟨z, by rw [List.getElem?_eq_getElem hlt]; exact congrArg some (List.cons.inj ez).1, wz⟩
      obtain ⟨ns, hl, hns⟩ := list_of (Q := fun i z => cs.toList[i]? = some (.int kd z) ∧ Lit.wf (.int kd z) = true) n get
      refine ⟨ns, ?_, hl, fun z hz => ?_⟩
      · congr 1
        apply Array.ext'
        apply List.ext_getElem?
        intro i
        simp only [List.getElem?_map]
        by_cases hi : i < ns.length
        · rw [List.getElem?_eq_getElem hi, Option.map_some]
          exact (hns i _ (List.getElem?_eq_getElem hi)).1
        · rw [List.getElem?_eq_none (by simp [h2]; omega), List.getElem?_eq_none (by omega)]
          rfl
      · obtain ⟨i, hi, rfl⟩ := List.getElem_of_mem hz
        exact (hns i _ (List.getElem?_eq_getElem hi)).2
    · cases hf
/-- A state. -/
theorem openState {w : World} {t e : TypeId} {v : Value} {d : DataW H} {p : List MemPlace} {base : Nat} (ht : P.underlying t = some (.array 5 e)) (he : P.underlying e = some (.int .u64)) (hc : P.cellsOf e = 1) (hC : P.cellsOf t = 5)
    (hok : Value.okWide P w .any base t v) (h : DataW.Trod enc P w 0 (fun _ => true) true t v d p) : ∃ s : S5, v = .agg #[.int .u64 (U s.a), .int .u64 (U s.b), .int .u64 (U s.c), .int .u64 (U s.d), .int .u64 (U s.e)] := by
  obtain ⟨ns, rfl, hl, hw⟩ := openInts ht he hc hC hok h
  have word : ∀ z, Lit.wf (.int .u64 z) = true → U (W z) = z := fun z hz => by
    simp [Lit.wf, IntKind.min, IntKind.max, IntKind.signed, IntKind.bits] at hz
    exact U_W z (by omega) (by omega)
  match ns, hl, hw with
  | [a, b, c, d, e], _, hw =>
    refine ⟨⟨W a, W b, W c, W d, W e⟩, ?_⟩
    rw [word a (hw a (by simp)), word b (hw b (by simp)), word c (hw c (by simp)), word d (hw d (by simp)), word e (hw e (by simp))]
    rfl
end
end Go.Pm
