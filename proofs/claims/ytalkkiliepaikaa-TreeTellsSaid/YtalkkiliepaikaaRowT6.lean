/- Arguments that are items, opened; nine arguments. -/
import Derived.Test.YtalkkiliepaikaaRowU6
import Derived.Test.YtalkkiliepaikaaRow6
namespace Go.Pm
open Go Go.RowKit Go.ChangeShapes Go.WideShapes Go.ChangeAt
section
variable {H : Type} {enc : TypeId × Value → H} {P : Program}
/-- A hash's cells. -/
theorem hashCells {W : World} {t e : TypeId} {m : Nat} {cs : List Value} {x : DataW H × List MemPlace} (ht : P.underlying t = some (.array 32 e)) (he : P.underlying e = some (.int .u8)) (hc : P.cellsOf e = 1) (hl : cs.length = 32)
    (hf : DataW.trod enc P W 0 (fun _ => true) true m t cs = some x) : ∃ l : List UInt8, cs = l.map u8v ∧ l.length = 32 := by
  cases m with
  | zero => simp [DataW.trod] at hf
  | succ m =>
    unfold DataW.trod at hf
    simp only [ht] at hf
    split at hf
    · simp only [Option.map_eq_some_iff] at hf
      obtain ⟨ys, hy, _⟩ := hf
      have each := mapM_each hy
      have get : ∀ i, i < 32 → ∃ b : UInt8, cs[i]? = some (u8v b) := fun i hi => by
        obtain ⟨y, hy⟩ := each i (List.mem_range.2 hi)
        rw [hc, Nat.mul_one] at hy
        have hlt : i < cs.length := by omega
        rw [List.drop_eq_getElem_cons hlt, List.take_succ_cons, List.take_zero] at hy
        obtain ⟨z, ez, _, wz⟩ := DataW.trod_int he hy
        simp [Lit.wf, IntKind.min, IntKind.max, IntKind.signed, IntKind.bits] at wz
        refine ⟨byteOf z, ?_⟩
        rw [u8v_byteOf' (by omega) (by omega), List.getElem?_eq_getElem hlt]
        exact congrArg some (List.cons.inj ez).1
      obtain ⟨l, hl2, hg⟩ := list_of (Q := fun i b => cs[i]? = some (u8v b)) 32 get
      refine ⟨l, ?_, hl2⟩
      apply List.ext_getElem?
      intro i
      simp only [List.getElem?_map]
      by_cases hi : i < l.length
      · rw [List.getElem?_eq_getElem hi, Option.map_some]
        exact hg i _ (List.getElem?_eq_getElem hi)
      · rw [List.getElem?_eq_none (by omega), List.getElem?_eq_none (by omega)]
        rfl
    · cases hf
/-- Items by their cells. -/
theorem itsC_at : ∀ {l : List It}, Full l → ∀ {i : Nat} {c : Value}, (itsC l)[i]? = some c → ∃ x, l[i / 64]? = some x ∧ (itC x)[i % 64]? = some c := fun {l} hf i c hc => by
  have hi : i < (itsC l).length := (List.getElem?_eq_some_iff.1 hc).1
  rw [itsC_len hf] at hi
  have hk : i / 64 < l.length := by omega
  refine ⟨l[i / 64], List.getElem?_eq_getElem hk, ?_⟩
  have h64 := itC_len (hf l[i / 64] (List.getElem_mem hk))
  have hm : i % 64 < (itC l[i / 64]).length := by omega
  have h := itsC_get hf (List.getElem?_eq_getElem hk) (List.getElem?_eq_getElem hm)
  rw [show i / 64 * 64 + i % 64 = i by omega, hc] at h
  rw [List.getElem?_eq_getElem hm, ← Option.some.inj h]
/-- A []api.Item argument. -/
theorem openItems {W : World} {t e h b : TypeId} {f0 f1 : Field} {v : Value} {d : DataW H} {p : List MemPlace} {base : Nat} (ht : P.underlying t = some (.slice e)) (he : P.underlying e = some (.struct #[f0, f1])) (ce : P.cellsOf e = 64)
    (o0 : (f0.offset, f0.type) = (0, h)) (o1 : (f1.offset, f1.type) = (32, h)) (hh : P.underlying h = some (.array 32 b)) (hb : P.underlying b = some (.int .u8)) (cb : P.cellsOf b = 1) (ch : P.cellsOf h = 32)
    (hok : Value.okWide P W .any base t v) (hT : DataW.Trod enc P W 0 (fun _ => true) true t v d p) (hlt : ∀ x ∈ p, x.block < W.heap.size) : ∃ l, Its W 0 W.heap.size v l := by
  obtain ⟨a0, len, cap, rfl⟩ := okWide_slice ht hok
  obtain ⟨fuel, hf⟩ := hT
  rcases Deep.open_slice ht hf with ⟨hcs, hx⟩ | ⟨a, len', cap', m, n, D, Pl, hcs, _, hl, hm, hmm, hx, hcell⟩
  · simp [Value.cells] at hcs
    obtain ⟨rfl, rfl, rfl⟩ := hcs
    exact ⟨[], Its.nil _ _ _⟩
  · simp [Value.cells] at hcs
    obtain ⟨rfl, rfl, rfl⟩ := hcs
    simp only [Prod.mk.injEq] at hx
    obtain ⟨_, rfl⟩ := hx
    simp only [if_true] at hmm
    subst hmm
    rw [ce] at hcell hlt
    simp only [Prod.mk.injEq] at o0 o1
    have get : ∀ i, i < len → ∃ x : It, (x.i.length = 32 ∧ x.v.length = 32) ∧ ∀ j c, (itC x)[j]? = some c → W.cell? (a.add (i * 64 + j)) = some c := fun i hi => by
      obtain ⟨cs', h1, h2⟩ := hcell i (by omega)
      obtain ⟨_, hlen, hc⟩ := World.cells?_some h1
      obtain ⟨xs, k, _, _, _, hxl, hfd⟩ := DataW.trod_struct he h2
      have g0 := hfd 0 f0 rfl
      have g1 := hfd 1 f1 rfl
      rw [o0.1, o0.2, ch, List.drop_zero, List.getElem?_eq_getElem (by rw [hxl]; simp)] at g0
      rw [o1.1, o1.2, ch, List.getElem?_eq_getElem (by rw [hxl]; simp)] at g1
      obtain ⟨l0, e0, q0⟩ := hashCells hh hb cb (by simp [hlen]) g0
      obtain ⟨l1, e1, q1⟩ := hashCells hh hb cb (by simp [hlen]) g1
      refine ⟨⟨l0, l1⟩, ⟨q0, q1⟩, fun j c hj => ?_⟩
      have hj64 : j < 64 := by
        have := (List.getElem?_eq_some_iff.1 hj).1
        rwa [itC_len ⟨q0, q1⟩] at this
      have hcat : itC ⟨l0, l1⟩ = cs' := by
        unfold itC
        show l0.map u8v ++ l1.map u8v = cs'
        rw [← e0, ← e1, List.take_of_length_le (l := cs'.drop 32) (by simp [hlen]), List.take_append_drop]
      rw [← add_add', hc j (by omega), ← hcat]
      exact hj
    obtain ⟨l, hl2, hg⟩ := list_of (Q := fun i (x : It) => (x.i.length = 32 ∧ x.v.length = 32) ∧ ∀ j c, (itC x)[j]? = some c → W.cell? (a.add (i * 64 + j)) = some c) len get
    have hfull : Full l := fun x hx => by
      obtain ⟨i, hi, rfl⟩ := List.getElem_of_mem hx
      exact (hg i _ (List.getElem?_eq_getElem hi)).1
    refine ⟨l, hfull, itsC_len hfull, some a, m, by rw [hl2], by omega, hm, (fun h => by cases h), ?_⟩
    intro ad had i c hc
    obtain rfl := Option.some.inj had
    obtain ⟨x, hx, hxc⟩ := itsC_at hfull hc
    have hi : i < len * 64 := by
      have := (List.getElem?_eq_some_iff.1 hc).1
      rwa [itsC_len hfull, hl2] at this
    have hcl := (hg (i / 64) x hx).2 (i % 64) c hxc
    rw [show i / 64 * 64 + i % 64 = i by omega] at hcl
    refine ⟨Nat.zero_le _, ?_, hcl⟩
    have := block_lt_of_cell hcl
    rwa [add_block] at this
theorem trodAll_nine {w : World} {base : Nat} {spare : Nat → Bool} {held : Bool} {t0 t1 t2 t3 t4 t5 t6 t7 t8 : TypeId} {args : Array Value} {ds : List (DataW H)} {ps : List MemPlace} (h : DataW.TrodAll enc P w base spare held [t0, t1, t2, t3, t4, t5, t6, t7, t8] args.toList ds ps) :
    ∃ v0 v1 v2 v3 v4 v5 v6 v7 v8 d0 d1 d2 d3 d4 d5 d6 d7 d8 p0 p1 p2 p3 p4 p5 p6 p7 p8, args = #[v0, v1, v2, v3, v4, v5, v6, v7, v8] ∧ ds = [d0, d1, d2, d3, d4, d5, d6, d7, d8] ∧ ps = p0 ++ (p1 ++ (p2 ++ (p3 ++ (p4 ++ (p5 ++ (p6 ++ (p7 ++ p8))))))) ∧
      DataW.Trod enc P w base spare held t0 v0 d0 p0 ∧ DataW.Trod enc P w base spare held t1 v1 d1 p1 ∧ DataW.Trod enc P w base spare held t2 v2 d2 p2 ∧ DataW.Trod enc P w base spare held t3 v3 d3 p3 ∧ DataW.Trod enc P w base spare held t4 v4 d4 p4 ∧
      DataW.Trod enc P w base spare held t5 v5 d5 p5 ∧ DataW.Trod enc P w base spare held t6 v6 d6 p6 ∧ DataW.Trod enc P w base spare held t7 v7 d7 p7 ∧ DataW.Trod enc P w base spare held t8 v8 d8 p8 := by
  obtain ⟨v0, l0, d0, e0, p0, q0, ha, rfl, rfl, h0, h⟩ := trodAll_cons h
  obtain ⟨v1, l1, d1, e1, p1, q1, rfl, rfl, rfl, h1, h⟩ := trodAll_cons h
  obtain ⟨v2, v3, v4, v5, v6, v7, v8, d2, d3, d4, d5, d6, d7, d8, p2, p3, p4, p5, p6, p7, p8, hb, rfl, rfl, h2, h3, h4, h5, h6, h7, h8⟩ := trodAll_seven (args := l1.toArray) (by simpa using h)
  refine ⟨v0, v1, v2, v3, v4, v5, v6, v7, v8, d0, d1, d2, d3, d4, d5, d6, d7, d8, p0, p1, p2, p3, p4, p5, p6, p7, p8, ?_, rfl, by simp, h0, h1, h2, h3, h4, h5, h6, h7, h8⟩
  apply Array.ext'
  rw [ha]
  have := congrArg Array.toList hb
  simp at this
  simp [this]
end
end Go.Pm
