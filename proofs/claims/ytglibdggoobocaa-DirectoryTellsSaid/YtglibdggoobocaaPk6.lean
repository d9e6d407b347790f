/- Texts joined: LowRow, RRight16, UpRight, DirR16, DirRt16, DirB16, DirL16, DirF16, DirG16, DirH16, PoSort16, DirS16, DirFi16, Mrg16. -/
import Derived.Test.YtglibdggoobocaaPk1
import Derived.ProofKit
import Derived.Deep.Slices
import Derived.Laws.IdiomArrays
import Derived.Carry
import Derived.Test.YtglibdggoobocaaPk2
import Derived.Test.YtglibdggoobocaaPk3
import Derived.Test.YtglibdggoobocaaPk4
import Derived.Deep.LoopGhost
import Derived.Lib.Small
import Derived.OwnWalk
import Derived.Shelf.SlSortCmp.WholeK
import Derived.Shelf.SlSortCmp.NoneTotal
import Derived.Lib.Bytealg
import Derived.BigQuiet
import Derived.Deep.QuietTactic
/- From a walk to a statement: arguments opened, and shut again behind a call that has only made new memory. -/
namespace Go.Pm
open Go Go.RowKit Go.ChangeShapes Go.WideShapes Go.ChangeAt

section
variable {H : Type} {enc : TypeId × Value → H} {P : Program}

/-- Types whose values can be read, each in the table. -/
def readable (P : Program) (ts : List TypeId) : Bool := ts.all fun t => P.readableRec t && decide (t < P.types.size)

theorem trodAll_stays (hl : laidOutB P = true) {W W' : World} (hb : Below W.heap.size W W') : ∀ {ts : List TypeId} {vs : List Value} {ds : List (DataW H)} {ps : List MemPlace}, readable P ts = true →
    DataW.TrodAll enc P W 0 (fun _ => true) true ts vs ds ps → (∀ x ∈ ps, x.block < W.heap.size) → DataW.TrodAll enc P W' 0 (fun b => decide (b < W.heap.size)) true ts vs ds ps
  | [], vs, ds, ps, _, h, _ => by
    obtain ⟨rfl, rfl, rfl⟩ := trodAll_nil h
    exact trodAll_mk0
  | t :: ts, vs, ds, ps, hr, h, hlt => by
    obtain ⟨v, vs', d, ds', p, q, rfl, rfl, rfl, h1, h2⟩ := trodAll_cons h
    simp only [readable, List.all_cons, Bool.and_eq_true, decide_eq_true_eq] at hr
    exact ⟨p, q, Below.trod hl hr.1.1 hr.1.2 h1 hb (fun x hx => hlt x (List.mem_append.2 (.inl hx))), trodAll_stays hl hb hr.2 h2 (fun x hx => hlt x (List.mem_append.2 (.inr hx))), rfl⟩

/-- A law's 'post': true; the arguments read as they did; only new memory. -/
theorem law_post {s : ChangeSpec} {f : Func} {W W' : World} {args : Array Value} {ds : List (DataW H)} {before : List MemPlace} {tb : TypeId} (hvars : s.vars = []) (hres : f.resultTypes = #[tb]) (hb : P.underlying tb = some .bool)
    (hl : laidOutB P = true) (hread : readable P f.params.toList = true) (hW : DataW.Whole enc P f.params.toList s.vars false W args.toList ds [] before)
    (hr1 : (s.fn H (ds ++ [])).results = [.lit (.bool true)]) (hr2 : (s.fn H (ds ++ [])).args = ds) (hr3 : (s.fn H (ds ++ [])).vars = []) (hbel : Below W.heap.size W W') :
    s.post enc P f false true false false W args (.bool true) W' := by
  have hlt : ∀ x ∈ before, x.block < W.heap.size := fun x hx => by simpa using hW.lt x hx
  have hW' := hW
  obtain ⟨p, q, hA, hV, rfl, _, _⟩ := hW
  rw [hvars] at hV
  obtain ⟨_, rfl⟩ := trodVars_none hV
  rw [List.append_nil] at hW' hlt
  refine ⟨ds, [], _, [], p, [], hW', ?_, ?_, ?_, hbel.frame _, fun h => by cases h⟩
  · rw [hr1, hres]
    exact trodAll_mk1 (shut_bool hb true)
  · rw [hr2]
    exact trodAll_stays hl hbel hread hA hlt
  · rw [hr3, hvars]
    rfl

/-- A []byte argument. -/
theorem openBs {W : World} {t e : TypeId} {v : Value} {d : DataW H} {p : List MemPlace} {base : Nat} (ht : P.underlying t = some (.slice e)) (he : P.underlying e = some (.int .u8)) (hc : P.cellsOf e = 1)
    (hok : Value.okWide P W .any base t v) (h : DataW.Trod enc P W 0 (fun _ => true) true t v d p) (hlt : ∀ x ∈ p, x.block < W.heap.size) : ∃ l, Bs W 0 W.heap.size v l := by
  obtain ⟨a0, len, cap, rfl⟩ := okWide_slice ht hok
  obtain ⟨fuel, hf⟩ := h
  rcases open_ints ht he hc hf with ⟨hcs, hx⟩ | ⟨a, len', cap', zs, hcs, _, hl, hm, hz, hx, hcell, hwz⟩
  · simp [Value.cells] at hcs
    obtain ⟨rfl, rfl, rfl⟩ := hcs
    exact ⟨[], Bs.nil _ _ _⟩
  · simp [Value.cells] at hcs
    obtain ⟨rfl, rfl, rfl⟩ := hcs
    simp only [Prod.mk.injEq] at hx
    obtain ⟨_, rfl⟩ := hx
    simp only [if_true] at hz
    refine ⟨(zs.take len).map byteOf, some a, cap, ?_, ?_, hm, (fun h => by cases h), ?_⟩
    · simp; omega
    · simp; omega
    · intro ad had i x hx
      obtain rfl := Option.some.inj had
      rw [List.map_map] at hx
      have hi : i < len ∧ x = .int .u8 (zs.getD i 0) := by
        rw [List.getElem?_map, List.getElem?_take] at hx
        split at hx
        · rename_i hi
          have hiz : i < zs.length := by omega
          rw [List.getElem?_eq_getElem hiz] at hx
          simp only [Option.map_some, Option.some.injEq, Function.comp] at hx
          have hw := hwz zs[i] (List.getElem_mem hiz)
          simp [Lit.wf, IntKind.min, IntKind.max, IntKind.signed, IntKind.bits] at hw
          refine ⟨hi, ?_⟩
          rw [← hx, u8v_byteOf' (by omega) (by omega)]
          simp [List.getD, List.getElem?_eq_getElem hiz]
        · simp at hx
      have hb := hlt (.cell (a.add i).block (a.add i).off) (MemPlace.mem_row.2 ⟨i, by omega, by simp [Addr.add]; split <;> simp_all⟩)
      refine ⟨Nat.zero_le _, ?_, ?_⟩
      · rw [← add_block a i]; exact hb
      · rw [hi.2]
        exact hcell i (by omega)

/-- A byte argument. -/
theorem openU8 {W : World} {t : TypeId} {v : Value} {d : DataW H} {p : List MemPlace} {base : Nat} (ht : P.underlying t = some (.int .u8))
    (hok : Value.okWide P W .any base t v) (h : DataW.Trod enc P W 0 (fun _ => true) true t v d p) : ∃ n, v = .int .u8 n ∧ 0 ≤ n ∧ n < 256 := by
  obtain ⟨n, rfl, _, _, w0⟩ := open_int ht hok h
  simp [Lit.wf, IntKind.min, IntKind.max, IntKind.signed, IntKind.bits] at w0
  exact ⟨n, rfl, by omega, by omega⟩
/-- A uint64 argument. -/
theorem openU64 {W : World} {t : TypeId} {v : Value} {d : DataW H} {p : List MemPlace} {base : Nat} (ht : P.underlying t = some (.int .u64))
    (hok : Value.okWide P W .any base t v) (h : DataW.Trod enc P W 0 (fun _ => true) true t v d p) : ∃ n, v = .int .u64 n ∧ 0 ≤ n ∧ n < 18446744073709551616 := by
  obtain ⟨n, rfl, _, _, w0⟩ := open_int ht hok h
  simp [Lit.wf, IntKind.min, IntKind.max, IntKind.signed, IntKind.bits] at w0
  exact ⟨n, rfl, by omega, by omega⟩

/-- A list out of what is so at each index. -/
theorem list_of {α : Type} {Q : Nat → α → Prop} : ∀ (n : Nat), (∀ i, i < n → ∃ x, Q i x) → ∃ xs : List α, xs.length = n ∧ ∀ i x, xs[i]? = some x → Q i x
  | 0, _ => ⟨[], rfl, fun i x h => by simp at h⟩
  | n + 1, h => by
    obtain ⟨xs, hl, hx⟩ := list_of n (fun i hi => h i (by omega))
    obtain ⟨x, hq⟩ := h n (by omega)
    refine ⟨xs ++ [x], by simp [hl], fun i y hy => ?_⟩
    by_cases hi : i < xs.length
    · rw [List.getElem?_append_left hi] at hy; exact hx i y hy
    · have hlt := (List.getElem?_eq_some_iff.1 hy).1
      simp at hlt
      have : i = xs.length := by omega
      subst this
      rw [List.getElem?_append_right (Nat.le_refl _)] at hy
      simp at hy
      subst hy
      rw [hl]
      exact hq

/-- Bytes, out of a reading. -/
theorem bs_of_trod {W : World} {t e : TypeId} {v : Value} {fuel : Nat} {x : DataW H × List MemPlace} (ht : P.underlying t = some (.slice e)) (he : P.underlying e = some (.int .u8)) (hc : P.cellsOf e = 1)
    (hf : DataW.trod enc P W 0 (fun _ => true) true fuel t [v] = some x) (hlt : ∀ y ∈ x.2, y.block < W.heap.size) : ∃ l, Bs W 0 W.heap.size v l := by
  rcases open_ints ht he hc hf with ⟨hcs, hx⟩ | ⟨a, len', cap', zs, hcs, _, hl, hm, hz, hx, hcell, hwz⟩
  · simp only [List.cons.injEq, and_true] at hcs
    subst hcs
    exact ⟨[], Bs.nil _ _ _⟩
  · simp only [List.cons.injEq, and_true] at hcs
    subst hcs
    subst hx
    simp only [if_true] at hz
    refine ⟨(zs.take len').map byteOf, some a, cap', ?_, ?_, hm, (fun h => by cases h), ?_⟩
    · simp; omega
    · simp; omega
    · intro ad had i x hx
      obtain rfl := Option.some.inj had
      rw [List.map_map] at hx
      have hi : i < len' ∧ x = .int .u8 (zs.getD i 0) := by
        rw [List.getElem?_map, List.getElem?_take] at hx
        split at hx
        · rename_i hi
          have hiz : i < zs.length := by omega
          rw [List.getElem?_eq_getElem hiz] at hx
          simp only [Option.map_some, Option.some.injEq, Function.comp] at hx
          have hw := hwz zs[i] (List.getElem_mem hiz)
          simp [Lit.wf, IntKind.min, IntKind.max, IntKind.signed, IntKind.bits] at hw
          refine ⟨hi, ?_⟩
          rw [← hx, u8v_byteOf' (by omega) (by omega)]
          simp [List.getD, List.getElem?_eq_getElem hiz]
        · simp at hx
      have hb := hlt (.cell (a.add i).block (a.add i).off) (MemPlace.mem_row.2 ⟨i, by omega, by simp [Addr.add]; split <;> simp_all⟩)
      refine ⟨Nat.zero_le _, ?_, ?_⟩
      · rw [← add_block a i]; exact hb
      · rw [hi.2]
        exact hcell i (by omega)

/-- A [][]byte argument. -/
theorem openBss {W : World} {t t' e : TypeId} {v : Value} {d : DataW H} {p : List MemPlace} {base : Nat} (ht : P.underlying t = some (.slice t')) (ht' : P.underlying t' = some (.slice e)) (he : P.underlying e = some (.int .u8)) (hc : P.cellsOf e = 1) (hc' : P.cellsOf t' = 1)
    (hok : Value.okWide P W .any base t v) (h : DataW.Trod enc P W 0 (fun _ => true) true t v d p) (hlt : ∀ x ∈ p, x.block < W.heap.size) : ∃ ls, Bss W 0 W.heap.size 0 W.heap.size v ls := by
  obtain ⟨a0, len, cap, rfl⟩ := okWide_slice ht hok
  obtain ⟨fuel, hf⟩ := h
  rcases Deep.open_slice1 ht hc' hf with ⟨hcs, hx⟩ | ⟨a, len', cap', m, n, V, D, Pl, hcs, _, hl, hm, hmm, hx, hcell⟩
  · simp [Value.cells] at hcs
    obtain ⟨rfl, rfl, rfl⟩ := hcs
    exact ⟨[], [], Vs.nil _ _ _, rfl, fun i x l h => by simp at h⟩
  · simp [Value.cells] at hcs
    obtain ⟨rfl, rfl, rfl⟩ := hcs
    simp only [Prod.mk.injEq] at hx
    obtain ⟨_, rfl⟩ := hx
    simp only [if_true] at hmm
    subst hmm
    obtain ⟨ls, hll, hls⟩ := list_of (Q := fun i l => Bs W 0 W.heap.size (V i) l) len (fun i hi => bs_of_trod ht' he hc (hcell i (by omega)).2 (fun y hy => hlt y (by
      refine List.mem_append.2 (.inr (List.mem_flatMap.2 ⟨i, by simp; omega, hy⟩)))))
    refine ⟨ls, (List.range len).map V, ⟨some a, m, by simp, by simpa using hl, hm, (fun h => by cases h), ?_⟩, by simp [hll], ?_⟩
    · intro ad had i x hx
      obtain rfl := Option.some.inj had
      have hi : i < len ∧ x = V i := by
        rw [List.getElem?_map] at hx
        by_cases hi : i < len
        · rw [List.getElem?_range hi] at hx; simp at hx; exact ⟨hi, hx.symm⟩
        · rw [List.getElem?_eq_none (by simp; omega)] at hx; cases hx
      have hb := hlt (.cell (a.add i).block (a.add i).off) (List.mem_append.2 (.inl (MemPlace.mem_row.2 ⟨i, by omega, by simp [Addr.add]; split <;> simp_all⟩)))
      refine ⟨Nat.zero_le _, ?_, ?_⟩
      · rw [← add_block a i]; exact hb
      · rw [hi.2]; exact (hcell i (by omega)).1
    · intro i x l hx hl'
      have hi : i < len ∧ x = V i := by
        rw [List.getElem?_map] at hx
        by_cases hi : i < len
        · rw [List.getElem?_range hi] at hx; simp at hx; exact ⟨hi, hx.symm⟩
        · rw [List.getElem?_eq_none (by simp; omega)] at hx; cases hx
      rw [hi.2]
      exact hls i l hl'

/-- A []uint64 argument. -/
theorem openNs {W : World} {t e : TypeId} {v : Value} {d : DataW H} {p : List MemPlace} {base : Nat} (ht : P.underlying t = some (.slice e)) (he : P.underlying e = some (.int .u64)) (hc : P.cellsOf e = 1)
    (hok : Value.okWide P W .any base t v) (h : DataW.Trod enc P W 0 (fun _ => true) true t v d p) (hlt : ∀ x ∈ p, x.block < W.heap.size) : ∃ ns, Ns W 0 W.heap.size v ns := by
  obtain ⟨a0, len, cap, rfl⟩ := okWide_slice ht hok
  obtain ⟨fuel, hf⟩ := h
  rcases open_ints ht he hc hf with ⟨hcs, hx⟩ | ⟨a, len', cap', zs, hcs, _, hl, hm, hz, hx, hcell, hwz⟩
  · simp [Value.cells] at hcs
    obtain ⟨rfl, rfl, rfl⟩ := hcs
    exact ⟨[], Vs.nil _ _ _, fun n hn => by simp at hn⟩
  · simp [Value.cells] at hcs
    obtain ⟨rfl, rfl, rfl⟩ := hcs
    simp only [Prod.mk.injEq] at hx
    obtain ⟨_, rfl⟩ := hx
    simp only [if_true] at hz
    refine ⟨zs.take len, ⟨some a, cap, ?_, ?_, hm, (fun h => by cases h), ?_⟩, ?_⟩
    · simp; omega
    · simp; omega
    · intro ad had i x hx
      obtain rfl := Option.some.inj had
      have hi : i < len ∧ x = .int .u64 (zs.getD i 0) := by
        rw [List.getElem?_map, List.getElem?_take] at hx
        split at hx
        · rename_i hi
          have hiz : i < zs.length := by omega
          rw [List.getElem?_eq_getElem hiz] at hx
          simp only [Option.map_some, Option.some.injEq] at hx
          refine ⟨hi, ?_⟩
          rw [← hx]
          simp [u64v, List.getD, List.getElem?_eq_getElem hiz]
        · simp at hx
      have hb := hlt (.cell (a.add i).block (a.add i).off) (MemPlace.mem_row.2 ⟨i, by omega, by simp [Addr.add]; split <;> simp_all⟩)
      refine ⟨Nat.zero_le _, ?_, ?_⟩
      · rw [← add_block a i]; exact hb
      · rw [hi.2]
        exact hcell i (by omega)
    · intro n hn
      have hw := hwz n (List.mem_of_mem_take hn)
      simp [Lit.wf, IntKind.min, IntKind.max, IntKind.signed, IntKind.bits] at hw
      exact ⟨by omega, by omega⟩
end
end Go.Pm

/- Arguments that are arrays of integers, opened. Program-independent. -/
namespace Go.Pm
open Go Go.RowKit Go.ChangeShapes Go.WideShapes Go.ChangeAt

theorem mapM_each {α β : Type} {f : α → Option β} : ∀ {l : List α} {ys : List β}, l.mapM f = some ys → ∀ i ∈ l, ∃ y, f i = some y
  | [], ys, _, i, hi => by simp at hi
  | a :: l, ys, h, i, hi => by
    rw [List.mapM_cons] at h
    simp only [bind, Option.bind_eq_some_iff, pure, Option.some.injEq] at h
    obtain ⟨y, hy, ys', hys, rfl⟩ := h
    rcases List.mem_cons.1 hi with rfl | hi
    · exact ⟨y, hy⟩
    · exact mapM_each hys i hi

section
variable {H : Type} {enc : TypeId × Value → H} {P : Program}
/-- An argument that is an array of integers. -/
theorem openInts {W : World} {t e : TypeId} {kd : IntKind} {n : Nat} {v : Value} {d : DataW H} {p : List MemPlace} {base : Nat} (ht : P.underlying t = some (.array n e)) (he : P.underlying e = some (.int kd)) (hc : P.cellsOf e = 1) (hC : P.cellsOf t = n)
    (hok : Value.okWide P W .any base t v) (h : DataW.Trod enc P W 0 (fun _ => true) true t v d p) : ∃ ns : List Int, v = .agg (ns.map (Value.int kd)).toArray ∧ ns.length = n ∧ ∀ z ∈ ns, Lit.wf (.int kd z) = true := by
  simp only [Value.okWide, ht] at hok
  obtain ⟨cs, rfl, h2, _⟩ := hok
  rw [hC] at h2
  obtain ⟨fuel, hf⟩ := h
  cases fuel with
  | zero => simp [DataW.trod] at hf
  | succ m =>
    unfold DataW.trod at hf
    simp only [ht, Value.cells] at hf
    split at hf
    · simp only [Option.map_eq_some_iff] at hf
      obtain ⟨ys, hy, _⟩ := hf
      have each := mapM_each hy
      have get : ∀ i, i < n → ∃ z, cs.toList[i]? = some (.int kd z) ∧ Lit.wf (.int kd z) = true := fun i hi => by
        obtain ⟨y, hy⟩ := each i (List.mem_range.2 hi)
        rw [hc, Nat.mul_one] at hy
        have hlt : i < cs.toList.length := by simpa [h2] using hi
        rw [List.drop_eq_getElem_cons hlt, List.take_succ_cons, List.take_zero] at hy
        obtain ⟨z, ez, _, wz⟩ := DataW.trod_int he hy
        exact ⟨z, by rw [List.getElem?_eq_getElem hlt]; exact congrArg some (List.cons.inj ez).1, wz⟩
      obtain ⟨ns, hl, hns⟩ := list_of (Q := fun i z => cs.toList[i]? = some (.int kd z) ∧ Lit.wf (.int kd z) = true) n get
      refine ⟨ns, ?_, hl, fun z hz => ?_⟩
      · congr 1
        apply Array.ext'
        apply List.ext_getElem?
        intro i
        simp only [List.getElem?_map]
        by_cases hi : i < ns.length
        · rw [List.getElem?_eq_getElem hi, Option.map_some]
          exact (hns i _ (List.getElem?_eq_getElem hi)).1
        · rw [List.getElem?_eq_none (by simp [h2]; omega), List.getElem?_eq_none (by omega)]
          rfl
      · obtain ⟨i, hi, rfl⟩ := List.getElem_of_mem hz
        exact (hns i _ (List.getElem?_eq_getElem hi)).2
    · cases hf
/-- A state. -/
theorem openState {w : World} {t e : TypeId} {v : Value} {d : DataW H} {p : List MemPlace} {base : Nat} (ht : P.underlying t = some (.array 5 e)) (he : P.underlying e = some (.int .u64)) (hc : P.cellsOf e = 1) (hC : P.cellsOf t = 5)
    (hok : Value.okWide P w .any base t v) (h : DataW.Trod enc P w 0 (fun _ => true) true t v d p) : ∃ s : S5, v = .agg #[.int .u64 (U s.a), .int .u64 (U s.b), .int .u64 (U s.c), .int .u64 (U s.d), .int .u64 (U s.e)] := by
  obtain ⟨ns, rfl, hl, hw⟩ := openInts ht he hc hC hok h
  have word : ∀ z, Lit.wf (.int .u64 z) = true → U (W z) = z := fun z hz => by
    simp [Lit.wf, IntKind.min, IntKind.max, IntKind.signed, IntKind.bits] at hz
    exact U_W z (by omega) (by omega)
  match ns, hl, hw with
  | [a, b, c, d, e], _, hw =>
    refine ⟨⟨W a, W b, W c, W d, W e⟩, ?_⟩
    rw [word a (hw a (by simp)), word b (hw b (by simp)), word c (hw c (by simp)), word d (hw d (by simp)), word e (hw e (by simp))]
    rfl
end
end Go.Pm

/- Arguments that are numbers, opened as natural numbers; laws of five and six arguments. Program-independent. -/
namespace Go.Pm
open Go Go.RowKit Go.ChangeShapes Go.WideShapes Go.ChangeAt

section
variable {H : Type} {enc : TypeId × Value → H} {P : Program}
theorem openNat_u64 {W : World} {t : TypeId} {v : Value} {d : DataW H} {p : List MemPlace} {base : Nat} (ht : P.underlying t = some (.int .u64)) (hok : Value.okWide P W .any base t v) (h : DataW.Trod enc P W 0 (fun _ => true) true t v d p) :
    ∃ n : Nat, v = .int .u64 (n : Int) ∧ n < 18446744073709551616 := by
  obtain ⟨n, rfl, n0, n1⟩ := openU64 ht hok h
  exact ⟨n.toNat, by rw [Int.toNat_of_nonneg n0], by omega⟩
theorem openNat_u8 {W : World} {t : TypeId} {v : Value} {d : DataW H} {p : List MemPlace} {base : Nat} (ht : P.underlying t = some (.int .u8)) (hok : Value.okWide P W .any base t v) (h : DataW.Trod enc P W 0 (fun _ => true) true t v d p) :
    ∃ n : Nat, v = .int .u8 (n : Int) ∧ n < 256 := by
  obtain ⟨n, rfl, n0, n1⟩ := openU8 ht hok h
  exact ⟨n.toNat, by rw [Int.toNat_of_nonneg n0], by omega⟩
theorem openNat_u32 {W : World} {t : TypeId} {v : Value} {d : DataW H} {p : List MemPlace} {base : Nat} (ht : P.underlying t = some (.int .u32)) (hok : Value.okWide P W .any base t v) (h : DataW.Trod enc P W 0 (fun _ => true) true t v d p) :
    ∃ n : Nat, v = .int .u32 (n : Int) ∧ n < 4294967296 := by
  obtain ⟨n, rfl, _, _, w0⟩ := open_int ht hok h
  simp [Lit.wf, IntKind.min, IntKind.max, IntKind.signed, IntKind.bits] at w0
  exact ⟨n.toNat, by rw [Int.toNat_of_nonneg (by omega)], by omega⟩
theorem trodAll_five {w : World} {base : Nat} {spare : Nat → Bool} {held : Bool} {t0 t1 t2 t3 t4 : TypeId} {args : Array Value} {ds : List (DataW H)} {ps : List MemPlace} (h : DataW.TrodAll enc P w base spare held [t0, t1, t2, t3, t4] args.toList ds ps) :
    ∃ v0 v1 v2 v3 v4 d0 d1 d2 d3 d4 p0 p1 p2 p3 p4, args = #[v0, v1, v2, v3, v4] ∧ ds = [d0, d1, d2, d3, d4] ∧ ps = p0 ++ (p1 ++ (p2 ++ (p3 ++ p4))) ∧ DataW.Trod enc P w base spare held t0 v0 d0 p0 ∧ DataW.Trod enc P w base spare held t1 v1 d1 p1 ∧
      DataW.Trod enc P w base spare held t2 v2 d2 p2 ∧ DataW.Trod enc P w base spare held t3 v3 d3 p3 ∧ DataW.Trod enc P w base spare held t4 v4 d4 p4 := by
  obtain ⟨v0, l0, d0, e0, p0, q0, ha, rfl, rfl, h0, h⟩ := trodAll_cons h
  obtain ⟨v1, v2, v3, v4, d1, d2, d3, d4, p1, p2, p3, p4, hb, rfl, rfl, h1, h2, h3, h4⟩ := trodAll_four (args := l0.toArray) (by simpa using h)
  refine ⟨v0, v1, v2, v3, v4, d0, d1, d2, d3, d4, p0, p1, p2, p3, p4, ?_, rfl, by simp, h0, h1, h2, h3, h4⟩
  apply Array.ext'
  rw [ha]
  have := congrArg Array.toList hb
  simpa using this
theorem trodAll_six {w : World} {base : Nat} {spare : Nat → Bool} {held : Bool} {t0 t1 t2 t3 t4 t5 : TypeId} {args : Array Value} {ds : List (DataW H)} {ps : List MemPlace} (h : DataW.TrodAll enc P w base spare held [t0, t1, t2, t3, t4, t5] args.toList ds ps) :
    ∃ v0 v1 v2 v3 v4 v5 d0 d1 d2 d3 d4 d5 p0 p1 p2 p3 p4 p5, args = #[v0, v1, v2, v3, v4, v5] ∧ ds = [d0, d1, d2, d3, d4, d5] ∧ ps = p0 ++ (p1 ++ (p2 ++ (p3 ++ (p4 ++ p5)))) ∧ DataW.Trod enc P w base spare held t0 v0 d0 p0 ∧ DataW.Trod enc P w base spare held t1 v1 d1 p1 ∧
      DataW.Trod enc P w base spare held t2 v2 d2 p2 ∧ DataW.Trod enc P w base spare held t3 v3 d3 p3 ∧ DataW.Trod enc P w base spare held t4 v4 d4 p4 ∧ DataW.Trod enc P w base spare held t5 v5 d5 p5 := by
  obtain ⟨v0, l0, d0, e0, p0, q0, ha, rfl, rfl, h0, h⟩ := trodAll_cons h
  obtain ⟨v1, v2, v3, v4, v5, d1, d2, d3, d4, d5, p1, p2, p3, p4, p5, hb, rfl, rfl, h1, h2, h3, h4, h5⟩ := trodAll_five (args := l0.toArray) (by simpa using h)
  refine ⟨v0, v1, v2, v3, v4, v5, d0, d1, d2, d3, d4, d5, p0, p1, p2, p3, p4, p5, ?_, rfl, rfl, h0, h1, h2, h3, h4, h5⟩
  apply Array.ext'
  rw [ha]
  have := congrArg Array.toList hb
  simpa using this
end
end Go.Pm

/- Arguments that are structs of two numbers, opened. Program-independent. -/
namespace Go.Pm
open Go Go.RowKit Go.ChangeShapes Go.WideShapes Go.ChangeAt

theorem openPair {H : Type} {enc : TypeId × Value → H} {P : Program} {W : World} {t : TypeId} {f0 f1 : Field} {v : Value} {d : DataW H} {p : List MemPlace} {base : Nat} (ht : P.underlying t = some (.struct #[f0, f1])) (hC : P.cellsOf t = 2)
    (h0 : f0.offset = 0) (h1 : f1.offset = 1) (hu0 : P.underlying f0.type = some (.int .u64)) (hu1 : P.underlying f1.type = some (.int .u64)) (hc0 : P.cellsOf f0.type = 1) (hc1 : P.cellsOf f1.type = 1)
    (hok : Value.okWide P W .any base t v) (h : DataW.Trod enc P W 0 (fun _ => true) true t v d p) : ∃ a b : Nat, v = .agg #[.int .u64 (a : Int), .int .u64 (b : Int)] ∧ a < 18446744073709551616 ∧ b < 18446744073709551616 := by
  simp only [Value.okWide, ht] at hok
  obtain ⟨cs, rfl, h2, _⟩ := hok
  rw [hC] at h2
  obtain ⟨fuel, hf⟩ := h
  obtain ⟨y0, y1, n', _, _, g0, g1⟩ := trod_struct2 ht hf
  rw [h0, hc0] at g0
  rw [h1, hc1] at g1
  obtain ⟨k0, e0, _, w0⟩ := DataW.trod_int hu0 g0
  obtain ⟨k1, e1, _, w1⟩ := DataW.trod_int hu1 g1
  simp [Lit.wf, IntKind.min, IntKind.max, IntKind.signed, IntKind.bits] at w0 w1
  obtain ⟨l⟩ := cs
  match l, h2 with
  | [c0, c1], _ =>
    simp [Value.cells] at e0 e1
    subst e0 e1
    exact ⟨k0.toNat, k1.toNat, by rw [Int.toNat_of_nonneg (by omega), Int.toNat_of_nonneg (by omega)], by omega, by omega⟩
end Go.Pm

/- Arguments that are strings, uint16s, requests, opened; laws of up to ten arguments. Program-independent. -/
namespace Go.Pm
open Go Go.RowKit Go.ChangeShapes Go.WideShapes Go.ChangeAt

section
variable {H : Type} {enc : TypeId × Value → H} {P : Program}
theorem openStr {W : World} {t : TypeId} {v : Value} {d : DataW H} {p : List MemPlace} {base : Nat} (ht : P.underlying t = some .string) (hok : Value.okWide P W .any base t v) (h : DataW.Trod enc P W 0 (fun _ => true) true t v d p) :
    ∃ s : ByteArray, v = .string s ∧ s.size ≤ 9223372036854775807 := by
  obtain ⟨s, rfl⟩ := okWide_string ht hok
  obtain ⟨fuel, hf⟩ := h
  obtain ⟨s', h, hx, hs⟩ := DataW.trod_string ht hf
  simp [Value.cells] at h
  subst h
  unfold maxLen at hs
  exact ⟨s, rfl, by omega⟩
theorem openNat_u16 {W : World} {t : TypeId} {v : Value} {d : DataW H} {p : List MemPlace} {base : Nat} (ht : P.underlying t = some (.int .u16)) (hok : Value.okWide P W .any base t v) (h : DataW.Trod enc P W 0 (fun _ => true) true t v d p) :
    ∃ n : Nat, v = .int .u16 (n : Int) ∧ n < 65536 := by
  obtain ⟨n, rfl, _, _, w0⟩ := open_int ht hok h
  simp [Lit.wf, IntKind.min, IntKind.max, IntKind.signed, IntKind.bits] at w0
  exact ⟨n.toNat, by rw [Int.toNat_of_nonneg (by omega)], by omega⟩

/-- A request (a struct of a string, an int, a number, an int, a struct of two numbers). -/
theorem openUpd {W : World} {t : TypeId} {f0 f1 f2 f3 f4 g0 g1 : Field} {v : Value} {d : DataW H} {p : List MemPlace} {base : Nat} (ht : P.underlying t = some (.struct #[f0, f1, f2, f3, f4])) (hC : P.cellsOf t = 6)
    (o0 : f0.offset = 0) (o1 : f1.offset = 1) (o2 : f2.offset = 2) (o3 : f3.offset = 3) (o4 : f4.offset = 4) (hu0 : P.underlying f0.type = some .string) (hu1 : P.underlying f1.type = some (.int .i64)) (hu2 : P.underlying f2.type = some (.int .u64)) (hu3 : P.underlying f3.type = some (.int .i64))
    (hu4 : P.underlying f4.type = some (.struct #[g0, g1])) (q0 : g0.offset = 0) (q1 : g1.offset = 1) (hg0 : P.underlying g0.type = some (.int .u64)) (hg1 : P.underlying g1.type = some (.int .u64))
    (hc0 : P.cellsOf f0.type = 1) (hc1 : P.cellsOf f1.type = 1) (hc2 : P.cellsOf f2.type = 1) (hc3 : P.cellsOf f3.type = 1) (hc4 : P.cellsOf f4.type = 2) (hd0 : P.cellsOf g0.type = 1) (hd1 : P.cellsOf g1.type = 1)
    (hok : Value.okWide P W .any base t v) (h : DataW.Trod enc P W 0 (fun _ => true) true t v d p) :
    ∃ (n : ByteArray) (a c : Int) (k r s : Nat), v = .agg #[.string n, .int .i64 a, .int .u64 (k : Int), .int .i64 c, .int .u64 (r : Int), .int .u64 (s : Int)] ∧ k < 18446744073709551616 ∧ r < 18446744073709551616 ∧ s < 18446744073709551616 := by
  simp only [Value.okWide, ht] at hok
  obtain ⟨cs, rfl, h2, _⟩ := hok
  rw [hC] at h2
  obtain ⟨fuel, hf⟩ := h
  obtain ⟨xs, n', _, _, _, hlen, hx⟩ := DataW.trod_struct ht hf
  obtain ⟨l⟩ := cs
  match l, h2 with
  | [c0, c1, c2, c3, c4, c5], _ =>
    match xs, hlen with
    | [y0, y1, y2, y3, y4], _ =>
      have e0 := hx 0 f0 rfl
      have e1 := hx 1 f1 rfl
      have e2 := hx 2 f2 rfl
      have e3 := hx 3 f3 rfl
      have e4 := hx 4 f4 rfl
      rw [o0, hc0] at e0
      rw [o1, hc1] at e1
      rw [o2, hc2] at e2
      rw [o3, hc3] at e3
      rw [o4, hc4] at e4
      obtain ⟨s0, r0, _, _⟩ := DataW.trod_string hu0 e0
      obtain ⟨k1, r1, _, _⟩ := DataW.trod_int hu1 e1
      obtain ⟨k2, r2, _, w2⟩ := DataW.trod_int hu2 e2
      obtain ⟨k3, r3, _, _⟩ := DataW.trod_int hu3 e3
      obtain ⟨z0, z1, n4, _, _, m0, m1⟩ := trod_struct2 hu4 e4
      rw [q0, hd0] at m0
      rw [q1, hd1] at m1
      obtain ⟨k4, r4, _, w4⟩ := DataW.trod_int hg0 m0
      obtain ⟨k5, r5, _, w5⟩ := DataW.trod_int hg1 m1
      simp [Value.cells] at r0 r1 r2 r3 r4 r5
      simp [Lit.wf, IntKind.min, IntKind.max, IntKind.signed, IntKind.bits] at w2 w4 w5
      subst r0 r1 r2 r3 r4 r5
      exact ⟨s0, k1, k3, k2.toNat, k4.toNat, k5.toNat, by rw [Int.toNat_of_nonneg (by omega), Int.toNat_of_nonneg (by omega), Int.toNat_of_nonneg (by omega)], by omega, by omega, by omega⟩

theorem trodAll_seven {w : World} {base : Nat} {spare : Nat → Bool} {held : Bool} {t0 t1 t2 t3 t4 t5 t6 : TypeId} {args : Array Value} {ds : List (DataW H)} {ps : List MemPlace} (h : DataW.TrodAll enc P w base spare held [t0, t1, t2, t3, t4, t5, t6] args.toList ds ps) :
    ∃ v0 v1 v2 v3 v4 v5 v6 d0 d1 d2 d3 d4 d5 d6 p0 p1 p2 p3 p4 p5 p6, args = #[v0, v1, v2, v3, v4, v5, v6] ∧ ds = [d0, d1, d2, d3, d4, d5, d6] ∧ ps = p0 ++ (p1 ++ (p2 ++ (p3 ++ (p4 ++ (p5 ++ p6))))) ∧ DataW.Trod enc P w base spare held t0 v0 d0 p0 ∧ DataW.Trod enc P w base spare held t1 v1 d1 p1 ∧
      DataW.Trod enc P w base spare held t2 v2 d2 p2 ∧ DataW.Trod enc P w base spare held t3 v3 d3 p3 ∧ DataW.Trod enc P w base spare held t4 v4 d4 p4 ∧ DataW.Trod enc P w base spare held t5 v5 d5 p5 ∧ DataW.Trod enc P w base spare held t6 v6 d6 p6 := by
  obtain ⟨v0, l0, d0, e0, p0, q0, ha, rfl, rfl, h0, h⟩ := trodAll_cons h
  obtain ⟨v1, v2, v3, v4, v5, v6, d1, d2, d3, d4, d5, d6, p1, p2, p3, p4, p5, p6, hb, rfl, rfl, h1, h2, h3, h4, h5, h6⟩ := trodAll_six (args := l0.toArray) (by simpa using h)
  refine ⟨v0, v1, v2, v3, v4, v5, v6, d0, d1, d2, d3, d4, d5, d6, p0, p1, p2, p3, p4, p5, p6, ?_, rfl, by simp, h0, h1, h2, h3, h4, h5, h6⟩
  apply Array.ext'
  rw [ha]
  have := congrArg Array.toList hb
  simpa using this
theorem trodAll_ten {w : World} {base : Nat} {spare : Nat → Bool} {held : Bool} {t0 t1 t2 t3 t4 t5 t6 t7 t8 t9 : TypeId} {args : Array Value} {ds : List (DataW H)} {ps : List MemPlace} (h : DataW.TrodAll enc P w base spare held [t0, t1, t2, t3, t4, t5, t6, t7, t8, t9] args.toList ds ps) :
    ∃ v0 v1 v2 v3 v4 v5 v6 v7 v8 v9 d0 d1 d2 d3 d4 d5 d6 d7 d8 d9 p0 p1 p2 p3 p4 p5 p6 p7 p8 p9, args = #[v0, v1, v2, v3, v4, v5, v6, v7, v8, v9] ∧ ds = [d0, d1, d2, d3, d4, d5, d6, d7, d8, d9] ∧ ps = p0 ++ (p1 ++ (p2 ++ (p3 ++ (p4 ++ (p5 ++ (p6 ++ (p7 ++ (p8 ++ p9)))))))) ∧
      DataW.Trod enc P w base spare held t0 v0 d0 p0 ∧ DataW.Trod enc P w base spare held t1 v1 d1 p1 ∧ DataW.Trod enc P w base spare held t2 v2 d2 p2 ∧ DataW.Trod enc P w base spare held t3 v3 d3 p3 ∧ DataW.Trod enc P w base spare held t4 v4 d4 p4 ∧
      DataW.Trod enc P w base spare held t5 v5 d5 p5 ∧ DataW.Trod enc P w base spare held t6 v6 d6 p6 ∧ DataW.Trod enc P w base spare held t7 v7 d7 p7 ∧ DataW.Trod enc P w base spare held t8 v8 d8 p8 ∧ DataW.Trod enc P w base spare held t9 v9 d9 p9 := by
  obtain ⟨v0, l0, d0, e0, p0, q0, ha, rfl, rfl, h0, h⟩ := trodAll_cons h
  obtain ⟨v1, l1, d1, e1, p1, q1, rfl, rfl, rfl, h1, h⟩ := trodAll_cons h
  obtain ⟨v2, l2, d2, e2, p2, q2, rfl, rfl, rfl, h2, h⟩ := trodAll_cons h
  obtain ⟨v3, v4, v5, v6, v7, v8, v9, d3, d4, d5, d6, d7, d8, d9, p3, p4, p5, p6, p7, p8, p9, hb, rfl, rfl, h3, h4, h5, h6, h7, h8, h9⟩ := trodAll_seven (args := l2.toArray) (by simpa using h)
  refine ⟨v0, v1, v2, v3, v4, v5, v6, v7, v8, v9, d0, d1, d2, d3, d4, d5, d6, d7, d8, d9, p0, p1, p2, p3, p4, p5, p6, p7, p8, p9, ?_, rfl, by simp, h0, h1, h2, h3, h4, h5, h6, h7, h8, h9⟩
  apply Array.ext'
  rw [ha]
  have := congrArg Array.toList hb
  simp at this
  simp [this]
end
end Go.Pm
namespace Go.Pm
open Go Go.RowKit
theorem headK_no {x : Kno} (h : entR x.e.n.size x.e.v x.e.k = false) : headK x = false := by unfold headK; rw [h]; rfl
theorem headK_neg {x : Kno} (h : x.p < 1) : headK x = false := by
  unfold headK
  rw [decide_eq_false (show ¬ (1 : Int) ≤ x.p by omega), Bool.and_false]
theorem headK_yes {x : Kno} (h : entR x.e.n.size x.e.v x.e.k = true) (hp : ¬ x.p < 1) : headK x = true := by
  unfold headK
  rw [h, decide_eq_true (show (1 : Int) ≤ x.p by omega)]
  rfl
theorem names3 (a x : ByteArray) {E1 E2 L : Bool} (h1 : E1 = ltN x a) (h2 : E2 = eqN a x) (h3 : L = ltN a x) : (E1 = true ∧ E2 = false ∧ L = false) ∨ (E1 = false ∧ E2 = true ∧ L = false) ∨ (E1 = false ∧ E2 = false ∧ L = true) := by
  subst h1
  subst h2
  subst h3
  unfold ltN
  rw [eqN_no, eqN_iff]
  rcases less_total a.toList x.toList with g | g | g
  · exact .inr (.inr ⟨less_asymm g, less_ne g, g⟩)
  · rw [g]
    exact .inr (.inl ⟨less_irrefl _, rfl, less_irrefl _⟩)
  · exact .inl ⟨g, (less_ne g).symm, less_asymm g⟩
/-- One row of Right, and what is known ahead of it. -/
theorem okK_first' {l : List Kno} (h : 0 < l.length) {b : Bool} (hh : headK l[0] = true) (hv : decide (l[0].e.v = 1) = b) : okK l 0 = b := by rw [okK_first l h, hh, hv]; rfl
theorem okK_head {l : List Kno} {k : Nat} (h : k < l.length) (hh : headK l[k] = false) : okK l k = false := by
  rcases Nat.eq_zero_or_pos k with e | e
  · subst e
    rw [okK_first l h, hh]
    rfl
  · rw [okK_next l k h e, hh]
    rfl
theorem behK_gt {a x : Kno} (h : ltN x.e.n a.e.n = true) : behK a x = false := by unfold behK; rw [h]; rfl
theorem behK_eq {a x : Kno} (h : ltN x.e.n a.e.n = false) (he : eqN a.e.n x.e.n = true) : behK a x = (decide (x.e.v = a.e.v + 1) && decide (a.p < x.p)) := by unfold behK; rw [h, he]; rfl
theorem behK_ne {a x : Kno} (h : ltN x.e.n a.e.n = false) (he : eqN a.e.n x.e.n = false) : behK a x = decide (x.e.v = 1) := by unfold behK; rw [h, he]; rfl
theorem ok_step {l : List Kno} {k : Nat} (h0 : ∀ j, j < k → okK l j = true) (h1 : okK l k = true) : ∀ j, j < k + 1 → okK l j = true := fun j hj => by
  rcases Nat.lt_or_ge j k with g | g
  · exact h0 j g
  · obtain rfl : j = k := by omega
    exact h1
theorem ok_headK {l : List Kno} {k : Nat} (hk : k < l.length) (h : okK l k = true) : headK l[k] = true := by
  cases hh : headK l[k] with
  | true => rfl
  | false => rw [okK_head hk hh] at h; cases h
end Go.Pm
namespace Go.Proofs.Ytglibdggoobocaa
open Go.RowKit Go.Pm
namespace R16
theorem aEnt : AggTy Try.prog 29 3 := Sg.AggTy.of (by kernel_rfl) (by kernel_rfl)
set_option maxRecDepth 100000 in
set_option maxHeartbeats 8000000 in
/-- Right. -/
theorem right (v : Value) (lo hi : Nat) (l : List Kno) (w : World) (hv : Ps 4 w lo hi v (knosC l)) (hlen : l.length ≤ 1099511627776) :
    Calls Try.prog 11 #[v] w fun e w' => e = .returned (.bool (rightK l)) ∧ Kept None w w' := by
  obtain ⟨a, cap, rfl, g1, g2, g3⟩ := hv.form
  rw [knosC_len] at g1 hv ⊢
  obtain ⟨n, hn⟩ : ∃ n, n = l.length := ⟨_, rfl⟩
  rw [← hn] at g1 hlen hv ⊢
  have HV := hid hv
  have HN := hid (And.intro hn hlen)
  clear hv hn g3
  have K0 := hid (Kept.refl None w)
  go_enter Try.func11, Try.ntmps11
  go_wp2
  go_loopg [3] n (fun kx s3 wr => ∃ (k : Nat), s3 = .int .i64 k ∧ k ≤ n ∧ n - k ≤ kx ∧ Hid (Kept None w wr) ∧ Hid (∀ j, j < k → okK l j = true))
  case atStart => exact ⟨0, rfl, Nat.zero_le _, Nat.le_refl _, K0, hid (fun j h => absurd h (Nat.not_lt_zero j))⟩
  case round =>
    obtain ⟨k, rfl, hk, hkx, HK, HT⟩ := hrel
    by_cases hlt : k < n
    · have hz : (k : Int) < (n : Int) := by omega
      have wk : IntKind.i64.wrap ((k : Int) + 1) = (k : Int) + 1 := by rw [IntKind.wrap_i64]; have := HN.out.2; omega
      have kl : k < l.length := by have := HN.out.1; omega
      have HC := hid ((HV.out.kept HK.out (fun _ _ _ h => h)).kno (by omega))
      obtain ⟨bb, o, q1, hc⟩ := HC.out
      obtain rfl := q1
      obtain ⟨_, _, _, _, _, rE⟩ := hc k kl
      obtain ⟨x, hx⟩ : ∃ x, x = l[k] := ⟨_, rfl⟩
      rw [← hx] at rE
      have hER := fun W => RUp.entryRight x.e.n x.e.v x.e.k W
      obtain ⟨ER, hERb⟩ : ∃ b, b = entR x.e.n.size x.e.v x.e.k := ⟨_, rfl⟩
      rw [← hERb] at hER
      have HER := hid hER
      have HXX := hid (And.intro hx hERb)
      clear hc hx hER hERb HC
      have k4 : Kept None wr (wr.alloc (.cells (entC x.e).toArray 29)) := (Kept.refl _ _).alloc _
      have e4 : Blk (wr.alloc (.cells (entC x.e).toArray 29)) wr.heap.size (entC x.e).toArray 29 := Blk.new wr _ _
      go_wp2_with (first | (refine wpList_load_at (.refl _) _ _ rfl rfl rE aEnt ?_) | (refine wpList_load_blk rfl _ _ rfl rfl e4 aEnt ?_) | fail)
      refine (HER.out _).mono ?_
      rintro ev w5 ⟨rfl, k5⟩
      have e5 := e4.kept k5 (fun h => h)
      have k45 := k4.trans k5
      have HK5 := hid (HK.out.trans k45)
      have HC5 : Hid (∀ j (hj : j < l.length), w5.cell? ⟨bb, o + j * 4, none⟩ = some (.string l[j].e.n) ∧ w5.cell? ⟨bb, o + j * 4 + 1, none⟩ = some (.int .i64 l[j].e.v) ∧ w5.cell? ⟨bb, o + j * 4 + 3, none⟩ = some (.int .i64 l[j].p)) := hid (by
        obtain ⟨b5, o5, q5, hc5⟩ := (HV.out.kept HK5.out (fun _ _ _ h => h)).kno (by omega)
        obtain ⟨rfl, rfl⟩ : bb = b5 ∧ o = o5 := by simpa using q5
        exact fun j hj => ⟨(hc5 j hj).1, (hc5 j hj).2.1, (hc5 j hj).2.2.2.1⟩)
      obtain ⟨xp, hxp⟩ : ∃ y, y = l[k].p := ⟨_, rfl⟩
      have c3 := (HC5.out k kl).2.2
      rw [← hxp] at c3
      have HE5 := hid e5
      have HXP := hid hxp
      clear e4 k4 k45 k5 e5 hxp rE HK
      cases ER with
      | false =>
        have HF : Hid (rightK l = false) := hid (rightK_no kl (okK_head kl (headK_no (by rw [← HXX.out.1]; exact HXX.out.2.symm))))
        clear HT HC5
        go_wp2_with fail
        go_ret
        exact ⟨by rw [HF.out]; rfl, HK5.out⟩
      | true =>
        by_cases hp : xp < 1
        · have HF : Hid (rightK l = false) := hid (rightK_no kl (okK_head kl (headK_neg (by rw [← HXP.out]; exact hp))))
          clear HT HC5
          go_wp2_with fail
          go_ret
          exact ⟨by rw [HF.out]; rfl, HK5.out⟩
        · have HH : Hid (headK l[k] = true) := hid (headK_yes (by rw [← HXX.out.1]; exact HXX.out.2.symm) (by rw [← HXP.out]; exact hp))
          obtain ⟨xn, hxn⟩ : ∃ y, y = l[k].e.n := ⟨_, rfl⟩
          obtain ⟨xv, hxv⟩ : ∃ y, y = l[k].e.v := ⟨_, rfl⟩
          obtain ⟨g, hg⟩ : ∃ g, g = wr.heap.size := ⟨_, rfl⟩
          have f0 : w5.cell? ⟨g, 0, none⟩ = some (.string xn) := by rw [hg, hxn, ← HXX.out.1]; exact HE5.out.cell 0
          have f1 : w5.cell? ⟨g, 1, none⟩ = some (.int .i64 xv) := by rw [hg, hxv, ← HXX.out.1]; exact HE5.out.cell 1
          rw [← hg]
          have HXN := hid (And.intro hxn hxv)
          clear HE5 hg hxn hxv HXX
          by_cases hk0 : 0 < k
          · have hkz : (0 : Int) < (k : Int) := by omega
            have hkd : decide ((0 : Int) < (k : Int)) = true := decide_eq_true hkz
            obtain ⟨m, hm⟩ : ∃ m, k = m + 1 := ⟨k - 1, by omega⟩
            have wm : IntKind.i64.wrap ((k : Int) - 1) = (m : Int) := by rw [IntKind.wrap_i64]; omega
            have hzm : (m : Int) < (n : Int) := by omega
            have ml : m < l.length := by omega
            obtain ⟨a0, a1, a3⟩ := HC5.out m ml
            have ha := ok_headK ml (HT.out m (by omega))
            have hbeh : okK l k = behK l[m] l[k] := by
              rw [okK_next l k kl (by omega), HH.out, Bool.true_and]
              congr 1
              simp only [hm, Nat.add_sub_cancel]
            obtain ⟨A, hA⟩ : ∃ A, A = l[m] := ⟨_, rfl⟩
            rw [← hA] at a0 a1 a3 ha hbeh
            obtain ⟨X, hX⟩ : ∃ X, X = l[k] := ⟨_, rfl⟩
            have hxn := HXN.out.1
            have hxv := HXN.out.2
            have hxp := HXP.out
            rw [← hX] at hbeh hxn hxv hxp
            obtain ⟨E1, hE1⟩ : ∃ E, E = ltN X.e.n A.e.n := ⟨_, rfl⟩
            obtain ⟨E2, hE2⟩ : ∃ E, E = eqN A.e.n X.e.n := ⟨_, rfl⟩
            obtain ⟨L, hL⟩ : ∃ E, E = ltN A.e.n X.e.n := ⟨_, rfl⟩
            have tri := names3 _ _ hE1 hE2 hL
            obtain ⟨V, hV⟩ : ∃ E, E = decide (X.e.v = A.e.v + 1) := ⟨_, rfl⟩
            obtain ⟨P, hP⟩ : ∃ E, E = decide (X.p ≤ A.p) := ⟨_, rfl⟩
            obtain ⟨U, hU⟩ : ∃ E, E = decide (X.e.v = 1) := ⟨_, rfl⟩
            have hP2 : decide (A.p < X.p) = !P := by
              rw [hP]
              by_cases h : A.p < X.p
              · rw [decide_eq_true h, decide_eq_false (by omega)]
                rfl
              · rw [decide_eq_false h, decide_eq_true (by omega)]
                rfl
            have hres : okK l k = (!E1 && (if E2 then V && !P else U)) := by rw [hbeh, hE1, hE2, hV, ← hP2, hU]; rfl
            obtain ⟨an, han⟩ : ∃ y, y = A.e.n := ⟨_, rfl⟩
            obtain ⟨av, hav⟩ : ∃ y, y = A.e.v := ⟨_, rfl⟩
            obtain ⟨ap, hap⟩ : ∃ y, y = A.p := ⟨_, rfl⟩
            obtain ⟨y, hy⟩ : ∃ y, y = av + 1 := ⟨_, rfl⟩
            have wy : IntKind.i64.wrap (av + 1) = y := by rw [IntKind.wrap_i64, hy, hav]; have := headK_v ha; omega
            rw [← han] at a0
            rw [← hav] at a1
            rw [← hap] at a3
            have e1 : Go.Op.bytesLess xn.toList an.toList = E1 := by rw [hE1, han, hxn]; rfl
            have e3 : Go.Op.bytesLess an.toList xn.toList = L := by rw [hL, han, hxn]; rfl
            have e2 : (an.toList == xn.toList) = E2 := by rw [hE2, han, hxn]; rfl
            have v1 : (xv == y) = V := by rw [hV, hy, hav, hxv]; rfl
            have v2 : (xv != y) = !V := by rw [← v1]; rfl
            have v3 : decide (xv = y) = V := by rw [← v1]; rfl
            have v4 : (!decide (xv = y)) = !V := by rw [v3]
            have p1 : decide (xp ≤ ap) = P := by rw [hP, hap, hxp]
            have u1 : (xv == 1) = U := by rw [hU, hxv]; rfl
            have u2 : (xv != 1) = !U := by rw [← u1]; rfl
            have u3 : decide (xv = 1) = U := by rw [← u1]; rfl
            have u4 : (!decide (xv = 1)) = !U := by rw [u3]
            have HOK := hid hres
            clear hres hbeh hE1 hE2 hL hV hP hU hP2 han hav hap hy ha hxn hxv hxp hA hX HH HXN HXP HC5 hm
            rcases tri with ⟨rfl, rfl, rfl⟩ | ⟨rfl, rfl, rfl⟩ | ⟨rfl, rfl, rfl⟩
            · go_wp2_with fail
              go_quiet (fail)
              obtain ⟨w6, hw⟩ : ∃ z, z = w5.drewN nq := ⟨_, rfl⟩
              rw [← hw]
              have f0 : w6.cell? ⟨g, 0, none⟩ = some (.string xn) := by rw [hw]; exact f0
              have f1 : w6.cell? ⟨g, 1, none⟩ = some (.int .i64 xv) := by rw [hw]; exact f1
              have a0 : w6.cell? ⟨bb, o + m * 4, none⟩ = some (.string an) := by rw [hw]; exact a0
              have a1 : w6.cell? ⟨bb, o + m * 4 + 1, none⟩ = some (.int .i64 av) := by rw [hw]; exact a1
              have a3 : w6.cell? ⟨bb, o + m * 4 + 3, none⟩ = some (.int .i64 ap) := by rw [hw]; exact a3
              have c3 : w6.cell? ⟨bb, o + k * 4 + 3, none⟩ = some (.int .i64 xp) := by rw [hw]; exact c3
              have kw6 : Kept None w5 w6 := hw ▸ Kept.toDrewN _ _ _
              clear hw nq
              have HF : Hid (rightK l = false) := hid (rightK_no kl HOK.out)
              have HK7 : Hid (Kept None w w6) := hid (HK5.out.trans kw6)
              clear HT HOK
              go_wp2_with fail
              go_ret
              exact ⟨by rw [HF.out]; rfl, HK7.out⟩
            · go_wp2_with fail
              go_quiet (fail)
              obtain ⟨w6, hw⟩ : ∃ z, z = w5.drewN nq := ⟨_, rfl⟩
              rw [← hw]
              have f0 : w6.cell? ⟨g, 0, none⟩ = some (.string xn) := by rw [hw]; exact f0
              have f1 : w6.cell? ⟨g, 1, none⟩ = some (.int .i64 xv) := by rw [hw]; exact f1
              have a0 : w6.cell? ⟨bb, o + m * 4, none⟩ = some (.string an) := by rw [hw]; exact a0
              have a1 : w6.cell? ⟨bb, o + m * 4 + 1, none⟩ = some (.int .i64 av) := by rw [hw]; exact a1
              have a3 : w6.cell? ⟨bb, o + m * 4 + 3, none⟩ = some (.int .i64 ap) := by rw [hw]; exact a3
              have c3 : w6.cell? ⟨bb, o + k * 4 + 3, none⟩ = some (.int .i64 xp) := by rw [hw]; exact c3
              have kw6 : Kept None w5 w6 := hw ▸ Kept.toDrewN _ _ _
              clear hw nq
              go_wp2_with fail
              go_quiet (fail)
              obtain ⟨w7, hw⟩ : ∃ z, z = w6.drewN nq := ⟨_, rfl⟩
              rw [← hw]
              have f0 : w7.cell? ⟨g, 0, none⟩ = some (.string xn) := by rw [hw]; exact f0
              have f1 : w7.cell? ⟨g, 1, none⟩ = some (.int .i64 xv) := by rw [hw]; exact f1
              have a0 : w7.cell? ⟨bb, o + m * 4, none⟩ = some (.string an) := by rw [hw]; exact a0
              have a1 : w7.cell? ⟨bb, o + m * 4 + 1, none⟩ = some (.int .i64 av) := by rw [hw]; exact a1
              have a3 : w7.cell? ⟨bb, o + m * 4 + 3, none⟩ = some (.int .i64 ap) := by rw [hw]; exact a3
              have c3 : w7.cell? ⟨bb, o + k * 4 + 3, none⟩ = some (.int .i64 xp) := by rw [hw]; exact c3
              have kw7 : Kept None w6 w7 := hw ▸ Kept.toDrewN _ _ _
              clear hw nq
              cases V with
              | false =>
                go_wp2_with fail
                go_quiet (fail)
                obtain ⟨w8, hw⟩ : ∃ z, z = w7.drewN nq := ⟨_, rfl⟩
                rw [← hw]
                have f0 : w8.cell? ⟨g, 0, none⟩ = some (.string xn) := by rw [hw]; exact f0
                have f1 : w8.cell? ⟨g, 1, none⟩ = some (.int .i64 xv) := by rw [hw]; exact f1
                have kw8 : Kept None w7 w8 := hw ▸ Kept.toDrewN _ _ _
                clear hw nq
                have HF : Hid (rightK l = false) := hid (rightK_no kl HOK.out)
                have HK7 : Hid (Kept None w w8) := hid (((HK5.out.trans kw6).trans kw7).trans kw8)
                clear HT HOK
                go_wp2_with fail
                go_ret
                exact ⟨by rw [HF.out]; rfl, HK7.out⟩
              | true =>
                cases P with
                | false =>
                  go_wp2_with fail
                  go_quiet (fail)
                  obtain ⟨w8, hw⟩ : ∃ z, z = w7.drewN nq := ⟨_, rfl⟩
                  rw [← hw]
                  have f0 : w8.cell? ⟨g, 0, none⟩ = some (.string xn) := by rw [hw]; exact f0
                  have f1 : w8.cell? ⟨g, 1, none⟩ = some (.int .i64 xv) := by rw [hw]; exact f1
                  have kw8 : Kept None w7 w8 := hw ▸ Kept.toDrewN _ _ _
                  clear hw nq
                  have HT2 := hid (ok_step HT.out HOK.out)
                  have HK7 : Hid (Kept None w w8) := hid (((HK5.out.trans kw6).trans kw7).trans kw8)
                  clear HT HOK
                  go_wp2_with fail
                  go_roundg (n - (k + 1))
                  case measure => omega
                  case rel => exact ⟨k + 1, by go_num, by omega, Nat.le_refl _, HK7, HT2⟩
                | true =>
                  go_wp2_with fail
                  go_quiet (fail)
                  obtain ⟨w8, hw⟩ : ∃ z, z = w7.drewN nq := ⟨_, rfl⟩
                  rw [← hw]
                  have f0 : w8.cell? ⟨g, 0, none⟩ = some (.string xn) := by rw [hw]; exact f0
                  have f1 : w8.cell? ⟨g, 1, none⟩ = some (.int .i64 xv) := by rw [hw]; exact f1
                  have kw8 : Kept None w7 w8 := hw ▸ Kept.toDrewN _ _ _
                  clear hw nq
                  have HF : Hid (rightK l = false) := hid (rightK_no kl HOK.out)
                  have HK7 : Hid (Kept None w w8) := hid (((HK5.out.trans kw6).trans kw7).trans kw8)
                  clear HT HOK
                  go_wp2_with fail
                  go_ret
                  exact ⟨by rw [HF.out]; rfl, HK7.out⟩
            · go_wp2_with fail
              go_quiet (fail)
              obtain ⟨w6, hw⟩ : ∃ z, z = w5.drewN nq := ⟨_, rfl⟩
              rw [← hw]
              have f0 : w6.cell? ⟨g, 0, none⟩ = some (.string xn) := by rw [hw]; exact f0
              have f1 : w6.cell? ⟨g, 1, none⟩ = some (.int .i64 xv) := by rw [hw]; exact f1
              have a0 : w6.cell? ⟨bb, o + m * 4, none⟩ = some (.string an) := by rw [hw]; exact a0
              have a1 : w6.cell? ⟨bb, o + m * 4 + 1, none⟩ = some (.int .i64 av) := by rw [hw]; exact a1
              have a3 : w6.cell? ⟨bb, o + m * 4 + 3, none⟩ = some (.int .i64 ap) := by rw [hw]; exact a3
              have c3 : w6.cell? ⟨bb, o + k * 4 + 3, none⟩ = some (.int .i64 xp) := by rw [hw]; exact c3
              have kw6 : Kept None w5 w6 := hw ▸ Kept.toDrewN _ _ _
              clear hw nq
              go_wp2_with fail
              go_quiet (fail)
              obtain ⟨w7, hw⟩ : ∃ z, z = w6.drewN nq := ⟨_, rfl⟩
              rw [← hw]
              have f0 : w7.cell? ⟨g, 0, none⟩ = some (.string xn) := by rw [hw]; exact f0
              have f1 : w7.cell? ⟨g, 1, none⟩ = some (.int .i64 xv) := by rw [hw]; exact f1
              have a0 : w7.cell? ⟨bb, o + m * 4, none⟩ = some (.string an) := by rw [hw]; exact a0
              have a1 : w7.cell? ⟨bb, o + m * 4 + 1, none⟩ = some (.int .i64 av) := by rw [hw]; exact a1
              have a3 : w7.cell? ⟨bb, o + m * 4 + 3, none⟩ = some (.int .i64 ap) := by rw [hw]; exact a3
              have c3 : w7.cell? ⟨bb, o + k * 4 + 3, none⟩ = some (.int .i64 xp) := by rw [hw]; exact c3
              have kw7 : Kept None w6 w7 := hw ▸ Kept.toDrewN _ _ _
              clear hw nq
              cases U with
              | false =>
                have HF : Hid (rightK l = false) := hid (rightK_no kl HOK.out)
                have HK7 : Hid (Kept None w w7) := hid ((HK5.out.trans kw6).trans kw7)
                clear HT HOK
                go_wp2_with fail
                go_ret
                exact ⟨by rw [HF.out]; rfl, HK7.out⟩
              | true =>
                have HT2 := hid (ok_step HT.out HOK.out)
                have HK7 : Hid (Kept None w w7) := hid ((HK5.out.trans kw6).trans kw7)
                clear HT HOK
                go_wp2_with fail
                go_roundg (n - (k + 1))
                case measure => omega
                case rel => exact ⟨k + 1, by go_num, by omega, Nat.le_refl _, HK7, HT2⟩
          · have hkz : ¬ (0 : Int) < (k : Int) := by omega
            have hkd : decide ((0 : Int) < (k : Int)) = false := decide_eq_false hkz
            obtain ⟨V, hV⟩ : ∃ V, V = decide (xv = 1) := ⟨_, rfl⟩
            have hok : okK l k = V := by
              have e0 : k = 0 := by omega
              subst e0
              exact okK_first' kl HH.out (by rw [hV, HXN.out.2])
            have hV1 := hV.symm
            have hV2 : (xv == 1) = V := by rw [hV]; rfl
            have hV3 : (xv != 1) = !V := by rw [hV]; rfl
            have hV4 : (!decide (xv = 1)) = !V := by rw [hV]
            have HOK := hid hok
            clear hok hV HH HXN HXP HC5
            go_wp2_with fail
            go_quiet (fail)
            obtain ⟨w6, hw⟩ : ∃ z, z = w5.drewN nq := ⟨_, rfl⟩
            rw [← hw]
            have f0 : w6.cell? ⟨g, 0, none⟩ = some (.string xn) := by rw [hw]; exact f0
            have f1 : w6.cell? ⟨g, 1, none⟩ = some (.int .i64 xv) := by rw [hw]; exact f1
            have kw6 : Kept None w5 w6 := hw ▸ Kept.toDrewN _ _ _
            clear hw nq
            go_wp2_with fail
            go_quiet (fail)
            obtain ⟨w7, hw⟩ : ∃ z, z = w6.drewN nq := ⟨_, rfl⟩
            rw [← hw]
            have f0 : w7.cell? ⟨g, 0, none⟩ = some (.string xn) := by rw [hw]; exact f0
            have f1 : w7.cell? ⟨g, 1, none⟩ = some (.int .i64 xv) := by rw [hw]; exact f1
            have kw7 : Kept None w6 w7 := hw ▸ Kept.toDrewN _ _ _
            clear hw nq
            have HK7 := hid ((HK5.out.trans kw6).trans kw7)
            clear kw6 kw7
            cases V with
            | false =>
              have HF : Hid (rightK l = false) := hid (rightK_no kl HOK.out)
              clear HT HOK
              go_wp2_with fail
              go_ret
              exact ⟨by rw [HF.out]; rfl, HK7.out⟩
            | true =>
              have HT2 := hid (ok_step HT.out HOK.out)
              clear HT HOK
              go_wp2_with fail
              go_roundg (n - (k + 1))
              case measure => omega
              case rel => exact ⟨k + 1, by go_num, by omega, Nat.le_refl _, HK7, HT2⟩
    · have hz : ¬ (k : Int) < (n : Int) := by omega
      obtain rfl : k = n := by omega
      have HF : Hid (rightK l = true) := hid (rightK_all (fun i hi => HT.out i (by have := HN.out.1; omega)))
      clear HT
      go_wp2
      go_ret
      exact ⟨by rw [HF.out]; rfl, HK.out⟩
end R16
end Go.Proofs.Ytglibdggoobocaa
namespace Go.Proofs.Ytglibdggoobocaa
open Go.RowKit Go.Pm
namespace Up
theorem aUpd : AggTy Try.prog 77 6 := Sg.AggTy.of (by kernel_rfl) (by kernel_rfl)
theorem upd_all (n : ByteArray) (v c : Int) (k r s : Nat) : (#[.string n, .int .i64 v, .int .u64 (k : Int), .int .i64 c, .int .u64 (r : Int), .int .u64 (s : Int)] : Array Value).all (·.oneCell') = true := by simp [Value.oneCell']

theorem prime_ge (s : Nat) (b : Bool) (h : decide (prime61 ≤ s) = b) : ∀ z, z = s → decide ((2305843009213693951 : Int) ≤ (z : Int)) = b := by
  rintro z rfl
  rw [← h, decide_eq_decide]
  unfold prime61
  omega

set_option maxRecDepth 100000 in
set_option maxHeartbeats 1000000 in
/-- update.Right. -/
theorem right (n : ByteArray) (v c : Int) (k r s : Nat) (w : World) : Calls Try.prog 41 #[updV n v k c r s] w fun e w' => e = .returned (.bool (rightB n.size v k c)) ∧ Kept None w w' := by
  have k0 : Kept None w (w.alloc (.cells #[.string n, .int .i64 v, .int .u64 (k : Int), .int .i64 c, .int .u64 (r : Int), .int .u64 (s : Int)] 77)) := (Kept.refl _ _).alloc _
  by_cases h1 : n.size < 1
  · rw [rightB_no (by omega)]
    go_enter Try.func41, Try.ntmps41
    go_wp2
    go_ret
    exact ⟨rfl, k0⟩
  by_cases h2 : 32 < n.size
  · rw [rightB_no (by omega)]
    go_enter Try.func41, Try.ntmps41
    go_wp2
    go_ret
    exact ⟨rfl, k0⟩
  by_cases h3 : v < 1
  · rw [rightB_no (by omega)]
    go_enter Try.func41, Try.ntmps41
    go_wp2
    go_ret
    exact ⟨rfl, k0⟩
  by_cases h4 : 1073741824 < v
  · rw [rightB_no (by omega)]
    go_enter Try.func41, Try.ntmps41
    go_wp2
    go_ret
    exact ⟨rfl, k0⟩
  by_cases h5 : k < 1
  · rw [rightB_no (by omega)]
    go_enter Try.func41, Try.ntmps41
    go_wp2
    go_ret
    exact ⟨rfl, k0⟩
  by_cases h6 : prime61 ≤ k
  · rw [rightB_no (by omega)]
    have hb := prime_ge k true (decide_eq_true h6)
    clear h6
    go_enter Try.func41, Try.ntmps41
    go_wp2
    go_ret
    exact ⟨rfl, k0⟩
  have hb := prime_ge k false (decide_eq_false h6)
  have e1 : rightB n.size v k c = (c == 0 || c == 1) := by
    rw [Bool.eq_iff_iff, rightB_iff]
    simp only [Bool.or_eq_true, beq_iff_eq]
    omega
  rw [e1]
  clear h6 e1 k0
  go_enter Try.func41, Try.ntmps41
  go_wp2
  all_goals
    go_ret
    exact ⟨rfl, (Kept.refl _ _).alloc _⟩
end Up
end Go.Proofs.Ytglibdggoobocaa
namespace Go.Pm
open Go Go.RowKit
/-- What stands ahead of place k; at the beginning nothing. -/
def ahdK (l : List Kno) : Nat → Kno
  | 0 => Kno.none
  | k + 1 => (l[k]?).getD Kno.none
theorem ahdK_next (l : List Kno) (k : Nat) (h : k < l.length) : ahdK l (k + 1) = l[k] := by
  show (l[k]?).getD Kno.none = _
  rw [List.getElem?_eq_getElem h]
  rfl
def noneK : Kno := Kno.none
/-- From which one x goes on, a standing ahead. -/
def fromK (a x : Kno) : Kno := if eqN x.e.n a.e.n then a else Kno.none
def stepB (a x : Kno) : Bool := (!ltN x.e.n a.e.n) && ((decide (x.e.v = (fromK a x).e.v + 1) && entR x.e.n.size x.e.v x.e.k) && !decide (x.p ≤ (fromK a x).p))
theorem less_nil (x : List UInt8) : Op.bytesLess x [] = false := by cases x <;> rfl
theorem okK_step {l : List Kno} {k : Nat} (h : k < l.length) (h0 : ∀ j, j < k → okK l j = true) : okK l k = stepB (ahdK l k) l[k] := by
  rcases Nat.eq_zero_or_pos k with e | e
  · subst e
    rw [okK_first l h]
    show _ = stepB Kno.none l[0]
    generalize l[0] = x
    unfold stepB fromK
    rw [ite_self]
    have h1 : ltN x.e.n Kno.none.e.n = false := by
      unfold ltN
      rw [show Kno.none.e.n.toList = [] by decide +kernel]
      exact less_nil _
    rw [h1]
    have h2 : decide (1 ≤ x.p) = !decide (x.p ≤ 0) := by
      by_cases g : x.p ≤ 0
      · rw [decide_eq_true g, decide_eq_false (by omega)]; rfl
      · rw [decide_eq_false g, decide_eq_true (by omega)]; rfl
    unfold headK
    rw [h2]
    show _ = (!false && ((decide (x.e.v = 0 + 1) && entR x.e.n.size x.e.v x.e.k) && !decide (x.p ≤ 0)))
    rw [show decide (x.e.v = 0 + 1) = decide (x.e.v = 1) from rfl]
    generalize decide (x.e.v = 1) = A
    generalize entR x.e.n.size x.e.v x.e.k = B
    generalize decide (x.p ≤ 0) = C
    cases A <;> cases B <;> cases C <;> rfl
  · obtain ⟨m, rfl⟩ : ∃ m, k = m + 1 := ⟨k - 1, by omega⟩
    rw [okK_next l (m + 1) h (by omega), ahdK_next l m (by omega)]
    show (headK l[m + 1] && behK l[m] l[m + 1]) = _
    have ha := headK_v (ok_headK (show m < l.length by omega) (h0 m (by omega)))
    generalize l[m] = a at *
    generalize l[m + 1] = x at *
    unfold behK stepB fromK
    have e1 : eqN x.e.n a.e.n = eqN a.e.n x.e.n := by unfold eqN; exact BEq.comm
    rw [e1]
    have h2 : ∀ q : Int, decide (q < x.p) = !decide (x.p ≤ q) := fun q => by
      by_cases g : x.p ≤ q
      · rw [decide_eq_true g, decide_eq_false (by omega)]; rfl
      · rw [decide_eq_false g, decide_eq_true (by omega)]; rfl
    have h3 : decide (1 ≤ x.p) = !decide (x.p ≤ 0) := by
      by_cases g : x.p ≤ 0
      · rw [decide_eq_true g, decide_eq_false (by omega)]; rfl
      · rw [decide_eq_false g, decide_eq_true (by omega)]; rfl
    unfold headK
    rw [h3]
    cases hE : eqN a.e.n x.e.n with
    | true =>
      rw [if_pos rfl, if_pos rfl, h2]
      have h4 : decide (x.p ≤ a.p) = false → decide (x.p ≤ 0) = false := fun g => by
        have := of_decide_eq_false g
        exact decide_eq_false (by omega)
      generalize decide (x.p ≤ a.p) = C at *
      generalize decide (x.p ≤ 0) = D at *
      generalize decide (x.e.v = a.e.v + 1) = A
      generalize entR x.e.n.size x.e.v x.e.k = B
      generalize ltN x.e.n a.e.n = F
      cases A <;> cases B <;> cases C <;> cases D <;> cases F <;> first | rfl | exact absurd (h4 rfl) (by decide)
    | false =>
      rw [if_neg (by decide), if_neg (by decide)]
      show _ = (_ && ((decide (x.e.v = 0 + 1) && _) && !decide (x.p ≤ 0)))
      rw [show decide (x.e.v = 0 + 1) = decide (x.e.v = 1) from rfl]
      generalize decide (x.p ≤ 0) = D at *
      generalize decide (x.e.v = 1) = A
      generalize entR x.e.n.size x.e.v x.e.k = B
      generalize ltN x.e.n a.e.n = F
      cases A <;> cases B <;> cases D <;> cases F <;> rfl
theorem rightB_zero (m : Nat) (v : Int) (k : Nat) : rightB m v k 0 = entR m v k := by unfold rightB; simp
end Go.Pm
namespace Go.Proofs.Ytglibdggoobocaa
open Go.RowKit Go.Pm
namespace Dr
theorem aKno : AggTy Try.prog 31 4 := Sg.AggTy.of (by kernel_rfl) (by kernel_rfl)
theorem aEnt : AggTy Try.prog 29 3 := Sg.AggTy.of (by kernel_rfl) (by kernel_rfl)
theorem kno_all (x : Kno) : (knoC x).toArray.all (·.oneCell') = true := all_oneCell_toArray (knoC_one x)
theorem ent_all (x : Ent) : (entC x).toArray.all (·.oneCell') = true := all_oneCell_toArray (entC_one x)
set_option maxRecDepth 100000 in
set_option maxHeartbeats 4000000 in
/-- mayFollow. -/
theorem mayFollow (ver y : Int) (e : Ent) (w : World) (hy : IntKind.i64.wrap (ver + 1) = y) :
    Calls Try.prog 25 #[.int .i64 ver, e.V] w fun x w' => x = .returned (.bool (decide (e.v = y) && entR e.n.size e.v e.k)) ∧ Kept None w w' := by
  obtain ⟨n, v, k⟩ := e
  have hr : ∀ W, Calls Try.prog 41 #[.agg #[.string n, .int .i64 v, .int .u64 (k : Int), .int .i64 0, .int .u64 0, .int .u64 0]] W fun x w' => x = .returned (.bool (entR n.size v k)) ∧ Kept None W w' := fun W => by
    have := Up.right n v 0 k 0 0 W
    rw [rightB_zero] at this
    exact this
  show Calls Try.prog 25 #[.int .i64 ver, .agg #[.string n, .int .i64 v, .int .u64 (k : Int)]] w fun x w' => x = .returned (.bool (decide (v = y) && entR n.size v k)) ∧ Kept None w w'
  obtain ⟨B, hB⟩ : ∃ B, B = entR n.size v k := ⟨_, rfl⟩
  rw [← hB] at hr ⊢
  have HR := hid hr
  clear hB hr
  have k0 : Kept None w (w.alloc (.cells #[.string n, .int .i64 v, .int .u64 (k : Int)] 29)) := (Kept.refl _ _).alloc _
  have K0 := hid k0
  clear k0
  by_cases h : v = y
  · have d1 : (v == y) = true := by simpa using h
    have d2 : decide (v = y) = true := decide_eq_true h
    rw [d2]
    clear h
    go_enter Try.func25, Try.ntmps25
    go_wp2_with fail
    refine (HR.out _).mono ?_
    rintro e w1 ⟨rfl, k1⟩
    have K1 := hid (K0.out.trans k1)
    clear K0 k1
    go_wp2
    go_ret
    exact ⟨rfl, K1.out⟩
  · have d1 : (v == y) = false := by simpa using h
    have d2 : decide (v = y) = false := decide_eq_false h
    rw [d2]
    clear h
    go_enter Try.func25, Try.ntmps25
    go_wp2_with (first | go_skip | fail)
    go_ret
    exact ⟨rfl, K0.out⟩
end Dr
end Go.Proofs.Ytglibdggoobocaa
namespace Go.Proofs.Ytglibdggoobocaa
open Go.RowKit Go.Pm
namespace Dr
theorem right_nos {l : List Kno} {k : Nat} (h : k < l.length) (h0 : ∀ j, j < k → okK l j = true) (hs : stepB (ahdK l k) l[k] = false) : rightK l = false := rightK_no h (by rw [okK_step h h0]; exact hs)
theorem stepB_lt {a x : Kno} (h : ltN x.e.n a.e.n = true) : stepB a x = false := by unfold stepB; rw [h]; rfl
theorem stepB_ge {a x : Kno} {y : Int} (h : ltN x.e.n a.e.n = false) (hy : y = (fromK a x).e.v + 1) : stepB a x = ((decide (x.e.v = y) && entR x.e.n.size x.e.v x.e.k) && !decide (x.p ≤ (fromK a x).p)) := by unfold stepB; rw [h, hy]; rfl
theorem ver_in {x : Kno} (h : headK x = true) : 0 ≤ x.e.v ∧ x.e.v ≤ 1073741824 := by have := headK_v h; omega
theorem ahd_in {l : List Kno} {k : Nat} (hk : k ≤ l.length) (h0 : ∀ j, j < k → okK l j = true) : 0 ≤ (ahdK l k).e.v ∧ (ahdK l k).e.v ≤ 1073741824 := by
  cases k with
  | zero => exact ⟨Int.le_refl 0, show (0 : Int) ≤ 1073741824 by decide⟩
  | succ m =>
    rw [ahdK_next l m (by omega)]
    exact ver_in (ok_headK (by omega) (h0 m (by omega)))
theorem from_in {a x : Kno} (h : 0 ≤ a.e.v ∧ a.e.v ≤ 1073741824) : 0 ≤ (fromK a x).e.v ∧ (fromK a x).e.v ≤ 1073741824 := by
  unfold fromK
  split
  · exact h
  · exact ⟨Int.le_refl _, by decide⟩
set_option maxRecDepth 100000 in
set_option maxHeartbeats 8000000 in
/-- Right. -/
theorem right : RightC := by
  intro v lo hi l w hv hkw hlen
  obtain ⟨a, cap, rfl, g1, g2, g3⟩ := hv.form
  rw [knosC_len] at g1 hv ⊢
  obtain ⟨n, hn⟩ : ∃ n, n = l.length := ⟨_, rfl⟩
  rw [← hn] at g1 hlen hv ⊢
  obtain ⟨w1, hw1⟩ : ∃ z, z = w.alloc (.cells #[.string ⟨#[]⟩, .int .i64 0, .int .u64 0, .int .i64 0] 31) := ⟨_, rfl⟩
  have K0 := hid (show Kept None w w1 from hw1 ▸ (Kept.refl _ _).alloc _)
  have B0 := hid (show Blk w1 w.heap.size (knoC Kno.none).toArray 31 from hw1 ▸ Blk.new w _ _)
  have HV := hid hv
  have HN := hid (And.intro hn hlen)
  clear hv hn g3 hkw
  go_enter Try.func10, Try.ntmps10
  go_upto_region 2 with fail
  rw [← hw1]
  obtain ⟨A, hA⟩ : ∃ z, z = w.heap.size := ⟨_, rfl⟩
  rw [← hA] at B0 ⊢
  have HA := hid hA
  clear hw1 hA
  go_wp2_with fail
  go_loopg [8] n (fun kx s8 wr => ∃ (k : Nat), s8 = .int .i64 (k : Int) ∧ k ≤ n ∧ n - k ≤ kx ∧ Hid (Kept None w wr) ∧ Hid (∀ j, j < k → okK l j = true) ∧ Hid (Blk wr A (knoC (ahdK l k)).toArray 31))
  case atStart => exact ⟨0, rfl, Nat.zero_le _, Nat.le_refl _, K0, hid (fun j h => absurd h (Nat.not_lt_zero j)), B0⟩
  case round =>
    obtain ⟨k, rfl, hk, hkx, HK, HT, HB⟩ := hrel
    by_cases hlt : k < n
    · have hz : (k : Int) < (n : Int) := by omega
      have wk : IntKind.i64.wrap ((k : Int) + 1) = (k : Int) + 1 := by rw [IntKind.wrap_i64]; have := HN.out.2; omega
      have kl : k < l.length := by have := HN.out.1; omega
      obtain ⟨bb, o, q1, hc⟩ := (HV.out.kept HK.out (fun _ _ _ h => h)).kno (by omega)
      obtain rfl := q1
      obtain ⟨_, _, _, _, rX, _⟩ := hc k kl
      have hin := from_in (x := l[k]) (ahd_in (by omega) HT.out)
      obtain ⟨x, hx⟩ : ∃ x, x = l[k] := ⟨_, rfl⟩
      obtain ⟨y, hy⟩ : ∃ y, y = ahdK l k := ⟨_, rfl⟩
      have HS := hid (show okK l k = stepB y x by rw [hx, hy]; exact okK_step kl HT.out)
      rw [← hx, ← hy] at hin
      rw [← hx] at rX
      have hB := HB.out
      rw [← hy] at hB
      have HXY := hid (And.intro hx hy)
      clear hc hx hy HB
      have HSZ := hid (show w.heap.size ≤ wr.heap.size ∧ A < wr.heap.size from ⟨HK.out.size, hB.lt⟩)
      obtain ⟨⟨xn, xv, xk⟩, xp⟩ := x
      obtain ⟨G, hG⟩ : ∃ z, z = wr.heap.size := ⟨_, rfl⟩
      have z4 := Blk.new wr #[.string ⟨#[]⟩, .int .i64 0, .int .u64 0, .int .i64 0] 31
      have HK4 := hid (show Kept None wr (wr.alloc (.cells #[.string ⟨#[]⟩, .int .i64 0, .int .u64 0, .int .i64 0] 31)) from (Kept.refl _ _).alloc _)
      go_upto_region 5 with (first | (refine wpList_load_at (.refl _) _ _ rfl rfl rX aKno ?_) | (refine wpList_store_blk (.refl _) _ _ _ rfl rfl rfl z4 aKno rfl (kno_all _) ?_; intro w4 x4 k4) | fail)
      have HX4 := hid x4
      have K4 := hid ((HK.out.trans HK4.out).then k4 (fun i hi (h : i = wr.heap.size) => by have := HSZ.out.1; omega))
      have HY4 := hid ((hB.kept HK4.out (fun h => h)).kept k4 (fun (h : A = wr.heap.size) => by have := HSZ.out.2; omega))
      rw [← hG] at HX4 ⊢
      have HSZ := hid (show w.heap.size ≤ G ∧ A < G from by rw [hG]; exact HSZ.out)
      clear rX z4 x4 k4 hB HK HK4 hG
      obtain ⟨yn, hyn⟩ : ∃ q, q = y.e.n := ⟨_, rfl⟩
      have cx0 : w4.cell? ⟨G, 0, none⟩ = some (.string xn) := HX4.out.cell 0
      have cy0 : w4.cell? ⟨A, 0, none⟩ = some (.string yn) := by rw [hyn]; exact HY4.out.cell 0
      obtain ⟨E1, hE1⟩ : ∃ E, E = ltN xn yn := ⟨_, rfl⟩
      obtain ⟨E2, hE2⟩ : ∃ E, E = eqN xn yn := ⟨_, rfl⟩
      have e1 : Op.bytesLess xn.toList yn.toList = E1 := by rw [hE1]; rfl
      have e2 : (xn.toList == yn.toList) = E2 := by rw [hE2]; rfl
      have HE := hid (And.intro hE1 (And.intro hE2 hyn))
      clear hE1 hE2 hyn
      cases E1 with
      | true =>
        have HF : Hid (rightK l = false) := hid (right_nos kl HT.out (by rw [← HXY.out.1, ← HXY.out.2]; exact stepB_lt (by rw [← HE.out.2.2]; exact HE.out.1.symm)))
        clear HT hin
        go_wp2_with fail
        go_ret
        exact ⟨by rw [HF.out]; rfl, K4.out⟩
      | false =>
        have HE1 : Hid (ltN (⟨⟨xn, xv, xk⟩, xp⟩ : Kno).e.n y.e.n = false) := hid (by rw [← HE.out.2.2]; exact HE.out.1.symm)
        cases E2 with
        | true =>
          obtain ⟨f, hf⟩ : ∃ f, f = fromK y ⟨⟨xn, xv, xk⟩, xp⟩ := ⟨_, rfl⟩
          have hfy : f = y := by rw [hf]; exact if_pos (by rw [← HE.out.2.2]; exact HE.out.2.1.symm)
          have HF5 := hid hf
          have HY5 : Hid (Blk w4 A (knoC f).toArray 31) := hid (by rw [hfy]; exact HY4.out)
          rw [← hf] at hin
          have HX5 := HX4
          have K5 := K4
          clear hf hfy HX4 K4 HY4 HE

          obtain ⟨⟨fn, fv, fk⟩, fp⟩ := f
          have cx3 : w4.cell? ⟨G, 3, none⟩ = some (.int .i64 xp) := HX5.out.cell 3
          have cf1 : w4.cell? ⟨A, 1, none⟩ = some (.int .i64 fv) := HY5.out.cell 1
          have cf3 : w4.cell? ⟨A, 3, none⟩ = some (.int .i64 fp) := HY5.out.cell 3
          have rE : w4.rangeAt G 0 (entC ⟨xn, xv, xk⟩) := fun j v hj => by
            match j, hj with
            | 0, hj => obtain rfl := Option.some.inj hj; exact HX5.out.cell 0
            | 1, hj => obtain rfl := Option.some.inj hj; exact HX5.out.cell 1
            | 2, hj => obtain rfl := Option.some.inj hj; exact HX5.out.cell 2
            | j + 3, hj => simp at hj
          obtain ⟨yv, hyv⟩ : ∃ z : Int, z = fv + 1 := ⟨_, rfl⟩
          have hM := mayFollow fv yv ⟨xn, xv, xk⟩ w4 (by rw [IntKind.wrap_i64]; have h1 : 0 ≤ fv := hin.1; have h2 : fv ≤ 1073741824 := hin.2; omega)
          have hsb := stepB_ge (a := y) (x := ⟨⟨xn, xv, xk⟩, xp⟩) (y := yv) HE1.out (by rw [← HF5.out]; exact hyv)
          rw [← HF5.out] at hsb
          obtain ⟨B, hB⟩ : ∃ B, B = (decide (xv = yv) && entR xn.size xv xk) := ⟨_, rfl⟩
          rw [show (decide ((⟨xn, xv, xk⟩ : Ent).v = yv) && entR (⟨xn, xv, xk⟩ : Ent).n.size (⟨xn, xv, xk⟩ : Ent).v (⟨xn, xv, xk⟩ : Ent).k) = B from hB.symm] at hM
          obtain ⟨P, hP⟩ : ∃ P, P = decide (xp ≤ fp) := ⟨_, rfl⟩
          have HSB := hid (show stepB y ⟨⟨xn, xv, xk⟩, xp⟩ = (B && !P) by rw [hsb, hB, hP])
          have HM := hid hM
          have hP' : decide (xp ≤ fp) = P := hP.symm
          clear hM hsb hB hyv hP hin
          have rE0 := rE
          go_wp2_with (first | (refine wpList_load_at (.refl _) _ _ rfl rfl rE aEnt ?_) | fail)
          refine HM.out.mono ?_
          rintro e w6 ⟨rfl, k6⟩
          have HX6 := hid (HX5.out.kept k6 (fun h => h))
          have HY6 := hid (HY5.out.kept k6 (fun h => h))
          have K6 := hid (K5.out.trans k6)
          have cx3 : w6.cell? ⟨G, 3, none⟩ = some (.int .i64 xp) := HX6.out.cell 3
          have cf3 : w6.cell? ⟨A, 3, none⟩ = some (.int .i64 fp) := HY6.out.cell 3
          clear k6 HM rE rE0 cf1 HX5 HY5 K5
          cases B with
          | false =>
            have HF : Hid (rightK l = false) := hid (right_nos kl HT.out (by rw [← HXY.out.1, ← HXY.out.2]; exact HSB.out))
            clear HT
            go_wp2_with (first | go_skip | fail)
            go_ret
            exact ⟨by rw [HF.out]; rfl, K6.out⟩
          | true =>
            cases P with
            | true =>
              have HF : Hid (rightK l = false) := hid (right_nos kl HT.out (by rw [← HXY.out.1, ← HXY.out.2]; exact HSB.out))
              clear HT
              go_wp2_with (first | go_skip | fail)
              go_ret
              exact ⟨by rw [HF.out]; rfl, K6.out⟩
            | false =>
              have HT2 := hid (ok_step HT.out ((okK_step kl HT.out).trans (by rw [← HXY.out.1, ← HXY.out.2]; exact HSB.out)))
              have x6 := HX6.out
              have y6 := HY6.out
              have hs6 := HSZ.out
              clear HT
              go_wp2_with (first | (refine wpList_load_blk rfl _ _ rfl rfl x6 aKno ?_) | (refine wpList_store_blk (.refl _) _ _ _ rfl rfl rfl y6 aKno rfl (kno_all _) ?_; intro w7 y7 k7) | go_skip | fail)
              have K7 := hid (K6.out.then k7 (fun i hi (h : i = A) => by have := HA.out; omega))
              have HB7 : Hid (Blk w7 A (knoC (ahdK l (k + 1))).toArray 31) := hid (by rw [ahdK_next l k kl, ← HXY.out.1]; exact y7)
              clear x6 y6 y7 k7 hs6
              go_roundg (n - (k + 1))
              case measure => omega
              case rel => exact ⟨k + 1, by go_num, by omega, Nat.le_refl _, K7, HT2, HB7⟩
        | false =>
          obtain ⟨f, hf⟩ : ∃ f, f = fromK y ⟨⟨xn, xv, xk⟩, xp⟩ := ⟨_, rfl⟩
          have hfy : f = Kno.none := by rw [hf]; exact if_neg (by rw [← HE.out.2.2]; show ¬ eqN xn yn = true; rw [← HE.out.2.1]; decide)
          have HF5 := hid hf
          have HFN := hid hfy
          rw [← hf] at hin
          have y4 := HY4.out
          clear hf hfy HY4 HE
          go_upto_region 9 with (first | (refine wpList_store_blk (.refl _) _ _ _ rfl rfl rfl y4 aKno rfl (kno_all Kno.none) ?_; intro w5 y5 k5) | fail)
          have HY5 : Hid (Blk w5 A (knoC f).toArray 31) := hid (by rw [HFN.out]; exact y5)
          have HX5 := hid (HX4.out.kept k5 (fun (h : G = A) => by have := HSZ.out.2; omega))
          have K5 := hid (K4.out.then k5 (fun i hi (h : i = A) => by have := HA.out; omega))
          clear y4 y5 k5 HX4 K4 HFN cx0 cy0

          obtain ⟨⟨fn, fv, fk⟩, fp⟩ := f
          have cx3 : w5.cell? ⟨G, 3, none⟩ = some (.int .i64 xp) := HX5.out.cell 3
          have cf1 : w5.cell? ⟨A, 1, none⟩ = some (.int .i64 fv) := HY5.out.cell 1
          have cf3 : w5.cell? ⟨A, 3, none⟩ = some (.int .i64 fp) := HY5.out.cell 3
          have rE : w5.rangeAt G 0 (entC ⟨xn, xv, xk⟩) := fun j v hj => by
            match j, hj with
            | 0, hj => obtain rfl := Option.some.inj hj; exact HX5.out.cell 0
            | 1, hj => obtain rfl := Option.some.inj hj; exact HX5.out.cell 1
            | 2, hj => obtain rfl := Option.some.inj hj; exact HX5.out.cell 2
            | j + 3, hj => simp at hj
          obtain ⟨yv, hyv⟩ : ∃ z : Int, z = fv + 1 := ⟨_, rfl⟩
          have hM := mayFollow fv yv ⟨xn, xv, xk⟩ w5 (by rw [IntKind.wrap_i64]; have h1 : 0 ≤ fv := hin.1; have h2 : fv ≤ 1073741824 := hin.2; omega)
          have hsb := stepB_ge (a := y) (x := ⟨⟨xn, xv, xk⟩, xp⟩) (y := yv) HE1.out (by rw [← HF5.out]; exact hyv)
          rw [← HF5.out] at hsb
          obtain ⟨B, hB⟩ : ∃ B, B = (decide (xv = yv) && entR xn.size xv xk) := ⟨_, rfl⟩
          rw [show (decide ((⟨xn, xv, xk⟩ : Ent).v = yv) && entR (⟨xn, xv, xk⟩ : Ent).n.size (⟨xn, xv, xk⟩ : Ent).v (⟨xn, xv, xk⟩ : Ent).k) = B from hB.symm] at hM
          obtain ⟨P, hP⟩ : ∃ P, P = decide (xp ≤ fp) := ⟨_, rfl⟩
          have HSB := hid (show stepB y ⟨⟨xn, xv, xk⟩, xp⟩ = (B && !P) by rw [hsb, hB, hP])
          have HM := hid hM
          have hP' : decide (xp ≤ fp) = P := hP.symm
          clear hM hsb hB hyv hP hin
          have rE0 := rE
          go_wp2_with (first | (refine wpList_load_at (.refl _) _ _ rfl rfl rE aEnt ?_) | fail)
          refine HM.out.mono ?_
          rintro e w6 ⟨rfl, k6⟩
          have HX6 := hid (HX5.out.kept k6 (fun h => h))
          have HY6 := hid (HY5.out.kept k6 (fun h => h))
          have K6 := hid (K5.out.trans k6)
          have cx3 : w6.cell? ⟨G, 3, none⟩ = some (.int .i64 xp) := HX6.out.cell 3
          have cf3 : w6.cell? ⟨A, 3, none⟩ = some (.int .i64 fp) := HY6.out.cell 3
          clear k6 HM rE rE0 cf1 HX5 HY5 K5
          cases B with
          | false =>
            have HF : Hid (rightK l = false) := hid (right_nos kl HT.out (by rw [← HXY.out.1, ← HXY.out.2]; exact HSB.out))
            clear HT
            go_wp2_with (first | go_skip | fail)
            go_ret
            exact ⟨by rw [HF.out]; rfl, K6.out⟩
          | true =>
            cases P with
            | true =>
              have HF : Hid (rightK l = false) := hid (right_nos kl HT.out (by rw [← HXY.out.1, ← HXY.out.2]; exact HSB.out))
              clear HT
              go_wp2_with (first | go_skip | fail)
              go_ret
              exact ⟨by rw [HF.out]; rfl, K6.out⟩
            | false =>
              have HT2 := hid (ok_step HT.out ((okK_step kl HT.out).trans (by rw [← HXY.out.1, ← HXY.out.2]; exact HSB.out)))
              have x6 := HX6.out
              have y6 := HY6.out
              have hs6 := HSZ.out
              clear HT
              go_wp2_with (first | (refine wpList_load_blk rfl _ _ rfl rfl x6 aKno ?_) | (refine wpList_store_blk (.refl _) _ _ _ rfl rfl rfl y6 aKno rfl (kno_all _) ?_; intro w7 y7 k7) | go_skip | fail)
              have K7 := hid (K6.out.then k7 (fun i hi (h : i = A) => by have := HA.out; omega))
              have HB7 : Hid (Blk w7 A (knoC (ahdK l (k + 1))).toArray 31) := hid (by rw [ahdK_next l k kl, ← HXY.out.1]; exact y7)
              clear x6 y6 y7 k7 hs6
              go_roundg (n - (k + 1))
              case measure => omega
              case rel => exact ⟨k + 1, by go_num, by omega, Nat.le_refl _, K7, HT2, HB7⟩
    · have hz : ¬ (k : Int) < (n : Int) := by omega
      obtain rfl : k = n := by omega
      have HF : Hid (rightK l = true) := hid (rightK_all (fun i hi => HT.out i (by have := HN.out.1; omega)))
      clear HT
      go_wp2
      go_ret
      exact ⟨by rw [HF.out]; rfl, HK.out⟩
end Dr
end Go.Proofs.Ytglibdggoobocaa
namespace Go.Pm
open Go Go.RowKit
/-- So many of l have a name that isn't above nm: the first ones. -/
structure Beh (l : List Kno) (nm : ByteArray) (m : Nat) : Prop where
  le : m ≤ l.length
  lo : ∀ i (h : i < l.length), i < m → ltN nm l[i].e.n = false
  up : ∀ i (h : i < l.length), m ≤ i → ltN nm l[i].e.n = true
theorem gt_of (a b : ByteArray) : (!(Op.bytesLess a.toList b.toList || a.toList == b.toList)) = ltN b a := by
  unfold ltN
  rcases less_total a.toList b.toList with g | g | g
  · rw [g, less_asymm g]; rfl
  · rw [g, less_irrefl, beq_self_eq_true]; rfl
  · rw [g, less_asymm g, beq_eq_false_iff_ne.2 (less_ne g).symm]; rfl
theorem half64 {lo hi q : Nat} (h : lo + hi ≤ 1000000000000) (hq : q = (lo + hi) / 2) : wrap64 (IntKind.u64.wrap (wrap64 ((lo : Int) + (hi : Int))) / 2) = (q : Int) := by
  have e2 : ∀ x : Int, 0 ≤ x → x < 18446744073709551616 → IntKind.u64.wrap x = x := fun x h1 h2 => by simp [IntKind.wrap, IntKind.bits, IntKind.signed]; omega
  have e3 : wrap64 ((lo : Int) + (hi : Int)) = (lo : Int) + (hi : Int) := by unfold wrap64; omega
  rw [e3, e2 _ (by omega) (by omega)]
  unfold wrap64
  omega
theorem gt_of2 (a b : ByteArray) : (!Op.bytesLess a.toList b.toList && !(a.toList == b.toList)) = ltN b a := by
  rw [← gt_of, Bool.not_or]
theorem KLt.name {a b : Kno} (h : KLt a b) : ltN b.e.n a.e.n = false := by
  unfold ltN
  rcases h with h | ⟨h, _⟩
  · exact less_asymm h
  · rw [h, less_irrefl]
theorem gt_mono {l : List Kno} (hp : l.Pairwise KLt) {nm : ByteArray} {i j : Nat} (hi : i < l.length) (hj : j < l.length) (hij : i ≤ j) (h : ltN nm l[i].e.n = true) : ltN nm l[j].e.n = true := by
  rcases Nat.lt_or_ge i j with g | g
  · have hk := List.pairwise_iff_getElem.1 hp i j hi hj g
    unfold ltN at *
    rcases hk with hk | ⟨hk, _⟩
    · exact less_trans h hk
    · rw [← hk]; exact h
  · have : i = j := by omega
    subst this
    exact h
theorem Beh.name {l : List Kno} {nm : ByteArray} {m : Nat} (h : Beh l nm m) {i : Nat} (hi : i < l.length) (hn : l[i].e.n.toList = nm.toList) : i < m := by
  rcases Nat.lt_or_ge i m with g | g
  · exact g
  · have := h.up i hi g
    unfold ltN at this
    rw [hn, less_irrefl] at this
    cases this
theorem beh_lat {l : List Kno} (hp : l.Pairwise KLt) {nm : ByteArray} {m : Nat} (h : Beh l nm (m + 1)) (hm : m < l.length) (hn : l[m].e.n.toList = nm.toList) : latF l nm = (l[m], true) := by
  have s := latF_spec l nm
  obtain ⟨t1, t2⟩ := s.top l[m] (List.getElem_mem hm) hn
  obtain ⟨y1, y2⟩ := s.yes t1
  obtain ⟨j, hj, e⟩ := List.getElem_of_mem y1
  have hjm := h.name hj (by rw [e]; exact y2)
  have : j = m := by
    refine Decidable.byContradiction (fun g => ?_)
    have hk := List.pairwise_iff_getElem.1 hp j m hj hm (by omega)
    rw [e] at hk
    rcases hk with hk | ⟨_, hk⟩
    · unfold ltN at hk
      rw [y2, hn, less_irrefl] at hk
      cases hk
    · omega
  subst this
  exact Prod.ext e.symm t1
theorem beh_none {l : List Kno} (hp : l.Pairwise KLt) {nm : ByteArray} {m : Nat} (h : Beh l nm m) (hn : ∀ hm : m - 1 < l.length, 0 < m → l[m - 1].e.n.toList ≠ nm.toList) : latF l nm = (Kno.none, false) := by
  have s := latF_spec l nm
  have hno : ∀ x ∈ l, x.e.n.toList ≠ nm.toList := by
    intro x hx e
    obtain ⟨j, hj, rfl⟩ := List.getElem_of_mem hx
    have hjm := h.name hj e
    have hle := h.le
    refine hn (by omega) (by omega) ?_
    have h1 := h.lo (m - 1) (by omega) (by omega)
    rcases Nat.lt_or_ge j (m - 1) with g | g
    · have hk := List.pairwise_iff_getElem.1 hp j (m - 1) hj (by omega) g
      rcases hk with hk | ⟨hk, _⟩
      · unfold ltN at hk h1
        rw [e] at hk
        rw [hk] at h1
        cases h1
      · exact hk.symm.trans e
    · have : j = m - 1 := by omega
      subst this
      exact e
  cases hb : (latF l nm).2 with
  | true => exact absurd (s.yes hb).2 (hno _ (s.yes hb).1)
  | false => exact Prod.ext (s.no hb).1 hb
end Go.Pm
namespace Go.Proofs.Ytglibdggoobocaa
open Go.RowKit Go.Pm
namespace Dr
set_option maxRecDepth 100000 in
set_option maxHeartbeats 4000000 in
/-- behind's closure. -/
theorem above (bl bn : Nat) (a : Option Addr) (cap lo hi : Nat) (l : List Kno) (nm : ByteArray) (i : Nat) (w : World) (hv : Ps 4 w lo hi (.slice a l.length cap) (knosC l)) (hil : i < l.length) (h1 : w.cell? ⟨bl, 0, none⟩ = some (.slice a l.length cap)) (h2 : w.cell? ⟨bn, 0, none⟩ = some (.string nm)) :
    Calls Try.prog 46 #[.int .i64 (i : Int), .pointer (some ⟨bl, 0, none⟩), .pointer (some ⟨bn, 0, none⟩)] w fun e w' => e = .returned (.bool (ltN nm l[i].e.n)) ∧ Kept None w w' := by
  obtain ⟨bb, o, q1, hc⟩ := hv.kno (by omega)
  obtain rfl := q1
  have c0 := (hc i hil).1
  obtain ⟨n, hn⟩ : ∃ n, n = l.length := ⟨_, rfl⟩
  have hz : (i : Int) < (n : Int) := by omega
  obtain ⟨x, hx⟩ : ∃ x, x = l[i].e.n := ⟨_, rfl⟩
  rw [← hx] at c0 ⊢
  rw [← hn] at h1
  have G := hid (gt_of2 x nm)
  clear hc hx hn hil hv
  go_enter Try.func46, Try.ntmps46
  go_wp2_with fail
  go_quiet (fail)
  go_wp2
  go_ret
  exact ⟨by rw [← G.out]; rfl, Kept.toDrewN _ _ _⟩
set_option maxRecDepth 100000 in
set_option maxHeartbeats 4000000 in
/-- sort.Search with behind's closure. -/
theorem search (p1 p2 : Value) (n : Nat) (p : Nat → Bool) (w : World) (hn : n ≤ 1000000000)
    (hf : ∀ W, Kept None w W → ∀ i : Nat, i < n → Calls Try.prog 46 #[.int .i64 (i : Int), p1, p2] W fun e w' => e = .returned (.bool (p i)) ∧ Kept None W w')
    (hmono : ∀ a b, a ≤ b → b < n → p a = true → p b = true) :
    Calls Try.prog 45 #[.int .i64 (n : Int), .func (.func 46) #[] #[p1, p2]] w fun e w' => ∃ m : Nat, e = .returned (.int .i64 (m : Int)) ∧ m ≤ n ∧ (∀ t, t < m → p t = false) ∧ (∀ t, m ≤ t → t < n → p t = true) ∧ Kept None w w' := by
  have HF := hid hf
  have M := hid hmono
  have HN := hid hn
  have K0 := hid (Kept.refl None w)
  clear hf hmono hn
  go_enter Try.func45, Try.ntmps45
  go_wp2
  go_loopg [5, 6] n (fun kx s5 s6 wr => ∃ (lo hi : Nat), s5 = .int .i64 (lo : Int) ∧ s6 = .int .i64 (hi : Int) ∧ lo ≤ hi ∧ hi ≤ n ∧ hi - lo ≤ kx ∧ Hid (Kept None w wr) ∧
    Hid ((∀ t, t < lo → p t = false) ∧ (∀ t, hi ≤ t → t < n → p t = true)))
  case atStart => exact ⟨0, n, rfl, rfl, Nat.zero_le _, Nat.le_refl _, by omega, K0, hid ⟨fun t ht => absurd ht (Nat.not_lt_zero _), fun t h1 h2 => by omega⟩⟩
  case round =>
    obtain ⟨lo, hi, rfl, rfl, hlh, hin, hg, HK, I⟩ := hrel
    by_cases hlt : lo < hi
    · obtain ⟨q, hq⟩ : ∃ q : Nat, q = (lo + hi) / 2 := ⟨_, rfl⟩
      have hq1 : lo ≤ q := by omega
      have hq2 : q < hi := by omega
      have hz : (lo : Int) < (hi : Int) := by omega
      have hqq : wrap64 (IntKind.u64.wrap (wrap64 ((lo : Int) + (hi : Int))) / 2) = (q : Int) := half64 (by have := HN.out; omega) hq
      have hc := HF.out wr HK.out q (by omega)
      have HC := hid hc
      have HQ := hid (And.intro hq1 (And.intro hq2 hin))
      have HNN := hid (show (lo : Int) + (hi : Int) ≤ 2000000000 by have := HN.out; omega)
      obtain ⟨B, hB⟩ : ∃ B, B = p q := ⟨_, rfl⟩
      have HB := hid hB
      clear hc hB hq
      go_wp2_with fail
      refine HC.out.mono ?_
      rw [← HB.out]
      rintro e w1 ⟨rfl, k1⟩
      have K1 := hid (HK.out.trans k1)
      clear k1 HC HK
      have wq : wrap64 ((q : Int) + 1) = ((q + 1 : Nat) : Int) := by have := HNN.out; unfold wrap64; omega
      cases B with
      | false =>
        go_wp2
        go_roundg (hi - (q + 1))
        case measure => omega
        case rel => exact ⟨q + 1, hi, by go_num, rfl, by omega, hin, Nat.le_refl _, K1, hid ⟨fun t ht => (by
            cases h : p t with
            | false => rfl
            | true => have := M.out t q (by omega) (by omega) h; rw [← HB.out] at this; cases this), I.out.2⟩⟩
      | true =>
        go_wp2
        go_roundg (q - lo)
        case measure => omega
        case rel => exact ⟨lo, q, rfl, rfl, hq1, by omega, Nat.le_refl _, K1, hid ⟨I.out.1, fun t h1 h2 => M.out q t h1 h2 HB.out.symm⟩⟩
    · obtain rfl : hi = lo := by omega
      go_wp2
      go_ret
      exact ⟨_, rfl, hin, I.out.1, I.out.2, HK.out⟩
set_option maxRecDepth 100000 in
set_option maxHeartbeats 4000000 in
/-- behind. -/
theorem behind (v : Value) (lo hi : Nat) (l : List Kno) (nm : ByteArray) (w : World) (hv : Ps 4 w lo hi v (knosC l)) (hp : l.Pairwise KLt) (hlen : l.length ≤ 1000000000) :
    Calls Try.prog 32 #[v, .string nm] w fun e w' => ∃ m : Nat, e = .returned (.int .i64 (m : Int)) ∧ Beh l nm m ∧ Kept None w w' := by
  obtain ⟨a, cap, rfl, g1, g2, g3⟩ := hv.form
  rw [knosC_len] at g1 hv ⊢
  obtain ⟨w2, hw2⟩ : ∃ z, z = (w.alloc (.cells #[.slice a l.length cap] 23)).alloc (.cells #[.string nm] 9) := ⟨_, rfl⟩
  have k2 : Kept None w w2 := hw2 ▸ ((Kept.refl _ _).alloc _).alloc _
  have b1 : Blk w2 w.heap.size #[.slice a l.length cap] 23 := hw2 ▸ (Blk.new w _ _).alloc _
  have b2 : Blk w2 (w.heap.size + 1) #[.string nm] 9 := hw2 ▸ Blk.new2 w _ _ _
  have hs := search (.pointer (some ⟨w.heap.size, 0, none⟩)) (.pointer (some ⟨w.heap.size + 1, 0, none⟩)) l.length (fun i => ltN nm ((l[i]?).getD Kno.none).e.n) w2 hlen (fun W hW i hil => by
    have := above w.heap.size (w.heap.size + 1) a cap lo hi l nm i W ((hv.kept k2 (fun _ _ _ h => h)).kept hW (fun _ _ _ h => h)) hil ((b1.kept hW (fun h => h)).cell 0) ((b2.kept hW (fun h => h)).cell 0)
    simp only [List.getElem?_eq_getElem hil, Option.getD_some]
    exact this) (fun a b hab hb h => by
      simp only [List.getElem?_eq_getElem hb, List.getElem?_eq_getElem (show a < l.length by omega), Option.getD_some] at h ⊢
      exact gt_mono hp (by omega) hb hab h)
  have HS := hid hs
  have K2 := hid k2
  have c1 : w2.cell? ⟨w.heap.size, 0, none⟩ = some (.slice a l.length cap) := b1.cell 0
  clear hs k2 b1 b2 hv hp g3 hlen
  go_enter Try.func32, Try.ntmps32
  go_upto_region 1 with fail
  rw [← hw2]
  clear hw2
  go_wp2_with fail
  refine HS.out.mono ?_
  rintro e w3 ⟨m, rfl, h1, h2, h3, k3⟩
  have HB : Hid (Beh l nm m) := hid ⟨h1, fun i hi hm => by have := h2 i hm; simp only [List.getElem?_eq_getElem hi, Option.getD_some] at this; exact this, fun i hi hm => by have := h3 i hm hi; simp only [List.getElem?_eq_getElem hi, Option.getD_some] at this; exact this⟩
  have K3 := hid (K2.out.trans k3)
  clear h1 h2 h3 k3
  go_wp2
  go_ret
  exact ⟨_, rfl, HB.out, K3.out⟩
end Dr
end Go.Proofs.Ytglibdggoobocaa
namespace Go.Proofs.Ytglibdggoobocaa
open Go.RowKit Go.Pm
namespace Dr
set_option maxRecDepth 100000 in
set_option maxHeartbeats 8000000 in
/-- Latest. -/
theorem latest : LatestC := by
  intro v lo hi l nm w hv hrt hlen
  obtain ⟨a, cap, rfl, g1, g2, g3⟩ := hv.form
  rw [knosC_len] at g1 hv ⊢
  obtain ⟨n, hn⟩ : ∃ n, n = l.length := ⟨_, rfl⟩
  rw [← hn] at g1 hv ⊢
  obtain ⟨w1, hw1⟩ : ∃ z, z = w.alloc (.cells #[.string ⟨#[]⟩, .int .i64 0, .int .u64 0, .int .i64 0] 31) := ⟨_, rfl⟩
  have K0 := hid (show Kept None w w1 from hw1 ▸ (Kept.refl _ _).alloc _)
  have B0 := hid (show Blk w1 w.heap.size #[.string ⟨#[]⟩, .int .i64 0, .int .u64 0, .int .i64 0] 31 from hw1 ▸ Blk.new w _ _)
  have HB := hid (behind (.slice a n cap) lo hi l nm w1 (hv.kept K0.out (fun _ _ _ h => h)) hrt.lt (Nat.le_trans hlen (by decide)))
  have HV := hid hv
  have HN := hid (And.intro hn (And.intro hlen hrt.lt))
  clear hv hn g3 hrt hlen
  go_enter Try.func18, Try.ntmps18
  go_upto_region 1 with fail
  rw [← hw1]
  clear hw1
  obtain ⟨A, hA⟩ : ∃ z, z = w.heap.size := ⟨_, rfl⟩
  rw [← hA] at B0 ⊢
  have HA := hid hA
  clear hA
  go_wp2_with fail
  refine HB.out.mono ?_
  rintro e w2 ⟨M, rfl, hb, k2⟩
  have K2 := hid (K0.out.trans k2)
  have B2 := hid (B0.out.kept k2 (fun h => h))
  have HBE := hid hb
  clear hb k2 HB K0 B0
  by_cases h0 : M = 0
  · have d1 : ((M : Int) == 0) = true := by rw [h0]; rfl
    have d2 : decide ((M : Int) = 0) = true := by rw [h0]; rfl
    have HF := hid (beh_none HN.out.2.2 HBE.out (fun _ h => absurd h (by omega)))
    have b2 := B2.out
    clear h0 HV
    go_wp2_with (first | (refine wpList_store_blk (.refl _) _ _ _ rfl rfl rfl b2 aKno rfl (kno_all Kno.none) ?_; intro w5 y5 k5) | go_skip | fail)
    exact bodyPost_ret (v := .tuple #[Kno.none.V, .bool false]) (R16.res_ct rfl _ rfl rfl y5 aKno) rfl ⟨by rw [HF.out], K2.out.then k5 (fun i hi (h : i = A) => by have := HA.out; omega)⟩
  · obtain ⟨q, hq⟩ : ∃ q, M = q + 1 := ⟨M - 1, by omega⟩
    subst hq
    have hql : q < l.length := by have := HBE.out.le; omega
    have hbe := HBE.out
    obtain ⟨M, hM⟩ : ∃ M, M = q + 1 := ⟨_, rfl⟩
    rw [← hM] at hbe HBE ⊢
    have d1 : ((M : Int) == 0) = false := by
      have : ¬ M = 0 := by omega
      simpa using this
    have d2 : decide ((M : Int) = 0) = false := by
      have : ¬ M = 0 := by omega
      simpa using this
    have wq : IntKind.i64.wrap ((M : Int) - 1) = (q : Int) := by rw [IntKind.wrap_i64]; have := HN.out.2.1; omega
    have hz : (q : Int) < (n : Int) := by have := HN.out.1; omega
    obtain ⟨bb, o, q1, hc⟩ := (HV.out.kept K2.out (fun _ _ _ h => h)).kno (by omega)
    obtain rfl := q1
    have c0 := (hc q hql).1
    have rX := (hc q hql).2.2.2.2.1
    obtain ⟨x, hx⟩ : ∃ x, x = l[q] := ⟨_, rfl⟩
    rw [← hx] at c0 rX
    obtain ⟨xn, hxn⟩ : ∃ z, z = x.e.n := ⟨_, rfl⟩
    rw [← hxn] at c0
    obtain ⟨E, hE⟩ : ∃ E, E = eqN xn nm := ⟨_, rfl⟩
    have e2 : (xn.toList == nm.toList) = E := by rw [hE]; rfl
    have HE := hid (And.intro hE hxn)
    have HQ := hid (show ∃ h : q < l.length, x = l[q] from ⟨hql, hx⟩)
    have HM := hid (And.intro hM hbe)
    clear hc hE hxn h0 hM hbe hx hql HBE
    cases E with
    | true =>
      have HF : Hid (latF l nm = (x, true)) := hid (by
        obtain ⟨h1, h2⟩ := HQ.out
        rw [h2]
        exact beh_lat HN.out.2.2 (HM.out.1 ▸ HM.out.2) h1 (by rw [← h2, ← HE.out.2]; exact eqN_iff.1 HE.out.1.symm))
      have b2 := B2.out
      go_wp2_with (first | (refine wpList_load_at (.refl _) _ _ rfl rfl rX aKno ?_) | (refine wpList_store_blk (.refl _) _ _ _ rfl rfl rfl b2 aKno rfl (kno_all _) ?_; intro w5 y5 k5) | fail)
      exact bodyPost_ret (v := .tuple #[x.V, .bool true]) (R16.res_ct rfl _ rfl rfl y5 aKno) rfl ⟨by rw [HF.out], K2.out.then k5 (fun i hi (h : i = A) => by have := HA.out; omega)⟩
    | false =>
      have HF := hid (beh_none HN.out.2.2 HM.out.2 (fun h1 h2 => by
        have e1 : M - 1 = q := by have := HM.out.1; omega
        simp only [e1]
        obtain ⟨h3, h4⟩ := HQ.out
        rw [← h4, ← HE.out.2]
        exact eqN_no.1 HE.out.1.symm))
      have b2 := B2.out
      go_wp2_with (first | (refine wpList_store_blk (.refl _) _ _ _ rfl rfl rfl b2 aKno rfl (kno_all Kno.none) ?_; intro w5 y5 k5) | go_skip | fail)
      exact bodyPost_ret (v := .tuple #[Kno.none.V, .bool false]) (R16.res_ct rfl _ rfl rfl y5 aKno) rfl ⟨by rw [HF.out], K2.out.then k5 (fun i hi (h : i = A) => by have := HA.out; omega)⟩
end Dr
end Go.Proofs.Ytglibdggoobocaa
namespace Go.Pm
open Go Go.RowKit Go.Sort
def orF (a b : Int) : Int := if a = 0 then b else a
def cmpK (x : Kno) (e : Ent) : Int := orF (Lib.compareBytes x.e.n.data.toList e.n.data.toList) (Lib.compareInt x.e.v e.v)
theorem compare_zero : ∀ a b : List UInt8, Lib.compareBytes a b = 0 ↔ a = b
  | [], [] => ⟨fun _ => rfl, fun _ => rfl⟩
  | [], _ :: _ => ⟨fun h => by simp [Lib.compareBytes] at h, fun h => by cases h⟩
  | _ :: _, [] => ⟨fun h => by simp [Lib.compareBytes] at h, fun h => by cases h⟩
  | a :: la, b :: lb => by
    unfold Lib.compareBytes
    by_cases h1 : a < b
    · rw [if_pos h1]
      exact ⟨fun h => absurd h (by decide), fun h => by
        injection h with h3 _
        subst h3
        exact absurd h1 (UInt8.lt_irrefl _)⟩
    · rw [if_neg h1]
      by_cases h2 : b < a
      · rw [if_pos h2]
        exact ⟨fun h => absurd h (by decide), fun h => by
          injection h with h3 _
          subst h3
          exact absurd h2 (UInt8.lt_irrefl _)⟩
      · rw [if_neg h2, compare_zero la lb]
        have he : a = b := UInt8.le_antisymm (UInt8.not_lt.1 h2) (UInt8.not_lt.1 h1)
        rw [he]
        exact ⟨fun h => by rw [h], fun h => by injection h⟩
theorem compareInt_lt (a b : Int) : Lib.compareInt a b < 0 ↔ a < b := by
  unfold Lib.compareInt
  split
  · exact ⟨fun _ => by assumption, fun _ => by decide⟩
  · split
    · exact ⟨fun h => absurd h (by decide), fun h => by omega⟩
    · exact ⟨fun h => absurd h (by decide), fun h => by omega⟩
theorem compareInt_zero (a b : Int) : Lib.compareInt a b = 0 ↔ a = b := by
  unfold Lib.compareInt
  split
  · exact ⟨fun h => absurd h (by decide), fun h => by omega⟩
  · split
    · exact ⟨fun h => absurd h (by decide), fun h => by omega⟩
    · exact ⟨fun h => by omega, fun _ => rfl⟩
theorem cmpK_lt (x : Kno) (e : Ent) : cmpK x e < 0 ↔ KLt x ⟨e, 0⟩ := by
  have h1 := compare_less' x.e.n.data.toList e.n.data.toList
  have h2 := compare_zero x.e.n.data.toList e.n.data.toList
  unfold cmpK orF KLt ltN
  rw [ByteArray.toList_eq, ByteArray.toList_eq]
  generalize Lib.compareBytes x.e.n.data.toList e.n.data.toList = c at *
  show _ ↔ Op.bytesLess x.e.n.data.toList e.n.data.toList = true ∨ (x.e.n.data.toList = e.n.data.toList ∧ x.e.v < e.v)
  rw [← h1, ← h2, decide_eq_true_eq]
  split
  · rename_i h
    rw [compareInt_lt]
    exact ⟨fun g => .inr ⟨h, g⟩, fun g => by rcases g with g | g; (· omega); exact g.2⟩
  · rename_i h
    exact ⟨.inl, fun g => by rcases g with g | g; (· exact g); exact absurd g.1 h⟩
theorem cmpK_zero (x : Kno) (e : Ent) : cmpK x e = 0 ↔ x.e.n.toList = e.n.toList ∧ x.e.v = e.v := by
  have h2 := compare_zero x.e.n.data.toList e.n.data.toList
  unfold cmpK orF
  rw [ByteArray.toList_eq, ByteArray.toList_eq, ← h2]
  generalize Lib.compareBytes x.e.n.data.toList e.n.data.toList = c at *
  split
  · rename_i h
    rw [compareInt_zero]
    exact ⟨fun g => ⟨h, g⟩, fun g => g.2⟩
  · rename_i h
    exact ⟨fun g => absurd g h, fun g => absurd g.1 h⟩
end Go.Pm
namespace Go.Proofs.Ytglibdggoobocaa
open Go.RowKit Go.Pm
namespace Dr
set_option maxRecDepth 100000 in
set_option maxHeartbeats 2000000 in
theorem isNaN (x : Int) (w : World) : Calls Try.prog 68 #[.int .i64 x] w fun e w' => e = .returned (.bool false) ∧ w' = w := by
  go_enter Try.func68, Try.ntmps68
  go_wp2
  go_ret
  exact ⟨by simp, rfl⟩
set_option maxRecDepth 100000 in
set_option maxHeartbeats 2000000 in
/-- cmp.Compare. -/
theorem cmpCompare (x y : Int) (w : World) : Calls Try.prog 48 #[.int .i64 x, .int .i64 y] w fun e w' => e = .returned (.int .i64 (Lib.compareInt x y)) ∧ w' = w := by
  have H1 := hid (isNaN x w)
  have H2 := hid (isNaN y w)
  go_enter Try.func48, Try.ntmps48
  go_wp2_with fail
  refine H1.out.mono ?_
  rintro e w' ⟨rfl, rfl⟩
  go_wp2_with fail
  refine H2.out.mono ?_
  rintro e w' ⟨rfl, rfl⟩
  go_wp2
  all_goals (go_ret; refine ⟨?_, rfl⟩; unfold Lib.compareInt; (repeat' split) <;> first | rfl | (exfalso; omega))
set_option maxRecDepth 100000 in
set_option maxHeartbeats 4000000 in
/-- cmp.Or of two. -/
theorem cmpOr (b : Nat) (c1 c2 : Int) (t : TypeId) (w : World) (hb : Blk w b #[.int .i64 c1, .int .i64 c2] t) : Calls Try.prog 47 #[.slice (some ⟨b, 0, none⟩) 2 2] w fun e w' => e = .returned (.int .i64 (orF c1 c2)) ∧ Kept None w w' := by
  have d0 : w.cell? ⟨b, 0, none⟩ = some (.int .i64 c1) := hb.cell 0
  have d1 : w.cell? ⟨b, 1, none⟩ = some (.int .i64 c2) := hb.cell 1
  clear hb
  have HD := hid (And.intro d0 d1)
  clear d0 d1
  go_enter Try.func47, Try.ntmps47
  go_wp2
  go_loopg [8] 2 (fun kx s8 wr => ∃ k : Nat, s8 = .int .i64 (k : Int) ∧ k ≤ 2 ∧ 2 - k ≤ kx ∧ wr = w ∧ Hid ((1 ≤ k → c1 = 0) ∧ (2 ≤ k → c2 = 0)))
  case atStart => exact ⟨0, rfl, Nat.zero_le _, Nat.le_refl _, rfl, hid ⟨fun h => absurd h (by decide), fun h => absurd h (by decide)⟩⟩
  case round =>
    obtain ⟨k, rfl, hk, hkx, rfl, HA⟩ := hrel
    obtain ⟨d0, d1⟩ := HD.out
    rcases (show k = 0 ∨ k = 1 ∨ k = 2 by omega) with rfl | rfl | rfl
    · by_cases h : c1 = 0
      · have e1 : (c1 == 0) = true := by simpa using h
        have HX := hid h
        clear h
        go_wp2
        go_roundg 1
        case measure => omega
        case rel => exact ⟨1, rfl, by decide, Nat.le_refl _, rfl, hid ⟨fun _ => HX.out, fun h => absurd h (by decide)⟩⟩
      · have e1 : (c1 == 0) = false := by simpa using h
        have HX := hid h
        clear h
        go_wp2
        go_ret
        exact ⟨by rw [orF, if_neg HX.out]; rfl, Kept.refl _ _⟩
    · by_cases h : c2 = 0
      · have e1 : (c2 == 0) = true := by simpa using h
        have HX := hid h
        clear h
        go_wp2
        go_roundg 0
        case measure => omega
        case rel => exact ⟨2, rfl, by decide, Nat.le_refl _, rfl, hid ⟨fun _ => HA.out.1 (by decide), fun _ => HX.out⟩⟩
      · have e1 : (c2 == 0) = false := by simpa using h
        have HX := hid h
        clear h
        go_wp2
        go_ret
        exact ⟨by rw [orF, if_pos (HA.out.1 (by decide))]; rfl, Kept.refl _ _⟩
    · go_wp2
      go_ret
      exact ⟨by rw [orF, if_pos (HA.out.1 (by decide)), HA.out.2 (by decide)]; rfl, Kept.refl _ _⟩
end Dr
end Go.Proofs.Ytglibdggoobocaa
namespace Go.Proofs.Ytglibdggoobocaa
open Go.RowKit Go.Pm
namespace Dr
theorem strCmp (hS : ∀ (a b : ByteArray) (w : World), Calls Try.prog 44 #[.string a, .string b] w fun e w' => e = .returned (.int .i64 (Lib.compareBytes a.data.toList b.data.toList)) ∧ w' = w) (a b : ByteArray) (w : World) : Calls Try.prog 44 #[.string a, .string b] w fun e w' => e = .returned (.int .i64 (Lib.compareBytes a.data.toList b.data.toList)) ∧ Kept None w w' :=
  (hS a b w).mono fun _ _ ⟨h1, h2⟩ => ⟨h1, h2 ▸ Kept.refl _ _⟩
set_option maxRecDepth 100000 in
set_option maxHeartbeats 4000000 in
/-- byNameAndVersion. -/
theorem byNV (hS : ∀ (a b : ByteArray) (w : World), Calls Try.prog 44 #[.string a, .string b] w fun e w' => e = .returned (.int .i64 (Lib.compareBytes a.data.toList b.data.toList)) ∧ w' = w) (x : Kno) (y : Ent) (w : World) :
    Calls Try.prog 34 #[x.V, y.V] w fun e w' => e = .returned (.int .i64 (cmpK x y)) ∧ Kept None w w' := by
  have h1 := fun W => strCmp hS x.e.n y.n W
  have h2 := fun W => cmpCompare x.e.v y.v W
  have hO := fun (b : Nat) (W : World) (hb : Blk W b #[.int .i64 (Lib.compareBytes x.e.n.data.toList y.n.data.toList), .int .i64 (Lib.compareInt x.e.v y.v)] 3) => cmpOr b _ _ _ W hb
  unfold cmpK
  obtain ⟨c1, hc1⟩ : ∃ c, c = Lib.compareBytes x.e.n.data.toList y.n.data.toList := ⟨_, rfl⟩
  obtain ⟨c2, hc2⟩ : ∃ c, c = Lib.compareInt x.e.v y.v := ⟨_, rfl⟩
  rw [← hc1] at h1 hO ⊢
  rw [← hc2] at h2 hO ⊢
  obtain ⟨c3, hc3⟩ : ∃ c, c = orF c1 c2 := ⟨_, rfl⟩
  rw [← hc3] at hO ⊢
  have H1 := hid h1
  have H2 := hid h2
  have HO := hid hO
  clear h1 h2 hO hc1 hc2 hc3
  obtain ⟨⟨xn, xv, xk⟩, xp⟩ := x
  obtain ⟨yn, yv, yk⟩ := y
  obtain ⟨w2, hw2⟩ : ∃ z, z = (w.alloc (.cells #[.string xn, .int .i64 xv, .int .u64 (xk : Int), .int .i64 xp] 31)).alloc (.cells #[.string yn, .int .i64 yv, .int .u64 (yk : Int)] 29) := ⟨_, rfl⟩
  have K2 := hid (show Kept None w w2 from hw2 ▸ ((Kept.refl _ _).alloc _).alloc _)
  have b1 : Blk w2 w.heap.size #[.string xn, .int .i64 xv, .int .u64 (xk : Int), .int .i64 xp] 31 := hw2 ▸ (Blk.new w _ _).alloc _
  have b2 : Blk w2 (w.heap.size + 1) #[.string yn, .int .i64 yv, .int .u64 (yk : Int)] 29 := hw2 ▸ Blk.new2 w _ _ _
  have HX := hid (fun W (hW : Kept None w2 W) => And.intro (show W.cell? ⟨w.heap.size, 0, none⟩ = some (.string xn) from (b1.kept hW (fun h => h)).cell 0) (And.intro (show W.cell? ⟨w.heap.size, 1, none⟩ = some (.int .i64 xv) from (b1.kept hW (fun h => h)).cell 1) (And.intro (show W.cell? ⟨w.heap.size + 1, 0, none⟩ = some (.string yn) from (b2.kept hW (fun h => h)).cell 0) (show W.cell? ⟨w.heap.size + 1, 1, none⟩ = some (.int .i64 yv) from (b2.kept hW (fun h => h)).cell 1))))
  clear b1 b2
  go_enter Try.func34, Try.ntmps34
  go_upto_region 1 with fail
  rw [← hw2]
  clear hw2
  have hs : Steady [.val 5 (.int .i64 c1), .val 11 (.int .i64 c2), { k := 12, uses := [], pure := fun u => ∃ b, u = .slice (some ⟨b, 0, none⟩) 2 2, fact := fun u W => ∃ b, u = .slice (some ⟨b, 0, none⟩) 2 2 ∧ Blk W b #[.int .i64 c1, .int .i64 c2] 3 }, .val 13 (.int .i64 c3) [12]] :=
    Steady.val (Steady.val (Steady.cons ⟨_, 0, rfl⟩ (fun _ _ _ hk ⟨b, h1, h2⟩ => ⟨b, h1, h2.kept hk (fun h => h)⟩) (Steady.val Steady.nil)))
  refine wp_region_kn w2 _ hs (Kept.refl _ _) (by kernel_rfl) (by kernel_rfl) (by kernel_rfl) ?_
  iterate 5 (refine wpPar_pure rfl (by rfl) _ (fun W hW => by
      obtain ⟨q1, q2, q3, q4⟩ := HX.out W hW
      go_simp
      exact rfl) ?_; simp only [Act.put, List.setIfInBounds_toArray, List.set_cons_zero, List.set_cons_succ])
  refine wpKn_adds hs rfl (by rfl) (fun W hW hd => ?_) (fun v5 hv => ?_)
  · unfold Gives
    go_simp
    refine gives_call (H1.out _) ?_
    rintro e w3 ⟨rfl, k3⟩
    exact ⟨_, rfl, k3, rfl, trivial⟩
  obtain rfl : v5 = .int .i64 c1 := hv
  simp only [Act.put, List.setIfInBounds_toArray, List.set_cons_zero, List.set_cons_succ]
  iterate 5 (refine wpPar_pure rfl (by rfl) _ (fun W hW => by
      obtain ⟨q1, q2, q3, q4⟩ := HX.out W hW
      go_simp
      exact rfl) ?_; simp only [Act.put, List.setIfInBounds_toArray, List.set_cons_zero, List.set_cons_succ])
  refine wpKn_adds hs rfl (by rfl) (fun W hW hd => ?_) (fun v11 hv => ?_)
  · unfold Gives
    go_simp
    refine gives_call (H2.out _) ?_
    rintro e w3 ⟨rfl, hw⟩
    exact ⟨_, rfl, hw ▸ Kept.refl _ _, rfl, trivial⟩
  obtain rfl : v11 = .int .i64 c2 := hv
  simp only [Act.put, List.setIfInBounds_toArray, List.set_cons_zero, List.set_cons_succ]
  refine wpKn_adds hs rfl (by rfl) (fun W hW hd => ?_) (fun v12 hv => ?_)
  · unfold Gives
    go_simp
    exact ⟨(Kept.refl None W).alloc _, ⟨_, rfl⟩, _, rfl, Blk.new _ _ _⟩
  obtain ⟨b12, rfl⟩ : ∃ b, v12 = .slice (some ⟨b, 0, none⟩) 2 2 := hv
  simp only [Act.put, List.setIfInBounds_toArray, List.set_cons_zero, List.set_cons_succ]
  refine wpKn_adds hs rfl (by rfl) (fun W hW hd => ?_) (fun v13 hv => ?_)
  · unfold Gives
    obtain ⟨b, e1, h1⟩ : ∃ b, Value.slice (some ⟨b12, 0, none⟩) 2 2 = .slice (some ⟨b, 0, none⟩) 2 2 ∧ Blk W b #[.int .i64 c1, .int .i64 c2] 3 := hd 12 (List.Mem.head _)
    obtain rfl : b12 = b := by simpa using e1
    go_simp
    refine gives_call (HO.out _ _ h1) ?_
    rintro e w3 ⟨rfl, k3⟩
    exact ⟨_, rfl, k3, rfl, trivial⟩
  obtain rfl : v13 = .int .i64 c3 := hv
  simp only [Act.put, List.setIfInBounds_toArray, List.set_cons_zero, List.set_cons_succ]
  iterate 1 (refine wpPar_pure rfl (by rfl) _ (fun W hW => by
      go_simp
      exact rfl) ?_; simp only [Act.put, List.setIfInBounds_toArray, List.set_cons_zero, List.set_cons_succ])
  refine wpPar_nil (fun w3 hW hG => ?_)
  have K3 := hid (K2.out.trans hW)
  clear hG hs hW
  go_wp2
  go_ret
  exact ⟨rfl, K3.out⟩
end Dr
end Go.Proofs.Ytglibdggoobocaa
namespace Go.Pm
open Go Go.RowKit
theorem cmp_mono {l : List Kno} (hp : l.Pairwise KLt) {e : Ent} {i j : Nat} (hi : i < l.length) (hj : j < l.length) (hij : i ≤ j) (h : cmpK l[j] e < 0) : cmpK l[i] e < 0 := by
  rw [cmpK_lt] at *
  rcases Nat.lt_or_ge i j with g | g
  · exact (List.pairwise_iff_getElem.1 hp i j hi hj g).trans h
  · have : i = j := by omega
    subst this
    exact h
structure Srk16 (l : List Kno) (e : Ent) (m : Nat) : Prop where
  le : m ≤ l.length
  lo : ∀ i (h : i < l.length), i < m → cmpK l[i] e < 0
  up : ∀ i (h : i < l.length), m ≤ i → ¬ cmpK l[i] e < 0
def isAt (l : List Kno) (e : Ent) (m : Nat) : Bool := if h : m < l.length then decide (cmpK l[m] e = 0) else false
theorem srch_yes {l : List Kno} (hp : l.Pairwise KLt) {e : Ent} {m : Nat} (hb : isAt l e m = true) : ∃ h : m < l.length, finK l e.n e.v = (l[m], true) := by
  unfold isAt at hb
  split at hb
  · rename_i h
    obtain ⟨h1, h2⟩ := (cmpK_zero _ _).1 (of_decide_eq_true hb)
    exact ⟨h, finK_some hp (List.getElem_mem h) h1 h2⟩
  · cases hb
theorem srch_no {l : List Kno} (hp : l.Pairwise KLt) {e : Ent} {m : Nat} (hs : Srk16 l e m) (hb : isAt l e m = false) : finK l e.n e.v = (Kno.none, false) := by
  refine finK_none (fun x hx hn hv => ?_)
  obtain ⟨j, hj, rfl⟩ := List.getElem_of_mem hx
  have hz : cmpK l[j] e = 0 := (cmpK_zero _ _).2 ⟨hn, hv⟩
  rcases Nat.lt_trichotomy j m with g | g | g
  · have := hs.lo j hj g
    omega
  · subst g
    unfold isAt at hb
    rw [dif_pos hj, decide_eq_false_iff_not] at hb
    exact hb hz
  · have hm : m < l.length := by omega
    have h1 := List.pairwise_iff_getElem.1 hp m j hm hj g
    refine hs.up m hm (Nat.le_refl _) ((cmpK_lt _ _).2 ?_)
    rcases h1 with h1 | ⟨h1, h2⟩
    · unfold ltN at h1
      rw [hn] at h1
      exact .inl h1
    · exact .inr ⟨h1.trans hn, by show l[m].e.v < e.v; omega⟩
end Go.Pm
namespace Go.Proofs.Ytglibdggoobocaa
open Go.RowKit Go.Pm
namespace Dr
set_option maxRecDepth 100000 in
set_option maxHeartbeats 8000000 in
/-- BinarySearchFunc. -/
theorem bsearch (hB : ∀ (x : Kno) (y : Ent) (W : World), Calls Try.prog 34 #[x.V, y.V] W fun e w' => e = .returned (.int .i64 (cmpK x y)) ∧ Kept None W w')
    (v : Value) (lo hi : Nat) (l : List Kno) (e : Ent) (w : World) (hv : Ps 4 w lo hi v (knosC l)) (hp : l.Pairwise KLt) (hlen : l.length ≤ 1000000) :
    Calls Try.prog 33 #[v, e.V, .func (.func 34) #[] #[]] w fun x w' => ∃ m : Nat, x = .returned (.tuple #[.int .i64 (m : Int), .bool (isAt l e m)]) ∧ Srk16 l e m ∧ Kept None w w' := by
  obtain ⟨a, cap, rfl, g1, g2, g3⟩ := hv.form
  rw [knosC_len] at g1 hv ⊢
  obtain ⟨n, hn⟩ : ∃ n, n = l.length := ⟨_, rfl⟩
  rw [← hn] at g1 hlen hv ⊢
  obtain ⟨w1, hw1⟩ : ∃ z, z = w.alloc (.cells (entC e).toArray 29) := ⟨_, rfl⟩
  have K0 := hid (show Kept None w w1 from hw1 ▸ (Kept.refl _ _).alloc _)
  have E0 := hid (show Blk w1 w.heap.size (entC e).toArray 29 from hw1 ▸ Blk.new w _ _)
  have HB := hid hB
  have HV := hid hv
  have HN := hid (And.intro hn (And.intro hlen hp))
  clear hv hn g3 hlen hp hB
  go_enter Try.func33, Try.ntmps33
  go_upto_region 1 with fail
  rw [← hw1]
  obtain ⟨A, hA⟩ : ∃ z, z = w.heap.size := ⟨_, rfl⟩
  rw [← hA] at E0 ⊢
  clear hw1 hA
  go_wp2_with fail
  go_loopg [9, 10] n (fun kx s9 s10 wr => ∃ (i j : Nat), s9 = .int .i64 (i : Int) ∧ s10 = .int .i64 (j : Int) ∧ i ≤ j ∧ j ≤ n ∧ j - i ≤ kx ∧ Hid (Kept None w1 wr) ∧
    Hid ((∀ t (h : t < l.length), t < i → cmpK l[t] e < 0) ∧ (∀ t (h : t < l.length), j ≤ t → ¬ cmpK l[t] e < 0)))
  case atStart => exact ⟨0, n, rfl, rfl, Nat.zero_le _, Nat.le_refl _, by omega, hid (Kept.refl _ _), hid ⟨fun t h ht => absurd ht (Nat.not_lt_zero _), fun t h ht => by have := HN.out.1; omega⟩⟩
  case round =>
    obtain ⟨i, j, rfl, rfl, hij, hjn, hg, HK, I⟩ := hrel
    have KW := hid (K0.out.trans HK.out)
    by_cases hlt : i < j
    · obtain ⟨q, hq⟩ : ∃ q : Nat, q = (i + j) / 2 := ⟨_, rfl⟩
      have hq1 : i ≤ q := by omega
      have hq2 : q < j := by omega
      have hz : (i : Int) < (j : Int) := by omega
      have hqq : wrap64 (IntKind.u64.wrap (wrap64 ((i : Int) + (j : Int))) / 2) = (q : Int) := half64 (by have := HN.out.2.1; omega) hq
      have wq : wrap64 ((q : Int) + 1) = ((q + 1 : Nat) : Int) := by have := HN.out.2.1; unfold wrap64; omega
      have hql : q < l.length := by have := HN.out.1; omega
      have hqn : (q : Int) < (n : Int) := by omega
      obtain ⟨bb, o, q1, hc⟩ := (HV.out.kept KW.out (fun _ _ _ h => h)).kno (by omega)
      obtain rfl := q1
      have rX := (hc q hql).2.2.2.2.1
      obtain ⟨x, hx⟩ : ∃ x, x = l[q] := ⟨_, rfl⟩
      rw [← hx] at rX
      have hE : Blk wr A (entC e).toArray 29 := E0.out.kept HK.out (fun h => h)
      have hBx := fun W => HB.out x e W
      obtain ⟨c, hcc⟩ : ∃ c, c = cmpK x e := ⟨_, rfl⟩
      rw [← hcc] at hBx
      have HBX := hid hBx
      have HX := hid (show ∃ h : q < l.length, c = cmpK l[q] e from ⟨hql, by rw [← hx]; exact hcc⟩)
      have RX := hid rX
      have HE := hid hE
      clear hc hq hx hE hBx hcc rX hql
      go_upto_region 5 with fail
      have hs : Steady [.val 6 (.int .i64 c)] := Steady.val Steady.nil
      refine wp_region_kn wr _ hs (Kept.refl _ _) (by kernel_rfl) (by kernel_rfl) (by kernel_rfl) ?_
      iterate 6 (refine wpPar_pure rfl (by rfl) _ (fun W hW => by first | exact exec_load_at rfl rfl (rangeAt_kept RX.out hW) aKno | exact exec_load_blk _ _ rfl rfl (HE.out.kept hW (fun h => h)) aEnt | (go_simp; exact rfl)) ?_; simp only [Act.put, List.setIfInBounds_toArray, List.set_cons_zero, List.set_cons_succ])
      refine wpKn_adds hs rfl (by rfl) (fun W hW hd => ?_) (fun v6 hv => ?_)
      · unfold Gives
        go_simp
        refine gives_call (HBX.out _) ?_
        rintro e w3 ⟨rfl, k3⟩
        exact ⟨_, rfl, k3, rfl, trivial⟩
      obtain rfl : v6 = .int .i64 c := hv
      simp only [Act.put, List.setIfInBounds_toArray, List.set_cons_zero, List.set_cons_succ]
      obtain ⟨B, hBB⟩ : ∃ B, B = decide (c < 0) := ⟨_, rfl⟩
      have hB1 : decide (c < 0) = B := hBB.symm
      have HBB := hid hBB
      clear hBB
      iterate 1 (refine wpPar_pure rfl (by rfl) _ (fun W hW => by
          go_simp
          exact rfl) ?_; simp only [Act.put, List.setIfInBounds_toArray, List.set_cons_zero, List.set_cons_succ])
      refine wpPar_nil (fun w3 hW hG => ?_)
      have K3 := hid (HK.out.trans hW)
      clear hG hs hW HK KW RX HE HBX
      cases B with
      | true =>
        go_wp2
        go_roundg (j - (q + 1))
        case measure => omega
        case rel => exact ⟨q + 1, j, by go_num, rfl, by omega, hjn, Nat.le_refl _, K3, hid ⟨fun t ht htq => by
            obtain ⟨h1, h2⟩ := HX.out
            exact cmp_mono HN.out.2.2 ht h1 (by omega) (by rw [← h2]; exact of_decide_eq_true HBB.out.symm), I.out.2⟩⟩
      | false =>
        go_wp2
        go_roundg (q - i)
        case measure => omega
        case rel => exact ⟨i, q, rfl, rfl, hq1, by omega, Nat.le_refl _, K3, hid ⟨I.out.1, fun t ht htq => Int.not_lt.1 fun hl => by
            obtain ⟨h1, h2⟩ := HX.out
            have := cmp_mono HN.out.2.2 h1 ht htq hl
            rw [← h2] at this
            exact absurd (decide_eq_true this) (by rw [← HBB.out]; decide)⟩⟩
    · obtain rfl : j = i := by omega
      have hS : Srk16 l e j := ⟨by have := HN.out.1; omega, I.out.1, I.out.2⟩
      have HS := hid hS
      clear hS I
      by_cases hjl : j < n
      · have hjz : (j : Int) < (n : Int) := by omega
        have hjd : decide ((j : Int) < (n : Int)) = true := decide_eq_true hjz
        have hql : j < l.length := by have := HN.out.1; omega
        obtain ⟨bb, o, q1, hc⟩ := (HV.out.kept KW.out (fun _ _ _ h => h)).kno (by omega)
        obtain rfl := q1
        have rX := (hc j hql).2.2.2.2.1
        obtain ⟨x, hx⟩ : ∃ x, x = l[j] := ⟨_, rfl⟩
        rw [← hx] at rX
        have hE : Blk wr A (entC e).toArray 29 := E0.out.kept HK.out (fun h => h)
        have hBx := fun W => HB.out x e W
        obtain ⟨c, hcc⟩ : ∃ c, c = cmpK x e := ⟨_, rfl⟩
        rw [← hcc] at hBx
        have hat : isAt l e j = decide (c = 0) := by
          unfold isAt
          rw [dif_pos hql, hcc, hx]
        have HBX := hid hBx
        have HAT := hid hat
        have RX := hid rX
        have HE := hid hE
        clear hc hx hE hBx hcc rX hql hat
        go_upto_region 8 with fail
        have hs : Steady [.val 11 (.int .i64 c)] := Steady.val Steady.nil
        refine wp_region_kn wr _ hs (Kept.refl _ _) (by kernel_rfl) (by kernel_rfl) (by kernel_rfl) ?_
        iterate 11 (refine wpPar_pure rfl (by rfl) _ (fun W hW => by first | exact exec_load_at rfl rfl (rangeAt_kept RX.out hW) aKno | exact exec_load_blk _ _ rfl rfl (HE.out.kept hW (fun h => h)) aEnt | (go_simp; exact rfl)) ?_; simp only [Act.put, List.setIfInBounds_toArray, List.set_cons_zero, List.set_cons_succ])
        refine wpKn_adds hs rfl (by rfl) (fun W hW hd => ?_) (fun v6 hv => ?_)
        · unfold Gives
          go_simp
          refine gives_call (HBX.out _) ?_
          rintro e w3 ⟨rfl, k3⟩
          exact ⟨_, rfl, k3, rfl, trivial⟩
        obtain rfl : v6 = .int .i64 c := hv
        simp only [Act.put, List.setIfInBounds_toArray, List.set_cons_zero, List.set_cons_succ]
        obtain ⟨B, hBB⟩ : ∃ B, B = decide (c = 0) := ⟨_, rfl⟩
        have hB1 : (c == 0) = B := by rw [hBB]; rfl
        have hB2 : decide (c = 0) = B := hBB.symm
        have HBB := hid (HAT.out.trans hBB.symm)
        clear hBB
        iterate 4 (refine wpPar_pure rfl (by rfl) _ (fun W hW => by
            go_simp
            exact rfl) ?_; simp only [Act.put, List.setIfInBounds_toArray, List.set_cons_zero, List.set_cons_succ])
        refine wpPar_nil (fun w3 hW hG => ?_)
        have K3 := hid (KW.out.trans hW)
        clear hG hs hW HK KW RX HE HBX
        go_wp2
        go_ret2
        exact ⟨_, by rw [HBB.out]; rfl, HS.out, K3.out⟩
      · have hjz : ¬ (j : Int) < (n : Int) := by omega
        have hjd : decide ((j : Int) < (n : Int)) = false := decide_eq_false hjz
        have hat : isAt l e j = false := by
          unfold isAt
          rw [dif_neg (by have := HN.out.1; omega)]
        have HAT := hid hat
        clear hat
        go_upto_region 8 with fail
        go_quiet (fail)
        have K3 := hid (KW.out.trans (Kept.toDrewN None wr nq))
        clear HK KW
        go_wp2
        go_ret2
        exact ⟨_, by rw [HAT.out]; rfl, HS.out, K3.out⟩
end Dr
end Go.Proofs.Ytglibdggoobocaa
namespace Go.Pm
open Go Go.RowKit Go.Sort Go.Proofs
variable {α : Type} [Inhabited α]
theorem flat_gen {enc : α → List Value} {k : Nat} (hk : ∀ x, (enc x).length = k) (h0 : 0 < k) : ∀ (D : List α) (t : Nat), t < D.length * k → (D.map enc).flatten[t]? = some ((enc (D[t / k]!))[t % k]!)
  | [], t, h => by simp at h
  | p :: D, t, h => by
    have h64 := hk p
    rw [List.map_cons, List.flatten_cons]
    by_cases ht : t < k
    · rw [List.getElem?_append_left (by omega), Nat.div_eq_of_lt ht, Nat.mod_eq_of_lt ht]
      rw [List.getElem?_eq_getElem (by omega), List.getElem!_cons_zero, getElem!_pos _ t (by omega)]
    · obtain ⟨u, rfl⟩ : ∃ u, t = u + k := ⟨t - k, by omega⟩
      have ih := flat_gen hk h0 D u (by
        rw [List.length_cons, Nat.add_mul, Nat.one_mul] at h
        omega)
      rw [List.getElem?_append_right (by omega), h64, Nat.add_sub_cancel, ih, Nat.add_div_right _ h0, Nat.add_mod_right, List.getElem!_cons_succ]
theorem flat_glen {β : Type} {enc : β → List Value} {k : Nat} (hk : ∀ x, (enc x).length = k) (D : List β) : (D.map enc).flatten.length = D.length * k := by
  induction D with
  | nil => simp
  | cons p D ih =>
    rw [List.map_cons, List.flatten_cons, List.length_append, ih, hk, List.length_cons, Nat.add_mul, Nat.one_mul]
    omega
theorem flatK_gen {enc : α → List Value} {k : Nat} (hk : ∀ x, (enc x).length = k) (h0 : 0 < k) (d : Array α) : (flatK enc k d).toList = (d.toList.map enc).flatten := by
  apply List.ext_getElem?
  intro t
  by_cases ht : t < d.size * k
  · rw [flat_gen hk h0 d.toList t (by simpa using ht)]
    have h1 := get_flatK enc k d t ht
    rw [getElem!_pos _ t (by simpa using ht)] at h1
    rw [List.getElem?_eq_getElem (by simpa using ht), Array.getElem_toList, h1]
    congr 2
    simp [getElem!_def]
  · rw [List.getElem?_eq_none (by simpa using Nat.le_of_not_lt ht), List.getElem?_eq_none (by rw [flat_glen hk]; simpa using Nat.le_of_not_lt ht)]
theorem po_holds {enc : α → List Value} {k : Nat} (hk : ∀ x, (enc x).length = k) (h0 : 0 < k) {e : TypeId} {w : World} {base g n cap : Nat} {l : List α} (h : Po k e w base (.slice (some ⟨g, 0, none⟩) n cap) (l.map enc)) : g < w.heap.size ∧ HoldsK enc k w g 0 l.toArray := by
  obtain ⟨_, _, h2⟩ := h
  rw [List.length_map] at h2
  rcases h2 with ⟨h3, _⟩ | ⟨g', cap', cur, hvv, hb, hg, hnc, hcm, hcs, htake⟩
  · cases h3
  injection hvv with e1 e2 e3
  obtain rfl : g = g' := by simpa using e1
  have hblk : Blk w g cur e := hg
  refine ⟨hblk.lt, fun j hj => ⟨?_, hblk.free _⟩⟩
  have hj' : j < l.length * k := by simpa using hj
  rw [Nat.zero_add, hblk.cell, getElem!_pos _ j hj, ← Array.getElem_toList (by simpa using hj)]
  have hfl := flatK_gen hk h0 l.toArray
  have e1 : (flatK enc k l.toArray).toList[j]? = (l.map enc).flatten[j]? := by rw [hfl]
  rw [List.getElem?_eq_getElem (by simpa using hj)] at e1
  rw [show id (flatK enc k l.toArray).toList[j] = (flatK enc k l.toArray).toList[j] from rfl, e1, ← htake, List.getElem?_take, if_pos hj', Array.getElem?_toList]
theorem po_sorted {enc : α → List Value} {k : Nat} (hk : ∀ x, (enc x).length = k) (h0 : 0 < k) {e : TypeId} {w W : World} {base g n cap : Nat} {l : List α} (h : Po k e w base (.slice (some ⟨g, 0, none⟩) n cap) (l.map enc)) {d : Array α} (hs : SWK enc k w g 0 d W) (hds : d.size = l.length) :
    Po k e W base (.slice (some ⟨g, 0, none⟩) n cap) (d.toList.map enc) ∧ Kept (Just g) w W := by
  refine ⟨?_, swk_kept hs⟩
  obtain ⟨hf, hlen, h2⟩ := h
  rw [List.length_map] at h2
  rcases h2 with ⟨h3, _⟩ | ⟨g', cap', cur, hvv, hb, hg, hnc, hcm, hcs, htake⟩
  · cases h3
  injection hvv with e1 e2 e3
  obtain rfl : g = g' := by simpa using e1
  subst e2 e3
  have hFs : (flatK enc k d).size = l.length * k := by rw [size_flatK, hds]
  have hle : (flatK enc k d).size ≤ cur.size := by rw [hFs, hcs]; exact Nat.mul_le_mul_right _ hnc
  have hdl : d.toList.length = l.length := by simpa using hds
  refine ⟨fun x hx => by
    obtain ⟨y, _, rfl⟩ := List.mem_map.1 hx
    exact hk y, by rw [flat_glen hk, List.length_map], .inr ⟨g, cap, _, by rw [List.length_map, hdl], hb, swk_blk hs hg, by rw [List.length_map, hdl]; exact hnc, hcm, ?_, ?_⟩⟩
  · unfold putCells
    rw [Array.size_mapIdx]
    exact hcs
  · rw [putCells_list _ _ hle, List.length_map, hdl, List.take_left' (by simpa using hFs), flatK_gen hk h0]
theorem sorted_list {lt : α → α → Bool} {d : Array α} (h : SortedIn lt 0 d.size d) : d.toList.Pairwise (fun a b => lt b a = false) := by
  refine List.pairwise_iff_getElem.2 (fun i j hi hj hij => ?_)
  have hi' : i < d.size := by simpa using hi
  have hj' : j < d.size := by simpa using hj
  have := h i j (Nat.zero_le _) hij hj'
  rw [getElem!_pos d i hi', getElem!_pos d j hj'] at this
  simpa using this
theorem perm_list {d d' : Array α} (h : PermIn 0 d.size d d') : d'.toList.Perm d.toList := by
  obtain ⟨h1, _, h2⟩ := h
  have e1 : d'.extract 0 d.size = d' := by rw [← h1]; simp
  have e2 : d.extract 0 d.size = d := by simp
  rw [e1, e2] at h2
  exact h2
end Go.Pm
namespace Go.Pm
open Go Go.RowKit Go.Sort Go.Proofs
instance entInh : Inhabited Ent := ⟨Ent.none⟩
def cfE (x y : Ent) : Int := Lib.compareBytes x.n.data.toList y.n.data.toList
theorem ltOf_cfE (x y : Ent) : ltOf cfE x y = ltN x.n y.n := by
  unfold ltN
  rw [ByteArray.toList_eq, ByteArray.toList_eq]
  exact compare_less' _ _
theorem swo_cfE : SWO (ltOf cfE) where
  irrefl x := by
    rw [ltOf_cfE]
    exact less_irrefl _
  trans x y z h1 h2 := by
    rw [ltOf_cfE] at *
    exact less_trans h1 h2
  ntrans x y z h1 h2 := by
    rw [ltOf_cfE] at *
    unfold ltN at *
    rcases less_total x.n.toList y.n.toList with g | g | g
    · rw [g] at h1; cases h1
    · rw [g]; exact h2
    · rcases less_total y.n.toList z.n.toList with q | q | q
      · rw [q] at h2; cases h2
      · rw [← q]; exact h1
      · exact less_asymm (less_trans q g)
/-- A batch by names. -/
def ByN (r : List Ent) : Prop := r.Pairwise (fun a b => ltN b.n a.n = false)
end Go.Pm
namespace Go.Proofs.Ytglibdggoobocaa
open Go.Shelf Go.RowKit Go.Lib Go.Sort Go.Pm
namespace Dr
def renE : Go.Shelf.Ren := ⟨fun | 6 => 27 | 15 => 43 | 14 => 42 | 28 => 65 | 29 => 66 | 20 => 57 | 21 => 58 | 22 => 59 | 23 => 60 | 24 => 61 | 25 => 62 | 26 => 63 | 27 => 64 | 46 => 76 | 47 => 77 | 48 => 78 | 49 => 79 | 50 => 80 | 57 => 90 | n => n, fun | 22 => 24 | 24 => 29 | 25 => 61 | 3 => 3 | 39 => 80 | 0 => 0 | 53 => 100 | 55 => 27 | 4 => 4 | 46 => 94 | 45 => 93 | 50 => 66 | 5 => 5 | 9 => 9 | 66 => 109 | 70 => 113 | 76 => 121 | 77 => 122 | n => n, fun n => n⟩
theorem layE : SlLaysF0.n6 Try.prog renE := {
  mixed := by kernel_rfl
  f6 := ⟨Try.f27.name, by decide, Try.func27.trans (congrArg some (by kernel_rfl))⟩
  f14 := ⟨Try.f42.name, by decide, Try.func42.trans (congrArg some (by kernel_rfl))⟩
  f15 := Try.func43.trans (congrArg some (by kernel_rfl))
  f20 := ⟨Try.f57.name, by decide, Try.func57.trans (congrArg some (by kernel_rfl))⟩
  f21 := ⟨Try.f58.name, by decide, Try.func58.trans (congrArg some (by kernel_rfl))⟩
  f22 := ⟨Try.f59.name, by decide, Try.func59.trans (congrArg some (by kernel_rfl))⟩
  f23 := ⟨Try.f60.name, by decide, Try.func60.trans (congrArg some (by kernel_rfl))⟩
  f24 := ⟨Try.f61.name, by decide, Try.func61.trans (congrArg some (by kernel_rfl))⟩
  f25 := ⟨Try.f62.name, by decide, Try.func62.trans (congrArg some (by kernel_rfl))⟩
  f26 := ⟨Try.f63.name, by decide, Try.func63.trans (congrArg some (by kernel_rfl))⟩
  f27 := ⟨Try.f64.name, by decide, Try.func64.trans (congrArg some (by kernel_rfl))⟩
  f28 := Try.func65.trans (congrArg some (by kernel_rfl))
  f29 := Try.func66.trans (congrArg some (by kernel_rfl))
  f46 := ⟨Try.f76.name, by decide, Try.func76.trans (congrArg some (by kernel_rfl))⟩
  f47 := Try.func77.trans (congrArg some (by kernel_rfl))
  f48 := Try.func78.trans (congrArg some (by kernel_rfl))
  f49 := ⟨Try.f79.name, by decide, Try.func79.trans (congrArg some (by kernel_rfl))⟩
  f50 := ⟨Try.f80.name, by decide, Try.func80.trans (congrArg some (by kernel_rfl))⟩
  f57 := ⟨Try.f90.name, by decide, Try.func90.trans (congrArg some (by kernel_rfl))⟩
  t0 := Try.underlying0
  a0 := Try.isAgg0
  z0 := Try.sizeOf0
  v0 := Try.zeroValue0
  t3 := Try.underlying3
  a3 := Try.isAgg3
  z3 := Try.sizeOf3
  v3 := Try.zeroValue3
  t4 := Try.underlying4
  a4 := Try.isAgg4
  z4 := Try.sizeOf4
  v4 := Try.zeroValue4
  t5 := Try.underlying5
  a5 := Try.isAgg5
  z5 := Try.sizeOf5
  v5 := Try.zeroValue5
  t9 := Try.underlying9
  a9 := Try.isAgg9
  z9 := Try.sizeOf9
  v9 := Try.zeroValue9
  t22 := Try.underlying24
  a22 := Try.isAgg24
  z22 := Try.sizeOf24
  v22 := Try.zeroValue24
  t25 := Try.underlying61
  a25 := Try.isAgg61
  z25 := Try.sizeOf61
  v25 := Try.zeroValue61
  t39 := Try.underlying80
  a39 := Try.isAgg80
  z39 := Try.sizeOf80
  v39 := Try.zeroValue80
  t45 := Try.underlying93
  a45 := Try.isAgg93
  z45 := Try.sizeOf93
  v45 := Try.zeroValue93
  t46 := Try.underlying94
  a46 := Try.isAgg94
  z46 := Try.sizeOf94
  v46 := Try.zeroValue94
  t50 := Try.underlying66
  a50 := Try.isAgg66
  z50 := Try.sizeOf66
  v50 := Try.zeroValue66
  t53 := Try.underlying100
  a53 := Try.isAgg100
  z53 := Try.sizeOf100
  v53 := Try.zeroValue100
  t55 := Try.underlying27
  a55 := Try.isAgg27
  z55 := Try.sizeOf27
  v55 := Try.zeroValue27
  t66 := Try.underlying109
  a66 := Try.isAgg109
  z66 := Try.sizeOf109
  v66 := Try.zeroValue109
  t70 := Try.underlying113
  a70 := Try.isAgg113
  z70 := Try.sizeOf113
  v70 := Try.zeroValue113
  t76 := Try.underlying121
  a76 := Try.isAgg121
  z76 := Try.sizeOf121
  v76 := Try.zeroValue121
  t77 := Try.underlying122
  a77 := Try.isAgg122
  z77 := Try.sizeOf122
  v77 := Try.zeroValue122 }
set_option maxRecDepth 100000 in
set_option maxHeartbeats 2000000 in
/-- bytealg.CompareString. -/
theorem compareString (a b : ByteArray) (w : World) : Calls Try.prog 67 #[.string a, .string b] w fun e w' => e = .returned (.int .i64 (Lib.compareBytes a.data.toList b.data.toList)) ∧ w' = w := by
  go_enter Try.func67, Try.ntmps67
  go_wp2
  rw [run_callFunc_extern Try.func81 (by kernel_rfl) (by kernel_rfl) (by kernel_rfl) (e := Extern.BytealgCompare.compare) (by kernel_rfl), Lib.run_compareString]
  simp only [Result.andThen]
  rw [Oper.upon_value]
  go_wp2
  go_ret
  exact ⟨rfl, rfl⟩
set_option maxRecDepth 100000 in
set_option maxHeartbeats 2000000 in
/-- strings.Compare. -/
theorem stringsCompare (a b : ByteArray) (w : World) : Calls Try.prog 44 #[.string a, .string b] w fun e w' => e = .returned (.int .i64 (Lib.compareBytes a.data.toList b.data.toList)) ∧ w' = w := by
  have HC := hid (compareString a b w)
  go_enter Try.func44, Try.ntmps44
  go_wp2_with fail
  refine HC.out.mono ?_
  rintro e w' ⟨rfl, rfl⟩
  go_wp2
  go_ret
  exact ⟨rfl, rfl⟩
set_option maxRecDepth 100000 in
set_option maxHeartbeats 4000000 in
/-- byName. -/
theorem byName (x y : Ent) (w : World) :
    Calls Try.prog 28 #[.agg (entC x).toArray, .agg (entC y).toArray] w fun e w' => e = .returned (.int .i64 (cfE x y)) ∧ ∃ q os', w' = grow (w.drewN q) os' := by
  have HC := hid (fun W => stringsCompare x.n y.n W)
  unfold cfE
  obtain ⟨c, hc⟩ : ∃ c, c = Lib.compareBytes x.n.data.toList y.n.data.toList := ⟨_, rfl⟩
  rw [← hc] at HC ⊢
  clear hc
  obtain ⟨xn, xv, xk⟩ := x
  obtain ⟨yn, yv, yk⟩ := y
  go_enter Try.func28, Try.ntmps28
  go_wp2_with fail
  refine (HC.out _).mono ?_
  rintro e w' ⟨rfl, hw⟩
  rw [hw]
  go_wp2
  go_ret
  exact ⟨rfl, 0, _, by rw [alloc_eq_grow, alloc_eq_grow, grow_grow]; rfl⟩
set_option maxRecDepth 100000 in
set_option maxHeartbeats 2000000 in
/-- The sort of a batch that the call owns. -/
theorem sortEnts {w : World} {base n cap : Nat} {a : Option Addr} {l : List Ent} (h : Po 3 29 w base (.slice a n cap) (entsC l)) (hl : l.length ≤ 1099511627776) :
    Calls Try.prog 27 #[.slice a n cap, .func (.func 28) #[] #[]] w fun e w' =>
      e = .returned (.tuple #[]) ∧ ∃ r : List Ent, r.Perm l ∧ ByN r ∧ Po 3 29 w' base (.slice a n cap) (entsC r) ∧ Kept (fun i => (Value.slice a n cap).ownBlock = some i) w w' := by
  have hn : n = l.length := by
    obtain ⟨a', c', hv⟩ := h.form
    injection hv with _ e2 _
    rw [e2, entsC_len]
  by_cases h0 : l = []
  · subst h0
    have hn0 : n = 0 := hn
    subst hn0
    exact Calls.mono (f := 27) (AnyF.slices_SortFunc_none layE a cap _ w) fun e w' ⟨h1, h2⟩ => ⟨h1, [], List.Perm.refl _, List.Pairwise.nil, h2 ▸ h, h2 ▸ Kept.refl _ _⟩
  · have hpos : 0 < l.length := List.length_pos_iff.2 h0
    obtain ⟨g, rfl⟩ : ∃ g, a = some ⟨g, 0, none⟩ := by
      rcases h.2.2 with ⟨h3, h4⟩ | ⟨g, _, _, h3, _⟩
      · rw [entsC_len] at h4; omega
      · injection h3 with e1 _ _; exact ⟨g, e1⟩
    obtain ⟨hb, hH⟩ := po_holds (enc := entC) (k := 3) (fun _ => rfl) (by decide) h
    have hsz : l.toArray.size = l.length := by simp
    have hcmp : CmpLays Try.prog 28 #[] entC 3 cfE g 0 l.toArray.size w := fun m os dk hdk x y => byName x y _
    have eg : ∀ args w, (callFunc 28 args).run Try.prog w = .ok (.enter 28 args) w := enters_of Try.func28 (by kernel_rfl) rfl
    have hs := AnyQ.slices_SortFunc layE 3 Try.isAgg29 Try.sizeOf29 entC (fun _ => rfl) (fun x => entC_one x) cfE swo_cfE 28 #[] g 0 cap l.toArray w eg hcmp hH hb (by rw [hsz]; omega)
    rw [hsz, ← hn] at hs
    refine Calls.mono (f := 27) hs ?_
    rintro e w' ⟨rfl, d', q, os, hp, hst, hw⟩
    have hp' : PermIn 0 l.toArray.size l.toArray d' := by rw [hsz, ← hn]; exact hp
    have hds : d'.size = l.length := by rw [hp'.1]; simp
    obtain ⟨p1, p2⟩ := po_sorted (enc := entC) (k := 3) (fun _ => rfl) (by decide) h ⟨q, os, hw⟩ hds
    refine ⟨rfl, d'.toList, by simpa using perm_list hp', ?_, p1, p2.mono (fun i _ hi => by rw [show i = g from hi]; rfl)⟩
    have hst' : SortedIn (ltOf cfE) 0 d'.size d' := by rw [hds, ← hn]; exact hst
    exact (sorted_list hst').imp (fun {x y} hxy => by rw [ltOf_cfE] at hxy; exact hxy)
end Dr
end Go.Proofs.Ytglibdggoobocaa
namespace Go.Proofs.Ytglibdggoobocaa
open Go.RowKit Go.Pm
namespace Dr
set_option maxRecDepth 100000 in
set_option maxHeartbeats 8000000 in
/-- Find. -/
theorem find : FindC := by
  intro v lo hi l nm ver w hv hrt hlen
  obtain ⟨a, cap, rfl, g1, g2, g3⟩ := hv.form
  rw [knosC_len] at g1 hv ⊢
  obtain ⟨n, hn⟩ : ∃ n, n = l.length := ⟨_, rfl⟩
  rw [← hn] at g1 hv ⊢
  obtain ⟨w1, hw1⟩ : ∃ z, z = (w.alloc (.cells #[.string ⟨#[]⟩, .int .i64 0, .int .u64 0, .int .i64 0] 31)).alloc (.cells #[.string nm, .int .i64 ver, .int .u64 0] 29) := ⟨_, rfl⟩
  have K0 := hid (show Kept None w w1 from hw1 ▸ ((Kept.refl _ _).alloc _).alloc _)
  have B0 := hid (show Blk w1 w.heap.size #[.string ⟨#[]⟩, .int .i64 0, .int .u64 0, .int .i64 0] 31 from hw1 ▸ (Blk.new w _ _).alloc _)
  have E0 := hid (show Blk w1 (w.heap.size + 1) (entC ⟨nm, ver, 0⟩).toArray 29 from hw1 ▸ Blk.new2 w _ _ _)
  have hS := bsearch (fun x y W => byNV stringsCompare x y W) (.slice a n cap) lo hi l ⟨nm, ver, 0⟩ w1 (hv.kept K0.out (fun _ _ _ h => h)) hrt.lt hlen
  have HS := hid hS
  have HV := hid hv
  have HN := hid (And.intro hn (And.intro hlen hrt.lt))
  clear hv hn g3 hrt hlen hS
  go_enter Try.func19, Try.ntmps19
  go_upto_region 2 with fail
  rw [← hw1]
  clear hw1
  obtain ⟨A, hA⟩ : ∃ z, z = w.heap.size := ⟨_, rfl⟩
  rw [← hA] at B0 E0 ⊢
  have HA := hid hA
  have eE := E0.out
  clear hA
  go_wp2_with (first | (refine wpList_load_blk rfl _ _ rfl rfl eE aEnt ?_) | fail)
  refine HS.out.mono ?_
  rintro e w2 ⟨m, rfl, hs, k2⟩
  have K2 := hid (K0.out.trans k2)
  have B2 := hid (B0.out.kept k2 (fun h => h))
  have HSR := hid hs
  clear hs k2 HS K0 B0 eE E0
  obtain ⟨B, hB⟩ : ∃ B, B = isAt l ⟨nm, ver, 0⟩ m := ⟨_, rfl⟩
  rw [← hB]
  cases B with
  | true =>
    obtain ⟨hm, hF⟩ := srch_yes HN.out.2.2 hB.symm
    have hz : (m : Int) < (n : Int) := by have := HN.out.1; omega
    obtain ⟨bb, o, q1, hc⟩ := (HV.out.kept K2.out (fun _ _ _ h => h)).kno (by omega)
    obtain rfl := q1
    have rX := (hc m hm).2.2.2.2.1
    obtain ⟨x, hx⟩ : ∃ x, x = l[m] := ⟨_, rfl⟩
    rw [← hx] at rX hF
    have HF : Hid (finK l nm ver = (x, true)) := hid hF
    have b2 := B2.out
    clear hc hx hm hF hB
    go_wp2_with (first | (refine wpList_load_at (.refl _) _ _ rfl rfl rX aKno ?_) | (refine wpList_store_blk (.refl _) _ _ _ rfl rfl rfl b2 aKno rfl (kno_all _) ?_; intro w5 y5 k5) | fail)
    exact bodyPost_ret (v := .tuple #[x.V, .bool true]) (R16.res_ct rfl _ rfl rfl y5 aKno) rfl ⟨by rw [HF.out], K2.out.then k5 (fun i hi (h : i = A) => by have := HA.out; omega)⟩
  | false =>
    have HF : Hid (finK l nm ver = (Kno.none, false)) := hid (srch_no HN.out.2.2 HSR.out hB.symm)
    have b2 := B2.out
    clear hB
    go_wp2_with (first | (refine wpList_store_blk (.refl _) _ _ _ rfl rfl rfl b2 aKno rfl (kno_all Kno.none) ?_; intro w5 y5 k5) | fail)
    exact bodyPost_ret (v := .tuple #[Kno.none.V, .bool false]) (R16.res_ct rfl _ rfl rfl y5 aKno) rfl ⟨by rw [HF.out], K2.out.then k5 (fun i hi (h : i = A) => by have := HA.out; omega)⟩
end Dr
end Go.Proofs.Ytglibdggoobocaa
namespace Go.Pm
open Go Go.RowKit
def abvF (l : List Kno) (p : Int) : Bool := decide (1 ≤ p) && !l.any (fun y => decide (p ≤ y.p))
/-- Has the one ahead in the batch the same name? -/
def sameB (b : List Ent) : Nat → Bool
  | 0 => false
  | j + 1 => eqN ((b[j]?).getD Ent.none).n ((b[j + 1]?).getD Ent.none).n
def goodB (l : List Kno) (e : Ent) : Bool := decide (e.v = (latF l e.n).1.e.v + 1) && entR e.n.size e.v e.k
def comeB (l : List Kno) (b : List Ent) (i : Nat) : Bool := !sameB b i && goodB l ((b[i]?).getD Ent.none)
def comeF (l : List Kno) (b : List Ent) : Bool := (List.range b.length).all (comeB l b)
theorem comeF_all {l : List Kno} {b : List Ent} (h : ∀ i, i < b.length → comeB l b i = true) : comeF l b = true := List.all_eq_true.2 (fun i hi => h i (List.mem_range.1 hi))
theorem comeF_at {l : List Kno} {b : List Ent} (h : comeF l b = true) {i : Nat} (hi : i < b.length) : comeB l b i = true := List.all_eq_true.1 h i (List.mem_range.2 hi)
theorem comeF_no {l : List Kno} {b : List Ent} {i : Nat} (hi : i < b.length) (h : comeB l b i = false) : comeF l b = false := by
  cases hr : comeF l b with
  | false => rfl
  | true => rw [comeF_at hr hi] at h; cases h
theorem goodB_iff {l : List Kno} (hl : RtK l) {e : Ent} : goodB l e = true ↔ goodE l e := by
  unfold goodB goodE
  rw [Bool.and_eq_true, decide_eq_true_eq]
  have := ver_le hl e.n
  have hw : IntKind.i64.wrap ((latF l e.n).1.e.v + 1) = (latF l e.n).1.e.v + 1 := by rw [IntKind.wrap_i64]; omega
  rw [hw]
  exact ⟨fun h => ⟨h.2, h.1⟩, fun h => ⟨h.2, h.1⟩⟩
def StrN (b : List Ent) : Prop := b.Pairwise (fun x y => ltN x.n y.n = true)
theorem strN_of {l : List Kno} {b : List Ent} (hb : ByN b) (h : comeF l b = true) : StrN b := by
  have hs : ∀ i (hi : i + 1 < b.length), ltN b[i].n b[i + 1].n = true := fun i hi => by
    have h1 := comeF_at h hi
    unfold comeB at h1
    rw [Bool.and_eq_true, Bool.not_eq_true'] at h1
    have h2 : eqN b[i].n b[i + 1].n = false := by
      have : eqN ((b[i]?).getD Ent.none).n ((b[i + 1]?).getD Ent.none).n = false := h1.1
      rw [List.getElem?_eq_getElem (show i < b.length by omega), List.getElem?_eq_getElem hi] at this
      exact this
    have h3 := List.pairwise_iff_getElem.1 hb i (i + 1) (by omega) hi (by omega)
    unfold ltN at *
    rcases less_total b[i].n.toList b[i + 1].n.toList with g | g | g
    · exact g
    · exact absurd g (eqN_no.1 h2)
    · rw [g] at h3; cases h3
  refine List.pairwise_iff_getElem.2 (fun i j hi hj hij => ?_)
  have g : ∀ d (hd : i + 1 + d < b.length), ltN b[i].n b[i + 1 + d].n = true := by
    intro d
    induction d with
    | zero => exact fun hd => hs i hd
    | succ d ih => exact fun hd => less_trans (ih (by omega)) (hs (i + 1 + d) hd)
  have := g (j - (i + 1)) (by omega)
  have e : i + 1 + (j - (i + 1)) = j := by omega
  simp only [e] at this
  exact this
theorem StrN.ne {b : List Ent} (h : StrN b) : b.Pairwise (fun x y => x.n.toList ≠ y.n.toList) := h.imp (fun {x y} hxy he => by
  unfold ltN at hxy
  rw [he, less_irrefl] at hxy
  cases hxy)
theorem come_good {l : List Kno} (hl : RtK l) {b : List Ent} (h : comeF l b = true) : ∀ e ∈ b, goodE l e := fun e he => by
  obtain ⟨i, hi, rfl⟩ := List.getElem_of_mem he
  have h1 := comeF_at h hi
  unfold comeB at h1
  rw [Bool.and_eq_true, List.getElem?_eq_getElem hi] at h1
  exact (goodB_iff hl).1 h1.2
theorem addF_two {l : List Kno} (hl : RtK l) {p : Int} {b : List Ent} (hb : ByN b) : (addF l p b).2 = (abvF l p && comeF l b) := by
  cases hr : abvF l p && comeF l b with
  | true =>
    rw [Bool.and_eq_true] at hr
    obtain ⟨h1, h2⟩ := hr
    unfold abvF at h1
    rw [Bool.and_eq_true, decide_eq_true_eq, Bool.not_eq_true'] at h1
    obtain ⟨out, ho⟩ := addN_some (l := l) (p := p) (come_good hl h2) (strN_of hb h2).ne b.length (Nat.le_refl _)
    unfold addF
    rw [if_neg (by omega), if_neg (by rw [h1.2]; decide), ho]
    rfl
  | false =>
    cases hq : (addF l p b).2 with
    | false => rfl
    | true =>
      have ha := addF_yes hq
      have h1 : abvF l p = true := by
        unfold abvF
        rw [Bool.and_eq_true, decide_eq_true_eq, Bool.not_eq_true', List.any_eq_false]
        exact ⟨ha.pos, fun y hy hc => by have := ha.new y hy; have := of_decide_eq_true hc; omega⟩
      have h2 : comeF l b = true := comeF_all (fun i hi => by
        unfold comeB
        rw [Bool.and_eq_true, Bool.not_eq_true', List.getElem?_eq_getElem hi]
        refine ⟨?_, (goodB_iff hl).2 (ha.good _ (List.getElem_mem hi))⟩
        cases i with
        | zero => rfl
        | succ j =>
          show eqN ((b[j]?).getD Ent.none).n ((b[j + 1]?).getD Ent.none).n = false
          rw [List.getElem?_eq_getElem (show j < b.length by omega), List.getElem?_eq_getElem hi]
          exact eqN_no.2 (List.pairwise_iff_getElem.1 ha.names j (j + 1) (by omega) hi (by omega)))
      rw [h1, h2] at hr
      cases hr
/-- What stands behind the first k of a batch: o is laid, r is still to come. -/
structure Mg (l : List Kno) (p : Int) (b : List Ent) (k : Nat) (o r : List Kno) : Prop where
  lt : (o ++ r).Pairwise KLt
  perm : (o ++ r).Perm ((b.take k).map (fun e => ⟨e, p⟩) ++ l)
  sub : ∀ x ∈ r, x ∈ l
  lo : ∀ x ∈ o, ∃ j, ∃ h : j < b.length, j < k ∧ ltN b[j].n x.e.n = false
theorem Mg.zero {l : List Kno} (hl : RtK l) (p : Int) (b : List Ent) : Mg l p b 0 [] l := ⟨hl.lt, List.Perm.refl _, fun _ h => h, fun _ h => by cases h⟩
theorem Mg.len {l : List Kno} {p : Int} {b : List Ent} {k : Nat} {o r : List Kno} (h : Mg l p b k o r) (hk : k ≤ b.length) : o.length + r.length = k + l.length := by
  have := h.perm.length_eq
  rw [List.length_append, List.length_append, List.length_map, List.length_take] at this
  omega
theorem Mg.rlt {l : List Kno} {p : Int} {b : List Ent} {k : Nat} {o r : List Kno} (h : Mg l p b k o r) : r.Pairwise KLt := (List.pairwise_append.1 h.lt).2.1
theorem Mg.step {l : List Kno} (hl : RtK l) {p : Int} {b : List Ent} (hs : StrN b) (hg : ∀ e ∈ b, goodE l e) {k : Nat} {o r : List Kno} (h : Mg l p b k o r) (hk : k < b.length) {m : Nat} (hm : Beh r b[k].n m) : Mg l p b (k + 1) (o ++ r.take m ++ [⟨b[k], p⟩]) (r.drop m) := by
  obtain ⟨h1, h2, h3⟩ := List.pairwise_append.1 h.lt
  have hrt : r.take m ++ r.drop m = r := List.take_append_drop m r
  have hlo : ∀ x ∈ o ++ r.take m, KLt x ⟨b[k], p⟩ ∧ ltN b[k].n x.e.n = false := by
    intro x hx
    rcases List.mem_append.1 hx with q | q
    · obtain ⟨j, hj, hjk, q1⟩ := h.lo x q
      have q2 := List.pairwise_iff_getElem.1 hs j k hj hk hjk
      have q3 : ltN x.e.n b[k].n = true := by
        unfold ltN at *
        rcases less_total x.e.n.toList b[j].n.toList with g | g | g
        · exact less_trans g q2
        · rw [g]; exact q2
        · rw [g] at q1; cases q1
      exact ⟨.inl q3, by unfold ltN at *; exact less_asymm q3⟩
    · obtain ⟨i, hi, rfl⟩ := List.getElem_of_mem q
      rw [List.length_take] at hi
      rw [List.getElem_take]
      have q1 := hm.lo i (by omega) (by omega)
      refine ⟨?_, q1⟩
      unfold ltN at q1
      rcases less_total r[i].e.n.toList b[k].n.toList with g | g | g
      · exact .inl g
      · refine .inr ⟨g, ?_⟩
        have q2 := ((latF_spec l b[k].n).top r[i] (h.sub _ (List.getElem_mem _)) g).2
        have q3 := good_v hl (hg _ (List.getElem_mem hk))
        show r[i].e.v < b[k].v
        omega
      · rw [g] at q1; cases q1
  have hup : ∀ x ∈ r.drop m, KLt ⟨b[k], p⟩ x := by
    intro x hx
    obtain ⟨i, hi, rfl⟩ := List.getElem_of_mem hx
    rw [List.length_drop] at hi
    rw [List.getElem_drop]
    exact .inl (hm.up (m + i) (by omega) (by omega))
  have hall : (o ++ r.take m ++ r.drop m).Pairwise KLt := by rw [List.append_assoc, hrt]; exact h.lt
  obtain ⟨p1, p2, p3⟩ := List.pairwise_append.1 hall
  refine ⟨?_, ?_, fun x hx => h.sub x (List.mem_of_mem_drop hx), fun x hx => ?_⟩
  · refine List.pairwise_append.2 ⟨List.pairwise_append.2 ⟨p1, List.pairwise_singleton _ _, fun x hx y hy => ?_⟩, p2, fun x hx y hy => ?_⟩
    · rw [List.mem_singleton.1 hy]
      exact (hlo x hx).1
    · rcases List.mem_append.1 hx with q | q
      · exact p3 x q y hy
      · rw [List.mem_singleton.1 q]
        exact hup y hy
  · rw [take_one b k hk, List.map_append, List.append_assoc (b.take k |>.map _)]
    have e1 : (o ++ r.take m ++ [(⟨b[k], p⟩ : Kno)] ++ r.drop m).Perm (⟨b[k], p⟩ :: (o ++ r)) := by
      rw [List.append_assoc, List.singleton_append]
      refine List.perm_middle.trans ?_
      rw [List.append_assoc, hrt]
    refine e1.trans ((h.perm.cons _).trans ?_)
    exact List.perm_middle.symm
  · rcases List.mem_append.1 hx with q | q
    · exact ⟨k, hk, Nat.lt_succ_self k, (hlo x q).2⟩
    · rw [List.mem_singleton.1 q]
      exact ⟨k, hk, Nat.lt_succ_self k, by unfold ltN; exact less_irrefl _⟩
theorem Mg.done {l : List Kno} (hl : RtK l) {p : Int} {b : List Ent} {o r : List Kno} (h : Mg l p b b.length o r) (ha : (addF l p b).2 = true) : o ++ r = (addF l p b).1 := by
  have hA := addF_yes ha
  have hp := h.perm
  rw [List.take_length] at hp
  exact (hp.trans hA.perm.symm).eq_of_pairwise (fun x y _ _ h1 h2 => absurd (h1.trans h2) KLt.irrefl) h.lt (hA.right hl).lt
end Go.Pm
