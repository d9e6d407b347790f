/- Rows.BinReadsSaid: whatever bytes a Reader of package bin is made of, and whatever it is asked for, it tells what the document's Reader tells, with the same first error; Num, Lump and Join give the document's bytes. No condition. -/
import Derived.Test.YtjadlhpheagkfaaRows
import Derived.Test.YtjadlhpheagkfaaReads1
import Derived.Test.YtjadlhpheagkfaaRow
namespace Go.Pm
open Go Go.RowKit Go.ChangeShapes Go.WideShapes Go.ChangeAt
/-- A slice of structs of a byte and an int. -/
theorem openActs {H : Type} {enc : TypeId × Value → H} {P : Program} {W : World} {t e : TypeId} {f0 f1 : Field} {v : Value} {d : DataW H} {p : List MemPlace} {base : Nat} (ht : P.underlying t = some (.slice e)) (hs : P.underlying e = some (.struct #[f0, f1]))
    (hc : P.cellsOf e = 2) (h0 : f0.offset = 0) (h1 : f1.offset = 1) (hb : P.underlying f0.type = some (.int .u8)) (hcb : P.cellsOf f0.type = 1) (hi : P.underlying f1.type = some (.int .i64)) (hci : P.cellsOf f1.type = 1)
    (hok : Value.okWide P W .any base t v) (h : DataW.Trod enc P W 0 (fun _ => true) true t v d p) (hlt : ∀ x ∈ p, x.block < W.heap.size) : ∃ acts, Acts W 0 W.heap.size v acts := by
  obtain ⟨a0, len, cap, rfl⟩ := okWide_slice ht hok
  obtain ⟨fuel, hf⟩ := h
  rcases Deep.open_slice ht hf with ⟨hcs, hx⟩ | ⟨a, len', cap', m, n, D, Pl, hcs, _, hl, hm, hmm, hx, hcell⟩
  · simp [Value.cells] at hcs
    obtain ⟨rfl, rfl, rfl⟩ := hcs
    exact ⟨[], ⟨none, 0, rfl, Nat.le_refl _, by omega, fun _ => rfl, fun ad h => by cases h⟩, fun x hx => by simp at hx⟩
  · simp [Value.cells] at hcs
    obtain ⟨rfl, rfl, rfl⟩ := hcs
    simp only [Prod.mk.injEq] at hx
    obtain ⟨_, rfl⟩ := hx
    simp only [if_true] at hmm
    subst hmm
    obtain ⟨acts, hal, hac⟩ := list_of (Q := fun i (x : Int × Int) => W.cell? (a.add (i * 2)) = some (.int .u8 x.1) ∧ W.cell? ((a.add (i * 2)).add 1) = some (.int .i64 x.2) ∧ 0 ≤ x.1 ∧ x.1 < 256 ∧ -9223372036854775808 ≤ x.2 ∧ x.2 < 9223372036854775808) len (fun i hil => by
      obtain ⟨cs', hcs', ht'⟩ := hcell i (by omega)
      rw [hc] at hcs'
      obtain ⟨y0, y1, n', _, _, g0, g1⟩ := trod_struct2 hs ht'
      rw [h0, hcb] at g0
      rw [h1, hci] at g1
      obtain ⟨k0, e0, _, w0⟩ := DataW.trod_int hb g0
      obtain ⟨k1, e1, _, w1⟩ := DataW.trod_int hi g1
      simp [Lit.wf, IntKind.min, IntKind.max, IntKind.signed, IntKind.bits] at w0 w1
      unfold World.cells? at hcs'
      rw [if_pos (Nat.zero_le _), show List.range 2 = [0, 1] from rfl] at hcs'
      simp only [List.mapM_cons, List.mapM_nil, Addr.add_zero'] at hcs'
      cases q0 : W.cell? (a.add (i * 2)) with
      | none => rw [q0] at hcs'; simp at hcs'
      | some c0 =>
        cases q1 : W.cell? ((a.add (i * 2)).add 1) with
        | none => rw [q0, q1] at hcs'; simp at hcs'
        | some c1 =>
          rw [q0, q1] at hcs'
          simp at hcs'
          subst hcs'
          simp at e0 e1
          subst e0 e1
          exact ⟨(k0, k1), rfl, rfl, by omega, by omega, by omega, by omega⟩)
    subst hal
    refine ⟨acts, ⟨some a, m, rfl, hl, by unfold maxLen at hm; omega, (fun h => by cases h), fun ad had i x hx => ?_⟩, fun x hx => ?_⟩
    · obtain rfl := Option.some.inj had
      have hil := (List.getElem?_eq_some_iff.1 hx).1
      have hb := hlt (.cell (a.add (i * 2)).block (a.add (i * 2)).off) (List.mem_append.2 (.inl (MemPlace.mem_row.2 ⟨i * 2, by rw [hc]; omega, by simp [Addr.add]; split <;> simp_all⟩)))
      refine ⟨Nat.zero_le _, ?_, (hac i x hx).1, (hac i x hx).2.1⟩
      rw [← add_block a (i * 2)]; exact hb
    · obtain ⟨i, hi⟩ := List.getElem?_of_mem hx
      exact (hac i x hi).2.2
end Go.Pm
namespace Go.Proofs.Ytjadlhpheagkfaa
open Go.ChangeShapes Go.WideShapes Go.ChangeAt Go.RowKit Go.Pm

theorem laidOut : laidOutB Try.prog = true := by kernel_rfl
theorem ownKnobs : ownKnob Try.prog.godebug = none := by kernel_rfl
theorem cByte : Try.prog.cellsOf 5 = 1 := by kernel_rfl
theorem tBytess : Try.prog.underlying 24 = some (.slice 22) := by kernel_rfl
theorem cBytes : Try.prog.cellsOf 22 = 1 := by kernel_rfl
theorem tNum : Try.prog.underlying 23 = some (.int .u64) := by kernel_rfl
theorem tActs : Try.prog.underlying 25 = some (.slice 36) := by kernel_rfl
def fWhat : Field := { name := "What", type := 5, offset := 0, embedded := false, tag := "", pkgPath := "", byteOffset := 0 }
def fN : Field := { name := "N", type := 3, offset := 1, embedded := false, tag := "", pkgPath := "", byteOffset := 8 }
theorem tAct : Try.prog.underlying 36 = some (.struct #[fWhat, fN]) := by kernel_rfl
theorem tInt : Try.prog.underlying 3 = some (.int .i64) := by kernel_rfl
theorem cInt : Try.prog.cellsOf 3 = 1 := by kernel_rfl
theorem cAct : Try.prog.cellsOf 36 = 2 := by kernel_rfl
theorem tBool : Try.prog.underlying 4 = some .bool := by kernel_rfl

set_option maxRecDepth 100000 in
theorem binReads_lifted (os : Os) (started : os.Started) (H : Type) (enc : TypeId × Value → H) :
    ReturnsInHanded {} Try.checked os 3 .any (Rows.binReadsSpec.pre6 enc Try.prog Try.f3 Rows.binReadsRow.domain false) (Rows.binReadsSpec.post enc Try.prog Try.f3 false true false false) := by
  refine returnsInHanded_of_change (C := Try.checked) ownKnobs started (by kernel_rfl) Try.func3
    (ChangeSpec.witness6 (enc := enc) (C := Try.checked) false ⟨#[], #[.slice none 0 0, .int .u64 0, .slice none 0 0, .slice none 0 0], []⟩ 8 (by kernel_rfl) (by kernel_rfl) (by kernel_rfl) (by kernel_rfl)) ?_
  intro W base args ds gs before hval0 hW _ _
  have hval : ∀ (j : Nat) t v, Try.f3.params[j]? = some t → args[j]? = some v → Value.okWide Try.prog W .any base t v := hval0
  have hlt : ∀ x ∈ before, x.block < W.heap.size := fun x hx => by simpa using hW.lt x hx
  have hW' := hW
  obtain ⟨p, q, hA0, hV, rfl, hfz, hnd⟩ := hW
  obtain ⟨rfl, rfl⟩ := trodVars_none hV
  have hA : DataW.TrodAll enc Try.prog W 0 (fun _ => true) true Try.f3.params.toList args.toList ds p := hA0
  rw [Try.params3] at hA hval
  obtain ⟨v0, v1, v2, v3, d0, d1, d2, d3, p0, p1, p2, p3, rfl, rfl, rfl, h0, h1, h2, h3⟩ := trodAll_four hA
  obtain ⟨raw, hr⟩ := openBs tBytes' tByte cByte (hval 0 22 v0 rfl rfl) h0 (fun x hx => hlt x (by simp [hx]))
  obtain ⟨n, rfl, hn0, hn1⟩ := openU64 tNum (hval 1 23 v1 rfl rfl) h1
  obtain ⟨ls, hl⟩ := openBss tBytess tBytes' tByte cByte cBytes (hval 2 24 v2 rfl rfl) h2 (fun x hx => hlt x (by simp [hx]))
  obtain ⟨acts, ha⟩ := openActs (f0 := fWhat) (f1 := fN) tActs tAct cAct rfl rfl tByte cByte tInt cInt (hval 3 25 v3 rfl rfl) h3 (fun x hx => hlt x (by simp [hx]))
  refine (binReads v0 v2 v3 n _ _ _ _ _ _ _ _ raw ls acts W hr hn0 hn1 hl ha (Nat.le_refl _) (Nat.le_refl _) (Nat.le_refl _) (Nat.le_refl _)).mono fun e W' ⟨he, hk⟩ => ?_
  subst he
  exact ⟨_, rfl, law_post (P := Try.prog) (f := Try.f3) rfl rfl tBool laidOut (by kernel_rfl) hW' rfl rfl rfl (hk.below (fun _ _ h => h))⟩

theorem binReads_holds : Rows.BinReadsSaid :=
  OpenClaim.holds_of_wide 3 Try.f3 rfl rfl rfl rfl rfl rfl rfl ⟨rfl, rfl, rfl, rfl, rfl⟩ rfl rfl rfl rfl rfl (by kernel_rfl) Try.func3 (by kernel_rfl)
    (of_decide_eq_true (by kernel_rfl)) (by unfold Func.isWrapper; first | (rw [if_pos (by decide +kernel)]; kernel_rfl) | (rw [if_neg (by decide +kernel)]; exact ⟨rfl, rfl⟩))
    (fun os started H enc _ => binReads_lifted os started H enc)
end Go.Proofs.Ytjadlhpheagkfaa
