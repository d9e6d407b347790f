/- Rows.FrameTellsSaid: each record's bytes, and which record any bytes begin with, or why none, are the document's, whatever the record, the bytes, the place and the numbers. No condition. -/
import Derived.Test.YtkjidligfcihgaaRows
import Derived.Test.YtkjidligfcihgaaTells13
import Derived.Test.YtkjidligfcihgaaLowRow
import Derived.Test.YtkjidligfcihgaaFmPut13
import Derived.Test.YtkjidligfcihgaaFmRead13
namespace Go.Proofs.Ytkjidligfcihgaa
open Go.ChangeShapes Go.WideShapes Go.ChangeAt Go.RowKit Go.Pm

theorem laidOut : laidOutB Try.prog = true := by kernel_rfl
theorem ownKnobs : ownKnob Try.prog.godebug = none := by kernel_rfl
theorem rI64t : Try.prog.underlying 2 = some (.int .i64) := by kernel_rfl
theorem i64_bounds {i : Int} (h : (Lit.int .i64 i).wf = true) : -9223372036854775808 ≤ i ∧ i < 9223372036854775808 := by
  simp [Lit.wf, IntKind.min, IntKind.max, IntKind.signed, IntKind.bits] at h
  omega
theorem rBool : Try.prog.underlying 4 = some .bool := by kernel_rfl
theorem rU8 : Try.prog.underlying 5 = some (.int .u8) := by kernel_rfl
theorem rU16 : Try.prog.underlying 23 = some (.int .u16) := by kernel_rfl
theorem rI64 : Try.prog.underlying 3 = some (.int .i64) := by kernel_rfl
theorem cByte : Try.prog.cellsOf 5 = 1 := by kernel_rfl

set_option maxRecDepth 100000 in
theorem frameTells_lifted (os : Os) (started : os.Started) (H : Type) (enc : TypeId × Value → H) :
    ReturnsInHanded {} Try.checked os 3 .any (Rows.frameTellsSpec.pre6 enc Try.prog Try.f3 Rows.frameTellsRow.domain false) (Rows.frameTellsSpec.post enc Try.prog Try.f3 false true false false) := by
  refine returnsInHanded_of_change (C := Try.checked) ownKnobs started (by kernel_rfl) Try.func3
    (ChangeSpec.witness6 (enc := enc) (C := Try.checked) false ⟨#[], #[.int .i64 0, .int .i64 0, .slice none 0 0, .slice none 0 0, .int .u16 0, .int .u8 0, .int .u8 0], []⟩ 8 (by kernel_rfl) (by kernel_rfl) (by kernel_rfl) (by kernel_rfl)) ?_
  intro W base args ds gs before hval0 hW _ _
  have hval : ∀ (j : Nat) t v, Try.f3.params[j]? = some t → args[j]? = some v → Value.okWide Try.prog W .any base t v := hval0
  have hlt : ∀ x ∈ before, x.block < W.heap.size := fun x hx => by simpa using hW.lt x hx
  have hW' := hW
  obtain ⟨p, q, hA0, hV, rfl, hfz, hnd⟩ := hW
  obtain ⟨rfl, rfl⟩ := trodVars_none hV
  have hA : DataW.TrodAll enc Try.prog W 0 (fun _ => true) true Try.f3.params.toList args.toList ds p := hA0
  rw [Try.params3] at hA hval
  obtain ⟨v0, v1, v2, v3, v4, v5, v6, d0, d1, d2, d3, d4, d5, d6, p0, p1, p2, p3, p4, p5, p6, rfl, rfl, rfl, h0, h1, h2, h3, h4, h5, h6⟩ := trodAll_seven hA
  obtain ⟨kind, rfl, _, _, b0⟩ := open_int rI64 (hval 0 3 v0 rfl rfl) h0
  obtain ⟨seq, rfl, _, _, b1⟩ := open_int rI64t (hval 1 2 v1 rfl rfl) h1
  obtain ⟨body, hbody⟩ := openBs tBytes' tByte cByte (hval 2 22 v2 rfl rfl) h2 (fun x hx => hlt x (by simp [hx]))
  obtain ⟨raw, hraw⟩ := openBs tBytes' tByte cByte (hval 3 22 v3 rfl rfl) h3 (fun x hx => hlt x (by simp [hx]))
  obtain ⟨at_, rfl, b4⟩ := openNat_u16 rU16 (hval 4 23 v4 rfl rfl) h4
  obtain ⟨x, rfl, b5⟩ := openNat_u8 rU8 (hval 5 5 v5 rfl rfl) h5
  obtain ⟨how, rfl, b6⟩ := openNat_u8 rU8 (hval 6 5 v6 rfl rfl) h6
  refine (K13.tells Fm.put Fm.read kind seq at_ x how v2 v3 _ _ _ _ body raw W (i64_bounds b0) (i64_bounds b1) b4 b5 b6 hbody hraw).mono fun e W' ⟨he, hk⟩ => ?_
  subst he
  exact ⟨_, rfl, law_post (P := Try.prog) (f := Try.f3) rfl rfl rBool laidOut (by kernel_rfl) hW' rfl rfl rfl (hk.below (fun _ _ h => h))⟩

theorem frameTells_holds : Rows.FrameTellsSaid :=
  OpenClaim.holds_of_wide 3 Try.f3 rfl rfl rfl rfl rfl rfl rfl ⟨rfl, rfl, rfl, rfl, rfl⟩ rfl rfl rfl rfl rfl (by kernel_rfl) Try.func3 (by kernel_rfl)
    (of_decide_eq_true (by kernel_rfl)) (by unfold Func.isWrapper; first | (rw [if_pos (by decide +kernel)]; kernel_rfl) | (rw [if_neg (by decide +kernel)]; exact ⟨rfl, rfl⟩))
    (fun os started H enc _ => frameTells_lifted os started H enc)
end Go.Proofs.Ytkjidligfcihgaa
