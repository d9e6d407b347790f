/- Rows.SigsTellSaid: public numbers, signatures, their bytes and which numbers are a signature are the document's, whatever the numbers. No condition. -/
import Derived.Test.YtpoaehhmahkeaaaRows
import Derived.Test.YtpoaehhmahkeaaaTell4
import Derived.Test.YtpoaehhmahkeaaaRowNum
import Derived.Test.YtpoaehhmahkeaaaRowPair
namespace Go.Proofs.Ytpoaehhmahkeaaa
open Go.ChangeShapes Go.WideShapes Go.ChangeAt Go.RowKit Go.Pm

theorem laidOut : laidOutB Try.prog = true := by kernel_rfl
theorem ownKnobs : ownKnob Try.prog.godebug = none := by kernel_rfl
def fSigR : Field := { name := "R", type := 22, offset := 0, embedded := false, tag := "", pkgPath := "", byteOffset := 0 }
def fSigS : Field := { name := "S", type := 22, offset := 1, embedded := false, tag := "", pkgPath := "", byteOffset := 8 }
theorem rSig : Try.prog.underlying 25 = some (.struct #[fSigR, fSigS]) := by kernel_rfl
theorem rBool : Try.prog.underlying 4 = some .bool := by kernel_rfl
theorem rU64 : Try.prog.underlying 22 = some (.int .u64) := by kernel_rfl
theorem rU8 : Try.prog.underlying 5 = some (.int .u8) := by kernel_rfl
theorem cByte : Try.prog.cellsOf 5 = 1 := by kernel_rfl

set_option maxRecDepth 100000 in
theorem sigsTell_lifted (os : Os) (started : os.Started) (H : Type) (enc : TypeId × Value → H) :
    ReturnsInHanded {} Try.checked os 3 .any (Rows.sigsTellSpec.pre6 enc Try.prog Try.f3 Rows.sigsTellRow.domain false) (Rows.sigsTellSpec.post enc Try.prog Try.f3 false true false false) := by
  refine returnsInHanded_of_change (C := Try.checked) ownKnobs started (by kernel_rfl) Try.func3
    (ChangeSpec.witness6 (enc := enc) (C := Try.checked) false ⟨#[], #[.int .u64 0, .slice none 0 0, .int .u64 0, .agg #[.int .u64 0, .int .u64 0], .int .u8 0, .int .u64 0], []⟩ 8 (by kernel_rfl) (by kernel_rfl) (by kernel_rfl) (by kernel_rfl)) ?_
  intro W base args ds gs before hval0 hW _ _
  have hval : ∀ (j : Nat) t v, Try.f3.params[j]? = some t → args[j]? = some v → Value.okWide Try.prog W .any base t v := hval0
  have hlt : ∀ x ∈ before, x.block < W.heap.size := fun x hx => by simpa using hW.lt x hx
  have hW' := hW
  obtain ⟨p, q, hA0, hV, rfl, hfz, hnd⟩ := hW
  obtain ⟨rfl, rfl⟩ := trodVars_none hV
  have hA : DataW.TrodAll enc Try.prog W 0 (fun _ => true) true Try.f3.params.toList args.toList ds p := hA0
  rw [Try.params3] at hA hval
  obtain ⟨v0, v1, v2, v3, v4, v5, d0, d1, d2, d3, d4, d5, p0, p1, p2, p3, p4, p5, rfl, rfl, rfl, h0, h1, h2, h3, h4, h5⟩ := trodAll_six hA
  obtain ⟨n, rfl, b0⟩ := openNat_u64 rU64 (hval 0 22 v0 rfl rfl) h0
  obtain ⟨m, hm⟩ := openBs tBytes' tByte cByte (hval 1 23 v1 rfl rfl) h1 (fun x hx => hlt x (by simp [hx]))
  obtain ⟨y, rfl, b2⟩ := openNat_u64 rU64 (hval 2 22 v2 rfl rfl) h2
  obtain ⟨r1, r2, rfl, _, _⟩ := openPair rSig (by kernel_rfl) rfl rfl rU64 rU64 (by kernel_rfl) (by kernel_rfl) (hval 3 25 v3 rfl rfl) h3
  obtain ⟨k, rfl, b4⟩ := openNat_u8 rU8 (hval 4 5 v4 rfl rfl) h4
  obtain ⟨z, rfl, b5⟩ := openNat_u64 rU64 (hval 5 22 v5 rfl rfl) h5
  refine (sigsTell n v1 _ _ m y r1 r2 k z W hm b4).mono fun e W' ⟨he, hk⟩ => ?_
  subst he
  exact ⟨_, rfl, law_post (P := Try.prog) (f := Try.f3) rfl rfl rBool laidOut (by kernel_rfl) hW' rfl rfl rfl (hk.below (fun _ _ h => h))⟩

theorem sigsTell_holds : Rows.SigsTellSaid :=
  OpenClaim.holds_of_wide 3 Try.f3 rfl rfl rfl rfl rfl rfl rfl ⟨rfl, rfl, rfl, rfl, rfl⟩ rfl rfl rfl rfl rfl (by kernel_rfl) Try.func3 (by kernel_rfl)
    (of_decide_eq_true (by kernel_rfl)) (by unfold Func.isWrapper; first | (rw [if_pos (by decide +kernel)]; kernel_rfl) | (rw [if_neg (by decide +kernel)]; exact ⟨rfl, rfl⟩))
    (fun os started H enc _ => sigsTell_lifted os started H enc)
end Go.Proofs.Ytpoaehhmahkeaaa
