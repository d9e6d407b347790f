/- Rows.BinEndsSaid: behind the first error a Reader of package bin tells nothing any more, and the error stays; whatever the bytes and the two numbers. No condition. -/
import Derived.Test.YtjadlhpheagkfaaRows
import Derived.Test.YtjadlhpheagkfaaEnds1
import Derived.Test.YtjadlhpheagkfaaRow
namespace Go.Proofs.Ytjadlhpheagkfaa
open Go.ChangeShapes Go.WideShapes Go.ChangeAt Go.RowKit Go.Pm

theorem laidOut : laidOutB Try.prog = true := by kernel_rfl
theorem ownKnobs : ownKnob Try.prog.godebug = none := by kernel_rfl
theorem cByte : Try.prog.cellsOf 5 = 1 := by kernel_rfl
theorem tBool : Try.prog.underlying 4 = some .bool := by kernel_rfl

set_option maxRecDepth 100000 in
theorem binEnds_lifted (os : Os) (started : os.Started) (H : Type) (enc : TypeId × Value → H) :
    ReturnsInHanded {} Try.checked os 5 .any (Rows.binEndsSpec.pre6 enc Try.prog Try.f5 Rows.binEndsRow.domain false) (Rows.binEndsSpec.post enc Try.prog Try.f5 false true false false) := by
  refine returnsInHanded_of_change (C := Try.checked) ownKnobs started (by kernel_rfl) Try.func5
    (ChangeSpec.witness6 (enc := enc) (C := Try.checked) false ⟨#[], #[.slice none 0 0, .int .u8 0, .int .u8 0], []⟩ 8 (by kernel_rfl) (by kernel_rfl) (by kernel_rfl) (by kernel_rfl)) ?_
  intro W base args ds gs before hval0 hW _ _
  have hval : ∀ (j : Nat) t v, Try.f5.params[j]? = some t → args[j]? = some v → Value.okWide Try.prog W .any base t v := hval0
  have hlt : ∀ x ∈ before, x.block < W.heap.size := fun x hx => by simpa using hW.lt x hx
  have hW' := hW
  obtain ⟨p, q, hA0, hV, rfl, hfz, hnd⟩ := hW
  obtain ⟨rfl, rfl⟩ := trodVars_none hV
  have hA : DataW.TrodAll enc Try.prog W 0 (fun _ => true) true Try.f5.params.toList args.toList ds p := hA0
  rw [Try.params5] at hA hval
  obtain ⟨v0, v1, v2, d0, d1, d2, p0, p1, p2, rfl, rfl, rfl, h0, h1, h2⟩ := trodAll_three hA
  obtain ⟨l, hl⟩ := openBs tBytes' tByte cByte (hval 0 22 v0 rfl rfl) h0 (fun x hx => hlt x (by simp [hx]))
  obtain ⟨n, rfl, n0, n1⟩ := openU8 tByte (hval 1 5 v1 rfl rfl) h1
  obtain ⟨m, rfl, m0, m1⟩ := openU8 tByte (hval 2 5 v2 rfl rfl) h2
  refine (binEnds v0 _ _ l n m W hl n0 n1 m0 m1).mono fun e W' ⟨he, hk⟩ => ?_
  subst he
  exact ⟨_, rfl, law_post (P := Try.prog) (f := Try.f5) rfl rfl tBool laidOut (by kernel_rfl) hW' rfl rfl rfl (hk.below (fun _ _ h => h))⟩

theorem binEnds_holds : Rows.BinEndsSaid :=
  OpenClaim.holds_of_wide 5 Try.f5 rfl rfl rfl rfl rfl rfl rfl ⟨rfl, rfl, rfl, rfl, rfl⟩ rfl rfl rfl rfl rfl (by kernel_rfl) Try.func5 (by kernel_rfl)
    (of_decide_eq_true (by kernel_rfl)) (by unfold Func.isWrapper; first | (rw [if_pos (by decide +kernel)]; kernel_rfl) | (rw [if_neg (by decide +kernel)]; exact ⟨rfl, rfl⟩))
    (fun os started H enc _ => binEnds_lifted os started H enc)
end Go.Proofs.Ytjadlhpheagkfaa
