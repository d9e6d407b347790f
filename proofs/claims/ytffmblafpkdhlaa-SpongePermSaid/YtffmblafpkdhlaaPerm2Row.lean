/- Rows.SpongePermSaid: two states are turned to like ones just where they are alike, and a state of which one word is xored with x to the same one just where x is 0; whatever the states. No condition. -/
import Derived.Test.YtffmblafpkdhlaaRows
import Derived.Test.YtffmblafpkdhlaaPerm2
import Derived.Test.YtffmblafpkdhlaaRowArr
namespace Go.Proofs.Ytffmblafpkdhlaa
open Go.ChangeShapes Go.WideShapes Go.ChangeAt Go.RowKit Go.Pm

theorem laidOut : laidOutB Try.prog = true := by kernel_rfl
theorem ownKnobs : ownKnob Try.prog.godebug = none := by kernel_rfl
theorem cByte : Try.prog.cellsOf 5 = 1 := by kernel_rfl
theorem cU64 : Try.prog.cellsOf 22 = 1 := by kernel_rfl
theorem cState : Try.prog.cellsOf 23 = 5 := by kernel_rfl
theorem tBool : Try.prog.underlying 4 = some .bool := by kernel_rfl

set_option maxRecDepth 100000 in
theorem spongePerm_lifted (os : Os) (started : os.Started) (H : Type) (enc : TypeId × Value → H) :
    ReturnsInHanded {} Try.checked os 6 .any (Rows.spongePermSpec.pre6 enc Try.prog Try.f6 Rows.spongePermRow.domain false) (Rows.spongePermSpec.post enc Try.prog Try.f6 false true false false) := by
  refine returnsInHanded_of_change (C := Try.checked) ownKnobs started (by kernel_rfl) Try.func6
    (ChangeSpec.witness6 (enc := enc) (C := Try.checked) false ⟨#[], #[Sp.sv ⟨0, 0, 0, 0, 0⟩, Sp.sv ⟨0, 0, 0, 0, 0⟩, .int .u8 0, .int .u64 0], []⟩ 8 (by kernel_rfl) (by kernel_rfl) (by kernel_rfl) (by kernel_rfl)) ?_
  intro W base args ds gs before hval0 hW _ _
  have hval : ∀ (j : Nat) t v, Try.f6.params[j]? = some t → args[j]? = some v → Value.okWide Try.prog W .any base t v := hval0
  have hlt : ∀ x ∈ before, x.block < W.heap.size := fun x hx => by simpa using hW.lt x hx
  have hW' := hW
  obtain ⟨p, q, hA0, hV, rfl, hfz, hnd⟩ := hW
  obtain ⟨rfl, rfl⟩ := trodVars_none hV
  have hA : DataW.TrodAll enc Try.prog W 0 (fun _ => true) true Try.f6.params.toList args.toList ds p := hA0
  rw [Try.params6] at hA hval
  obtain ⟨v0, v1, v2, v3, d0, d1, d2, d3, p0, p1, p2, p3, rfl, rfl, rfl, h0, h1, h2, h3⟩ := trodAll_four hA
  obtain ⟨s, rfl⟩ := openState uState tU64 cU64 cState (hval 0 23 v0 rfl rfl) h0
  obtain ⟨t, rfl⟩ := openState uState tU64 cU64 cState (hval 1 23 v1 rfl rfl) h1
  obtain ⟨i, rfl, i0, i1⟩ := openU8 tByte (hval 2 5 v2 rfl rfl) h2
  obtain ⟨n, rfl, n0, n1⟩ := openU64 tU64 (hval 3 22 v3 rfl rfl) h3
  have hx := U_W n n0 n1
  rw [← hx]
  rw [← hx] at hW'
  refine (spongePerm s t i (Go.Pm.W n) W i0 i1).mono fun e W' ⟨he, hk⟩ => ?_
  subst he
  exact ⟨_, rfl, law_post (P := Try.prog) (f := Try.f6) rfl rfl tBool laidOut (by kernel_rfl) hW' rfl rfl rfl (hk.below (fun _ _ h => h))⟩

theorem spongePerm_holds : Rows.SpongePermSaid :=
  OpenClaim.holds_of_wide 6 Try.f6 rfl rfl rfl rfl rfl rfl rfl ⟨rfl, rfl, rfl, rfl, rfl⟩ rfl rfl rfl rfl rfl (by kernel_rfl) Try.func6 (by kernel_rfl)
    (of_decide_eq_true (by kernel_rfl)) (by unfold Func.isWrapper; first | (rw [if_pos (by decide +kernel)]; kernel_rfl) | (rw [if_neg (by decide +kernel)]; exact ⟨rfl, rfl⟩))
    (fun os started H enc _ => spongePerm_lifted os started H enc)
end Go.Proofs.Ytffmblafpkdhlaa
