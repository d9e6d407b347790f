/- Rows.HeadOwnSaid: a head is taken by its own key, and by another one just where the document's equation holds for it, whatever the secrets, the numbers and the hashes. No condition. -/
import Derived.Test.YtidegffdhpdhjaaRows
import Derived.Test.YtidegffdhpdhjaaOwn10
import Derived.Test.YtidegffdhpdhjaaLowRow
import Derived.Test.YtidegffdhpdhjaaRow6
namespace Go.Proofs.Ytidegffdhpdhjaa
open Go.ChangeShapes Go.WideShapes Go.ChangeAt Go.RowKit Go.Pm

theorem laidOut : laidOutB Try.prog = true := by kernel_rfl
theorem ownKnobs : ownKnob Try.prog.godebug = none := by kernel_rfl
theorem uHash : Try.prog.underlying 23 = some (.array 32 5) := by kernel_rfl
theorem uByte : Try.prog.underlying 5 = some (.int .u8) := by kernel_rfl
theorem rBool : Try.prog.underlying 4 = some .bool := by kernel_rfl
theorem rU64 : Try.prog.underlying 24 = some (.int .u64) := by kernel_rfl
theorem rU8 : Try.prog.underlying 5 = some (.int .u8) := by kernel_rfl
theorem rU16 : Try.prog.underlying 51 = some (.int .u16) := by kernel_rfl
theorem rU32 : Try.prog.underlying 56 = some (.int .u32) := by kernel_rfl

set_option maxRecDepth 100000 in
theorem headOwn_lifted (os : Os) (started : os.Started) (H : Type) (enc : TypeId × Value → H) :
    ReturnsInHanded {} Try.checked os 5 .any (Rows.headOwnSpec.pre6 enc Try.prog Try.f5 Rows.headOwnRow.domain false) (Rows.headOwnSpec.post enc Try.prog Try.f5 false true false false) := by
  refine returnsInHanded_of_change (C := Try.checked) ownKnobs started (by kernel_rfl) Try.func5
    (ChangeSpec.witness6 (enc := enc) (C := Try.checked) false ⟨#[], #[.int .u64 0, .int .u64 0, .int .u16 0, .int .u32 0, .int .u8 0, .agg #[.int .u8 0, .int .u8 0, .int .u8 0, .int .u8 0, .int .u8 0, .int .u8 0, .int .u8 0, .int .u8 0, .int .u8 0, .int .u8 0, .int .u8 0, .int .u8 0, .int .u8 0, .int .u8 0, .int .u8 0, .int .u8 0, .int .u8 0, .int .u8 0, .int .u8 0, .int .u8 0, .int .u8 0, .int .u8 0, .int .u8 0, .int .u8 0, .int .u8 0, .int .u8 0, .int .u8 0, .int .u8 0, .int .u8 0, .int .u8 0, .int .u8 0, .int .u8 0], .agg #[.int .u8 0, .int .u8 0, .int .u8 0, .int .u8 0, .int .u8 0, .int .u8 0, .int .u8 0, .int .u8 0, .int .u8 0, .int .u8 0, .int .u8 0, .int .u8 0, .int .u8 0, .int .u8 0, .int .u8 0, .int .u8 0, .int .u8 0, .int .u8 0, .int .u8 0, .int .u8 0, .int .u8 0, .int .u8 0, .int .u8 0, .int .u8 0, .int .u8 0, .int .u8 0, .int .u8 0, .int .u8 0, .int .u8 0, .int .u8 0, .int .u8 0, .int .u8 0]], []⟩ 8 (by kernel_rfl) (by kernel_rfl) (by kernel_rfl) (by kernel_rfl)) ?_
  intro W base args ds gs before hval0 hW _ _
  have hval : ∀ (j : Nat) t v, Try.f5.params[j]? = some t → args[j]? = some v → Value.okWide Try.prog W .any base t v := hval0
  have hW' := hW
  obtain ⟨p, q, hA0, hV, rfl, hfz, hnd⟩ := hW
  obtain ⟨rfl, rfl⟩ := trodVars_none hV
  have hA : DataW.TrodAll enc Try.prog W 0 (fun _ => true) true Try.f5.params.toList args.toList ds p := hA0
  rw [Try.params5] at hA hval
  obtain ⟨v0, v1, v2, v3, v4, v5, v6, d0, d1, d2, d3, d4, d5, d6, p0, p1, p2, p3, p4, p5, p6, rfl, rfl, rfl, h0, h1, h2, h3, h4, h5, h6⟩ := trodAll_seven hA
  obtain ⟨x, rfl, b0⟩ := openNat_u64 rU64 (hval 0 24 v0 rfl rfl) h0
  obtain ⟨y, rfl, b1⟩ := openNat_u64 rU64 (hval 1 24 v1 rfl rfl) h1
  obtain ⟨ep, rfl, b2⟩ := openNat_u16 rU16 (hval 2 51 v2 rfl rfl) h2
  obtain ⟨tk, rfl, b3⟩ := openNat_u32 rU32 (hval 3 56 v3 rfl rfl) h3
  obtain ⟨ct, rfl, b4⟩ := openNat_u8 rU8 (hval 4 5 v4 rfl rfl) h4
  obtain ⟨root, rfl, b5⟩ := openHash uHash uByte (by kernel_rfl) (by kernel_rfl) (hval 5 23 v5 rfl rfl) h5
  obtain ⟨log, rfl, b6⟩ := openHash uHash uByte (by kernel_rfl) (by kernel_rfl) (hval 6 23 v6 rfl rfl) h6
  refine (H10.own x y ep tk ct root log W b2 b3 b4 b5 b6).mono fun e W' ⟨he, hk⟩ => ?_
  subst he
  exact ⟨_, rfl, law_post (P := Try.prog) (f := Try.f5) rfl rfl rBool laidOut (by kernel_rfl) hW' rfl rfl rfl (hk.below (fun _ _ h => h))⟩

theorem headOwn_holds : Rows.HeadOwnSaid :=
  OpenClaim.holds_of_wide 5 Try.f5 rfl rfl rfl rfl rfl rfl rfl ⟨rfl, rfl, rfl, rfl, rfl⟩ rfl rfl rfl rfl rfl (by kernel_rfl) Try.func5 (by kernel_rfl)
    (of_decide_eq_true (by kernel_rfl)) (by unfold Func.isWrapper; first | (rw [if_pos (by decide +kernel)]; kernel_rfl) | (rw [if_neg (by decide +kernel)]; exact ⟨rfl, rfl⟩))
    (fun os started H enc _ => headOwn_lifted os started H enc)
end Go.Proofs.Ytidegffdhpdhjaa
