/- Rows.UpdateTellsSaid: which requests may be, their messages, bytes and signatures are the document's, whatever the request and the numbers. No condition. -/
import Derived.Test.YtbckjkfdkgomiaaRows
import Derived.Test.YtbckjkfdkgomiaaTells5
import Derived.Test.YtbckjkfdkgomiaaRowNum
import Derived.Test.YtbckjkfdkgomiaaRowStr
namespace Go.Proofs.Ytbckjkfdkgomiaa
open Go.ChangeShapes Go.WideShapes Go.ChangeAt Go.RowKit Go.Pm

theorem laidOut : laidOutB Try.prog = true := by kernel_rfl
theorem ownKnobs : ownKnob Try.prog.godebug = none := by kernel_rfl
def fSigR : Field := { name := "R", type := 22, offset := 0, embedded := false, tag := "", pkgPath := "", byteOffset := 0 }
def fSigS : Field := { name := "S", type := 22, offset := 1, embedded := false, tag := "", pkgPath := "", byteOffset := 8 }
def fName : Field := { name := "Name", type := 9, offset := 0, embedded := false, tag := "", pkgPath := "", byteOffset := 0 }
def fVersion : Field := { name := "Version", type := 3, offset := 1, embedded := false, tag := "", pkgPath := "", byteOffset := 16 }
def fKey : Field := { name := "Key", type := 22, offset := 2, embedded := false, tag := "", pkgPath := "", byteOffset := 24 }
def fClass : Field := { name := "Class", type := 3, offset := 3, embedded := false, tag := "", pkgPath := "", byteOffset := 32 }
def fSig : Field := { name := "Sig", type := 24, offset := 4, embedded := false, tag := "", pkgPath := "", byteOffset := 40 }
theorem rSig : Try.prog.underlying 24 = some (.struct #[fSigR, fSigS]) := by kernel_rfl
theorem rUpd : Try.prog.underlying 26 = some (.struct #[fName, fVersion, fKey, fClass, fSig]) := by kernel_rfl
theorem rBool : Try.prog.underlying 4 = some .bool := by kernel_rfl
theorem rU64 : Try.prog.underlying 22 = some (.int .u64) := by kernel_rfl
theorem rU8 : Try.prog.underlying 5 = some (.int .u8) := by kernel_rfl
theorem rStr : Try.prog.underlying 9 = some .string := by kernel_rfl
theorem rI64 : Try.prog.underlying 3 = some (.int .i64) := by kernel_rfl

set_option maxRecDepth 100000 in
theorem updateTells_lifted (os : Os) (started : os.Started) (H : Type) (enc : TypeId × Value → H) :
    ReturnsInHanded {} Try.checked os 3 .any (Rows.updateTellsSpec.pre6 enc Try.prog Try.f3 Rows.updateTellsRow.domain false) (Rows.updateTellsSpec.post enc Try.prog Try.f3 false true false false) := by
  refine returnsInHanded_of_change (C := Try.checked) ownKnobs started (by kernel_rfl) Try.func3
    (ChangeSpec.witness6 (enc := enc) (C := Try.checked) false ⟨#[], #[.agg #[.string ⟨#[]⟩, .int .i64 0, .int .u64 0, .int .i64 0, .int .u64 0, .int .u64 0], .int .u8 0, .int .i64 0, .int .u8 0, .int .u8 0, .int .u8 0, .int .i64 0, .string ⟨#[]⟩, .int .u64 0, .int .u64 0], []⟩ 8 (by kernel_rfl) (by kernel_rfl) (by kernel_rfl) (by kernel_rfl)) ?_
  intro W base args ds gs before hval0 hW _ _
  have hval : ∀ (j : Nat) t v, Try.f3.params[j]? = some t → args[j]? = some v → Value.okWide Try.prog W .any base t v := hval0
  have hW' := hW
  obtain ⟨p, q, hA0, hV, rfl, hfz, hnd⟩ := hW
  obtain ⟨rfl, rfl⟩ := trodVars_none hV
  have hA : DataW.TrodAll enc Try.prog W 0 (fun _ => true) true Try.f3.params.toList args.toList ds p := hA0
  rw [Try.params3] at hA hval
  obtain ⟨v0, v1, v2, v3, v4, v5, v6, v7, v8, v9, d0, d1, d2, d3, d4, d5, d6, d7, d8, d9, p0, p1, p2, p3, p4, p5, p6, p7, p8, p9, rfl, rfl, rfl, h0, h1, h2, h3, h4, h5, h6, h7, h8, h9⟩ := trodAll_ten hA
  obtain ⟨rawn, rawa, rawc, rawk, rawr, raws, rfl, raw1, raw2, raw3⟩ := openUpd rUpd (by kernel_rfl) rfl rfl rfl rfl rfl rStr rI64 rU64 rI64 rSig rfl rfl rU64 rU64 (by kernel_rfl) (by kernel_rfl) (by kernel_rfl) (by kernel_rfl) (by kernel_rfl) (by kernel_rfl) (by kernel_rfl) (hval 0 26 v0 rfl rfl) h0
  obtain ⟨k, rfl, b1⟩ := openNat_u8 rU8 (hval 1 5 v1 rfl rfl) h1
  obtain ⟨ver, rfl, _, _, b2⟩ := open_int rI64 (hval 2 3 v2 rfl rfl) h2
  obtain ⟨cl, rfl, b3⟩ := openNat_u8 rU8 (hval 3 5 v3 rfl rfl) h3
  obtain ⟨how, rfl, b4⟩ := openNat_u8 rU8 (hval 4 5 v4 rfl rfl) h4
  obtain ⟨what, rfl, b5⟩ := openNat_u8 rU8 (hval 5 5 v5 rfl rfl) h5
  obtain ⟨vv, rfl, _, _, b6⟩ := open_int rI64 (hval 6 3 v6 rfl rfl) h6
  obtain ⟨s, rfl, b7⟩ := openStr rStr (hval 7 9 v7 rfl rfl) h7
  obtain ⟨secret, rfl, b8⟩ := openNat_u64 rU64 (hval 8 22 v8 rfl rfl) h8
  obtain ⟨key, rfl, b9⟩ := openNat_u64 rU64 (hval 9 22 v9 rfl rfl) h9
  refine (updateTells rawn rawa rawc rawk rawr raws k cl how what ver vv s secret key W raw1 raw2 raw3).mono fun e W' ⟨he, hk⟩ => ?_
  subst he
  exact ⟨_, rfl, law_post (P := Try.prog) (f := Try.f3) rfl rfl rBool laidOut (by kernel_rfl) hW' rfl rfl rfl (hk.below (fun _ _ h => h))⟩

theorem updateTells_holds : Rows.UpdateTellsSaid :=
  OpenClaim.holds_of_wide 3 Try.f3 rfl rfl rfl rfl rfl rfl rfl ⟨rfl, rfl, rfl, rfl, rfl⟩ rfl rfl rfl rfl rfl (by kernel_rfl) Try.func3 (by kernel_rfl)
    (of_decide_eq_true (by kernel_rfl)) (by unfold Func.isWrapper; first | (rw [if_pos (by decide +kernel)]; kernel_rfl) | (rw [if_neg (by decide +kernel)]; exact ⟨rfl, rfl⟩))
    (fun os started H enc _ => updateTells_lifted os started H enc)
end Go.Proofs.Ytbckjkfdkgomiaa
