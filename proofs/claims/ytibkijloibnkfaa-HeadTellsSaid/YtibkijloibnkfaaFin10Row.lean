/- Rows.HeadTellsSaid: which heads may be, their messages, bytes and signatures are the document's, and which row of heads goes on, whatever the head, the bytes and the numbers. No condition. -/
import Derived.Test.YtibkijloibnkfaaRows
import Derived.Test.YtibkijloibnkfaaFinM10
import Derived.Test.YtibkijloibnkfaaLowRow
import Derived.Test.YtibkijloibnkfaaRow6
import Derived.Test.YtibkijloibnkfaaRowH8
import Derived.Test.YtibkijloibnkfaaRowHd10
namespace Go.Proofs.Ytibkijloibnkfaa
open Go.ChangeShapes Go.WideShapes Go.ChangeAt Go.RowKit Go.Pm

theorem laidOut : laidOutB Try.prog = true := by kernel_rfl
theorem ownKnobs : ownKnob Try.prog.godebug = none := by kernel_rfl
theorem rBool : Try.prog.underlying 4 = some .bool := by kernel_rfl
theorem rU64 : Try.prog.underlying 24 = some (.int .u64) := by kernel_rfl
theorem rU8 : Try.prog.underlying 5 = some (.int .u8) := by kernel_rfl
theorem cByte : Try.prog.cellsOf 5 = 1 := by kernel_rfl

theorem uHash : Try.prog.underlying 23 = some (.array 32 5) := by kernel_rfl
theorem uByte : Try.prog.underlying 5 = some (.int .u8) := by kernel_rfl
theorem i64_bounds {i : Int} (h : (Lit.int .i64 i).wf = true) : -9223372036854775808 ≤ i ∧ i < 9223372036854775808 := by
  simp [Lit.wf, IntKind.min, IntKind.max, IntKind.signed, IntKind.bits] at h
  omega
theorem rI64t : Try.prog.underlying 2 = some (.int .i64) := by kernel_rfl
theorem rI64 : Try.prog.underlying 3 = some (.int .i64) := by kernel_rfl
def fSigR : Field := { name := "R", type := 24, offset := 0, embedded := false, tag := "", pkgPath := "", byteOffset := 0 }
def fSigS : Field := { name := "S", type := 24, offset := 1, embedded := false, tag := "", pkgPath := "", byteOffset := 8 }
def fEpoch : Field := { name := "Epoch", type := 3, offset := 0, embedded := false, tag := "", pkgPath := "", byteOffset := 0 }
def fTick : Field := { name := "Tick", type := 2, offset := 1, embedded := false, tag := "", pkgPath := "", byteOffset := 8 }
def fCount : Field := { name := "Count", type := 3, offset := 2, embedded := false, tag := "", pkgPath := "", byteOffset := 16 }
def fRoot : Field := { name := "Root", type := 23, offset := 3, embedded := false, tag := "", pkgPath := "", byteOffset := 24 }
def fLog : Field := { name := "Log", type := 23, offset := 35, embedded := false, tag := "", pkgPath := "", byteOffset := 56 }
def fSig : Field := { name := "Sig", type := 26, offset := 67, embedded := false, tag := "", pkgPath := "", byteOffset := 88 }
theorem rSig : Try.prog.underlying 26 = some (.struct #[fSigR, fSigS]) := by kernel_rfl
theorem rHead : Try.prog.underlying 28 = some (.struct #[fEpoch, fTick, fCount, fRoot, fLog, fSig]) := by kernel_rfl
set_option maxRecDepth 100000 in
theorem headTells_lifted (os : Os) (started : os.Started) (H : Type) (enc : TypeId × Value → H) :
    ReturnsInHanded {} Try.checked os 3 .any (Rows.headTellsSpec.pre6 enc Try.prog Try.f3 Rows.headTellsRow.domain false) (Rows.headTellsSpec.post enc Try.prog Try.f3 false true false false) := by
  refine returnsInHanded_of_change (C := Try.checked) ownKnobs started (by kernel_rfl) Try.func3
    (ChangeSpec.witness6 (enc := enc) (C := Try.checked) false ⟨#[], #[.agg Try.zeroCells28, .slice none 0 0, .int .u8 0, .int .u8 0, .int .i64 0, .agg #[.int .u8 0, .int .u8 0, .int .u8 0, .int .u8 0, .int .u8 0, .int .u8 0, .int .u8 0, .int .u8 0, .int .u8 0, .int .u8 0, .int .u8 0, .int .u8 0, .int .u8 0, .int .u8 0, .int .u8 0, .int .u8 0, .int .u8 0, .int .u8 0, .int .u8 0, .int .u8 0, .int .u8 0, .int .u8 0, .int .u8 0, .int .u8 0, .int .u8 0, .int .u8 0, .int .u8 0, .int .u8 0, .int .u8 0, .int .u8 0, .int .u8 0, .int .u8 0], .int .u64 0, .int .u64 0], []⟩ 8 (by kernel_rfl) (by kernel_rfl) (by kernel_rfl) (by kernel_rfl)) ?_
  intro W base args ds gs before hval0 hW _ _
  have hval : ∀ (j : Nat) t v, Try.f3.params[j]? = some t → args[j]? = some v → Value.okWide Try.prog W .any base t v := hval0
  have hlt : ∀ x ∈ before, x.block < W.heap.size := fun x hx => by simpa using hW.lt x hx
  have hW' := hW
  obtain ⟨p, q, hA0, hV, rfl, hfz, hnd⟩ := hW
  obtain ⟨rfl, rfl⟩ := trodVars_none hV
  have hA : DataW.TrodAll enc Try.prog W 0 (fun _ => true) true Try.f3.params.toList args.toList ds p := hA0
  rw [Try.params3] at hA hval
  obtain ⟨v0, v1, v2, v3, v4, v5, v6, v7, d0, d1, d2, d3, d4, d5, d6, d7, p0, p1, p2, p3, p4, p5, p6, p7, rfl, rfl, rfl, h0, h1, h2, h3, h4, h5, h6, h7⟩ := trodAll_eight hA
  obtain ⟨z, rfl, b0⟩ := openHead rHead (by kernel_rfl) rfl rfl rfl rfl rfl rfl rI64 (by kernel_rfl) rI64t (by kernel_rfl) rI64 (by kernel_rfl) uHash uByte (by kernel_rfl) (by kernel_rfl) rSig (by kernel_rfl) rfl rfl rU64 rU64 (by kernel_rfl) (by kernel_rfl) (hval 0 28 v0 rfl rfl) h0
  obtain ⟨l, hl⟩ := openBs tBytes' tByte cByte (hval 1 29 v1 rfl rfl) h1 (fun x hx => hlt x (by simp [hx]))
  obtain ⟨k, rfl, b2⟩ := openNat_u8 rU8 (hval 2 5 v2 rfl rfl) h2
  obtain ⟨what, rfl, b3⟩ := openNat_u8 rU8 (hval 3 5 v3 rfl rfl) h3
  obtain ⟨x, rfl, _, _, b4⟩ := open_int rI64t (hval 4 2 v4 rfl rfl) h4
  obtain ⟨raw, rfl, b5⟩ := openHash uHash uByte (by kernel_rfl) (by kernel_rfl) (hval 5 23 v5 rfl rfl) h5
  obtain ⟨sx, rfl, b6⟩ := openNat_u64 rU64 (hval 6 24 v6 rfl rfl) h6
  obtain ⟨sy, rfl, b7⟩ := openNat_u64 rU64 (hval 7 24 v7 rfl rfl) h7
  refine (H10.tells H10.epochs_said z v1 _ _ l k what x raw sx sy W b0 hl b2 b3 (i64_bounds b4) b5 b6 b7).mono fun e W' ⟨he, hk⟩ => ?_
  subst he
  exact ⟨_, rfl, law_post (P := Try.prog) (f := Try.f3) rfl rfl rBool laidOut (by kernel_rfl) hW' rfl rfl rfl (hk.below (fun _ _ h => h))⟩

theorem headTells_holds : Rows.HeadTellsSaid :=
  OpenClaim.holds_of_wide 3 Try.f3 rfl rfl rfl rfl rfl rfl rfl ⟨rfl, rfl, rfl, rfl, rfl⟩ rfl rfl rfl rfl rfl (by kernel_rfl) Try.func3 (by kernel_rfl)
    (of_decide_eq_true (by kernel_rfl)) (by unfold Func.isWrapper; first | (rw [if_pos (by decide +kernel)]; kernel_rfl) | (rw [if_neg (by decide +kernel)]; exact ⟨rfl, rfl⟩))
    (fun os started H enc _ => headTells_lifted os started H enc)
end Go.Proofs.Ytibkijloibnkfaa
