/- Rows.TreeTellsSaid: each hash of a tree, and its root, is the document's, whatever the name, the version, the key, the hashes and the items. No condition. -/
import Derived.Test.YtalkkiliepaikaaRows
import Derived.Test.YtalkkiliepaikaaTells6
import Derived.Test.YtalkkiliepaikaaLowRow
import Derived.Test.YtalkkiliepaikaaRow6
import Derived.Test.YtalkkiliepaikaaRowU6
import Derived.Test.YtalkkiliepaikaaRowT6
namespace Go.Proofs.Ytalkkiliepaikaa
open Go.ChangeShapes Go.WideShapes Go.ChangeAt Go.RowKit Go.Pm

theorem laidOut : laidOutB Try.prog = true := by kernel_rfl
theorem ownKnobs : ownKnob Try.prog.godebug = none := by kernel_rfl
theorem rU16 : Try.prog.underlying 53 = some (.int .u16) := by kernel_rfl
theorem tU16s : Try.prog.underlying 26 = some (.slice 53) := by kernel_rfl
theorem cU16 : Try.prog.cellsOf 53 = 1 := by kernel_rfl
theorem rBool : Try.prog.underlying 4 = some .bool := by kernel_rfl
theorem rU64 : Try.prog.underlying 22 = some (.int .u64) := by kernel_rfl
theorem rStr : Try.prog.underlying 9 = some .string := by kernel_rfl
theorem rI64 : Try.prog.underlying 3 = some (.int .i64) := by kernel_rfl

set_option maxRecDepth 100000 in
theorem treeTells_lifted (os : Os) (started : os.Started) (H : Type) (enc : TypeId × Value → H) :
    ReturnsInHanded {} Try.checked os 3 .any (Rows.treeTellsSpec.pre6 enc Try.prog Try.f3 Rows.treeTellsRow.domain false) (Rows.treeTellsSpec.post enc Try.prog Try.f3 false true false false) := by
  refine returnsInHanded_of_change (C := Try.checked) ownKnobs started (by kernel_rfl) Try.func3
    (ChangeSpec.witness6 (enc := enc) (C := Try.checked) false ⟨#[], #[.string ⟨#[]⟩, .int .i64 0, .int .u64 0, .agg #[.int .u8 0, .int .u8 0, .int .u8 0, .int .u8 0, .int .u8 0, .int .u8 0, .int .u8 0, .int .u8 0, .int .u8 0, .int .u8 0, .int .u8 0, .int .u8 0, .int .u8 0, .int .u8 0, .int .u8 0, .int .u8 0, .int .u8 0, .int .u8 0, .int .u8 0, .int .u8 0, .int .u8 0, .int .u8 0, .int .u8 0, .int .u8 0, .int .u8 0, .int .u8 0, .int .u8 0, .int .u8 0, .int .u8 0, .int .u8 0, .int .u8 0, .int .u8 0], .agg #[.int .u8 0, .int .u8 0, .int .u8 0, .int .u8 0, .int .u8 0, .int .u8 0, .int .u8 0, .int .u8 0, .int .u8 0, .int .u8 0, .int .u8 0, .int .u8 0, .int .u8 0, .int .u8 0, .int .u8 0, .int .u8 0, .int .u8 0, .int .u8 0, .int .u8 0, .int .u8 0, .int .u8 0, .int .u8 0, .int .u8 0, .int .u8 0, .int .u8 0, .int .u8 0, .int .u8 0, .int .u8 0, .int .u8 0, .int .u8 0, .int .u8 0, .int .u8 0], .slice none 0 0, .slice none 0 0, .slice none 0 0, .int .i64 0], []⟩ 8 (by kernel_rfl) (by kernel_rfl) (by kernel_rfl) (by kernel_rfl)) ?_
  intro W base args ds gs before hval0 hW _ _
  have hval : ∀ (j : Nat) t v, Try.f3.params[j]? = some t → args[j]? = some v → Value.okWide Try.prog W .any base t v := hval0
  have hlt : ∀ x ∈ before, x.block < W.heap.size := fun x hx => by simpa using hW.lt x hx
  have hW' := hW
  obtain ⟨p, q, hA0, hV, rfl, hfz, hnd⟩ := hW
  obtain ⟨rfl, rfl⟩ := trodVars_none hV
  have hA : DataW.TrodAll enc Try.prog W 0 (fun _ => true) true Try.f3.params.toList args.toList ds p := hA0
  rw [Try.params3] at hA hval
  obtain ⟨v0, v1, v2, v3, v4, v5, v6, v7, v8, d0, d1, d2, d3, d4, d5, d6, d7, d8, p0, p1, p2, p3, p4, p5, p6, p7, p8, rfl, rfl, rfl, h0, h1, h2, h3, h4, h5, h6, h7, h8⟩ := trodAll_nine hA
  obtain ⟨n, rfl, b0⟩ := openStr rStr (hval 0 9 v0 rfl rfl) h0
  obtain ⟨ver, rfl, _, _, b1⟩ := open_int rI64 (hval 1 3 v1 rfl rfl) h1
  obtain ⟨key, rfl, b2⟩ := openNat_u64 rU64 (hval 2 22 v2 rfl rfl) h2
  obtain ⟨a, rfl, b3⟩ := openHash Tr.uHash Tr.uByte (by kernel_rfl) (by kernel_rfl) (hval 3 24 v3 rfl rfl) h3
  obtain ⟨b, rfl, b4⟩ := openHash Tr.uHash Tr.uByte (by kernel_rfl) (by kernel_rfl) (hval 4 24 v4 rfl rfl) h4
  obtain ⟨raw, hraw⟩ := openItems (h := 24) (b := 5) Try.underlying25 Try.underlying35 (by kernel_rfl) rfl rfl Tr.uHash Tr.uByte (by kernel_rfl) (by kernel_rfl) (hval 5 25 v5 rfl rfl) h5 (fun x hx => hlt x (by simp [hx]))
  obtain ⟨l, hl⟩ := openU16s tU16s rU16 cU16 (hval 6 26 v6 rfl rfl) h6 (fun x hx => hlt x (by simp [hx]))
  obtain ⟨m, hm⟩ := openU16s tU16s rU16 cU16 (hval 7 26 v7 rfl rfl) h7 (fun x hx => hlt x (by simp [hx]))
  obtain ⟨i, rfl, _, _, b8⟩ := open_int rI64 (hval 8 3 v8 rfl rfl) h8
  refine (Tr.treeTells n ver key a b v5 v6 v7 _ _ _ _ _ _ raw l m i W b2 b3 b4 hraw hl hm).mono fun e W' ⟨he, hk⟩ => ?_
  subst he
  exact ⟨_, rfl, law_post (P := Try.prog) (f := Try.f3) rfl rfl rBool laidOut (by kernel_rfl) hW' rfl rfl rfl (hk.below (fun _ _ h => h))⟩

theorem treeTells_holds : Rows.TreeTellsSaid :=
  OpenClaim.holds_of_wide 3 Try.f3 rfl rfl rfl rfl rfl rfl rfl ⟨rfl, rfl, rfl, rfl, rfl⟩ rfl rfl rfl rfl rfl (by kernel_rfl) Try.func3 (by kernel_rfl)
    (of_decide_eq_true (by kernel_rfl)) (by unfold Func.isWrapper; first | (rw [if_pos (by decide +kernel)]; kernel_rfl) | (rw [if_neg (by decide +kernel)]; exact ⟨rfl, rfl⟩))
    (fun os started H enc _ => treeTells_lifted os started H enc)
end Go.Proofs.Ytalkkiliepaikaa
