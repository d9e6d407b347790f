/- Rows.BinBackSaid: what package bin puts together (numbers and lumps) comes back from its Reader part by part; whatever the parts. No condition. -/
import Derived.Test.YtjadlhpheagkfaaRows
import Derived.Test.YtjadlhpheagkfaaBack1
import Derived.Test.YtjadlhpheagkfaaRow
namespace Go.Proofs.Ytjadlhpheagkfaa
open Go.ChangeShapes Go.WideShapes Go.ChangeAt Go.RowKit Go.Pm

theorem laidOut : laidOutB Try.prog = true := by kernel_rfl
theorem ownKnobs : ownKnob Try.prog.godebug = none := by kernel_rfl
theorem cByte : Try.prog.cellsOf 5 = 1 := by kernel_rfl
theorem tBytess : Try.prog.underlying 24 = some (.slice 22) := by kernel_rfl
theorem cBytes : Try.prog.cellsOf 22 = 1 := by kernel_rfl
theorem tNums : Try.prog.underlying 43 = some (.slice 23) := by kernel_rfl
theorem tNum : Try.prog.underlying 23 = some (.int .u64) := by kernel_rfl
theorem cNum : Try.prog.cellsOf 23 = 1 := by kernel_rfl
theorem tBool : Try.prog.underlying 4 = some .bool := by kernel_rfl

set_option maxRecDepth 100000 in
theorem binBack_lifted (os : Os) (started : os.Started) (H : Type) (enc : TypeId × Value → H) :
    ReturnsInHanded {} Try.checked os 4 .any (Rows.binBackSpec.pre6 enc Try.prog Try.f4 Rows.binBackRow.domain false) (Rows.binBackSpec.post enc Try.prog Try.f4 false true false false) := by
  refine returnsInHanded_of_change (C := Try.checked) ownKnobs started (by kernel_rfl) Try.func4
    (ChangeSpec.witness6 (enc := enc) (C := Try.checked) false ⟨#[], #[.slice none 0 0, .slice none 0 0], []⟩ 8 (by kernel_rfl) (by kernel_rfl) (by kernel_rfl) (by kernel_rfl)) ?_
  intro W base args ds gs before hval0 hW _ _
  have hval : ∀ (j : Nat) t v, Try.f4.params[j]? = some t → args[j]? = some v → Value.okWide Try.prog W .any base t v := hval0
  have hlt : ∀ x ∈ before, x.block < W.heap.size := fun x hx => by simpa using hW.lt x hx
  have hW' := hW
  obtain ⟨p, q, hA0, hV, rfl, hfz, hnd⟩ := hW
  obtain ⟨rfl, rfl⟩ := trodVars_none hV
  have hA : DataW.TrodAll enc Try.prog W 0 (fun _ => true) true Try.f4.params.toList args.toList ds p := hA0
  rw [Try.params4] at hA hval
  obtain ⟨v0, v1, d0, d1, p0, p1, rfl, rfl, rfl, h0, h1⟩ := trodAll_two hA
  obtain ⟨ls, hl⟩ := openBss tBytess tBytes' tByte cByte cBytes (hval 0 24 v0 rfl rfl) h0 (fun x hx => hlt x (by simp [hx]))
  obtain ⟨ns, hn⟩ := openNs tNums tNum cNum (hval 1 43 v1 rfl rfl) h1 (fun x hx => hlt x (by simp [hx]))
  refine (binBack v0 v1 _ _ _ _ _ _ ls ns W hl hn (Nat.le_refl _) (Nat.le_refl _) (Nat.le_refl _)).mono fun e W' ⟨he, hk⟩ => ?_
  subst he
  exact ⟨_, rfl, law_post (P := Try.prog) (f := Try.f4) rfl rfl tBool laidOut (by kernel_rfl) hW' rfl rfl rfl (hk.below (fun _ _ h => h))⟩

theorem binBack_holds : Rows.BinBackSaid :=
  OpenClaim.holds_of_wide 4 Try.f4 rfl rfl rfl rfl rfl rfl rfl ⟨rfl, rfl, rfl, rfl, rfl⟩ rfl rfl rfl rfl rfl (by kernel_rfl) Try.func4 (by kernel_rfl)
    (of_decide_eq_true (by kernel_rfl)) (by unfold Func.isWrapper; first | (rw [if_pos (by decide +kernel)]; kernel_rfl) | (rw [if_neg (by decide +kernel)]; exact ⟨rfl, rfl⟩))
    (fun os started H enc _ => binBack_lifted os started H enc)
end Go.Proofs.Ytjadlhpheagkfaa
