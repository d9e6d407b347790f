/- postmarklaw11.known: true. -/
import Derived.Test.YtibkijloibnkfaaPmB11
import Derived.Test.YtibkijloibnkfaaNm7
namespace Go.Proofs.Ytibkijloibnkfaa
open Go.RowKit Go.Pm
namespace P11
set_option maxRecDepth 100000 in
set_option maxHeartbeats 4000000 in
theorem known (w : World) : Calls Try.prog 21 #[] w fun e w' => e = .returned (.bool true) ∧ Kept None w w' := by
  have e1 : makePrE (⟨#[97]⟩ : ByteArray).size 1 2 5 = 0 := by decide
  have e2 : makePrE (⟨#[97]⟩ : ByteArray).size 1 2 1152921504606846976 = 31 := by decide
  have hs : ∀ W, Calls Try.prog 27 #[.int .u64 5, entV ⟨#[97]⟩ 1 2, .int .i64 5] W fun e w' => e = .returned (.tuple #[(signPr 5 ⟨#[97]⟩ 1 2 5).V, .int .i64 0]) ∧ Kept None W w' := fun W => by
    have h := Pp.make 5 ⟨#[97]⟩ 1 2 5 W (by decide) (by decide)
    rw [e1, makePr_ok e1] at h
    exact h
  have hm : ∀ W, Calls Try.prog 27 #[.int .u64 5, entV ⟨#[97]⟩ 1 2, .int .i64 1152921504606846976] W fun e w' => e = .returned (.tuple #[.agg #[.string ⟨#[]⟩, .int .i64 0, .int .u64 0, .int .i64 0, .int .i64 0, .int .u64 0, .int .u64 0], .int .i64 31]) ∧ Kept None W w' := fun W => by
    have h := Pp.make 5 ⟨#[97]⟩ 1 2 1152921504606846976 W (by decide) (by decide)
    rw [e2, makePr_none e2 (by decide)] at h
    exact h
  have rt := signPr_right 5 e1
  have tk := taken_signPr 5 e1
  have hR := sigR_word 5 (msgPr ⟨#[97]⟩ 1 2 5 (5 + 40))
  have hS := sigS_word 5 (msgPr ⟨#[97]⟩ 1 2 5 (5 + 40))
  have ep : signPr 5 ⟨#[97]⟩ 1 2 5 = ⟨⟨#[97]⟩, 1, 2, 5, 45, sigR 5 (msgPr ⟨#[97]⟩ 1 2 5 (5 + 40)), sigS 5 (msgPr ⟨#[97]⟩ 1 2 5 (5 + 40))⟩ := rfl
  obtain ⟨R, eR⟩ : ∃ R, R = sigR 5 (msgPr ⟨#[97]⟩ 1 2 5 (5 + 40)) := ⟨_, rfl⟩
  obtain ⟨S, eS⟩ : ∃ S, S = sigS 5 (msgPr ⟨#[97]⟩ 1 2 5 (5 + 40)) := ⟨_, rfl⟩
  rw [← eR, ← eS] at ep
  rw [← eR] at hR
  rw [← eS] at hS
  rw [ep] at hs rt tk
  clear eR eS ep
  have hp := fun W => Pp.put ⟨#[97]⟩ 1 2 5 45 R S W (by decide) (by decide) hR hS
  have hb := read_putPr rt hR hS
  have eL : Prm.putL ⟨⟨#[97]⟩, 1, 2, 5, 45, R, S⟩ = Prm.put ⟨⟨#[97]⟩, 1, 2, 5, 45, R, S⟩ := by unfold Prm.putL; rw [if_pos rt]
  have eE : Prm.putE ⟨⟨#[97]⟩, 1, 2, 5, 45, R, S⟩ = 0 := by unfold Prm.putE; rw [if_pos rt]
  rw [eL, eE] at hp
  have hr := fun v lo hi W hv => Pp.read v lo hi (Prm.put ⟨⟨#[97]⟩, 1, 2, 5, 45, R, S⟩) W hv
  rw [hb.1, hb.2] at hr
  obtain ⟨T, hT⟩ : ∃ T, T = Prm.put ⟨⟨#[97]⟩, 1, 2, 5, 45, R, S⟩ := ⟨_, rfl⟩
  rw [← hT] at hp hr
  have hc : ∀ W, Calls Try.prog 28 #[.int .u64 (pubN 5 : Nat), prV ⟨#[97]⟩ 1 2 5 45 R S] W fun e w' => e = .returned (.bool true) ∧ Kept None W w' := fun W => by
    have h := Pp.check (pubN 5) ⟨#[97]⟩ 1 2 5 45 R S W (by decide) (by decide)
    rw [show (rightPr (⟨#[97]⟩ : ByteArray).size 1 2 5 45 && checkN (pubN 5) (msgPr ⟨#[97]⟩ 1 2 5 45) R S) = true from tk] at h
    exact h
  have hz : ∀ W, Calls Try.prog 44 #[.agg #[.string ⟨#[]⟩, .int .i64 0, .int .u64 0, .int .i64 0, .int .i64 0, .int .u64 0, .int .u64 0]] W fun e w' => e = .returned (.bool false) ∧ Kept None W w' := fun W => Pp.right ⟨#[]⟩ 0 0 0 0 0 0 W
  have H := hid (And.intro hs (And.intro hp (And.intro hr (And.intro hc (And.intro hm hz)))))
  clear hs hp hr hc hm hz hb eL eE hT rt tk hR hS e1 e2
  go_enter Try.func21, Try.ntmps21
  go_wp2_with fail
  refine (H.out.1 w).mono ?_
  rintro e w1 ⟨rfl, k1⟩
  have k2 : Kept None w (w1.alloc (.cells #[.string ⟨#[97]⟩, .int .i64 1, .int .u64 2, .int .i64 5, .int .i64 45, .int .u64 (R : Int), .int .u64 (S : Int)] 55)) := k1.alloc _
  have y2 : Blk (w1.alloc (.cells #[.string ⟨#[97]⟩, .int .i64 1, .int .u64 2, .int .i64 5, .int .i64 45, .int .u64 (R : Int), .int .u64 (S : Int)] 55)) w1.heap.size #[.string ⟨#[97]⟩, .int .i64 1, .int .u64 2, .int .i64 5, .int .i64 45, .int .u64 (R : Int), .int .u64 (S : Int)] 55 := Blk.new _ _ _
  clear k1
  go_wp2_with (first | (refine wpList_load_blk rfl _ _ rfl rfl y2 Pp.aPr ?_) | fail)
  refine (H.out.2.1 _).mono ?_
  rintro e w3 ⟨u, rfl, kn, bn⟩
  have k3 := k2.trans kn
  have y3 := y2.kept kn (fun h => h)
  have d3 := bn.bs (Nat.le_refl _)
  obtain ⟨aT, cT, rfl⟩ := bn.form
  clear k2 kn bn y2
  go_wp2_with fail
  refine (H.out.2.2.1 _ _ _ _ d3).mono ?_
  rintro e w4 ⟨rfl, kn⟩
  have k4 := k3.trans kn
  have k5 : Kept None w (w4.alloc (.cells #[.string ⟨#[97]⟩, .int .i64 1, .int .u64 2, .int .i64 5, .int .i64 45, .int .u64 (R : Int), .int .u64 (S : Int)] 55)) := k4.alloc _
  have z5 : Blk (w4.alloc (.cells #[.string ⟨#[97]⟩, .int .i64 1, .int .u64 2, .int .i64 5, .int .i64 45, .int .u64 (R : Int), .int .u64 (S : Int)] 55)) w4.heap.size #[.string ⟨#[97]⟩, .int .i64 1, .int .u64 2, .int .i64 5, .int .i64 45, .int .u64 (R : Int), .int .u64 (S : Int)] 55 := Blk.new _ _ _
  have y5 : Blk (w4.alloc (.cells #[.string ⟨#[97]⟩, .int .i64 1, .int .u64 2, .int .i64 5, .int .i64 45, .int .u64 (R : Int), .int .u64 (S : Int)] 55)) w1.heap.size #[.string ⟨#[97]⟩, .int .i64 1, .int .u64 2, .int .i64 5, .int .i64 45, .int .u64 (R : Int), .int .u64 (S : Int)] 55 := (y3.kept kn (fun h => h)).alloc _
  clear k3 k4 kn y3 d3
  go_wp2_with fail
  refine (H.out.2.2.2.2.1 _).mono ?_
  rintro e w6 ⟨rfl, kn⟩
  have k6 := k5.trans kn
  have k7 : Kept None w (w6.alloc (.cells #[.string ⟨#[]⟩, .int .i64 0, .int .u64 0, .int .i64 0, .int .i64 0, .int .u64 0, .int .u64 0] 55)) := k6.alloc _
  have z7 : Blk (w6.alloc (.cells #[.string ⟨#[]⟩, .int .i64 0, .int .u64 0, .int .i64 0, .int .i64 0, .int .u64 0, .int .u64 0] 55)) w4.heap.size #[.string ⟨#[97]⟩, .int .i64 1, .int .u64 2, .int .i64 5, .int .i64 45, .int .u64 (R : Int), .int .u64 (S : Int)] 55 := (z5.kept kn (fun h => h)).alloc _
  have y7 : Blk (w6.alloc (.cells #[.string ⟨#[]⟩, .int .i64 0, .int .u64 0, .int .i64 0, .int .i64 0, .int .u64 0, .int .u64 0] 55)) w1.heap.size #[.string ⟨#[97]⟩, .int .i64 1, .int .u64 2, .int .i64 5, .int .i64 45, .int .u64 (R : Int), .int .u64 (S : Int)] 55 := (y5.kept kn (fun h => h)).alloc _
  clear k5 kn z5 y5 k6
  go_wp2_with fail
  refine wp_nm ?_
  intro w8 e8
  rw [← e8] at k7 z7 y7
  clear e8
  have BG := hid y7
  have BH := hid z7
  have HC : Hid (∀ W, Kept None w8 W → W.cell? ⟨w1.heap.size, 4, none⟩ = some (.int .i64 45)) := hid (fun W hW => (BG.out.kept hW (fun h => h)).cell 4)
  clear y7 z7
  have hs : Steady [.val 21 (.int .u64 (pubN 5 : Nat)), .val 23 (.bool true) [21], .val 31 (.bool false)] := Go.Pm.Steady.val (Go.Pm.Steady.val (Go.Pm.Steady.val (Go.Pm.Steady.nil)))
  refine wp_region_kn w8 _ hs (Kept.refl _ _) (by kernel_rfl) (by kernel_rfl) (by kernel_rfl) ?_
  iterate 3 (refine wpPar_pure rfl (by rfl) _ (fun W hW => by
      have c4 := HC.out W hW
      go_simp
      exact rfl) ?_; simp only [Act.put, List.setIfInBounds_toArray, List.set_cons_zero, List.set_cons_succ])
  refine wpPar_pure rfl (by kernel_rfl) _ (fun W hW => by
      have c4 := HC.out W hW
      go_simp
      exact rfl) ?_; simp only [Act.put, List.setIfInBounds_toArray, List.set_cons_zero, List.set_cons_succ]
  refine wpPar_pure rfl (by kernel_rfl) _ (fun W hW => by first | exact exec_load_blk _ _ rfl rfl (BG.out.kept hW (fun h => h)) Pp.aPr | exact exec_load_blk _ _ rfl rfl (BH.out.kept hW (fun h => h)) Pp.aPr | (have c4 := HC.out W hW; go_simp; exact rfl)) ?_; simp only [Act.put, List.setIfInBounds_toArray, List.set_cons_zero, List.set_cons_succ]
  refine wpPar_pure rfl (by kernel_rfl) _ (fun W hW => by
      have c4 := HC.out W hW
      go_simp
      exact rfl) ?_; simp only [Act.put, List.setIfInBounds_toArray, List.set_cons_zero, List.set_cons_succ]
  iterate 2 (refine wpPar_pure rfl (by rfl) _ (fun W hW => by
      have c4 := HC.out W hW
      go_simp
      exact rfl) ?_; simp only [Act.put, List.setIfInBounds_toArray, List.set_cons_zero, List.set_cons_succ])
  refine wpPar_pure rfl (by kernel_rfl) _ (fun W hW => by
      have c4 := HC.out W hW
      go_simp
      exact rfl) ?_; simp only [Act.put, List.setIfInBounds_toArray, List.set_cons_zero, List.set_cons_succ]
  refine wpPar_pure rfl (by kernel_rfl) _ (fun W hW => by
      have c4 := HC.out W hW
      go_simp
      exact rfl) ?_; simp only [Act.put, List.setIfInBounds_toArray, List.set_cons_zero, List.set_cons_succ]
  iterate 2 (refine wpPar_pure rfl (by rfl) _ (fun W hW => by
      have c4 := HC.out W hW
      go_simp
      exact rfl) ?_; simp only [Act.put, List.setIfInBounds_toArray, List.set_cons_zero, List.set_cons_succ])
  refine wpPar_pure rfl (by kernel_rfl) _ (fun W hW => by
      have c4 := HC.out W hW
      go_simp
      exact rfl) ?_; simp only [Act.put, List.setIfInBounds_toArray, List.set_cons_zero, List.set_cons_succ]
  refine wpPar_pure rfl (by kernel_rfl) _ (fun W hW => by
      have c4 := HC.out W hW
      go_simp
      exact rfl) ?_; simp only [Act.put, List.setIfInBounds_toArray, List.set_cons_zero, List.set_cons_succ]
  iterate 2 (refine wpPar_pure rfl (by rfl) _ (fun W hW => by
      have c4 := HC.out W hW
      go_simp
      exact rfl) ?_; simp only [Act.put, List.setIfInBounds_toArray, List.set_cons_zero, List.set_cons_succ])
  refine wpPar_pure rfl (by kernel_rfl) _ (fun W hW => by first | exact exec_load_blk _ _ rfl rfl (BG.out.kept hW (fun h => h)) Pp.aPr | exact exec_load_blk _ _ rfl rfl (BH.out.kept hW (fun h => h)) Pp.aPr | (have c4 := HC.out W hW; go_simp; exact rfl)) ?_; simp only [Act.put, List.setIfInBounds_toArray, List.set_cons_zero, List.set_cons_succ]
  refine wpPar_pure rfl (by kernel_rfl) _ (fun W hW => by first | exact exec_load_blk _ _ rfl rfl (BG.out.kept hW (fun h => h)) Pp.aPr | exact exec_load_blk _ _ rfl rfl (BH.out.kept hW (fun h => h)) Pp.aPr | (have c4 := HC.out W hW; go_simp; exact rfl)) ?_; simp only [Act.put, List.setIfInBounds_toArray, List.set_cons_zero, List.set_cons_succ]
  refine wpPar_pure rfl (by kernel_rfl) _ (fun W hW => by
      have c4 := HC.out W hW
      go_simp
      exact rfl) ?_; simp only [Act.put, List.setIfInBounds_toArray, List.set_cons_zero, List.set_cons_succ]
  iterate 2 (refine wpPar_pure rfl (by rfl) _ (fun W hW => by
      have c4 := HC.out W hW
      go_simp
      exact rfl) ?_; simp only [Act.put, List.setIfInBounds_toArray, List.set_cons_zero, List.set_cons_succ])
  refine wpKn_adds hs rfl (by kernel_rfl) (fun W hW hd => ?_) (fun v21 hv => ?_)
  · unfold Gives
    go_simp
    refine gives_call (Ref.pub 5 W) ?_
    rintro e w3 ⟨rfl, k3⟩
    exact ⟨_, rfl, k3, rfl, trivial⟩
  obtain rfl : v21 = .int .u64 (pubN 5 : Nat) := hv
  simp only [Act.put, List.setIfInBounds_toArray, List.set_cons_zero, List.set_cons_succ]
  refine wpPar_pure rfl (by kernel_rfl) _ (fun W hW => by first | exact exec_load_blk _ _ rfl rfl (BG.out.kept hW (fun h => h)) Pp.aPr | exact exec_load_blk _ _ rfl rfl (BH.out.kept hW (fun h => h)) Pp.aPr | (have c4 := HC.out W hW; go_simp; exact rfl)) ?_; simp only [Act.put, List.setIfInBounds_toArray, List.set_cons_zero, List.set_cons_succ]
  refine wpKn_adds hs rfl (by kernel_rfl) (fun W hW hd => ?_) (fun v23 hv => ?_)
  · unfold Gives
    go_simp
    refine gives_call (H.out.2.2.2.1 W) ?_
    rintro e w3 ⟨rfl, k3⟩
    exact ⟨_, rfl, k3, rfl, trivial⟩
  obtain rfl : v23 = .bool true := hv
  simp only [Act.put, List.setIfInBounds_toArray, List.set_cons_zero, List.set_cons_succ]
  iterate 2 (refine wpPar_pure rfl (by rfl) _ (fun W hW => by
      have c4 := HC.out W hW
      go_simp
      exact rfl) ?_; simp only [Act.put, List.setIfInBounds_toArray, List.set_cons_zero, List.set_cons_succ])
  refine wpPar_pure rfl (by kernel_rfl) _ (fun W hW => by
      have c4 := HC.out W hW
      go_simp
      exact rfl) ?_; simp only [Act.put, List.setIfInBounds_toArray, List.set_cons_zero, List.set_cons_succ]
  refine wpPar_pure rfl (by kernel_rfl) _ (fun W hW => by
      have c4 := HC.out W hW
      go_simp
      exact rfl) ?_; simp only [Act.put, List.setIfInBounds_toArray, List.set_cons_zero, List.set_cons_succ]
  iterate 2 (refine wpPar_pure rfl (by rfl) _ (fun W hW => by
      have c4 := HC.out W hW
      go_simp
      exact rfl) ?_; simp only [Act.put, List.setIfInBounds_toArray, List.set_cons_zero, List.set_cons_succ])
  refine wpPar_pure rfl (by kernel_rfl) _ (fun W hW => by
      have c4 := HC.out W hW
      go_simp
      exact rfl) ?_; simp only [Act.put, List.setIfInBounds_toArray, List.set_cons_zero, List.set_cons_succ]
  refine wpKn_adds hs rfl (by kernel_rfl) (fun W hW hd => ?_) (fun v31 hv => ?_)
  · unfold Gives
    go_simp
    refine gives_call (H.out.2.2.2.2.2 W) ?_
    rintro e w3 ⟨rfl, k3⟩
    exact ⟨_, rfl, k3, rfl, trivial⟩
  obtain rfl : v31 = .bool false := hv
  simp only [Act.put, List.setIfInBounds_toArray, List.set_cons_zero, List.set_cons_succ]
  refine wpPar_pure rfl (by kernel_rfl) _ (fun W hW => by
      have c4 := HC.out W hW
      go_simp
      exact rfl) ?_; simp only [Act.put, List.setIfInBounds_toArray, List.set_cons_zero, List.set_cons_succ]
  iterate 2 (refine wpPar_pure rfl (by rfl) _ (fun W hW => by
      have c4 := HC.out W hW
      go_simp
      exact rfl) ?_; simp only [Act.put, List.setIfInBounds_toArray, List.set_cons_zero, List.set_cons_succ])
  refine wpPar_nil (fun W hW hG => ?_)
  have kW := k7.trans hW
  clear hG hs hW
  go_wp2
  go_ret
  exact ⟨rfl, kW⟩
end P11
end Go.Proofs.Ytibkijloibnkfaa
