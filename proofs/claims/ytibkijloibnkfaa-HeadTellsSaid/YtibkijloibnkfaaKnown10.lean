/- postmarklaw10.known: true. -/
import Derived.Test.YtibkijloibnkfaaHdBuild10
namespace Go.Proofs.Ytibkijloibnkfaa
open Go.RowKit Go.Pm
namespace H10
open Hp (aHd aHd')
set_option maxRecDepth 100000 in
set_option maxHeartbeats 4000000 in
theorem known (w : World) : Calls Try.prog 6 #[] w fun e w' => e = .returned (.bool true) ∧ Kept None w w' := by
  have ok1 := signHd_ok 5 ok123
  have r1 : rightHd (signHd 5 hd123) = true := (signHd_right 5 hd123).trans right123
  have t5 : takenHd (pubN 5) (signHd 5 hd123) = true := (taken_sign 5 hd123).trans right123
  have t6 := taken123
  have hs : ∀ W, Calls Try.prog 16 #[.int .u64 5, hdV hd123] W fun e w' => e = .returned (hdV (signHd 5 hd123)) ∧ Kept None W w' := fun W => Hp.sign 5 hd123 W ok123
  obtain ⟨h, hh⟩ : ∃ h, h = signHd 5 hd123 := ⟨_, rfl⟩
  rw [← hh] at hs ok1 r1 t5 t6
  have hp := fun W => Hp.put h W ok1
  rw [show putHdE h = 0 by unfold putHdE; rw [r1]; rfl, show putHdL h = putHd h by unfold putHdL; rw [r1]; rfl] at hp
  have hl := putHd_len ok1
  have hb := read_putHd ok1 r1
  have hr := fun v lo hi W hv => Hp.read v lo hi (putHd h) W hv
  rw [hb.1, hb.2] at hr
  obtain ⟨T, hT⟩ : ∃ T, T = putHd h := ⟨_, rfl⟩
  rw [← hT] at hp hl hr
  have hz := fun W => Hp.put zeroHd W zeroHd_ok
  rw [show putHdE zeroHd = 23 from rfl, show putHdL zeroHd = [] from rfl] at hz
  have hc5 := fun W => Hp.check (pubN 5) h W ok1
  have hc6 := fun W => Hp.check (pubN 6) h W ok1
  rw [t5] at hc5
  rw [t6] at hc6
  have heq := fun W => Hp.eqHead h h ok1 ok1 W
  rw [decide_eq_true (rfl : h = h)] at heq
  have aX := aHd' ok1
  have oX := hdC_one h
  have sX := (hdC_size ok1).symm
  simp only [hdV] at hs hp hr hc5 hc6
  obtain ⟨X, hX⟩ : ∃ X, X = (hdC h).toArray := ⟨_, rfl⟩
  rw [← hX] at hs hp hr hc5 hc6 heq aX oX sX
  have HH := hid (And.intro hs (And.intro hc5 hc6))
  have HP := hid (And.intro hp (And.intro hr hz))
  have EQ := hid heq
  have HX := hid (And.intro oX (And.intro sX hl))
  clear hs hp hr hz hc5 hc6 heq oX sX hl hb hT t5 t6 r1 ok1 hh hX
  obtain ⟨n105, hn⟩ : ∃ n, n = 105 := ⟨_, rfl⟩
  go_enter Try.func6, Try.ntmps6
  go_wp2_with fail
  refine (HH.out.1 w).mono ?_
  rintro e w1 ⟨rfl, k1⟩
  obtain ⟨y, hy, y1⟩ := Blk.any (n := 69) (Blk.new w1 Try.zeroCells28 28) (by rfl)
  have k2 : Kept None w (w1.alloc (.cells Try.zeroCells28 28)) := k1.alloc _
  have EY := hid (hy.trans HX.out.2.1)
  clear hy
  have s1 := k1.size
  clear k1
  go_wp2_with (first | (refine wpList_store_blk rfl _ _ _ rfl rfl rfl y1 aX EY.out HX.out.1 ?_; intro w2 y2 k12) | (refine wpList_load_blk rfl _ _ rfl rfl y2 aX ?_) | fail)
  have k3 : Kept None w w2 := k2.then k12 (fun i hi (h : i = w1.heap.size) => by omega)
  clear k2 y1 k12
  refine (HP.out.1 w2).mono ?_
  rintro e w3 ⟨u, rfl, kn, bn⟩
  have k4 := k3.trans kn
  have y3 := y2.kept kn (fun h => h)
  have d3 := bn.bs (Nat.le_refl _)
  obtain ⟨aT, cT, rfl⟩ := bn.form
  clear k3 kn bn y2
  go_wp2_with fail
  refine (HP.out.2.1 _ _ _ _ d3).mono ?_
  rintro e w4 ⟨rfl, kn⟩
  have k5 := k4.trans kn
  have y4 := y3.kept kn (fun h => h)
  obtain ⟨z, hz, z1⟩ := Blk.any (n := 69) (Blk.new w4 Try.zeroCells28 28) (by rfl)
  have k6 : Kept None w (w4.alloc (.cells Try.zeroCells28 28)) := k5.alloc _
  have y5 : Blk (w4.alloc (.cells Try.zeroCells28 28)) w1.heap.size X 28 := y4.alloc _
  have EZ := hid (hz.trans HX.out.2.1)
  have s4 := y4.lt
  have s5 := k5.size
  clear hz k4 k5 y3 y4 kn d3
  go_wp2_with (first | (refine wpList_store_blk rfl _ _ _ rfl rfl rfl z1 aX EZ.out HX.out.1 ?_; intro w5 z2 k45) | fail)
  have k7 : Kept None w w5 := k6.then k45 (fun i hi (h : i = w4.heap.size) => by omega)
  have y6 := y5.kept k45 (fun (h : w1.heap.size = w4.heap.size) => by omega)
  clear k6 y5 k45 z1
  refine (HP.out.2.2 w5).mono ?_
  rintro e w6 ⟨u, rfl, kn, bn⟩
  have k8 := k7.trans kn
  have BH := hid (y6.kept kn (fun h => h))
  have BG := hid (z2.kept kn (fun h => h))
  obtain ⟨a6, c6, rfl⟩ := bn.form
  have hl := HX.out.2.2
  rw [hl]
  clear k7 kn bn y6 z2
  go_wp2_with fail
  refine wp_nm ?_
  intro w8 e8
  rw [← e8] at k8 BH BG
  clear e8
  have hs : Steady [.val 17 (.int .u64 (pubN 5 : Nat)), .val 19 (.bool true) [17], .val 22 (.int .u64 (pubN 6 : Nat)), .val 24 (.bool false) [22]] := Go.Pm.Steady.val (Go.Pm.Steady.val (Go.Pm.Steady.val (Go.Pm.Steady.val (Go.Pm.Steady.nil))))
  refine wp_region_kn w8 _ hs (Kept.refl _ _) (by kernel_rfl) (by kernel_rfl) (by kernel_rfl) ?_
  iterate 3 (refine wpPar_pure rfl (by rfl) _ (fun W hW => by
      go_simp
      exact rfl) ?_; simp only [Act.put, List.setIfInBounds_toArray, List.set_cons_zero, List.set_cons_succ])
  refine wpPar_pure rfl (by kernel_rfl) _ (fun W hW => by
      go_simp
      exact rfl) ?_; simp only [Act.put, List.setIfInBounds_toArray, List.set_cons_zero, List.set_cons_succ]
  refine wpPar_pure rfl (by kernel_rfl) _ (fun W hW => by
      go_simp
      exact rfl) ?_; simp only [Act.put, List.setIfInBounds_toArray, List.set_cons_zero, List.set_cons_succ]
  iterate 2 (refine wpPar_pure rfl (by rfl) _ (fun W hW => by
      go_simp
      exact rfl) ?_; simp only [Act.put, List.setIfInBounds_toArray, List.set_cons_zero, List.set_cons_succ])
  refine wpPar_pure rfl (by kernel_rfl) _ (fun W hW => by first | exact exec_load_blk _ _ rfl rfl (BG.out.kept hW (fun h => h)) aX | exact exec_load_blk _ _ rfl rfl (BH.out.kept hW (fun h => h)) aX | (go_simp; exact rfl)) ?_; simp only [Act.put, List.setIfInBounds_toArray, List.set_cons_zero, List.set_cons_succ]
  refine wpPar_pure rfl (by kernel_rfl) _ (fun W hW => by first | exact exec_load_blk _ _ rfl rfl (BG.out.kept hW (fun h => h)) aX | exact exec_load_blk _ _ rfl rfl (BH.out.kept hW (fun h => h)) aX | (go_simp; exact rfl)) ?_; simp only [Act.put, List.setIfInBounds_toArray, List.set_cons_zero, List.set_cons_succ]
  refine wpPar_pure rfl (by kernel_rfl) (.bool true) (fun W hW => by have eq := EQ.out; go_simp) ?_; simp only [Act.put, List.setIfInBounds_toArray, List.set_cons_zero, List.set_cons_succ]
  iterate 2 (refine wpPar_pure rfl (by rfl) _ (fun W hW => by
      go_simp
      exact rfl) ?_; simp only [Act.put, List.setIfInBounds_toArray, List.set_cons_zero, List.set_cons_succ])
  refine wpPar_pure rfl (by kernel_rfl) _ (fun W hW => by
      go_simp
      exact rfl) ?_; simp only [Act.put, List.setIfInBounds_toArray, List.set_cons_zero, List.set_cons_succ]
  refine wpPar_pure rfl (by kernel_rfl) _ (fun W hW => by
      go_simp
      exact rfl) ?_; simp only [Act.put, List.setIfInBounds_toArray, List.set_cons_zero, List.set_cons_succ]
  refine wpPar_pure rfl (by kernel_rfl) _ (fun W hW => by
      go_simp
      exact rfl) ?_; simp only [Act.put, List.setIfInBounds_toArray, List.set_cons_zero, List.set_cons_succ]
  iterate 2 (refine wpPar_pure rfl (by rfl) _ (fun W hW => by
      go_simp
      exact rfl) ?_; simp only [Act.put, List.setIfInBounds_toArray, List.set_cons_zero, List.set_cons_succ])
  refine wpKn_adds hs rfl (by kernel_rfl) (fun W hW hd => ?_) (fun v17 hv => ?_)
  · unfold Gives
    go_simp
    refine gives_call (Ref.pub 5 W) ?_
    rintro e w3 ⟨rfl, k3⟩
    exact ⟨_, rfl, k3, rfl, trivial⟩
  obtain rfl : v17 = .int .u64 (pubN 5 : Nat) := hv
  simp only [Act.put, List.setIfInBounds_toArray, List.set_cons_zero, List.set_cons_succ]
  refine wpPar_pure rfl (by kernel_rfl) _ (fun W hW => by first | exact exec_load_blk _ _ rfl rfl (BG.out.kept hW (fun h => h)) aX | exact exec_load_blk _ _ rfl rfl (BH.out.kept hW (fun h => h)) aX | (go_simp; exact rfl)) ?_; simp only [Act.put, List.setIfInBounds_toArray, List.set_cons_zero, List.set_cons_succ]
  refine wpKn_adds hs rfl (by kernel_rfl) (fun W hW hd => ?_) (fun v19 hv => ?_)
  · unfold Gives
    go_simp
    refine gives_call (HH.out.2.1 W) ?_
    rintro e w3 ⟨rfl, k3⟩
    exact ⟨_, rfl, k3, rfl, trivial⟩
  obtain rfl : v19 = .bool true := hv
  simp only [Act.put, List.setIfInBounds_toArray, List.set_cons_zero, List.set_cons_succ]
  iterate 2 (refine wpPar_pure rfl (by rfl) _ (fun W hW => by
      go_simp
      exact rfl) ?_; simp only [Act.put, List.setIfInBounds_toArray, List.set_cons_zero, List.set_cons_succ])
  refine wpKn_adds hs rfl (by kernel_rfl) (fun W hW hd => ?_) (fun v22 hv => ?_)
  · unfold Gives
    go_simp
    refine gives_call (Ref.pub 6 W) ?_
    rintro e w3 ⟨rfl, k3⟩
    exact ⟨_, rfl, k3, rfl, trivial⟩
  obtain rfl : v22 = .int .u64 (pubN 6 : Nat) := hv
  simp only [Act.put, List.setIfInBounds_toArray, List.set_cons_zero, List.set_cons_succ]
  refine wpPar_pure rfl (by kernel_rfl) _ (fun W hW => by first | exact exec_load_blk _ _ rfl rfl (BG.out.kept hW (fun h => h)) aX | exact exec_load_blk _ _ rfl rfl (BH.out.kept hW (fun h => h)) aX | (go_simp; exact rfl)) ?_; simp only [Act.put, List.setIfInBounds_toArray, List.set_cons_zero, List.set_cons_succ]
  refine wpKn_adds hs rfl (by kernel_rfl) (fun W hW hd => ?_) (fun v24 hv => ?_)
  · unfold Gives
    go_simp
    refine gives_call (HH.out.2.2 W) ?_
    rintro e w3 ⟨rfl, k3⟩
    exact ⟨_, rfl, k3, rfl, trivial⟩
  obtain rfl : v24 = .bool false := hv
  simp only [Act.put, List.setIfInBounds_toArray, List.set_cons_zero, List.set_cons_succ]
  refine wpPar_pure rfl (by kernel_rfl) _ (fun W hW => by
      go_simp
      exact rfl) ?_; simp only [Act.put, List.setIfInBounds_toArray, List.set_cons_zero, List.set_cons_succ]
  iterate 2 (refine wpPar_pure rfl (by rfl) _ (fun W hW => by
      go_simp
      exact rfl) ?_; simp only [Act.put, List.setIfInBounds_toArray, List.set_cons_zero, List.set_cons_succ])
  refine wpPar_pure rfl (by kernel_rfl) _ (fun W hW => by
      go_simp
      exact rfl) ?_; simp only [Act.put, List.setIfInBounds_toArray, List.set_cons_zero, List.set_cons_succ]
  refine wpPar_pure rfl (by kernel_rfl) _ (fun W hW => by
      go_simp
      exact rfl) ?_; simp only [Act.put, List.setIfInBounds_toArray, List.set_cons_zero, List.set_cons_succ]
  iterate 2 (refine wpPar_pure rfl (by rfl) _ (fun W hW => by
      go_simp
      exact rfl) ?_; simp only [Act.put, List.setIfInBounds_toArray, List.set_cons_zero, List.set_cons_succ])
  refine wpPar_nil (fun W hW hG => ?_)
  have kW := k8.trans hW
  clear hG hs hW
  go_wp2
  go_ret
  exact ⟨rfl, kW⟩
end H10
end Go.Proofs.Ytibkijloibnkfaa
