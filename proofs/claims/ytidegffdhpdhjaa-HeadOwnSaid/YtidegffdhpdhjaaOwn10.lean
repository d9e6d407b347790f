/- postmarklaw10.HeadOwn: true. -/
import Derived.Test.YtidegffdhpdhjaaKnown10
namespace Go.Proofs.Ytidegffdhpdhjaa
open Go.RowKit Go.Pm
namespace H10
open Hp (aHd aHd')
set_option maxRecDepth 100000 in
set_option maxHeartbeats 4000000 in
theorem own (x y ep tk ct : Nat) (root log : List UInt8) (w : World) (hep : ep < 65536) (htk : tk < 4294967296) (hct : ct < 256) (hr : root.length = 32) (hl : log.length = 32) :
    Calls Try.prog 5 #[.int .u64 x, .int .u64 y, .int .u16 ep, .int .u32 tk, .int .u8 ct, hashV root, hashV log] w fun e w' => e = .returned (.bool true) ∧ Kept None w w' := by
  obtain ⟨R, hR⟩ : ∃ R, R = (root.map u8v).toArray := ⟨_, rfl⟩
  obtain ⟨L, hL⟩ : ∃ L, L = (log.map u8v).toArray := ⟨_, rfl⟩
  have aR : AggTy Try.prog 23 R.size := by rw [hR]; exact Hk.aH32 hr
  have aL : AggTy Try.prog 23 L.size := by rw [hL]; exact Hk.aH32 hl
  have hbd := fun w => Hp.build5 w ((ep : Int) + 1) (tk : Int) ((ct : Int) % 8 + 1) root log hr hl
  have ok0 : Hd.Ok ⟨(ep : Int) + 1, (tk : Int), (ct : Int) % 8 + 1, root, log, 0, 0⟩ := ⟨hr, hl, zeroHd_ok.2.2⟩
  have rt0 : rightHd ⟨(ep : Int) + 1, (tk : Int), (ct : Int) % 8 + 1, root, log, 0, 0⟩ = true := by
    rw [rightHd_iff]
    show 1 ≤ (ep : Int) + 1 ∧ (ep : Int) + 1 ≤ 1073741824 ∧ 0 ≤ (tk : Int) ∧ (tk : Int) ≤ 1152921504606846976 ∧ 1 ≤ (ct : Int) % 8 + 1 ∧ (ct : Int) % 8 + 1 ≤ 8
    omega
  obtain ⟨h0, hh0⟩ : ∃ h0 : Hd, h0 = ⟨(ep : Int) + 1, (tk : Int), (ct : Int) % 8 + 1, root, log, 0, 0⟩ := ⟨_, rfl⟩
  rw [← hh0] at hbd ok0 rt0
  have ok1 := signHd_ok x ok0
  have r1 : rightHd (signHd x h0) = true := (signHd_right x h0).trans rt0
  have t1 : takenHd (pubN x) (signHd x h0) = true := (taken_sign x h0).trans rt0
  have hs : ∀ W, Calls Try.prog 18 #[.int .u64 x, hdV h0] W fun e w' => e = .returned (hdV (signHd x h0)) ∧ Kept None W w' := fun W => Hp.sign x h0 W ok0
  obtain ⟨h, hh⟩ : ∃ h, h = signHd x h0 := ⟨_, rfl⟩
  rw [← hh] at hs ok1 r1 t1
  have hp := fun W => Hp.put h W ok1
  rw [show putHdE h = 0 by unfold putHdE; rw [r1]; rfl, show putHdL h = putHd h by unfold putHdL; rw [r1]; rfl] at hp
  have hb := read_putHd ok1 r1
  have hrd := fun v lo hi W hv => Hp.read v lo hi (putHd h) W hv
  rw [hb.1, hb.2] at hrd
  obtain ⟨T, hT⟩ : ∃ T, T = putHd h := ⟨_, rfl⟩
  rw [← hT] at hp hrd
  have hcx := fun W => Hp.check (pubN x) h W ok1
  rw [t1] at hcx
  have hcy := fun W => Hp.check (pubN y) h W ok1
  have hry := fun W => RHp.check (pubN y) h W ok1
  obtain ⟨q, hq⟩ : ∃ q, q = takenHd (pubN y) h := ⟨_, rfl⟩
  rw [← hq] at hcy hry
  have heq := fun W => Hp.eqHead h h ok1 ok1 W
  rw [decide_eq_true (rfl : h = h)] at heq
  have aX := aHd' ok1
  have oX := hdC_one h
  have sX := (hdC_size ok1).symm
  simp only [hdV] at hs hp hrd hcx hcy hry hbd
  obtain ⟨X, hX⟩ : ∃ X, X = (hdC h).toArray := ⟨_, rfl⟩
  rw [← hX] at hs hp hrd hcx hcy hry heq aX oX sX
  simp only [hashV] at hbd ⊢
  rw [← hR, ← hL] at hbd ⊢
  have HB := hid hbd
  have HH := hid (And.intro hs (And.intro hp (And.intro hrd (And.intro hcx (And.intro hcy hry)))))
  have EQ := hid heq
  have HX := hid (And.intro oX sX)
  clear hbd hR hL hr hl ok0 rt0 hh0 ok1 r1 t1 hs hh hp hb hrd hT hcx hcy hry hq heq oX sX hX
  have k1 : Kept None w ((w.alloc (.cells R 23)).alloc (.cells L 23)) := ((Kept.refl _ _).alloc _).alloc _
  have r1 : Blk ((w.alloc (.cells R 23)).alloc (.cells L 23)) w.heap.size R 23 := (Blk.new w _ _).alloc _
  have l1 : Blk ((w.alloc (.cells R 23)).alloc (.cells L 23)) (w.heap.size + 1) L 23 := Blk.new2 w _ _ _
  go_enter Try.func5, Try.ntmps5
  go_wp2_with fail
  refine Calls.nm ?_
  intro w1 e1
  rw [← e1] at k1 r1 l1
  clear e1
  refine (known w1).mono ?_
  rintro e w2 ⟨rfl, kn⟩
  have k2 := k1.trans kn
  have r2 := r1.kept kn (fun h => h)
  have l2 := l1.kept kn (fun h => h)
  clear k1 r1 l1 kn
  go_wp2_with (first | (refine wpList_load_blk rfl _ _ rfl rfl r2 aR ?_) | (refine wpList_load_blk rfl _ _ rfl rfl l2 aL ?_; refine wpList_build_five rfl rfl rfl rfl rfl rfl rfl (HB.out _) ?_) | fail)
  refine (HH.out.1 w2).mono ?_
  rintro e w3 ⟨rfl, kn⟩
  have k3 := k2.trans kn
  obtain ⟨y0, hy, y1⟩ := Blk.any (n := 69) (Blk.new w3 Try.zeroCells28 28) (by rfl)
  have k4 : Kept None w (w3.alloc (.cells Try.zeroCells28 28)) := k3.alloc _
  have EY := hid (hy.trans HX.out.2)
  have s1 := k3.size
  clear hy k2 k3 kn r2 l2
  go_wp2_with (first | (refine wpList_store_blk rfl _ _ _ rfl rfl rfl y1 aX EY.out HX.out.1 ?_; intro w4 y4 k12) | (refine wpList_load_blk rfl _ _ rfl rfl y4 aX ?_) | fail)
  have k5 : Kept None w w4 := k4.then k12 (fun i hi (h : i = w3.heap.size) => by omega)
  clear k4 y1 k12
  refine (HH.out.2.1 w4).mono ?_
  rintro e w5 ⟨u, rfl, kn, bn⟩
  have k6 := k5.trans kn
  have y5 := y4.kept kn (fun h => h)
  have d5 := bn.bs (Nat.le_refl _)
  obtain ⟨aT, cT, rfl⟩ := bn.form
  clear k5 kn bn y4
  go_wp2_with fail
  refine (HH.out.2.2.1 _ _ _ _ d5).mono ?_
  rintro e w6 ⟨rfl, kn⟩
  have k7 := k6.trans kn
  have y6 := y5.kept kn (fun h => h)
  obtain ⟨z, hz, z1⟩ := Blk.any (n := 69) (Blk.new w6 Try.zeroCells28 28) (by rfl)
  have k8 : Kept None w (w6.alloc (.cells Try.zeroCells28 28)) := k7.alloc _
  have y7 : Blk (w6.alloc (.cells Try.zeroCells28 28)) w3.heap.size X 28 := y6.alloc _
  have EZ := hid (hz.trans HX.out.2)
  have s4 := y6.lt
  have s5 := k7.size
  clear hz k6 k7 y5 y6 kn d5
  go_wp2_with (first | (refine wpList_store_blk rfl _ _ _ rfl rfl rfl z1 aX EZ.out HX.out.1 ?_; intro w7 z2 k45) | fail)
  have k9 : Kept None w w7 := k8.then k45 (fun i hi (h : i = w6.heap.size) => by omega)
  have y8 := y7.kept k45 (fun (h : w3.heap.size = w6.heap.size) => by omega)
  clear k8 y7 k45 z1
  refine (Ref.pub y w7).mono ?_
  rintro e w8 ⟨rfl, kn⟩
  have k10 := k9.trans kn
  have BH := hid (y8.kept kn (fun h => h))
  have BG := hid (z2.kept kn (fun h => h))
  clear k9 y8 z2 kn
  go_wp2_with fail
  have hs : Steady [.val 13 (.int .u64 (pubN x : Nat)), .val 15 (.bool true) [13], .val 20 (.bool q), .val 23 (.bool q)] := Go.Pm.Steady.val (Go.Pm.Steady.val (Go.Pm.Steady.val (Go.Pm.Steady.val (Go.Pm.Steady.nil))))
  refine wp_region_kn w8 _ hs (Kept.refl _ _) (by kernel_rfl) (by kernel_rfl) (by kernel_rfl) ?_
  iterate 3 (refine wpPar_pure rfl (by rfl) _ (fun W hW => by
      go_simp
      exact rfl) ?_; simp only [Act.put, List.setIfInBounds_toArray, List.set_cons_zero, List.set_cons_succ])
  refine wpPar_pure rfl (by kernel_rfl) _ (fun W hW => by
      go_simp
      exact rfl) ?_; simp only [Act.put, List.setIfInBounds_toArray, List.set_cons_zero, List.set_cons_succ]
  refine wpPar_pure rfl (by kernel_rfl) _ (fun W hW => by
      go_simp
      exact rfl) ?_; simp only [Act.put, List.setIfInBounds_toArray, List.set_cons_zero, List.set_cons_succ]
  iterate 2 (refine wpPar_pure rfl (by rfl) _ (fun W hW => by
      go_simp
      exact rfl) ?_; simp only [Act.put, List.setIfInBounds_toArray, List.set_cons_zero, List.set_cons_succ])
  refine wpPar_pure rfl (by kernel_rfl) _ (fun W hW => by first | exact exec_load_blk _ _ rfl rfl (BG.out.kept hW (fun h => h)) aX | exact exec_load_blk _ _ rfl rfl (BH.out.kept hW (fun h => h)) aX | (go_simp; exact rfl)) ?_; simp only [Act.put, List.setIfInBounds_toArray, List.set_cons_zero, List.set_cons_succ]
  refine wpPar_pure rfl (by kernel_rfl) _ (fun W hW => by first | exact exec_load_blk _ _ rfl rfl (BG.out.kept hW (fun h => h)) aX | exact exec_load_blk _ _ rfl rfl (BH.out.kept hW (fun h => h)) aX | (go_simp; exact rfl)) ?_; simp only [Act.put, List.setIfInBounds_toArray, List.set_cons_zero, List.set_cons_succ]
  refine wpPar_pure rfl (by kernel_rfl) (.bool true) (fun W hW => by have eq := EQ.out; go_simp) ?_; simp only [Act.put, List.setIfInBounds_toArray, List.set_cons_zero, List.set_cons_succ]
  iterate 2 (refine wpPar_pure rfl (by rfl) _ (fun W hW => by
      go_simp
      exact rfl) ?_; simp only [Act.put, List.setIfInBounds_toArray, List.set_cons_zero, List.set_cons_succ])
  refine wpPar_pure rfl (by kernel_rfl) _ (fun W hW => by
      go_simp
      exact rfl) ?_; simp only [Act.put, List.setIfInBounds_toArray, List.set_cons_zero, List.set_cons_succ]
  refine wpKn_adds hs rfl (by kernel_rfl) (fun W hW hd => ?_) (fun v13 hv => ?_)
  · unfold Gives
    go_simp
    refine gives_call (Ref.pub x W) ?_
    rintro e w3 ⟨rfl, k3⟩
    exact ⟨_, rfl, k3, rfl, trivial⟩
  obtain rfl : v13 = .int .u64 (pubN x : Nat) := hv
  simp only [Act.put, List.setIfInBounds_toArray, List.set_cons_zero, List.set_cons_succ]
  refine wpPar_pure rfl (by kernel_rfl) _ (fun W hW => by first | exact exec_load_blk _ _ rfl rfl (BG.out.kept hW (fun h => h)) aX | exact exec_load_blk _ _ rfl rfl (BH.out.kept hW (fun h => h)) aX | (go_simp; exact rfl)) ?_; simp only [Act.put, List.setIfInBounds_toArray, List.set_cons_zero, List.set_cons_succ]
  refine wpKn_adds hs rfl (by kernel_rfl) (fun W hW hd => ?_) (fun v15 hv => ?_)
  · unfold Gives
    go_simp
    refine gives_call (HH.out.2.2.2.1 W) ?_
    rintro e w3 ⟨rfl, k3⟩
    exact ⟨_, rfl, k3, rfl, trivial⟩
  obtain rfl : v15 = .bool true := hv
  simp only [Act.put, List.setIfInBounds_toArray, List.set_cons_zero, List.set_cons_succ]
  iterate 2 (refine wpPar_pure rfl (by rfl) _ (fun W hW => by
      go_simp
      exact rfl) ?_; simp only [Act.put, List.setIfInBounds_toArray, List.set_cons_zero, List.set_cons_succ])
  refine wpPar_pure rfl (by kernel_rfl) _ (fun W hW => by
      go_simp
      exact rfl) ?_; simp only [Act.put, List.setIfInBounds_toArray, List.set_cons_zero, List.set_cons_succ]
  refine wpPar_pure rfl (by kernel_rfl) _ (fun W hW => by first | exact exec_load_blk _ _ rfl rfl (BG.out.kept hW (fun h => h)) aX | exact exec_load_blk _ _ rfl rfl (BH.out.kept hW (fun h => h)) aX | (go_simp; exact rfl)) ?_; simp only [Act.put, List.setIfInBounds_toArray, List.set_cons_zero, List.set_cons_succ]
  refine wpKn_adds hs rfl (by kernel_rfl) (fun W hW hd => ?_) (fun v20 hv => ?_)
  · unfold Gives
    go_simp
    refine gives_call (HH.out.2.2.2.2.1 W) ?_
    rintro e w3 ⟨rfl, k3⟩
    exact ⟨_, rfl, k3, rfl, trivial⟩
  obtain rfl : v20 = .bool q := hv
  simp only [Act.put, List.setIfInBounds_toArray, List.set_cons_zero, List.set_cons_succ]
  refine wpPar_pure rfl (by kernel_rfl) _ (fun W hW => by
      go_simp
      exact rfl) ?_; simp only [Act.put, List.setIfInBounds_toArray, List.set_cons_zero, List.set_cons_succ]
  refine wpPar_pure rfl (by kernel_rfl) _ (fun W hW => by first | exact exec_load_blk _ _ rfl rfl (BG.out.kept hW (fun h => h)) aX | exact exec_load_blk _ _ rfl rfl (BH.out.kept hW (fun h => h)) aX | (go_simp; exact rfl)) ?_; simp only [Act.put, List.setIfInBounds_toArray, List.set_cons_zero, List.set_cons_succ]
  refine wpKn_adds hs rfl (by kernel_rfl) (fun W hW hd => ?_) (fun v23 hv => ?_)
  · unfold Gives
    go_simp
    refine gives_call (HH.out.2.2.2.2.2 W) ?_
    rintro e w3 ⟨rfl, k3⟩
    exact ⟨_, rfl, k3, rfl, trivial⟩
  obtain rfl : v23 = .bool q := hv
  simp only [Act.put, List.setIfInBounds_toArray, List.set_cons_zero, List.set_cons_succ]
  refine wpPar_pure rfl (by kernel_rfl) _ (fun W hW => by
      go_simp
      exact rfl) ?_; simp only [Act.put, List.setIfInBounds_toArray, List.set_cons_zero, List.set_cons_succ]
  iterate 2 (refine wpPar_pure rfl (by rfl) _ (fun W hW => by
      go_simp
      exact rfl) ?_; simp only [Act.put, List.setIfInBounds_toArray, List.set_cons_zero, List.set_cons_succ])
  refine wpPar_nil (fun W hW hG => ?_)
  have kW := k10.trans hW
  clear hG hs hW
  go_wp2
  go_ret
  exact ⟨rfl, kW⟩
end H10
end Go.Proofs.Ytidegffdhpdhjaa
