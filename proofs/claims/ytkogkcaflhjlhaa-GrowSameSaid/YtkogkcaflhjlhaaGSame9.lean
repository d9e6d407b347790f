/- postmarklaw9.GrowSame: true. -/
import Derived.Test.YtkogkcaflhjlhaaKnown9
namespace Go.Proofs.Ytkogkcaflhjlhaa
open Go.RowKit Go.Pm
namespace L9
set_option maxRecDepth 100000 in
set_option maxHeartbeats 2000000 in
theorem same_out (v : Value) (lo hi : Nat) (l : List UInt8) (h : List UInt8) (w : World) (_hh : h.length = 32) (hv : Bs w lo hi v l) (hl : 30 < l.length) : Calls Try.prog 5 #[v, hashV h] w fun e w' => e = .returned (.bool true) ∧ Kept None w w' := by
  obtain ⟨a, cap, rfl, g1, g2, g3⟩ := hv.shape
  obtain ⟨n, hn⟩ : ∃ n, n = l.length := ⟨_, rfl⟩
  rw [← hn] at hl ⊢
  have h1 : (30 : Int) < (n : Int) := by omega
  obtain ⟨HA, hHA⟩ : ∃ A : Array Value, A = (h.map u8v).toArray := ⟨_, rfl⟩
  show Calls Try.prog 5 #[.slice a n cap, .agg (h.map u8v).toArray] w _
  rw [← hHA]
  have HK := hid (known (w.alloc (.cells HA 25)))
  have ka : Kept None w (w.alloc (.cells HA 25)) := (Kept.refl _ _).alloc _
  clear hv g1 g3 hn hl hHA
  go_enter Try.func5, Try.ntmps5
  go_wp2_with fail
  refine HK.out.mono ?_
  rintro e w1 ⟨rfl, k1⟩
  go_wp2
  go_ret
  exact ⟨rfl, ka.trans k1⟩
set_option maxRecDepth 100000 in
set_option maxHeartbeats 2000000 in
theorem same_none (v : Value) (lo hi : Nat) (l : List UInt8) (h : List UInt8) (w : World) (_hh : h.length = 32) (hv : Bs w lo hi v l) (hl : l = []) : Calls Try.prog 5 #[v, hashV h] w fun e w' => e = .returned (.bool true) ∧ Kept None w w' := by
  subst hl
  have hv0 := hv
  obtain ⟨a, cap, rfl, g1, g2, g3⟩ := hv.shape
  obtain ⟨HA, hHA⟩ : ∃ A : Array Value, A = (h.map u8v).toArray := ⟨_, rfl⟩
  show Calls Try.prog 5 #[.slice a 0 cap, .agg (h.map u8v).toArray] w _
  rw [← hHA]
  have HK := hid (known (w.alloc (.cells HA 25)))
  have ka : Kept None w (w.alloc (.cells HA 25)) := (Kept.refl _ _).alloc _
  obtain ⟨r, hr⟩ : ∃ r, r = rootL [] := ⟨_, rfl⟩
  have HL := hid (fun w1 (k : Kept None w w1) => leaves _ _ _ [] w1 (hv0.kept k (fun _ _ _ h => h)) (by decide))
  have HR := hid (fun v W (h : Rh 0 W v []) => RLg.root 0 [] v W h (by decide) (by decide))
  have HP := hid (fun v W (h : Rh 0 W v []) => Gr.prove_out [] 0 v W h (.inl (by decide)))
  obtain ⟨RA, hRA⟩ : ∃ A : Array Value, A = (r.map u8v).toArray := ⟨_, rfl⟩
  have lr : r.length = 32 := by rw [hr]; exact rootL_len H32.nil
  have aR : AggTy Try.prog 25 RA.size := by rw [hRA]; exact Hk.aH32 lr
  have sR : RA.size = 32 := by rw [hRA]; simpa using lr
  have allR : RA.all (·.oneCell') = true := by rw [hRA]; exact u8v_all' _
  have HC : Hid (∀ W, Calls Try.prog 16 #[.agg RA, .agg RA, .int .i64 0, .int .i64 0, .slice none 0 0] W fun e w' => e = .returned (.bool false) ∧ Kept None W w') := hid (fun W => by
    rw [hRA]
    exact Gr.check_out r r 0 0 _ W (.inl (by decide)))
  have HR2 : Hid (∀ v W, Rh 0 W v [] → Calls Try.prog 15 #[v] W fun e w' => e = .returned (.agg RA) ∧ Kept None W w') := hid (fun v W h => by rw [hRA, hr]; exact HR.out v W h)
  have HS := hid (And.intro sR allR)
  have KA := hid ka
  clear hv hv0 g1 g2 g3 hHA hRA lr hr sR allR ka HR
  go_enter Try.func5, Try.ntmps5
  go_wp2_with fail
  refine HK.out.mono ?_
  rintro e w1 ⟨rfl, k1⟩
  have K1 := hid (KA.out.trans k1)
  clear k1
  go_wp2_with fail
  refine (HL.out _ K1.out).mono ?_
  rintro e w2 ⟨u, rfl, k2, p2⟩
  obtain ⟨ax, cx, rfl⟩ := Ho.form p2
  have IX : Hid (Rh 0 w2 (.slice ax 0 cx) []) := hid (p2.rh.mono (Nat.zero_le _))
  have K2 := hid (K1.out.trans k2)
  clear k2 p2
  go_wp2_with fail
  refine (HR2.out _ _ IX.out).mono ?_
  rintro e w3 ⟨rfl, k3⟩
  have IX3 := hid (IX.out.kept k3)
  have K3 := hid (K2.out.trans k3)
  obtain ⟨z, hz, hZ⟩ := Blk.any (n := 32) (Blk.new w3 #[.int .u8 0, .int .u8 0, .int .u8 0, .int .u8 0, .int .u8 0, .int .u8 0, .int .u8 0, .int .u8 0, .int .u8 0, .int .u8 0, .int .u8 0, .int .u8 0, .int .u8 0, .int .u8 0, .int .u8 0, .int .u8 0, .int .u8 0, .int .u8 0, .int .u8 0, .int .u8 0, .int .u8 0, .int .u8 0, .int .u8 0, .int .u8 0, .int .u8 0, .int .u8 0, .int .u8 0, .int .u8 0, .int .u8 0, .int .u8 0, .int .u8 0, .int .u8 0] 25) (by rfl)
  have EZ := hid (hz.trans HS.out.1.symm)
  clear k3 hz
  go_wp2_with (first | (refine wpList_store_blk rfl _ _ _ rfl rfl rfl hZ aR EZ.out HS.out.2 ?_; intro w5 h5 k5; have k35 := k5.fresh) | fail)
  have IX5 := hid (IX3.out.kept k35)
  have K5 := hid (K3.out.trans k35)
  clear k35 k5 hZ
  refine (HP.out _ _ IX5.out).mono ?_
  rintro e w6 ⟨rfl, e6⟩
  subst e6
  go_wp2_with (first | go_skip | (refine wpList_load_bw (by kernel_rfl) rfl rfl h5 aR ?_) | fail)
  refine (HC.out _).mono ?_
  rintro e w7 ⟨rfl, k7⟩
  go_wp2
  go_ret
  exact ⟨rfl, K5.out.trans k7⟩
set_option maxRecDepth 100000 in
set_option maxHeartbeats 4000000 in
theorem same_in (v : Value) (lo hi : Nat) (l : List UInt8) (h : List UInt8) (w : World) (hh : h.length = 32) (hv : Bs w lo hi v l) (hl : l.length ≤ 30) (h1 : 1 ≤ l.length) : Calls Try.prog 5 #[v, hashV h] w fun e w' => e = .returned (.bool true) ∧ Kept None w w' := by
  have hv0 := hv
  obtain ⟨a, cap, rfl, g1, g2, g3⟩ := hv.shape
  obtain ⟨HA, hHA⟩ : ∃ A : Array Value, A = (h.map u8v).toArray := ⟨_, rfl⟩
  show Calls Try.prog 5 #[.slice a l.length cap, .agg (h.map u8v).toArray] w _
  rw [← hHA]
  have HK := hid (known (w.alloc (.cells HA 25)))
  have ka : Kept None w (w.alloc (.cells HA 25)) := (Kept.refl _ _).alloc _
  have HL := hid (fun w1 (k : Kept None w w1) => leaves _ _ _ l w1 (hv0.kept k (fun _ _ _ h => h)) (by omega))
  obtain ⟨x, hx⟩ : ∃ x, x = leavesL l := ⟨_, rfl⟩
  have hxl : x.length = l.length := by rw [hx]; exact leavesL_len l
  have hx32 : H32 x := by rw [hx]; exact leavesK_h32 _ _
  rw [← hx] at HL
  obtain ⟨n, hn⟩ : ∃ n, n = l.length := ⟨_, rfl⟩
  rw [← hn] at hxl hl h1 HL ⊢
  obtain ⟨r, hr⟩ : ∃ r, r = rootL x := ⟨_, rfl⟩
  have lr : r.length = 32 := by rw [hr]; exact rootL_len hx32
  obtain ⟨RA, hRA⟩ : ∃ A : Array Value, A = (r.map u8v).toArray := ⟨_, rfl⟩
  have aR : AggTy Try.prog 25 RA.size := by rw [hRA]; exact Hk.aH32 lr
  have aHA : AggTy Try.prog 25 HA.size := by rw [hHA]; exact Hk.aH32 hh
  have sR : RA.size = 32 := by rw [hRA]; simpa using lr
  have sH : HA.size = 32 := by rw [hHA]; simpa using hh
  have allR : RA.all (·.oneCell') = true := by rw [hRA]; exact u8v_all' _
  obtain ⟨bE, hbE⟩ : ∃ b : Bool, b = (h == r) := ⟨_, rfl⟩
  have e1 := Hk.eqHash h r hh lr
  rw [← hbE, ← hHA, ← hRA] at e1
  have FR : Hid (∀ v W, Rh 0 W v x → Calls Try.prog 15 #[v] W fun e w' => e = .returned (.agg RA) ∧ Kept None W w') := hid (fun v W h => by
    rw [hRA, hr]; exact RLg.root x.length x v W h (Nat.le_refl _) (by omega))
  have FP : Hid (∀ v W, Rh 0 W v x → Calls Try.prog 12 #[v, .int .i64 n] W fun e w' => ∃ u, e = .returned (.tuple #[u, .bool true]) ∧ Kept None W w' ∧ Ho 25 w' W.heap.size u []) := hid (fun v W h => by
    have h2 := Gr.prove x n v W h (by omega) h1 (by omega)
    have h3 := subL_all (l := x) (by omega) true
    rw [hxl, if_pos rfl] at h3
    rwa [h3] at h2)
  have FC1 : Hid (∀ W, Calls Try.prog 16 #[.agg RA, .agg RA, .int .i64 n, .int .i64 n, .slice none 0 0] W fun e w' => e = .returned (.bool true) ∧ Kept None W w') := hid (fun W => by
    have h2 := Gr.check r r [] n n _ W lr lr (Rh.nil 0 W) (by simp) (by omega)
    rw [grown_all _ _ _ h1] at h2
    rw [hRA]
    simpa [hashV] using h2)
  have FC2 : Hid (∀ v W, Rh 0 W v [h] → Calls Try.prog 16 #[.agg RA, .agg RA, .int .i64 n, .int .i64 n, v] W fun e w' => e = .returned (.bool false) ∧ Kept None W w') := hid (fun v W hv => by
    have h2 := Gr.check r r [h] n n v W lr lr hv (by simp) (by omega)
    rw [grown_all _ _ _ h1] at h2
    rw [hRA]
    simpa [hashV] using h2)
  have FC3 : Hid (∀ W, Calls Try.prog 16 #[.agg HA, .agg RA, .int .i64 n, .int .i64 n, .slice none 0 0] W fun e w' => e = .returned (.bool bE) ∧ Kept None W w') := hid (fun W => by
    have h2 := Gr.check h r [] n n _ W hh lr (Rh.nil 0 W) (by simp) (by omega)
    rw [grown_all _ _ _ h1] at h2
    rw [hRA, hHA, hbE]
    exact h2)
  have bH : Blk (w.alloc (.cells HA 25)) w.heap.size HA 25 := Blk.new w _ _
  have h30z : ¬ (30 : Int) < (n : Int) := by omega
  have hnz : ((n : Int) == 0) = false := by rw [beq_eq_false_iff_ne]; omega
  have hnz2 : ¬ (n : Int) = 0 := by omega
  have HS := hid (And.intro sR allR)
  have HHA := hid (And.intro hHA (And.intro hh sH))
  have KA := hid ka
  have BH := hid bH
  have HXL := hid hxl
  have E1 := hid e1
  clear hv hv0 g1 g2 g3 hh hHA hRA lr sR sH allR ka bH hx hxl hx32 hn hl h1 hr hbE e1
  go_enter Try.func5, Try.ntmps5
  go_wp2_with fail
  refine HK.out.mono ?_
  rintro e w1 ⟨rfl, k1⟩
  have K1 := hid (KA.out.trans k1)
  have BH1 := hid (BH.out.kept k1 (fun h => h))
  clear k1 BH
  go_wp2_with fail
  refine (HL.out _ K1.out).mono ?_
  rintro e w2 ⟨u, rfl, k2, p2⟩
  obtain ⟨ax, cx, rfl⟩ := Ho.form p2
  have IX : Hid (Rh 0 w2 (.slice ax n cx) x) := hid (by
    have h := p2.rh.mono (Nat.zero_le _)
    rwa [HXL.out] at h)
  rw [HXL.out]
  have K2 := hid (K1.out.trans k2)
  have BH2 := hid (BH1.out.kept k2 (fun h => h))
  clear k2 p2 BH1
  go_wp2_with fail
  refine (FR.out _ _ IX.out).mono ?_
  rintro e w3 ⟨rfl, k3⟩
  have IX3 := hid (IX.out.kept k3)
  have K3 := hid (K2.out.trans k3)
  have BH3 := hid (BH2.out.kept k3 (fun h => h))
  obtain ⟨z, hz, hZ⟩ := Blk.any (n := 32) (Blk.new w3 #[.int .u8 0, .int .u8 0, .int .u8 0, .int .u8 0, .int .u8 0, .int .u8 0, .int .u8 0, .int .u8 0, .int .u8 0, .int .u8 0, .int .u8 0, .int .u8 0, .int .u8 0, .int .u8 0, .int .u8 0, .int .u8 0, .int .u8 0, .int .u8 0, .int .u8 0, .int .u8 0, .int .u8 0, .int .u8 0, .int .u8 0, .int .u8 0, .int .u8 0, .int .u8 0, .int .u8 0, .int .u8 0, .int .u8 0, .int .u8 0, .int .u8 0, .int .u8 0] 25) (by rfl)
  have EZ := hid (hz.trans HS.out.1.symm)
  clear k3 hz BH2
  go_wp2_with (first | (refine wpList_store_blk rfl _ _ _ rfl rfl rfl hZ aR EZ.out HS.out.2 ?_; intro w5 h5 k5; have k35 := k5.fresh) | fail)
  have IX5 := hid (IX3.out.kept k35)
  have K5 := hid (K3.out.trans k35)
  have BH5 := hid (BH3.out.kept k35 (fun h => h))
  clear k35 k5 hZ BH3
  refine (FP.out _ _ IX5.out).mono ?_
  rintro e w6 ⟨u, rfl, k6, p6⟩
  obtain ⟨ap, cp, rfl⟩ := Ho.form p6
  have K6 := hid (K5.out.trans k6)
  have BH6 := BH5.out.kept k6 (fun h => h)
  have BR6 := h5.kept k6 (fun h => h)
  clear k6 p6 h5 BH5
  go_wp2_with fail
  have hs : Steady [.val 13 (.bool true), .hash1 23 w6.heap.size 25 h, .val 24 (.bool false) [23], .val 34 (.bool bE)] := Go.Pm.Steady.val (Go.Pm.Steady.hash1 (Go.Pm.Steady.val (Go.Pm.Steady.val (Go.Pm.Steady.nil))))
  refine wp_region_kn w6 _ hs (Kept.refl _ _) (by kernel_rfl) (by kernel_rfl) (by kernel_rfl) ?_
  iterate 2 (refine wpPar_pure rfl (by rfl) _ (fun W hW => by
      have q1 := E1.out
      go_simp
      exact rfl) ?_; simp only [Act.put, List.setIfInBounds_toArray, List.set_cons_zero, List.set_cons_succ])
  refine wpPar_pure rfl (by kernel_rfl) _ (fun W hW => by
      have q1 := E1.out
      go_simp
      exact rfl) ?_; simp only [Act.put, List.setIfInBounds_toArray, List.set_cons_zero, List.set_cons_succ]
  refine wpPar_pure rfl (by kernel_rfl) _ (fun W hW => by
      have q1 := E1.out
      go_simp
      exact rfl) ?_; simp only [Act.put, List.setIfInBounds_toArray, List.set_cons_zero, List.set_cons_succ]
  refine wpPar_pure rfl (by kernel_rfl) _ (fun W hW => by
      have q1 := E1.out
      go_simp
      exact rfl) ?_; simp only [Act.put, List.setIfInBounds_toArray, List.set_cons_zero, List.set_cons_succ]
  iterate 2 (refine wpPar_pure rfl (by rfl) _ (fun W hW => by
      have q1 := E1.out
      go_simp
      exact rfl) ?_; simp only [Act.put, List.setIfInBounds_toArray, List.set_cons_zero, List.set_cons_succ])
  refine wpPar_pure rfl (by kernel_rfl) _ (fun W hW => by first | exact exec_load_blk _ _ rfl rfl (BR6.kept hW (fun h => h)) aR | exact exec_load_blk _ _ rfl rfl (BH6.kept hW (fun h => h)) aHA | (have q1 := E1.out; go_simp; exact rfl)) ?_; simp only [Act.put, List.setIfInBounds_toArray, List.set_cons_zero, List.set_cons_succ]
  refine wpPar_pure rfl (by kernel_rfl) _ (fun W hW => by first | exact exec_load_blk _ _ rfl rfl (BR6.kept hW (fun h => h)) aR | exact exec_load_blk _ _ rfl rfl (BH6.kept hW (fun h => h)) aHA | (have q1 := E1.out; go_simp; exact rfl)) ?_; simp only [Act.put, List.setIfInBounds_toArray, List.set_cons_zero, List.set_cons_succ]
  refine wpPar_pure rfl (by kernel_rfl) _ (fun W hW => by
      have q1 := E1.out
      go_simp
      exact rfl) ?_; simp only [Act.put, List.setIfInBounds_toArray, List.set_cons_zero, List.set_cons_succ]
  refine wpPar_pure rfl (by kernel_rfl) _ (fun W hW => by
      have q1 := E1.out
      go_simp
      exact rfl) ?_; simp only [Act.put, List.setIfInBounds_toArray, List.set_cons_zero, List.set_cons_succ]
  refine wpPar_pure rfl (by kernel_rfl) _ (fun W hW => by
      have q1 := E1.out
      go_simp
      exact rfl) ?_; simp only [Act.put, List.setIfInBounds_toArray, List.set_cons_zero, List.set_cons_succ]
  refine wpPar_pure rfl (by kernel_rfl) _ (fun W hW => by
      have q1 := E1.out
      go_simp
      exact rfl) ?_; simp only [Act.put, List.setIfInBounds_toArray, List.set_cons_zero, List.set_cons_succ]
  refine wpKn_adds hs rfl (by kernel_rfl) (fun W hW hd => ?_) (fun v13 hv => ?_)
  · unfold Gives
    go_simp
    refine gives_call (FC1.out W) ?_
    rintro e w3 ⟨rfl, k3⟩
    exact ⟨_, rfl, k3, rfl, trivial⟩
  obtain rfl : v13 = .bool true := hv
  simp only [Act.put, List.setIfInBounds_toArray, List.set_cons_zero, List.set_cons_succ]
  iterate 2 (refine wpPar_pure rfl (by rfl) _ (fun W hW => by
      have q1 := E1.out
      go_simp
      exact rfl) ?_; simp only [Act.put, List.setIfInBounds_toArray, List.set_cons_zero, List.set_cons_succ])
  refine wpPar_pure rfl (by kernel_rfl) _ (fun W hW => by first | exact exec_load_blk _ _ rfl rfl (BR6.kept hW (fun h => h)) aR | exact exec_load_blk _ _ rfl rfl (BH6.kept hW (fun h => h)) aHA | (have q1 := E1.out; go_simp; exact rfl)) ?_; simp only [Act.put, List.setIfInBounds_toArray, List.set_cons_zero, List.set_cons_succ]
  refine wpPar_pure rfl (by kernel_rfl) _ (fun W hW => by first | exact exec_load_blk _ _ rfl rfl (BR6.kept hW (fun h => h)) aR | exact exec_load_blk _ _ rfl rfl (BH6.kept hW (fun h => h)) aHA | (have q1 := E1.out; go_simp; exact rfl)) ?_; simp only [Act.put, List.setIfInBounds_toArray, List.set_cons_zero, List.set_cons_succ]
  refine wpPar_pure rfl (by kernel_rfl) _ (fun W hW => by
      have q1 := E1.out
      go_simp
      exact rfl) ?_; simp only [Act.put, List.setIfInBounds_toArray, List.set_cons_zero, List.set_cons_succ]
  refine wpPar_pure rfl (by kernel_rfl) _ (fun W hW => by
      have q1 := E1.out
      go_simp
      exact rfl) ?_; simp only [Act.put, List.setIfInBounds_toArray, List.set_cons_zero, List.set_cons_succ]
  refine wpPar_pure rfl (by kernel_rfl) _ (fun W hW => by
      have q1 := E1.out
      go_simp
      exact rfl) ?_; simp only [Act.put, List.setIfInBounds_toArray, List.set_cons_zero, List.set_cons_succ]
  refine wpPar_pure rfl (by kernel_rfl) _ (fun W hW => by
      have q1 := E1.out
      go_simp
      exact rfl) ?_; simp only [Act.put, List.setIfInBounds_toArray, List.set_cons_zero, List.set_cons_succ]
  refine wpPar_pure rfl (by kernel_rfl) _ (fun W hW => by first | exact exec_load_blk _ _ rfl rfl (BR6.kept hW (fun h => h)) aR | exact exec_load_blk _ _ rfl rfl (BH6.kept hW (fun h => h)) aHA | (have q1 := E1.out; go_simp; exact rfl)) ?_; simp only [Act.put, List.setIfInBounds_toArray, List.set_cons_zero, List.set_cons_succ]
  refine wpKn_adds hs rfl (by kernel_rfl) (fun W hW hd => ?_) (fun v23 hv => ?_)
  · unfold Gives
    rw [exec_one_item 23 (.tmp 58) rfl Hk.rtHashes (by decide) (A := HA) (by rw [HHA.out.1]; rfl) HHA.out.2.2, HHA.out.1]
    exact ⟨(Kept.refl None W).alloc _, ⟨_, rfl⟩, _, rfl, hW.size, Blk.new W _ _⟩
  obtain ⟨g4, rfl⟩ : ∃ g, v23 = .slice (some ⟨g, 0, none⟩) 1 1 := hv
  simp only [Act.put, List.setIfInBounds_toArray, List.set_cons_zero, List.set_cons_succ]
  refine wpKn_adds hs rfl (by kernel_rfl) (fun W hW hd => ?_) (fun v24 hv => ?_)
  · unfold Gives
    obtain ⟨g, hgg, hg2, hg3⟩ : ∃ g, Value.slice (some ⟨g4, 0, none⟩) 1 1 = .slice (some ⟨g, 0, none⟩) 1 1 ∧ w6.heap.size ≤ g ∧ Blk W g (h.map u8v).toArray 25 := hd 23 (List.Mem.head _)
    obtain rfl : g4 = g := by simpa using hgg
    go_simp
    refine gives_call (FC2.out _ W ⟨_, (Hs.ofBlk hg3 HHA.out.2.1).wider' (Nat.zero_le _)⟩) ?_
    rintro e w3 ⟨rfl, k3⟩
    exact ⟨_, rfl, k3, rfl, trivial⟩
  obtain rfl : v24 = .bool false := hv
  simp only [Act.put, List.setIfInBounds_toArray, List.set_cons_zero, List.set_cons_succ]
  refine wpPar_pure rfl (by kernel_rfl) _ (fun W hW => by
      have q1 := E1.out
      go_simp
      exact rfl) ?_; simp only [Act.put, List.setIfInBounds_toArray, List.set_cons_zero, List.set_cons_succ]
  iterate 2 (refine wpPar_pure rfl (by rfl) _ (fun W hW => by
      have q1 := E1.out
      go_simp
      exact rfl) ?_; simp only [Act.put, List.setIfInBounds_toArray, List.set_cons_zero, List.set_cons_succ])
  refine wpPar_pure rfl (by kernel_rfl) _ (fun W hW => by first | exact exec_load_blk _ _ rfl rfl (BR6.kept hW (fun h => h)) aR | exact exec_load_blk _ _ rfl rfl (BH6.kept hW (fun h => h)) aHA | (have q1 := E1.out; go_simp; exact rfl)) ?_; simp only [Act.put, List.setIfInBounds_toArray, List.set_cons_zero, List.set_cons_succ]
  refine wpPar_pure rfl (by kernel_rfl) _ (fun W hW => by first | exact exec_load_blk _ _ rfl rfl (BR6.kept hW (fun h => h)) aR | exact exec_load_blk _ _ rfl rfl (BH6.kept hW (fun h => h)) aHA | (have q1 := E1.out; go_simp; exact rfl)) ?_; simp only [Act.put, List.setIfInBounds_toArray, List.set_cons_zero, List.set_cons_succ]
  refine wpPar_pure rfl (by kernel_rfl) _ (fun W hW => by
      have q1 := E1.out
      go_simp
      exact rfl) ?_; simp only [Act.put, List.setIfInBounds_toArray, List.set_cons_zero, List.set_cons_succ]
  refine wpPar_pure rfl (by kernel_rfl) _ (fun W hW => by
      have q1 := E1.out
      go_simp
      exact rfl) ?_; simp only [Act.put, List.setIfInBounds_toArray, List.set_cons_zero, List.set_cons_succ]
  refine wpPar_pure rfl (by kernel_rfl) _ (fun W hW => by
      have q1 := E1.out
      go_simp
      exact rfl) ?_; simp only [Act.put, List.setIfInBounds_toArray, List.set_cons_zero, List.set_cons_succ]
  refine wpPar_pure rfl (by kernel_rfl) _ (fun W hW => by
      have q1 := E1.out
      go_simp
      exact rfl) ?_; simp only [Act.put, List.setIfInBounds_toArray, List.set_cons_zero, List.set_cons_succ]
  refine wpKn_adds hs rfl (by kernel_rfl) (fun W hW hd => ?_) (fun v34 hv => ?_)
  · unfold Gives
    go_simp
    refine gives_call (FC3.out W) ?_
    rintro e w3 ⟨rfl, k3⟩
    exact ⟨_, rfl, k3, rfl, trivial⟩
  obtain rfl : v34 = .bool bE := hv
  simp only [Act.put, List.setIfInBounds_toArray, List.set_cons_zero, List.set_cons_succ]
  refine wpPar_pure rfl (by kernel_rfl) _ (fun W hW => by first | exact exec_load_blk _ _ rfl rfl (BR6.kept hW (fun h => h)) aR | exact exec_load_blk _ _ rfl rfl (BH6.kept hW (fun h => h)) aHA | (have q1 := E1.out; go_simp; exact rfl)) ?_; simp only [Act.put, List.setIfInBounds_toArray, List.set_cons_zero, List.set_cons_succ]
  refine wpPar_pure rfl (by kernel_rfl) _ (fun W hW => by first | exact exec_load_blk _ _ rfl rfl (BR6.kept hW (fun h => h)) aR | exact exec_load_blk _ _ rfl rfl (BH6.kept hW (fun h => h)) aHA | (have q1 := E1.out; go_simp; exact rfl)) ?_; simp only [Act.put, List.setIfInBounds_toArray, List.set_cons_zero, List.set_cons_succ]
  refine wpPar_pure rfl (by kernel_rfl) _ (fun W hW => by
      have q1 := E1.out
      go_simp
      exact rfl) ?_; simp only [Act.put, List.setIfInBounds_toArray, List.set_cons_zero, List.set_cons_succ]
  refine wpPar_pure rfl (by kernel_rfl) _ (fun W hW => by
      have q1 := E1.out
      go_simp
      exact rfl) ?_; simp only [Act.put, List.setIfInBounds_toArray, List.set_cons_zero, List.set_cons_succ]
  iterate 2 (refine wpPar_pure rfl (by rfl) _ (fun W hW => by
      have q1 := E1.out
      go_simp
      exact rfl) ?_; simp only [Act.put, List.setIfInBounds_toArray, List.set_cons_zero, List.set_cons_succ])
  refine wpPar_nil (fun W hW hG => ?_)
  have K9 := hid (K6.out.trans hW)
  clear hG hs hW BR6 BH6
  go_wp2
  go_ret
  exact ⟨by simp, K9.out⟩
/-- GrowSame. -/
theorem same (v : Value) (lo hi : Nat) (l : List UInt8) (h : List UInt8) (w : World) (hh : h.length = 32) (hv : Bs w lo hi v l)  : Calls Try.prog 5 #[v, hashV h] w fun e w' => e = .returned (.bool true) ∧ Kept None w w' := by
  by_cases h1 : 30 < l.length
  · exact same_out v lo hi l h w hh hv h1
  · by_cases h2 : l = []
    · exact same_none v lo hi l h w hh hv h2
    · have h3 : l.length ≠ 0 := fun h => h2 (List.length_eq_zero_iff.1 h)
      exact same_in v lo hi l h w hh hv (by omega) (by omega)
end L9
end Go.Proofs.Ytkogkcaflhjlhaa
