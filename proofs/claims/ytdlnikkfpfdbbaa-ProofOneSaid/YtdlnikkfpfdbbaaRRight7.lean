/- postmarkref5.ProofRight: by contract. -/
import Derived.Test.YtdlnikkfpfdbbaaRight7
import Derived.Deep.LoopGhost
namespace Go.Pm
open Go Go.RowKit
theorem alike_more (a b : List UInt8) (k : Nat) : alikeB a b (k + 1) = (alikeB a b k && decide (bitI a k = bitI b k)) := by
  unfold alikeB
  rw [Bool.eq_iff_iff]
  simp only [decide_eq_true_eq, Bool.and_eq_true]
  constructor
  · intro h
    exact ⟨fun j hj => h j (by omega), h k (by omega)⟩
  · rintro ⟨h1, h2⟩ j hj
    by_cases e : j = k
    · rw [e]; exact h2
    · exact h1 j (by omega)
theorem alike_no (a b : List UInt8) (k n : Nat) (hk : k < n) (h : bitI a k ≠ bitI b k) : alikeB a b n = false := by
  unfold alikeB
  rw [decide_eq_false_iff_not]
  exact fun h2 => h (h2 k hk)
end Go.Pm
namespace Go.Proofs.Ytdlnikkfpfdbbaa
open Go.RowKit Go.Pm
namespace RPr
set_option maxRecDepth 100000 in
set_option maxHeartbeats 2000000 in
/-- ProofRight. -/
theorem right (i : List UInt8) (s : Value) (p : Pf) (w : World) (hi : i.length = 32) (hp : p.Ok) (hs : Rh 0 w s p.path) : Calls Try.prog 37 #[hashV i, pfV s p] w fun e w' => e = .returned (.bool (rightP i p)) ∧ Kept None w w' := by
  obtain ⟨q0, hv⟩ := hs
  obtain ⟨a, c, rfl, g1, g2, g3⟩ := hv.form
  obtain ⟨n, hn⟩ : ∃ n, n = p.path.length := ⟨_, rfl⟩
  rw [← hn] at g1
  rw [show pfV (.slice a p.path.length c) p = .agg (pfC (.slice a n c) p).toArray by rw [hn]]
  obtain ⟨X, hX⟩ : ∃ X, X = (pfC (.slice a n c) p).toArray := ⟨_, rfl⟩
  obtain ⟨L, hL⟩ : ∃ L : Array Value, L = (i.map u8v).toArray := ⟨_, rfl⟩
  obtain ⟨CI, hCI⟩ : ∃ CI : List Value, CI = p.x.i.map u8v := ⟨_, rfl⟩
  obtain ⟨CX, hCX⟩ : ∃ CX : List Value, CX = itC p.x := ⟨_, rfl⟩
  obtain ⟨bI, hbI⟩ : ∃ b, b = (p.x.i == i) := ⟨_, rfl⟩
  obtain ⟨bX, hbX⟩ : ∃ b, b = itEq p.x zeroIt := ⟨_, rfl⟩
  obtain ⟨bA, hbA⟩ : ∃ b, b = alikeB p.x.i i n := ⟨_, rfl⟩
  have E1 := Tr.eqHash p.x.i i hp.2.1 hi
  have E3 := Pr.eqItem p.x zeroIt hp.2 ⟨rfl, rfl⟩
  have aL := Pr.aH32 hi
  have aI := Pr.aH32' hp.2.1
  have aX := Pr.aI64' hp.2
  have hres : rightP i p = (decide (n ≤ 256) && (if p.e = 0 then bI else if p.e = 1 then bX else if p.e = 2 then !bI && bA else false)) := by
    unfold rightP
    rw [hbI, hbX, hbA, itEq_is, hn]
  rw [Pr.zero_item] at E3
  show Calls Try.prog 37 #[.agg (i.map u8v).toArray, .agg (pfC (.slice a n c) p).toArray] w _
  have f1 : ∀ (j : Nat) W, j < 256 → Calls Try.prog 59 #[.agg (p.x.i.map u8v).toArray, .int .i64 j] W fun e w' => e = .returned (.int .i64 (bitI p.x.i j : Nat)) ∧ Kept None W w' := fun j W hj => RTr.bit p.x.i hp.2.1 j hj W
  have f2 : ∀ (j : Nat) W, j < 256 → Calls Try.prog 59 #[.agg (i.map u8v).toArray, .int .i64 j] W fun e w' => e = .returned (.int .i64 (bitI i j : Nat)) ∧ Kept None W w' := fun j W hj => RTr.bit i hi j hj W
  have k0 : Kept None w ((w.alloc (.cells L 25)).alloc (.cells X 48)) := ((Kept.refl _ _).alloc _).alloc _
  have bL : Blk ((w.alloc (.cells L 25)).alloc (.cells X 48)) w.heap.size L 25 := (Blk.new w _ _).alloc _
  have b0 : Blk ((w.alloc (.cells L 25)).alloc (.cells X 48)) (w.heap.size + 1) X 48 := Blk.new2 w _ _ _
  have rI : World.rangeAt ((w.alloc (.cells L 25)).alloc (.cells X 48)) (w.heap.size + 1) 2 CI := hCI ▸ pf_ri (hX ▸ b0 : Blk ((w.alloc (.cells L 25)).alloc (.cells X 48)) (w.heap.size + 1) (pfC (.slice a n c) p).toArray 48) hp
  have rX : World.rangeAt ((w.alloc (.cells L 25)).alloc (.cells X 48)) (w.heap.size + 1) 2 CX := hCX ▸ pf_rx (hX ▸ b0 : Blk ((w.alloc (.cells L 25)).alloc (.cells X 48)) (w.heap.size + 1) (pfC (.slice a n c) p).toArray 48)
  rw [← hL, ← hCI, ← hbI] at E1
  rw [← hCX, ← hbX] at E3
  rw [← hCI] at f1
  rw [← hL] at f2
  rw [← hL, ← hX]
  rw [← hL] at aL
  rw [← hCI] at aI
  rw [← hCX] at aX
  have hc0 : X[0]? = some (.slice a n c) := by rw [hX]; rfl
  have hc1 : X[1]? = some (.int .i64 p.e) := by rw [hX]; rfl
  obtain ⟨r, hr⟩ : ∃ r, r = rightP i p := ⟨_, rfl⟩
  rw [hres] at hr
  rw [hres, ← hr]
  have HR := hid hr
  have HA := hid hbA
  have FB := hid (And.intro f1 f2)
  have B0 := hid (And.intro b0 hc0)
  clear hX hL hCI hCX hbI hbX hbA hres hr b0 hv hn g3 f1 f2
  by_cases h256 : n ≤ 256
  · have hle : ¬ (256 : Int) < (n : Int) := by omega
    by_cases h0 : p.e = 0
    · rw [h0] at hc1
      clear E3 rX aX
      go_enter Try.func37, Try.ntmps37
      go_wp2_with (first | (refine wpList_load_at rfl _ _ rfl rfl rI aI ?_) | (refine wpList_load_blk rfl _ _ rfl rfl bL aL ?_) | fail)
      go_ret
      exact ⟨by rw [HR.out, decide_eq_true h256, if_pos h0]; rfl, k0⟩
    by_cases h1 : p.e = 1
    · rw [h1] at hc1
      clear E1
      go_enter Try.func37, Try.ntmps37
      go_wp2_with (first | (refine wpList_load_at rfl _ _ rfl rfl rX aX ?_) | fail)
      go_ret
      exact ⟨by rw [HR.out, decide_eq_true h256, if_neg h0, if_pos h1]; rfl, k0⟩
    by_cases h2 : p.e = 2
    · rw [h2] at hc1
      clear E3 rX aX
      cases bI with
      | true =>
        go_enter Try.func37, Try.ntmps37
        go_wp2_with (first | (refine wpList_load_at rfl _ _ rfl rfl rI aI ?_) | (refine wpList_load_blk rfl _ _ rfl rfl bL aL ?_) | fail)
        go_ret
        exact ⟨by rw [HR.out, decide_eq_true h256, if_neg h0, if_neg h1, if_pos h2]; rfl, k0⟩
      | false =>
        have HI := hid rI
        have HBL := hid bL
        obtain ⟨wB, hwB⟩ : ∃ wB, wB = ((w.alloc (.cells L 25)).alloc (.cells X 48)) := ⟨_, rfl⟩
        have HW := hid hwB
        go_enter Try.func37, Try.ntmps37
        go_wp2_with (first | (refine wpList_load_at rfl _ _ rfl rfl rI aI ?_) | (refine wpList_load_blk rfl _ _ rfl rfl bL aL ?_) | fail)
        rw [HW.out] at hwB
        clear hwB
        go_loopg [5] n (fun kx s5 wr => ∃ k : Nat, s5 = .int .i64 k ∧ k ≤ n ∧ n - k ≤ kx ∧ Hid (Kept None ((w.alloc (.cells L 25)).alloc (.cells X 48)) wr) ∧ Hid (alikeB p.x.i i k = true))
        case atStart => exact ⟨0, rfl, Nat.zero_le _, Nat.le_refl _, Kept.refl _ _, hid (by unfold alikeB; rw [decide_eq_true_eq]; exact fun k hk => by omega)⟩
        case round =>
          obtain ⟨k, rfl, hk, hkx, HK, HT⟩ := hrel
          have cX : wr.cell? ⟨w.heap.size + 1, 0, none⟩ = some (.slice a n c) := by
            rw [(B0.out.1.kept HK.out (fun h => h)).cell]
            exact B0.out.2
          obtain ⟨wo, rfl⟩ : ∃ wo : World, wo = wr := ⟨_, rfl⟩
          by_cases hlt : k < n
          · have hz : (k : Int) < (n : Int) := by omega
            have hk256 : k < 256 := by omega
            have HK256 := hid hk256
            obtain ⟨b1, hb1⟩ : ∃ b, b = bitI p.x.i k := ⟨_, rfl⟩
            obtain ⟨b2, hb2⟩ : ∃ b, b = bitI i k := ⟨_, rfl⟩
            have F1 := hid (fun W => FB.out.1 k W hk256)
            have F2 := hid (fun W => FB.out.2 k W hk256)
            rw [← hb1] at F1
            rw [← hb2] at F2
            have HB := hid (And.intro hb1 hb2)
            have RI := hid (rangeAt_kept HI.out HK.out)
            have BL := hid (HBL.out.kept HK.out (fun h => h))
            clear hb1 hb2 hk256
            by_cases hbb : b1 = b2
            · subst hbb
              go_wp2_with fail
              have hs : Steady [.val 4 (.int .i64 (b1 : Nat)), .val 7 (.int .i64 (b1 : Nat))] := Go.Pm.Steady.val (Go.Pm.Steady.val (Go.Pm.Steady.nil))
              refine wp_region_kn wo _ hs (Kept.refl _ _) (by kernel_rfl) (by kernel_rfl) (by kernel_rfl) ?_
              iterate 2 (refine wpPar_pure rfl (by rfl) _ (fun W hW => by
                  go_simp
                  exact rfl) ?_; simp only [Act.put, List.setIfInBounds_toArray, List.set_cons_zero, List.set_cons_succ])
              refine wpPar_pure rfl (by rfl) _ (fun W hW => by first | exact exec_load_at rfl rfl (rangeAt_kept RI.out hW) aI | exact exec_load_blk _ _ rfl rfl (BL.out.kept hW (fun h => h)) aL | (go_simp; exact rfl)) ?_; simp only [Act.put, List.setIfInBounds_toArray, List.set_cons_zero, List.set_cons_succ]
              iterate 1 (refine wpPar_pure rfl (by rfl) _ (fun W hW => by
                  go_simp
                  exact rfl) ?_; simp only [Act.put, List.setIfInBounds_toArray, List.set_cons_zero, List.set_cons_succ])
              refine wpKn_adds hs rfl (by rfl) (fun W hW hd => ?_) (fun v4 hv => ?_)
              · unfold Gives
                go_simp
                refine gives_call (F1.out W) ?_
                rintro e w3 ⟨rfl, k3⟩
                exact ⟨_, rfl, k3, rfl, trivial⟩
              obtain rfl : v4 = .int .i64 (b1 : Nat) := hv
              simp only [Act.put, List.setIfInBounds_toArray, List.set_cons_zero, List.set_cons_succ]
              refine wpPar_pure rfl (by rfl) _ (fun W hW => by first | exact exec_load_at rfl rfl (rangeAt_kept RI.out hW) aI | exact exec_load_blk _ _ rfl rfl (BL.out.kept hW (fun h => h)) aL | (go_simp; exact rfl)) ?_; simp only [Act.put, List.setIfInBounds_toArray, List.set_cons_zero, List.set_cons_succ]
              iterate 1 (refine wpPar_pure rfl (by rfl) _ (fun W hW => by
                  go_simp
                  exact rfl) ?_; simp only [Act.put, List.setIfInBounds_toArray, List.set_cons_zero, List.set_cons_succ])
              refine wpKn_adds hs rfl (by rfl) (fun W hW hd => ?_) (fun v7 hv => ?_)
              · unfold Gives
                go_simp
                refine gives_call (F2.out W) ?_
                rintro e w3 ⟨rfl, k3⟩
                exact ⟨_, rfl, k3, rfl, trivial⟩
              obtain rfl : v7 = .int .i64 (b1 : Nat) := hv
              simp only [Act.put, List.setIfInBounds_toArray, List.set_cons_zero, List.set_cons_succ]
              iterate 1 (refine wpPar_pure rfl (by rfl) _ (fun W hW => by
                  go_simp
                  exact rfl) ?_; simp only [Act.put, List.setIfInBounds_toArray, List.set_cons_zero, List.set_cons_succ])
              refine wpPar_nil (fun w6 hW hG => ?_)
              have HW6 := hid (HK.out.trans hW)
              have HT2 : Hid (alikeB p.x.i i (k + 1) = true) := hid (by rw [alike_more, HT.out, ← HB.out.1, ← HB.out.2]; simp)
              clear hG hs hW HK cX
              go_wp2
              go_roundg (n - (k + 1))
              case measure => omega
              case rel => exact ⟨k + 1, by go_num, by omega, Nat.le_refl _, HW6, HT2⟩
            · have hnz : ((b1 : Int) != (b2 : Int)) = true := by rw [bne_iff_ne]; omega
              have hnz2 : ((b1 : Int) == (b2 : Int)) = false := by rw [beq_eq_false_iff_ne]; omega
              have HBB := hid hbb
              clear hbb
              go_wp2_with fail
              have hs : Steady [.val 4 (.int .i64 (b1 : Nat)), .val 7 (.int .i64 (b2 : Nat))] := Go.Pm.Steady.val (Go.Pm.Steady.val (Go.Pm.Steady.nil))
              refine wp_region_kn wo _ hs (Kept.refl _ _) (by kernel_rfl) (by kernel_rfl) (by kernel_rfl) ?_
              iterate 2 (refine wpPar_pure rfl (by rfl) _ (fun W hW => by
                  go_simp
                  exact rfl) ?_; simp only [Act.put, List.setIfInBounds_toArray, List.set_cons_zero, List.set_cons_succ])
              refine wpPar_pure rfl (by rfl) _ (fun W hW => by first | exact exec_load_at rfl rfl (rangeAt_kept RI.out hW) aI | exact exec_load_blk _ _ rfl rfl (BL.out.kept hW (fun h => h)) aL | (go_simp; exact rfl)) ?_; simp only [Act.put, List.setIfInBounds_toArray, List.set_cons_zero, List.set_cons_succ]
              iterate 1 (refine wpPar_pure rfl (by rfl) _ (fun W hW => by
                  go_simp
                  exact rfl) ?_; simp only [Act.put, List.setIfInBounds_toArray, List.set_cons_zero, List.set_cons_succ])
              refine wpKn_adds hs rfl (by rfl) (fun W hW hd => ?_) (fun v4 hv => ?_)
              · unfold Gives
                go_simp
                refine gives_call (F1.out W) ?_
                rintro e w3 ⟨rfl, k3⟩
                exact ⟨_, rfl, k3, rfl, trivial⟩
              obtain rfl : v4 = .int .i64 (b1 : Nat) := hv
              simp only [Act.put, List.setIfInBounds_toArray, List.set_cons_zero, List.set_cons_succ]
              refine wpPar_pure rfl (by rfl) _ (fun W hW => by first | exact exec_load_at rfl rfl (rangeAt_kept RI.out hW) aI | exact exec_load_blk _ _ rfl rfl (BL.out.kept hW (fun h => h)) aL | (go_simp; exact rfl)) ?_; simp only [Act.put, List.setIfInBounds_toArray, List.set_cons_zero, List.set_cons_succ]
              iterate 1 (refine wpPar_pure rfl (by rfl) _ (fun W hW => by
                  go_simp
                  exact rfl) ?_; simp only [Act.put, List.setIfInBounds_toArray, List.set_cons_zero, List.set_cons_succ])
              refine wpKn_adds hs rfl (by rfl) (fun W hW hd => ?_) (fun v7 hv => ?_)
              · unfold Gives
                go_simp
                refine gives_call (F2.out W) ?_
                rintro e w3 ⟨rfl, k3⟩
                exact ⟨_, rfl, k3, rfl, trivial⟩
              obtain rfl : v7 = .int .i64 (b2 : Nat) := hv
              simp only [Act.put, List.setIfInBounds_toArray, List.set_cons_zero, List.set_cons_succ]
              iterate 1 (refine wpPar_pure rfl (by rfl) _ (fun W hW => by
                  go_simp
                  exact rfl) ?_; simp only [Act.put, List.setIfInBounds_toArray, List.set_cons_zero, List.set_cons_succ])
              refine wpPar_nil (fun w6 hW hG => ?_)
              have HW6 := hid (HK.out.trans hW)
              clear hG hs hW HK cX
              go_wp2
              go_ret
              exact ⟨by rw [HR.out, decide_eq_true h256, if_neg h0, if_neg h1, if_pos h2, HA.out, alike_no p.x.i i k n hlt (by rw [← HB.out.1, ← HB.out.2]; exact HBB.out)]; rfl, k0.trans HW6.out⟩
          · have hz : ¬ (k : Int) < (n : Int) := by omega
            obtain rfl : k = n := by omega
            go_wp2
            go_ret
            exact ⟨by rw [HR.out, decide_eq_true h256, if_neg h0, if_neg h1, if_pos h2, HA.out, HT.out]; rfl, k0.trans HK.out⟩
    · have n0 : (p.e == 0) = false := by simpa using h0
      have n1 : (p.e == 1) = false := by simpa using h1
      have n2 : (p.e == 2) = false := by simpa using h2
      go_enter Try.func37, Try.ntmps37
      go_wp2
      go_ret
      exact ⟨by rw [HR.out, decide_eq_true h256, if_neg h0, if_neg h1, if_neg h2]; rfl, k0⟩
  · have hle : (256 : Int) < (n : Int) := by omega
    go_enter Try.func37, Try.ntmps37
    go_wp2
    go_ret
    exact ⟨by rw [HR.out, decide_eq_false h256]; rfl, k0⟩
end RPr
end Go.Proofs.Ytdlnikkfpfdbbaa
