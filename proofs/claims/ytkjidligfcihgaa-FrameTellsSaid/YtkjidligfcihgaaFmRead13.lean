/- frame.Read: by contract. -/
import Derived.Test.YtkjidligfcihgaaFmAhead13
import Derived.Test.YtkjidligfcihgaaRRead13
namespace Go.Proofs.Ytkjidligfcihgaa
open Go.RowKit Go.Pm
namespace Fm
theorem le4V_take (b : List UInt8) : le4V (b.take 13) = le4V b := by unfold le4V; simp [bAt_take]
set_option maxRecDepth 100000 in
set_option maxHeartbeats 8000000 in
theorem read : ReadC := by
  intro v lo hi b w hv hl
  obtain ⟨av, cv, rfl, g1, g2, g3⟩ := hv.shape
  by_cases h13 : b.length < 13
  · have er : readF b = ⟨0, 0, [], 0, 21⟩ := by unfold readF; rw [if_pos h13]
    rw [er]
    have d1 : decide ((b.length : Int) < 13) = true := by simp; omega
    have d2 : decide (b.length < 13) = true := by simpa using h13
    clear er hv h13 g3
    go_enter Try.func10, Try.ntmps10
    go_wp2
    (try simp only [Exit.inBlock, Exit.then])
    refine bodyPost_ret (results_tmp5 rfl _ _ _) rfl ?_
    exact ⟨.slice none 0 0, rfl, Kept.refl _ _, Bs.nil _ _ _⟩
  · have d1 : decide ((b.length : Int) < 13) = false := by simp; omega
    have d2 : decide (b.length < 13) = false := by simp; omega
    obtain ⟨M, hM⟩ : ∃ M : Nat, M = (le4V b).toNat := ⟨_, rfl⟩
    obtain ⟨K, hK⟩ : ∃ K : Nat, K = (b.getD 4 0).toNat := ⟨_, rfl⟩
    obtain ⟨S, hS⟩ : ∃ S : Nat, S = (leV (b.drop 5)).toNat := ⟨_, rfl⟩
    have eM : le4V b = (M : Int) := by rw [hM, Int.toNat_of_nonneg (le4V_ge b)]
    have eK : bAt b 4 = (K : Int) := by rw [hK]; rfl
    have eS : leV (b.drop 5) = (S : Int) := by rw [hS, Int.toNat_of_nonneg (leV_ge _)]
    have HMM := hid (And.intro eM (And.intro eK eS))
    have HKB := hid (show K < 256 by have := bAt_lt b 4; omega)
    have HKw := hid (wrapI (K : Int) (by omega) (by have := HKB.out; omega))
    clear g2 g3
    obtain ⟨x13, sl13, p13⟩ := slice_to tBytes zBytes hv .i64 13 (by decide) (by omega)
    simp only [show (13 : Int).toNat = 13 from rfl] at sl13 p13
    rw [← List.map_take] at p13
    have ht13 : (b.take 13).length = 13 := by simp; omega
    have HA := hid (ahead (.slice x13 13 cv) lo hi (b.take 13) w p13 ht13 M K S (by rw [le4V_take, eM]) (by rw [← eK]; simp [bAt_take]) (by rw [List.drop_take, leV_take, eS]))
    have HV := hid hv
    have HL := hid (And.intro hl h13)
    clear hv hl h13 hM hK hS eM eK eS p13 ht13
    go_enter Try.func10, Try.ntmps10
    go_wp2_with fail
    refine (HA.out).mono ?_
    rintro e W2 ⟨rfl, k2⟩
    have kW2 := hid k2
    clear k2 sl13
    by_cases h1 : 4096 < M
    · have ER := hid (readF_bad HL.out.2 HMM.out (.inl h1))
      have c1 : decide ((4096 : Int) < (M : Int)) = true := by simp; omega
      have c1' : decide (4096 < M) = true := by simp; omega
      clear h1
      go_wp2
      (try simp only [Exit.inBlock, Exit.then])
      refine bodyPost_ret (results_tmp5 rfl _ _ _) rfl ?_
      rw [ER.out]
      exact ⟨.slice none 0 0, rfl, kW2.out, Bs.nil _ _ _⟩
    by_cases h2 : K = 0
    · have ER := hid (readF_bad HL.out.2 HMM.out (.inr (.inl h2)))
      subst h2
      have c1 : decide ((4096 : Int) < (M : Int)) = false := by simp; omega
      have c1' : decide (4096 < M) = false := by simp; omega
      clear h1
      go_wp2
      (try simp only [Exit.inBlock, Exit.then])
      refine bodyPost_ret (results_tmp5 rfl _ _ _) rfl ?_
      rw [ER.out]
      exact ⟨.slice none 0 0, rfl, kW2.out, Bs.nil _ _ _⟩
    by_cases h3 : 9223372036854775807 < S
    · have ER := hid (readF_bad HL.out.2 HMM.out (.inr (.inr h3)))
      have c1 : decide ((4096 : Int) < (M : Int)) = false := by simp; omega
      have c1' : decide (4096 < M) = false := by simp; omega
      have c2 : ((K : Int) == 0) = false := by simp; omega
      have c2' : ¬ K = 0 := h2
      have c3 := (lt_lit h3).1
      have c3' := (lt_lit h3).2
      clear h1 h2 h3
      go_wp2
      (try simp only [Exit.inBlock, Exit.then])
      refine bodyPost_ret (results_tmp5 rfl _ _ _) rfl ?_
      rw [ER.out]
      exact ⟨.slice none 0 0, rfl, kW2.out, Bs.nil _ _ _⟩
    have HN := hid (show ¬ (4096 < M ∨ K = 0 ∨ 9223372036854775807 < S) from fun h => h.elim h1 (fun h => h.elim h2 h3))
    have c1 : decide ((4096 : Int) < (M : Int)) = false := by simp; omega
    have c1' : decide (4096 < M) = false := by simp; omega
    have c2 : ((K : Int) == 0) = false := by simp; omega
    have c2' : ¬ K = 0 := h2
    have c3 := (le_lit h3).1
    have c3' := (le_lit h3).2
    obtain ⟨P, hP⟩ : ∃ P, P = 13 + M := ⟨_, rfl⟩
    obtain ⟨Q, hQ⟩ : ∃ Q, Q = 21 + M := ⟨_, rfl⟩
    have HP := hid (sums13 (Nat.le_of_not_lt h1) hP hQ)
    have HMS := hid (And.intro (Nat.le_of_not_lt h1) (Nat.le_of_not_lt h3))
    have HPQ := hid (And.intro hP hQ)
    have cM : IntKind.i64.wrap (M : Int) = (M : Int) := wrapI _ (by omega) (by omega)
    have cM' : wrap64 (M : Int) = (M : Int) := wrapIn _ (by omega) (by omega)
    clear hP hQ h1 h2 h3
    by_cases h4 : b.length < Q
    · have ER := hid (readF_short HL.out.2 HMM.out HN.out (by rw [← HPQ.out.2]; exact h4))
      have c4 : decide ((b.length : Int) < (Q : Int)) = true := by simp; omega
      have c4' : decide (b.length < Q) = true := by simpa using h4
      clear h4
      obtain ⟨p1, p2, _⟩ := HP.out.1
      go_wp2
      (try simp only [Exit.inBlock, Exit.then])
      refine bodyPost_ret (results_tmp5 rfl _ _ _) rfl ?_
      rw [ER.out]
      exact ⟨.slice none 0 0, rfl, kW2.out, Bs.nil _ _ _⟩
    · have c4 : decide ((b.length : Int) < (Q : Int)) = false := by simp; omega
      have c4' : decide (b.length < Q) = false := by simp; omega
      have HQL := hid h4
      clear h4
      obtain ⟨p1, p2, p3⟩ := HP.out.1
      obtain ⟨a6, hsl6, hv6⟩ := slice_mid tBytes zBytes HV.out .i64 .i64 (13 : Int) (P : Int) (by decide) (by have := HPQ.out.1; omega) (by have := HPQ.out; have := HQL.out; omega)
      obtain ⟨a7, hsl7, hv7⟩ := slice_mid tBytes zBytes HV.out .i64 .i64 (P : Int) (Q : Int) (by omega) (by have := HPQ.out; omega) (by have := HQL.out; omega)
      simp only [Int.toNat_natCast, show (13 : Int).toNat = 13 from rfl] at hsl6 hv6 hsl7 hv7
      rw [show P - 13 = M by have := HPQ.out.1; omega] at hsl6 hv6
      rw [show Q - P = 8 by have := HPQ.out; omega] at hsl7 hv7
      obtain ⟨BD, hBD⟩ : ∃ BD, BD = (b.drop 13).take M := ⟨_, rfl⟩
      have HBD := hid hBD
      have HV6 := hid (show Bs w lo hi (.slice a6 M (cv - 13)) BD by
        unfold Bs
        rw [hBD, show (b.drop 13).take M = (b.take P).drop 13 by rw [List.drop_take]; congr 1; have := HPQ.out.1; omega, List.map_drop, List.map_take]
        exact hv6)
      have HV7 := hid (show Bs w lo hi (.slice a7 8 (cv - P)) ((b.drop P).take 8) by
        unfold Bs
        rw [show (b.drop P).take 8 = (b.take Q).drop P by rw [List.drop_take]; congr 1; have := HPQ.out; omega, List.map_drop, List.map_take]
        exact hv7)
      obtain ⟨MK, hMK⟩ : ∃ MK, MK = markF (K : Int) (S : Int) BD := ⟨_, rfl⟩
      have HMK := hid hMK.symm
      have HML := hid (show MK.length = 8 by rw [hMK]; simp [markF, sumB_len])
      have HS1 := hid (wrapI (S : Int) (by omega) (Int.lt_of_le_of_lt (Int.ofNat_le.2 HMS.out.2) (by decide)))
      have hBDl : BD.length ≤ 1099511627000 := by rw [hBD, List.length_take]; have := HMS.out.1; omega
      have HMC := hid (fun W (hW : Kept None w W) => (by
        have h := sum (K : Int) (S : Int) (.slice a6 M (cv - 13)) lo hi BD W (HV6.out.kept hW (fun _ _ _ h => h)) (by omega) (by have := HKB.out; omega) (by omega) (Int.lt_of_le_of_lt (Int.ofNat_le.2 HMS.out.2) (by decide)) hBDl
        rw [← hMK] at h
        exact h))
      have HCl := hid (fun W (hW : Kept None w W) => Bin.clone (.slice a6 M (cv - 13)) lo hi BD W (HV6.out.kept hW (fun _ _ _ h => h)) (Nat.le_trans hBDl (by decide)))
      obtain ⟨X, hX⟩ : ∃ X, X = (b.drop P).take 8 := ⟨_, rfl⟩
      rw [← hX] at HV7
      obtain ⟨q, hq⟩ : ∃ q, q = (X == MK) := ⟨_, rfl⟩
      have HEQ := hid (fun W u lo' hi' (hW : Kept None w W) (hu : Bs W lo' hi' u MK) => by
        have h := eqB X MK (.slice a7 8 (cv - P)) u lo hi lo' hi' W (HV7.out.kept hW (fun _ _ _ h => h)) hu
        rw [← hq] at h
        exact h)
      have HX := hid (And.intro hX hq)
      clear hv6 hv7 hBD hMK hBDl hX hq
      go_wp2_with fail
      clear p1 p2 p3 c1 c1' c2 c2' c3 c3' c4 c4' d1 d2 cM cM'
      have hs : Steady [.bytes 7 MK, .val 8 (.bool q) [7]] := Go.Pm.Steady.bytes (Go.Pm.Steady.val (Go.Pm.Steady.nil))
      refine wp_region_kn W2 _ hs (Kept.refl _ _) (by kernel_rfl) (by kernel_rfl) (by kernel_rfl) ?_
      iterate 7 (refine wpPar_pure rfl (by rfl) _ (fun W hW => by
          have p1 := HP.out.1.1
          have p2 := HP.out.1.2.1
          go_simp
          exact rfl) ?_; simp only [Act.put, List.setIfInBounds_toArray, List.set_cons_zero, List.set_cons_succ])
      refine wpKn_adds hs rfl (by rfl) (fun W hW hd => ?_) (fun v52 hv => ?_)
      · unfold Gives
        go_simp
        refine gives_call (HMC.out _ (kW2.out.trans hW)) ?_
        rintro e w3 ⟨a, c, rfl, k3, b3⟩
        exact ⟨_, rfl, k3, ⟨_, _, by rw [HML.out]⟩, _, _, b3⟩
      obtain ⟨a8, c8, rfl⟩ : ∃ a c, v52 = .slice a (MK).length c := hv
      simp only [Act.put, List.setIfInBounds_toArray, List.set_cons_zero, List.set_cons_succ]
      refine wpKn_adds hs rfl (by rfl) (fun W hW hd => ?_) (fun v53 hv => ?_)
      · unfold Gives
        obtain ⟨lo', hi', hb⟩ : ∃ lo hi, Bs W lo hi (.slice a8 (MK).length c8) (MK) := hd 7 (List.Mem.head _)
        go_simp
        refine gives_call (HEQ.out W _ lo' hi' (kW2.out.trans hW) hb) ?_
        rintro e w3 ⟨rfl, k3⟩
        exact ⟨_, rfl, k3, rfl, trivial⟩
      obtain rfl : v53 = .bool q := hv
      simp only [Act.put, List.setIfInBounds_toArray, List.set_cons_zero, List.set_cons_succ]
      iterate 1 (refine wpPar_pure rfl (by rfl) _ (fun W hW => by
          have p1 := HP.out.1.1
          have p2 := HP.out.1.2.1
          go_simp
          exact rfl) ?_; simp only [Act.put, List.setIfInBounds_toArray, List.set_cons_zero, List.set_cons_succ])
      refine wpPar_nil (fun W3 hW3 hG => ?_)
      have k3 := kW2.out.trans hW3
      clear hG hs hW3
      have K3 := hid k3
      clear k3
      cases q with
      | true =>
        have hm : MK = X := (eq_of_beq HX.out.2.symm).symm
        have ER := hid (readF_ok HL.out.2 HMM.out HN.out (by rw [← HPQ.out.2]; exact HQL.out) (by rw [← HPQ.out.1, ← HX.out.1, ← HBD.out, ← hm]; exact HMK.out))
        clear hm
        have cs1 := HS1.out
        have ck := HKw.out
        have p1 := HP.out.1.1
        have p2 := HP.out.1.2.1
        go_wp2_with fail
        refine (HCl.out _ K3.out).mono ?_
        rintro e w4 ⟨u4, rfl, k4, b4⟩
        have kk := K3.out.trans k4
        have hb := (b4.bs (Nat.le_refl _)).all
        clear b4 k4
        go_wp2
        (try simp only [Exit.inBlock, Exit.then])
        refine bodyPost_ret (results_tmp5 rfl _ _ _) rfl ?_
        rw [ER.out]
        refine ⟨u4, ?_, kk, by rw [← HBD.out]; exact hb⟩
        rw [← HPQ.out.2]
        rfl
      | false =>
        have hm : ¬ MK = X := fun h => by have := HX.out.2; rw [h] at this; simp at this
        have ER := hid (readF_sum HL.out.2 HMM.out HN.out (by rw [← HPQ.out.2]; exact HQL.out) (by rw [← HPQ.out.1, ← HX.out.1, ← HBD.out, HMK.out]; exact hm))
        clear hm
        go_wp2
        (try simp only [Exit.inBlock, Exit.then])
        refine bodyPost_ret (results_tmp5 rfl _ _ _) rfl ?_
        rw [ER.out]
        exact ⟨.slice none 0 0, rfl, K3.out, Bs.nil _ _ _⟩
end Fm
end Go.Proofs.Ytkjidligfcihgaa
