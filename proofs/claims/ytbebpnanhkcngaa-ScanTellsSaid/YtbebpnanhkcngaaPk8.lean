/- Texts joined: FmAhead13, FmRead13, JrnRd14, ScnR15, ScnW15, ScnBs15. -/
import Derived.Test.YtbebpnanhkcngaaPk7
import Derived.Test.YtbebpnanhkcngaaPk5
namespace Go.Proofs.Ytbebpnanhkcngaa
open Go.RowKit Go.Pm
namespace Fm
set_option maxHeartbeats 1000000 in
/-- bytes.Equal. -/
theorem eqB (a b : List UInt8) (v u : Value) (lo hi lo' hi' : Nat) (w : World) (hv : Bs w lo hi v a) (hu : Bs w lo' hi' u b) : Calls Try.prog 42 #[v, u] w fun e w' => e = .returned (.bool (a == b)) ∧ Kept None w w' := by
  have c1 := cvBytes hv
  have c2 := cvBytes hu
  go_enter Try.func42, Try.ntmps42
  go_wp2
  go_ret
  exact ⟨rfl, Kept.refl _ _⟩
set_option maxRecDepth 100000 in
set_option maxHeartbeats 2000000 in
/-- frame.number. -/
theorem number (v : Value) (lo hi : Nat) (l : List UInt8) (w : World) (hv : Bs w lo hi v l) (hl : l.length ≤ 8) :
    Calls Try.prog 79 #[v] w fun e w' => e = .returned (.int .u64 (leV (l ++ List.replicate (8 - l.length) 0))) ∧ Kept None w w' := by
  obtain ⟨av, cv, rfl, _⟩ := hv.shape
  obtain ⟨N, hN⟩ : ∃ N, N = 8 - l.length := ⟨_, rfl⟩
  have r1 : (8 : Int) - (l.length : Int) = (N : Int) := by omega
  rw [← hN]
  obtain ⟨i0, hi0, hz0, hz1, hz2⟩ := info_parts infoByte
  have hmk : ∀ W, (Instr.makeSlice 22 (.int .i64 (N : Int)) (.int .i64 (N : Int))).run Try.prog W = .ok (.slice (some ⟨W.heap.size, 0, none⟩) N N) (W.alloc (.cells (madeCells (Value.cells (.int .u8 0)) N) 5)) := fun W => by
    have := run_makeSlice (P := Try.prog) W 22 5 i0 (.int .u8 0) tBytes' hi0 hz0 .i64 .i64 (N : Int) (N : Int) (by omega) (Int.le_refl _) (by rw [hz1]; omega) (by rw [hz2]; omega) (by omega)
    rw [show ((N : Int)).toNat = N by omega, hz1, Nat.mul_one] at this
    exact this
  have hbs : ∀ W : World, Bs (W.alloc (.cells (madeCells (Value.cells (.int .u8 0)) N) 5)) W.heap.size (W.heap.size + 1) (.slice (some ⟨W.heap.size, 0, none⟩) N N) (List.replicate N 0) := fun W => Bs.newMark W _ 5 (0, 0) N (by simp [madeCells]) (by omega) (List.replicate N 0) (by rw [List.map_replicate]; exact toList_madeCells_one _ _)
  obtain ⟨C, hC⟩ : ∃ C, C = madeCells (Value.cells (.int .u8 0)) N := ⟨_, rfl⟩
  simp only [← hC] at hmk hbs
  have HBS := hid hbs
  have HV := hid hv
  obtain ⟨L, hL⟩ : ∃ L, L = l ++ List.replicate N 0 := ⟨_, rfl⟩
  have hL8 : L.length = 8 := by rw [hL, List.length_append, List.length_replicate]; omega
  have hJ : [l, List.replicate N 0].flatten = L := by rw [hL]; simp
  have HJ := hid (fun W v lo hi lo' hi' h => Bin.join v lo hi lo' hi' [l, List.replicate N 0] W h (by unfold total; rw [hJ, hL8]; decide))
  rw [hJ] at HJ
  rw [← hL]
  have HN := hid (fun W v lo hi h => Bin.new v lo hi L W h (by rw [hL8]; decide))
  have HR := hid (fun W r lo h => Bin.rnum r lo r ⟨L, 0⟩ W h (Nat.le_refl _))
  have hnum : (St.mk L 0).num = leV L := if_pos ⟨rfl, by show 8 ≤ L.length; rw [hL8]; exact Nat.le_refl _⟩
  rw [hnum] at HR
  clear hi0 hz0 hz1 hz2 hC hv hN hL hL8 hJ hnum hbs hl
  go_enter Try.func79, Try.ntmps79
  go_wp2_with fail
  have hbs := Bss.new (w.alloc (.cells C 5)) #[.slice av l.length cv, .slice (some ⟨w.heap.size, 0, none⟩) N N] 22 [l, List.replicate N 0] 2 rfl (by decide) ⟨(HV.out.kept ((Kept.refl None w).alloc _) (fun _ _ _ h => h)).all, (HBS.out w).all, trivial⟩
  rw [show (w.alloc (.cells C 5)).heap.size = w.heap.size + 1 by simp] at hbs
  have HB := hid hbs
  have K2 := hid (show Kept None w ((w.alloc (.cells C 5)).alloc (.cells #[.slice av l.length cv, .slice (some ⟨w.heap.size, 0, none⟩) N N] 22)) from ((Kept.refl None w).alloc _).alloc _)
  clear hbs hmk
  refine (HJ.out _ _ _ _ _ _ HB.out).mono ?_
  rintro e w3 ⟨v3, rfl, k3, b3⟩
  have K3 := hid (K2.out.trans k3)
  have B3 := hid (b3.bs (Nat.le_refl _))
  clear k3 b3
  go_wp2_with fail
  refine (HN.out _ _ _ _ B3.out).mono ?_
  rintro e w4 ⟨r, rfl, k4, hr, hR⟩
  have K4 := hid (K3.out.trans k4)
  have H4 := hid (And.intro hr hR)
  have hz3 := hid K3.out.size
  clear k4 hr hR
  go_wp2_with fail
  refine (HR.out _ _ _ H4.out.2).mono ?_
  rintro e w5 ⟨rfl, k5, _⟩
  have kk := K4.out.then k5 (fun i hi e => by have e : i = r := e; have := H4.out.1; have := hz3.out; omega)
  clear k5
  go_wp2
  go_ret
  exact ⟨rfl, kk⟩
theorem leV_four (l : List UInt8) (h : 4 ≤ l.length) : leV (l.take 4 ++ List.replicate 4 0) = le4V l := by
  match l, h with
  | a :: b :: c :: d :: r, _ =>
    show leV ([a, b, c, d] ++ [0, 0, 0, 0]) = _
    unfold leV le4V
    simp [bAt]
theorem leV_eight (l r : List UInt8) (h : 8 ≤ l.length) : leV (l.take 8 ++ r) = leV l := by
  have e : leV (l.take 8 ++ r) = leV ((l.take 8 ++ r).take 8) := (leV_take _).symm
  rw [e, List.take_left' (by simp; omega)]
  exact leV_take l
set_option maxRecDepth 100000 in
set_option maxHeartbeats 4000000 in
/-- frame.ahead: of 13 bytes. -/
theorem ahead (v : Value) (lo hi : Nat) (l : List UInt8) (w : World) (hv : Bs w lo hi v l) (hl : l.length = 13) (M K S : Nat) (eM : le4V l = (M : Int)) (eK : bAt l 4 = (K : Int)) (eS : leV (l.drop 5) = (S : Int)) :
    Calls Try.prog 56 #[v] w fun e w' => e = .returned (.tuple #[.int .u64 (M : Int), .int .u8 (K : Int), .int .u64 (S : Int)]) ∧ Kept None w w' := by
  obtain ⟨av, cv, rfl, _⟩ := hv.shape
  obtain ⟨bb, o, rfl, q1, q2, q3, hcell⟩ := hv.ne (by omega)
  have HC := hid (fun W (hW : Kept None w W) => show W.cell? ⟨bb, o + 4, none⟩ = some (.int .u8 (K : Int)) from ((hW.cell (p := ⟨bb, o + 4, none⟩) q3 (fun h => h)).trans (hcell 4 (by omega))).trans (by rw [eK]))
  obtain ⟨x1, sl1, p1⟩ := slice_to tBytes zBytes hv .i64 4 (by decide) (by omega)
  obtain ⟨x2, sl2, p2⟩ := slice_from tBytes zBytes hv .i64 5 (by decide) (by omega)
  simp only [show (4 : Int).toNat = 4 from rfl, show (5 : Int).toNat = 5 from rfl] at sl1 sl2 p1 p2
  rw [← List.map_take] at p1
  rw [← List.map_drop] at p2
  have e8 : l.length - 5 = 8 := by omega
  rw [e8] at sl2 p2
  rw [hl] at sl1 sl2
  have hc1 : (l.take 4).length = 4 := by simp; omega
  have hc2 : (l.drop 5).length = 8 := by simp; omega
  have HN1 := hid (fun W (hW : Kept None w W) => show Calls Try.prog 79 #[.slice x1 4 cv] W fun e w' => e = .returned (.int .u64 (M : Int)) ∧ Kept None W w' from by
    have h := number (.slice x1 4 cv) lo hi (l.take 4) W (Bs.kept p1 hW (fun _ _ _ h => h)) (by omega)
    rw [hc1, show 8 - 4 = 4 from rfl, leV_four l (by omega), eM] at h
    exact h)
  have HN2 := hid (fun W (hW : Kept None w W) => show Calls Try.prog 79 #[.slice x2 8 (cv - 5)] W fun e w' => e = .returned (.int .u64 (S : Int)) ∧ Kept None W w' from by
    have h := number (.slice x2 8 (cv - 5)) lo hi (l.drop 5) W (Bs.kept p2 hW (fun _ _ _ h => h)) (by omega)
    rw [hc2, show 8 - 8 = 0 from rfl, List.replicate_zero, List.append_nil, eS] at h
    exact h)
  have i4 : (4 : Int) < (l.length : Int) := by omega
  rw [hl] at i4
  clear hv hcell q1 q2 q3 p1 p2 e8 hc1 hc2 eM eK eS
  rw [hl]
  go_enter Try.func56, Try.ntmps56
  go_wp2_with fail
  have hs : Steady [.val 2 (.int .u64 (M : Int)), .val 8 (.int .u64 (S : Int))] := Go.Pm.Steady.val (Go.Pm.Steady.val Go.Pm.Steady.nil)
  refine wp_region_kn w _ hs (Kept.refl _ _) (by kernel_rfl) (by kernel_rfl) (by kernel_rfl) ?_
  iterate 2 (refine wpPar_pure rfl (by rfl) _ (fun W hW => by
      have hc1 := HC.out W hW
      go_simp
      exact rfl) ?_; simp only [Act.put, List.setIfInBounds_toArray, List.set_cons_zero, List.set_cons_succ])
  refine wpKn_adds hs rfl (by rfl) (fun W hW hd => ?_) (fun v7 hv => ?_)
  · unfold Gives
    go_simp
    refine gives_call (HN1.out W hW) ?_
    rintro e w3 ⟨rfl, k3⟩
    exact ⟨_, rfl, k3, rfl, trivial⟩
  obtain rfl : v7 = .int .u64 (M : Int) := hv
  simp only [Act.put, List.setIfInBounds_toArray, List.set_cons_zero, List.set_cons_succ]
  iterate 5 (refine wpPar_pure rfl (by rfl) _ (fun W hW => by
      have hc1 := HC.out W hW
      go_simp
      exact rfl) ?_; simp only [Act.put, List.setIfInBounds_toArray, List.set_cons_zero, List.set_cons_succ])
  refine wpKn_adds hs rfl (by rfl) (fun W hW hd => ?_) (fun v13 hv => ?_)
  · unfold Gives
    go_simp
    refine gives_call (HN2.out W hW) ?_
    rintro e w3 ⟨rfl, k3⟩
    exact ⟨_, rfl, k3, rfl, trivial⟩
  obtain rfl : v13 = .int .u64 (S : Int) := hv
  simp only [Act.put, List.setIfInBounds_toArray, List.set_cons_zero, List.set_cons_succ]
  iterate 3 (refine wpPar_pure rfl (by rfl) _ (fun W hW => by
      have hc1 := HC.out W hW
      go_simp
      exact rfl) ?_; simp only [Act.put, List.setIfInBounds_toArray, List.set_cons_zero, List.set_cons_succ])
  refine wpPar_nil (fun W hW hG => ?_)
  have hk : Kept None w W := hW
  clear hG hs hW sl1 sl2
  go_wp2
  go_ret3
  exact ⟨rfl, hk⟩
end Fm
end Go.Proofs.Ytbebpnanhkcngaa
namespace Go.Proofs.Ytbebpnanhkcngaa
open Go.RowKit Go.Pm
namespace Fm
theorem le4V_take (b : List UInt8) : le4V (b.take 13) = le4V b := by unfold le4V; simp [bAt_take]
set_option maxRecDepth 100000 in
set_option maxHeartbeats 8000000 in
theorem read : ReadC := by
  intro v lo hi b w hv hl
  obtain ⟨av, cv, rfl, g1, g2, g3⟩ := hv.shape
  by_cases h13 : b.length < 13
  · have er : readF b = ⟨0, 0, [], 0, 21⟩ := by unfold readF; rw [if_pos h13]
    rw [er]
    have d1 : decide ((b.length : Int) < 13) = true := by simp; omega
    have d2 : decide (b.length < 13) = true := by simpa using h13
    clear er hv h13 g3
    go_enter Try.func39, Try.ntmps39
    go_wp2
    (try simp only [Exit.inBlock, Exit.then])
    refine bodyPost_ret (results_tmp5 rfl _ _ _) rfl ?_
    exact ⟨.slice none 0 0, rfl, Kept.refl _ _, Bs.nil _ _ _⟩
  · have d1 : decide ((b.length : Int) < 13) = false := by simp; omega
    have d2 : decide (b.length < 13) = false := by simp; omega
    obtain ⟨M, hM⟩ : ∃ M : Nat, M = (le4V b).toNat := ⟨_, rfl⟩
    obtain ⟨K, hK⟩ : ∃ K : Nat, K = (b.getD 4 0).toNat := ⟨_, rfl⟩
    obtain ⟨S, hS⟩ : ∃ S : Nat, S = (leV (b.drop 5)).toNat := ⟨_, rfl⟩
    have eM : le4V b = (M : Int) := by rw [hM, Int.toNat_of_nonneg (le4V_ge b)]
    have eK : bAt b 4 = (K : Int) := by rw [hK]; rfl
    have eS : leV (b.drop 5) = (S : Int) := by rw [hS, Int.toNat_of_nonneg (leV_ge _)]
    have HMM := hid (And.intro eM (And.intro eK eS))
    have HKB := hid (show K < 256 by have := bAt_lt b 4; omega)
    have HKw := hid (wrapI (K : Int) (by omega) (by have := HKB.out; omega))
    clear g2 g3
    obtain ⟨x13, sl13, p13⟩ := slice_to tBytes zBytes hv .i64 13 (by decide) (by omega)
    simp only [show (13 : Int).toNat = 13 from rfl] at sl13 p13
    rw [← List.map_take] at p13
    have ht13 : (b.take 13).length = 13 := by simp; omega
    have HA := hid (ahead (.slice x13 13 cv) lo hi (b.take 13) w p13 ht13 M K S (by rw [le4V_take, eM]) (by rw [← eK]; simp [bAt_take]) (by rw [List.drop_take, leV_take, eS]))
    have HV := hid hv
    have HL := hid (And.intro hl h13)
    clear hv hl h13 hM hK hS eM eK eS p13 ht13
    go_enter Try.func39, Try.ntmps39
    go_wp2_with fail
    refine (HA.out).mono ?_
    rintro e W2 ⟨rfl, k2⟩
    have kW2 := hid k2
    clear k2 sl13
    by_cases h1 : 4096 < M
    · have ER := hid (readF_bad HL.out.2 HMM.out (.inl h1))
      have c1 : decide ((4096 : Int) < (M : Int)) = true := by simp; omega
      have c1' : decide (4096 < M) = true := by simp; omega
      clear h1
      go_wp2
      (try simp only [Exit.inBlock, Exit.then])
      refine bodyPost_ret (results_tmp5 rfl _ _ _) rfl ?_
      rw [ER.out]
      exact ⟨.slice none 0 0, rfl, kW2.out, Bs.nil _ _ _⟩
    by_cases h2 : K = 0
    · have ER := hid (readF_bad HL.out.2 HMM.out (.inr (.inl h2)))
      subst h2
      have c1 : decide ((4096 : Int) < (M : Int)) = false := by simp; omega
      have c1' : decide (4096 < M) = false := by simp; omega
      clear h1
      go_wp2
      (try simp only [Exit.inBlock, Exit.then])
      refine bodyPost_ret (results_tmp5 rfl _ _ _) rfl ?_
      rw [ER.out]
      exact ⟨.slice none 0 0, rfl, kW2.out, Bs.nil _ _ _⟩
    by_cases h3 : 9223372036854775807 < S
    · have ER := hid (readF_bad HL.out.2 HMM.out (.inr (.inr h3)))
      have c1 : decide ((4096 : Int) < (M : Int)) = false := by simp; omega
      have c1' : decide (4096 < M) = false := by simp; omega
      have c2 : ((K : Int) == 0) = false := by simp; omega
      have c2' : ¬ K = 0 := h2
      have c3 := (lt_lit h3).1
      have c3' := (lt_lit h3).2
      clear h1 h2 h3
      go_wp2
      (try simp only [Exit.inBlock, Exit.then])
      refine bodyPost_ret (results_tmp5 rfl _ _ _) rfl ?_
      rw [ER.out]
      exact ⟨.slice none 0 0, rfl, kW2.out, Bs.nil _ _ _⟩
    have HN := hid (show ¬ (4096 < M ∨ K = 0 ∨ 9223372036854775807 < S) from fun h => h.elim h1 (fun h => h.elim h2 h3))
    have c1 : decide ((4096 : Int) < (M : Int)) = false := by simp; omega
    have c1' : decide (4096 < M) = false := by simp; omega
    have c2 : ((K : Int) == 0) = false := by simp; omega
    have c2' : ¬ K = 0 := h2
    have c3 := (le_lit h3).1
    have c3' := (le_lit h3).2
    obtain ⟨P, hP⟩ : ∃ P, P = 13 + M := ⟨_, rfl⟩
    obtain ⟨Q, hQ⟩ : ∃ Q, Q = 21 + M := ⟨_, rfl⟩
    have HP := hid (sums13 (Nat.le_of_not_lt h1) hP hQ)
    have HMS := hid (And.intro (Nat.le_of_not_lt h1) (Nat.le_of_not_lt h3))
    have HPQ := hid (And.intro hP hQ)
    have cM : IntKind.i64.wrap (M : Int) = (M : Int) := wrapI _ (by omega) (by omega)
    have cM' : wrap64 (M : Int) = (M : Int) := wrapIn _ (by omega) (by omega)
    clear hP hQ h1 h2 h3
    by_cases h4 : b.length < Q
    · have ER := hid (readF_short HL.out.2 HMM.out HN.out (by rw [← HPQ.out.2]; exact h4))
      have c4 : decide ((b.length : Int) < (Q : Int)) = true := by simp; omega
      have c4' : decide (b.length < Q) = true := by simpa using h4
      clear h4
      obtain ⟨p1, p2, _⟩ := HP.out.1
      go_wp2
      (try simp only [Exit.inBlock, Exit.then])
      refine bodyPost_ret (results_tmp5 rfl _ _ _) rfl ?_
      rw [ER.out]
      exact ⟨.slice none 0 0, rfl, kW2.out, Bs.nil _ _ _⟩
    · have c4 : decide ((b.length : Int) < (Q : Int)) = false := by simp; omega
      have c4' : decide (b.length < Q) = false := by simp; omega
      have HQL := hid h4
      clear h4
      obtain ⟨p1, p2, p3⟩ := HP.out.1
      obtain ⟨a6, hsl6, hv6⟩ := slice_mid tBytes zBytes HV.out .i64 .i64 (13 : Int) (P : Int) (by decide) (by have := HPQ.out.1; omega) (by have := HPQ.out; have := HQL.out; omega)
      obtain ⟨a7, hsl7, hv7⟩ := slice_mid tBytes zBytes HV.out .i64 .i64 (P : Int) (Q : Int) (by omega) (by have := HPQ.out; omega) (by have := HQL.out; omega)
      simp only [Int.toNat_natCast, show (13 : Int).toNat = 13 from rfl] at hsl6 hv6 hsl7 hv7
      rw [show P - 13 = M by have := HPQ.out.1; omega] at hsl6 hv6
      rw [show Q - P = 8 by have := HPQ.out; omega] at hsl7 hv7
      obtain ⟨BD, hBD⟩ : ∃ BD, BD = (b.drop 13).take M := ⟨_, rfl⟩
      have HBD := hid hBD
      have HV6 := hid (show Bs w lo hi (.slice a6 M (cv - 13)) BD by
        unfold Bs
        rw [hBD, show (b.drop 13).take M = (b.take P).drop 13 by rw [List.drop_take]; congr 1; have := HPQ.out.1; omega, List.map_drop, List.map_take]
        exact hv6)
      have HV7 := hid (show Bs w lo hi (.slice a7 8 (cv - P)) ((b.drop P).take 8) by
        unfold Bs
        rw [show (b.drop P).take 8 = (b.take Q).drop P by rw [List.drop_take]; congr 1; have := HPQ.out; omega, List.map_drop, List.map_take]
        exact hv7)
      obtain ⟨MK, hMK⟩ : ∃ MK, MK = markF (K : Int) (S : Int) BD := ⟨_, rfl⟩
      have HMK := hid hMK.symm
      have HML := hid (show MK.length = 8 by rw [hMK]; simp [markF, sumB_len])
      have HS1 := hid (wrapI (S : Int) (by omega) (Int.lt_of_le_of_lt (Int.ofNat_le.2 HMS.out.2) (by decide)))
      have hBDl : BD.length ≤ 1099511627000 := by rw [hBD, List.length_take]; have := HMS.out.1; omega
      have HMC := hid (fun W (hW : Kept None w W) => (by
        have h := sum (K : Int) (S : Int) (.slice a6 M (cv - 13)) lo hi BD W (HV6.out.kept hW (fun _ _ _ h => h)) (by omega) (by have := HKB.out; omega) (by omega) (Int.lt_of_le_of_lt (Int.ofNat_le.2 HMS.out.2) (by decide)) hBDl
        rw [← hMK] at h
        exact h))
      have HCl := hid (fun W (hW : Kept None w W) => Bin.clone (.slice a6 M (cv - 13)) lo hi BD W (HV6.out.kept hW (fun _ _ _ h => h)) (Nat.le_trans hBDl (by decide)))
      obtain ⟨X, hX⟩ : ∃ X, X = (b.drop P).take 8 := ⟨_, rfl⟩
      rw [← hX] at HV7
      obtain ⟨q, hq⟩ : ∃ q, q = (X == MK) := ⟨_, rfl⟩
      have HEQ := hid (fun W u lo' hi' (hW : Kept None w W) (hu : Bs W lo' hi' u MK) => by
        have h := eqB X MK (.slice a7 8 (cv - P)) u lo hi lo' hi' W (HV7.out.kept hW (fun _ _ _ h => h)) hu
        rw [← hq] at h
        exact h)
      have HX := hid (And.intro hX hq)
      clear hv6 hv7 hBD hMK hBDl hX hq
      go_wp2_with fail
      clear p1 p2 p3 c1 c1' c2 c2' c3 c3' c4 c4' d1 d2 cM cM'
      have hs : Steady [.bytes 7 MK, .val 8 (.bool q) [7]] := Go.Pm.Steady.bytes (Go.Pm.Steady.val (Go.Pm.Steady.nil))
      refine wp_region_kn W2 _ hs (Kept.refl _ _) (by kernel_rfl) (by kernel_rfl) (by kernel_rfl) ?_
      iterate 7 (refine wpPar_pure rfl (by rfl) _ (fun W hW => by
          have p1 := HP.out.1.1
          have p2 := HP.out.1.2.1
          go_simp
          exact rfl) ?_; simp only [Act.put, List.setIfInBounds_toArray, List.set_cons_zero, List.set_cons_succ])
      refine wpKn_adds hs rfl (by rfl) (fun W hW hd => ?_) (fun v52 hv => ?_)
      · unfold Gives
        go_simp
        refine gives_call (HMC.out _ (kW2.out.trans hW)) ?_
        rintro e w3 ⟨a, c, rfl, k3, b3⟩
        exact ⟨_, rfl, k3, ⟨_, _, by rw [HML.out]⟩, _, _, b3⟩
      obtain ⟨a8, c8, rfl⟩ : ∃ a c, v52 = .slice a (MK).length c := hv
      simp only [Act.put, List.setIfInBounds_toArray, List.set_cons_zero, List.set_cons_succ]
      refine wpKn_adds hs rfl (by rfl) (fun W hW hd => ?_) (fun v53 hv => ?_)
      · unfold Gives
        obtain ⟨lo', hi', hb⟩ : ∃ lo hi, Bs W lo hi (.slice a8 (MK).length c8) (MK) := hd 7 (List.Mem.head _)
        go_simp
        refine gives_call (HEQ.out W _ lo' hi' (kW2.out.trans hW) hb) ?_
        rintro e w3 ⟨rfl, k3⟩
        exact ⟨_, rfl, k3, rfl, trivial⟩
      obtain rfl : v53 = .bool q := hv
      simp only [Act.put, List.setIfInBounds_toArray, List.set_cons_zero, List.set_cons_succ]
      iterate 1 (refine wpPar_pure rfl (by rfl) _ (fun W hW => by
          have p1 := HP.out.1.1
          have p2 := HP.out.1.2.1
          go_simp
          exact rfl) ?_; simp only [Act.put, List.setIfInBounds_toArray, List.set_cons_zero, List.set_cons_succ])
      refine wpPar_nil (fun W3 hW3 hG => ?_)
      have k3 := kW2.out.trans hW3
      clear hG hs hW3
      have K3 := hid k3
      clear k3
      cases q with
      | true =>
        have hm : MK = X := (eq_of_beq HX.out.2.symm).symm
        have ER := hid (readF_ok HL.out.2 HMM.out HN.out (by rw [← HPQ.out.2]; exact HQL.out) (by rw [← HPQ.out.1, ← HX.out.1, ← HBD.out, ← hm]; exact HMK.out))
        clear hm
        have cs1 := HS1.out
        have ck := HKw.out
        have p1 := HP.out.1.1
        have p2 := HP.out.1.2.1
        go_wp2_with fail
        refine (HCl.out _ K3.out).mono ?_
        rintro e w4 ⟨u4, rfl, k4, b4⟩
        have kk := K3.out.trans k4
        have hb := (b4.bs (Nat.le_refl _)).all
        clear b4 k4
        go_wp2
        (try simp only [Exit.inBlock, Exit.then])
        refine bodyPost_ret (results_tmp5 rfl _ _ _) rfl ?_
        rw [ER.out]
        refine ⟨u4, ?_, kk, by rw [← HBD.out]; exact hb⟩
        rw [← HPQ.out.2]
        rfl
      | false =>
        have hm : ¬ MK = X := fun h => by have := HX.out.2; rw [h] at this; simp at this
        have ER := hid (readF_sum HL.out.2 HMM.out HN.out (by rw [← HPQ.out.2]; exact HQL.out) (by rw [← HPQ.out.1, ← HX.out.1, ← HBD.out, HMK.out]; exact hm))
        clear hm
        go_wp2
        (try simp only [Exit.inBlock, Exit.then])
        refine bodyPost_ret (results_tmp5 rfl _ _ _) rfl ?_
        rw [ER.out]
        exact ⟨.slice none 0 0, rfl, K3.out, Bs.nil _ _ _⟩
end Fm
end Go.Proofs.Ytbebpnanhkcngaa
namespace Go.Proofs.Ytbebpnanhkcngaa
open Go.RowKit Go.Pm
namespace Jr
set_option maxRecDepth 100000 in
set_option maxHeartbeats 8000000 in
theorem read : ReadC := by
  intro vv lo hi b w hv0 hl
  have hv := hv0.all
  clear hv0
  obtain ⟨av, cv, rfl, _⟩ := hv.shape
  have hR := fun W (h : Bs W 0 w.heap.size (.slice av b.length cv) b) => Fm.read _ _ _ b W h hl
  obtain ⟨K, S, L, m, E, hF⟩ : ∃ K S L m E, readF b = ⟨K, S, L, m, E⟩ := ⟨_, _, _, _, _, rfl⟩
  simp only [hF] at hR
  have HR := hid hR
  have k0 : Kept None w (w.alloc (.cells #[.int .i64 0, .int .i64 0, .int .i64 0, .int .i64 0, .string ⟨#[]⟩, .int .i64 0, .int .u64 0, .int .i64 0, .int .u64 0, .int .u64 0, .int .i64 0, .int .i64 0] 45)) := (Kept.refl _ _).alloc _
  have HV0 := hid (hv.kept k0 (fun _ _ _ h => h))
  have hZ0 := hid (Blk.new w #[.int .i64 0, .int .i64 0, .int .i64 0, .int .i64 0, .string ⟨#[]⟩, .int .i64 0, .int .u64 0, .int .i64 0, .int .u64 0, .int .u64 0, .int .i64 0, .int .i64 0] 45)
  clear hR hv
  by_cases hE : E = 0
  · subst hE
    have ht := readF_take (b := b) (by rw [hF])
    rw [hF] at ht
    simp only at ht
    have HT := hid ht
    have HFF := hid hF
    have HFL := hid (fun W v lo hi (h : Bs W lo hi v L) => fields K v lo hi L W h (by have := ht.2.1; omega))
    have hk := fldJ_kind K L
    have hw := fldJ_words K L
    have hc : okJ K S L = true → _ := fun h => fldJ_cand (K := K) (S := S) (L := L) h
    obtain ⟨⟨kd, sq, g, c, ⟨n, v, k, cl, rr, ss⟩, t, e⟩, hfl⟩ : ∃ r, r = fldJ K L := ⟨_, rfl⟩
    rw [← hfl] at hk hw HFL
    simp only [← hfl] at hc
    simp only at hk hw
    have hres := readJ_of2 hF (⟨kd, S, g, c, ⟨n, v, k, cl, rr, ss⟩, t, e⟩ : Rec) hk rfl hw hc
    have HRT := hid (fun W => right (⟨kd, S, g, c, ⟨n, v, k, cl, rr, ss⟩, t, e⟩ : Rec) W)
    have HBD := hid (fun W (h : rightJ (⟨kd, S, g, c, ⟨n, v, k, cl, rr, ss⟩, t, e⟩ : Rec) = true) => body (⟨kd, S, g, c, ⟨n, v, k, cl, rr, ss⟩, t, e⟩ : Rec) W h hw)
    have HEQ := hid (fun W v1 v2 lo hi lo' hi' hv hu => Fm.eqB (bodyJ (⟨kd, S, g, c, ⟨n, v, k, cl, rr, ss⟩, t, e⟩ : Rec)) L v1 v2 lo hi lo' hi' W hv hu)
    obtain ⟨X, hX⟩ : ∃ X, X = rightJ (⟨kd, S, g, c, ⟨n, v, k, cl, rr, ss⟩, t, e⟩ : Rec) := ⟨_, rfl⟩
    obtain ⟨D, hD⟩ : ∃ D, D = bodyJ (⟨kd, S, g, c, ⟨n, v, k, cl, rr, ss⟩, t, e⟩ : Rec) := ⟨_, rfl⟩
    rw [← hX] at HRT HBD hres
    rw [← hD] at HBD HEQ hres
    have hres : readJ b = if X = true ∧ D = L then ⟨(⟨kd, S, g, c, ⟨n, v, k, cl, rr, ss⟩, t, e⟩ : Rec), m, 0⟩ else ⟨Rec.none, 0, 20⟩ := hres
    have HRS := hid hres
    unfold Rec.V Rec.C at HRT HBD HFL
    clear hF ht hk hw hc hfl hX hD hres
    go_enter Try.func24, Try.ntmps24
    go_wp2_with fail
    refine (HR.out _ HV0.out).mono ?_
    rintro e1 w1 ⟨u1, rfl, k1, b1⟩
    obtain ⟨a1, c1, rfl, _⟩ := b1.shape
    have BZ1 := hid (hZ0.out.kept k1 (fun h => h))
    have K1 := hid (k0.trans k1)
    have B1 := hid b1
    clear k1 b1 hZ0 HV0 HR k0
    go_wp2_with fail
    refine (HFL.out _ _ _ _ B1.out).mono ?_
    rintro e1 w2 ⟨rfl, k2⟩
    have BZ2 := hid (BZ1.out.kept k2 (fun h => h))
    have K2 := hid (K1.out.trans k2)
    have B2 := hid (B1.out.kept k2 (fun _ _ _ h => h))
    clear k2 BZ1 K1 B1 HFL
    go_upto_region 6 with fail
    have BZ3 := hid (BZ2.out.alloc (.cells #[.int .i64 kd, .int .i64 S, .int .i64 g, .int .i64 c, .string n, .int .i64 v, .int .u64 (k : Int), .int .i64 cl, .int .u64 (rr : Int), .int .u64 (ss : Int), .int .i64 t, .int .i64 e] 45))
    have K3 := hid (K2.out.alloc (.cells #[.int .i64 kd, .int .i64 S, .int .i64 g, .int .i64 c, .string n, .int .i64 v, .int .u64 (k : Int), .int .i64 cl, .int .u64 (rr : Int), .int .u64 (ss : Int), .int .i64 t, .int .i64 e] 45))
    have B3 := hid (B2.out.kept ((Kept.refl None w2).alloc (.cells #[.int .i64 kd, .int .i64 S, .int .i64 g, .int .i64 c, .string n, .int .i64 v, .int .u64 (k : Int), .int .i64 cl, .int .u64 (rr : Int), .int .u64 (ss : Int), .int .i64 t, .int .i64 e] 45)) (fun _ _ _ h => h))
    have A3 := hid (Blk.new w2 #[.int .i64 kd, .int .i64 S, .int .i64 g, .int .i64 c, .string n, .int .i64 v, .int .u64 (k : Int), .int .i64 cl, .int .u64 (rr : Int), .int .u64 (ss : Int), .int .i64 t, .int .i64 e] 45)
    have hz3 := hid (show w.heap.size < w2.heap.size from BZ2.out.lt)
    obtain ⟨w3, hw3⟩ : ∃ w3, w3 = w2.alloc (.cells #[.int .i64 kd, .int .i64 S, .int .i64 g, .int .i64 c, .string n, .int .i64 v, .int .u64 (k : Int), .int .i64 cl, .int .u64 (rr : Int), .int .u64 (ss : Int), .int .i64 t, .int .i64 e] 45) := ⟨_, rfl⟩
    rw [← hw3] at BZ3 K3 B3 A3 ⊢
    have a3 := A3.out
    clear hw3 BZ2 K2 B2
    go_wp2_with (first | go_skip | (refine wpList_load_blk rfl _ _ rfl rfl a3 aRecF ?_) | fail)
    refine (HRT.out _).mono ?_
    rintro e1 w4 ⟨rfl, k4⟩
    have BZ4 := hid (BZ3.out.kept k4 (fun h => h))
    have K4 := hid (K3.out.trans k4)
    have B4 := hid (B3.out.kept k4 (fun _ _ _ h => h))
    have A4 := hid (A3.out.kept k4 (fun h => h))
    clear k4 a3 BZ3 K3 B3 A3 HRT
    cases X with
    | false =>
      have z4 := BZ4.out
      go_wp2_with (first | go_skip | (refine wpList_store_blk rfl _ _ _ rfl rfl rfl z4 aRecF rfl zRecF ?_; intro w9 hR9 k9) | fail)
      have kk : Kept None w w9 := K4.out.then k9 (fun i hi (h : i = w.heap.size) => by omega)
      (try simp only [Exit.inBlock, Exit.then])
      refine bodyPost_ret (v := .tuple #[Rec.none.V, .int .i64 0, .int .i64 20]) (results_blk3 rfl _ rfl rfl rfl hR9 aRecF) rfl ?_
      have hfin := HRS.out
      rw [if_neg (fun h => by cases h.1)] at hfin
      rw [hfin]
      exact ⟨rfl, kk⟩
    | true =>
      have a4 := A4.out
      go_wp2_with (first | go_skip | (refine wpList_load_bw (by kernel_rfl) rfl rfl a4 aRecF ?_) | fail)
      refine (HBD.out _ trivial).mono ?_
      rintro e1 w5 ⟨u5, rfl, k5, b5⟩
      obtain ⟨a5, c5, rfl⟩ := b5.form
      have BZ5 := hid (BZ4.out.kept k5 (fun h => h))
      have K5 := hid (K4.out.trans k5)
      have B5 := hid (B4.out.kept k5 (fun _ _ _ h => h))
      have A5 := hid (A4.out.kept k5 (fun h => h))
      have D5 := hid (b5.bs (Nat.le_refl _))
      clear k5 a4 b5 BZ4 K4 B4 A4 HBD
      go_wp2_with (first | go_skip | fail)
      refine (HEQ.out _ _ _ _ _ _ _ D5.out B5.out).mono ?_
      rintro e1 w6 ⟨rfl, k6⟩
      have Z6 := hid (BZ5.out.kept k6 (fun h => h))
      have K6 := hid (K5.out.trans k6)
      have A6 := hid (A5.out.kept k6 (fun h => h))
      clear k6 BZ5 K5 B5 A5 D5 HEQ
      have a6 := A6.out
      have z6 := Z6.out
      by_cases hq : D = L
      · have bq : (D == L) = true := by simpa using hq
        rw [bq]
        have HQ := hid hq
        clear hq bq
        go_wp2_with (first | (refine wpList_load_blk rfl _ _ rfl rfl a6 aRecF ?_) | (refine wpList_store_blk rfl _ _ _ rfl rfl rfl z6 aRecF rfl (Rec.C_one (⟨kd, S, g, c, ⟨n, v, k, cl, rr, ss⟩, t, e⟩ : Rec)) ?_; intro w9 hR9 k9) | fail)
        have kk : Kept None w w9 := K6.out.then k9 (fun i hi (h : i = w.heap.size) => by omega)
        (try simp only [Exit.inBlock, Exit.then])
        refine bodyPost_ret (v := .tuple #[(⟨kd, S, g, c, ⟨n, v, k, cl, rr, ss⟩, t, e⟩ : Rec).V, .int .i64 m, .int .i64 0]) (results_blk3 rfl _ rfl rfl rfl hR9 aRecF) rfl ?_
        have hfin := HRS.out
        rw [if_pos ⟨trivial, HQ.out⟩] at hfin
        rw [hfin]
        exact ⟨rfl, kk⟩
      · have bq : (D == L) = false := by simpa using hq
        rw [bq]
        have HQ := hid hq
        clear hq bq
        go_wp2_with (first | (refine wpList_store_blk rfl _ _ _ rfl rfl rfl z6 aRecF rfl zRecF ?_; intro w9 hR9 k9) | fail)
        have kk : Kept None w w9 := K6.out.then k9 (fun i hi (h : i = w.heap.size) => by omega)
        (try simp only [Exit.inBlock, Exit.then])
        refine bodyPost_ret (v := .tuple #[Rec.none.V, .int .i64 0, .int .i64 20]) (results_blk3 rfl _ rfl rfl rfl hR9 aRecF) rfl ?_
        have hfin := HRS.out
        rw [if_neg (fun h => HQ.out h.2)] at hfin
        rw [hfin]
        exact ⟨rfl, kk⟩
  · have e := hid (readJ_err hF hE)
    have dE : (E == 0) = false := by simpa using hE
    clear hE hF
    go_enter Try.func24, Try.ntmps24
    go_wp2_with fail
    refine (HR.out _ HV0.out).mono ?_
    rintro e1 w1 ⟨u1, rfl, k1, b1⟩
    obtain ⟨a1, c1, rfl, _⟩ := b1.shape
    have hZ := hZ0.out.kept k1 (fun h => h)
    have K1 := hid (k0.trans k1)
    clear k1 b1 hZ0 HV0 HR
    go_wp2_with (first | (refine wpList_store_blk rfl _ _ _ rfl rfl rfl hZ aRecF rfl zRecF ?_; intro w9 hR9 k9) | fail)
    have kk : Kept None w w9 := K1.out.then k9 (fun i hi (h : i = w.heap.size) => by omega)
    (try simp only [Exit.inBlock, Exit.then])
    refine bodyPost_ret (v := .tuple #[Rec.none.V, .int .i64 0, .int .i64 E]) (results_blk3 rfl _ rfl rfl rfl hR9 aRecF) rfl ?_
    rw [e.out]
    exact ⟨rfl, kk⟩
end Jr
end Go.Proofs.Ytbebpnanhkcngaa
namespace Go.Proofs.Ytbebpnanhkcngaa
open Go.RowKit Go.Pm
namespace Sn
set_option maxRecDepth 100000 in
set_option maxHeartbeats 8000000 in
theorem recordsO (v : Value) (lo hi : Nat) (b : List UInt8) (w : World) (hv : Bs w lo hi v b) (hl : b.length ≤ 1099511627000) :
    Calls Try.prog 10 #[v] w fun en w' => ∃ u, en = .returned (.tuple #[u, .int .i64 (scanC none b : Int)]) ∧ Kept None w w' ∧ Po 12 45 w' w.heap.size u (recsC (scanR none b)) := by
  obtain ⟨av, cv, rfl, _⟩ := hv.shape
  have HV := hid hv.all
  have HL := hid hl
  clear hv hl
  go_enter Try.func10, Try.ntmps10
  go_wp2_with fail
  go_loopg [4, 5] b.length (fun kx s4 s5 wr => ∃ (l : List Rec) (at_ : Nat) (a4 : Option Addr) (n4 c4 : Nat), s4 = .slice a4 n4 c4 ∧ s5 = .int .i64 (at_ : Int) ∧ b.length - at_ ≤ kx ∧ Hid (ScanAt b l at_) ∧ Hid (Kept None w wr) ∧ Hid (Po 12 45 wr w.heap.size (.slice a4 n4 c4) (recsC l)))
  case atStart => exact ⟨[], 0, none, 0, 0, rfl, rfl, by omega, hid (ScanAt.zero b), hid (Kept.refl _ _), hid (Po.nil _ _ _ _)⟩
  case round =>
  obtain ⟨l, at_, a4, n4, c4, rfl, rfl, hkx, HA, HS, HO⟩ := hrel
  have hle := HA.out.le
  obtain ⟨x5, sl5, p5⟩ := slice_from tBytes zBytes (HV.out.kept HS.out (fun _ _ _ h => h)) .i64 (at_ : Int) (Int.natCast_nonneg _) (by omega)
  simp only [Int.toNat_natCast] at sl5 p5
  rw [← List.map_drop] at p5
  have hBd : (b.drop at_).length ≤ 1099511627000 := by have := HL.out; rw [List.length_drop]; omega
  have hdl : (b.drop at_).length = b.length - at_ := List.length_drop
  have hrd := Jr.read _ _ _ (b.drop at_) wr p5 hBd
  have hno : n4 = l.length := by
    obtain ⟨a, c, h⟩ := HO.out.form
    rw [recsC_len] at h
    injection h
  subst hno
  have hdone := HA.out.done
  have hnext := HA.out.next
  have hgn : goesJ (lastS none l) (b.drop at_) → 21 ≤ (readJ (b.drop at_)).n ∧ (readJ (b.drop at_)).n ≤ b.length - at_ := fun h => by
    have := readJ_n h.1
    rwa [hdl] at this
  have hmany := HA.out.many
  obtain ⟨⟨⟨x0, x1, x2, x3, ⟨xn, xv, xk, xc, xr, xs⟩, xt, xe⟩, n, E⟩, hJ⟩ : ∃ j, j = readJ (b.drop at_) := ⟨_, rfl⟩
  unfold goesJ at hdone hnext hgn
  rw [← hJ] at hrd hdone hnext hgn
  simp only at hrd hdone hnext hgn
  have HRD := hid hrd
  unfold Rec.V Rec.C at HRD
  have HDN := hid hdone
  have HNX := hid hnext
  have HGN := hid hgn
  have hdec : decide ((at_ : Int) ≤ (b.length : Int)) = true := by simp; omega
  have HLE := hid (And.intro hle hmany)
  clear hrd hdone hnext hgn hJ p5 hBd hdl hmany hle
  go_wp2_with fail
  refine HRD.out.mono ?_
  rintro e w2 ⟨rfl, k2⟩
  have BX := hid (Blk.new w2 #[.int .i64 x0, .int .i64 x1, .int .i64 x2, .int .i64 x3, .string xn, .int .i64 xv, .int .u64 (xk : Int), .int .i64 xc, .int .u64 (xr : Int), .int .u64 (xs : Int), .int .i64 xt, .int .i64 xe] 45)
  have K3 := hid ((HS.out.trans k2).alloc (.cells #[.int .i64 x0, .int .i64 x1, .int .i64 x2, .int .i64 x3, .string xn, .int .i64 xv, .int .u64 (xk : Int), .int .i64 xc, .int .u64 (xr : Int), .int .u64 (xs : Int), .int .i64 xt, .int .i64 xe] 45))
  have HO3 := hid ((HO.out.kept k2 (fun _ _ h => h)).alloc (.cells #[.int .i64 x0, .int .i64 x1, .int .i64 x2, .int .i64 x3, .string xn, .int .i64 xv, .int .u64 (xk : Int), .int .i64 xc, .int .u64 (xr : Int), .int .u64 (xs : Int), .int .i64 xt, .int .i64 xe] 45))
  clear k2 HRD sl5 hdec
  go_upto_region 4 with fail
  obtain ⟨w3, hw3⟩ : ∃ w3, w3 = w2.alloc (.cells #[.int .i64 x0, .int .i64 x1, .int .i64 x2, .int .i64 x3, .string xn, .int .i64 xv, .int .u64 (xk : Int), .int .i64 xc, .int .u64 (xr : Int), .int .u64 (xs : Int), .int .i64 xt, .int .i64 xe] 45) := ⟨_, rfl⟩
  rw [← hw3] at BX K3 HO3 ⊢
  clear hw3
  by_cases hE : E = 0
  · subst hE
    have hfo := follows a4 c4 _ _ l (⟨x0, x1, x2, x3, ⟨xn, xv, xk, xc, xr, xs⟩, xt, xe⟩ : Rec) w3 (HO3.out.ps (Nat.le_refl _)) (fun r hr => (HA.out.fits r hr).1) (by have := HLE.out; have := HL.out; omega)
    unfold Rec.V Rec.C at hfo
    simp only at hfo
    have HFO := hid hfo
    clear hfo
    have bx := BX.out
    go_wp2_with (first | (refine wpList_load_bw (by kernel_rfl) rfl rfl bx aRecS ?_) | go_skip | fail)
    refine HFO.out.mono ?_
    rintro e w4 ⟨rfl, k4⟩
    have BX4 := hid (BX.out.kept k4 (fun h => h))
    have HO4 := hid (HO3.out.kept k4 (fun _ _ h => h))
    have K4 := hid (K3.out.trans k4)
    clear k4 bx BX HO3 K3 HFO
    cases hX : nextJ (lastS none l) x1 with
    | true =>
      have HG := hid (show True ∧ nextJ (lastS none l) x1 = true from ⟨trivial, hX⟩)
      clear hX
      have gn := HGN.out HG.out
      have HNXT := hid (HNX.out HG.out)
      have bx4 := BX4.out
      have HBN := hid (Blk.new w4 #[.int .i64 x0, .int .i64 x1, .int .i64 x2, .int .i64 x3, .string xn, .int .i64 xv, .int .u64 (xk : Int), .int .i64 xc, .int .u64 (xr : Int), .int .u64 (xs : Int), .int .i64 xt, .int .i64 xe] 45)
      have HON := hid (HO4.out.alloc (.cells #[.int .i64 x0, .int .i64 x1, .int .i64 x2, .int .i64 x3, .string xn, .int .i64 xv, .int .u64 (xk : Int), .int .i64 xc, .int .u64 (xr : Int), .int .u64 (xs : Int), .int .i64 xt, .int .i64 xe] 45))
      have KN := hid (K4.out.alloc (.cells #[.int .i64 x0, .int .i64 x1, .int .i64 x2, .int .i64 x3, .string xn, .int .i64 xv, .int .u64 (xk : Int), .int .i64 xc, .int .u64 (xr : Int), .int .u64 (xs : Int), .int .i64 xt, .int .i64 xe] 45))
      have HPN : Ps 12 (w4.alloc (.cells #[.int .i64 x0, .int .i64 x1, .int .i64 x2, .int .i64 x3, .string xn, .int .i64 xv, .int .u64 (xk : Int), .int .i64 xc, .int .u64 (xr : Int), .int .u64 (xs : Int), .int .i64 xt, .int .i64 xe] 45)) 0 (w4.alloc (.cells #[.int .i64 x0, .int .i64 x1, .int .i64 x2, .int .i64 x3, .string xn, .int .i64 xv, .int .u64 (xk : Int), .int .i64 xc, .int .u64 (xr : Int), .int .u64 (xs : Int), .int .i64 xt, .int .i64 xe] 45)).heap.size (.slice (some ⟨w4.heap.size, 0, none⟩) 1 1) (recsC [(⟨x0, x1, x2, x3, ⟨xn, xv, xk, xc, xr, xs⟩, xt, xe⟩ : Rec)]) := ps_one15 (x := recC (⟨x0, x1, x2, x3, ⟨xn, xv, xk, xc, xr, xs⟩, xt, xe⟩ : Rec)) HBN.out rfl
      have hon := HON.out
      have hlen : (recsC l).length + (recsC [(⟨x0, x1, x2, x3, ⟨xn, xv, xk, xc, xr, xs⟩, xt, xe⟩ : Rec)]).length ≤ 1099511627776 := by rw [recsC_len, recsC_len]; exact lim15 HLE.out.1 HLE.out.2 HL.out
      have hbase : w.heap.size ≤ (w4.alloc (.cells #[.int .i64 x0, .int .i64 x1, .int .i64 x2, .int .i64 x3, .string xn, .int .i64 xv, .int .u64 (xk : Int), .int .i64 xc, .int .u64 (xr : Int), .int .u64 (xs : Int), .int .i64 xt, .int .i64 xe] 45)).heap.size := KN.out.size
      obtain ⟨M, hM⟩ : ∃ m, m = at_ + n := ⟨_, rfl⟩
      obtain ⟨hMe, wM⟩ := sum15 hM HLE.out.1 gn.2 HL.out
      have HM := hid (show M = at_ + n ∧ 21 ≤ n ∧ n ≤ b.length - at_ from ⟨hM, gn⟩)
      clear gn hM
      go_wp2_with (first | (refine wpList_load_blk rfl _ _ rfl rfl bx4 aRecS ?_) | (refine wpList_one_item rfl _ _ rfl R12.rtRec15 (by decide) rfl rfl ?_) | (at_builtin; refine wpList_append_po rfl _ _ 27 rfl R12.rtRec15 (by decide) rfl rfl hon HPN (recsC_one15 _) hlen hbase ?_; intro a9 n9 c9 w9 hP9 hK9 _) | go_skip | fail)
      rw [← recsC_app] at hP9
      have K9 := hid (KN.out.then hK9 (fun q hq h => by have := (hon.own q h).1; omega))
      have HP9 := hid hP9
      clear hP9 hK9 HPN hon hlen hbase bx4
      go_roundg (b.length - M)
      case measure => have := HM.out; omega
      case rel => exact ⟨l ++ [(⟨x0, x1, x2, x3, ⟨xn, xv, xk, xc, xr, xs⟩, xt, xe⟩ : Rec)], M, a9, n9, c9, rfl, rfl, Nat.le_refl _, hid (by rw [HM.out.1]; exact HNXT.out), K9, HP9⟩
    | false =>
      have hnn : ¬ (True ∧ nextJ (lastS none l) x1 = true) := fun h => by rw [hX] at h; cases h.2
      have HD := hid (HDN.out hnn)
      clear hX hnn
      go_wp2_with (first | go_skip | fail)
      go_ret2
      rw [← HD.out.2]
      exact ⟨_, rfl, K4.out, by rw [← HD.out.1]; exact HO4.out⟩
  · have e1 : (E == 0) = false := by simpa using hE
    have e2 : (E != 0) = true := by simpa using hE
    have e3 : (!decide (E = 0)) = true := by simpa using hE
    have e4 : decide (E = 0) = false := by simpa using hE
    have hnn : ¬ (E = 0 ∧ nextJ (lastS none l) x1 = true) := fun h => hE h.1
    have HD := hid (HDN.out hnn)
    clear hnn hE
    go_wp2_with (first | go_skip | fail)
    go_ret2
    rw [← HD.out.2]
    exact ⟨_, rfl, K3.out, by rw [← HD.out.1]; exact HO3.out⟩
theorem records : RecordsC := fun v lo hi b w hv hl => (recordsO v lo hi b w hv (Nat.le_trans hl (by decide))).mono fun _ _ ⟨u, h1, h2, h3⟩ => ⟨u, h1, h2, (h3.ps (Nat.le_refl _)).wider (Nat.zero_le _) (Nat.le_refl _)⟩
end Sn
end Go.Proofs.Ytbebpnanhkcngaa
namespace Go.Pm
open Go Go.RowKit
theorem whole_b (l : List Rec) : wholeF l = if beginsF l = true then ⟨(l.headD Rec.none).gen, pendsF l, true⟩ else ⟨0, [], false⟩ := by
  cases l with
  | nil => rfl
  | cons r l =>
    rw [wholeF_cons]
    show _ = if wholeB r l = true then _ else _
    by_cases h : wholeB r l = true
    · rw [if_pos h, if_pos h, pends_cons ((wholeB_iff r l).1 h).1]; rfl
    · rw [if_neg h, if_neg h]
theorem begins_pos {l : List Rec} (h : beginsF l = true) : 0 < l.length := by
  cases l with
  | nil => cases h
  | cons r l => exact Nat.succ_pos _
end Go.Pm
namespace Go.Proofs.Ytbebpnanhkcngaa
open Go.RowKit Go.Pm
namespace Sn
set_option maxRecDepth 100000 in
set_option maxHeartbeats 16000000 in
theorem wholeO (v : Value) (lo hi : Nat) (l : List Rec) (w : World) (hv : Ps 12 w lo hi v (recsC l)) (hln : l.length ≤ 1000000000) :
    Calls Try.prog 13 #[v] w fun en w' => ∃ u, en = .returned (.tuple #[.int .i64 (wholeF l).gen, u, .bool (wholeF l).ok]) ∧ Kept None w w' ∧ Po 9 64 w' w.heap.size u (pensC (wholeF l).l) := by
  obtain ⟨av, nv, cv, rfl, hnv⟩ : ∃ a n c, v = .slice a n c ∧ n = l.length := by
    obtain ⟨a, c, h, _⟩ := hv.form
    rw [recsC_len] at h
    exact ⟨a, _, c, h, rfl⟩
  subst hnv
  have HBG := hid (begins _ _ _ l w hv hln)
  have HWF := hid (whole_b l)
  have HV := hid hv
  have HLN := hid hln
  clear hv hln
  go_enter Try.func13, Try.ntmps13
  go_wp2_with fail
  refine HBG.out.mono ?_
  rintro e w1 ⟨rfl, k1⟩
  have K1 := hid k1
  clear k1 HBG
  cases hB : beginsF l with
  | false =>
    have hW : wholeF l = ⟨0, [], false⟩ := by rw [HWF.out, hB]; rfl
    have HW := hid hW
    clear hB hW HWF
    go_wp2_with fail
    go_ret3
    rw [HW.out]
    exact ⟨_, rfl, K1.out, Po.nil _ _ _ _⟩
  | true =>
    have hpos := begins_pos hB
    have hW : wholeF l = ⟨(l.headD Rec.none).gen, pendsF l, true⟩ := by rw [HWF.out, hB]; rfl
    obtain ⟨b, o, rfl, hbs, hcell⟩ := HV.out.rec hpos
    have h0 := (rec_cells (hcell 0 hpos)).2.2.1
    have e0 : l[0] = l.headD Rec.none := by cases l with | nil => cases hpos | cons => rfl
    rw [e0] at h0
    simp only [Nat.zero_mul, Nat.add_zero] at h0
    obtain ⟨G, hG⟩ : ∃ g, g = (l.headD Rec.none).gen := ⟨_, rfl⟩
    rw [← hG] at h0 hW
    have HW := hid hW
    have HG0 := hid h0
    have HCL := hid hcell
    have HPO := hid hpos
    clear hB hW HWF hG e0 h0 hcell hbs hpos
    go_wp2_with fail
    go_loopg [5, 13] l.length (fun kx s5 s13 wr => ∃ (i : Nat) (a5 : Option Addr) (n5 c5 : Nat), s5 = .slice a5 n5 c5 ∧ s13 = .int .i64 (i : Int) ∧ i ≤ l.length ∧ l.length - i ≤ kx ∧ Hid (Kept None w wr) ∧ Hid (Po 9 64 wr w.heap.size (.slice a5 n5 c5) (pensC (pendsF (l.take i)))))
    case atStart => exact ⟨0, none, 0, 0, rfl, rfl, Nat.zero_le _, Nat.le_refl _, K1, hid (Po.nil _ _ _ _)⟩
    case round =>
    obtain ⟨i, a5, n5, c5, rfl, rfl, hi, hix, HS, HO⟩ := hrel
    by_cases hlt : i < l.length
    · have hlt' : decide ((i : Int) < (l.length : Int)) = true := by simpa using hlt
      have hib : (i : Int) < (l.length : Int) := Int.ofNat_lt.mpr hlt
      have hr := rangeAt_kept (HCL.out i hlt) HS.out
      have hpt := pends_take hlt
      obtain ⟨x, hxx⟩ : ∃ x, x = l[i] := ⟨_, rfl⟩
      rw [← hxx] at hr hpt
      obtain ⟨x0, x1, x2, x3, ⟨xn, xv, xk, xc, xr, xs⟩, xt, xe⟩ := x
      have HR := hid hr
      have aX : AggTy Try.prog 45 (recC (⟨x0, x1, x2, x3, ⟨xn, xv, xk, xc, xr, xs⟩, xt, xe⟩ : Rec)).length := aRecS
      unfold recC Rec.C at HR aX
      have hr := HR.out
      unfold pnOf at hpt
      simp only at hpt
      have HPT := hid hpt
      have HLT := hid hlt
      have wi1 : wrap64 ((i : Int) + 1) = ((i + 1 : Nat) : Int) := (nums15 (n := i + 1) (by have := HLN.out; omega)).1
      have HWI := hid wi1
      have BX := hid (Blk.new wr #[.int .i64 x0, .int .i64 x1, .int .i64 x2, .int .i64 x3, .string xn, .int .i64 xv, .int .u64 (xk : Int), .int .i64 xc, .int .u64 (xr : Int), .int .u64 (xs : Int), .int .i64 xt, .int .i64 xe] 45)
      have K3 := hid (HS.out.alloc (.cells #[.int .i64 x0, .int .i64 x1, .int .i64 x2, .int .i64 x3, .string xn, .int .i64 xv, .int .u64 (xk : Int), .int .i64 xc, .int .u64 (xr : Int), .int .u64 (xs : Int), .int .i64 xt, .int .i64 xe] 45))
      have HO3 := hid (HO.out.alloc (.cells #[.int .i64 x0, .int .i64 x1, .int .i64 x2, .int .i64 x3, .string xn, .int .i64 xv, .int .u64 (xk : Int), .int .i64 xc, .int .u64 (xr : Int), .int .u64 (xs : Int), .int .i64 xt, .int .i64 xe] 45))
      clear hxx wi1 hlt hpt
      go_upto_region 7 with (first | (refine wpList_load_at rfl _ _ rfl rfl hr aX ?_) | fail)
      obtain ⟨w3, hw3⟩ : ∃ w3, w3 = wr.alloc (.cells #[.int .i64 x0, .int .i64 x1, .int .i64 x2, .int .i64 x3, .string xn, .int .i64 xv, .int .u64 (xk : Int), .int .i64 xc, .int .u64 (xr : Int), .int .u64 (xs : Int), .int .i64 xt, .int .i64 xe] 45) := ⟨_, rfl⟩
      rw [← hw3] at BX K3 HO3 ⊢
      clear hw3 hr
      have cx0 : w3.cell? ⟨wr.heap.size, 0, none⟩ = some (.int .i64 x0) := BX.out.cell 0
      by_cases hk2 : x0 = 2
      · have HK2 := hid hk2
        rw [hk2] at cx0
        clear hk2
        have cx1 : w3.cell? ⟨wr.heap.size, 1, none⟩ = some (.int .i64 x1) := BX.out.cell 1
        have cx10 : w3.cell? ⟨wr.heap.size, 10, none⟩ = some (.int .i64 xt) := BX.out.cell 10
        have hru : w3.rangeAt wr.heap.size 4 [.string xn, .int .i64 xv, .int .u64 (xk : Int), .int .i64 xc, .int .u64 (xr : Int), .int .u64 (xs : Int)] := rec_req (x := ⟨x0, x1, x2, x3, ⟨xn, xv, xk, xc, xr, xs⟩, xt, xe⟩) BX.out.rg
        have HBN := hid (Blk.new w3 #[.string xn, .int .i64 xv, .int .u64 (xk : Int), .int .i64 xc, .int .u64 (xr : Int), .int .u64 (xs : Int), .int .i64 xt, .int .i64 x1, .bool true] 64)
        have HON := hid (HO3.out.alloc (.cells #[.string xn, .int .i64 xv, .int .u64 (xk : Int), .int .i64 xc, .int .u64 (xr : Int), .int .u64 (xs : Int), .int .i64 xt, .int .i64 x1, .bool true] 64))
        have KN := hid (K3.out.alloc (.cells #[.string xn, .int .i64 xv, .int .u64 (xk : Int), .int .i64 xc, .int .u64 (xr : Int), .int .u64 (xs : Int), .int .i64 xt, .int .i64 x1, .bool true] 64))
        have HPN : Ps 9 (w3.alloc (.cells #[.string xn, .int .i64 xv, .int .u64 (xk : Int), .int .i64 xc, .int .u64 (xr : Int), .int .u64 (xs : Int), .int .i64 xt, .int .i64 x1, .bool true] 64)) 0 (w3.alloc (.cells #[.string xn, .int .i64 xv, .int .u64 (xk : Int), .int .i64 xc, .int .u64 (xr : Int), .int .u64 (xs : Int), .int .i64 xt, .int .i64 x1, .bool true] 64)).heap.size (.slice (some ⟨w3.heap.size, 0, none⟩) 1 1) (pensC [(⟨⟨xn, xv, xk, xc, xr, xs⟩, xt, x1, true⟩ : Pn)]) := ps_one15 (x := penC (⟨⟨xn, xv, xk, xc, xr, xs⟩, xt, x1, true⟩ : Pn)) HBN.out rfl
        have hon := HON.out
        have hlen : (pensC (pendsF (l.take i))).length + (pensC [(⟨⟨xn, xv, xk, xc, xr, xs⟩, xt, x1, true⟩ : Pn)]).length ≤ 1099511627776 := by
          rw [pensC_len, pensC_len]
          have h1 := pendsF_len (l.take i)
          rw [List.length_take] at h1
          have h2 := HLN.out
          simp only [List.length_cons, List.length_nil]
          omega
        have hbase : w.heap.size ≤ (w3.alloc (.cells #[.string xn, .int .i64 xv, .int .u64 (xk : Int), .int .i64 xc, .int .u64 (xr : Int), .int .u64 (xs : Int), .int .i64 xt, .int .i64 x1, .bool true] 64)).heap.size := KN.out.size
        go_wp2_with (first | (refine wpList_load_at rfl _ _ rfl rfl hru Up.aUpd ?_) | (refine wpList_one_item rfl _ _ rfl R12.rtPen15 (by decide) rfl rfl ?_) | (at_builtin; refine wpList_append_po rfl _ _ 31 rfl R12.rtPen15 (by decide) rfl rfl hon HPN (pensC_one _) hlen hbase ?_; intro a9 n9 c9 w9 hP9 hK9 _) | fail)
        rw [← pensC_app] at hP9
        have K9 := hid (KN.out.then hK9 (fun q hq h => by have := (hon.own q h).1; omega))
        have HP9 : Hid (Po 9 64 w9 w.heap.size (.slice a9 n9 c9) (pensC (pendsF (l.take (i + 1))))) := hid (by rw [HPT.out, if_pos HK2.out]; exact hP9)
        clear hP9 hK9 HPN hon hlen hbase hru
        go_roundg (l.length - (i + 1))
        case measure => have := HLT.out; omega
        case rel => exact ⟨i + 1, a9, n9, c9, rfl, by first | rfl | rw [HWI.out] | simp, HLT.out, Nat.le_refl _, K9, HP9⟩
      · have d1 : (x0 == 2) = false := by simpa using hk2
        have d3 : decide (x0 = 2) = false := by simpa using hk2
        have HO2 : Hid (Po 9 64 w3 w.heap.size (.slice a5 n5 c5) (pensC (pendsF (l.take (i + 1))))) := hid (by rw [HPT.out, if_neg hk2, List.append_nil]; exact HO3.out)
        clear hk2
        go_wp2_with fail
        go_roundg (l.length - (i + 1))
        case measure => have := HLT.out; omega
        case rel => exact ⟨i + 1, a5, n5, c5, rfl, by first | rfl | rw [HWI.out] | simp, HLT.out, Nat.le_refl _, K3, HO2⟩
    · have hlt' : decide ((i : Int) < (l.length : Int)) = false := by simpa using hlt
      obtain rfl : i = l.length := by omega
      have ho := HO.out
      rw [List.take_length] at ho
      have HO2 := hid ho
      have hps := HPO.out
      have hpb : (0 : Int) < (l.length : Int) := Int.ofNat_lt.mpr hps
      have c2 : wr.cell? ⟨b, o + 2, none⟩ = some (.int .i64 G) := (HS.out.cell (p := ⟨b, o + 2, none⟩) (block_lt_of_cell HG0.out) (fun h => h)).trans HG0.out
      clear hlt hi hix ho HO
      go_wp2_with fail
      go_ret3
      rw [HW.out]
      exact ⟨_, rfl, HS.out, HO2.out⟩
theorem whole : WholeC := fun v lo hi l w hv _ hl => (wholeO v lo hi l w hv hl).mono fun _ _ ⟨u, h1, h2, h3⟩ => ⟨u, h1, h2, (h3.ps (Nat.le_refl _)).wider (Nat.zero_le _) (Nat.le_refl _)⟩
end Sn
end Go.Proofs.Ytbebpnanhkcngaa
namespace Go.Proofs.Ytbebpnanhkcngaa
open Go.RowKit Go.Pm
namespace Sn
set_option maxRecDepth 100000 in
theorem gen (v : Value) (lo hi : Nat) (a : List UInt8) (w : World) (hv : Bs w lo hi v a) (hla : a.length ≤ 1000000000) :
    Calls Try.prog 27 #[v] w fun en w' => en = .returned (.tuple #[.int .i64 (wholeF (scanR none a)).gen, .bool (wholeF (scanR none a)).ok]) ∧ Kept None w w' := by
  have la : (scanR none a).length ≤ 1000000000 := Nat.le_trans (Nat.le_trans (by omega) (scanR_len none a)) hla
  have HR := hid (recordsO _ _ _ a w hv (Nat.le_trans hla (by decide)))
  have HZ := hid la
  clear hv hla la
  go_enter Try.func27, Try.ntmps27
  go_wp2_with fail
  refine HR.out.mono ?_
  rintro e w1 ⟨u1, rfl, k1, p1⟩
  have HW := hid (wholeO _ _ _ _ w1 (p1.ps (Nat.le_refl _)) HZ.out)
  have K1 := hid k1
  clear k1 p1 HR
  go_wp2_with fail
  refine HW.out.mono ?_
  rintro e w2 ⟨u2, rfl, k2, _⟩
  have K2 := hid (K1.out.trans k2)
  clear k2 K1 HW
  go_wp2_with fail
  go_ret2
  exact ⟨rfl, K2.out⟩
set_option maxRecDepth 100000 in
set_option maxHeartbeats 4000000 in
theorem choose : ChooseC := by
  intro v v' lo hi lo' hi' a b w hv hv' hla hlb
  have H1 := hid (gen _ _ _ a w hv hla)
  have HVB := hid hv'.all
  have HLB := hid hlb
  have hch : chooseF a b = if (wholeF (scanR none b)).ok = true ∧ ((wholeF (scanR none a)).ok = false ∨ (wholeF (scanR none a)).gen < (wholeF (scanR none b)).gen) then ⟨1, true⟩ else ⟨0, (wholeF (scanR none a)).ok⟩ := rfl
  obtain ⟨⟨G, LX, X⟩, hX⟩ : ∃ x, x = wholeF (scanR none a) := ⟨_, rfl⟩
  obtain ⟨⟨J, LY, Y⟩, hY⟩ : ∃ x, x = wholeF (scanR none b) := ⟨_, rfl⟩
  rw [← hX, ← hY] at hch
  rw [← hX] at H1
  obtain ⟨⟨cf, ck⟩, hc⟩ : ∃ c, c = chooseF a b := ⟨_, rfl⟩
  rw [← hc] at hch ⊢
  have HC := hid hch
  have HY := hid hY
  clear hv hv' hla hlb hX hY hch hc
  go_enter Try.func16, Try.ntmps16
  go_wp2_with fail
  refine H1.out.mono ?_
  rintro e w1 ⟨rfl, k1⟩
  have H2 := hid (gen _ _ _ b w1 (HVB.out.kept k1 (fun _ _ _ h => h)) HLB.out)
  rw [← HY.out] at H2
  have K1 := hid k1
  clear k1 H1 HVB HLB HY
  go_wp2_with fail
  refine H2.out.mono ?_
  rintro e w2 ⟨rfl, k2⟩
  have K2 := hid (K1.out.trans k2)
  clear k2 K1 H2
  cases Y with
  | false =>
    obtain ⟨rfl, rfl⟩ : cf = 0 ∧ ck = X := by
      have hf := HC.out
      rw [if_neg (fun h => by cases h.1)] at hf
      exact ⟨congrArg Ch.f hf, congrArg Ch.ok hf⟩
    go_wp2_with (first | go_skip | fail)
    go_ret2
    exact ⟨rfl, K2.out⟩
  | true =>
    cases X with
    | false =>
      obtain ⟨rfl, rfl⟩ : cf = 1 ∧ ck = true := by
        have hf := HC.out
        rw [if_pos ⟨rfl, .inl rfl⟩] at hf
        exact ⟨congrArg Ch.f hf, congrArg Ch.ok hf⟩
      go_wp2_with (first | go_skip | fail)
      go_ret2
      exact ⟨rfl, K2.out⟩
    | true =>
      by_cases h : G < J
      · have d1 : decide (G < J) = true := by simpa using h
        obtain ⟨rfl, rfl⟩ : cf = 1 ∧ ck = true := by
          have hf := HC.out
          rw [if_pos ⟨rfl, .inr h⟩] at hf
          exact ⟨congrArg Ch.f hf, congrArg Ch.ok hf⟩
        go_wp2_with (first | go_skip | fail)
        go_ret2
        exact ⟨rfl, K2.out⟩
      · have d1 : decide (G < J) = false := by simpa using h
        obtain ⟨rfl, rfl⟩ : cf = 0 ∧ ck = true := by
          have hf := HC.out
          rw [if_neg (fun q => q.2.elim (fun e => by cases e) h)] at hf
          exact ⟨congrArg Ch.f hf, congrArg Ch.ok hf⟩
        go_wp2_with (first | go_skip | fail)
        go_ret2
        exact ⟨rfl, K2.out⟩
end Sn
end Go.Proofs.Ytbebpnanhkcngaa
