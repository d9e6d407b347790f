/- postmarkref12.FrameRead: by contract. -/
import Derived.Test.YtkjidligfcihgaaRPut13
import Derived.Deep.QuietTactic
import Derived.BigQuiet
namespace Go.Pm
open Go Go.RowKit
theorem results_tmp5 {fn : Func} {a b c d e : Tmp} (h : fn.results = #[.tmp a, .tmp b, .tmp c, .tmp d, .tmp e]) (tmps : Array Value) (P : Program) (w : World) :
    (results fn tmps).run P w = .ok (.tuple #[tmps.getD a undef, tmps.getD b undef, tmps.getD c undef, tmps.getD d undef, tmps.getD e undef]) w := by
  simp [results, h]
theorem or_i64 (M k : Nat) (hM : 2 ^ k = M) (h64 : M ≤ 18446744073709551616) (x y : Int) (h0 : 0 ≤ x) (h1 : x < M) (h2 : 0 ≤ y) (h3 : x + y * M < 9223372036854775808) : bits .or .i64 x (y * M) = x + y * M := by
  have h := or_join M k hM h64 x y h0 h1 h2 (by omega)
  have e1 : bits .or .i64 x (y * M) = IntKind.i64.wrap ((BitVec.ofInt 64 x ||| BitVec.ofInt 64 (y * M)).toNat : Int) := rfl
  have e2 : bits .or .u64 x (y * M) = IntKind.u64.wrap ((BitVec.ofInt 64 x ||| BitVec.ofInt 64 (y * M)).toNat : Int) := rfl
  have hlt := (BitVec.ofInt 64 x ||| BitVec.ofInt 64 (y * M)).isLt
  rw [e2, IntKind.wrap_u64] at h
  rw [e1, IntKind.wrap_i64]
  omega
theorem wrapI (x : Int) (h0 : -9223372036854775808 ≤ x) (h1 : x < 9223372036854775808) : IntKind.i64.wrap x = x := by rw [IntKind.wrap_i64]; omega
theorem wrapIn (x : Int) (h0 : -9223372036854775808 ≤ x) (h1 : x < 9223372036854775808) : wrap64 x = x := by unfold wrap64; omega
/-- Four bytes, each shifted to its place. -/
theorem or_four (x0 x1 x2 x3 : Int) (a0 : 0 ≤ x0) (b0 : x0 < 256) (a1 : 0 ≤ x1) (b1 : x1 < 256) (a2 : 0 ≤ x2) (b2 : x2 < 256) (a3 : 0 ≤ x3) (b3 : x3 < 256) :
    bits .or .i64 (bits .or .i64 (bits .or .i64 x0 (x1 * 256)) (x2 * 65536)) (x3 * 16777216) = x0 + x1 * 256 + x2 * 65536 + x3 * 16777216 := by
  have e1 : bits .or .i64 x0 (x1 * 256) = x0 + x1 * 256 := or_i64 256 8 rfl (by decide) x0 x1 (by omega) (by omega) (by omega) (by omega)
  have e2 : bits .or .i64 (x0 + x1 * 256) (x2 * 65536) = x0 + x1 * 256 + x2 * 65536 := or_i64 65536 16 rfl (by decide) (x0 + x1 * 256) x2 (by omega) (by omega) (by omega) (by omega)
  have e3 : bits .or .i64 (x0 + x1 * 256 + x2 * 65536) (x3 * 16777216) = x0 + x1 * 256 + x2 * 65536 + x3 * 16777216 := or_i64 16777216 24 rfl (by decide) (x0 + x1 * 256 + x2 * 65536) x3 (by omega) (by omega) (by omega) (by omega)
  rw [e1, e2, e3]
theorem four_bytes (b : List UInt8) : bits .or .i64 (bits .or .i64 (bits .or .i64 (IntKind.i64.wrap (bAt b 0)) (IntKind.i64.wrap (IntKind.i64.wrap (bAt b 1) * 256))) (IntKind.i64.wrap (IntKind.i64.wrap (bAt b 2) * 65536))) (IntKind.i64.wrap (IntKind.i64.wrap (bAt b 3) * 16777216)) = le4V b := by
  have y0 := bAt_ge b 0
  have y1 := bAt_ge b 1
  have y2 := bAt_ge b 2
  have y3 := bAt_ge b 3
  have z0 := bAt_lt b 0
  have z1 := bAt_lt b 1
  have z2 := bAt_lt b 2
  have z3 := bAt_lt b 3
  have w0 : IntKind.i64.wrap (bAt b 0) = bAt b 0 := wrapI _ (by omega) (by omega)
  have w1 : IntKind.i64.wrap (bAt b 1) = bAt b 1 := wrapI _ (by omega) (by omega)
  have w2 : IntKind.i64.wrap (bAt b 2) = bAt b 2 := wrapI _ (by omega) (by omega)
  have w3 : IntKind.i64.wrap (bAt b 3) = bAt b 3 := wrapI _ (by omega) (by omega)
  rw [w0, w1, w2, w3]
  clear w0 w1 w2 w3
  rw [wrapI (bAt b 1 * 256) (by omega) (by omega), wrapI (bAt b 2 * 65536) (by omega) (by omega), wrapI (bAt b 3 * 16777216) (by omega) (by omega), or_four _ _ _ _ y0 z0 y1 z1 y2 z2 y3 z3]
  rfl
theorem lt_lit {S : Nat} (h : 9223372036854775807 < S) : decide ((9223372036854775807 : Int) < (S : Int)) = true ∧ decide (9223372036854775807 < S) = true := ⟨by simp; omega, by simpa using h⟩
theorem le_lit {S : Nat} (h : ¬ 9223372036854775807 < S) : decide ((9223372036854775807 : Int) < (S : Int)) = false ∧ decide (9223372036854775807 < S) = false := ⟨by simp; omega, by simpa using h⟩
theorem sums13 {M P Q : Nat} (h : M ≤ 4096) (hP : P = 13 + M) (hQ : Q = 21 + M) : (wrap64 (13 + (M : Int)) = (P : Int) ∧ wrap64 ((P : Int) + 8) = (Q : Int) ∧ wrap64 (21 + (M : Int)) = (Q : Int)) ∧ IntKind.i64.wrap (13 + (M : Int)) = (P : Int) ∧ IntKind.i64.wrap (21 + (M : Int)) = (Q : Int) :=
  ⟨⟨by rw [wrapIn _ (by omega) (by omega)]; omega, by rw [wrapIn _ (by omega) (by omega)]; omega, by rw [wrapIn _ (by omega) (by omega)]; omega⟩, by rw [wrapI _ (by omega) (by omega)]; omega, by rw [wrapI _ (by omega) (by omega)]; omega⟩
end Go.Pm
namespace Go.Proofs.Ytkjidligfcihgaa
open Go.RowKit Go.Pm
namespace R12
set_option maxRecDepth 100000 in
set_option maxHeartbeats 8000000 in
theorem read (v : Value) (lo hi : Nat) (b : List UInt8) (w : World) (hv : Bs w lo hi v b) (hl : b.length ≤ 1099511627000) :
    Calls Try.prog 11 #[v] w fun e w' => ∃ u, e = .returned (.tuple #[.int .i64 (readF b).kind, .int .i64 (readF b).seq, u, .int .i64 (readF b).n, .int .i64 (readF b).e]) ∧ Kept None w w' ∧ Bs w' lo hi u (readF b).body := by
  obtain ⟨av, cv, rfl, g1, g2, g3⟩ := hv.shape
  by_cases h13 : b.length < 13
  · have er : readF b = ⟨0, 0, [], 0, 21⟩ := by unfold readF; rw [if_pos h13]
    rw [er]
    have d1 : decide ((b.length : Int) < 13) = true := by simp; omega
    have d2 : decide (b.length < 13) = true := by simpa using h13
    clear er hv h13 g3
    go_enter Try.func11, Try.ntmps11
    go_wp2
    (try simp only [Exit.inBlock, Exit.then])
    refine bodyPost_ret (results_tmp5 rfl _ _ _) rfl ?_
    exact ⟨.slice none 0 0, rfl, Kept.refl _ _, Bs.nil _ _ _⟩
  · have d1 : decide ((b.length : Int) < 13) = false := by simp; omega
    have d2 : decide (b.length < 13) = false := by simp; omega
    obtain ⟨bb, o, rfl, q1, q2, q3, hcell⟩ := hv.ne (by omega)
    have HC := hid (fun W (hW : Kept None w W) => (⟨(hW.cell (p := ⟨bb, o + 0, none⟩) q3 (fun h => h)).trans (hcell 0 (by omega)), (hW.cell (p := ⟨bb, o + 1, none⟩) q3 (fun h => h)).trans (hcell 1 (by omega)), (hW.cell (p := ⟨bb, o + 2, none⟩) q3 (fun h => h)).trans (hcell 2 (by omega)), (hW.cell (p := ⟨bb, o + 3, none⟩) q3 (fun h => h)).trans (hcell 3 (by omega)), (hW.cell (p := ⟨bb, o + 4, none⟩) q3 (fun h => h)).trans (hcell 4 (by omega))⟩ : W.cell? ⟨bb, o + 0, none⟩ = some (.int .u8 (bAt b 0)) ∧ W.cell? ⟨bb, o + 1, none⟩ = some (.int .u8 (bAt b 1)) ∧ W.cell? ⟨bb, o + 2, none⟩ = some (.int .u8 (bAt b 2)) ∧ W.cell? ⟨bb, o + 3, none⟩ = some (.int .u8 (bAt b 3)) ∧ W.cell? ⟨bb, o + 4, none⟩ = some (.int .u8 (bAt b 4))))
    simp only [Nat.add_zero] at HC
    have i0 : 0 < b.length := by omega
    have i1 : (1 : Int) < (b.length : Int) := by omega
    have i2 : (2 : Int) < (b.length : Int) := by omega
    have i3 : (3 : Int) < (b.length : Int) := by omega
    have i4 : (4 : Int) < (b.length : Int) := by omega
    obtain ⟨M, hM⟩ : ∃ M : Nat, M = (le4V b).toNat := ⟨_, rfl⟩
    obtain ⟨K, hK⟩ : ∃ K : Nat, K = (b.getD 4 0).toNat := ⟨_, rfl⟩
    obtain ⟨S, hS⟩ : ∃ S : Nat, S = (leV (b.drop 5)).toNat := ⟨_, rfl⟩
    have eM : le4V b = (M : Int) := by rw [hM, Int.toNat_of_nonneg (le4V_ge b)]
    have eK : bAt b 4 = (K : Int) := by rw [hK]; rfl
    have eS : leV (b.drop 5) = (S : Int) := by rw [hS, Int.toNat_of_nonneg (leV_ge _)]
    have HMM := hid (And.intro eM (And.intro eK eS))
    have HKB := hid (show K < 256 by have := bAt_lt b 4; omega)
    have HB := hid ((four_bytes b).trans eM)
    have HKw := hid (wrapI (K : Int) (by omega) (by have := HKB.out; omega))
    rw [eK] at HC
    clear g2
    obtain ⟨a5, hsl5, hv5⟩ := slice_mid tBytes zBytes hv .i64 .i64 5 13 (by decide) (by decide) (by omega)
    have HWd := hid (fun W (hW : Kept None w W) => (by
      have h5 : Bs W lo hi (.slice a5 8 (cv - 5)) ((b.take 13).drop 5) := by
        have := hv5.kept hW (fun _ _ _ h => h)
        unfold Bs
        rw [List.map_drop, List.map_take]
        exact this
      have hl5 : ((b.take 13).drop 5).length = 8 := by simp; omega
      have h := Ref.word _ _ _ _ W h5 hl5
      have e : leV ((b.take 13).drop 5) = (S : Int) := by rw [List.drop_take, leV_take]; exact eS
      rw [e] at h
      exact h : Calls Try.prog 20 #[.slice a5 8 (cv - 5)] W fun en w' => en = .returned (.int .u64 (S : Int)) ∧ W = w'))
    have HV := hid hv
    have HL := hid (And.intro hl h13)
    clear hcell q1 q2 q3 hv hl h13 hM hK hS eM eK eS hv5
    go_enter Try.func11, Try.ntmps11
    go_wp2_with fail
    have hs : Steady [] := Go.Pm.Steady.nil
    refine wp_region_kn w _ hs (Kept.refl _ _) (by kernel_rfl) (by kernel_rfl) (by kernel_rfl) ?_
    iterate 23 (refine wpPar_pure rfl (by rfl) _ (fun W hW => by
        obtain ⟨c0, c1, c2, c3, c4⟩ := HC.out W hW
        go_simp
        exact rfl) ?_; simp only [Act.put, List.setIfInBounds_toArray, List.set_cons_zero, List.set_cons_succ])
    refine wpPar_nil (fun W hW hG => ?_)
    have kW := hid hW
    clear hG hs hW
    rw [HB.out]
    go_wp2_with fail
    have hs : Steady [.val 6 (.int .u64 (S : Int))] := Go.Pm.Steady.val (Go.Pm.Steady.nil)
    refine wp_region_kn W _ hs (Kept.refl _ _) (by kernel_rfl) (by kernel_rfl) (by kernel_rfl) ?_
    iterate 6 (refine wpPar_pure rfl (by rfl) _ (fun Wx hW => by
        obtain ⟨c0, c1, c2, c3, c4⟩ := HC.out _ (kW.out.trans hW)
        go_simp
        exact rfl) ?_; simp only [Act.put, List.setIfInBounds_toArray, List.set_cons_zero, List.set_cons_succ])
    refine wpKn_adds hs rfl (by rfl) (fun Wx hW hd => ?_) (fun v6 hv => ?_)
    · unfold Gives
      go_simp
      refine gives_call ((HWd.out _ (kW.out.trans hW))) ?_
      rintro e w3 ⟨rfl, rfl⟩
      exact ⟨_, rfl, Kept.refl _ _, rfl, trivial⟩
    obtain rfl : v6 = .int .u64 (S : Int) := hv
    simp only [Act.put, List.setIfInBounds_toArray, List.set_cons_zero, List.set_cons_succ]
    iterate 2 (refine wpPar_pure rfl (by rfl) _ (fun Wx hW => by
        obtain ⟨c0, c1, c2, c3, c4⟩ := HC.out _ (kW.out.trans hW)
        go_simp
        exact rfl) ?_; simp only [Act.put, List.setIfInBounds_toArray, List.set_cons_zero, List.set_cons_succ])
    refine wpPar_nil (fun W2 hW2 hG => ?_)
    have kW2 := hid (kW.out.trans hW2)
    clear hG hs hW2 i0 i1 i2 i3 i4
    rw [HKw.out]
    by_cases h1 : 4096 < M
    · have ER := hid (readF_bad HL.out.2 HMM.out (.inl h1))
      have c1 : decide ((4096 : Int) < (M : Int)) = true := by simp; omega
      have c1' : decide (4096 < M) = true := by simp; omega
      clear h1
      go_wp2
      (try simp only [Exit.inBlock, Exit.then])
      refine bodyPost_ret (results_tmp5 rfl _ _ _) rfl ?_
      rw [ER.out]
      exact ⟨.slice none 0 0, rfl, kW2.out, Bs.nil _ _ _⟩
    by_cases h2 : K = 0
    · have ER := hid (readF_bad HL.out.2 HMM.out (.inr (.inl h2)))
      subst h2
      have c1 : decide ((4096 : Int) < (M : Int)) = false := by simp; omega
      have c1' : decide (4096 < M) = false := by simp; omega
      clear h1
      go_wp2
      (try simp only [Exit.inBlock, Exit.then])
      refine bodyPost_ret (results_tmp5 rfl _ _ _) rfl ?_
      rw [ER.out]
      exact ⟨.slice none 0 0, rfl, kW2.out, Bs.nil _ _ _⟩
    by_cases h3 : 9223372036854775807 < S
    · have ER := hid (readF_bad HL.out.2 HMM.out (.inr (.inr h3)))
      have c1 : decide ((4096 : Int) < (M : Int)) = false := by simp; omega
      have c1' : decide (4096 < M) = false := by simp; omega
      have c2 : ((K : Int) == 0) = false := by simp; omega
      have c2' : ¬ K = 0 := h2
      have c3 := (lt_lit h3).1
      have c3' := (lt_lit h3).2
      clear h1 h2 h3
      go_wp2
      (try simp only [Exit.inBlock, Exit.then])
      refine bodyPost_ret (results_tmp5 rfl _ _ _) rfl ?_
      rw [ER.out]
      exact ⟨.slice none 0 0, rfl, kW2.out, Bs.nil _ _ _⟩
    have HN := hid (show ¬ (4096 < M ∨ K = 0 ∨ 9223372036854775807 < S) from fun h => h.elim h1 (fun h => h.elim h2 h3))
    have c1 : decide ((4096 : Int) < (M : Int)) = false := by simp; omega
    have c1' : decide (4096 < M) = false := by simp; omega
    have c2 : ((K : Int) == 0) = false := by simp; omega
    have c2' : ¬ K = 0 := h2
    have c3 := (le_lit h3).1
    have c3' := (le_lit h3).2
    obtain ⟨P, hP⟩ : ∃ P, P = 13 + M := ⟨_, rfl⟩
    obtain ⟨Q, hQ⟩ : ∃ Q, Q = 21 + M := ⟨_, rfl⟩
    have HP := hid (sums13 (Nat.le_of_not_lt h1) hP hQ)
    have HMS := hid (And.intro (Nat.le_of_not_lt h1) (Nat.le_of_not_lt h3))
    have HPQ := hid (And.intro hP hQ)
    clear hP hQ h1 h2 h3
    by_cases h4 : b.length < Q
    · have ER := hid (readF_short HL.out.2 HMM.out HN.out (by rw [← HPQ.out.2]; exact h4))
      have c4 : decide ((b.length : Int) < (Q : Int)) = true := by simp; omega
      have c4' : decide (b.length < Q) = true := by simpa using h4
      clear h4
      obtain ⟨p1, p2, _⟩ := HP.out.1
      go_wp2
      (try simp only [Exit.inBlock, Exit.then])
      refine bodyPost_ret (results_tmp5 rfl _ _ _) rfl ?_
      rw [ER.out]
      exact ⟨.slice none 0 0, rfl, kW2.out, Bs.nil _ _ _⟩
    · have c4 : decide ((b.length : Int) < (Q : Int)) = false := by simp; omega
      have c4' : decide (b.length < Q) = false := by simp; omega
      have HQL := hid h4
      clear h4
      obtain ⟨p1, p2, p3⟩ := HP.out.1
      obtain ⟨a6, hsl6, hv6⟩ := slice_mid tBytes zBytes HV.out .i64 .i64 (13 : Int) (P : Int) (by decide) (by have := HPQ.out.1; omega) (by have := HPQ.out; have := HQL.out; omega)
      obtain ⟨a7, hsl7, hv7⟩ := slice_mid tBytes zBytes HV.out .i64 .i64 (P : Int) (Q : Int) (by omega) (by have := HPQ.out; omega) (by have := HQL.out; omega)
      simp only [Int.toNat_natCast, show (13 : Int).toNat = 13 from rfl] at hsl6 hv6 hsl7 hv7
      rw [show P - 13 = M by have := HPQ.out.1; omega] at hsl6 hv6
      rw [show Q - P = 8 by have := HPQ.out; omega] at hsl7 hv7
      obtain ⟨BD, hBD⟩ : ∃ BD, BD = (b.drop 13).take M := ⟨_, rfl⟩
      have HBD := hid hBD
      have HV6 := hid (show Bs w lo hi (.slice a6 M (cv - 13)) BD by
        unfold Bs
        rw [hBD, show (b.drop 13).take M = (b.take P).drop 13 by rw [List.drop_take]; congr 1; have := HPQ.out.1; omega, List.map_drop, List.map_take]
        exact hv6)
      have HV7 := hid (show Bs w lo hi (.slice a7 8 (cv - P)) ((b.drop P).take 8) by
        unfold Bs
        rw [show (b.drop P).take 8 = (b.take Q).drop P by rw [List.drop_take]; congr 1; have := HPQ.out; omega, List.map_drop, List.map_take]
        exact hv7)
      obtain ⟨MK, hMK⟩ : ∃ MK, MK = markF (K : Int) (S : Int) BD := ⟨_, rfl⟩
      have HMK := hid hMK.symm
      have HML := hid (show MK.length = 8 by rw [hMK]; simp [markF, sumB_len])
      have HS1 := hid (wrapI (S : Int) (by omega) (Int.lt_of_le_of_lt (Int.ofNat_le.2 HMS.out.2) (by decide)))
      have hBDl : BD.length ≤ 1099511627000 := by rw [hBD, List.length_take]; have := HMS.out.1; omega
      have HMC := hid (fun W (hW : Kept None w W) => (by
        have h := mark (K : Int) (S : Int) (.slice a6 M (cv - 13)) lo hi BD W (HV6.out.kept hW (fun _ _ _ h => h)) (by omega) (by have := HKB.out; omega) (by omega) (Int.lt_of_le_of_lt (Int.ofNat_le.2 HMS.out.2) (by decide)) hBDl
        rw [← hMK] at h
        exact h))
      obtain ⟨X, hX⟩ : ∃ X, X = (b.drop P).take 8 := ⟨_, rfl⟩
      rw [← hX] at HV7
      have HC7 := hid (fun W (hW : Kept None w W) => cvBytes (HV7.out.kept hW (fun _ _ _ h => h)))
      clear hv6 hv7 hBD hMK hBDl
      go_wp2_with fail
      clear p1 p2 p3 c1 c1' c2 c2' c3 c3' c4 c4' d1 d2
      have HX := hid hX
      by_cases hm : MK = X
      · subst hm
        have HMX := hid hX
        have HNE := hid True.intro
        clear hX
        go_wp2_with fail
        have hs : Steady [.bytes 4 (MK), .val 5 (.string ⟨(MK).toArray⟩) [4]] := Go.Pm.Steady.bytes (Go.Pm.Steady.val (Go.Pm.Steady.nil))
        refine wp_region_kn W2 _ hs (Kept.refl _ _) (by kernel_rfl) (by kernel_rfl) (by kernel_rfl) ?_
        iterate 2 (refine wpPar_pure rfl (by rfl) _ (fun W hW => by
            have cvx := HC7.out _ (kW2.out.trans hW)
            go_simp
            exact rfl) ?_; simp only [Act.put, List.setIfInBounds_toArray, List.set_cons_zero, List.set_cons_succ])
        refine wpPar_pure rfl (by rfl) (.int .i64 (S : Int)) (fun W hW => by have q := HS1.out; go_simp) ?_; simp only [Act.put, List.setIfInBounds_toArray, List.set_cons_zero, List.set_cons_succ]
        iterate 1 (refine wpPar_pure rfl (by rfl) _ (fun W hW => by
            have cvx := HC7.out _ (kW2.out.trans hW)
            go_simp
            exact rfl) ?_; simp only [Act.put, List.setIfInBounds_toArray, List.set_cons_zero, List.set_cons_succ])
        refine wpKn_adds hs rfl (by rfl) (fun W hW hd => ?_) (fun v4 hv => ?_)
        · unfold Gives
          go_simp
          refine gives_call (HMC.out _ (kW2.out.trans hW)) ?_
          rintro e w3 ⟨a, c, rfl, k3, b3⟩
          exact ⟨_, rfl, k3, ⟨_, _, by rw [HML.out]⟩, _, _, b3⟩
        obtain ⟨a8, c8, rfl⟩ : ∃ a c, v4 = .slice a (MK).length c := hv
        simp only [Act.put, List.setIfInBounds_toArray, List.set_cons_zero, List.set_cons_succ]
        refine wpKn_adds hs rfl (by rfl) (fun W hW hd => ?_) (fun v5 hv => ?_)
        · unfold Gives
          obtain ⟨lo, hi, hb⟩ : ∃ lo hi, Bs W lo hi (.slice a8 (MK).length c8) (MK) := hd 4 (List.Mem.head _)
          have hcv := cvBytes hb
          go_simp
          exact ⟨Kept.refl _ _, rfl, trivial⟩
        obtain rfl : v5 = .string ⟨(MK).toArray⟩ := hv
        simp only [Act.put, List.setIfInBounds_toArray, List.set_cons_zero, List.set_cons_succ]
        iterate 2 (refine wpPar_pure rfl (by rfl) _ (fun W hW => by
            have cvx := HC7.out _ (kW2.out.trans hW)
            go_simp
            exact rfl) ?_; simp only [Act.put, List.setIfInBounds_toArray, List.set_cons_zero, List.set_cons_succ])
        refine wpPar_pure rfl (by rfl) (.int .i64 (P : Int)) (fun W hW => by have q := HP.out.2.1; go_simp) ?_; simp only [Act.put, List.setIfInBounds_toArray, List.set_cons_zero, List.set_cons_succ]
        iterate 1 (refine wpPar_pure rfl (by rfl) _ (fun W hW => by
            have cvx := HC7.out _ (kW2.out.trans hW)
            go_simp
            exact rfl) ?_; simp only [Act.put, List.setIfInBounds_toArray, List.set_cons_zero, List.set_cons_succ])
        refine wpPar_pure rfl (by rfl) (.int .i64 (Q : Int)) (fun W hW => by have q := HP.out.2.2; go_simp) ?_; simp only [Act.put, List.setIfInBounds_toArray, List.set_cons_zero, List.set_cons_succ]
        iterate 2 (refine wpPar_pure rfl (by rfl) _ (fun W hW => by
            have cvx := HC7.out _ (kW2.out.trans hW)
            go_simp
            exact rfl) ?_; simp only [Act.put, List.setIfInBounds_toArray, List.set_cons_zero, List.set_cons_succ])
        refine wpPar_pure rfl (by rfl) (.bool false) (fun W hW => by have q := HNE.out; go_simp) ?_; simp only [Act.put, List.setIfInBounds_toArray, List.set_cons_zero, List.set_cons_succ]
        refine wpPar_nil (fun W3 hW3 hG => ?_)
        have k3 := kW2.out.trans hW3
        clear hG hs hW3
        have ER := hid (readF_ok HL.out.2 HMM.out HN.out (by rw [← HPQ.out.2]; exact HQL.out) (by rw [← HPQ.out.1, ← HMX.out, ← HBD.out]; exact HMK.out))
        have cs1 := HS1.out
        have p3 := HP.out.1.2.2
        have hbd := HV6.out.kept k3 (fun _ _ _ h => h)
        go_wp2
        (try simp only [Exit.inBlock, Exit.then])
        refine bodyPost_ret (results_tmp5 rfl _ _ _) rfl ?_
        rw [ER.out]
        refine ⟨.slice a6 M (cv - 13), ?_, k3, by rw [← HBD.out]; exact hbd⟩
        rw [← HPQ.out.2]
        show Ending.returned (.tuple #[.int .i64 (K : Int), .int .i64 (S : Int), .slice a6 M (cv - 13), .int .i64 (wrap64 (21 + (M : Int))), .int .i64 0]) = _
        rw [HP.out.1.2.2]
      · have HNE := hid hm
        clear hm hX
        go_wp2_with fail
        have hs : Steady [.bytes 4 (MK), .val 5 (.string ⟨(MK).toArray⟩) [4]] := Go.Pm.Steady.bytes (Go.Pm.Steady.val (Go.Pm.Steady.nil))
        refine wp_region_kn W2 _ hs (Kept.refl _ _) (by kernel_rfl) (by kernel_rfl) (by kernel_rfl) ?_
        iterate 2 (refine wpPar_pure rfl (by rfl) _ (fun W hW => by
            have cvx := HC7.out _ (kW2.out.trans hW)
            go_simp
            exact rfl) ?_; simp only [Act.put, List.setIfInBounds_toArray, List.set_cons_zero, List.set_cons_succ])
        refine wpPar_pure rfl (by rfl) (.int .i64 (S : Int)) (fun W hW => by have q := HS1.out; go_simp) ?_; simp only [Act.put, List.setIfInBounds_toArray, List.set_cons_zero, List.set_cons_succ]
        iterate 1 (refine wpPar_pure rfl (by rfl) _ (fun W hW => by
            have cvx := HC7.out _ (kW2.out.trans hW)
            go_simp
            exact rfl) ?_; simp only [Act.put, List.setIfInBounds_toArray, List.set_cons_zero, List.set_cons_succ])
        refine wpKn_adds hs rfl (by rfl) (fun W hW hd => ?_) (fun v4 hv => ?_)
        · unfold Gives
          go_simp
          refine gives_call (HMC.out _ (kW2.out.trans hW)) ?_
          rintro e w3 ⟨a, c, rfl, k3, b3⟩
          exact ⟨_, rfl, k3, ⟨_, _, by rw [HML.out]⟩, _, _, b3⟩
        obtain ⟨a8, c8, rfl⟩ : ∃ a c, v4 = .slice a (MK).length c := hv
        simp only [Act.put, List.setIfInBounds_toArray, List.set_cons_zero, List.set_cons_succ]
        refine wpKn_adds hs rfl (by rfl) (fun W hW hd => ?_) (fun v5 hv => ?_)
        · unfold Gives
          obtain ⟨lo, hi, hb⟩ : ∃ lo hi, Bs W lo hi (.slice a8 (MK).length c8) (MK) := hd 4 (List.Mem.head _)
          have hcv := cvBytes hb
          go_simp
          exact ⟨Kept.refl _ _, rfl, trivial⟩
        obtain rfl : v5 = .string ⟨(MK).toArray⟩ := hv
        simp only [Act.put, List.setIfInBounds_toArray, List.set_cons_zero, List.set_cons_succ]
        iterate 2 (refine wpPar_pure rfl (by rfl) _ (fun W hW => by
            have cvx := HC7.out _ (kW2.out.trans hW)
            go_simp
            exact rfl) ?_; simp only [Act.put, List.setIfInBounds_toArray, List.set_cons_zero, List.set_cons_succ])
        refine wpPar_pure rfl (by rfl) (.int .i64 (P : Int)) (fun W hW => by have q := HP.out.2.1; go_simp) ?_; simp only [Act.put, List.setIfInBounds_toArray, List.set_cons_zero, List.set_cons_succ]
        iterate 1 (refine wpPar_pure rfl (by rfl) _ (fun W hW => by
            have cvx := HC7.out _ (kW2.out.trans hW)
            go_simp
            exact rfl) ?_; simp only [Act.put, List.setIfInBounds_toArray, List.set_cons_zero, List.set_cons_succ])
        refine wpPar_pure rfl (by rfl) (.int .i64 (Q : Int)) (fun W hW => by have q := HP.out.2.2; go_simp) ?_; simp only [Act.put, List.setIfInBounds_toArray, List.set_cons_zero, List.set_cons_succ]
        iterate 2 (refine wpPar_pure rfl (by rfl) _ (fun W hW => by
            have cvx := HC7.out _ (kW2.out.trans hW)
            go_simp
            exact rfl) ?_; simp only [Act.put, List.setIfInBounds_toArray, List.set_cons_zero, List.set_cons_succ])
        refine wpPar_pure rfl (by rfl) (.bool true) (fun W hW => by have q := HNE.out; go_simp) ?_; simp only [Act.put, List.setIfInBounds_toArray, List.set_cons_zero, List.set_cons_succ]
        refine wpPar_nil (fun W3 hW3 hG => ?_)
        have k3 := kW2.out.trans hW3
        clear hG hs hW3
        have ER := hid (readF_sum HL.out.2 HMM.out HN.out (by rw [← HPQ.out.2]; exact HQL.out) (by rw [← HPQ.out.1, ← HX.out, ← HBD.out, HMK.out]; exact HNE.out))
        go_wp2
        (try simp only [Exit.inBlock, Exit.then])
        refine bodyPost_ret (results_tmp5 rfl _ _ _) rfl ?_
        rw [ER.out]
        exact ⟨.slice none 0 0, rfl, k3, Bs.nil _ _ _⟩
end R12
end Go.Proofs.Ytkjidligfcihgaa
