/- postmarklaw8.LogParts: true. -/
import Derived.Test.YtdlnikkfpfdbbaaKnownL8
namespace Go.Proofs.Ytdlnikkfpfdbbaa
open Go.RowKit Go.Pm
namespace L8
set_option maxRecDepth 100000 in
set_option maxHeartbeats 1000000 in
theorem parts_out (v : Value) (lo hi : Nat) (l : List UInt8) (w : World) (hv : Bs w lo hi v l) (hl : 40 < l.length ∨ l.length < 2) : Calls Try.prog 6 #[v] w fun e w' => e = .returned (.bool true) ∧ Kept None w w' := by
  obtain ⟨a, cap, rfl, g1, g2, g3⟩ := hv.shape
  have HK := hid (known w)
  obtain ⟨n, hn⟩ : ∃ n, n = l.length := ⟨_, rfl⟩
  rw [← hn] at hl ⊢
  clear hv g1 g3 hn
  by_cases h4 : 40 < n
  · have h1 : (40 : Int) < (n : Int) := by omega
    clear hl h4
    go_enter Try.func6, Try.ntmps6
    go_wp2_with fail
    refine HK.out.mono ?_
    rintro e w1 ⟨rfl, k1⟩
    go_wp2
    go_ret
    exact ⟨rfl, k1⟩
  · have h1 : ¬ (40 : Int) < (n : Int) := by omega
    have h2 : (n : Int) < 2 := by omega
    clear hl h4
    go_enter Try.func6, Try.ntmps6
    go_wp2_with fail
    refine HK.out.mono ?_
    rintro e w1 ⟨rfl, k1⟩
    go_wp2
    go_ret
    exact ⟨rfl, k1⟩
set_option maxRecDepth 100000 in
set_option maxHeartbeats 1000000 in
theorem parts_in (v : Value) (lo hi : Nat) (l : List UInt8) (w : World) (hv : Bs w lo hi v l) (h2 : 2 ≤ l.length) (h40 : l.length ≤ 40) : Calls Try.prog 6 #[v] w fun e w' => e = .returned (.bool true) ∧ Kept None w w' := by
  have hv0 := hv
  obtain ⟨a, cap, rfl, g1, g2, g3⟩ := hv.shape
  have HK := hid (known w)
  have HL := hid (fun w (h : Kept None w w) w1 (k : Kept None w w1) (hv : Bs w lo hi (.slice a l.length cap) l) => leaves _ _ _ l w1 (hv.kept k (fun _ _ _ h => h)) (by omega))
  obtain ⟨x, hx⟩ : ∃ x, x = leavesL l := ⟨_, rfl⟩
  have hxl : x.length = l.length := by rw [hx]; exact leavesL_len l
  have hx32 : H32 x := by rw [hx]; exact leavesK_h32 _ _
  obtain ⟨n, hn⟩ : ∃ n, n = l.length := ⟨_, rfl⟩
  rw [← hn] at hxl h2 h40 hv0 HL ⊢
  have HV := hid (And.intro hv0 hx)
  have h2x : 2 ≤ x.length := by omega
  have hS := fun w => Lg.split n w h2 (by omega)
  have hk := splitN_lt h2
  have hp := splitN_pos h2
  obtain ⟨k, hkk⟩ : ∃ k, k = splitN n := ⟨_, rfl⟩
  rw [← hkk] at hS hk hp
  have hRoot := rootL_more h2x
  rw [hxl, ← hkk] at hRoot
  have hF := fun y (h : y.length ≤ 40) v w hv => Lg.root y.length y v w hv (Nat.le_refl _) (Nat.le_trans h (by decide))
  have hG := fun y (h : y.length ≤ 40) v w hv => RLg.root y.length y v w hv (Nat.le_refl _) (Nat.le_trans h (by decide))
  have f1 := hF x (by omega)
  have f2 := hF (x.take k) (by rw [List.length_take]; omega)
  have f3 := hF (x.drop k) (by rw [List.length_drop]; omega)
  have f4 := hF (x.take 1) (by rw [List.length_take]; omega)
  have f5 := hF (x.take (n - 1)) (by rw [List.length_take]; omega)
  have f6 := hG x (by omega)
  have f7 := hG (x.take (n - 1)) (by rw [List.length_take]; omega)
  have fn := fun w => Lg.node (rootL (x.take k)) (rootL (x.drop k)) w (rootL_len (hx32.take _)) (rootL_len (hx32.drop _))
  rw [← hRoot] at fn
  obtain ⟨x0, hx0⟩ : ∃ x0, x[0]? = some x0 := ⟨x[0]'(by omega), List.getElem?_eq_getElem _⟩
  have ht1 : x.take 1 = [x0] := by
    match x, hx0 with
    | y :: ys, h => simpa using h
  rw [ht1, rootL_one] at f4
  have l0 : x0.length = 32 := hx32 x0 (List.mem_of_getElem? hx0)
  obtain ⟨r, hr⟩ : ∃ r, r = rootL x := ⟨_, rfl⟩
  obtain ⟨A, hA⟩ : ∃ r, r = rootL (x.take k) := ⟨_, rfl⟩
  obtain ⟨B, hB⟩ : ∃ r, r = rootL (x.drop k) := ⟨_, rfl⟩
  obtain ⟨C, hC⟩ : ∃ r, r = rootL (x.take (n - 1)) := ⟨_, rfl⟩
  have lr : r.length = 32 := by rw [hr]; exact rootL_len hx32
  have lC : C.length = 32 := by rw [hC]; exact rootL_len (hx32.take _)
  rw [← hr] at f1 f6 fn
  rw [← hA] at f2 fn
  rw [← hB] at f3 fn
  rw [← hC] at f5 f7
  have e1 := Hk.eqHash r r lr lr
  have e2 := Hk.eqHash x0 x0 l0 l0
  have e3 := Hk.eqHash r C lr lC
  rw [beq_self_eq_true] at e1 e2
  obtain ⟨bE, hbE⟩ : ∃ b, b = (r == C) := ⟨_, rfl⟩
  rw [← hbE] at e3
  have a0 := Hk.aH32' l0
  have FN := hid fn
  have F := hid (And.intro f1 (And.intro f2 (And.intro f3 (And.intro f4 (And.intro f5 (And.intro f6 f7))))))
  have E := hid (And.intro e1 (And.intro e2 e3))
  have HS := hid hS
  have HX := hid (And.intro hxl (And.intro hx0 ht1))
  have h40z : ¬ (40 : Int) < (n : Int) := by omega
  have h2z : ¬ (n : Int) < 2 := by omega
  have hkz : (k : Int) < (n : Int) := by omega
  have hpz : (1 : Int) ≤ (k : Int) := by omega
  obtain ⟨m, hm⟩ : ∃ m : Nat, m = n - 1 := ⟨_, rfl⟩
  have rm : IntKind.i64.wrap ((n : Int) - 1) = (m : Int) := by rw [IntKind.wrap_i64]; omega
  have hmz : (m : Int) < (n : Int) := by omega
  have HM := hid (And.intro hm (And.intro h2 (And.intro hk hp)))
  clear hv hv0 g1 g3 hx hxl hx32 hn h2 h40 h2x hS hk hp hkk hRoot hF hG f1 f2 f3 f4 f5 f6 f7 fn hx0 ht1 l0 hr hA hB hC lr lC e1 e2 e3 hbE hm
  go_enter Try.func6, Try.ntmps6
  go_wp2_with fail
  refine HK.out.mono ?_
  rintro e w1 ⟨rfl, k1⟩
  go_wp2_with fail
  refine (HL.out w (Kept.refl _ _) w1 k1 HV.out.1).mono ?_
  rintro e w2 ⟨u, rfl, k2, p2⟩
  rw [← HV.out.2] at p2
  have K2 := hid (k1.trans k2)
  have P2 := p2.rh.mono (Nat.zero_le _)
  obtain ⟨a2, c2, rfl⟩ := P2.form
  rw [HX.out.1] at P2 ⊢
  obtain ⟨i1, s1, j1⟩ := rh_to Lg8.tHashes Lg8.zHashes P2 .i64 k (by have := HM.out; omega)
  obtain ⟨i2, s2, j2⟩ := rh_from Lg8.tHashes Lg8.zHashes P2 .i64 k (by have := HM.out; omega)
  obtain ⟨i4, s4, j4⟩ := rh_to Lg8.tHashes Lg8.zHashes P2 .i64 m (by have := HM.out; omega)
  rw [HM.out.1] at j4
  have g4 : c2 ≤ 9223372036854775807 ∧ n ≤ c2 := by
    obtain ⟨hi, hv⟩ := P2
    obtain ⟨_, _, q, q1, q2, _⟩ := hv.form
    injection q with _ q0 q
    omega
  obtain ⟨b0, o0, hab, rg0⟩ : ∃ b o, a2 = some ⟨b, o, none⟩ ∧ w2.rangeAt b o (x0.map u8v) := by
    obtain ⟨hi, h⟩ := P2
    obtain ⟨b, o, e1, e2⟩ := h.at (i := 0) (by have := HM.out; have := HX.out.1; omega)
    have e3 : x[0]'(by have := HM.out; have := HX.out.1; omega) = x0 := by
      have h := HX.out.2.1
      rw [List.getElem?_eq_getElem (by have := HM.out; have := HX.out.1; omega)] at h
      exact Option.some.inj h
    rw [e3] at e2
    exact ⟨b, o, e1, by simpa using e2⟩
  obtain rfl := hab
  have j3 : Rh 0 w2 (.slice (some ⟨b0, o0, none⟩) 1 c2) [x0] := by
    obtain ⟨hi, h⟩ := P2
    have h2 := Hs.cut h 0 1 (by omega) (by have := HM.out; omega)
    rw [if_neg (by have := HM.out; omega), HX.out.2.2] at h2
    exact ⟨hi, by simpa [Addr.add_zero'] using h2⟩
  have RG := hid rg0
  have I := hid (And.intro P2 (And.intro j1 (And.intro j2 (And.intro j3 (by rw [HM.out.1]; exact j4 : Rh 0 w2 (.slice i4 m c2) (x.take (n - 1)))))))
  have SL := hid (And.intro s1 (And.intro s2 s4))
  have hcz : (n : Int) ≤ (c2 : Int) := by omega
  have HC : Hid ((1 : Int) ≤ (c2 : Int) ∧ 0 < n) := hid (by have := HM.out; omega)
  clear k1 k2 p2 P2 j1 j2 j3 j4 s1 s2 s4 rg0 HL
  go_wp2_with fail
  refine (HS.out _).mono ?_
  rintro e w3 ⟨rfl, e3⟩
  rw [← e3]
  clear e3
  go_wp2_with fail
  have hs : Steady [.val 1 (hashV r), .val 5 (hashV A), .val 9 (hashV B), .val 10 (hashV r), .val 15 (hashV x0), .val 23 (hashV r), .val 29 (hashV C), .val 32 (hashV r), .val 38 (hashV C)] := Go.Pm.Steady.val (Go.Pm.Steady.val (Go.Pm.Steady.val (Go.Pm.Steady.val (Go.Pm.Steady.val (Go.Pm.Steady.val (Go.Pm.Steady.val (Go.Pm.Steady.val (Go.Pm.Steady.val (Go.Pm.Steady.nil)))))))))
  refine wp_region_kn w2 _ hs (Kept.refl _ _) (by kernel_rfl) (by kernel_rfl) (by kernel_rfl) ?_
  iterate 1 (refine wpPar_pure rfl (by rfl) _ (fun W hW => by
      have q1 := SL.out.1 W
      have q2 := SL.out.2.1 W
      have q4 := SL.out.2.2 W
      have g1 := E.out.1
      have g2 := E.out.2.1
      have g3 := E.out.2.2
      have g4 := HC.out.1
      have g5 := HC.out.2
      go_simp
      exact rfl) ?_; simp only [Act.put, List.setIfInBounds_toArray, List.set_cons_zero, List.set_cons_succ])
  refine wpKn_adds hs rfl (by rfl) (fun W hW hd => ?_) (fun v1 hv => ?_)
  · unfold Gives
    go_simp
    refine gives_call ((F.out.1 _ W (I.out.1.kept hW))) ?_
    rintro e w3 ⟨rfl, k3⟩
    exact ⟨_, rfl, k3, rfl, trivial⟩
  obtain rfl : v1 = hashV r := hv
  simp only [Act.put, List.setIfInBounds_toArray, List.set_cons_zero, List.set_cons_succ]
  iterate 3 (refine wpPar_pure rfl (by rfl) _ (fun W hW => by
      have q1 := SL.out.1 W
      have q2 := SL.out.2.1 W
      have q4 := SL.out.2.2 W
      have g1 := E.out.1
      have g2 := E.out.2.1
      have g3 := E.out.2.2
      have g4 := HC.out.1
      have g5 := HC.out.2
      go_simp
      exact rfl) ?_; simp only [Act.put, List.setIfInBounds_toArray, List.set_cons_zero, List.set_cons_succ])
  refine wpKn_adds hs rfl (by rfl) (fun W hW hd => ?_) (fun v5 hv => ?_)
  · unfold Gives
    go_simp
    refine gives_call ((F.out.2.1 _ W (I.out.2.1.kept hW))) ?_
    rintro e w3 ⟨rfl, k3⟩
    exact ⟨_, rfl, k3, rfl, trivial⟩
  obtain rfl : v5 = hashV A := hv
  simp only [Act.put, List.setIfInBounds_toArray, List.set_cons_zero, List.set_cons_succ]
  iterate 3 (refine wpPar_pure rfl (by rfl) _ (fun W hW => by
      have q1 := SL.out.1 W
      have q2 := SL.out.2.1 W
      have q4 := SL.out.2.2 W
      have g1 := E.out.1
      have g2 := E.out.2.1
      have g3 := E.out.2.2
      have g4 := HC.out.1
      have g5 := HC.out.2
      go_simp
      exact rfl) ?_; simp only [Act.put, List.setIfInBounds_toArray, List.set_cons_zero, List.set_cons_succ])
  refine wpKn_adds hs rfl (by rfl) (fun W hW hd => ?_) (fun v9 hv => ?_)
  · unfold Gives
    go_simp
    refine gives_call ((F.out.2.2.1 _ W (I.out.2.2.1.kept hW))) ?_
    rintro e w3 ⟨rfl, k3⟩
    exact ⟨_, rfl, k3, rfl, trivial⟩
  obtain rfl : v9 = hashV B := hv
  simp only [Act.put, List.setIfInBounds_toArray, List.set_cons_zero, List.set_cons_succ]
  refine wpKn_adds hs rfl (by rfl) (fun W hW hd => ?_) (fun v10 hv => ?_)
  · unfold Gives
    go_simp
    refine gives_call ((FN.out W)) ?_
    rintro e w3 ⟨rfl, k3⟩
    exact ⟨_, rfl, k3, rfl, trivial⟩
  obtain rfl : v10 = hashV r := hv
  simp only [Act.put, List.setIfInBounds_toArray, List.set_cons_zero, List.set_cons_succ]
  iterate 2 (refine wpPar_pure rfl (by rfl) _ (fun W hW => by
      have q1 := SL.out.1 W
      have q2 := SL.out.2.1 W
      have q4 := SL.out.2.2 W
      have g1 := E.out.1
      have g2 := E.out.2.1
      have g3 := E.out.2.2
      have g4 := HC.out.1
      have g5 := HC.out.2
      go_simp
      exact rfl) ?_; simp only [Act.put, List.setIfInBounds_toArray, List.set_cons_zero, List.set_cons_succ])
  refine wpPar_pure rfl (by kernel_rfl) _ (fun W hW => by
      have q1 := SL.out.1 W
      have q2 := SL.out.2.1 W
      have q4 := SL.out.2.2 W
      have g1 := E.out.1
      have g2 := E.out.2.1
      have g3 := E.out.2.2
      have g4 := HC.out.1
      have g5 := HC.out.2
      go_simp
      exact rfl) ?_; simp only [Act.put, List.setIfInBounds_toArray, List.set_cons_zero, List.set_cons_succ]
  refine wpPar_pure rfl (by kernel_rfl) _ (fun W hW => by
      have q1 := SL.out.1 W
      have q2 := SL.out.2.1 W
      have q4 := SL.out.2.2 W
      have g1 := E.out.1
      have g2 := E.out.2.1
      have g3 := E.out.2.2
      have g4 := HC.out.1
      have g5 := HC.out.2
      go_simp
      exact rfl) ?_; simp only [Act.put, List.setIfInBounds_toArray, List.set_cons_zero, List.set_cons_succ]
  refine wpKn_adds hs rfl (by kernel_rfl) (fun W hW hd => ?_) (fun v15 hv => ?_)
  · unfold Gives
    go_simp
    refine gives_call ((F.out.2.2.2.1 _ W (I.out.2.2.2.1.kept hW))) ?_
    rintro e w3 ⟨rfl, k3⟩
    exact ⟨_, rfl, k3, rfl, trivial⟩
  obtain rfl : v15 = hashV x0 := hv
  simp only [Act.put, List.setIfInBounds_toArray, List.set_cons_zero, List.set_cons_succ]
  refine wpPar_pure rfl (by kernel_rfl) _ (fun W hW => by
      have q1 := SL.out.1 W
      have q2 := SL.out.2.1 W
      have q4 := SL.out.2.2 W
      have g1 := E.out.1
      have g2 := E.out.2.1
      have g3 := E.out.2.2
      have g4 := HC.out.1
      have g5 := HC.out.2
      go_simp
      exact rfl) ?_; simp only [Act.put, List.setIfInBounds_toArray, List.set_cons_zero, List.set_cons_succ]
  refine wpPar_pure rfl (by kernel_rfl) _ (fun W hW => by
      have q1 := SL.out.1 W
      have q2 := SL.out.2.1 W
      have q4 := SL.out.2.2 W
      have g1 := E.out.1
      have g2 := E.out.2.1
      have g3 := E.out.2.2
      have g4 := HC.out.1
      have g5 := HC.out.2
      go_simp
      exact rfl) ?_; simp only [Act.put, List.setIfInBounds_toArray, List.set_cons_zero, List.set_cons_succ]
  refine wpPar_pure rfl (by kernel_rfl) (hashV x0) (fun W hW => exec_load_at rfl rfl (rangeAt_kept RG.out hW) a0) ?_; simp only [Act.put, List.setIfInBounds_toArray, List.set_cons_zero, List.set_cons_succ]
  refine wpPar_pure rfl (by kernel_rfl) _ (fun W hW => by
      have q1 := SL.out.1 W
      have q2 := SL.out.2.1 W
      have q4 := SL.out.2.2 W
      have g1 := E.out.1
      have g2 := E.out.2.1
      have g3 := E.out.2.2
      have g4 := HC.out.1
      have g5 := HC.out.2
      go_simp
      exact rfl) ?_; simp only [Act.put, List.setIfInBounds_toArray, List.set_cons_zero, List.set_cons_succ]
  iterate 2 (refine wpPar_pure rfl (by rfl) _ (fun W hW => by
      have q1 := SL.out.1 W
      have q2 := SL.out.2.1 W
      have q4 := SL.out.2.2 W
      have g1 := E.out.1
      have g2 := E.out.2.1
      have g3 := E.out.2.2
      have g4 := HC.out.1
      have g5 := HC.out.2
      go_simp
      exact rfl) ?_; simp only [Act.put, List.setIfInBounds_toArray, List.set_cons_zero, List.set_cons_succ])
  refine wpPar_pure rfl (by kernel_rfl) _ (fun W hW => by
      have q1 := SL.out.1 W
      have q2 := SL.out.2.1 W
      have q4 := SL.out.2.2 W
      have g1 := E.out.1
      have g2 := E.out.2.1
      have g3 := E.out.2.2
      have g4 := HC.out.1
      have g5 := HC.out.2
      go_simp
      exact rfl) ?_; simp only [Act.put, List.setIfInBounds_toArray, List.set_cons_zero, List.set_cons_succ]
  refine wpKn_adds hs rfl (by kernel_rfl) (fun W hW hd => ?_) (fun v23 hv => ?_)
  · unfold Gives
    go_simp
    refine gives_call ((F.out.1 _ W (I.out.1.kept hW))) ?_
    rintro e w3 ⟨rfl, k3⟩
    exact ⟨_, rfl, k3, rfl, trivial⟩
  obtain rfl : v23 = hashV r := hv
  simp only [Act.put, List.setIfInBounds_toArray, List.set_cons_zero, List.set_cons_succ]
  refine wpPar_pure rfl (by kernel_rfl) _ (fun W hW => by
      have q1 := SL.out.1 W
      have q2 := SL.out.2.1 W
      have q4 := SL.out.2.2 W
      have g1 := E.out.1
      have g2 := E.out.2.1
      have g3 := E.out.2.2
      have g4 := HC.out.1
      have g5 := HC.out.2
      go_simp
      exact rfl) ?_; simp only [Act.put, List.setIfInBounds_toArray, List.set_cons_zero, List.set_cons_succ]
  refine wpPar_pure rfl (by kernel_rfl) _ (fun W hW => by
      have q1 := SL.out.1 W
      have q2 := SL.out.2.1 W
      have q4 := SL.out.2.2 W
      have g1 := E.out.1
      have g2 := E.out.2.1
      have g3 := E.out.2.2
      have g4 := HC.out.1
      have g5 := HC.out.2
      go_simp
      exact rfl) ?_; simp only [Act.put, List.setIfInBounds_toArray, List.set_cons_zero, List.set_cons_succ]
  refine wpPar_pure rfl (by kernel_rfl) _ (fun W hW => by
      have q1 := SL.out.1 W
      have q2 := SL.out.2.1 W
      have q4 := SL.out.2.2 W
      have g1 := E.out.1
      have g2 := E.out.2.1
      have g3 := E.out.2.2
      have g4 := HC.out.1
      have g5 := HC.out.2
      go_simp
      exact rfl) ?_; simp only [Act.put, List.setIfInBounds_toArray, List.set_cons_zero, List.set_cons_succ]
  refine wpPar_pure rfl (by kernel_rfl) _ (fun W hW => by
      have q1 := SL.out.1 W
      have q2 := SL.out.2.1 W
      have q4 := SL.out.2.2 W
      have g1 := E.out.1
      have g2 := E.out.2.1
      have g3 := E.out.2.2
      have g4 := HC.out.1
      have g5 := HC.out.2
      go_simp
      exact rfl) ?_; simp only [Act.put, List.setIfInBounds_toArray, List.set_cons_zero, List.set_cons_succ]
  refine wpPar_pure rfl (by kernel_rfl) _ (fun W hW => by
      have q1 := SL.out.1 W
      have q2 := SL.out.2.1 W
      have q4 := SL.out.2.2 W
      have g1 := E.out.1
      have g2 := E.out.2.1
      have g3 := E.out.2.2
      have g4 := HC.out.1
      have g5 := HC.out.2
      go_simp
      exact rfl) ?_; simp only [Act.put, List.setIfInBounds_toArray, List.set_cons_zero, List.set_cons_succ]
  refine wpKn_adds hs rfl (by kernel_rfl) (fun W hW hd => ?_) (fun v29 hv => ?_)
  · unfold Gives
    go_simp
    refine gives_call ((F.out.2.2.2.2.1 _ W (I.out.2.2.2.2.kept hW))) ?_
    rintro e w3 ⟨rfl, k3⟩
    exact ⟨_, rfl, k3, rfl, trivial⟩
  obtain rfl : v29 = hashV C := hv
  simp only [Act.put, List.setIfInBounds_toArray, List.set_cons_zero, List.set_cons_succ]
  refine wpPar_pure rfl (by kernel_rfl) _ (fun W hW => by
      have q1 := SL.out.1 W
      have q2 := SL.out.2.1 W
      have q4 := SL.out.2.2 W
      have g1 := E.out.1
      have g2 := E.out.2.1
      have g3 := E.out.2.2
      have g4 := HC.out.1
      have g5 := HC.out.2
      go_simp
      exact rfl) ?_; simp only [Act.put, List.setIfInBounds_toArray, List.set_cons_zero, List.set_cons_succ]
  refine wpPar_pure rfl (by kernel_rfl) _ (fun W hW => by
      have q1 := SL.out.1 W
      have q2 := SL.out.2.1 W
      have q4 := SL.out.2.2 W
      have g1 := E.out.1
      have g2 := E.out.2.1
      have g3 := E.out.2.2
      have g4 := HC.out.1
      have g5 := HC.out.2
      go_simp
      exact rfl) ?_; simp only [Act.put, List.setIfInBounds_toArray, List.set_cons_zero, List.set_cons_succ]
  refine wpKn_adds hs rfl (by kernel_rfl) (fun W hW hd => ?_) (fun v32 hv => ?_)
  · unfold Gives
    go_simp
    refine gives_call ((F.out.2.2.2.2.2.1 _ W (I.out.1.kept hW))) ?_
    rintro e w3 ⟨rfl, k3⟩
    exact ⟨_, rfl, k3, rfl, trivial⟩
  obtain rfl : v32 = hashV r := hv
  simp only [Act.put, List.setIfInBounds_toArray, List.set_cons_zero, List.set_cons_succ]
  refine wpPar_pure rfl (by kernel_rfl) _ (fun W hW => by
      have q1 := SL.out.1 W
      have q2 := SL.out.2.1 W
      have q4 := SL.out.2.2 W
      have g1 := E.out.1
      have g2 := E.out.2.1
      have g3 := E.out.2.2
      have g4 := HC.out.1
      have g5 := HC.out.2
      go_simp
      exact rfl) ?_; simp only [Act.put, List.setIfInBounds_toArray, List.set_cons_zero, List.set_cons_succ]
  refine wpPar_pure rfl (by kernel_rfl) _ (fun W hW => by
      have q1 := SL.out.1 W
      have q2 := SL.out.2.1 W
      have q4 := SL.out.2.2 W
      have g1 := E.out.1
      have g2 := E.out.2.1
      have g3 := E.out.2.2
      have g4 := HC.out.1
      have g5 := HC.out.2
      go_simp
      exact rfl) ?_; simp only [Act.put, List.setIfInBounds_toArray, List.set_cons_zero, List.set_cons_succ]
  refine wpPar_pure rfl (by kernel_rfl) _ (fun W hW => by
      have q1 := SL.out.1 W
      have q2 := SL.out.2.1 W
      have q4 := SL.out.2.2 W
      have g1 := E.out.1
      have g2 := E.out.2.1
      have g3 := E.out.2.2
      have g4 := HC.out.1
      have g5 := HC.out.2
      go_simp
      exact rfl) ?_; simp only [Act.put, List.setIfInBounds_toArray, List.set_cons_zero, List.set_cons_succ]
  refine wpPar_pure rfl (by kernel_rfl) _ (fun W hW => by
      have q1 := SL.out.1 W
      have q2 := SL.out.2.1 W
      have q4 := SL.out.2.2 W
      have g1 := E.out.1
      have g2 := E.out.2.1
      have g3 := E.out.2.2
      have g4 := HC.out.1
      have g5 := HC.out.2
      go_simp
      exact rfl) ?_; simp only [Act.put, List.setIfInBounds_toArray, List.set_cons_zero, List.set_cons_succ]
  refine wpPar_pure rfl (by kernel_rfl) _ (fun W hW => by
      have q1 := SL.out.1 W
      have q2 := SL.out.2.1 W
      have q4 := SL.out.2.2 W
      have g1 := E.out.1
      have g2 := E.out.2.1
      have g3 := E.out.2.2
      have g4 := HC.out.1
      have g5 := HC.out.2
      go_simp
      exact rfl) ?_; simp only [Act.put, List.setIfInBounds_toArray, List.set_cons_zero, List.set_cons_succ]
  refine wpKn_adds hs rfl (by kernel_rfl) (fun W hW hd => ?_) (fun v38 hv => ?_)
  · unfold Gives
    go_simp
    refine gives_call ((F.out.2.2.2.2.2.2 _ W (I.out.2.2.2.2.kept hW))) ?_
    rintro e w3 ⟨rfl, k3⟩
    exact ⟨_, rfl, k3, rfl, trivial⟩
  obtain rfl : v38 = hashV C := hv
  simp only [Act.put, List.setIfInBounds_toArray, List.set_cons_zero, List.set_cons_succ]
  refine wpPar_pure rfl (by kernel_rfl) _ (fun W hW => by
      have q1 := SL.out.1 W
      have q2 := SL.out.2.1 W
      have q4 := SL.out.2.2 W
      have g1 := E.out.1
      have g2 := E.out.2.1
      have g3 := E.out.2.2
      have g4 := HC.out.1
      have g5 := HC.out.2
      go_simp
      exact rfl) ?_; simp only [Act.put, List.setIfInBounds_toArray, List.set_cons_zero, List.set_cons_succ]
  refine wpPar_pure rfl (by kernel_rfl) _ (fun W hW => by
      have q1 := SL.out.1 W
      have q2 := SL.out.2.1 W
      have q4 := SL.out.2.2 W
      have g1 := E.out.1
      have g2 := E.out.2.1
      have g3 := E.out.2.2
      have g4 := HC.out.1
      have g5 := HC.out.2
      go_simp
      exact rfl) ?_; simp only [Act.put, List.setIfInBounds_toArray, List.set_cons_zero, List.set_cons_succ]
  iterate 2 (refine wpPar_pure rfl (by rfl) _ (fun W hW => by
      have q1 := SL.out.1 W
      have q2 := SL.out.2.1 W
      have q4 := SL.out.2.2 W
      have g1 := E.out.1
      have g2 := E.out.2.1
      have g3 := E.out.2.2
      have g4 := HC.out.1
      have g5 := HC.out.2
      go_simp
      exact rfl) ?_; simp only [Act.put, List.setIfInBounds_toArray, List.set_cons_zero, List.set_cons_succ])
  refine wpPar_nil (fun W hW hG => ?_)
  have K9 := hid (K2.out.trans hW)
  clear hG hs hW
  cases bE <;> (go_wp2; go_ret; exact ⟨rfl, K9.out⟩)
/-- LogParts. -/
theorem parts (v : Value) (lo hi : Nat) (l : List UInt8) (w : World) (hv : Bs w lo hi v l) : Calls Try.prog 6 #[v] w fun e w' => e = .returned (.bool true) ∧ Kept None w w' := by
  by_cases h : 40 < l.length ∨ l.length < 2
  · exact parts_out v lo hi l w hv h
  · exact parts_in v lo hi l w hv (by omega) (by omega)
end L8
end Go.Proofs.Ytdlnikkfpfdbbaa
