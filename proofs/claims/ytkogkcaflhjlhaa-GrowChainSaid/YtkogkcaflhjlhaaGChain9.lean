/- postmarklaw9.GrowChain: true. -/
import Derived.Test.YtkogkcaflhjlhaaGLong9
import Derived.Test.YtkogkcaflhjlhaaHashes8
namespace Go.Proofs.Ytkogkcaflhjlhaa
open Go.RowKit Go.Pm
namespace L9
set_option maxRecDepth 100000 in
set_option maxHeartbeats 4000000 in
theorem chain_out (v : Value) (lo hi : Nat) (l : List UInt8) (c : Nat) (w : World) (hv : Bs w lo hi v l) (hl : 20 < l.length) : Calls Try.prog 4 #[v, .int .u8 c] w fun e w' => e = .returned (.bool true) ∧ Kept None w w' := by
  obtain ⟨a, cap, rfl, g1, g2, g3⟩ := hv.shape
  have HK := hid (known w)
  obtain ⟨n, hn⟩ : ∃ n, n = l.length := ⟨_, rfl⟩
  rw [← hn] at hl ⊢
  have h1 : (20 : Int) < (n : Int) := by omega
  clear hv g1 g3 hn hl
  go_enter Try.func4, Try.ntmps4
  go_wp2_with fail
  refine HK.out.mono ?_
  rintro e w1 ⟨rfl, k1⟩
  go_wp2
  go_ret
  exact ⟨rfl, k1⟩
set_option maxRecDepth 100000 in
set_option maxHeartbeats 4000000 in
theorem chain_in (v : Value) (lo hi : Nat) (l : List UInt8) (c : Nat) (w : World) (hv : Bs w lo hi v l) (hl : l.length ≤ 20) (hc256 : c < 256) : Calls Try.prog 4 #[v, .int .u8 c] w fun e w' => e = .returned (.bool true) ∧ Kept None w w' := by
  have hv0 := hv
  obtain ⟨a, cap, rfl, g1, g2, g3⟩ := hv.shape
  have HK := hid (known w)
  have HL := hid (fun w1 (k : Kept None w w1) => leaves _ _ _ l w1 (hv0.kept k (fun _ _ _ h => h)) (by omega))
  obtain ⟨x, hx⟩ : ∃ x, x = leavesL l := ⟨_, rfl⟩
  have hxl : x.length = l.length := by rw [hx]; exact leavesL_len l
  have hx32 : H32 x := by rw [hx]; exact leavesK_h32 _ _
  rw [← hx] at HL
  obtain ⟨n, hn⟩ : ∃ n, n = l.length := ⟨_, rfl⟩
  rw [← hn] at hxl hl HL ⊢
  obtain ⟨XA, hXA⟩ : ∃ A : Array Value, A = ((rootL x).map u8v).toArray := ⟨_, rfl⟩
  have lX : (rootL x).length = 32 := rootL_len hx32
  obtain ⟨hc, hhc⟩ : ∃ h, h = leafL [Go.Pm.byteOf (c : Int), 1, 2] := ⟨_, rfl⟩
  have lc : hc.length = 32 := by rw [hhc]; exact leafL_len _
  obtain ⟨CA, hCA⟩ : ∃ A : Array Value, A = (hc.map u8v).toArray := ⟨_, rfl⟩
  have FL : Hid (∀ v lo hi W, Bs W lo hi v [Go.Pm.byteOf (c : Int), 1, 2] → Calls Try.prog 18 #[v] W fun e w' => e = .returned (.agg CA) ∧ Kept None W w') := hid (fun v lo hi W h => by
    rw [hCA, hhc]; exact RLg.leaf v _ _ _ W h (by simp))
  have HCB : Hid ([Go.Pm.byteOf (c : Int), 1, 2].map u8v = [.int .u8 c, .int .u8 1, .int .u8 2]) := hid (by
    rw [List.map_cons, u8v_byteOf' (by omega) (by omega)]
    rfl)
  have HXA := hid (And.intro hXA lX)
  have HCC := hid (And.intro hCA lc)
  have HX := hid (And.intro hxl hx32)
  have HWC := hid (show IntKind.i64.wrap (c : Int) = (c : Int) by rw [IntKind.wrap_i64]; omega)
  have HN := hid hl
  have h20z : ¬ (20 : Int) < (n : Int) := by omega
  clear hv hv0 g1 g2 g3 hx hxl hx32 hn hl hXA lX hhc lc hCA hc256
  go_enter Try.func4, Try.ntmps4
  go_wp2_with fail
  refine HK.out.mono ?_
  rintro e w1 ⟨rfl, k1⟩
  have K1 := hid k1
  clear k1
  go_wp2_with fail
  refine (HL.out _ K1.out).mono ?_
  rintro e w2 ⟨u, rfl, k2, p2⟩
  obtain ⟨ax, cx, rfl⟩ := Ho.form p2
  have IX : Hid (Rh 0 w2 (.slice ax n cx) x) := hid (by
    have h := p2.rh.mono (Nat.zero_le _)
    rwa [HX.out.1] at h)
  rw [HX.out.1]
  have K2 := hid (K1.out.trans k2)
  clear k2 p2 K1 HL
  go_wp2
  go_loopg [6, 7, 8, 9] n (fun kx s6 s7 s8 s9 wr => ∃ (m : Nat) (u7 u8 u9 : Value), s6 = .int .i64 m ∧ s7 = u7 ∧ s8 = u8 ∧ s9 = u9 ∧ 1 ≤ m ∧ m ≤ n + 1 ∧ n + 1 - m ≤ kx ∧ Hid (Kept None w2 wr))
  case atStart => exact ⟨1, _, _, _, rfl, rfl, rfl, rfl, Nat.le_refl _, by omega, by omega, Kept.refl _ _⟩
  case round =>
  obtain ⟨m, u7, u8, u9, rfl, rfl, rfl, rfl, hm1, hmn, hkx, HKr⟩ := hrel
  by_cases hlt : m ≤ n
  · have hln := HN.out
    have h1z : (1 : Int) ≤ (m : Int) := by omega
    have hmz : (m : Int) ≤ (n : Int) := by omega
    obtain ⟨ps, hps⟩ : ∃ x', x' = subL x m true := ⟨_, rfl⟩
    obtain ⟨P, hP⟩ : ∃ j, j = ps.length := ⟨_, rfl⟩
    have hPx : P ≤ x.length := by rw [hP, hps]; exact subL_len x.length m true (Nat.le_refl _) hm1 (by have := HX.out.1; omega)
    obtain ⟨ix, hix⟩ : ∃ x' : Nat, x' = c % m := ⟨_, rfl⟩
    have lix : ix < m := by rw [hix]; exact Nat.mod_lt _ (by omega)
    have HMI := hid (And.intro (show (c : Int) % (m : Int) = (ix : Int) by rw [hix]; rfl) (show (c : Int).tmod (m : Int) = (ix : Int) by rw [hix]; rfl))
    clear hix
    obtain ⟨ys, hys⟩ : ∃ y, y = (x.take m).set ix hc := ⟨_, rfl⟩
    have hys32 : H32 ys := by
      rw [hys]
      intro z hz
      rcases List.mem_or_eq_of_mem_set hz with h | rfl
      · exact (HX.out.2.take m) z h
      · exact HCC.out.2
    have hyl : ys.length = m := by rw [hys, List.length_set, List.length_take]; have := HX.out.1; omega
    obtain ⟨OA, hOA⟩ : ∃ A : Array Value, A = ((rootL (x.take m)).map u8v).toArray := ⟨_, rfl⟩
    obtain ⟨YA, hYA⟩ : ∃ A : Array Value, A = ((rootL ys).map u8v).toArray := ⟨_, rfl⟩
    obtain ⟨bG, hbG⟩ : ∃ b, b = grownL (rootL ys) (rootL x) m n ps := ⟨_, rfl⟩
    have gs := grown_sub x m hm1 (by have := HX.out.1; omega)
    rw [HX.out.1, ← hps] at gs
    have lO : (rootL (x.take m)).length = 32 := rootL_len (HX.out.2.take _)
    have lY : (rootL ys).length = 32 := rootL_len hys32
    have hXA := HXA.out.1
    have lX := HXA.out.2
    have FP : Hid (∀ v W, Rh 0 W v x → Calls Try.prog 12 #[v, .int .i64 m] W fun e w' => ∃ u, e = .returned (.tuple #[u, .bool true]) ∧ Kept None W w' ∧ Ho 25 w' W.heap.size u ps) := hid (fun v W h => by
      rw [hps]; exact Gr.prove x m v W h (by have := HX.out.1; omega) hm1 (by have := HX.out.1; omega))
    have FRO : Hid (∀ v W, Rh 0 W v (x.take m) → Calls Try.prog 15 #[v] W fun e w' => e = .returned (.agg OA) ∧ Kept None W w') := hid (fun v W h => by
      rw [hOA]; exact RLg.root (x.take m).length (x.take m) v W h (Nat.le_refl _) (by rw [List.length_take]; omega))
    have FRX : Hid (∀ v W, Rh 0 W v (x) → Calls Try.prog 15 #[v] W fun e w' => e = .returned (.agg XA) ∧ Kept None W w') := hid (fun v W h => by
      rw [hXA]; exact RLg.root (x).length (x) v W h (Nat.le_refl _) (by have := HX.out.1; omega))
    have FRY : Hid (∀ v W, Rh 0 W v (ys) → Calls Try.prog 15 #[v] W fun e w' => e = .returned (.agg YA) ∧ Kept None W w') := hid (fun v W h => by
      rw [hYA]; exact RLg.root (ys).length (ys) v W h (Nat.le_refl _) (by rw [hyl]; omega))
    have FC0 : Hid (∀ v W, Rh 0 W v ps → Calls Try.prog 16 #[.agg OA, .agg XA, .int .i64 m, .int .i64 n, v] W fun e w' => e = .returned (.bool true) ∧ Kept None W w') := hid (fun v W hv => by
      have h2 := Gr.check _ _ ps m n v W lO lX hv (by have := HX.out.1; omega) (by omega)
      rw [gs] at h2
      rw [hOA, hXA]; exact h2)
    have FC1 : Hid (∀ v W, Rh 0 W v ps → Calls Try.prog 16 #[.agg YA, .agg XA, .int .i64 m, .int .i64 n, v] W fun e w' => e = .returned (.bool bG) ∧ Kept None W w') := hid (fun v W hv => by
      have h2 := Gr.check _ _ ps m n v W lY lX hv (by have := HX.out.1; omega) (by omega)
      rw [hYA, hXA, hbG]; exact h2)
    have FG1 : Hid (∀ v W, Rh 0 W v ps → Calls Try.prog 17 #[.agg YA, .agg XA, .int .i64 m, .int .i64 n, v] W fun e w' => e = .returned (.bool bG) ∧ Kept None W w') := hid (fun v W hv => by
      have h2 := RGr.grown _ _ ps m n v W lY lX hv (by have := HX.out.1; omega) (by omega)
      rw [hYA, hXA, hbG]; exact h2)
    have HPL := hid hP
    have HYS := hid (And.intro hys hyl)
    have HIX := hid lix
    clear hps hP hPx lix hys hys32 hyl hOA hYA hbG gs lO lY hXA lX
    obtain ⟨wo, rfl⟩ : ∃ wo : World, wo = wr := ⟨_, rfl⟩
    have IX1 := hid (IX.out.kept HKr.out)
    go_wp2_with fail
    refine (FP.out _ _ IX1.out).mono ?_
    rintro e w6 ⟨u, rfl, k6, p6⟩
    obtain ⟨ap, cp, rfl⟩ := Ho.form p6
    have IPm : Hid (Rh 0 w6 (.slice ap P cp) ps) := hid (by
      have h := p6.rh.mono (Nat.zero_le _)
      rwa [← HPL.out] at h)
    rw [← HPL.out]
    have KM := hid (HKr.out.trans k6)
    have IXm := hid (IX1.out.kept k6)
    obtain ⟨aK, sK, iK⟩ := rh_to Lg8.tHashes Lg8.zHashes IXm.out .i64 m (by omega)
    have gx : cx ≤ 9223372036854775807 ∧ n ≤ cx := by
      obtain ⟨hi, hv⟩ := IXm.out
      obtain ⟨_, _, q, q1, q2, _⟩ := hv.form
      injection q with _ q0 q
      omega
    have hcx : (m : Int) ≤ (cx : Int) := by omega
    have IKm := hid iK
    obtain ⟨hiK, PSK⟩ := iK
    have PSK := hid PSK
    clear k6 p6 gx IX1
    go_wp2_with (first | (at_builtin; refine wpList_append_po rfl _ _ 23 rfl Hk.rtHashes (by decide) rfl rfl (Po.nil 32 25 w6 w6.heap.size) PSK.out.2 (hsC_each1 PSK.out.1) (by rw [hsC_len]; have := HX.out.1; simp; omega) (Nat.le_refl _) ?_; intro a7 n7 c7 w7 p7 k7 o7) | fail)
    have k67 : Kept None w6 w7 := (Kept.refl None w6).then k7 (fun i hi h => by cases h)
    have HO : Ho 25 w7 w6.heap.size (.slice a7 n7 c7) (x.take m) := ⟨PSK.out.1, by simpa using p7⟩
    have hn7 : n7 = m := by
      obtain ⟨_, _, h⟩ := HO.form
      injection h with _ h
      rw [h, List.length_take]
      have := HX.out.1
      omega
    subst hn7
    have HS6 := hid (Nat.le_trans KM.out.size (Nat.le_refl w6.heap.size))
    have K67 := hid k67
    have HOm := hid HO
    obtain ⟨gb, hgb⟩ : ∃ g, a7 = some ⟨g, 0, none⟩ := by
      rcases HO.2.2.2 with ⟨_, h1⟩ | ⟨g, _, _, h1, _⟩
      · rw [hsC_len, List.length_take] at h1
        have := HX.out.1
        omega
      · injection h1 with h1
        exact ⟨g, h1⟩
    subst hgb
    have mi := HMI.out.1
    have mit := HMI.out.2
    have wc : IntKind.i64.wrap (c : Int) = (c : Int) := HWC.out
    have lixz : (ix : Int) < (n7 : Int) := by have := HIX.out; clear mi mit wc; omega
    have h0p : (0 : Int) < (n7 : Int) := by clear mi mit wc; omega
    have h0n : 0 < n7 := by clear mi mit wc; omega
    have lixn : ix < n7 := HIX.out
    have hn0 : ¬ n7 = 0 := by clear mi mit wc; omega
    clear k67 k7 p7 o7 HO PSK
    go_wp2_with fail
    have hs : Steady [.raw 5 6 w7.heap.size ([Go.Pm.byteOf (c : Int), 1, 2]), .val 7 (.agg CA) [6]] := Go.Pm.Steady.raw (Go.Pm.Steady.val (Go.Pm.Steady.nil))
    refine wp_region_kn_tail 9 w7 _ hs (Kept.refl _ _) (by kernel_rfl) (by kernel_rfl) (by kernel_rfl) ?_
    simp only [List.take_succ_cons, List.take_zero, List.drop_succ_cons, List.drop_zero]
    iterate 6 (refine wpPar_pure rfl (by rfl) _ (fun W hW => by
        have q1 := mi
        have q2 := mit
        go_simp
        exact rfl) ?_; simp only [Act.put, List.setIfInBounds_toArray, List.set_cons_zero, List.set_cons_succ])
    refine wpKn_adds hs rfl (by rfl) (fun W hW hd => ?_) (fun v6 hv => ?_)
    · unfold Gives
      go_simp
      exact ⟨(Kept.refl None W).alloc _, ⟨_, _, rfl⟩, Raw.new 5 W w7.heap.size ([Go.Pm.byteOf (c : Int), 1, 2]) #[.int .u8 c, .int .u8 1, .int .u8 2] (by rw [HCB.out]) hW.size⟩
    obtain ⟨a6, c6, rfl⟩ : ∃ a c, v6 = .slice a 3 c := hv
    simp only [Act.put, List.setIfInBounds_toArray, List.set_cons_zero, List.set_cons_succ]
    refine wpKn_adds hs rfl (by rfl) (fun W hW hd => ?_) (fun v7 hv => ?_)
    · unfold Gives
      have hr : Raw 5 W w7.heap.size (.slice a6 3 c6) ([Go.Pm.byteOf (c : Int), 1, 2]) := hd 6 (List.Mem.head _)
      go_simp
      refine gives_call (FL.out _ _ _ W (hr.bs (by rw [show [Go.Pm.byteOf (c : Int), 1, 2].length = 3 from rfl]; decide))) ?_
      rintro e w3 ⟨rfl, k3⟩
      exact ⟨_, rfl, k3, rfl, trivial⟩
    obtain rfl : v7 = .agg CA := hv
    simp only [Act.put, List.setIfInBounds_toArray, List.set_cons_zero, List.set_cons_succ]
    iterate 1 (refine wpPar_pure rfl (by rfl) _ (fun W hW => by
        have q1 := mi
        have q2 := mit
        go_simp
        exact rfl) ?_; simp only [Act.put, List.setIfInBounds_toArray, List.set_cons_zero, List.set_cons_succ])
    refine wpPar_nil (fun W hW hG => ?_)
    clear hG hs
    have HOW := hid (HOm.out.kept hW (fun _ _ h => h))
    have k6W := K67.out.trans hW
    have HGB := hid (HOm.out.2.own gb rfl)
    clear hW HOm mi mit wc
    refine wpList_store_hash rfl _ _ _ rfl HOW.out (by rw [List.length_take]; have := HX.out.1; have := HIX.out; omega) HCC.out.2 rfl (by rw [HCC.out.1]; rfl) Sp.aH ?_
    intro w11 p11 k11
    have k611 : Kept None w6 w11 := k6W.then k11 (fun i hi h => by have h : i = gb := h; have := HGB.out.1; omega)
    replace KM := hid (KM.out.trans k611)
    replace IXm := hid (IXm.out.kept k611)
    replace IKm := hid (IKm.out.kept k611)
    replace IPm := hid (IPm.out.kept k611)
    have IYm : Hid (Rh 0 w11 (.slice (some ⟨gb, 0, none⟩) n7 c7) ys) := hid (by rw [HYS.out.1]; exact p11.rh.mono (Nat.zero_le _))
    clear k611 k6W k11 p11 HOW HGB K67 HS6
    go_wp2_with (first | go_skip | fail)
    refine (FRO.out _ _ IKm.out).mono ?_
    rintro e wc0 ⟨rfl, kq⟩
    replace KM := hid (KM.out.trans kq)
    replace IXm := hid (IXm.out.kept kq)
    replace IKm := hid (IKm.out.kept kq)
    replace IPm := hid (IPm.out.kept kq)
    replace IYm := hid (IYm.out.kept kq)
    clear kq
    go_wp2_with (first | go_skip | fail)
    refine (FRX.out _ _ IXm.out).mono ?_
    rintro e wc1 ⟨rfl, kq⟩
    replace KM := hid (KM.out.trans kq)
    replace IXm := hid (IXm.out.kept kq)
    replace IKm := hid (IKm.out.kept kq)
    replace IPm := hid (IPm.out.kept kq)
    replace IYm := hid (IYm.out.kept kq)
    clear kq
    go_wp2_with (first | go_skip | fail)
    refine (FC0.out _ _ IPm.out).mono ?_
    rintro e wc2 ⟨rfl, kq⟩
    replace KM := hid (KM.out.trans kq)
    replace IXm := hid (IXm.out.kept kq)
    replace IKm := hid (IKm.out.kept kq)
    replace IPm := hid (IPm.out.kept kq)
    replace IYm := hid (IYm.out.kept kq)
    clear kq
    go_wp2_with (first | go_skip | fail)
    refine (FRY.out _ _ IYm.out).mono ?_
    rintro e wc3 ⟨rfl, kq⟩
    replace KM := hid (KM.out.trans kq)
    replace IXm := hid (IXm.out.kept kq)
    replace IKm := hid (IKm.out.kept kq)
    replace IPm := hid (IPm.out.kept kq)
    replace IYm := hid (IYm.out.kept kq)
    clear kq
    go_wp2_with (first | go_skip | fail)
    refine (FRX.out _ _ IXm.out).mono ?_
    rintro e wc4 ⟨rfl, kq⟩
    replace KM := hid (KM.out.trans kq)
    replace IXm := hid (IXm.out.kept kq)
    replace IKm := hid (IKm.out.kept kq)
    replace IPm := hid (IPm.out.kept kq)
    replace IYm := hid (IYm.out.kept kq)
    clear kq
    go_wp2_with (first | go_skip | fail)
    refine (FC1.out _ _ IPm.out).mono ?_
    rintro e wc5 ⟨rfl, kq⟩
    replace KM := hid (KM.out.trans kq)
    replace IXm := hid (IXm.out.kept kq)
    replace IKm := hid (IKm.out.kept kq)
    replace IPm := hid (IPm.out.kept kq)
    replace IYm := hid (IYm.out.kept kq)
    clear kq
    go_wp2_with (first | go_skip | fail)
    refine (FRY.out _ _ IYm.out).mono ?_
    rintro e wc6 ⟨rfl, kq⟩
    replace KM := hid (KM.out.trans kq)
    replace IXm := hid (IXm.out.kept kq)
    replace IKm := hid (IKm.out.kept kq)
    replace IPm := hid (IPm.out.kept kq)
    replace IYm := hid (IYm.out.kept kq)
    clear kq
    go_wp2_with (first | go_skip | fail)
    refine (FRX.out _ _ IXm.out).mono ?_
    rintro e wc7 ⟨rfl, kq⟩
    replace KM := hid (KM.out.trans kq)
    replace IXm := hid (IXm.out.kept kq)
    replace IKm := hid (IKm.out.kept kq)
    replace IPm := hid (IPm.out.kept kq)
    replace IYm := hid (IYm.out.kept kq)
    clear kq
    go_wp2_with (first | go_skip | fail)
    refine (FG1.out _ _ IPm.out).mono ?_
    rintro e wz ⟨rfl, kq⟩
    replace KM := hid (KM.out.trans kq)
    clear kq
    cases bG <;> (
      go_wp2
      go_roundg (n + 1 - (n7 + 1))
      case measure => omega
      case rel => exact ⟨n7 + 1, _, _, _, by go_num, rfl, rfl, rfl, by omega, by omega, Nat.le_refl _, KM⟩)
  · have hz : ¬ (m : Int) ≤ (n : Int) := by omega
    go_wp2
    go_ret
    exact ⟨rfl, K2.out.trans HKr.out⟩
/-- GrowChain. -/
theorem chain (v : Value) (lo hi : Nat) (l : List UInt8) (c : Nat) (w : World) (hv : Bs w lo hi v l) (hc : c < 256) : Calls Try.prog 4 #[v, .int .u8 c] w fun e w' => e = .returned (.bool true) ∧ Kept None w w' := by
  by_cases h1 : 20 < l.length
  · exact chain_out v lo hi l c w hv h1
  · exact chain_in v lo hi l c w hv (by omega) hc
end L9
end Go.Proofs.Ytkogkcaflhjlhaa
