/- postmarklaw7.ProofBack: true. -/
import Derived.Test.YtdalfcbakjgcmaaKnown7
import Derived.Test.YtdalfcbakjgcmaaIndex7
namespace Go.Pm
open Go Go.RowKit
theorem Bs.byte (w : World) (t : TypeId) (x : Int) (h0 : 0 ≤ x) (h1 : x < 256) : Bs (w.alloc (.cells #[.int .u8 x] t)) w.heap.size (w.heap.size + 1) (.slice (some ⟨w.heap.size, 0, none⟩) 1 1) [byteOf x] := by
  have h := Vs.new w #[.int .u8 x] t 1 (by simp) (by decide)
  unfold Bs
  rw [List.map_cons, List.map_nil, u8v_byteOf' h0 h1]
  exact h
end Go.Pm
namespace Go.Proofs.Ytdalfcbakjgcmaa
open Go.RowKit Go.Pm
namespace Pr
theorem make_e (l : List It) (i : List UInt8) : 0 ≤ (makeP l i).e ∧ (makeP l i).e ≤ 2 := by
  unfold makeP endI
  split
  · exact ⟨by dsimp only; decide, by dsimp only; decide⟩
  · split <;> exact ⟨by dsimp only; decide, by dsimp only; decide⟩
set_option maxRecDepth 100000 in
set_option maxHeartbeats 1000000 in
theorem back (v : Value) (lo hi : Nat) (ns : List Int) (at' cut : Nat) (raw : List UInt8) (w : World) (hv : U16s w lo hi v ns) (ha : at' < 65536) (hc : cut < 65536) (hr : raw.length = 32) :
    Calls Try.prog 7 #[v, .int .u16 at', hashV raw, .int .u16 cut] w fun e w' => e = .returned (.bool true) ∧ Kept None w w' := by
  obtain ⟨a, cap, rfl, g1, g2⟩ := hv.form
  obtain ⟨n, hn⟩ : ∃ n, n = ns.length := ⟨_, rfl⟩
  rw [← hn] at hv g1 ⊢
  have aR := aH32 hr
  show Calls Try.prog 7 #[.slice a n cap, .int .u16 at', .agg (raw.map u8v).toArray, .int .u16 cut] w _
  obtain ⟨RA, hRA⟩ : ∃ R : Array Value, R = (raw.map u8v).toArray := ⟨_, rfl⟩
  rw [← hRA] at aR ⊢
  have fI : ∀ v lo hi l W, Its W lo hi v l → Calls Try.prog 11 #[v, .int .u16 at', .agg RA] W fun e w' => ∃ h, h.length = 32 ∧ e = .returned (hashV h) ∧ Kept None W w' := fun v lo hi l W h => by
    rw [hRA]; exact index v lo hi l at' raw W h ha hr
  have FI := hid fI
  clear fI
  have HV := hid hv
  have HN := hid hn
  have HR := hid (And.intro hRA hr)
  clear hv hn hRA hr
  go_enter Try.func7, Try.ntmps7
  go_wp2_with fail
  refine (known _).mono ?_
  rintro e w1 ⟨rfl, k1⟩
  have B6 := (Blk.new w RA 25).kept k1 (fun h => h)
  have K1 := ((Kept.refl None w).alloc (.cells RA 25)).trans k1
  clear k1
  by_cases h30 : 30 < n
  · have hz : (30 : Int) < (n : Int) := by omega
    go_wp2
    go_ret
    exact ⟨rfl, K1⟩
  have hz : ¬ (30 : Int) < (n : Int) := by omega
  go_wp2_with fail
  refine (Tr.items _ _ _ ns w1 (by have := HV.out.kept K1 (fun _ _ _ h => h); rw [HN.out] at this ⊢; exact this) (by have := HN.out; omega)).mono ?_
  rintro e w2 ⟨v2, xs, rfl, hxs, hxl, k2⟩
  have K2 := K1.trans k2
  have b6 := B6.kept k2 (fun h => h)
  obtain ⟨a2, c2, rfl⟩ := hxs.form
  have HX := hid (hxs.its (Nat.le_refl _))
  have hx30 : xs.length ≤ 30 := by have := HN.out; omega
  clear hxs hxl K1 k2 B6
  go_wp2_with (first | go_skip | (refine wpList_load_blk rfl _ _ rfl rfl b6 aR ?_; refine Stop.mk ?_) | fail)
  unfold Stop
  go_wp2_with fail
  refine (FI.out _ _ _ xs w2 HX.out).mono ?_
  rintro e w3 ⟨h, hh, rfl, k3⟩
  have hxf := HX.out.1
  obtain ⟨m, hm⟩ : ∃ m, m = makeP xs h := ⟨_, rfl⟩
  have hok : m.Ok := by rw [hm]; exact ok_make xs hxf h
  have hrt : rightP h m = true := by rw [hm]; exact right_make xs hxf h
  have hpl : m.path.length ≤ 256 := rightP_len hrt
  have he : 0 ≤ m.e ∧ m.e ≤ 2 := by rw [hm]; exact make_e xs h
  have fM := make xs h (.slice a2 xs.length c2) _ _ w3 (HX.out.kept k3 (fun _ _ _ h => h)) (by omega) hh
  rw [← hm] at fM
  obtain ⟨L, hL⟩ : ∃ L, L = (putP m).length := ⟨_, rfl⟩
  have hLn : L = 80 + 32 * m.path.length := by rw [hL]; exact putP_len hok
  have HM := hid (And.intro hok (And.intro hpl (And.intro he (And.intro hL hLn))))
  have K3 := hid (K2.trans k3)
  clear hxf hm hok hrt hpl he hL hLn K2 k3 b6 hh
  go_wp2_with fail
  refine fM.mono ?_
  rintro e w4 ⟨A, rfl, k4, p4⟩
  clear fM
  have aA := PV.agg p4
  obtain ⟨z5, hz5, hR5⟩ := Blk.any (n := 66) (Blk.new w4 Try.zeroCells30 30) (by rfl)
  have E5 := hid (And.intro (hz5.trans p4.size.symm) p4.all)
  have HP4 := hid p4
  have K4 := hid (K3.out.trans k4)
  clear hz5 p4 k4
  go_wp2_with (first | go_skip | (refine wpList_store_blk (.refl _) _ _ _ rfl rfl rfl hR5 aA E5.out.1 E5.out.2 ?_; intro w5 b5 k5; have K5 := hid (K4.out.trans k5.fresh); have P5 := hid (HP4.out.kept k5.fresh); clear k5) | (refine wpList_load_blk rfl _ _ rfl rfl b5 aA ?_) | fail)
  refine (putA m A w5 P5.out (by have := HM.out.2.1; omega)).mono ?_
  rintro e w6 ⟨v6, rfl, k6, d6⟩
  obtain ⟨hi6, d6⟩ := d6
  obtain ⟨a6, c6, rfl, g6, _, _⟩ := d6.shape
  have b6 := b5.kept k6 (fun h => h)
  have P6 := hid (P5.out.kept k6)
  have K6 := hid (K5.out.trans k6)
  rw [← HM.out.2.2.2.1] at g6 d6 ⊢
  have D6 := hid d6
  clear b5 k6 d6 hR5
  have fR : ∀ W, Kept None w6 W → Calls Try.prog 27 #[.slice a6 L c6] W fun e w' => ∃ A, e = .returned (.tuple #[.agg A, .int .i64 0]) ∧ Kept None W w' ∧ PV m w' A := fun W hW => by
    have h2 := readA (.slice a6 L c6) _ _ (putP m) W (D6.out.kept hW (fun _ _ _ h => h)) (by have := HM.out; omega)
    have h3 := read_put' HM.out.1 HM.out.2.1 HM.out.2.2.1
    rwa [h3.1, h3.2] at h2
  have FR := hid fR
  clear fR
  go_wp2_with fail
  refine (FR.out w6 (Kept.refl _ _)).mono ?_
  rintro e w7 ⟨A2, rfl, k7, p7⟩
  have aA2 := PV.agg p7
  obtain ⟨z8, hz8, hR8⟩ := Blk.any (n := 66) (Blk.new w7 Try.zeroCells30 30) (by rfl)
  have E8 := hid (And.intro (hz8.trans p7.size.symm) p7.all)
  have HP7 := hid p7
  have K7 := hid (K6.out.trans k7)
  have b7 := b6.kept k7 (fun h => h)
  have P7 := hid (P6.out.kept k7)
  have D7 := hid (D6.out.kept k7 (fun _ _ _ h => h))
  clear hz8 p7 k7 b6 D6 P6
  obtain ⟨q, hq⟩ : ∃ q, q = cut % L := ⟨_, rfl⟩
  have hqL : q < L := by rw [hq]; exact Nat.mod_lt _ (by have := HM.out.2.2.2.2; omega)
  have hmx : max (L : Int) 1 = (L : Int) := by have := HM.out.2.2.2.2; omega
  have hrem : (cut : Int) % (L : Int) = (q : Int) := by rw [hq]; rfl
  have htm : (cut : Int).tmod (L : Int) = (q : Int) := by rw [Int.tmod_eq_emod_of_nonneg (by omega)]; exact hrem
  have hLz : ((L : Int) == 0) = false := by rw [beq_eq_false_iff_ne]; have := HM.out.2.2.2.2; omega
  have hL1 : 80 ≤ L ∧ L ≤ 10000 := by have := HM.out.2.1; have := HM.out.2.2.2.2; omega
  clear hq
  go_wp2_with (first | go_skip | (refine wpList_store_blk (.refl _) _ _ _ rfl rfl rfl hR8 aA2 E8.out.1 E8.out.2 ?_; intro w8 b8 k8; have K8 := hid (K7.out.trans k8.fresh); have P8 := hid (HP7.out.kept k8.fresh); have P08 := hid (P7.out.kept k8.fresh); have b08 := b7.kept k8.fresh (fun h => h); have D8 := hid (D7.out.kept k8.fresh (fun _ _ _ h => h)); clear k8 hR8 b7; refine Stop.mk ?_) | fail)
  unfold Stop
  obtain ⟨a9, s9, p9⟩ := slice_to tBytes zBytes D8.out .i64 (q : Int) (by omega) (by omega)
  simp only [Int.toNat_natCast] at s9 p9
  rw [← List.map_take] at p9
  have P9 := hid p9
  clear p9
  go_wp2_with fail
  have P9t := P9.out
  refine (readA (.slice a9 q c6) _ _ ((putP m).take q) w8 P9.out (by rw [List.length_take]; have := HM.out; omega)).mono ?_
  rintro e w10 ⟨A3, rfl, k10, p10⟩
  rw [read_cut HM.out.1 HM.out.2.1 (by rw [← HM.out.2.2.2.1]; exact hqL)]
  have aA3 := PV.agg p10
  obtain ⟨z11, hz11, hR11⟩ := Blk.any (n := 66) (Blk.new w10 Try.zeroCells30 30) (by rfl)
  have E11 := hid (And.intro (hz11.trans p10.size.symm) p10.all)
  have K10 := hid (K8.out.trans k10)
  have b80 := b8.kept k10 (fun h => h)
  have b010 := b08.kept k10 (fun h => h)
  have P10 := hid (P8.out.kept k10)
  have P010 := hid (P08.out.kept k10)
  have D10 := hid (D8.out.kept k10 (fun _ _ _ h => h))
  clear hz11 p10 k10 b8 b08 D8 P8 P08 P9 P9t s9 hmx hrem htm hLz
  go_wp2_with (first | go_skip | (refine wpList_store_blk (.refl _) _ _ _ rfl rfl rfl hR11 aA3 E11.out.1 E11.out.2 ?_; intro w11 b11 k11; have K11 := hid (K10.out.trans k11.fresh); have P11 := hid (P10.out.kept k11.fresh); have P011 := hid (P010.out.kept k11.fresh); have b811 := b80.kept k11.fresh (fun h => h); have b011 := b010.kept k11.fresh (fun h => h); have D11 := hid (D10.out.kept k11.fresh (fun _ _ _ h => h)); clear k11 hR11 b80 b010; refine Stop.mk ?_) | fail)
  unfold Stop
  go_wp2_with (first | go_skip | (at_builtin; refine wpList_append_bo (l := []) (m := putP m) (base := w11.heap.size) rfl _ _ 46 rfl rtBytes rfl rfl (Bo.nil _ _ _) D11.out (by have := HM.out.2.2.2.1; simp; omega) (Nat.le_refl _) ?_; intro a12 n12 c12 w12 b12 k12; refine Stop.mk ?_) | fail)
  unfold Stop
  have b12' : Bo 5 w12 w11.heap.size (.slice a12 n12 c12) (putP m) := by simpa using b12
  have hcut : n12 = L := by obtain ⟨x, y, e⟩ := b12'.form; injection e with _ e _; rw [e, HM.out.2.2.2.1]
  have k12 := k12.then (Kept.refl None w12) (fun i hi h => by cases h)
  have k1112 : Kept None w11 w12 := k12.mono (fun i hi h => by cases h)
  have B12 := hid b12'
  have hs12 := hid k1112.size
  have K1112 := hid k1112
  clear b12 b12' k12 k1112
  subst hcut
  go_wp2_with (first | go_skip | (at_builtin; refine wpList_append_bo (l := putP m) (m := [Go.Pm.byteOf 1]) (base := w11.heap.size) (lo := w12.heap.size) (hi := w12.heap.size + 1) rfl _ _ 46 rfl rtBytes rfl rfl (B12.out.alloc _) (Bs.byte w12 _ 1 (by decide) (by decide)) (by have := HM.out.2.2.2.1; simp; omega) (by have := hs12.out; simp; omega) ?_; intro a14 n14 c14 w14 b14 k14; refine Stop.mk ?_) | fail)
  unfold Stop
  have hk14 : Kept None w11 w14 := (K1112.out.alloc _).then k14 (fun i hi h => by have := (B12.out.own i h).1; omega)
  have d14 := b14.bs (Nat.le_refl _)
  have K14 := hid hk14
  clear k14 hk14 b14
  obtain ⟨x14, y14, hval, -⟩ := d14.shape
  rw [hval] at d14 ⊢
  clear hval
  obtain ⟨L2, hL2⟩ : ∃ L2, L2 = (putP m ++ [Go.Pm.byteOf 1]).length := ⟨_, rfl⟩
  rw [← hL2] at d14 ⊢
  clear hL2
  go_wp2_with fail
  refine (readA _ _ _ (putP m ++ [Go.Pm.byteOf 1]) w14 d14 (by have := HM.out.2.2.2.1; simp; omega)).mono ?_
  rintro e w15 ⟨A4, rfl, k15, p15⟩
  rw [read_longer HM.out.1 HM.out.2.1 (by decide)]
  have aA4 := PV.agg p15
  obtain ⟨z16, hz16, hR16⟩ := Blk.any (n := 66) (Blk.new w15 Try.zeroCells30 30) (by rfl)
  have E16 := hid (And.intro (hz16.trans p15.size.symm) p15.all)
  have k1115 := K14.out.trans k15
  have K15 := hid (K11.out.trans k1115)
  have b815 := b811.kept k1115 (fun h => h)
  have b015 := b011.kept k1115 (fun h => h)
  have P15 := hid (P11.out.kept k1115)
  have P015 := hid (P011.out.kept k1115)
  clear hz16 p15 k15 k1115 b811 b011 P11 P011 K14 D10 D11 B12 hs12 K1112 d14 K10 K11
  obtain ⟨pa, pc, hA0⟩ := P015.out.at0
  have hw1 : IntKind.i64.wrap (32 * (m.path.length : Int)) = 32 * (m.path.length : Int) := by have := HM.out.2.1; rw [IntKind.wrap_i64]; omega
  have hw2 : IntKind.i64.wrap (80 + 32 * (m.path.length : Int)) = (n12 : Int) := by have := HM.out.2.1; have := HM.out.2.2.2.2; rw [IntKind.wrap_i64]; omega
  have hnn : ((n12 : Int) == (n12 : Int)) = true := beq_self_eq_true _
  go_wp2_with (first | go_skip | (refine wpList_store_blk (.refl _) _ _ _ rfl rfl rfl hR16 aA4 E16.out.1 E16.out.2 ?_; intro w17 b17 k17; have K17 := hid (K15.out.trans k17.fresh); have P17 := hid (P15.out.kept k17.fresh); have P017 := hid (P015.out.kept k17.fresh); have b817 := b815.kept k17.fresh (fun h => h); have b017 := b015.kept k17.fresh (fun h => h); clear k17 hR16 b815 b015; refine Stop.mk ?_) | fail)
  unfold Stop
  have c0 : w17.cell? ⟨w4.heap.size, 0, none⟩ = some (.slice pa m.path.length pc) := by rw [b017.cell]; exact hA0
  go_wp2_with (first | go_skip | (refine wpList_load_bw (by kernel_rfl) rfl rfl b017 aA ?_) | (refine wpList_load_bw (by kernel_rfl) rfl rfl b817 aA2 ?_) | fail)
  refine (sameA m m A A2 w17 P017.out P17.out).mono ?_
  rintro e w18 ⟨rfl, k18⟩
  rw [decide_eq_true rfl]
  have c018 : w18.cell? ⟨w4.heap.size, 0, none⟩ = some (.slice pa m.path.length pc) := by rw [(b017.kept k18 (fun h => h)).cell]; exact hA0
  have KE := hid (K17.out.trans k18)
  clear k18 c0 b017 b817
  go_wp2_with (first | go_skip | fail)
  go_ret
  exact ⟨rfl, KE.out⟩
end Pr
end Go.Proofs.Ytdalfcbakjgcmaa
