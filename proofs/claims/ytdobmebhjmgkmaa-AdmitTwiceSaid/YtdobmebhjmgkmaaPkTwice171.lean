/- Rows.AdmitTwiceSaid: what waits, or is published, is told so whoever sends it, and another key in its place is a conflict. No condition. -/
import Derived.Test.YtdobmebhjmgkmaaPk6
import Derived.Test.YtdobmebhjmgkmaaPk2
import Derived.Test.YtdobmebhjmgkmaaPk5
import Derived.Test.YtdobmebhjmgkmaaRows
namespace Go.Proofs.Ytdobmebhjmgkmaa
open Go.RowKit Go.Pm
namespace P17
open Ad
/-- An entry of which so much is told. -/
structure Tw (D : List Kno) (p : List Pn) (n : ByteArray) (v : Int) (k : Nat) (want : Int) : Prop where
  right : entR n.size v k = true
  one : ∀ u : Req, u.right = true → u.n = n → u.v = v → decP D p u = keyP k u want
theorem tw_known {D : List Kno} {p : List Pn} {f : ByteArray → Nat} {i : Nat} (h : StQ D i f) {x : Kno} (hx : x ∈ D) : Tw D p x.e.n x.e.v x.e.k 2 := by
  have h1 := h.ok.rt.head x hx
  unfold headK at h1
  rw [Bool.and_eq_true] at h1
  exact ⟨h1.1, fun u hr hn hv => dec_known h hx hr hn hv⟩
theorem tw_waits {D : List Kno} {p : List Pn} {f g : ByteArray → Nat} {i : Nat} (h : StQ D i f) (hp : WtQ D p f g) (hb : ∀ nm, f nm + g nm ≤ 1000) {x : Pn} (hx : x ∈ p) : Tw D p x.u.n x.u.v x.u.k 1 := by
  obtain ⟨h1, h2, h3, z, h4⟩ := hp.each x hx
  refine ⟨?_, fun u hr hn hv => dec_waits h hp hx hr hn hv⟩
  have hs := Seat.nameS_size z.toNat
  have := hb x.u.n
  have k1 : 1 ≤ x.u.k := by rw [h3]; exact pubN_pos _
  have k2 : x.u.k < prime61 := by rw [h3]; exact pubN_lt _
  unfold entR
  simp only [Bool.and_eq_true, decide_eq_true_eq]
  rw [h4] at h1 h2 this ⊢
  exact ⟨⟨⟨⟨⟨hs.1, hs.2⟩, by omega⟩, by omega⟩, k1⟩, k2⟩
theorem entR_parts {s : Nat} {v : Int} {k : Nat} (h : entR s v k = true) : 1 ≤ s ∧ s ≤ 32 ∧ 1 ≤ v ∧ v ≤ 1073741824 ∧ 1 ≤ k ∧ k < prime61 := by
  unfold entR at h
  simp only [Bool.and_eq_true, decide_eq_true_eq] at h
  omega
theorem tw_first {D : List Kno} {p : List Pn} {n : ByteArray} {v : Int} {k : Nat} {want : Int} (h : Tw D p n v k want) (c r s : Nat) (hc : c < 2) : decP D p ⟨n, v, k, (c : Int), r, s⟩ = (want, 0) := by
  have hr : (⟨n, v, k, (c : Int), r, s⟩ : Req).right = true := by
    show (entR n.size v k && (decide ((c : Int) = 0) || decide ((c : Int) = 1))) = true
    rw [h.right, Bool.true_and, Bool.or_eq_true, decide_eq_true_eq, decide_eq_true_eq]
    omega
  rw [h.one _ hr rfl rfl]
  unfold keyP
  rw [if_pos rfl]
theorem tw_second {D : List Kno} {p : List Pn} {n : ByteArray} {v : Int} {k : Nat} {want : Int} (h : Tw D p n v k want) : decP D p ⟨n, v, k % 5 + 1, 0, 0, 0⟩ = if k = k % 5 + 1 then (want, 0) else (0, 26) := by
  have hk := entR_parts h.right
  have hr : (⟨n, v, k % 5 + 1, 0, 0, 0⟩ : Req).right = true := by
    refine (rightB_iff _ _ _ _).2 ⟨⟨hk.1, hk.2.1, hk.2.2.1, hk.2.2.2.1, by show 1 ≤ k % 5 + 1; omega, by show k % 5 + 1 < prime61; unfold prime61; omega⟩, .inl rfl⟩
  rw [h.one _ hr rfl rfl]
  rfl
theorem mod_in {k T I : Nat} (h : I = k % T) : (k : Int) % (T : Int) = (I : Int) := by rw [h]; rfl
set_option maxRecDepth 100000 in
set_option maxHeartbeats 16000000 in
/-- What waits, or is published, is told so whoever sends it, and another key in its place is a conflict. -/
theorem twice (hN : NextC) (hD : DecideC) (v vm : Value) (lo hi lo' hi' : Nat) (l m : List UInt8) (k how : Nat) (hk : k < 256) (hhow : how < 256) (w : World) (hv : Bs w lo hi v l) (hvm : Bs w lo' hi' vm m) :
    Calls Try.prog 5 #[v, vm, .int .u8 (k : Int), .int .u8 (how : Int)] w fun e w' => e = .returned (.bool true) ∧ Kept None w w' := by
  obtain ⟨al, cl, rfl, _⟩ := hv.shape
  obtain ⟨am, cm, rfl, _⟩ := hvm.shape
  have HKN := hid (known hN hD w)
  have HV := hid hv.all
  have HVM := hid hvm.all
  have HC := hid (And.intro hN hD)
  clear hv hvm hN hD
  go_enter Try.func5, Try.ntmps5
  go_wp2_with fail
  refine HKN.out.mono ?_
  rintro e w1 ⟨rfl, k1⟩
  have K1 := hid k1
  clear k1 HKN
  by_cases hl : 10 < l.length
  · have z2 : (10 : Int) < (l.length : Int) := by omega
    have z1 : decide ((10 : Int) < (l.length : Int)) = true := decide_eq_true z2
    go_wp2_with (first | go_skip | fail)
    go_ret
    exact ⟨rfl, K1.out⟩
  have z2 : ¬ (10 : Int) < (l.length : Int) := by omega
  have z1 : decide ((10 : Int) < (l.length : Int)) = false := decide_eq_false z2
  by_cases hm : 8 < m.length
  · have y2 : (8 : Int) < (m.length : Int) := by omega
    have y1 : decide ((8 : Int) < (m.length : Int)) = true := decide_eq_true y2
    go_wp2_with (first | go_skip | fail)
    go_ret
    exact ⟨rfl, K1.out⟩
  have y2 : ¬ (8 : Int) < (m.length : Int) := by omega
  have y1 : decide ((8 : Int) < (m.length : Int)) = false := decide_eq_false y2
  have HLM := hid (show l.length ≤ 10 ∧ m.length ≤ 8 by omega)
  by_cases hz : l.length + m.length = 0
  · have x1 : l.length = 0 := by omega
    have x2 : m.length = 0 := by omega
    have x3 : (wrap64 ((l.length : Int) + (m.length : Int)) == 0) = true := by rw [x1, x2]; unfold wrap64; decide
    have x4 : decide (wrap64 ((l.length : Int) + (m.length : Int)) = 0) = true := by rw [x1, x2]; unfold wrap64; decide
    clear x1 x2
    go_wp2_with (first | go_skip | fail)
    go_ret
    exact ⟨rfl, K1.out⟩
  have wlm : wrap64 ((l.length : Int) + (m.length : Int)) = (l.length : Int) + (m.length : Int) := by unfold wrap64; omega
  have x3 : ((l.length : Int) + (m.length : Int) == 0) = false := beq_eq_false_iff_ne.2 (by omega)
  have x4 : decide ((l.length : Int) + (m.length : Int) = 0) = false := decide_eq_false (by omega)
  have HZ := hid hz
  clear hz
  have HST := hid (story (.slice al l.length cl) (.slice am m.length cm) 0 w1.heap.size 0 w1.heap.size l m w1 ((HV.out.kept K1.out (fun _ _ _ h => h)).wider (Nat.zero_le _) K1.out.size) ((HVM.out.kept K1.out (fun _ _ _ h => h)).wider (Nat.zero_le _) K1.out.size) (by omega) (by omega))
  go_wp2_with (first | go_skip | fail)
  refine HST.out.mono ?_
  rintro e w2 ⟨a, b, rfl, k2, pa, pb⟩
  obtain ⟨D, p, hsd⟩ := Sd.of (w := w2) (l := l) (m := m) (by omega) (by omega) pa pb
  have HS := hid hsd
  have K2 := hid (K1.out.trans k2)
  clear k2 pa pb HST K1 z1 z2 y1 y2 hl hm
  obtain ⟨xa, ca, rfl⟩ := hsd.da
  obtain ⟨xb, cb, rfl⟩ := hsd.pb
  clear hsd
  clear x3 x4 wlm
  obtain ⟨DL, hDL⟩ : ∃ z, z = D.length := ⟨_, rfl⟩
  obtain ⟨PL, hPL⟩ : ∃ z, z = p.length := ⟨_, rfl⟩
  rw [← hDL, ← hPL] at HS ⊢
  have hdl := HS.out.dl
  have hpl := HS.out.pl
  have hdn := HS.out.dn
  have hpn := HS.out.pn
  rw [← hDL] at hdl hdn
  rw [← hPL] at hpl hpn
  obtain ⟨I, hI⟩ : ∃ I, I = k % (DL + PL) := ⟨_, rfl⟩
  have hIT : I < DL + PL := by rw [hI]; exact Nat.mod_lt _ (by have := HZ.out; omega)
  have hm1 := mod_in hI
  have wI : (k : Int) % ((DL : Int) + (PL : Int)) = (I : Int) := by rw [← hm1, Int.natCast_add]
  have n0 : ¬ (DL : Int) + (PL : Int) = 0 := by have := HZ.out; omega
  have n1 : ((DL : Int) + (PL : Int) == 0) = false := beq_eq_false_iff_ne.2 n0
  have ws : wrap64 ((DL : Int) + (PL : Int)) = (DL : Int) + (PL : Int) := by unfold wrap64; omega
  have HI := hid (And.intro hIT (And.intro hDL (And.intro hPL (And.intro hdl hpl))))
  clear hI hIT hm1 hdl hpl hdn hpn hDL hPL
  go_upto_region 7 with fail
  simp only [wI]
  clear wI ws n0 n1
  obtain ⟨gE, hgE⟩ : ∃ z, z = w2.heap.size := ⟨_, rfl⟩
  obtain ⟨w3, hw3⟩ : ∃ z, z = w2.alloc (.cells #[.string ⟨#[]⟩, .int .i64 0, .int .u64 0] 48) := ⟨_, rfl⟩
  have X3 := hid (show Blk w3 gE #[.string ⟨#[]⟩, .int .i64 0, .int .u64 0] 48 from by rw [hgE]; exact hw3 ▸ Blk.new w2 _ _)
  have KS3 := hid (show Kept None w2 w3 from hw3 ▸ (Kept.refl _ _).alloc _)
  have K3 := hid (K2.out.trans KS3.out)
  have HG := hid (show w.heap.size ≤ gE ∧ w2.heap.size ≤ gE from by rw [hgE]; exact ⟨K2.out.size, Nat.le_refl _⟩)
  go_upto_region 8 with fail
  rw [← hw3, ← hgE]
  clear hw3 hgE K2
  have HHW := hid (And.intro hk hhow)
  by_cases hlt : I < DL
  · have hz : (I : Int) < (DL : Int) := by omega
    have hz2 : decide ((I : Int) < (DL : Int)) = true := decide_eq_true hz
    have hz3 : decide (I < DL) = true := decide_eq_true hlt
    have hIl : I < D.length := by have := HI.out.2.1; omega
    obtain ⟨bb, oo, qa, hc⟩ := (HS.out.ra w3 KS3.out).kno (by omega)
    obtain rfl := qa
    have rE := (hc I hIl).2.2.2.2.2
    have htw := tw_known (p := p) HS.out.sq (x := D[I]) (List.getElem_mem hIl)
    obtain ⟨⟨⟨xn, xv, xk⟩, xp⟩, hx⟩ : ∃ x, x = D[I] := ⟨_, rfl⟩
    rw [← hx] at rE htw
    have TW : Hid (Tw D p xn xv xk 2) := hid htw
    have x3 := X3.out
    clear hc hx hIl htw
    go_upto_region 13 with (first | (refine wpList_load_at (.refl _) _ _ rfl rfl rE Up.aEnt ?_) | (refine wpList_store_blk (.refl _) _ _ _ rfl rfl rfl x3 Up.aEnt rfl (R16.ent_all ⟨xn, xv, xk⟩) ?_; intro w4 x4 k4) | fail)
    have K4 := hid (K3.out.then k4 (fun i hi (h : i = gE) => by have := HG.out.1; omega))
    have KS4 := hid (KS3.out.then k4 (fun i hi (h : i = gE) => by have := HG.out.2; omega))
    have XE : Hid (Blk w4 gE #[.string xn, .int .i64 xv, .int .u64 (xk : Int)] 48) := hid x4
    clear rE x3 x4 k4 K3 KS3 X3 hz hz2 hz3 hlt
    have hnk := entR_parts TW.out.right
    obtain ⟨h2, hh2⟩ : ∃ z, z = how % 2 := ⟨_, rfl⟩
    have m2 : (how : Int) % 2 = (h2 : Int) := by omega
    have hf1 := tw_first TW.out h2 how 0 (by omega)
    have hf2 := tw_second TW.out
    obtain ⟨k4, hk4⟩ : ∃ z, z = xk % 5 := ⟨_, rfl⟩
    rw [← hk4] at hf2
    have hp61 : prime61 < 18446744073709551616 := by decide
    have hz0 : ((0 : Nat) : Int) = 0 := rfl
    have hd1 := fun W hW => HS.out.decide HC.out.2 ⟨xn, xv, xk, (h2 : Int), how, 0⟩ ⟨(show (-9223372036854775808 : Int) ≤ xv ∧ xv < 9223372036854775808 by omega), (show xk < 18446744073709551616 by omega), (show (-9223372036854775808 : Int) ≤ (h2 : Int) ∧ (h2 : Int) < 9223372036854775808 by omega), (show how < 18446744073709551616 by have := HHW.out.2; omega), (show (0 : Nat) < 18446744073709551616 by decide)⟩ (Nat.le_trans hnk.2.1 (by decide)) W hW
    have hd2 := fun W hW => HS.out.decide HC.out.2 ⟨xn, xv, k4 + 1, 0, 0, 0⟩ ⟨(show (-9223372036854775808 : Int) ≤ xv ∧ xv < 9223372036854775808 by omega), (show k4 + 1 < 18446744073709551616 by omega), (show (-9223372036854775808 : Int) ≤ 0 ∧ (0 : Int) < 9223372036854775808 by decide), (show (0 : Nat) < 18446744073709551616 by decide), (show (0 : Nat) < 18446744073709551616 by decide)⟩ (Nat.le_trans hnk.2.1 (by decide)) W hW
    rw [hf1] at hd1
    rw [hf2] at hd2
    unfold Req.V updV at hd1 hd2
    simp only [hz0] at hd1 hd2
    have HD1 := hid hd1
    have HD2 := hid hd2
    have c0 : w4.cell? ⟨gE, 0, none⟩ = some (.string xn) := XE.out.cell 0
    have c1 : w4.cell? ⟨gE, 1, none⟩ = some (.int .i64 xv) := XE.out.cell 1
    have c2 : w4.cell? ⟨gE, 2, none⟩ = some (.int .u64 (xk : Int)) := XE.out.cell 2
    have hk5 : k4 < 5 := by omega
    have HMW := hid (And.intro (show (xk : Int) % 5 = (k4 : Int) by omega) (show IntKind.u64.wrap ((k4 : Int) + 1) = ((k4 + 1 : Nat) : Int) by rw [IntKind.wrap_u64]; omega))
    clear hz0 hd1 hd2 hf1 hf2 hnk hh2 hk4 hp61 hk5
    have wh : IntKind.u64.wrap (how : Int) = (how : Int) := by rw [IntKind.wrap_u64]; omega
    clear hk hhow
    go_wp2_with fail
    refine (HD1.out w4 KS4.out).mono ?_
    rintro e w5 ⟨rfl, k5⟩
    have K5 := hid (K4.out.trans k5)
    have KS5 := hid (KS4.out.trans k5)
    have XE5 := hid (XE.out.kept k5 (fun h => h))
    have c0 : w5.cell? ⟨gE, 0, none⟩ = some (.string xn) := XE5.out.cell 0
    have c1 : w5.cell? ⟨gE, 1, none⟩ = some (.int .i64 xv) := XE5.out.cell 1
    have c2 : w5.cell? ⟨gE, 2, none⟩ = some (.int .u64 (xk : Int)) := XE5.out.cell 2
    obtain ⟨m5, wu⟩ := HMW.out
    clear k5 K4 KS4 XE HD1 m2 wh
    by_cases hkk : xk = k4 + 1
    · have HD3 := hid (HD2.out w5 KS5.out)
      rw [if_pos hkk] at HD3
      have HKK := hid hkk
      clear hkk HD2
      go_wp2_with fail
      refine HD3.out.mono ?_
      rintro e w6 ⟨rfl, k6⟩
      have K6 := hid (K5.out.trans k6)
      have c2 : w6.cell? ⟨gE, 2, none⟩ = some (.int .u64 (xk : Int)) := (XE5.out.kept k6 (fun h => h)).cell 2
      have e1 : ((xk : Int) == (k4 : Int) + 1) = true := by have := HKK.out; rw [beq_iff_eq]; omega
      have e2 : decide ((xk : Int) = (k4 : Int) + 1) = true := by have := HKK.out; exact decide_eq_true (by omega)
      clear k6 K5 XE5 HD3
      go_wp2_with (first | go_skip | fail)
      go_ret
      exact ⟨by first | rfl | (simp; done) | (simp; have := HKK.out; omega), K6.out⟩
    · have HD3 := hid (HD2.out w5 KS5.out)
      rw [if_neg hkk] at HD3
      have HKK := hid hkk
      clear hkk HD2
      go_wp2_with fail
      refine HD3.out.mono ?_
      rintro e w6 ⟨rfl, k6⟩
      have K6 := hid (K5.out.trans k6)
      have c2 : w6.cell? ⟨gE, 2, none⟩ = some (.int .u64 (xk : Int)) := (XE5.out.kept k6 (fun h => h)).cell 2
      have e1 : ((xk : Int) == (k4 : Int) + 1) = false := beq_eq_false_iff_ne.2 (by have := HKK.out; omega)
      have e2 : decide ((xk : Int) = (k4 : Int) + 1) = false := decide_eq_false (by have := HKK.out; omega)
      clear k6 K5 XE5 HD3
      go_wp2_with (first | go_skip | fail)
      go_ret
      exact ⟨by first | rfl | (simp; done) | (simp; have := HKK.out; omega), K6.out⟩
  · have hz : ¬ (I : Int) < (DL : Int) := by omega
    have hz2 : decide ((I : Int) < (DL : Int)) = false := decide_eq_false hz
    have hz3 : decide (I < DL) = false := decide_eq_false hlt
    obtain ⟨J, hJ⟩ : ∃ J, J = I - DL := ⟨_, rfl⟩
    have hJl : J < p.length := by have := HI.out.1; have := HI.out.2.2.1; omega
    have hJz : (J : Int) < (PL : Int) := by have := HI.out.1; omega
    have wJ : IntKind.i64.wrap ((I : Int) - (DL : Int)) = (J : Int) := by rw [IntKind.wrap_i64]; have := HI.out.1; have := HI.out.2.2.2; omega
    obtain ⟨bb, oo, qa, _, hc⟩ := (HS.out.rb w3 KS3.out).pen (by omega)
    obtain rfl := qa
    have rU := (hc J hJl).2.1
    have htw := tw_waits HS.out.sq HS.out.wq (fun nm => Nat.le_trans (HS.out.cb (l := l) (m := m) (by have := HLM.out; omega) (by have := HLM.out; omega) nm) (by decide)) (x := p[J]) (List.getElem_mem hJl)
    obtain ⟨⟨⟨xn, xv, xk, xc, xr, xs⟩, xt, xq, xy⟩, hx⟩ : ∃ x, x = p[J] := ⟨_, rfl⟩
    rw [← hx] at rU htw
    have TW : Hid (Tw D p xn xv xk 1) := hid htw
    have hpos := HS.out.pl
    clear hc hx hJl htw hpos
    obtain ⟨gU, hgU⟩ : ∃ z, z = w3.heap.size := ⟨_, rfl⟩
    have HGU := hid (show gE < gU ∧ w.heap.size ≤ gU ∧ w2.heap.size ≤ gU from by rw [hgU]; exact ⟨X3.out.lt, K3.out.size, KS3.out.size⟩)
    have zU := Blk.new w3 #[.string ⟨#[]⟩, .int .i64 0, .int .u64 0, .int .i64 0, .int .u64 0, .int .u64 0] 27
    have HKU := hid (show Kept None w3 (w3.alloc (.cells #[.string ⟨#[]⟩, .int .i64 0, .int .u64 0, .int .i64 0, .int .u64 0, .int .u64 0] 27)) from (Kept.refl _ _).alloc _)
    have rU' : w3.rangeAt bb (oo + (I - DL) * 9) [.string xn, .int .i64 xv, .int .u64 (xk : Int), .int .i64 xc, .int .u64 (xr : Int), .int .u64 (xs : Int)] := hJ ▸ rU
    clear rU
    go_upto_region 12 with (first | (refine wpList_load_at (.refl _) _ _ rfl rfl rU' Up.aUpd ?_) | (refine wpList_store_blk (.refl _) _ _ _ rfl rfl rfl zU Up.aUpd rfl (Up.upd_all _ _ _ _ _ _) ?_; intro wu xU kU) | fail)
    have Ku := hid ((K3.out.trans HKU.out).then kU (fun i hi (h : i = w3.heap.size) => by have := HGU.out.2.1; omega))
    have KSu := hid ((KS3.out.trans HKU.out).then kU (fun i hi (h : i = w3.heap.size) => by have := HGU.out.2.2; omega))
    have x3 := (X3.out.kept HKU.out (fun h => h)).kept kU (fun (h : gE = w3.heap.size) => by have := HGU.out.1; omega)
    have d0 : wu.cell? ⟨w3.heap.size, 0, none⟩ = some (.string xn) := xU.cell 0
    have d1 : wu.cell? ⟨w3.heap.size, 1, none⟩ = some (.int .i64 xv) := xU.cell 1
    have d2 : wu.cell? ⟨w3.heap.size, 2, none⟩ = some (.int .u64 (xk : Int)) := xU.cell 2
    rw [← hgU] at d0 d1 d2 ⊢
    clear rU' zU HKU xU kU hgU K3 KS3 X3 wJ hJz hz hz2 hz3 hlt
    go_upto_region 13 with (first | (refine wpList_store_blk (.refl _) _ _ _ rfl rfl rfl x3 Up.aEnt rfl (R16.ent_all ⟨xn, xv, xk⟩) ?_; intro w4 x4 k4) | fail)
    have K4 := hid (Ku.out.then k4 (fun i hi (h : i = gE) => by have := HG.out.1; omega))
    have KS4 := hid (KSu.out.then k4 (fun i hi (h : i = gE) => by have := HG.out.2; omega))
    have XE : Hid (Blk w4 gE #[.string xn, .int .i64 xv, .int .u64 (xk : Int)] 48) := hid x4
    clear x3 x4 k4 Ku KSu d0 d1 d2
    have hnk := entR_parts TW.out.right
    obtain ⟨h2, hh2⟩ : ∃ z, z = how % 2 := ⟨_, rfl⟩
    have m2 : (how : Int) % 2 = (h2 : Int) := by omega
    have hf1 := tw_first TW.out h2 how 0 (by omega)
    have hf2 := tw_second TW.out
    obtain ⟨k4, hk4⟩ : ∃ z, z = xk % 5 := ⟨_, rfl⟩
    rw [← hk4] at hf2
    have hp61 : prime61 < 18446744073709551616 := by decide
    have hz0 : ((0 : Nat) : Int) = 0 := rfl
    have hd1 := fun W hW => HS.out.decide HC.out.2 ⟨xn, xv, xk, (h2 : Int), how, 0⟩ ⟨(show (-9223372036854775808 : Int) ≤ xv ∧ xv < 9223372036854775808 by omega), (show xk < 18446744073709551616 by omega), (show (-9223372036854775808 : Int) ≤ (h2 : Int) ∧ (h2 : Int) < 9223372036854775808 by omega), (show how < 18446744073709551616 by have := HHW.out.2; omega), (show (0 : Nat) < 18446744073709551616 by decide)⟩ (Nat.le_trans hnk.2.1 (by decide)) W hW
    have hd2 := fun W hW => HS.out.decide HC.out.2 ⟨xn, xv, k4 + 1, 0, 0, 0⟩ ⟨(show (-9223372036854775808 : Int) ≤ xv ∧ xv < 9223372036854775808 by omega), (show k4 + 1 < 18446744073709551616 by omega), (show (-9223372036854775808 : Int) ≤ 0 ∧ (0 : Int) < 9223372036854775808 by decide), (show (0 : Nat) < 18446744073709551616 by decide), (show (0 : Nat) < 18446744073709551616 by decide)⟩ (Nat.le_trans hnk.2.1 (by decide)) W hW
    rw [hf1] at hd1
    rw [hf2] at hd2
    unfold Req.V updV at hd1 hd2
    simp only [hz0] at hd1 hd2
    have HD1 := hid hd1
    have HD2 := hid hd2
    have c0 : w4.cell? ⟨gE, 0, none⟩ = some (.string xn) := XE.out.cell 0
    have c1 : w4.cell? ⟨gE, 1, none⟩ = some (.int .i64 xv) := XE.out.cell 1
    have c2 : w4.cell? ⟨gE, 2, none⟩ = some (.int .u64 (xk : Int)) := XE.out.cell 2
    have hk5 : k4 < 5 := by omega
    have HMW := hid (And.intro (show (xk : Int) % 5 = (k4 : Int) by omega) (show IntKind.u64.wrap ((k4 : Int) + 1) = ((k4 + 1 : Nat) : Int) by rw [IntKind.wrap_u64]; omega))
    clear hz0 hd1 hd2 hf1 hf2 hnk hh2 hk4 hp61 hk5
    have wh : IntKind.u64.wrap (how : Int) = (how : Int) := by rw [IntKind.wrap_u64]; omega
    clear hk hhow
    go_wp2_with fail
    refine (HD1.out w4 KS4.out).mono ?_
    rintro e w5 ⟨rfl, k5⟩
    have K5 := hid (K4.out.trans k5)
    have KS5 := hid (KS4.out.trans k5)
    have XE5 := hid (XE.out.kept k5 (fun h => h))
    have c0 : w5.cell? ⟨gE, 0, none⟩ = some (.string xn) := XE5.out.cell 0
    have c1 : w5.cell? ⟨gE, 1, none⟩ = some (.int .i64 xv) := XE5.out.cell 1
    have c2 : w5.cell? ⟨gE, 2, none⟩ = some (.int .u64 (xk : Int)) := XE5.out.cell 2
    obtain ⟨m5, wu⟩ := HMW.out
    clear k5 K4 KS4 XE HD1 m2 wh
    by_cases hkk : xk = k4 + 1
    · have HD3 := hid (HD2.out w5 KS5.out)
      rw [if_pos hkk] at HD3
      have HKK := hid hkk
      clear hkk HD2
      go_wp2_with fail
      refine HD3.out.mono ?_
      rintro e w6 ⟨rfl, k6⟩
      have K6 := hid (K5.out.trans k6)
      have c2 : w6.cell? ⟨gE, 2, none⟩ = some (.int .u64 (xk : Int)) := (XE5.out.kept k6 (fun h => h)).cell 2
      have e1 : ((xk : Int) == (k4 : Int) + 1) = true := by have := HKK.out; rw [beq_iff_eq]; omega
      have e2 : decide ((xk : Int) = (k4 : Int) + 1) = true := by have := HKK.out; exact decide_eq_true (by omega)
      clear k6 K5 XE5 HD3
      go_wp2_with (first | go_skip | fail)
      go_ret
      exact ⟨by first | rfl | (simp; done) | (simp; have := HKK.out; omega), K6.out⟩
    · have HD3 := hid (HD2.out w5 KS5.out)
      rw [if_neg hkk] at HD3
      have HKK := hid hkk
      clear hkk HD2
      go_wp2_with fail
      refine HD3.out.mono ?_
      rintro e w6 ⟨rfl, k6⟩
      have K6 := hid (K5.out.trans k6)
      have c2 : w6.cell? ⟨gE, 2, none⟩ = some (.int .u64 (xk : Int)) := (XE5.out.kept k6 (fun h => h)).cell 2
      have e1 : ((xk : Int) == (k4 : Int) + 1) = false := beq_eq_false_iff_ne.2 (by have := HKK.out; omega)
      have e2 : decide ((xk : Int) = (k4 : Int) + 1) = false := decide_eq_false (by have := HKK.out; omega)
      clear k6 K5 XE5 HD3
      go_wp2_with (first | go_skip | fail)
      go_ret
      exact ⟨by first | rfl | (simp; done) | (simp; have := HKK.out; omega), K6.out⟩
end P17
end Go.Proofs.Ytdobmebhjmgkmaa
namespace Go.Proofs.Ytdobmebhjmgkmaa
open Go.ChangeShapes Go.WideShapes Go.ChangeAt Go.RowKit Go.Pm

theorem laidOut : laidOutB Try.prog = true := by kernel_rfl
theorem ownKnobs : ownKnob Try.prog.godebug = none := by kernel_rfl
theorem rBool : Try.prog.underlying 4 = some .bool := by kernel_rfl
theorem rU8 : Try.prog.underlying 5 = some (.int .u8) := by kernel_rfl
theorem cByte : Try.prog.cellsOf 5 = 1 := by kernel_rfl

set_option maxRecDepth 100000 in
theorem admitTwice_lifted (os : Os) (started : os.Started) (H : Type) (enc : TypeId × Value → H) :
    ReturnsInHanded {} Try.checked os 5 .any (Rows.admitTwiceSpec.pre6 enc Try.prog Try.f5 Rows.admitTwiceRow.domain false) (Rows.admitTwiceSpec.post enc Try.prog Try.f5 false true false false) := by
  refine returnsInHanded_of_change (C := Try.checked) ownKnobs started (by kernel_rfl) Try.func5
    (ChangeSpec.witness6 (enc := enc) (C := Try.checked) false ⟨#[], #[.slice none 0 0, .slice none 0 0, .int .u8 0, .int .u8 0], []⟩ 8 (by kernel_rfl) (by kernel_rfl) (by kernel_rfl) (by kernel_rfl)) ?_
  intro W base args ds gs before hval0 hW _ _
  have hval : ∀ (j : Nat) t v, Try.f5.params[j]? = some t → args[j]? = some v → Value.okWide Try.prog W .any base t v := hval0
  have hlt : ∀ x ∈ before, x.block < W.heap.size := fun x hx => by simpa using hW.lt x hx
  have hW' := hW
  obtain ⟨p, q, hA0, hV, rfl, hfz, hnd⟩ := hW
  obtain ⟨rfl, rfl⟩ := trodVars_none hV
  have hA : DataW.TrodAll enc Try.prog W 0 (fun _ => true) true Try.f5.params.toList args.toList ds p := hA0
  rw [Try.params5] at hA hval
  obtain ⟨v0, v1, v2, v3, d0, d1, d2, d3, p0, p1, p2, p3, rfl, rfl, rfl, h0, h1, h2, h3⟩ := trodAll_four hA
  obtain ⟨l, hl⟩ := openBs tBytes' tByte cByte (hval 0 22 v0 rfl rfl) h0 (fun x hx => hlt x (by simp [hx]))
  obtain ⟨m, hm⟩ := openBs tBytes' tByte cByte (hval 1 22 v1 rfl rfl) h1 (fun x hx => hlt x (by simp [hx]))
  obtain ⟨k, rfl, b2⟩ := openNat_u8 rU8 (hval 2 5 v2 rfl rfl) h2
  obtain ⟨how, rfl, b3⟩ := openNat_u8 rU8 (hval 3 5 v3 rfl rfl) h3
  refine (P17.twice Ad.next Ad.decide v0 v1 _ _ _ _ l m k how b2 b3 W hl hm).mono fun e W' ⟨he, hk⟩ => ?_
  subst he
  exact ⟨_, rfl, law_post (P := Try.prog) (f := Try.f5) rfl rfl rBool laidOut (by kernel_rfl) hW' rfl rfl rfl (hk.below (fun _ _ h => h))⟩

theorem admitTwice_holds : Rows.AdmitTwiceSaid :=
  OpenClaim.holds_of_wide 5 Try.f5 rfl rfl rfl rfl rfl rfl rfl ⟨rfl, rfl, rfl, rfl, rfl⟩ rfl rfl rfl rfl rfl (by kernel_rfl) Try.func5 (by kernel_rfl)
    (of_decide_eq_true (by kernel_rfl)) (by unfold Func.isWrapper; first | (rw [if_pos (by decide +kernel)]; kernel_rfl) | (rw [if_neg (by decide +kernel)]; exact ⟨rfl, rfl⟩))
    (fun os started H enc _ => admitTwice_lifted os started H enc)
end Go.Proofs.Ytdobmebhjmgkmaa
