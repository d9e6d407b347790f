/- Rows.AdmitSignedSaid: the next version is taken from who has the key ahead, and other signatures are judged as the document judges them. No condition. -/
import Derived.Test.YtdobmebhjmgkmaaPk6
import Derived.Test.YtdobmebhjmgkmaaPk2
import Derived.Test.YtdobmebhjmgkmaaRows
namespace Go.Proofs.Ytdobmebhjmgkmaa
open Go.RowKit Go.Pm
namespace P17
open Ad
theorem iSig17 : (Try.prog.info? 25).map (·.size) = some [Value.int .u64 0, Value.int .u64 0].length := by kernel_rfl
theorem sig17 (n : ByteArray) (v c : Int) (k r s : Nat) (W : World) : (Instr.field 27 (.agg #[.string n, .int .i64 v, .int .u64 (k : Int), .int .i64 c, .int .u64 (r : Int), .int .u64 (s : Int)]) 4).run Try.prog W = .ok (.agg #[.int .u64 (r : Int), .int .u64 (s : Int)]) W := by kernel_rfl
theorem keyOf_seat (n : ByteArray) {c : Nat} (h : c ≠ 0) (w : World) (hn : n.size ≤ 32) : Calls Try.prog 16 #[.string n, .int .i64 (c : Int), .bool false] w fun e w' => e = .returned (.int .u64 (keyOf n c : Int)) ∧ Kept None w w' := by
  have h1 := Seat.key n (c : Int) false w (Nat.le_trans hn (by decide))
  unfold keyOf
  rw [if_neg h]
  exact h1
set_option maxRecDepth 100000 in
set_option maxHeartbeats 16000000 in
/-- The next version is taken from who has the key ahead, and other signatures are judged as the document judges them. -/
theorem signed (hN : NextC) (hD : DecideC) (v vm : Value) (lo hi lo' hi' : Nat) (l m : List UInt8) (k : Nat) (sc ky : Int) (w : World) (hv : Bs w lo hi v l) (hvm : Bs w lo' hi' vm m) :
    Calls Try.prog 4 #[v, vm, .int .u8 (k : Int), .int .u64 sc, .int .u64 ky] w fun e w' => e = .returned (.bool true) ∧ Kept None w w' := by
  obtain ⟨al, cl, rfl, _⟩ := hv.shape
  obtain ⟨am, cm, rfl, _⟩ := hvm.shape
  have HKN := hid (known hN hD w)
  have HV := hid hv.all
  have HVM := hid hvm.all
  have HC := hid (And.intro hN hD)
  clear hv hvm hN hD
  go_enter Try.func4, Try.ntmps4
  go_wp2_with fail
  refine HKN.out.mono ?_
  rintro e w1 ⟨rfl, k1⟩
  have K1 := hid k1
  clear k1 HKN
  by_cases hl : 10 < l.length
  · have z2 : (10 : Int) < (l.length : Int) := by omega
    have z1 : decide ((10 : Int) < (l.length : Int)) = true := decide_eq_true z2
    go_wp2_with (first | go_skip | fail)
    go_ret
    exact ⟨rfl, K1.out⟩
  have z2 : ¬ (10 : Int) < (l.length : Int) := by omega
  have z1 : decide ((10 : Int) < (l.length : Int)) = false := decide_eq_false z2
  by_cases hm : 8 < m.length
  · have y2 : (8 : Int) < (m.length : Int) := by omega
    have y1 : decide ((8 : Int) < (m.length : Int)) = true := decide_eq_true y2
    go_wp2_with (first | go_skip | fail)
    go_ret
    exact ⟨rfl, K1.out⟩
  have y2 : ¬ (8 : Int) < (m.length : Int) := by omega
  have y1 : decide ((8 : Int) < (m.length : Int)) = false := decide_eq_false y2
  have HLM := hid (show l.length ≤ 10 ∧ m.length ≤ 8 by omega)

  have HST := hid (story (.slice al l.length cl) (.slice am m.length cm) 0 w1.heap.size 0 w1.heap.size l m w1 ((HV.out.kept K1.out (fun _ _ _ h => h)).wider (Nat.zero_le _) K1.out.size) ((HVM.out.kept K1.out (fun _ _ _ h => h)).wider (Nat.zero_le _) K1.out.size) (by omega) (by omega))
  go_wp2_with (first | go_skip | fail)
  refine HST.out.mono ?_
  rintro e w2 ⟨a, b, rfl, k2, pa, pb⟩
  obtain ⟨D, p, hsd⟩ := Sd.of (w := w2) (l := l) (m := m) (by omega) (by omega) pa pb
  have HS := hid hsd
  have K2 := hid (K1.out.trans k2)
  clear k2 pa pb HST K1 z1 z2 y1 y2 hl hm
  obtain ⟨xa, ca, rfl⟩ := hsd.da
  obtain ⟨xb, cb, rfl⟩ := hsd.pb
  clear hsd
  obtain ⟨n, hn⟩ : ∃ n, n = Seat.nameS k := ⟨_, rfl⟩
  have hsz := Seat.nameS_size k
  have hnm := Seat.name k w2
  rw [← hn] at hnm hsz
  have HNM := hid hnm
  have HSZ := hid hsz
  clear hnm hn hsz
  go_wp2_with fail
  refine HNM.out.mono ?_
  rintro e w3 ⟨rfl, k3⟩
  have K3 := hid (K2.out.trans k3)
  have KS := hid k3
  clear k3 HNM K2
  obtain ⟨C, hC⟩ : ∃ C, C = cnt l n + cnt m n := ⟨_, rfl⟩
  have hCb : C ≤ 18 := by have := HLM.out; have := cnt_le l n; have := cnt_le m n; omega
  have hnx := HS.out.next HC.out.1 n w3 KS.out
  rw [nextP_q HS.out.wq n (by omega), ← hC] at hnx
  have HNX := hid hnx
  clear hnx
  have hup : ∀ W, Calls Try.prog 12 #[.string n, .int .i64 ((C : Int) + 1), .int .u8 0, .int .u8 0] W fun e w' => e = .returned (Seat.req n ((C : Int) + 1) 0 0).V ∧ Kept None W w' := fun W => Seat.update n ((C : Int) + 1) 0 0 W HSZ.out.2 (by omega) (by omega)
  have hup5 : ∀ W, Calls Try.prog 12 #[.string n, .int .i64 ((C : Int) + 1), .int .u8 0, .int .u8 5] W fun e w' => e = .returned (Seat.req n ((C : Int) + 1) 0 5).V ∧ Kept None W w' := fun W => Seat.update n ((C : Int) + 1) 0 5 W HSZ.out.2 (by omega) (by omega)
  have hfr : decP D p (Seat.req n ((C : Int) + 1) 0 0) = (0, 0) := by
    have h := dec_fresh HS.out.sq HS.out.wq n 0 HSZ.out (by omega)
    rw [← hC] at h
    exact h
  have hfit := req_fits n (v := (C : Int) + 1) (by omega) (by omega) 0 0
  have hfit5 := req_fits n (v := (C : Int) + 1) (by omega) (by omega) 0 5
  have hsu : (Seat.req n ((C : Int) + 1) 0 0).n.size ≤ 1000 := Nat.le_trans HSZ.out.2 (by decide)
  obtain ⟨⟨rn, rv, rk, rc, rr, rs⟩, hR⟩ : ∃ r, r = Seat.req n ((C : Int) + 1) 0 0 := ⟨_, rfl⟩
  obtain ⟨⟨tn, tv, tk, tc, tr, ts⟩, hT⟩ : ∃ r, r = Seat.req n ((C : Int) + 1) 0 5 := ⟨_, rfl⟩
  rw [← hR] at hup hfr hfit hsu
  rw [← hT] at hup5 hfit5
  obtain ⟨q1, q2, q3, q4, q5⟩ := hfit
  obtain ⟨s1, s2, s3, s4, s5⟩ := hfit5
  have hd1 := fun W hW => HS.out.decide HC.out.2 ⟨rn, rv, rk, rc, rr, rs⟩ ⟨q1, q2, q3, q4, q5⟩ hsu W hW
  have hd2 := fun W hW => HS.out.decide HC.out.2 ⟨rn, rv, rk, rc, tr, ts⟩ ⟨q1, q2, q3, s4, s5⟩ hsu W hW
  have hd3 := fun W hW => R16.decide17 (.slice xa D.length ca) (.slice xb p.length cb) 0 W.heap.size 0 W.heap.size D p ⟨rn, rv, rk, rc, tr, ts⟩ W (HS.out.ra W hW) (HS.out.rb W hW) (Nat.le_trans HS.out.dl (by decide)) (Nat.le_trans HS.out.pl (by decide)) hsu q2
  rw [hfr] at hd1
  obtain ⟨⟨Q1, Q2⟩, hQ⟩ : ∃ z, z = decP D p ⟨rn, rv, rk, rc, tr, ts⟩ := ⟨_, rfl⟩
  rw [← hQ] at hd2 hd3
  unfold Req.V updV at hup hup5 hd1 hd2 hd3
  simp only at hup hup5 hd1 hd2 hd3
  have HUP := hid hup
  have HUP5 := hid hup5
  have HD1 := hid hd1
  have HD2 := hid hd2
  have HD3 := hid hd3
  have HKS := hid (fun W (h : C ≠ 0) => keyOf_seat n h W HSZ.out.2)
  have hk0 : C = 0 → keyOf n C = 0 := fun h => by rw [h]; rfl
  obtain ⟨KY, hKY⟩ : ∃ z, z = keyOf n C := ⟨_, rfl⟩
  rw [← hKY] at HNX HKS hk0
  have HK0 := hid hk0
  have HCB := hid hCb
  clear hup hup5 hd1 hd2 hd3 hR hT hfr hsu q1 q2 q3 q4 q5 s1 s2 s3 s4 s5 hC hCb hQ hKY hk0
  go_wp2_with fail
  refine HNX.out.mono ?_
  rintro e w4 ⟨rfl, k4⟩
  have K4 := hid (K3.out.trans k4)
  have KS4 := hid (KS.out.trans k4)
  clear k4 HNX K3 KS
  go_wp2_with fail
  refine (HUP.out w4).mono ?_
  rintro e w5 ⟨rfl, k5⟩
  have B6 := hid (Blk.new w5 #[.string rn, .int .i64 rv, .int .u64 (rk : Int), .int .i64 rc, .int .u64 (rr : Int), .int .u64 (rs : Int)] 27)
  have K6 := hid ((K4.out.trans k5).alloc (.cells #[.string rn, .int .i64 rv, .int .u64 (rk : Int), .int .i64 rc, .int .u64 (rr : Int), .int .u64 (rs : Int)] 27))
  have KS6 := hid ((KS4.out.trans k5).alloc (.cells #[.string rn, .int .i64 rv, .int .u64 (rk : Int), .int .i64 rc, .int .u64 (rr : Int), .int .u64 (rs : Int)] 27))
  clear k5 K4 KS4 HUP
  go_upto_region 9 with fail
  obtain ⟨w6, hw6⟩ : ∃ z, z = w5.alloc (.cells #[.string rn, .int .i64 rv, .int .u64 (rk : Int), .int .i64 rc, .int .u64 (rr : Int), .int .u64 (rs : Int)] 27) := ⟨_, rfl⟩
  obtain ⟨g6, hg6⟩ : ∃ z, z = w5.heap.size := ⟨_, rfl⟩
  rw [← hw6] at B6 K6 KS6 ⊢
  rw [← hg6] at B6 ⊢
  clear hw6 hg6
  have b6 := B6.out
  go_wp2_with (first | (refine wpList_load_blk rfl _ _ rfl rfl b6 Up.aUpd ?_) | fail)
  refine (HD1.out w6 KS6.out).mono ?_
  rintro e w7 ⟨rfl, k7⟩
  have B7 := hid (B6.out.kept k7 (fun h => h))
  have K7 := hid (K6.out.trans k7)
  have KS7 := hid (KS6.out.trans k7)
  clear k7 K6 KS6 B6 b6 HD1
  by_cases h0 : C = 0
  · have hky := HK0.out h0
    subst h0
    subst hky
    go_upto_region 12 with (first | go_skip | fail)
    obtain ⟨g8, hg8⟩ : ∃ z, z = w7.heap.size := ⟨_, rfl⟩
    have HG := hid (show g6 < g8 ∧ w.heap.size ≤ g8 ∧ w2.heap.size ≤ g8 from by rw [hg8]; exact ⟨B7.out.lt, K7.out.size, KS7.out.size⟩)
    have z8 := Blk.new w7 #[.string ⟨#[]⟩, .int .i64 0, .int .u64 0, .int .i64 0, .int .u64 0, .int .u64 0] 27
    have HK8 := hid (show Kept None w7 (w7.alloc (.cells #[.string ⟨#[]⟩, .int .i64 0, .int .u64 0, .int .i64 0, .int .u64 0, .int .u64 0] 27)) from (Kept.refl _ _).alloc _)
    have b7 := B7.out
    go_upto_region 13 with (first | (refine wpList_load_blk rfl _ _ rfl rfl b7 Up.aUpd ?_) | (refine wpList_store_blk (.refl _) _ _ _ rfl rfl rfl z8 Up.aUpd rfl (Up.upd_all _ _ _ _ _ _) ?_; intro w8 x8 k8) | go_skip | fail)
    have K8 := hid ((K7.out.trans HK8.out).then k8 (fun i hi (h : i = w7.heap.size) => by have := HG.out.2.1; omega))
    have KS8 := hid ((KS7.out.trans HK8.out).then k8 (fun i hi (h : i = w7.heap.size) => by have := HG.out.2.2; omega))
    have X8 := hid x8
    rw [← hg8] at X8 ⊢
    clear z8 HK8 b7 x8 k8 hg8 K7 KS7 B7
    go_wp2_with fail
    refine (HUP5.out w8).mono ?_
    rintro e w9 ⟨rfl, k9⟩
    have x9 := X8.out.kept k9 (fun h => h)
    have K9 := hid (K8.out.trans k9)
    have KS9 := hid (KS8.out.trans k9)
    clear k9 K8 KS8 X8 HUP5
    have hsf := sig17 tn tv tc tk tr ts w9
    go_upto_region 14 with (first | (refine wpList_store_agg rfl _ _ _ rfl (xs := [.int .u64 (tr : Int), .int .u64 (ts : Int)]) rfl rfl x9 iSig17 (by simp [Value.oneCell']) (by simp) ?_; intro w10 x10 k10) | fail)
    have K10 := hid (K9.out.then k10 (fun i hi (h : i = g8) => by have := HG.out.2.1; omega))
    have KS10 := hid (KS9.out.then k10 (fun i hi (h : i = g8) => by have := HG.out.2.2; omega))
    have x10 : Blk w10 g8 #[.string rn, .int .i64 rv, .int .u64 (rk : Int), .int .i64 rc, .int .u64 (tr : Int), .int .u64 (ts : Int)] 27 := x10
    have X10 := hid x10
    clear x9 k10 K9 KS9
    go_wp2_with (first | (refine wpList_load_blk rfl _ _ rfl rfl x10 Up.aUpd ?_) | fail)
    refine (HD2.out w10 KS10.out).mono ?_
    rintro e w11 ⟨rfl, k11⟩
    have K11 := hid (K10.out.trans k11)
    have KS11 := hid (KS10.out.trans k11)
    have x11 := X10.out.kept k11 (fun h => h)
    clear k11 K10 KS10 X10 x10 HD2
    go_wp2_with (first | (refine wpList_load_blk rfl _ _ rfl rfl x11 Up.aUpd ?_) | fail)
    refine (HD3.out w11 KS11.out).mono ?_
    rintro e w12 ⟨rfl, k12⟩
    have K12 := hid (K11.out.trans k12)
    clear k12 x11 K11 KS11 HD3
    go_wp2_with (first | go_skip | fail)
    go_ret
    exact ⟨by first | rfl | simp, K12.out⟩
  · have HK2 := hid (HKS.out w7 h0)
    have y2 : decide ((1 : Int) < (C : Int) + 1) = true := decide_eq_true (by omega)
    have y5 : (1 : Int) < (C : Int) + 1 := by omega
    have y3 : ((C : Int) + 1 == 1) = false := beq_eq_false_iff_ne.2 (by omega)
    have y4 : ¬ C = 0 := h0
    have wc : wrap64 (C : Int) = (C : Int) := (nums17 (n := C) (by have := HCB.out; omega)).1
    clear h0
    go_wp2_with (first | go_skip | fail)
    refine HK2.out.mono ?_
    rintro e w8k ⟨rfl, k8k⟩
    have B7 := hid (B7.out.kept k8k (fun h => h))
    have K7 := hid (K7.out.trans k8k)
    have KS7 := hid (KS7.out.trans k8k)
    clear k8k HK2
    go_upto_region 12 with (first | go_skip | fail)
    clear y2 y3 y5 wc
    obtain ⟨g8, hg8⟩ : ∃ z, z = w8k.heap.size := ⟨_, rfl⟩
    have HG := hid (show g6 < g8 ∧ w.heap.size ≤ g8 ∧ w2.heap.size ≤ g8 from by rw [hg8]; exact ⟨B7.out.lt, K7.out.size, KS7.out.size⟩)
    have z8 := Blk.new w8k #[.string ⟨#[]⟩, .int .i64 0, .int .u64 0, .int .i64 0, .int .u64 0, .int .u64 0] 27
    have HK8 := hid (show Kept None w8k (w8k.alloc (.cells #[.string ⟨#[]⟩, .int .i64 0, .int .u64 0, .int .i64 0, .int .u64 0, .int .u64 0] 27)) from (Kept.refl _ _).alloc _)
    have b7 := B7.out
    go_upto_region 13 with (first | (refine wpList_load_blk rfl _ _ rfl rfl b7 Up.aUpd ?_) | (refine wpList_store_blk (.refl _) _ _ _ rfl rfl rfl z8 Up.aUpd rfl (Up.upd_all _ _ _ _ _ _) ?_; intro w8 x8 k8) | go_skip | fail)
    have K8 := hid ((K7.out.trans HK8.out).then k8 (fun i hi (h : i = w8k.heap.size) => by have := HG.out.2.1; omega))
    have KS8 := hid ((KS7.out.trans HK8.out).then k8 (fun i hi (h : i = w8k.heap.size) => by have := HG.out.2.2; omega))
    have X8 := hid x8
    rw [← hg8] at X8 ⊢
    clear z8 HK8 b7 x8 k8 hg8 K7 KS7 B7
    go_wp2_with fail
    refine (HUP5.out w8).mono ?_
    rintro e w9 ⟨rfl, k9⟩
    have x9 := X8.out.kept k9 (fun h => h)
    have K9 := hid (K8.out.trans k9)
    have KS9 := hid (KS8.out.trans k9)
    clear k9 K8 KS8 X8 HUP5
    have hsf := sig17 tn tv tc tk tr ts w9
    go_upto_region 14 with (first | (refine wpList_store_agg rfl _ _ _ rfl (xs := [.int .u64 (tr : Int), .int .u64 (ts : Int)]) rfl rfl x9 iSig17 (by simp [Value.oneCell']) (by simp) ?_; intro w10 x10 k10) | fail)
    have K10 := hid (K9.out.then k10 (fun i hi (h : i = g8) => by have := HG.out.2.1; omega))
    have KS10 := hid (KS9.out.then k10 (fun i hi (h : i = g8) => by have := HG.out.2.2; omega))
    have x10 : Blk w10 g8 #[.string rn, .int .i64 rv, .int .u64 (rk : Int), .int .i64 rc, .int .u64 (tr : Int), .int .u64 (ts : Int)] 27 := x10
    have X10 := hid x10
    clear x9 k10 K9 KS9
    go_wp2_with (first | (refine wpList_load_blk rfl _ _ rfl rfl x10 Up.aUpd ?_) | fail)
    refine (HD2.out w10 KS10.out).mono ?_
    rintro e w11 ⟨rfl, k11⟩
    have K11 := hid (K10.out.trans k11)
    have KS11 := hid (KS10.out.trans k11)
    have x11 := X10.out.kept k11 (fun h => h)
    clear k11 K10 KS10 X10 x10 HD2
    go_wp2_with (first | (refine wpList_load_blk rfl _ _ rfl rfl x11 Up.aUpd ?_) | fail)
    refine (HD3.out w11 KS11.out).mono ?_
    rintro e w12 ⟨rfl, k12⟩
    have K12 := hid (K11.out.trans k12)
    clear k12 x11 K11 KS11 HD3
    go_wp2_with (first | go_skip | fail)
    go_ret
    exact ⟨by first | rfl | simp, K12.out⟩
end P17
end Go.Proofs.Ytdobmebhjmgkmaa
namespace Go.Proofs.Ytdobmebhjmgkmaa
open Go.ChangeShapes Go.WideShapes Go.ChangeAt Go.RowKit Go.Pm

theorem laidOut : laidOutB Try.prog = true := by kernel_rfl
theorem ownKnobs : ownKnob Try.prog.godebug = none := by kernel_rfl
theorem rBool : Try.prog.underlying 4 = some .bool := by kernel_rfl
theorem rU64 : Try.prog.underlying 23 = some (.int .u64) := by kernel_rfl
theorem rU8 : Try.prog.underlying 5 = some (.int .u8) := by kernel_rfl
theorem cByte : Try.prog.cellsOf 5 = 1 := by kernel_rfl

set_option maxRecDepth 100000 in
theorem admitSigned_lifted (os : Os) (started : os.Started) (H : Type) (enc : TypeId × Value → H) :
    ReturnsInHanded {} Try.checked os 4 .any (Rows.admitSignedSpec.pre6 enc Try.prog Try.f4 Rows.admitSignedRow.domain false) (Rows.admitSignedSpec.post enc Try.prog Try.f4 false true false false) := by
  refine returnsInHanded_of_change (C := Try.checked) ownKnobs started (by kernel_rfl) Try.func4
    (ChangeSpec.witness6 (enc := enc) (C := Try.checked) false ⟨#[], #[.slice none 0 0, .slice none 0 0, .int .u8 0, .int .u64 0, .int .u64 0], []⟩ 8 (by kernel_rfl) (by kernel_rfl) (by kernel_rfl) (by kernel_rfl)) ?_
  intro W base args ds gs before hval0 hW _ _
  have hval : ∀ (j : Nat) t v, Try.f4.params[j]? = some t → args[j]? = some v → Value.okWide Try.prog W .any base t v := hval0
  have hlt : ∀ x ∈ before, x.block < W.heap.size := fun x hx => by simpa using hW.lt x hx
  have hW' := hW
  obtain ⟨p, q, hA0, hV, rfl, hfz, hnd⟩ := hW
  obtain ⟨rfl, rfl⟩ := trodVars_none hV
  have hA : DataW.TrodAll enc Try.prog W 0 (fun _ => true) true Try.f4.params.toList args.toList ds p := hA0
  rw [Try.params4] at hA hval
  obtain ⟨v0, v1, v2, v3, v4, d0, d1, d2, d3, d4, p0, p1, p2, p3, p4, rfl, rfl, rfl, h0, h1, h2, h3, h4⟩ := trodAll_five hA
  obtain ⟨l, hl⟩ := openBs tBytes' tByte cByte (hval 0 22 v0 rfl rfl) h0 (fun x hx => hlt x (by simp [hx]))
  obtain ⟨m, hm⟩ := openBs tBytes' tByte cByte (hval 1 22 v1 rfl rfl) h1 (fun x hx => hlt x (by simp [hx]))
  obtain ⟨k, rfl, b2⟩ := openNat_u8 rU8 (hval 2 5 v2 rfl rfl) h2
  obtain ⟨sc, rfl, b3⟩ := openNat_u64 rU64 (hval 3 23 v3 rfl rfl) h3
  obtain ⟨ky, rfl, b4⟩ := openNat_u64 rU64 (hval 4 23 v4 rfl rfl) h4
  refine (P17.signed Ad.next Ad.decide v0 v1 _ _ _ _ l m k (sc : Int) (ky : Int) W hl hm).mono fun e W' ⟨he, hk⟩ => ?_
  subst he
  exact ⟨_, rfl, law_post (P := Try.prog) (f := Try.f4) rfl rfl rBool laidOut (by kernel_rfl) hW' rfl rfl rfl (hk.below (fun _ _ h => h))⟩

theorem admitSigned_holds : Rows.AdmitSignedSaid :=
  OpenClaim.holds_of_wide 4 Try.f4 rfl rfl rfl rfl rfl rfl rfl ⟨rfl, rfl, rfl, rfl, rfl⟩ rfl rfl rfl rfl rfl (by kernel_rfl) Try.func4 (by kernel_rfl)
    (of_decide_eq_true (by kernel_rfl)) (by unfold Func.isWrapper; first | (rw [if_pos (by decide +kernel)]; kernel_rfl) | (rw [if_neg (by decide +kernel)]; exact ⟨rfl, rfl⟩))
    (fun os started H enc _ => admitSigned_lifted os started H enc)
end Go.Proofs.Ytdobmebhjmgkmaa
