/- Rows.AdmitFormsSaid: a request that may not be is told so ahead of all else, and a missing version ahead of its signature. No condition. -/
import Derived.Test.YtdobmebhjmgkmaaPk6
import Derived.Test.YtdobmebhjmgkmaaRows
namespace Go.Proofs.Ytdobmebhjmgkmaa
open Go.RowKit Go.Pm
namespace P17
open Ad
theorem not_right_c (n : ByteArray) (v : Int) (k : Nat) : rightB n.size v k 9 = false := rightB_no (by omega)
theorem not_right_n (v : Int) (k : Nat) (c : Int) : rightB (⟨#[]⟩ : ByteArray).size v k c = false := rightB_no (by
  have : (⟨#[]⟩ : ByteArray).size = 0 := rfl
  omega)
set_option maxRecDepth 100000 in
set_option maxHeartbeats 16000000 in
/-- A request that may not be is told so ahead of all else, and a missing version ahead of its signature. -/
theorem forms (hN : NextC) (hD : DecideC) (v vm : Value) (lo hi lo' hi' : Nat) (l m : List UInt8) (k ah how : Nat) (hah : ah < 256) (hhow : how < 256) (w : World) (hv : Bs w lo hi v l) (hvm : Bs w lo' hi' vm m) :
    Calls Try.prog 6 #[v, vm, .int .u8 (k : Int), .int .u8 (ah : Int), .int .u8 (how : Int)] w fun e w' => e = .returned (.bool true) ∧ Kept None w w' := by
  obtain ⟨al, cl, rfl, _⟩ := hv.shape
  obtain ⟨am, cm, rfl, _⟩ := hvm.shape
  have HKN := hid (known hN hD w)
  have HV := hid hv.all
  have HVM := hid hvm.all
  have HC := hid (And.intro hN hD)
  clear hv hvm hN hD
  go_enter Try.func6, Try.ntmps6
  go_wp2_with fail
  refine HKN.out.mono ?_
  rintro e w1 ⟨rfl, k1⟩
  have K1 := hid k1
  clear k1 HKN
  by_cases hl : 8 < l.length
  · have z2 : (8 : Int) < (l.length : Int) := by omega
    have z1 : decide ((8 : Int) < (l.length : Int)) = true := decide_eq_true z2
    go_wp2_with (first | go_skip | fail)
    go_ret
    exact ⟨rfl, K1.out⟩
  have z2 : ¬ (8 : Int) < (l.length : Int) := by omega
  have z1 : decide ((8 : Int) < (l.length : Int)) = false := decide_eq_false z2
  by_cases hm : 6 < m.length
  · have y2 : (6 : Int) < (m.length : Int) := by omega
    have y1 : decide ((6 : Int) < (m.length : Int)) = true := decide_eq_true y2
    go_wp2_with (first | go_skip | fail)
    go_ret
    exact ⟨rfl, K1.out⟩
  have y2 : ¬ (6 : Int) < (m.length : Int) := by omega
  have y1 : decide ((6 : Int) < (m.length : Int)) = false := decide_eq_false y2
  have HLM := hid (show l.length ≤ 8 ∧ m.length ≤ 6 by omega)

  have HST := hid (story (.slice al l.length cl) (.slice am m.length cm) 0 w1.heap.size 0 w1.heap.size l m w1 ((HV.out.kept K1.out (fun _ _ _ h => h)).wider (Nat.zero_le _) K1.out.size) ((HVM.out.kept K1.out (fun _ _ _ h => h)).wider (Nat.zero_le _) K1.out.size) (by omega) (by omega))
  go_wp2_with (first | go_skip | fail)
  refine HST.out.mono ?_
  rintro e w2 ⟨a, b, rfl, k2, pa, pb⟩
  obtain ⟨D, p, hsd⟩ := Sd.of (w := w2) (l := l) (m := m) (by omega) (by omega) pa pb
  have HS := hid hsd
  have K2 := hid (K1.out.trans k2)
  clear k2 pa pb HST K1 z1 z2 y1 y2 hl hm
  obtain ⟨xa, ca, rfl⟩ := hsd.da
  obtain ⟨xb, cb, rfl⟩ := hsd.pb
  clear hsd
  obtain ⟨n, hn⟩ : ∃ n, n = Seat.nameS k := ⟨_, rfl⟩
  have hsz := Seat.nameS_size k
  have hnm := Seat.name k w2
  rw [← hn] at hnm hsz
  have HNM := hid hnm
  have HSZ := hid hsz
  clear hnm hn hsz
  go_wp2_with fail
  refine HNM.out.mono ?_
  rintro e w3 ⟨rfl, k3⟩
  have K3 := hid (K2.out.trans k3)
  have KS := hid k3
  clear k3 HNM K2
  obtain ⟨C, hC⟩ : ∃ C, C = cnt l n + cnt m n := ⟨_, rfl⟩
  have hCb : C ≤ 14 := by have := HLM.out; have := cnt_le l n; have := cnt_le m n; omega
  have hnx := HS.out.next HC.out.1 n w3 KS.out
  rw [nextP_q HS.out.wq n (by omega), ← hC] at hnx
  have HNX := hid hnx
  clear hnx
  obtain ⟨H7, hH7⟩ : ∃ z, z = how % 7 := ⟨_, rfl⟩
  obtain ⟨A3, hA3⟩ : ∃ z, z = ah % 3 := ⟨_, rfl⟩
  have m7 : (how : Int) % 7 = (H7 : Int) := by omega
  have m3 : (ah : Int) % 3 = (A3 : Int) := by omega
  have hH : H7 < 7 := by omega
  have hA : A3 < 3 := by omega
  obtain ⟨V, hV⟩ : ∃ V : Int, V = (C : Int) + 2 + (A3 : Int) := ⟨_, rfl⟩
  have hVb : 1 ≤ V ∧ V ≤ 1000 := by omega
  have hup : ∀ W, Calls Try.prog 12 #[.string n, .int .i64 V, .int .u8 0, .int .u8 (H7 : Int)] W fun e w' => e = .returned (Seat.req n V 0 H7).V ∧ Kept None W w' := fun W => Seat.update n V 0 H7 W HSZ.out.2 hVb.1 hVb.2
  have hright := req_right n (v := V) 0 H7 HSZ.out (by omega) (beq_eq_false_iff_ne.2 (by omega))
  have hgap : decP D p (Seat.req n V 0 H7) = (0, 27) := dec_gap HS.out.sq HS.out.wq hright (by show ((cnt l n + cnt m n : Nat) : Int) + 1 < V; omega) (by show cnt l n + cnt m n ≤ 100000; omega)
  have hfit := req_fits n (v := V) (by omega) (by omega) 0 H7
  have hsu : (Seat.req n V 0 H7).n.size ≤ 1000 := Nat.le_trans HSZ.out.2 (by decide)
  obtain ⟨⟨rn, rv, rk, rc, rr, rs⟩, hR⟩ : ∃ r, r = Seat.req n V 0 H7 := ⟨_, rfl⟩
  rw [← hR] at hup hgap hfit hsu
  obtain ⟨q1, q2, q3, q4, q5⟩ := hfit
  have hd1 := fun W hW => HS.out.decide HC.out.2 ⟨rn, rv, rk, rc, rr, rs⟩ ⟨q1, q2, q3, q4, q5⟩ hsu W hW
  have hd2 := fun W hW => HS.out.decide HC.out.2 ⟨rn, rv, rk, 9, rr, rs⟩ ⟨q1, q2, (show (-9223372036854775808 : Int) ≤ 9 ∧ (9 : Int) < 9223372036854775808 from ⟨by decide, by decide⟩), q4, q5⟩ hsu W hW
  have hd3 := fun W hW => HS.out.decide HC.out.2 ⟨⟨#[]⟩, rv, rk, rc, rr, rs⟩ ⟨q1, q2, q3, q4, q5⟩ (show (0 : Nat) ≤ 1000 by decide) W hW
  rw [hgap] at hd1
  rw [dec_form (u := ⟨rn, rv, rk, 9, rr, rs⟩) (not_right_c _ _ _)] at hd2
  rw [dec_form (u := ⟨⟨#[]⟩, rv, rk, rc, rr, rs⟩) (not_right_n _ _ _)] at hd3
  unfold Req.V updV at hup hd1 hd2 hd3
  simp only at hup hd1 hd2 hd3
  have HUP := hid hup
  have HD1 := hid hd1
  have HD2 := hid hd2
  have HD3 := hid hd3
  have wv : wrap64 ((C : Int) + 1 + 1) = (C : Int) + 2 := by unfold wrap64; omega
  have wv2 : wrap64 ((C : Int) + 2 + (A3 : Int)) = V := by rw [hV]; unfold wrap64; omega
  have HWV := hid (And.intro wv wv2)
  have HCB := hid hCb
  clear hup hd1 hd2 hd3 hR hgap hsu q1 q2 q3 q4 q5 hright hC hCb hV hVb hH7 hA3 wv wv2
  go_wp2_with fail
  refine HNX.out.mono ?_
  rintro e w4 ⟨rfl, k4⟩
  have K4 := hid (K3.out.trans k4)
  have KS4 := hid (KS.out.trans k4)
  clear k4 HNX K3 KS
  obtain ⟨wv, wv2⟩ := HWV.out
  go_wp2_with fail
  refine (HUP.out w4).mono ?_
  rintro e w5 ⟨rfl, k5⟩
  clear wv wv2 m7 m3
  have B6 := hid (Blk.new w5 #[.string rn, .int .i64 rv, .int .u64 (rk : Int), .int .i64 rc, .int .u64 (rr : Int), .int .u64 (rs : Int)] 27)
  have K6 := hid ((K4.out.trans k5).alloc (.cells #[.string rn, .int .i64 rv, .int .u64 (rk : Int), .int .i64 rc, .int .u64 (rr : Int), .int .u64 (rs : Int)] 27))
  have KS6 := hid ((KS4.out.trans k5).alloc (.cells #[.string rn, .int .i64 rv, .int .u64 (rk : Int), .int .i64 rc, .int .u64 (rr : Int), .int .u64 (rs : Int)] 27))
  clear k5 K4 KS4 HUP
  go_upto_region 9 with fail
  obtain ⟨w6, hw6⟩ : ∃ z, z = w5.alloc (.cells #[.string rn, .int .i64 rv, .int .u64 (rk : Int), .int .i64 rc, .int .u64 (rr : Int), .int .u64 (rs : Int)] 27) := ⟨_, rfl⟩
  obtain ⟨g6, hg6⟩ : ∃ z, z = w5.heap.size := ⟨_, rfl⟩
  rw [← hw6] at B6 K6 KS6 ⊢
  rw [← hg6] at B6 ⊢
  clear hw6 hg6
  have b6 := B6.out
  go_wp2_with (first | (refine wpList_load_blk rfl _ _ rfl rfl b6 Up.aUpd ?_) | fail)
  refine (HD1.out w6 KS6.out).mono ?_
  rintro e w7 ⟨rfl, k7⟩
  have B7 := hid (B6.out.kept k7 (fun h => h))
  have K7 := hid (K6.out.trans k7)
  have KS7 := hid (KS6.out.trans k7)
  clear k7 K6 KS6 B6 b6 HD1
  obtain ⟨g8, hg8⟩ : ∃ z, z = w7.heap.size := ⟨_, rfl⟩
  have HG := hid (show g6 < g8 ∧ w.heap.size ≤ g8 ∧ w2.heap.size ≤ g8 from by rw [hg8]; exact ⟨B7.out.lt, K7.out.size, KS7.out.size⟩)
  have z8 := Blk.new w7 #[.string ⟨#[]⟩, .int .i64 0, .int .u64 0, .int .i64 0, .int .u64 0, .int .u64 0] 27
  have HK8 := hid (show Kept None w7 (w7.alloc (.cells #[.string ⟨#[]⟩, .int .i64 0, .int .u64 0, .int .i64 0, .int .u64 0, .int .u64 0] 27)) from (Kept.refl _ _).alloc _)
  have b7 := B7.out
  go_upto_region 11 with (first | (refine wpList_load_blk rfl _ _ rfl rfl b7 Up.aUpd ?_) | (refine wpList_store_blk (.refl _) _ _ _ rfl rfl rfl z8 Up.aUpd rfl (Up.upd_all _ _ _ _ _ _) ?_; intro w8 x8 k8) | fail)
  have K8 := hid ((K7.out.trans HK8.out).then k8 (fun i hi (h : i = w7.heap.size) => by have := HG.out.2.1; omega))
  have KS8 := hid ((KS7.out.trans HK8.out).then k8 (fun i hi (h : i = w7.heap.size) => by have := HG.out.2.2; omega))
  have B8 := hid ((B7.out.kept HK8.out (fun h => h)).kept k8 (fun (h : g6 = w7.heap.size) => by have := HG.out.1; omega))
  have X8 := hid x8
  rw [← hg8] at X8 ⊢
  clear z8 HK8 b7 x8 k8 hg8 K7 KS7 B7
  have c3 : w8.cell? ⟨g8, 3, none⟩ = some (.int .i64 rc) := X8.out.cell 3
  have fr : w8.frozen? ⟨g8, 3, none⟩ = false := X8.out.free _
  go_upto_region 12 with fail
  obtain ⟨w9, hw9⟩ : ∃ z, z = w8.setCell ⟨g8, 3, none⟩ (.int .i64 9) := ⟨_, rfl⟩
  have K9 := hid (show Kept None w w9 from hw9 ▸ K8.out.setNew HG.out.2.1 3 _)
  have KS9 := hid (show Kept None w2 w9 from hw9 ▸ KS8.out.setNew HG.out.2.2 3 _)
  have B9 := hid (show Blk w9 g6 #[.string rn, .int .i64 rv, .int .u64 (rk : Int), .int .i64 rc, .int .u64 (rr : Int), .int .u64 (rs : Int)] 27 from hw9 ▸ B8.out.setOther (a := ⟨g8, 3, none⟩) (by have := HG.out.1; show g6 ≠ g8; omega) _)
  have X9 := hid (show Blk w9 g8 #[.string rn, .int .i64 rv, .int .u64 (rk : Int), .int .i64 9, .int .u64 (rr : Int), .int .u64 (rs : Int)] 27 from hw9 ▸ X8.out.set 3 (.int .i64 9))
  rw [← hw9]
  clear hw9 c3 fr K8 KS8 B8 X8
  have x9 := X9.out
  go_wp2_with (first | (refine wpList_load_blk rfl _ _ rfl rfl x9 Up.aUpd ?_) | fail)
  refine (HD2.out w9 KS9.out).mono ?_
  rintro e w10 ⟨rfl, k10⟩
  have K10 := hid (K9.out.trans k10)
  have KS10 := hid (KS9.out.trans k10)
  have b10 := B9.out.kept k10 (fun h => h)
  have x10 := X9.out.kept k10 (fun h => h)
  have HB10 := hid b10
  clear k10 x9 K9 KS9 B9 X9 HD2
  go_upto_region 14 with (first | (refine wpList_load_blk rfl _ _ rfl rfl b10 Up.aUpd ?_) | (refine wpList_store_blk (.refl _) _ _ _ rfl rfl rfl x10 Up.aUpd rfl (Up.upd_all _ _ _ _ _ _) ?_; intro w11 x11 k11) | fail)
  have K11 := hid (K10.out.then k11 (fun i hi (h : i = g8) => by have := HG.out.2.1; omega))
  have KS11 := hid (KS10.out.then k11 (fun i hi (h : i = g8) => by have := HG.out.2.2; omega))
  have X11 := hid x11
  clear b10 x10 x11 k11 K10 KS10 HB10
  have c0 : w11.cell? ⟨g8, 0, none⟩ = some (.string rn) := X11.out.cell 0
  have fr : w11.frozen? ⟨g8, 0, none⟩ = false := X11.out.free _
  go_upto_region 15 with fail
  obtain ⟨w12, hw12⟩ : ∃ z, z = w11.setCell ⟨g8, 0, none⟩ (.string ⟨#[]⟩) := ⟨_, rfl⟩
  have K12 := hid (show Kept None w w12 from hw12 ▸ K11.out.setNew HG.out.2.1 0 _)
  have KS12 := hid (show Kept None w2 w12 from hw12 ▸ KS11.out.setNew HG.out.2.2 0 _)
  have X12 := hid (show Blk w12 g8 #[.string ⟨#[]⟩, .int .i64 rv, .int .u64 (rk : Int), .int .i64 rc, .int .u64 (rr : Int), .int .u64 (rs : Int)] 27 from hw12 ▸ X11.out.set 0 (.string ⟨#[]⟩))
  rw [← hw12]
  clear hw12 c0 fr K11 KS11 X11
  have x12 := X12.out
  go_wp2_with (first | (refine wpList_load_blk rfl _ _ rfl rfl x12 Up.aUpd ?_) | fail)
  refine (HD3.out w12 KS12.out).mono ?_
  rintro e w13 ⟨rfl, k13⟩
  have K13 := hid (K12.out.trans k13)
  clear k13 x12 K12 KS12 X12 HD3
  go_wp2_with (first | go_skip | fail)
  go_ret
  exact ⟨by first | rfl | simp, K13.out⟩
end P17
end Go.Proofs.Ytdobmebhjmgkmaa
namespace Go.Proofs.Ytdobmebhjmgkmaa
open Go.ChangeShapes Go.WideShapes Go.ChangeAt Go.RowKit Go.Pm

theorem laidOut : laidOutB Try.prog = true := by kernel_rfl
theorem ownKnobs : ownKnob Try.prog.godebug = none := by kernel_rfl
theorem rBool : Try.prog.underlying 4 = some .bool := by kernel_rfl
theorem rU8 : Try.prog.underlying 5 = some (.int .u8) := by kernel_rfl
theorem cByte : Try.prog.cellsOf 5 = 1 := by kernel_rfl

set_option maxRecDepth 100000 in
theorem admitForms_lifted (os : Os) (started : os.Started) (H : Type) (enc : TypeId × Value → H) :
    ReturnsInHanded {} Try.checked os 6 .any (Rows.admitFormsSpec.pre6 enc Try.prog Try.f6 Rows.admitFormsRow.domain false) (Rows.admitFormsSpec.post enc Try.prog Try.f6 false true false false) := by
  refine returnsInHanded_of_change (C := Try.checked) ownKnobs started (by kernel_rfl) Try.func6
    (ChangeSpec.witness6 (enc := enc) (C := Try.checked) false ⟨#[], #[.slice none 0 0, .slice none 0 0, .int .u8 0, .int .u8 0, .int .u8 0], []⟩ 8 (by kernel_rfl) (by kernel_rfl) (by kernel_rfl) (by kernel_rfl)) ?_
  intro W base args ds gs before hval0 hW _ _
  have hval : ∀ (j : Nat) t v, Try.f6.params[j]? = some t → args[j]? = some v → Value.okWide Try.prog W .any base t v := hval0
  have hlt : ∀ x ∈ before, x.block < W.heap.size := fun x hx => by simpa using hW.lt x hx
  have hW' := hW
  obtain ⟨p, q, hA0, hV, rfl, hfz, hnd⟩ := hW
  obtain ⟨rfl, rfl⟩ := trodVars_none hV
  have hA : DataW.TrodAll enc Try.prog W 0 (fun _ => true) true Try.f6.params.toList args.toList ds p := hA0
  rw [Try.params6] at hA hval
  obtain ⟨v0, v1, v2, v3, v4, d0, d1, d2, d3, d4, p0, p1, p2, p3, p4, rfl, rfl, rfl, h0, h1, h2, h3, h4⟩ := trodAll_five hA
  obtain ⟨l, hl⟩ := openBs tBytes' tByte cByte (hval 0 22 v0 rfl rfl) h0 (fun x hx => hlt x (by simp [hx]))
  obtain ⟨m, hm⟩ := openBs tBytes' tByte cByte (hval 1 22 v1 rfl rfl) h1 (fun x hx => hlt x (by simp [hx]))
  obtain ⟨k, rfl, b2⟩ := openNat_u8 rU8 (hval 2 5 v2 rfl rfl) h2
  obtain ⟨ah, rfl, b3⟩ := openNat_u8 rU8 (hval 3 5 v3 rfl rfl) h3
  obtain ⟨how, rfl, b4⟩ := openNat_u8 rU8 (hval 4 5 v4 rfl rfl) h4
  refine (P17.forms Ad.next Ad.decide v0 v1 _ _ _ _ l m k ah how b3 b4 W hl hm).mono fun e W' ⟨he, hk⟩ => ?_
  subst he
  exact ⟨_, rfl, law_post (P := Try.prog) (f := Try.f6) rfl rfl rBool laidOut (by kernel_rfl) hW' rfl rfl rfl (hk.below (fun _ _ h => h))⟩

theorem admitForms_holds : Rows.AdmitFormsSaid :=
  OpenClaim.holds_of_wide 6 Try.f6 rfl rfl rfl rfl rfl rfl rfl ⟨rfl, rfl, rfl, rfl, rfl⟩ rfl rfl rfl rfl rfl (by kernel_rfl) Try.func6 (by kernel_rfl)
    (of_decide_eq_true (by kernel_rfl)) (by unfold Func.isWrapper; first | (rw [if_pos (by decide +kernel)]; kernel_rfl) | (rw [if_neg (by decide +kernel)]; exact ⟨rfl, rfl⟩))
    (fun os started H enc _ => admitForms_lifted os started H enc)
end Go.Proofs.Ytdobmebhjmgkmaa
