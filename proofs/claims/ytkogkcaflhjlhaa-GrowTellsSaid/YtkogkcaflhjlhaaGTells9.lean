/- postmarklaw9.GrowTells: true. -/
import Derived.Test.YtkogkcaflhjlhaaGLong9
import Derived.Test.YtkogkcaflhjlhaaHashes8
import Derived.Test.YtkogkcaflhjlhaaGAny9
namespace Go.Pm
open Go Go.RowKit
theorem iwN (k : Nat) (h : k < 4294967296) : IntKind.i64.wrap (k : Int) = (k : Int) := by rw [IntKind.wrap_i64]; omega
theorem wwN (k : Nat) (h : k < 4294967296) : wrap64 (k : Int) = (k : Int) := by unfold wrap64; omega
theorem wwZ (z : Int) (h0 : -4294967296 < z) (h1 : z < 4294967296) : wrap64 z = z := by unfold wrap64; omega
theorem iwZ (z : Int) (h0 : -4294967296 < z) (h1 : z < 4294967296) : IntKind.i64.wrap z = z := by rw [IntKind.wrap_i64]; omega
end Go.Pm
namespace Go.Proofs.Ytkogkcaflhjlhaa
open Go.RowKit Go.Pm
namespace L9
set_option maxRecDepth 100000 in
set_option maxHeartbeats 1000000 in
theorem tells_out (v0 v1 : Value) (lo hi : Nat) (l : List UInt8) (raw : List (List UInt8)) (m n : Int) (k : Nat) (h : List UInt8) (q : Nat) (w : World) (hl : Bs w lo hi v0 l) (hr : Rh 0 w v1 raw) (hx : 40 < l.length ∨ 12 < raw.length) : Calls Try.prog 3 #[v0, v1, .int .i64 m, .int .i64 n, .int .u8 k, hashV h, .int .u8 q] w fun e w' => e = .returned (.bool true) ∧ Kept None w w' := by
  obtain ⟨a1, c1, rfl, g11, g12, g13⟩ := hl.shape
  obtain ⟨a2, c2, rfl⟩ := hr.form
  have HK := hid (fun w => known w)
  obtain ⟨nl, hnl⟩ : ∃ n, n = l.length := ⟨_, rfl⟩
  obtain ⟨nr, hnr⟩ : ∃ n, n = raw.length := ⟨_, rfl⟩
  rw [← hnl, ← hnr] at hx
  rw [← hnl, ← hnr]
  clear hl hr g11 g13 hnl hnr
  by_cases h4 : 40 < nl
  · have h1 : decide ((40 : Int) < (nl : Int)) = true := by rw [decide_eq_true_eq]; omega
    clear hx h4
    go_enter Try.func3, Try.ntmps3
    go_wp2_with fail
    refine (HK.out _).mono ?_
    rintro e w1 ⟨rfl, k1⟩
    have K1 := hid (((Kept.refl None w).alloc (.cells (h.map u8v).toArray 25)).trans k1)
    clear k1
    go_wp2
    go_ret
    exact ⟨rfl, K1.out⟩
  · have h1 : decide ((40 : Int) < (nl : Int)) = false := by rw [decide_eq_false_iff_not]; omega
    have h2 : decide ((12 : Int) < (nr : Int)) = true := by rw [decide_eq_true_eq]; omega
    clear hx h4
    go_enter Try.func3, Try.ntmps3
    go_wp2_with fail
    refine (HK.out _).mono ?_
    rintro e w1 ⟨rfl, k1⟩
    have K1 := hid (((Kept.refl None w).alloc (.cells (h.map u8v).toArray 25)).trans k1)
    clear k1
    go_wp2
    go_ret
    exact ⟨rfl, K1.out⟩
set_option maxRecDepth 100000 in
set_option maxHeartbeats 16000000 in
theorem tells_in (v0 v1 : Value) (lo hi : Nat) (l : List UInt8) (raw : List (List UInt8)) (m n : Int) (k : Nat) (h : List UInt8) (q : Nat) (w : World) (hl : Bs w lo hi v0 l) (hr : Rh 0 w v1 raw) (hl40 : l.length ≤ 40) (hr12 : raw.length ≤ 12) (hm0 : -9223372036854775808 ≤ m) (hm1 : m < 9223372036854775808) (hn1 : n < 9223372036854775808) (hk : k < 256) (hq : q < 256) (hh : h.length = 32) :
    Calls Try.prog 3 #[v0, v1, .int .i64 m, .int .i64 n, .int .u8 k, hashV h, .int .u8 q] w fun e w' => e = .returned (.bool true) ∧ Kept None w w' := by
  have hl0 := hl
  have hr0 := hr
  obtain ⟨a1, c1, rfl, g11, g12, g13⟩ := hl.shape
  obtain ⟨ar, cr, rfl⟩ := hr.form
  have HK := hid (fun w => known w)
  obtain ⟨nl, hnl⟩ : ∃ n, n = l.length := ⟨_, rfl⟩
  obtain ⟨nr, hnr⟩ : ∃ n, n = raw.length := ⟨_, rfl⟩
  rw [← hnl] at hl0
  rw [← hnr] at hr0
  obtain ⟨HA, hHA⟩ : ∃ A : Array Value, A = (h.map u8v).toArray := ⟨_, rfl⟩
  have aHA : AggTy Try.prog 25 HA.size := by rw [hHA]; exact Hk.aH32 hh
  have sHA : HA.size = 32 := by rw [hHA]; simpa using hh
  have allHA : HA.all (·.oneCell') = true := by rw [hHA]; exact u8v_all' _
  show Calls Try.prog 3 #[.slice a1 l.length c1, .slice ar raw.length cr, .int .i64 m, .int .i64 n, .int .u8 k, .agg (h.map u8v).toArray, .int .u8 q] w _
  rw [← hnl, ← hnr, ← hHA]
  obtain ⟨x, hx⟩ : ∃ x, x = leavesL l := ⟨_, rfl⟩
  have hxl : x.length = nl := by rw [hx, hnl]; exact leavesL_len l
  have hx32 : H32 x := by rw [hx]; exact leavesK_h32 _ _
  have HLv := hid (fun w1 (k : Kept None w w1) => leaves _ _ _ l w1 (hl0.kept k (fun _ _ _ h => h)) (by omega))
  rw [← hx] at HLv
  have HR0 := hid hr0
  have HSZ := hid (And.intro sHA (And.intro allHA (And.intro hh hHA)))
  have HIN := hid (And.intro hm0 (And.intro hm1 hn1))
  have HKQ := hid (And.intro hk hq)
  have HNS := hid (And.intro hnr (And.intro (show nl ≤ 40 by omega) (show nr ≤ 12 by omega)))
  have h2 : decide ((40 : Int) < (nl : Int)) = false := by rw [decide_eq_false_iff_not]; omega
  have h3 : decide ((12 : Int) < (nr : Int)) = false := by rw [decide_eq_false_iff_not]; omega
  obtain ⟨r, hrr⟩ : ∃ r, r = rootL x := ⟨_, rfl⟩
  have r32 : r.length = 32 := by rw [hrr]; exact rootL_len hx32
  obtain ⟨XA, hXA⟩ : ∃ A : Array Value, A = (r.map u8v).toArray := ⟨_, rfl⟩
  have FRX : Hid (∀ v W, Rh 0 W v x → Calls Try.prog 15 #[v] W fun e w' => e = .returned (.agg XA) ∧ Kept None W w') := hid (fun v W h => by
    rw [hXA, hrr]; exact RLg.root x.length x v W h (Nat.le_refl _) (by omega))
  have HXA := hid (And.intro hXA r32)
  have HX := hid (And.intro hxl hx32)
  obtain ⟨M, hM⟩ : ∃ M : Nat, M = nl + 2 := ⟨_, rfl⟩
  have hM100 : M < 100 := by omega
  have zM : ¬ M = 0 := by omega
  have zMi : ¬ (M : Int) = 0 := by omega
  have hM0 : 0 < M := by omega
  have hM42 : M ≤ 42 := by omega
  have hs2 : (nl : Int) + 2 = (M : Int) := by rw [hM]; rfl
  obtain ⟨t, ht⟩ : ∃ t : Nat, t = k % M := ⟨_, rfl⟩
  have htk : t < M := by rw [ht]; exact Nat.mod_lt _ hM0
  have HT := hid (Nat.lt_of_lt_of_le htk hM42)
  have hkM : (k : Int) % (M : Int) = (t : Int) := by rw [ht]; rfl
  have hkMt : (k : Int).tmod (M : Int) = (t : Int) := by rw [ht]; rfl
  have wk : wrap64 (k : Int) = (k : Int) := wwN k (Nat.lt_of_lt_of_le hk (by decide))
  have ik : IntKind.i64.wrap (k : Int) = (k : Int) := iwN k (Nat.lt_of_lt_of_le hk (by decide))
  have hwM : wrap64 (M : Int) = (M : Int) := wwN M (Nat.lt_of_lt_of_le hM100 (by decide))
  have hiM : IntKind.i64.wrap (M : Int) = (M : Int) := iwN M (Nat.lt_of_lt_of_le hM100 (by decide))
  have k0 : Kept None w (w.alloc (.cells HA 25)) := (Kept.refl _ _).alloc _
  have b0 : Blk (w.alloc (.cells HA 25)) w.heap.size HA 25 := Blk.new w _ _
  clear hl hr hl0 hr0 g11 g13 hnl hnr hHA sHA allHA hl40 hr12 hm0 hm1 hn1 hh hk hq hx hxl hx32 hrr r32 hXA ht htk hM hM100 hM0 hM42
  go_enter Try.func3, Try.ntmps3
  go_wp2_with fail
  refine (HK.out _).mono ?_
  rintro e w1 ⟨rfl, k1⟩
  have K1 := hid (k0.trans k1)
  have BH1 := hid (b0.kept k1 (fun h => h))
  obtain ⟨gh, hgh⟩ : ∃ g, g = w.heap.size := ⟨_, rfl⟩
  rw [← hgh] at BH1 ⊢
  clear k0 k1 b0 hgh
  go_wp2_with fail
  refine (HLv.out w1 K1.out).mono ?_
  rintro e w2 ⟨u2, rfl, k2, p2⟩
  have P2 := p2.rh.mono (Nat.zero_le _)
  obtain ⟨ax, cx, rfl⟩ := P2.form
  rw [HX.out.1] at P2 ⊢
  have K2 := hid (K1.out.trans k2)
  have IX := hid P2
  have BH2 := hid (BH1.out.kept k2 (fun h => h))
  have IR := hid (HR0.out.kept K2.out)
  have gx : cx ≤ 9223372036854775807 ∧ nl ≤ cx := by
    clear hkM hkMt hs2 hwM hiM zM zMi wk ik h2 h3
    obtain ⟨hi, hv⟩ := P2
    obtain ⟨_, _, q, q1, q2, _⟩ := hv.form
    injection q with _ q0 q
    omega
  have HCX := hid gx
  clear k2 p2 P2 K1 BH1 HLv HR0 gx h2 h3
  go_wp2
  clear hkM hkMt hs2 hwM hiM zM zMi wk ik
  go_loopg [51] 2 (fun kx s51 wr => ∃ j : Nat, s51 = .int .i64 j ∧ j ≤ 2 ∧ 2 - j ≤ kx ∧ Hid (Kept None w2 wr) ∧ Hid (Blk wr w2.heap.size #[.int .i64 m, .int .i64 t] 3))
  case atStart => exact ⟨0, rfl, by omega, by omega, (Kept.refl _ _).alloc _, Blk.new _ _ _⟩
  case round =>
    obtain ⟨j, rfl, hj, hjx, HKr, HBr⟩ := hrel
    by_cases hlt : j < 2
    · have hjz : (j : Int) < 2 := by omega
      obtain ⟨wp, rfl⟩ : ∃ wp : World, wp = wr := ⟨_, rfl⟩
      obtain ⟨pl, hcell, hpl⟩ : ∃ pl : Int, wp.cell? ⟨w2.heap.size, j, none⟩ = some (.int .i64 pl) ∧ (-9223372036854775808 ≤ pl ∧ pl < 9223372036854775808) := by
        have hc := HBr.out.cell j
        have h0 : j = 0 ∨ j = 1 := by omega
        rcases h0 with rfl | rfl
        · exact ⟨m, hc, HIN.out.1, HIN.out.2.1⟩
        · exact ⟨(t : Int), hc, by omega, by have := HT.out; omega⟩
      have HPL := hid hpl
      clear hpl
      have hx40 : x.length ≤ 40 := by rw [HX.out.1]; exact HNS.out.2.1
      have f1 := fun v w hv => Gr.proveAny x pl v w hv (by omega)
      have f2 := fun v w hv => RGr.proveAny x pl v w hv (by omega)
      obtain ⟨ps, hps⟩ : ∃ y, y = proveZ x pl := ⟨_, rfl⟩
      obtain ⟨ok, hok⟩ : ∃ y, y = inG x pl := ⟨_, rfl⟩
      obtain ⟨np, hnp⟩ : ∃ y, y = ps.length := ⟨_, rfl⟩
      have hp40 : np ≤ 40 := by
        have h1 := proveZ_len x pl
        rw [← hps] at h1
        omega
      rw [← hps, ← hok] at f1 f2
      have FP := hid (And.intro f1 f2)
      have HNP := hid (And.intro hnp hp40)
      have HH := hid (fun va vb w hp hq => Hk.hashes va vb ps ps w hp hq)
      have Yp := hid (IX.out.kept HKr.out)
      clear f1 f2 hps hok hnp hp40 hx40
      go_wp2_with fail
      refine (FP.out.1 _ wp Yp.out).mono ?_
      rintro e w6 ⟨u, rfl, k6, p6⟩
      obtain ⟨a6, c6, rfl⟩ := Ho.form p6
      rw [← HNP.out.1] at p6 ⊢
      have P6 := hid (p6.rh.mono (Nat.zero_le _))
      have K6 := hid (HKr.out.trans k6)
      have Y6 := hid (Yp.out.kept k6)
      have QB6 := hid (HBr.out.kept k6 (fun h => h))
      clear k6 p6 hcell
      go_wp2_with fail
      refine (FP.out.2 _ w6 Y6.out).mono ?_
      rintro e w7 ⟨u, rfl, k7, q7⟩
      obtain ⟨a7, c7, rfl⟩ := Ho.form q7
      rw [← HNP.out.1] at q7 ⊢
      have P7 := hid (P6.out.kept k7)
      have Q7 := hid (q7.rh.mono (Nat.zero_le _))
      have K7 := hid (K6.out.trans k7)
      have QB7 := hid (QB6.out.kept k7 (fun h => h))
      clear k7 q7 P6 Y6 Yp FP K6 QB6
      go_wp2_with (first | go_skip | fail)
      refine (HH.out _ _ w7 P7.out Q7.out).mono ?_
      rintro e w8 ⟨rfl, k8⟩
      have Q8 := hid (Q7.out.kept k8)
      have K8 := hid (K7.out.trans k8)
      have QB8 := hid (QB7.out.kept k8 (fun h => h))
      have X8 := IX.out.kept K8.out
      clear k8 P7 Q7 K7 HH QB7
      obtain ⟨c0, hc0, hc0n⟩ : ∃ c0 : Nat, min (max pl 0) (nl : Int) = (c0 : Int) ∧ c0 ≤ nl := ⟨(min (max pl 0) (nl : Int)).toNat, by omega, by omega⟩
      obtain ⟨aK, sK, iK⟩ := rh_to Lg8.tHashes Lg8.zHashes X8 .i64 c0 hc0n
      have hcz : (c0 : Int) ≤ (cx : Int) := by have := HCX.out; omega
      obtain ⟨old, hold⟩ : ∃ r, r = rootL (x.take c0) := ⟨_, rfl⟩
      have old32 : old.length = 32 := by rw [hold]; exact rootL_len (HX.out.2.take _)
      obtain ⟨OA, hOA⟩ : ∃ A : Array Value, A = (old.map u8v).toArray := ⟨_, rfl⟩
      have aOA : AggTy Try.prog 25 OA.size := by rw [hOA]; exact Hk.aH32 old32
      have sOA : OA.size = 32 := by rw [hOA]; simpa using old32
      have allOA : OA.all (·.oneCell') = true := by rw [hOA]; exact u8v_all' _
      have FRO : Hid (∀ v W, Rh 0 W v (x.take c0) → Calls Try.prog 15 #[v] W fun e w' => e = .returned (.agg OA) ∧ Kept None W w') := hid (fun v W h => by
        rw [hOA, hold]; exact RLg.root (x.take c0).length (x.take c0) v W h (Nat.le_refl _) (by rw [List.length_take]; have := HNS.out; omega))
      have HOS := hid (And.intro sOA (And.intro allOA (And.intro old32 hOA)))
      have IK := hid iK
      clear sOA allOA old32 hOA hold iK X8
      go_wp2_with fail
      refine (FRO.out _ _ IK.out).mono ?_
      rintro e w9 ⟨rfl, k9⟩
      obtain ⟨z9, hz9, hZ9⟩ := Blk.any (n := 32) (Blk.new w9 #[.int .u8 0, .int .u8 0, .int .u8 0, .int .u8 0, .int .u8 0, .int .u8 0, .int .u8 0, .int .u8 0, .int .u8 0, .int .u8 0, .int .u8 0, .int .u8 0, .int .u8 0, .int .u8 0, .int .u8 0, .int .u8 0, .int .u8 0, .int .u8 0, .int .u8 0, .int .u8 0, .int .u8 0, .int .u8 0, .int .u8 0, .int .u8 0, .int .u8 0, .int .u8 0, .int .u8 0, .int .u8 0, .int .u8 0, .int .u8 0, .int .u8 0, .int .u8 0] 25) (by rfl)
      have E9 := hid (hz9.trans HOS.out.1.symm)
      clear hz9 sK
      go_upto_region 14 with (first | (refine wpList_store_blk rfl _ _ _ rfl rfl rfl hZ9 aOA E9.out HOS.out.2.1 ?_; intro ws h22 ks; have k9s := ks.fresh) | fail)
      have KS := hid (K8.out.trans (k9.trans k9s))
      have QS := hid (Q8.out.kept (k9.trans k9s))
      have BS := hid h22
      have QBS := hid (QB8.out.kept (k9.trans k9s) (fun h => h))
      obtain ⟨g22, hg22⟩ : ∃ g, g = w9.heap.size := ⟨_, rfl⟩
      rw [← hg22] at BS ⊢
      have BHS := hid (BH2.out.kept KS.out (fun h => h))
      clear k9 k9s ks hZ9 E9 h22 hg22 Q8 K8 IK hcz hc0 hc0n QB8
      obtain ⟨q3, hq3⟩ : ∃ x : Nat, x = q % 3 := ⟨_, rfl⟩
      have m3 : (q : Int).tmod 3 = (q3 : Int) := by rw [hq3]; rfl
      have m3p : (q : Int) % 3 = (q3 : Int) := by rw [hq3]; rfl
      obtain ⟨bz, hbz⟩ : ∃ x : Bool, x = ((q3 : Int) == 0) := ⟨_, rfl⟩
      have m3b : ((q3 : Int) == 0) = bz := hbz.symm
      have m3c : ((q : Int).tmod 3 == 0) = bz := by rw [m3, hbz]
      have lq3 : q3 < 3 := by rw [hq3]; exact Nat.mod_lt _ (by decide)
      have wq3 : wrap64 (q3 : Int) = (q3 : Int) := wwN q3 (Nat.lt_of_lt_of_le lq3 (by decide))
      have HQ3 := hid lq3
      have HM3 := hid (And.intro m3 m3p)
      clear hq3 lq3 hbz
      have HQs : Hid (∃ hi, Hs ws 0 hi (.slice a7 np c7) ps) := QS
      obtain ⟨hiq, hPs⟩ := HQs.out
      have HPS := hid hPs
      clear hPs HQs
      go_upto_if 88 with (first | (at_builtin; refine wpList_append_po rfl _ _ 23 rfl Hk.rtHashes (by decide) rfl rfl (Po.nil 32 25 ws ws.heap.size) HPS.out.2 (hsC_each1 HPS.out.1) (by rw [hsC_len]; have := HNP.out; simp; omega) (Nat.le_refl _) ?_; intro a9 n9 c9 wb p9 k9 o9) | fail)
      have HO9 : Ho 25 wb ws.heap.size (.slice a9 n9 c9) ps := ⟨HPS.out.1, by simpa using p9⟩
      have hn9 : n9 = np := by
        obtain ⟨_, _, h⟩ := HO9.form
        injection h with _ h
        rw [h, HNP.out.1]
      subst hn9
      have HO := hid HO9
      have KB : Hid (Kept None ws wb) := hid (k9.mono (T := None) (fun q _ h => by cases h))
      have BHB := hid (BHS.out.kept KB.out (fun h => h))
      have HSB : Hid (ws.heap.size ≤ wb.heap.size) := hid k9.size
      clear p9 k9 o9 HO9 HPS
      have ka : Kept None wb (wb.alloc (.cells HA 25)) := (Kept.refl _ _).alloc _
      have HO10 := hid (HO.out.kept ka (fun _ _ h => h))
      have hrow := Blk.new wb HA 25
      rw [HSZ.out.2.2.2] at hrow
      have HU10 := hid (Hs.ofBlk hrow HSZ.out.2.2.1)
      rw [← HSZ.out.2.2.2] at HU10
      have KA := hid ka
      clear ka hrow
      go_cut [23] (fun s23 wx => ∃ (ab : Option Addr) (mb cb : Nat) (bs : List (List UInt8)), s23 = .slice ab mb cb ∧ Hid (bs.length = mb ∧ mb ≤ 60) ∧ Hid (Rh 0 wx (.slice ab mb cb) bs) ∧ Hid (Kept None ws wx))
      case first =>
        cases bz with
        | true =>
          go_wp2_with (first | (refine wpList_load_blk rfl _ _ rfl rfl BHB.out aHA ?_) | (refine wpList_one_item rfl _ _ rfl Hk.rtHashes (by decide) rfl HSZ.out.1 ?_) | (at_builtin; refine wpList_append_po rfl _ _ 23 rfl Hk.rtHashes (by decide) rfl rfl HO10.out.2 HU10.out.2 (hsC_one _) (by rw [hsC_len, hsC_len]; have := HNP.out; simp; omega) (Nat.le_trans HSB.out KA.out.size) ?_; intro a11 n11 c11 w11 p11 k11 o11) | fail)
          have hown := HO10.out.2.own
          have HO11 : Ho 25 w11 ws.heap.size (.slice a11 n11 c11) (ps ++ [h]) := ⟨HO10.out.1.append (H32.one HSZ.out.2.2.1), by rw [hsC_append]; exact p11⟩
          have hn11 : n11 = n9 + 1 := by
            obtain ⟨_, _, h⟩ := HO11.form
            injection h with _ h
            rw [h, List.length_append, HNP.out.1]; rfl
          subst hn11
          have KE : Hid (Kept None ws w11) := hid ((KB.out.trans KA.out).then k11 (fun q hq h => by have := (hown q h).1; omega))
          go_meet
          exact ⟨_, _, _, ps ++ [h], rfl, hid (by rw [List.length_append, ← HNP.out.1]; have := HNP.out.2; constructor; rfl; omega), hid (HO11.rh.mono (Nat.zero_le _)), KE⟩
        | false =>
          by_cases h0 : n9 = 0
          · subst h0
            go_wp2_with fail
            go_meet
            exact ⟨_, _, _, ps, rfl, hid ⟨HNP.out.1.symm, by decide⟩, hid (HO.out.rh.mono (Nat.zero_le _)), KB⟩
          · obtain ⟨gb, hgb⟩ : ∃ g, a9 = some ⟨g, 0, none⟩ := by
              rcases HO.out.2.2.2 with ⟨_, h1⟩ | ⟨g, _, _, h1, _⟩
              · rw [hsC_len] at h1
                exact absurd (HNP.out.1.trans h1) h0
              · injection h1 with h1
                exact ⟨g, h1⟩
            subst hgb
            have h0p : (0 : Int) < (n9 : Int) := by clear m3 m3p m3b m3c wq3; omega
            have h0n : 0 < n9 := by clear m3 m3p m3b m3c wq3; omega
            obtain ⟨ix, hix⟩ : ∃ x : Nat, x = q % n9 := ⟨_, rfl⟩
            have lix : ix < n9 := by rw [hix]; exact Nat.mod_lt _ h0n
            have lixz : (ix : Int) < (n9 : Int) := Int.ofNat_lt.2 lix
            have mi : (q : Int) % (n9 : Int) = (ix : Int) := by rw [hix]; rfl
            have mit : (q : Int).tmod (n9 : Int) = (ix : Int) := by rw [hix]; rfl
            have wq : IntKind.i64.wrap (q : Int) = (q : Int) := iwN q (Nat.lt_of_lt_of_le HKQ.out.2 (by decide))
            have HIX := hid lix
            clear hix lix
            go_wp2_with fail
            have hs : Steady [] := Go.Pm.Steady.nil
            refine wp_region_kn_tail 8 wb _ hs (Kept.refl _ _) (by kernel_rfl) (by kernel_rfl) (by kernel_rfl) ?_
            simp only [List.take_succ_cons, List.take_zero, List.drop_succ_cons, List.drop_zero]
            iterate 6 (refine wpPar_pure rfl (by rfl) _ (fun W hW => by
                go_simp
                exact rfl) ?_; simp only [Act.put, List.setIfInBounds_toArray, List.set_cons_zero, List.set_cons_succ])
            refine wpPar_pure rfl (by rfl) _ (fun W hW => by first | exact exec_load_blk _ _ rfl rfl (BHB.out.kept hW (fun h => h)) aHA | (go_simp; exact rfl)) ?_; simp only [Act.put, List.setIfInBounds_toArray, List.set_cons_zero, List.set_cons_succ]
            iterate 1 (refine wpPar_pure rfl (by rfl) _ (fun W hW => by
                go_simp
                exact rfl) ?_; simp only [Act.put, List.setIfInBounds_toArray, List.set_cons_zero, List.set_cons_succ])
            refine wpPar_nil (fun W hW hG => ?_)
            have HOW := hid (HO.out.kept hW (fun _ _ h => h))
            have KW := hid (KB.out.trans hW)
            clear hG hs hW mi mit wq
            go_wp2_with (first | (refine wpList_store_hash rfl _ _ _ rfl HOW.out (by rw [← HNP.out.1]; exact HIX.out) HSZ.out.2.2.1 rfl (by rw [← HSZ.out.2.2.2]; rfl) Sp.aH ?_; intro w11 p11 k11) | fail)
            have KE : Hid (Kept None ws w11) := hid (KW.out.then k11 (fun q hq h => by have h : q = gb := h; have h1 := (HO.out.2.own gb rfl).1; omega))
            go_meet
            exact ⟨_, _, _, ps.set ix h, rfl, hid ⟨by rw [List.length_set, HNP.out.1], by have := HNP.out.2; omega⟩, hid (p11.rh.mono (Nat.zero_le _)), KE⟩
      case rest =>
        obtain ⟨ab, mb, cb, bs, rfl, HMB, RB, KC⟩ := hcut
        clear HO KB HSB BHB HO10 HU10 KA m3 m3p m3b m3c
        obtain ⟨wC, rfl⟩ : ∃ wC : World, wC = wc := ⟨_, rfl⟩
        have QC := hid (QS.out.kept KC.out)
        have BC := hid (BS.out.kept KC.out (fun h => h))
        have KwC := hid (KS.out.trans KC.out)
        clear QS BS BHS
        go_wp2_with fail
        go_loopg [109] 4 (fun kx s109 wr => ∃ j3 : Nat, s109 = .int .i64 j3 ∧ j3 ≤ 4 ∧ 4 - j3 ≤ kx ∧ Hid (Kept None wC wr) ∧ Hid (Blk wr wC.heap.size #[.slice a7 n9 c7, .slice ab mb cb, .slice ar nr cr, .slice none 0 0] 23))
        case atStart => exact ⟨0, rfl, by omega, by omega, (Kept.refl _ _).alloc _, Blk.new _ _ _⟩
        case round =>
          obtain ⟨j3, rfl, hj3, hjx3, HKr3, HBr3⟩ := hrel
          by_cases hlt3 : j3 < 4
          · have hjz3 : (j3 : Int) < 4 := by omega
            obtain ⟨wd, rfl⟩ : ∃ wd : World, wd = wr := ⟨_, rfl⟩
            have KWD := hid (KwC.out.trans HKr3.out)
            obtain ⟨zs, za, zn, zc, hcell3, hzs⟩ : ∃ (zs : List (List UInt8)) (za : Option Addr) (zn zc : Nat), wd.cell? ⟨wC.heap.size, j3, none⟩ = some (.slice za zn zc) ∧ ((zs.length = zn ∧ zn ≤ 60) ∧ Rh 0 wd (.slice za zn zc) zs) := by
              have hc := HBr3.out.cell j3
              have h0 : j3 = 0 ∨ j3 = 1 ∨ j3 = 2 ∨ j3 = 3 := by omega
              rcases h0 with rfl | rfl | rfl | rfl
              · exact ⟨ps, a7, n9, c7, hc, ⟨HNP.out.1.symm, by have := HNP.out.2; omega⟩, QC.out.kept HKr3.out⟩
              · exact ⟨bs, ab, mb, cb, hc, HMB.out, RB.out.kept HKr3.out⟩
              · exact ⟨raw, ar, nr, cr, hc, ⟨HNS.out.1.symm, by have := HNS.out; omega⟩, IR.out.kept KWD.out⟩
              · exact ⟨[], none, 0, 0, hc, ⟨rfl, by decide⟩, Rh.nil _ _⟩
            have HZS := hid hzs
            have hN3 : (nl : Int) + (q3 : Int) = ((nl + q3 : Nat) : Int) := rfl
            obtain ⟨N2, hN2⟩ : ∃ N2 : Nat, N2 = nl + q3 := ⟨_, rfl⟩
            rw [← hN2] at hN3
            have lN2 : N2 ≤ 60 := by rw [hN2]; exact Nat.le_trans (Nat.add_le_add HNS.out.2.1 (Nat.le_of_lt HQ3.out)) (by decide)
            obtain ⟨N3, hN3d⟩ : ∃ N3 : Int, N3 = (N2 : Int) - 1 := ⟨_, rfl⟩
            have lN3 : -4294967296 < N3 ∧ N3 < 4294967296 := by clear hN3 wq3; omega
            have lN3' : N3 < 9223372036854775808 := by clear hN3 wq3; omega
            have r1 : wrap64 (N2 : Int) = (N2 : Int) := wwN N2 (Nat.lt_of_le_of_lt lN2 (by decide))
            have r2 : (N2 : Int) - 1 = N3 := hN3d.symm
            have r3 : wrap64 N3 = N3 := wwZ N3 lN3.1 lN3.2
            have m3 := HM3.out.1
            have m3p := HM3.out.2
            have HN3 := hid lN3'
            clear hzs hN2 lN2 hN3d lN3 lN3'
            go_wp2_with fail
            simp only [wq3]
            clear hN3 r1 r2 r3 m3 m3p wq3
            go_loopg [125] 3 (fun kx s125 wr => ∃ j4 : Nat, s125 = .int .i64 j4 ∧ j4 ≤ 3 ∧ 3 - j4 ≤ kx ∧ Hid (Kept None wd wr) ∧ Hid (Blk wr wd.heap.size #[.int .i64 nl, .int .i64 n, .int .i64 N3] 3))
            case atStart => exact ⟨0, rfl, by omega, by omega, (Kept.refl _ _).alloc _, Blk.new _ _ _⟩
            case round =>
              obtain ⟨j4, rfl, hj4, hjx4, HKr4, HBr4⟩ := hrel
              by_cases hlt4 : j4 < 3
              · have hjz4 : (j4 : Int) < 3 := by omega
                obtain ⟨wg, rfl⟩ : ∃ wg : World, wg = wr := ⟨_, rfl⟩
                obtain ⟨cn, hcell4, hcn⟩ : ∃ cn : Int, wg.cell? ⟨wd.heap.size, j4, none⟩ = some (.int .i64 cn) ∧ cn < 9223372036854775808 := by
                  have hc := HBr4.out.cell j4
                  have h0 : j4 = 0 ∨ j4 = 1 ∨ j4 = 2 := by omega
                  rcases h0 with rfl | rfl | rfl
                  · exact ⟨(nl : Int), hc, Int.lt_of_le_of_lt (Int.ofNat_le.2 HNS.out.2.1) (by decide)⟩
                  · exact ⟨n, hc, HIN.out.2.2⟩
                  · exact ⟨N3, hc, HN3.out⟩
                have HCN := hid hcn
                have KWG := hid (KWD.out.trans HKr4.out)
                have BOg := hid (BC.out.kept (HKr3.out.trans HKr4.out) (fun h => h))
                have BHg := hid (BH2.out.kept KWG.out (fun h => h))
                clear hcn
                go_wp2_with (first | (refine wpList_load_blk rfl _ _ rfl rfl BOg.out aOA ?_) | (refine wpList_load_blk rfl _ _ rfl rfl BHg.out aHA ?_) | (refine wpList_two_hash rfl _ _ _ rfl Hk.rtHashes rfl rfl HOS.out.1 HSZ.out.1 ?_) | fail)
                have row := Blk.new wg (OA ++ HA) 25
                rw [HOS.out.2.2.2, HSZ.out.2.2.2] at row
                have KG1 : Hid (Kept None wg (wg.alloc (.cells (OA ++ HA) 25))) := hid ((Kept.refl _ _).alloc _)
                have two : Hid (Rh 0 (wg.alloc (.cells (OA ++ HA) 25)) (.slice (some ⟨wg.heap.size, 0, none⟩) 2 2) [old, h]) := hid (by rw [HOS.out.2.2.2, HSZ.out.2.2.2]; exact ⟨_, (Hs.two row HOS.out.2.2.1 HSZ.out.2.2.1).wider' (Nat.zero_le _)⟩)
                clear row hcell4 BOg BHg
                go_loopg [133] 2 (fun kx s133 wr => ∃ j5 : Nat, s133 = .int .i64 j5 ∧ j5 ≤ 2 ∧ 2 - j5 ≤ kx ∧ Hid (Kept None wg wr) ∧ Hid (Rh 0 wr (.slice (some ⟨wg.heap.size, 0, none⟩) 2 2) [old, h]))
                case atStart => exact ⟨0, rfl, Nat.zero_le _, Nat.le_refl _, KG1.out, two.out⟩
                case round =>
                  clear KG1 two
                  obtain ⟨j5, rfl, hj5, hjx5, HKr5, HBr5⟩ := hrel
                  by_cases hlt5 : j5 < 2
                  · have hjz5 : (j5 : Int) < 2 := by omega
                    obtain ⟨wh, rfl⟩ : ∃ wh : World, wh = wr := ⟨_, rfl⟩
                    obtain ⟨lf, lf32, rl⟩ : ∃ lf : List UInt8, lf.length = 32 ∧ wh.rangeAt wg.heap.size (j5 * 32) (lf.map u8v) := by
                      obtain ⟨hi, hv⟩ := HBr5.out
                      obtain ⟨b', o, e1, e2⟩ := hv.at (i := j5) hlt5
                      injection e1 with e1
                      injection e1 with e1 e3
                      rw [← e1, ← e3, Nat.zero_add] at e2
                      exact ⟨_, hv.1 _ (List.getElem_mem hlt5), e2⟩
                    obtain ⟨CL, hCL⟩ : ∃ C : List Value, C = lf.map u8v := ⟨_, rfl⟩
                    obtain ⟨LA, hLA⟩ : ∃ A : Array Value, A = CL.toArray := ⟨_, rfl⟩
                    rw [← hCL] at rl
                    have aL : AggTy Try.prog 25 CL.length := by rw [hCL]; exact Hk.aH32' lf32
                    have aLA : AggTy Try.prog 25 LA.size := by rw [hLA, hCL]; exact Hk.aH32 lf32
                    have sLA : LA.size = 32 := by rw [hLA, hCL]; simpa using lf32
                    have allL : LA.all (·.oneCell') = true := by rw [hLA, hCL]; exact u8v_all' _
                    have RL := hid rl
                    have HLA := hid hLA
                    have HLE := hid (And.intro (show LA = (lf.map u8v).toArray by rw [hLA, hCL]) (And.intro lf32 (And.intro sLA allL)))
                    obtain ⟨zh, hzh, hZh⟩ := Blk.any (n := 32) (Blk.new wh #[.int .u8 0, .int .u8 0, .int .u8 0, .int .u8 0, .int .u8 0, .int .u8 0, .int .u8 0, .int .u8 0, .int .u8 0, .int .u8 0, .int .u8 0, .int .u8 0, .int .u8 0, .int .u8 0, .int .u8 0, .int .u8 0, .int .u8 0, .int .u8 0, .int .u8 0, .int .u8 0, .int .u8 0, .int .u8 0, .int .u8 0, .int .u8 0, .int .u8 0, .int .u8 0, .int .u8 0, .int .u8 0, .int .u8 0, .int .u8 0, .int .u8 0, .int .u8 0] 25) (by rfl)
                    have Eh := hid (hzh.trans sLA.symm)
                    clear hCL hLA lf32 sLA allL rl hzh
                    go_upto_region 28 with (first | (refine wpList_load_at rfl _ _ rfl rfl RL.out aL ?_; rw [← HLA.out]) | (refine wpList_store_blk rfl _ _ _ rfl rfl rfl hZh aLA Eh.out HLE.out.2.2.2 ?_; intro we he ke; have khe := ke.fresh) | fail)
                    have KHE := hid khe
                    have KWE := hid (KWG.out.trans (HKr5.out.trans khe))
                    have Ze := hid (HZS.out.2.kept (HKr4.out.trans (HKr5.out.trans khe)))
                    have Xe := hid (IX.out.kept KWE.out)
                    have BLe := he
                    have hz60 : zs.length ≤ 549755813888 := by have := HZS.out.1; omega
                    have f1 := fun W hv => Gr.check lf r zs pl cn (.slice za zn zc) W HLE.out.2.1 HXA.out.2 hv hz60 HCN.out
                    have f2 := fun W hv => RGr.grown lf r zs pl cn (.slice za zn zc) W HLE.out.2.1 HXA.out.2 hv hz60 HCN.out
                    obtain ⟨bC, hbC⟩ : ∃ y, y = grownL lf r pl cn zs := ⟨_, rfl⟩
                    rw [← hbC] at f1 f2
                    simp only [hashV, ← HXA.out.1, ← HLE.out.1] at f1 f2
                    have FC := hid (And.intro f1 f2)
                    clear f1 f2 hbC hz60 ke khe he hZh Eh RL aL
                    simp only [Act.put]
                    have hs : Steady [.val 2 (.agg XA), .val 6 (.bool bC), .val 9 (.agg XA), .val 13 (.bool bC)] := Go.Pm.Steady.val (Go.Pm.Steady.val (Go.Pm.Steady.val (Go.Pm.Steady.val (Go.Pm.Steady.nil))))
                    refine wp_region_kn we _ hs (Kept.refl _ _) (by kernel_rfl) (by kernel_rfl) (by kernel_rfl) ?_
                    refine wpPar_pure rfl (by rfl) _ (fun W hW => by first | exact exec_load_blk _ _ rfl rfl (BLe.kept hW (fun h => h)) aLA | (have q1 : (bC != bC) = false := by cases bC <;> rfl; go_simp; exact rfl)) ?_; simp only [Act.put, List.setIfInBounds_toArray, List.set_cons_zero, List.set_cons_succ]
                    iterate 1 (refine wpPar_pure rfl (by rfl) _ (fun W hW => by
                        have q1 : (bC != bC) = false := by cases bC <;> rfl
                        go_simp
                        exact rfl) ?_; simp only [Act.put, List.setIfInBounds_toArray, List.set_cons_zero, List.set_cons_succ])
                    refine wpKn_adds hs rfl (by rfl) (fun W hW hd => ?_) (fun v2 hv => ?_)
                    · unfold Gives
                      go_simp
                      refine gives_call (FRX.out _ W (Xe.out.kept hW)) ?_
                      rintro e w3 ⟨rfl, k3⟩
                      exact ⟨_, rfl, k3, rfl, trivial⟩
                    obtain rfl : v2 = .agg XA := hv
                    simp only [Act.put, List.setIfInBounds_toArray, List.set_cons_zero, List.set_cons_succ]
                    iterate 3 (refine wpPar_pure rfl (by rfl) _ (fun W hW => by
                        have q1 : (bC != bC) = false := by cases bC <;> rfl
                        go_simp
                        exact rfl) ?_; simp only [Act.put, List.setIfInBounds_toArray, List.set_cons_zero, List.set_cons_succ])
                    refine wpKn_adds hs rfl (by rfl) (fun W hW hd => ?_) (fun v6 hv => ?_)
                    · unfold Gives
                      go_simp
                      refine gives_call (FC.out.1 W (Ze.out.kept hW)) ?_
                      rintro e w3 ⟨rfl, k3⟩
                      exact ⟨_, rfl, k3, rfl, trivial⟩
                    obtain rfl : v6 = .bool bC := hv
                    simp only [Act.put, List.setIfInBounds_toArray, List.set_cons_zero, List.set_cons_succ]
                    refine wpPar_pure rfl (by rfl) _ (fun W hW => by first | exact exec_load_blk _ _ rfl rfl (BLe.kept hW (fun h => h)) aLA | (have q1 : (bC != bC) = false := by cases bC <;> rfl; go_simp; exact rfl)) ?_; simp only [Act.put, List.setIfInBounds_toArray, List.set_cons_zero, List.set_cons_succ]
                    iterate 1 (refine wpPar_pure rfl (by rfl) _ (fun W hW => by
                        have q1 : (bC != bC) = false := by cases bC <;> rfl
                        go_simp
                        exact rfl) ?_; simp only [Act.put, List.setIfInBounds_toArray, List.set_cons_zero, List.set_cons_succ])
                    refine wpKn_adds hs rfl (by rfl) (fun W hW hd => ?_) (fun v9 hv => ?_)
                    · unfold Gives
                      go_simp
                      refine gives_call (FRX.out _ W (Xe.out.kept hW)) ?_
                      rintro e w3 ⟨rfl, k3⟩
                      exact ⟨_, rfl, k3, rfl, trivial⟩
                    obtain rfl : v9 = .agg XA := hv
                    simp only [Act.put, List.setIfInBounds_toArray, List.set_cons_zero, List.set_cons_succ]
                    iterate 3 (refine wpPar_pure rfl (by rfl) _ (fun W hW => by
                        have q1 : (bC != bC) = false := by cases bC <;> rfl
                        go_simp
                        exact rfl) ?_; simp only [Act.put, List.setIfInBounds_toArray, List.set_cons_zero, List.set_cons_succ])
                    refine wpKn_adds hs rfl (by rfl) (fun W hW hd => ?_) (fun v13 hv => ?_)
                    · unfold Gives
                      go_simp
                      refine gives_call (FC.out.2 W (Ze.out.kept hW)) ?_
                      rintro e w3 ⟨rfl, k3⟩
                      exact ⟨_, rfl, k3, rfl, trivial⟩
                    obtain rfl : v13 = .bool bC := hv
                    simp only [Act.put, List.setIfInBounds_toArray, List.set_cons_zero, List.set_cons_succ]
                    iterate 1 (refine wpPar_pure rfl (by rfl) _ (fun W hW => by
                        have q1 : (bC != bC) = false := by cases bC <;> rfl
                        go_simp
                        exact rfl) ?_; simp only [Act.put, List.setIfInBounds_toArray, List.set_cons_zero, List.set_cons_succ])
                    refine wpPar_nil (fun W hW hG => ?_)
                    have KR := hid (HKr5.out.trans (KHE.out.trans hW))
                    have BR := hid (HBr5.out.kept (KHE.out.trans hW))
                    clear hG hs hW FC Ze Xe BLe KWE KHE
                    go_wp2
                    go_roundg (2 - (j5 + 1))
                    case measure => omega
                    case rel => exact ⟨j5 + 1, by go_num, by omega, Nat.le_refl _, KR, BR⟩
                  · have hjz5 : ¬ (j5 : Int) < 2 := by omega
                    go_wp2
                    go_roundg (3 - (j4 + 1))
                    case measure => omega
                    case rel => exact ⟨j4 + 1, by go_num, by omega, Nat.le_refl _, hid (HKr4.out.trans HKr5.out), hid (HBr4.out.kept HKr5.out (fun h => h))⟩
              · have hjz4 : ¬ (j4 : Int) < 3 := by omega
                go_wp2
                go_roundg (4 - (j3 + 1))
                case measure => omega
                case rel => exact ⟨j3 + 1, by go_num, by omega, Nat.le_refl _, hid (HKr3.out.trans HKr4.out), hid (HBr3.out.kept HKr4.out (fun h => h))⟩
          · have hjz3 : ¬ (j3 : Int) < 4 := by clear wq3; omega
            go_wp2
            go_roundg (2 - (j + 1))
            case measure => clear wq3; omega
            case rel => exact ⟨j + 1, by go_num, by clear wq3; omega, Nat.le_refl _, hid (KwC.out.trans HKr3.out), hid (QBS.out.kept (KC.out.trans HKr3.out) (fun h => h))⟩
    · have hjz : ¬ (j : Int) < 2 := by omega
      go_wp2
      go_ret
      exact ⟨rfl, K2.out.trans HKr.out⟩
/-- GrowTells. -/
theorem tells (v0 v1 : Value) (lo hi : Nat) (l : List UInt8) (raw : List (List UInt8)) (m n : Int) (k : Nat) (h : List UInt8) (q : Nat) (w : World) (hl : Bs w lo hi v0 l) (hr : Rh 0 w v1 raw) (bm0 : -9223372036854775808 ≤ m) (bm1 : m < 9223372036854775808) (_bn0 : -9223372036854775808 ≤ n) (bn1 : n < 9223372036854775808) (hk : k < 256) (hh : h.length = 32) (hq : q < 256) :
    Calls Try.prog 3 #[v0, v1, .int .i64 m, .int .i64 n, .int .u8 k, hashV h, .int .u8 q] w fun e w' => e = .returned (.bool true) ∧ Kept None w w' := by
  by_cases hx : 40 < l.length ∨ 12 < raw.length
  · exact tells_out v0 v1 lo hi l raw m n k h q w hl hr hx
  · exact tells_in v0 v1 lo hi l raw m n k h q w hl hr (by omega) (by omega) bm0 bm1 bn1 hk hq hh
end L9
end Go.Proofs.Ytkogkcaflhjlhaa
