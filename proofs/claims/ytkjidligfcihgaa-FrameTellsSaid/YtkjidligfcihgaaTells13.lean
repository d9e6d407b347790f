/- postmarklaw13.FrameTells: true, over frame's contracts. -/
import Derived.Test.YtkjidligfcihgaaTurned13
import Derived.Deep.CutRange
import Derived.Deep.QuietTactic
namespace Go.Proofs.Ytkjidligfcihgaa
open Go.RowKit Go.Pm
namespace K13
open Fm
theorem wrap_in (x : Int) : -9223372036854775808 ≤ IntKind.i64.wrap x ∧ IntKind.i64.wrap x < 9223372036854775808 := by rw [IntKind.wrap_i64]; omega
theorem wrap64_in (x : Int) : -9223372036854775808 ≤ wrap64 x ∧ wrap64 x < 9223372036854775808 := by unfold wrap64; omega
theorem wrap64_nat {n : Nat} (h : n < 65536) : wrap64 (n : Int) = (n : Int) := by unfold wrap64; omega
theorem and_in (x y : Int) : -9223372036854775808 ≤ bits .and .i64 x y ∧ bits .and .i64 x y < 9223372036854775808 := wrap_in _
theorem putFE_in (k s : Int) (b : List UInt8) : putFE k s b = 0 ∨ putFE k s b = 22 ∨ putFE k s b = 23 := by
  unfold putFE
  split
  · exact .inr (.inr rfl)
  · split
    · exact .inr (.inl rfl)
    · exact .inl rfl
theorem putFL_len (k s : Int) (b : List UInt8) : (putFL k s b).length ≤ 21 + b.length := by
  unfold putFL
  split
  · rw [putF_len]; exact Nat.le_refl _
  · exact Nat.zero_le _
/-- One of three. -/
theorem of_three {α : Type} {p : α → Prop} {a b c : α} (ha : p a) (hb : p b) (hc : p c) (i : Nat) (h : i < 3) : ∃ x, (#[a, b, c] : Array α)[i]? = some x ∧ p x := by
  rcases i with _ | _ | _ | i
  · exact ⟨a, rfl, ha⟩
  · exact ⟨b, rfl, hb⟩
  · exact ⟨c, rfl, hc⟩
  · exact absurd h (by omega)
theorem of_two {α : Type} {p : α → Prop} {a b : α} (ha : p a) (hb : p b) (i : Nat) (h : i < 2) : ∃ x, (#[a, b] : Array α)[i]? = some x ∧ p x := by
  rcases i with _ | _ | i
  · exact ⟨a, rfl, ha⟩
  · exact ⟨b, rfl, hb⟩
  · exact absurd h (by omega)
/-- A slice that reads as at most 300 bytes. -/
def IsRow (W : World) (v : Value) : Prop := ∃ (L : List UInt8) (a : Option Addr) (c : Nat), v = .slice a L.length c ∧ L.length ≤ 300 ∧ Bs W 0 W.heap.size (.slice a L.length c) L
def IsI64 (v : Value) : Prop := ∃ k : Int, v = .int .i64 k ∧ -9223372036854775808 ≤ k ∧ k < 9223372036854775808
set_option maxRecDepth 100000 in
set_option maxHeartbeats 16000000 in
theorem tells (hP : PutC) (hR : ReadC) (kind seq : Int) (at_ x how : Nat) (v2 v3 : Value) (lo hi lo' hi' : Nat) (body raw : List UInt8) (w : World) (hk0 : -9223372036854775808 ≤ kind ∧ kind < 9223372036854775808) (hs0 : -9223372036854775808 ≤ seq ∧ seq < 9223372036854775808) (hat : at_ < 65536) (hx : x < 256) (hhow : how < 256) (hv2 : Bs w lo hi v2 body) (hv3 : Bs w lo' hi' v3 raw) :
    Calls Try.prog 3 #[.int .i64 kind, .int .i64 seq, v2, v3, .int .u16 (at_ : Int), .int .u8 (x : Int), .int .u8 (how : Int)] w fun e w' => e = .returned (.bool true) ∧ Kept None w w' := by
  obtain ⟨a2, c2, rfl, _⟩ := hv2.shape
  obtain ⟨a3, c3, rfl, _⟩ := hv3.shape
  have HK := hid (fun W => known hP hR W)
  by_cases hl : body.length ≤ 100 ∧ raw.length ≤ 100
  · have dl : decide ((100 : Int) < (body.length : Int)) = false := by simp; omega
    have dl2 : decide (100 < body.length) = false := by simp; omega
    have dr : decide ((100 : Int) < (raw.length : Int)) = false := by simp; omega
    have dr2 : decide (100 < raw.length) = false := by simp; omega
    obtain ⟨q1, hq1⟩ : ∃ q, q = bits .and .i64 kind 255 := ⟨_, rfl⟩
    obtain ⟨q2, hq2⟩ : ∃ q, q = bits .and .i64 kind 3 := ⟨_, rfl⟩
    obtain ⟨q3, hq3⟩ : ∃ q, q = wrap64 (q2 + 1) := ⟨_, rfl⟩
    obtain ⟨t1, ht1⟩ : ∃ q, q = bits .and .i64 seq 255 := ⟨_, rfl⟩
    have HI := hid (show IsI64 (.int .i64 kind) ∧ IsI64 (.int .i64 q1) ∧ IsI64 (.int .i64 q3) from ⟨⟨_, rfl, hk0⟩, ⟨_, rfl, by rw [hq1]; exact and_in _ _⟩, ⟨_, rfl, by rw [hq3]; exact wrap64_in _⟩⟩)
    have HJ := hid (show IsI64 (.int .i64 seq) ∧ IsI64 (.int .i64 t1) from ⟨⟨_, rfl, hs0⟩, ⟨_, rfl, by rw [ht1]; exact and_in _ _⟩⟩)
    have r1 := hq1.symm
    have r2 := hq2.symm
    have r3 := hq3.symm
    have r4 := ht1.symm
    have HL := hid hl
    have HV2 := hid hv2.all
    have HV3 := hid hv3.all
    have HB := hid (And.intro hat (And.intro hx hhow))
    have HP := hid hP
    have HR := hid hR
    clear hl hv2 hv3 hat hx hhow hP hR hk0 hs0 hq1 hq2 hq3 ht1
    go_enter Try.func3, Try.ntmps3
    go_wp2_with fail
    refine (HK.out w).mono ?_
    rintro e w1 ⟨rfl, k1⟩
    have K1 := hid k1
    clear k1 HK
    go_wp2_with fail
    simp only [r3]
    clear r3
    go_loopg [54] 3 (fun kx s54 wr => ∃ i : Nat, s54 = .int .i64 (i : Int) ∧ i ≤ 3 ∧ 3 - i ≤ kx ∧ Hid (Kept None w wr) ∧ Hid (Blk wr w1.heap.size #[.int .i64 kind, .int .i64 q1, .int .i64 q3] 3))
    case atStart => exact ⟨0, rfl, by omega, by omega, hid (K1.out.alloc _), hid (Blk.new _ _ _)⟩
    case round =>
    obtain ⟨i, rfl, hi, hix, HS, HA⟩ := hrel
    by_cases hlt : i < 3
    · have hiz : (i : Int) < 3 := by omega
      obtain ⟨cx, hcx, k, rfl, hk0, hk1⟩ := of_three (p := IsI64) HI.out.1 HI.out.2.1 HI.out.2.2 i hlt
      have hca := HA.out.cell i
      rw [hcx] at hca
      have HKB := hid (And.intro hk0 hk1)
      clear hcx hk0 hk1
      go_wp2_with fail
      obtain ⟨wo, rfl⟩ : ∃ wo : World, wo = wr := ⟨_, rfl⟩
      clear hca
      go_loopg [63] 2 (fun kx s63 wr => ∃ j : Nat, s63 = .int .i64 (j : Int) ∧ j ≤ 2 ∧ 2 - j ≤ kx ∧ Hid (Kept None wo wr) ∧ Hid (Blk wr wo.heap.size #[.int .i64 seq, .int .i64 t1] 2))
      case atStart => exact ⟨0, rfl, by omega, by omega, hid ((Kept.refl _ _).alloc _), hid (Blk.new _ _ _)⟩
      case round =>
      obtain ⟨j, rfl, hj, hjx, HS2, HA2⟩ := hrel
      by_cases hlt2 : j < 2
      · have hjz : (j : Int) < 2 := by omega
        obtain ⟨cx, hcx, s, rfl, hs0, hs1⟩ := of_two (p := IsI64) HJ.out.1 HJ.out.2 j hlt2
        have hcb := HA2.out.cell j
        rw [hcx] at hcb
        have HSB := hid (And.intro hs0 hs1)
        clear hcx hs0 hs1
        obtain ⟨wp, rfl⟩ : ∃ wp : World, wp = wr := ⟨_, rfl⟩
        have p1 := fun v lo hi W h => HP.out k s v lo hi body W h HKB.out.1 HKB.out.2 HSB.out.1 HSB.out.2 (by have := HL.out.1; omega)
        have p2 := fun v lo hi W h => R12.put k s v lo hi body W h HSB.out.2 (by have := HL.out.1; omega)
        have hTl := putFL_len k s body
        obtain ⟨E, hE⟩ : ∃ E, E = putFE k s body := ⟨_, rfl⟩
        obtain ⟨T, hT⟩ : ∃ T, T = putFL k s body := ⟨_, rfl⟩
        rw [← hE, ← hT] at p1 p2
        rw [← hT] at hTl
        have HTl := hid (show T.length ≤ 121 by have := HL.out.1; omega)
        have HP1 := hid p1
        have HP2 := hid p2
        clear p1 p2 hTl hE hT
        go_wp2_with fail
        refine (HP1.out _ _ _ _ ((HV2.out.kept HS.out (fun _ _ _ h => h)).kept HS2.out (fun _ _ _ h => h))).mono ?_
        rintro e w2 ⟨u2, rfl, k2, b2⟩
        obtain ⟨au, cu, rfl⟩ := b2.form
        have B2 := hid (b2.bs (Nat.le_refl _)).all
        have K2 := hid (HS2.out.trans k2)
        have KP2 := hid k2
        clear k2 b2 hcb
        go_wp2_with fail
        refine (HP2.out _ _ _ _ ((HV2.out.kept HS.out (fun _ _ _ h => h)).kept K2.out (fun _ _ _ h => h))).mono ?_
        rintro e w3 ⟨u3, rfl, k3, b3⟩
        obtain ⟨av, cv, rfl⟩ := b3.form
        have B3 := hid (b3.bs (Nat.le_refl _)).all
        have K3 := hid (K2.out.trans k3)
        have HP3 := hid (KP2.out.trans k3)
        have cv1 := cvBytes (B2.out.kept k3 (fun _ _ _ h => h))
        have cv2 := cvBytes B3.out
        have hn : Ob w3 w3.heap.size (.slice none 0 0) [] := Bo.nil _ _ _
        have hu : Bs w3 0 w3.heap.size (.slice av T.length cv) T := B3.out
        have hln : ([] : List UInt8).length + T.length ≤ 140737488355328 := by have := HTl.out; simp; omega
        clear k3 b3
        obtain ⟨m, hm⟩ : ∃ m : Int, m = (how : Int) % 4 := ⟨_, rfl⟩
        have rm := hm.symm
        have hm4 : m = 0 ∨ m = 1 ∨ m = 2 ∨ m = 3 := by omega
        have HM4 := hid hm4
        clear hm hm4
        go_upto_block 4 with (first | (refine wpList_append_byte rfl (.tmp 92) (.tmp 93) 22 rfl rtBytes (b := 0) rfl rfl hB4 (by decide) (by decide) hl4 hz4 ?_; intro a5 n5 c5 w5 hB5 hK5) | (refine wpList_append_bo rfl _ _ 22 rfl rtBytes rfl rfl hn hu hln (Nat.le_refl _) ?_; intro a4 n4 c4 w4 hB4 hK4; have hl4 : (([] : List UInt8) ++ T).length + 1 ≤ 140737488355328 := (by have := HTl.out; simp only [List.nil_append]; omega); have hz4 := hK4.size) | fail)
        simp only [rm]
        have hK35 : Kept None w3 w5 := (hK4.mono (fun k _ h => by cases h)).then hK5 (fun k hk h => by have := (hB4.own k h).1; omega)
        rw [List.nil_append] at hB5
        obtain ⟨D0, hD0⟩ : ∃ D0, D0 = T ++ [Go.Pm.byteOf 0] := ⟨_, rfl⟩
        obtain ⟨Q, hQ⟩ : ∃ Q, Q = T.length + 1 := ⟨_, rfl⟩
        have hQl : D0.length = Q := by rw [hD0, hQ]; simp
        have hB6 : Ob w5 w3.heap.size (.slice a5 n5 c5) D0 := by rw [hD0]; exact hB5
        obtain ⟨_, _, hfm⟩ := hB6.form
        obtain rfl : n5 = Q := by injection hfm with _ h; rw [h, hQl]
        have HB5 := hid hB6
        have HQ := hid (show n5 ≤ 122 ∧ 0 < n5 ∧ D0.length = n5 from ⟨by have := HTl.out; omega, by omega, hQl⟩)
        have K5 := hid hK35
        clear hB4 hK4 hl4 hz4 hB5 hK5 hB6 hfm hn hu hln cv1 cv2 hK35 hD0 hQ hQl
        go_cut [23] (fun s23 wx => ∃ (ab : Option Addr) (mb cb : Nat) (D : List UInt8), s23 = .slice ab mb cb ∧ Hid (D.length ≤ 300) ∧ Hid (Kept None w3 wx) ∧ Hid (Bs wx 0 wx.heap.size (.slice ab mb cb) D))
        case first =>
          obtain ⟨J, hJ⟩ : ∃ J, J = at_ % n5 := ⟨_, rfl⟩
          have hJn : J < n5 := by rw [hJ]; exact Nat.mod_lt _ HQ.out.2.1
          have r5 : (at_ : Int) % (n5 : Int) = (J : Int) := by rw [hJ]; simp
          have hI0 : (J : Int) < (n5 : Int) := Int.ofNat_lt.mpr hJn
          have hI00 : (0 : Int) < (n5 : Int) := Int.ofNat_lt.mpr HQ.out.2.1
          have q0 := wrap64_nat HB.out.1
          have qn : wrap64 (n5 : Int) = (n5 : Int) := wrap64_nat (Nat.lt_of_le_of_lt HQ.out.1 (by decide))
          have hD0 : ¬ n5 = 0 := Nat.pos_iff_ne_zero.mp HQ.out.2.1
          have hD1 : ((n5 : Int) == 0) = false := by simpa using hD0
          have hD2 : ¬ (n5 : Int) = 0 := by simpa using hD0
          have HJn := hid hJn
          have HD1 : Hid (D0.length ≤ 122) := hid (by rw [HQ.out.2.2]; exact HQ.out.1)
          have HD3 : Hid (D0.length ≤ 300) := hid (by rw [HQ.out.2.2]; exact Nat.le_trans HQ.out.1 (by decide))
          clear hJ hJn
          have b2 := HB5.out
          have hil : 0 < D0.length := by rw [HQ.out.2.2]; exact HQ.out.2.1
          rcases b2.2 with ⟨_, hnil⟩ | ⟨g, cc, cur, hval, hbg, hg, hnc, hcm, hcs, htake⟩
          · exfalso
            rw [hnil] at hil
            exact absurd hil (Nat.not_lt_zero _)
          obtain ⟨rfl, rfl⟩ : a5 = some ⟨g, 0, none⟩ ∧ c5 = cc := by
            injection hval with e1 e2 e3
            exact ⟨e1, e3⟩
          have hB4 : Blk w5 g cur 5 := hg
          have hcellA : ∀ I, I < n5 → w5.cell? ⟨g, I, none⟩ = some (.int .u8 (bAt D0 I)) := fun I hI => by
            have hI' : I < D0.length := by rw [HQ.out.2.2]; exact hI
            rw [hB4.cell, ← Array.getElem?_toList]
            have h1 : (D0.map u8v)[I]? = some (.int .u8 (bAt D0 I)) := by rw [List.getElem?_map, List.getElem?_eq_getElem hI', Option.map_some, u8v_at D0 I hI']
            rw [← htake, List.getElem?_take, if_pos (by rw [Nat.mul_one]; exact hI')] at h1
            exact h1
          have HCA := hid hcellA
          have HFR := hid (fun I => hB4.free I)
          have HBG := hid hbg
          clear hval hbg hg hnc hcm hcs htake hB4 hil hcellA b2
          clear rm
          rcases HM4.out with hm | hm | hm | hm
          · have t0 : (m == 0) = true := by rw [hm]; rfl
            clear hm
            have hcell := HCA.out J HJn.out
            have hfree := HFR.out J
            obtain ⟨y, hy⟩ : ∃ y, y = bAt D0 J := ⟨_, rfl⟩
            rw [← hy] at hcell
            have hz := xor_u8 y (x : Int)
            obtain ⟨z, hzz⟩ : ∃ z, z = bits .xor .u8 y (x : Int) := ⟨_, rfl⟩
            have hzx := hzz.symm
            rw [hzx] at hz
            have HZZ := hid hz
            clear hz hzz hy
            go_wp2_with fail
            have b5 := HB5.out.set J z HZZ.out.1 HZZ.out.2
            have kE := K5.out.then (Kept.one w5 g J (.int .u8 z)) (fun k h (e : k = g) => by subst e; exact Nat.lt_irrefl _ (Nat.lt_of_lt_of_le h HBG.out))
            go_meet
            exact ⟨_, _, _, D0.set J (Go.Pm.byteOf z), rfl, hid (by rw [List.length_set]; exact HD3.out), hid kE, hid (b5.bs (Nat.le_refl _)).all⟩
          · have t0 : (m == 0) = false := by rw [hm]; rfl
            have t1 : (m == 1) = true := by rw [hm]; rfl
            clear hm
            have hbs := (HB5.out.bs (Nat.le_refl _)).all
            obtain ⟨x5, sl5, p5⟩ := slice_to tBytes zBytes hbs .i64 (J : Int) (Int.natCast_nonneg _) (Int.le_of_lt (Int.ofNat_lt.mpr HJn.out))
            simp only [Int.toNat_natCast] at sl5 p5
            have HPS := hid (show Bs w5 0 w5.heap.size (.slice x5 J c5) (D0.take J) by unfold Bs; rw [List.map_take]; exact p5)
            clear hbs p5
            go_wp2_with fail
            go_meet
            exact ⟨_, _, _, _, rfl, hid (Nat.le_trans (List.length_take_le' _ _) HD3.out), K5, HPS⟩
          · have t0 : (m == 0) = false := by rw [hm]; rfl
            have t1 : (m == 1) = false := by rw [hm]; rfl
            have t2 : (m == 2) = true := by rw [hm]; rfl
            clear hm
            have hb := HB5.out
            have hu := (((HV3.out.kept HS.out (fun _ _ _ h => h)).kept K3.out (fun _ _ _ h => h)).kept K5.out (fun _ _ _ h => h)).all
            have hln : D0.length + raw.length ≤ 140737488355328 := Nat.le_trans (Nat.add_le_add HD1.out HL.out.2) (by decide)
            go_wp2_with (first | (refine wpList_append_bo rfl _ _ 22 rfl rtBytes rfl rfl hb hu hln K5.out.size ?_; intro a6 n6 c6 w6 hB6 hK6) | fail)
            have kE := K5.out.then hK6 (fun q hq h => Nat.lt_irrefl _ (Nat.lt_of_lt_of_le hq (hb.own q h).1))
            go_meet
            exact ⟨_, _, _, _, rfl, hid (by rw [List.length_append]; exact Nat.le_trans (Nat.add_le_add HD1.out HL.out.2) (by decide)), hid kE, hid (hB6.bs (Nat.le_refl _)).all⟩
          · have t0 : (m == 0) = false := by rw [hm]; rfl
            have t1 : (m == 1) = false := by rw [hm]; rfl
            have t2 : (m == 2) = false := by rw [hm]; rfl
            clear hm
            have hcell := HCA.out 0 HQ.out.2.1
            have hfree := HFR.out 0
            have h0n : 0 < n5 := HQ.out.2.1
            clear q0 qn r5 hI0
            go_wp2_with fail
            have b5 := HB5.out.set 0 (x : Int) (Int.natCast_nonneg _) (Int.ofNat_lt.mpr HB.out.2.1)
            have kE := K5.out.then (Kept.one w5 g 0 (.int .u8 (x : Int))) (fun k h (e : k = g) => by subst e; exact Nat.lt_irrefl _ (Nat.lt_of_lt_of_le h HBG.out))
            go_meet
            exact ⟨_, _, _, D0.set 0 (Go.Pm.byteOf (x : Int)), rfl, hid (by rw [List.length_set]; exact HD3.out), hid kE, hid (b5.bs (Nat.le_refl _)).all⟩
        case rest =>
          obtain ⟨ab, mb, cb, D, rfl, HDL, KC, DB⟩ := hcut
          obtain ⟨wC, rfl⟩ : ∃ wC : World, wC = wc := ⟨_, rfl⟩
          obtain ⟨ab', cb', he, _⟩ := DB.out.shape
          obtain ⟨rfl, rfl, rfl⟩ : ab = ab' ∧ mb = D.length ∧ cb = cb' := by simpa using he
          have HROW := hid (show IsRow wC (.slice av T.length cv) ∧ IsRow wC (.slice ab D.length cb) ∧ IsRow wC (.slice a3 raw.length c3) from
            ⟨⟨T, av, cv, rfl, Nat.le_trans HTl.out (by decide), (B3.out.kept KC.out (fun _ _ _ h => h)).all⟩, ⟨D, ab, cb, rfl, HDL.out, DB.out⟩, ⟨raw, a3, c3, rfl, Nat.le_trans HL.out.2 (by decide), ((HV3.out.kept HS.out (fun _ _ _ h => h)).kept (K3.out.trans KC.out) (fun _ _ _ h => h)).all⟩⟩)
          have Kw := hid (K3.out.trans KC.out)
          have HA2C := hid (HA2.out.kept (HP3.out.trans KC.out) (fun h => h))
          clear he DB KC HDL B3 B2 K2 K3 K5 HB5 HQ HP1 HP2 HM4 rm
          go_wp2_with fail
          go_loopg [132] 3 (fun kx s132 wr => ∃ l : Nat, s132 = .int .i64 (l : Int) ∧ l ≤ 3 ∧ 3 - l ≤ kx ∧ Hid (Kept None wC wr) ∧ Hid (Blk wr wC.heap.size #[.slice av T.length cv, .slice ab D.length cb, .slice a3 raw.length c3] 22))
          case atStart => exact ⟨0, rfl, by omega, by omega, hid ((Kept.refl _ _).alloc _), hid (Blk.new _ _ _)⟩
          case round =>
          obtain ⟨l, rfl, hl, hlx, HS3, HA3⟩ := hrel
          by_cases hlt3 : l < 3
          · have hlz : (l : Int) < 3 := by omega
            obtain ⟨cx, hcx, LX, ax, cpx, rfl, hLX, hbx⟩ := of_three (p := IsRow wC) HROW.out.1 HROW.out.2.1 HROW.out.2.2 l hlt3
            have hcc := HA3.out.cell l
            rw [hcx] at hcc
            have HBX := hid hbx
            have hLX2 : LX.length ≤ 1099511627000 := Nat.le_trans hLX (by decide)
            obtain ⟨wr3, rfl⟩ : ∃ wr3 : World, wr3 = wr := ⟨_, rfl⟩
            obtain ⟨k6, s6, B6, n6, E6, hF⟩ : ∃ k s B n E, readF LX = ⟨k, s, B, n, E⟩ := ⟨_, _, _, _, _, rfl⟩
            have hf := fun (v : Value) (lo hi : Nat) (W : World) (h : Bs W lo hi v LX) => HR.out v lo hi LX W h hLX2
            have hg := fun (v : Value) (lo hi : Nat) (W : World) (h : Bs W lo hi v LX) => R12.read v lo hi LX W h hLX2
            simp only [hF] at hf hg
            have HF := hid hf
            have HG := hid hg
            clear hcx hLX hbx hLX2 hF hf hg
            go_wp2_with fail
            refine (HF.out _ _ _ _ (HBX.out.kept HS3.out (fun _ _ _ h => h))).mono ?_
            rintro e w5 ⟨u5, rfl, k5, b5⟩
            obtain ⟨a5, c5, rfl, _⟩ := b5.shape
            have K5 := hid (HS3.out.trans k5)
            have KW5 := hid k5
            have B5 := hid b5
            clear k5 b5 hcc
            go_wp2_with fail
            refine (HG.out _ _ _ _ (HBX.out.kept K5.out (fun _ _ _ h => h))).mono ?_
            rintro e w6 ⟨u6, rfl, k6', b6⟩
            obtain ⟨a6, c6, rfl, _⟩ := b6.shape
            have K6 := hid (K5.out.trans k6')
            have HA6 := hid ((HA3.out.kept KW5.out (fun h => h)).kept k6' (fun h => h))
            have cv1 := cvBytes (B5.out.kept k6' (fun _ _ _ h => h))
            have cv2 := cvBytes b6
            clear k6' b6
            go_wp2
            go_roundg (3 - (l + 1))
            case measure => omega
            case rel => exact ⟨l + 1, by go_num, by omega, Nat.le_refl _, K6, HA6⟩
          · have hlz : ¬ (l : Int) < 3 := by omega
            obtain rfl : l = 3 := by omega
            have KE := hid (Kw.out.trans HS3.out)
            have HAE := hid (HA2C.out.kept HS3.out (fun h => h))
            clear hlt3 hl hlx
            go_wp2
            go_roundg (2 - (j + 1))
            case measure => omega
            case rel => exact ⟨j + 1, by go_num, by omega, Nat.le_refl _, KE, HAE⟩
      · obtain rfl : j = 2 := by omega
        have KE := hid (HS.out.trans HS2.out)
        have HAE := hid (HA.out.kept HS2.out (fun h => h))
        clear hlt2 hj hjx
        go_wp2
        go_roundg (3 - (i + 1))
        case measure => omega
        case rel => exact ⟨i + 1, by go_num, by omega, Nat.le_refl _, KE, HAE⟩
    · obtain rfl : i = 3 := by omega
      clear hlt hi hix
      go_wp2
      go_ret
      exact ⟨rfl, HS.out⟩
  · by_cases hb : body.length ≤ 100
    · have dl : decide ((100 : Int) < (body.length : Int)) = false := by simp; omega
      have dl2 : decide (100 < body.length) = false := by simp; omega
      have dr : decide ((100 : Int) < (raw.length : Int)) = true := by simp; omega
      have dr2 : decide (100 < raw.length) = true := by simp; omega
      clear hl hb hv2 hv3 hat hx hhow hP hR hk0 hs0
      go_enter Try.func3, Try.ntmps3
      go_wp2_with fail
      refine (HK.out w).mono ?_
      rintro e w1 ⟨rfl, k1⟩
      go_wp2
      go_ret
      exact ⟨rfl, k1⟩
    · have dl : decide ((100 : Int) < (body.length : Int)) = true := by simp; omega
      have dl2 : decide (100 < body.length) = true := by simp; omega
      clear hl hb hv2 hv3 hat hx hhow hP hR hk0 hs0
      go_enter Try.func3, Try.ntmps3
      go_wp2_with fail
      refine (HK.out w).mono ?_
      rintro e w1 ⟨rfl, k1⟩
      go_wp2
      go_ret
      exact ⟨rfl, k1⟩
end K13
end Go.Proofs.Ytkjidligfcihgaa
