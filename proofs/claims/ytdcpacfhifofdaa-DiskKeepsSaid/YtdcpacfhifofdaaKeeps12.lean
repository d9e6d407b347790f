/- postmarklaw12.DiskKeeps: true. -/
import Derived.Test.YtdcpacfhifofdaaPre12
namespace Go.Proofs.Ytdcpacfhifofdaa
open Go.RowKit Go.Pm
namespace K12
open Dk
set_option maxRecDepth 100000 in
set_option maxHeartbeats 16000000 in
theorem keeps (v0 v1 : Value) (lo hi lo1 hi1 lo2 hi2 : Nat) (sure : List UInt8) (l : List (List UInt8)) (m : Nat) (torn : Int) (w : World) (hv0 : Bs w lo hi v0 sure) (hv1 : Bss w lo1 hi1 lo2 hi2 v1 l) (hm : m < 18446744073709551616) (ht0 : -9223372036854775808 ≤ torn) (ht1 : torn ≤ 9223372036854775807) : Calls Try.prog 3 #[v0, v1, .int .u64 (m : Int), .int .i64 torn] w fun e w' => e = .returned (.bool true) ∧ Kept None w w' := by
  obtain ⟨a0, c0, rfl, _⟩ := hv0.shape
  obtain ⟨a1, c1, rfl, _⟩ := hv1.shape
  have HV0 := hid (hv0.all)
  have HV1 := hid hv1
  have HM := hid (And.intro hm (And.intro ht0 ht1))
  clear hm ht0 ht1
  clear hv0 hv1
  by_cases hs : sure.length ≤ 60
  · by_cases hl : l.length ≤ 20
    · have ds : decide ((60 : Int) < (sure.length : Int)) = false := by simp; omega
      have dl : decide ((20 : Int) < (l.length : Int)) = false := by simp; omega
      have HL := hid (And.intro hs hl)
      clear hs hl
      go_enter Try.func3, Try.ntmps3
      go_wp2_with fail
      refine (known w).mono ?_
      rintro e w1 ⟨rfl, k1⟩
      go_wp2_with fail
      refine (sx_new 1048576 w w1 None k1 (fun _ h => h.elim) (by decide) 1).mono ?_
      rintro e w2 ⟨d, rfl, s2, _⟩
      have S2 := hid s2
      clear s2 k1
      go_wp2_with fail
      refine (sx_app_old (i := 1) (x := sure) S2.out (d1_ok (Fl.ok_nil _) (by decide) (by decide) (by decide) (by decide)) (by decide) (HV0.out.kept S2.out.kept (fun _ _ _ h => h)) (Nat.le_refl _) (by have := HL.out.1; omega)).mono ?_
      intro e w3 h3
      obtain ⟨rfl, s⟩ := drop_kept (d1_app (j := 1) (F := ⟨[], []⟩) (r := 1048576) (x := sure) (by decide) (by have := HL.out.1; simp; omega)).2 (d1_app (j := 1) (F := ⟨[], []⟩) (r := 1048576) (x := sure) (by decide) (by have := HL.out.1; simp; omega)).1 h3
      have S3 := hid s
      clear s h3
      go_wp2_with fail
      refine (sx_sync (i := 1) S3.out (d1_ok (Fl.ok_add (Fl.ok_nil _) _) (by have := HL.out.1; simp [Fl.add]; omega) (by simp [Fl.add]) (by decide) (by decide)) (by decide)).mono ?_
      intro e w4 h4
      obtain ⟨rfl, s⟩ := drop_kept (d1_sync (j := 1)).2 (d1_sync (j := 1)).1 h4
      have S4 := hid s
      clear s h4
      have hn : Ob w4 w.heap.size (.slice none 0 0) [] := Bo.nil _ _ _
      have hu := HV0.out.kept S4.out.kept (fun _ _ _ h => h)
      have hln : ([] : List UInt8).length + sure.length ≤ 140737488355328 := by have := HL.out.1; simp; omega
      go_wp2_with (first | (refine wpList_append_bk rfl _ _ 22 rfl rtBytes rfl rfl hn hu hln S4.out.kept.size ?_; intro a5 n5 c5 w5 hB5 hK5 hO5) | fail)
      obtain ⟨sx, hb⟩ : Sx w w5 (Of (.slice a5 n5 c5)) d (d1 1 (Fl.settle (Fl.add ⟨[], []⟩ sure)) 1048576 (-1)) ∧ Ob w5 w.heap.size (.slice a5 n5 c5) sure := by
        have k5 : Kept None w4 w5 := hK5.mono (fun k _ h => by cases h)
        refine ⟨S4.out.rows (k5.mono (fun _ _ h => h)) (S4.out.kept.trans k5) (fun q hq => ⟨?_, (hB5.own q hq).2⟩), by simpa using hB5⟩
        rcases hO5 q hq with h | h
        · cases h
        · exact .inr (by omega)
      have SX5 := hid sx
      have HB5 := hid hb
      clear sx hb hn hu hln hB5 hK5 hO5
      go_wp2_with fail
      go_loopg [10, 11] l.length (fun kx sA sI wr => ∃ (i : Nat) (F : Fl) (a8 : Option Addr) (n8 c8 : Nat), sA = .slice a8 n8 c8 ∧ sI = .int .i64 (i : Int) ∧ i ≤ l.length ∧ l.length - i ≤ kx ∧ Hid (Gf F sure (allL sure l i) i ∧ (allL sure l i).length ≤ 60 + 20 * i) ∧ Hid (Sx w wr (Of (.slice a8 n8 c8)) d (d1 1 F 1048576 (-1))) ∧ Hid (Ob wr w.heap.size (.slice a8 n8 c8) (allL sure l i)))
      case atStart => exact ⟨0, _, a5, n5, c5, rfl, rfl, Nat.zero_le _, Nat.le_refl _, hid ⟨by rw [allL_zero]; exact Gf.start sure, by rw [allL_zero]; exact HL.out.1⟩, SX5, by rw [allL_zero]; exact HB5⟩
      case round =>
      obtain ⟨i, F, a8, n8, c8, rfl, rfl, hi, hix, HG, HS, HB⟩ := hrel
      by_cases hlt : i < l.length
      · have hlt' : decide ((i : Int) < (l.length : Int)) = true := by simpa using hlt
        obtain ⟨b, o, rfl, q1, q2, q3, hcell⟩ := (HV1.out.kept HS.out.kept (fun _ _ _ h => h) (fun _ _ _ h => h)).at (by omega)
        obtain ⟨ax, cx, hcx, hx⟩ := hcell i hlt
        have hxw : Bs w 0 w.heap.size (.slice ax l[i].length cx) l[i] := by
          obtain ⟨b', o', e', _, _, q3', hcell'⟩ := HV1.out.at (by omega)
          obtain ⟨rfl, rfl⟩ : b = b' ∧ o = o' := by simpa using e'
          obtain ⟨ax', cx', hcx', hx'⟩ := hcell' i hlt
          have := (HS.out.kept.cell (p := ⟨b, o + i, none⟩) q3' (fun h => h)).symm.trans hcx
          rw [hcx'] at this
          injection this with this
          injection this with e1 e2 e3
          subst e1 e3
          exact hx'.all
        have hnext := allL_next sure l i hlt
        have HXC := hid (fun W (hW : Kept None w W) => show W.cell? ⟨b, o + i, none⟩ = some (.slice ax l[i].length cx) from (by
          obtain ⟨b', o', e', _, _, q3', hcell'⟩ := HV1.out.at (by omega)
          obtain ⟨rfl, rfl⟩ : b = b' ∧ o = o' := by simpa using e'
          have h1 := HS.out.kept.cell (p := ⟨b, o + i, none⟩) q3' (fun h => h)
          have h2 := hW.cell (p := ⟨b, o + i, none⟩) q3' (fun h => h)
          exact h2.trans (h1.symm.trans hcx)))
        obtain ⟨x, hxe⟩ : ∃ x, x = l[i] := ⟨_, rfl⟩
        rw [← hxe] at hcx hxw hnext HXC
        have HX := hid (And.intro hxw hnext)
        clear hcell hx hxw hnext hxe q1 q2 q3
        by_cases hx20 : x.length ≤ 20
        · have dx : decide ((20 : Int) < (x.length : Int)) = false := by simp; omega
          have dx2 : decide (20 < x.length) = false := by simp; omega
          have HX2 := hid hx20
          clear hx20
          have dok : (d1 1 F 1048576 (-1)).Ok := HG.out.1.dok (by have := HG.out.2; have := HL.out; omega) (by have := HL.out; omega)
          have app := d1_app (j := 1) (F := F) (r := 1048576) (x := x) (by decide) (by rw [HG.out.1.t]; have := HG.out.2; have := HL.out; have := HX2.out; omega)
          have HDK := hid (And.intro dok app)
          clear dok app
          go_wp2_with fail
          refine (sx_app_old (i := 1) (x := x) HS.out HDK.out.1 (by decide) (HX.out.1.kept HS.out.kept (fun _ _ _ h => h)) (Nat.le_refl _) (by have := HX2.out; omega)).mono ?_
          rintro e w6 ⟨rfl, s, k6⟩
          rw [HDK.out.2.2] at s
          rw [HDK.out.2.1]
          have hb6 : Ob w6 w.heap.size (.slice a8 n8 c8) (allL sure l i) := HB.out.kept k6 (fun k h h' => h'.2 h)
          have hu6 : Bs w6 0 w.heap.size (.slice ax x.length cx) x := HX.out.1.kept s.kept (fun _ _ _ h => h)
          have S6 := hid s
          have hc6 := HXC.out w6 s.kept
          have hln : (allL sure l i).length + x.length ≤ 140737488355328 := by have := HG.out.2; have := HL.out; have := HX2.out; omega
          have hsz := s.kept.size
          clear s k6 hcx dx dx2
          go_wp2_with (first | (refine wpList_append_bk rfl _ _ 22 rfl rtBytes rfl rfl hb6 hu6 hln hsz ?_; intro a7 n7 c7 w7 hB7 hK7 hO7) | fail)
          obtain ⟨sx, hb⟩ : Sx w w7 (Of (.slice a7 n7 c7)) d (d1 1 (F.add x) 1048576 (-1)) ∧ Ob w7 w.heap.size (.slice a7 n7 c7) (allL sure l (i + 1)) := by
            refine ⟨S6.out.rows hK7 (S6.out.kept.then hK7 (fun q hq h => by have := (hb6.own q h).1; omega)) (fun q hq => ⟨?_, (hB7.own q hq).2⟩), by rw [HX.out.2]; exact hB7⟩
            rcases hO7 q hq with h | h
            · exact .inl h
            · exact .inr (by omega)
          have SX7 := hid sx
          have HB7 := hid hb
          clear sx hb hb6 hu6 hc6 hln hsz hB7 hK7 hO7
          go_wp2
          go_roundg (l.length - (i + 1))
          case measure => omega
          case rel => exact ⟨i + 1, F.add x, a7, n7, c7, rfl, by go_num, by omega, Nat.le_refl _, hid ⟨by rw [HX.out.2]; exact HG.out.1.add x, by rw [HX.out.2, List.length_append]; have := HG.out.2; have := HX2.out; omega⟩, SX7, HB7⟩
        · have dx : decide ((20 : Int) < (x.length : Int)) = true := by simp; omega
          have dx2 : decide (20 < x.length) = true := by simp; omega
          clear hx20
          go_wp2
          go_ret
          exact ⟨rfl, HS.out.kept⟩
      · have hlt' : decide ((i : Int) < (l.length : Int)) = false := by simpa using hlt
        obtain rfl : i = l.length := by omega
        clear hlt hi hix
        obtain ⟨AL, hAL⟩ : ∃ A, A = allL sure l l.length := ⟨_, rfl⟩
        rw [← hAL] at HG HB
        have HA := hid hAL
        clear hAL
        obtain ⟨aA, cA, eV⟩ := HB.out.form
        obtain ⟨rfl, rfl, rfl⟩ : a8 = aA ∧ n8 = AL.length ∧ c8 = cA := by simpa using eV
        clear eV
        have HDK := hid (show (d1 1 F 1048576 (-1)).Ok from HG.out.1.dok (by have := HG.out.2; have := HL.out; omega) (by have := HL.out; omega))
        have HRD := hid (fun W (hW : Kept None wr W) => sx_read (i := 1) (l := AL) (HS.out.keptN hW) HDK.out (by decide) (by rw [d1_f]; exact HG.out.1.t))
        have HSU := hid (fun W (hW : Kept None wr W) => sx_sure (i := 1) (n := sure.length) (HS.out.keptN hW) (by decide) (by rw [d1_f]; exact HG.out.1.s))
        have HCV := hid (fun W (hW : Kept None wr W) => cvBytes ((HB.out.kept hW (fun _ _ h => h)).bs (Nat.le_refl _)))
        go_wp2_with fail
        have hs : Steady [.bytes 1 (AL), .val 2 (.string ⟨(AL).toArray⟩) [1], .val 8 (.int .i64 (sure.length : Int))] := Go.Pm.Steady.bytes (Go.Pm.Steady.val (Go.Pm.Steady.val (Go.Pm.Steady.nil)))
        refine wp_region_kn wr _ hs (Kept.refl _ _) (by kernel_rfl) (by kernel_rfl) (by kernel_rfl) ?_
        iterate 1 (refine wpPar_pure rfl (by rfl) _ (fun W hW => by
            have cva := HCV.out W hW
            go_simp
            exact rfl) ?_; simp only [Act.put, List.setIfInBounds_toArray, List.set_cons_zero, List.set_cons_succ])
        refine wpKn_adds hs rfl (by rfl) (fun W hW hd => ?_) (fun v1 hv => ?_)
        · unfold Gives
          go_simp
          refine gives_call (HRD.out W hW) ?_
          rintro e w3 ⟨v, rfl, k3, b3⟩
          obtain ⟨a, c, rfl⟩ := b3.form
          exact ⟨_, rfl, k3, ⟨_, _, rfl⟩, _, _, b3.bs (Nat.le_refl _)⟩
        obtain ⟨a1, c1, rfl⟩ : ∃ a c, v1 = .slice a (AL).length c := hv
        simp only [Act.put, List.setIfInBounds_toArray, List.set_cons_zero, List.set_cons_succ]
        refine wpKn_adds hs rfl (by rfl) (fun W hW hd => ?_) (fun v2 hv => ?_)
        · unfold Gives
          obtain ⟨lo, hi, hb⟩ : ∃ lo hi, Bs W lo hi (.slice a1 (AL).length c1) (AL) := hd 1 (List.Mem.head _)
          have hcv := cvBytes hb
          go_simp
          exact ⟨Kept.refl _ _, rfl, trivial⟩
        obtain rfl : v2 = .string ⟨(AL).toArray⟩ := hv
        simp only [Act.put, List.setIfInBounds_toArray, List.set_cons_zero, List.set_cons_succ]
        iterate 4 (refine wpPar_pure rfl (by rfl) _ (fun W hW => by
            have cva := HCV.out W hW
            go_simp
            exact rfl) ?_; simp only [Act.put, List.setIfInBounds_toArray, List.set_cons_zero, List.set_cons_succ])
        refine wpPar_pure rfl (by kernel_rfl) _ (fun W hW => by
            have cva := HCV.out W hW
            go_simp
            exact rfl) ?_; simp only [Act.put, List.setIfInBounds_toArray, List.set_cons_zero, List.set_cons_succ]
        refine wpKn_adds hs rfl (by kernel_rfl) (fun W hW hd => ?_) (fun v8 hv => ?_)
        · unfold Gives
          go_simp
          refine gives_call ((HSU.out W hW)) ?_
          rintro e w3 ⟨rfl, rfl⟩
          exact ⟨_, rfl, Kept.refl _ _, rfl, trivial⟩
        obtain rfl : v8 = .int .i64 (sure.length : Int) := hv
        simp only [Act.put, List.setIfInBounds_toArray, List.set_cons_zero, List.set_cons_succ]
        refine wpPar_pure rfl (by kernel_rfl) _ (fun W hW => by
            have cva := HCV.out W hW
            go_simp
            exact rfl) ?_; simp only [Act.put, List.setIfInBounds_toArray, List.set_cons_zero, List.set_cons_succ]
        refine wpPar_pure rfl (by kernel_rfl) _ (fun W hW => by
            have cva := HCV.out W hW
            go_simp
            exact rfl) ?_; simp only [Act.put, List.setIfInBounds_toArray, List.set_cons_zero, List.set_cons_succ]
        refine wpPar_pure rfl (by kernel_rfl) _ (fun W hW => by
            have cva := HCV.out W hW
            go_simp
            exact rfl) ?_; simp only [Act.put, List.setIfInBounds_toArray, List.set_cons_zero, List.set_cons_succ]
        iterate 1 (refine wpPar_pure rfl (by rfl) _ (fun W hW => by
            have cva := HCV.out W hW
            go_simp
            exact rfl) ?_; simp only [Act.put, List.setIfInBounds_toArray, List.set_cons_zero, List.set_cons_succ])
        refine wpPar_nil (fun W hW hGG => ?_)
        have SW := hid (HS.out.keptN hW)
        have BW := hid (HB.out.kept hW (fun _ _ h => h))
        clear hGG hW hs HRD HSU HCV HB HS
        go_wp2_with fail
        refine (sx_crash SW.out HDK.out HM.out.1 HM.out.2.1 HM.out.2.2).mono ?_
        rintro e w12 ⟨rfl, s, kf⟩
        rw [d1_crash] at s
        have hbA := BW.out.kept kf (fun k h h' => h'.2 h)
        obtain ⟨T, hT⟩ : ∃ T, T = (F.crash m torn).t := ⟨_, rfl⟩
        have hcr : F.crash m torn = ⟨T, []⟩ := by rw [hT]; rfl
        have hE := Fl.crashE_ok HG.out.1.ok m torn
        have hlen := Fl.crash_len HG.out.1.ok m torn
        have htk := Fl.crash_sure HG.out.1.ok m torn
        have hat := Fl.crash_at HG.out.1.ok m torn
        rw [← hT] at hlen htk hat
        rw [HG.out.1.s, ← hlen, HG.out.1.t] at hE
        rw [HG.out.1.s, HG.out.1.t] at htk
        rw [HG.out.1.t] at hat
        rw [hcr] at s
        have hAs : AL.take sure.length = sure := by rw [HA.out]; simp [allL]
        rw [hAs] at htk
        have S12 := hid s
        have A12 := hid hbA
        have HE := hid hE
        have HTK := hid htk
        have HAT := hid hat
        clear s kf hbA hT hcr hE hlen htk hat hAs SW BW
        have HDK2 := hid (show (d1 1 ⟨T, []⟩ 1048576 (-1)).Ok from d1_ok (Fl.ok_nil _) (by have := HE.out.2; have := HG.out.2; have := HL.out; simp only []; omega) (by simp) (by decide) (by decide))
        go_wp2_with fail
        refine (sx_read (i := 1) (l := T) S12.out HDK2.out (by decide) (by rw [d1_f])).mono ?_
        rintro e w13 ⟨v13, rfl, k13, b13⟩
        obtain ⟨a13, c13, rfl⟩ := b13.form
        have S13 := hid (show Sx w w13 (Of (.slice a13 T.length c13)) d (d1 1 ⟨T, []⟩ 1048576 (-1)) from S12.out.rows (k13.mono (fun _ _ h => h.elim)) (S12.out.kept.trans k13) (fun q hq => ⟨.inr (b13.own q hq).1, (b13.own q hq).2⟩))
        have A13 := hid (A12.out.kept k13 (fun _ _ h => h))
        have B13 := hid b13
        clear k13 b13 A12 S12
        have hrow := B13.out
        unfold Ob Bo at hrow
        have hsl := row_slice_to tBytes zBytes hrow .i64 (sure.length : Int) (by omega) (by have := HE.out.1; omega)
        simp only [Int.toNat_natCast] at hsl
        have htk2 : Ob w13 w12.heap.size (.slice a13 sure.length c13) sure := by
          have h := row_take hrow (i := sure.length) HE.out.1
          rw [← List.map_take, HTK.out] at h
          exact h
        have HC1 := hid (fun W (hW : Kept None w13 W) => cvBytes ((htk2.kept hW (fun _ _ h => h)).bs (Nat.le_refl _)))
        have HC2 := hid (fun W (hW : Kept None w13 W) => cvBytes (HV0.out.kept (S13.out.kept.trans hW) (fun _ _ _ h => h)))
        have HSU2 := hid (fun W (hW : Kept None w13 W) => sx_sure (i := 1) (n := T.length) (S13.out.keptN hW) (by decide) (by rw [d1_f]; rfl))
        have l1 : decide ((T.length : Int) < (sure.length : Int)) = false := by have := HE.out.1; simp; omega
        have l2 : decide ((AL.length : Int) < (T.length : Int)) = false := by have := HE.out.2; simp; omega
        have l3 : decide (T.length < sure.length) = false := by have := HE.out.1; simp; omega
        have l4 : decide (AL.length < T.length) = false := by have := HE.out.2; simp; omega
        clear hrow htk2
        go_wp2_with fail
        have hs : Steady [.val 24 (.int .i64 (T.length : Int))] := Go.Pm.Steady.val (Go.Pm.Steady.nil)
        refine wp_region_kn w13 _ hs (Kept.refl _ _) (by kernel_rfl) (by kernel_rfl) (by kernel_rfl) ?_
        iterate 6 (refine wpPar_pure rfl (by rfl) _ (fun W hW => by
            have cv1 := HC1.out W hW
            have cv2 := HC2.out W hW
            go_simp
            exact rfl) ?_; simp only [Act.put, List.setIfInBounds_toArray, List.set_cons_zero, List.set_cons_succ])
        refine wpPar_pure rfl (by kernel_rfl) _ (fun W hW => by
            have cv1 := HC1.out W hW
            have cv2 := HC2.out W hW
            go_simp
            exact rfl) ?_; simp only [Act.put, List.setIfInBounds_toArray, List.set_cons_zero, List.set_cons_succ]
        refine wpPar_pure rfl (by kernel_rfl) _ (fun W hW => by
            have cv1 := HC1.out W hW
            have cv2 := HC2.out W hW
            go_simp
            exact rfl) ?_; simp only [Act.put, List.setIfInBounds_toArray, List.set_cons_zero, List.set_cons_succ]
        refine wpPar_pure rfl (by kernel_rfl) _ (fun W hW => by
            have cv1 := HC1.out W hW
            have cv2 := HC2.out W hW
            go_simp
            exact rfl) ?_; simp only [Act.put, List.setIfInBounds_toArray, List.set_cons_zero, List.set_cons_succ]
        refine wpPar_pure rfl (by kernel_rfl) _ (fun W hW => by
            have cv1 := HC1.out W hW
            have cv2 := HC2.out W hW
            go_simp
            exact rfl) ?_; simp only [Act.put, List.setIfInBounds_toArray, List.set_cons_zero, List.set_cons_succ]
        refine wpPar_pure rfl (by kernel_rfl) _ (fun W hW => by
            have cv1 := HC1.out W hW
            have cv2 := HC2.out W hW
            go_simp
            exact rfl) ?_; simp only [Act.put, List.setIfInBounds_toArray, List.set_cons_zero, List.set_cons_succ]
        iterate 2 (refine wpPar_pure rfl (by rfl) _ (fun W hW => by
            have cv1 := HC1.out W hW
            have cv2 := HC2.out W hW
            go_simp
            exact rfl) ?_; simp only [Act.put, List.setIfInBounds_toArray, List.set_cons_zero, List.set_cons_succ])
        refine wpPar_pure rfl (by kernel_rfl) _ (fun W hW => by
            have cv1 := HC1.out W hW
            have cv2 := HC2.out W hW
            go_simp
            exact rfl) ?_; simp only [Act.put, List.setIfInBounds_toArray, List.set_cons_zero, List.set_cons_succ]
        refine wpPar_pure rfl (by kernel_rfl) _ (fun W hW => by
            have cv1 := HC1.out W hW
            have cv2 := HC2.out W hW
            go_simp
            exact rfl) ?_; simp only [Act.put, List.setIfInBounds_toArray, List.set_cons_zero, List.set_cons_succ]
        refine wpPar_pure rfl (by kernel_rfl) _ (fun W hW => by
            have cv1 := HC1.out W hW
            have cv2 := HC2.out W hW
            go_simp
            exact rfl) ?_; simp only [Act.put, List.setIfInBounds_toArray, List.set_cons_zero, List.set_cons_succ]
        refine wpPar_pure rfl (by kernel_rfl) _ (fun W hW => by
            have cv1 := HC1.out W hW
            have cv2 := HC2.out W hW
            go_simp
            exact rfl) ?_; simp only [Act.put, List.setIfInBounds_toArray, List.set_cons_zero, List.set_cons_succ]
        refine wpPar_pure rfl (by kernel_rfl) _ (fun W hW => by
            have cv1 := HC1.out W hW
            have cv2 := HC2.out W hW
            go_simp
            exact rfl) ?_; simp only [Act.put, List.setIfInBounds_toArray, List.set_cons_zero, List.set_cons_succ]
        refine wpPar_pure rfl (by kernel_rfl) _ (fun W hW => by
            have cv1 := HC1.out W hW
            have cv2 := HC2.out W hW
            go_simp
            exact rfl) ?_; simp only [Act.put, List.setIfInBounds_toArray, List.set_cons_zero, List.set_cons_succ]
        refine wpPar_pure rfl (by kernel_rfl) _ (fun W hW => by
            have cv1 := HC1.out W hW
            have cv2 := HC2.out W hW
            go_simp
            exact rfl) ?_; simp only [Act.put, List.setIfInBounds_toArray, List.set_cons_zero, List.set_cons_succ]
        refine wpPar_pure rfl (by kernel_rfl) _ (fun W hW => by
            have cv1 := HC1.out W hW
            have cv2 := HC2.out W hW
            go_simp
            exact rfl) ?_; simp only [Act.put, List.setIfInBounds_toArray, List.set_cons_zero, List.set_cons_succ]
        iterate 2 (refine wpPar_pure rfl (by rfl) _ (fun W hW => by
            have cv1 := HC1.out W hW
            have cv2 := HC2.out W hW
            go_simp
            exact rfl) ?_; simp only [Act.put, List.setIfInBounds_toArray, List.set_cons_zero, List.set_cons_succ])
        refine wpPar_pure rfl (by kernel_rfl) _ (fun W hW => by
            have cv1 := HC1.out W hW
            have cv2 := HC2.out W hW
            go_simp
            exact rfl) ?_; simp only [Act.put, List.setIfInBounds_toArray, List.set_cons_zero, List.set_cons_succ]
        refine wpKn_adds hs rfl (by kernel_rfl) (fun W hW hd => ?_) (fun v24 hv => ?_)
        · unfold Gives
          go_simp
          refine gives_call ((HSU2.out W hW)) ?_
          rintro e w3 ⟨rfl, rfl⟩
          exact ⟨_, rfl, Kept.refl _ _, rfl, trivial⟩
        obtain rfl : v24 = .int .i64 (T.length : Int) := hv
        simp only [Act.put, List.setIfInBounds_toArray, List.set_cons_zero, List.set_cons_succ]
        refine wpPar_pure rfl (by kernel_rfl) _ (fun W hW => by
            have cv1 := HC1.out W hW
            have cv2 := HC2.out W hW
            go_simp
            exact rfl) ?_; simp only [Act.put, List.setIfInBounds_toArray, List.set_cons_zero, List.set_cons_succ]
        refine wpPar_pure rfl (by kernel_rfl) _ (fun W hW => by
            have cv1 := HC1.out W hW
            have cv2 := HC2.out W hW
            go_simp
            exact rfl) ?_; simp only [Act.put, List.setIfInBounds_toArray, List.set_cons_zero, List.set_cons_succ]
        refine wpPar_pure rfl (by kernel_rfl) _ (fun W hW => by
            have cv1 := HC1.out W hW
            have cv2 := HC2.out W hW
            go_simp
            exact rfl) ?_; simp only [Act.put, List.setIfInBounds_toArray, List.set_cons_zero, List.set_cons_succ]
        iterate 1 (refine wpPar_pure rfl (by rfl) _ (fun W hW => by
            have cv1 := HC1.out W hW
            have cv2 := HC2.out W hW
            go_simp
            exact rfl) ?_; simp only [Act.put, List.setIfInBounds_toArray, List.set_cons_zero, List.set_cons_succ])
        refine wpPar_nil (fun W hW hGG => ?_)
        have SW := hid (S13.out.keptN hW)
        have AW := hid (A13.out.kept hW (fun _ _ h => h))
        have BW := hid (B13.out.kept hW (fun _ _ h => h))
        clear hGG hW hs HC1 HC2 HSU2 A13 B13 S13 l1 l2 l3 l4 hsl
        go_wp2_with fail
        obtain ⟨wo, rfl⟩ : ∃ wo : World, wo = wr := ⟨_, rfl⟩
        go_loopg [13] T.length (fun kx s13 wr => ∃ q : Nat, s13 = .int .i64 (q : Int) ∧ q ≤ T.length ∧ T.length - q ≤ kx ∧ Hid (Kept None W wr))
        case atStart => exact ⟨sure.length, rfl, HE.out.1, by omega, hid (Kept.refl _ _)⟩
        case round =>
        obtain ⟨q, rfl, hq, hqx, HK⟩ := hrel
        by_cases hlt : q < T.length
        · have hlt' : decide ((q : Int) < (T.length : Int)) = true := by simpa using hlt
          have WQ := hid (show wrap64 ((q : Int) + 1) = ((q + 1 : Nat) : Int) by rw [wrap_in _ (by omega) (by have := HE.out.2; have := HG.out.2; have := HL.out; omega)]; omega)
          have hqA : q < AL.length := by have := HE.out.2; omega
          obtain ⟨b1, o1, e1, _, _, y1, z1⟩ := ((BW.out.kept HK.out (fun _ _ h => h)).bs (Nat.le_refl _)).ne (by omega)
          obtain ⟨b2, o2, e2, _, _, y2, z2⟩ := ((AW.out.kept HK.out (fun _ _ h => h)).bs (Nat.le_refl _)).ne (by omega)
          subst e1 e2
          have c1 := z1 q hlt
          have c2 := z2 q hqA
          have hat := HAT.out q hlt
          obtain ⟨P, hP⟩ : ∃ P : Nat, P = (T.getD q 0).toNat := ⟨_, rfl⟩
          obtain ⟨Q, hQ⟩ : ∃ Q : Nat, Q = (AL.getD q 0).toNat := ⟨_, rfl⟩
          rw [show bAt T q = (P : Int) by rw [hP]; rfl] at c1
          rw [show bAt AL q = (Q : Int) by rw [hQ]; rfl] at c2
          have hpq : P = Q ∨ P = 0 := hat.elim (fun h => .inl (by rw [hP, hQ, h])) (fun h => .inr (by rw [hP, h]; rfl))
          clear z1 z2 hat hP hQ y1 y2
          by_cases e : P = Q
          · subst e
            clear hpq
            go_wp2_with fail
            go_quiet (fail)
            have wq := WQ.out
            go_wp2
            clear wq
            go_roundg (T.length - (q + 1))
            case measure => omega
            case rel => exact ⟨q + 1, congrArg (Value.int .i64) WQ.out, by omega, Nat.le_refl _, hid (HK.out.drewN nq)⟩
          · obtain rfl : P = 0 := hpq.resolve_left e
            have hne : ((0 : Int) == (Q : Int)) = false := by simp; omega
            rw [show ((0 : Nat) : Int) = 0 from rfl] at c1
            have hn2 : ¬ (0 : Int) = (Q : Int) := by omega
            have hn3 : ¬ Q = 0 := by omega
            have hn4 : (0 == Q) = false := by simp; omega
            have hn5 : ¬ 0 = Q := by omega
            clear hpq e
            go_wp2_with fail
            go_quiet (fail)
            have wq := WQ.out
            go_wp2
            clear wq
            go_roundg (T.length - (q + 1))
            case measure => omega
            case rel => exact ⟨q + 1, congrArg (Value.int .i64) WQ.out, by omega, Nat.le_refl _, hid (HK.out.drewN nq)⟩
        · have hlt' : decide ((q : Int) < (T.length : Int)) = false := by simpa using hlt
          have SR := hid (SW.out.keptN HK.out)
          have BR := hid (BW.out.kept HK.out (fun _ _ h => h))
          go_wp2_with fail
          refine (sx_crash SR.out HDK2.out HM.out.1 HM.out.2.1 HM.out.2.2).mono ?_
          rintro e w15 ⟨rfl, s, kf⟩
          rw [d1_crash, Fl.crash_settled] at s
          have S15 := hid s
          have B15 := hid (BR.out.kept kf (fun k h h' => h'.2 h))
          clear s kf
          have HRD2 := hid (fun W (hW : Kept None w15 W) => sx_read (i := 1) (l := T) (S15.out.keptN hW) HDK2.out (by decide) (by rw [d1_f]))
          have HCV2 := hid (fun W (hW : Kept None w15 W) => cvBytes ((B15.out.kept hW (fun _ _ h => h)).bs (Nat.le_refl _)))
          go_wp2_with fail
          have hs : Steady [.bytes 1 (T), .val 2 (.string ⟨(T).toArray⟩) [1]] := Go.Pm.Steady.bytes (Go.Pm.Steady.val (Go.Pm.Steady.nil))
          refine wp_region_kn w15 _ hs (Kept.refl _ _) (by kernel_rfl) (by kernel_rfl) (by kernel_rfl) ?_
          iterate 1 (refine wpPar_pure rfl (by rfl) _ (fun W hW => by
              have cva := HCV2.out W hW
              go_simp
              exact rfl) ?_; simp only [Act.put, List.setIfInBounds_toArray, List.set_cons_zero, List.set_cons_succ])
          refine wpKn_adds hs rfl (by rfl) (fun W hW hd => ?_) (fun v1 hv => ?_)
          · unfold Gives
            go_simp
            refine gives_call (HRD2.out W hW) ?_
            rintro e w3 ⟨v, rfl, k3, b3⟩
            obtain ⟨a, c, rfl⟩ := b3.form
            exact ⟨_, rfl, k3, ⟨_, _, rfl⟩, _, _, b3.bs (Nat.le_refl _)⟩
          obtain ⟨a1, c1, rfl⟩ : ∃ a c, v1 = .slice a (T).length c := hv
          simp only [Act.put, List.setIfInBounds_toArray, List.set_cons_zero, List.set_cons_succ]
          refine wpKn_adds hs rfl (by rfl) (fun W hW hd => ?_) (fun v2 hv => ?_)
          · unfold Gives
            obtain ⟨lo, hi, hb⟩ : ∃ lo hi, Bs W lo hi (.slice a1 (T).length c1) (T) := hd 1 (List.Mem.head _)
            have hcv := cvBytes hb
            go_simp
            exact ⟨Kept.refl _ _, rfl, trivial⟩
          obtain rfl : v2 = .string ⟨(T).toArray⟩ := hv
          simp only [Act.put, List.setIfInBounds_toArray, List.set_cons_zero, List.set_cons_succ]
          iterate 4 (refine wpPar_pure rfl (by rfl) _ (fun W hW => by
              have cva := HCV2.out W hW
              go_simp
              exact rfl) ?_; simp only [Act.put, List.setIfInBounds_toArray, List.set_cons_zero, List.set_cons_succ])
          refine wpPar_nil (fun W2 hW2 hGG => ?_)
          have kz := S15.out.kept.trans hW2
          clear hGG hW2 hs
          go_wp2
          go_ret
          exact ⟨rfl, kz⟩
    · have ds : decide ((60 : Int) < (sure.length : Int)) = false := by simp; omega
      have dl : decide ((20 : Int) < (l.length : Int)) = true := by simp; omega
      clear hs hl
      go_enter Try.func3, Try.ntmps3
      go_wp2_with fail
      refine (known w).mono ?_
      rintro e w1 ⟨rfl, k1⟩
      go_wp2
      go_ret
      exact ⟨rfl, k1⟩
  · have ds : decide ((60 : Int) < (sure.length : Int)) = true := by simp; omega
    clear hs
    go_enter Try.func3, Try.ntmps3
    go_wp2_with fail
    refine (known w).mono ?_
    rintro e w1 ⟨rfl, k1⟩
    go_wp2
    go_ret
    exact ⟨rfl, k1⟩
end K12
end Go.Proofs.Ytdcpacfhifofdaa
