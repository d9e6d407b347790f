/- Rows.ScanCutsSaid: of a journal that is cut anywhere just the records ahead of the cut are told. No condition. -/
import Derived.Test.YtbebpnanhkcngaaPk5
import Derived.Test.YtbebpnanhkcngaaPk2
import Derived.Test.YtbebpnanhkcngaaRows
import Derived.Test.YtbebpnanhkcngaaPk7
import Derived.Test.YtbebpnanhkcngaaPk8
namespace Go.Pm
open Go Go.RowKit
theorem Ps.all15 {k : Nat} {w : World} {lo hi : Nat} {v : Value} {xs : List (List Value)} (h : Ps k w lo hi v xs) : Ps k w 0 w.heap.size v xs := h.lt.wider (Nat.zero_le _) (Nat.min_le_right _ _)
theorem ps_upto {k : Nat} {P : Program} {t : TypeId} (ht : P.underlying t = some (.slice (P.elem t))) (hz : ∀ W, (sizeOf (P.elem t)).run P W = .ok k W) {w : World} {lo hi : Nat} {a : Option Addr} {n cap : Nat} {xs : List (List Value)} (h : Ps k w lo hi (.slice a n cap) xs) (i : Nat) (h1 : i ≤ n) :
    ∃ a', (∀ W, (Instr.slice t (.slice a n cap) none (some (.int .i64 (i : Int))) none).run P W = .ok (.slice a' i cap) W) ∧ Ps k w lo hi (.slice a' i cap) (xs.take i) := by
  have hc : n ≤ cap := by obtain ⟨a', cap', hv, hc, _⟩ := h.form; injection hv; omega
  refine ⟨if cap = 0 then a else a.map (·.add (0 * k)), fun W => ?_, ?_⟩
  · rw [run_slice_h (P := P) W t a n cap ht .i64 (i : Int) (Int.natCast_nonneg _) (by omega), hz]
    simp only [Result.andThen, Go.sliced, Nat.sub_zero, Int.toNat_natCast]
  · have := Ps.sliced h 0 i (Nat.zero_le _) h1
    simpa using this
end Go.Pm
namespace Go.Proofs.Ytbebpnanhkcngaa
open Go.RowKit Go.Pm
namespace P15
open Sn
theorem tRecs15 : Try.prog.underlying 27 = some (.slice (Try.prog.elem 27)) := by kernel_rfl
theorem zRecs15 : ∀ W, (sizeOf (Try.prog.elem 27)).run Try.prog W = .ok 12 W := fun _ => by kernel_rfl
theorem recs_form {w : World} {lo hi : Nat} {v : Value} {l : List Rec} (h : Ps 12 w lo hi v (recsC l)) : ∃ a c, v = .slice a l.length c := by
  obtain ⟨a, c, h1, _⟩ := h.form
  rw [recsC_len] at h1
  exact ⟨a, c, h1⟩
set_option maxRecDepth 100000 in
set_option maxHeartbeats 16000000 in
theorem cuts (hR : RecordsC) (hW : WholeC) (hC : ChooseC) (gen : Int) (vl vm : Value) (lo hi lo' hi' : Nat) (l more : List UInt8) (at_ : Nat) (w : World) (hv : Bs w lo hi vl l) (hv' : Bs w lo' hi' vm more) (hat : at_ < 65536) :
    Calls Try.prog 4 #[.int .i64 gen, vl, vm, .int .u16 (at_ : Int)] w fun e w' => e = .returned (.bool true) ∧ Kept None w w' := by
  obtain ⟨al, cl, rfl, _⟩ := hv.shape
  obtain ⟨am, cm, rfl, _⟩ := hv'.shape
  have HK := hid (fun W => known hR hW hC W)
  by_cases hout : 8 < l.length ∨ 8 < more.length
  · by_cases h1 : 8 < l.length
    · have x1 : decide ((8 : Int) < (l.length : Int)) = true := by simp; omega
      have x2 : decide (8 < l.length) = true := by simpa using h1
      clear hout h1 hv hv' hR hW hC hat
      go_enter Try.func4, Try.ntmps4
      go_wp2_with fail
      refine (HK.out w).mono ?_
      rintro e w1 ⟨rfl, k1⟩
      clear HK
      go_wp2_with (first | go_skip | fail)
      go_ret
      exact ⟨rfl, k1⟩
    · have x1 : decide ((8 : Int) < (l.length : Int)) = false := by simp; omega
      have x2 : decide (8 < l.length) = false := by simpa using h1
      have x3 : decide ((8 : Int) < (more.length : Int)) = true := by simp; omega
      have x4 : decide (8 < more.length) = true := by simp; omega
      clear hout h1 hv hv' hR hW hC hat
      go_enter Try.func4, Try.ntmps4
      go_wp2_with fail
      refine (HK.out w).mono ?_
      rintro e w1 ⟨rfl, k1⟩
      clear HK
      go_wp2_with (first | go_skip | fail)
      go_ret
      exact ⟨rfl, k1⟩
  · have x1 : decide ((8 : Int) < (l.length : Int)) = false := by simp; omega
    have x2 : decide (8 < l.length) = false := by simp; omega
    have x3 : decide ((8 : Int) < (more.length : Int)) = false := by simp; omega
    have x4 : decide (8 < more.length) = false := by simp; omega
    have hl8 : l.length ≤ 8 := by omega
    have hm8 : more.length ≤ 8 := by omega
    obtain ⟨g, hg⟩ : ∃ z, z = bits .and .i64 gen 255 := ⟨_, rfl⟩
    have rg := hg.symm
    have qc := (wrapB (n := at_) (by omega)).1
    have hfx := fun W (hW : Kept None w W) => file g 0 (.slice al l.length cl) (.slice am more.length cm) lo hi lo' hi' l more W (hv.kept hW (fun _ _ _ h => h)) (hv'.kept hW (fun _ _ _ h => h)) (by omega) (by omega)
    have hbl := baseF_le g 0 (Seat.pendF l) (by rw [show (Seat.pendF l).length = l.length from Seat.pendN_len l _]; omega)
    have HFX := hid (fun W hW => show Calls Try.prog 9 #[.int .i64 g, .slice al l.length cl, .slice am more.length cm, .int .i64 0] W fun e w' => ∃ u A, e = .returned u ∧ Kept None W w' ∧ Ob w' W.heap.size u A ∧ A.length ≤ 5000 from (hfx W hW).mono (by
      rintro e w' ⟨u, Z, h1, h2, h3, h4⟩
      exact ⟨u, _, h1, h2, h3, by rw [List.length_append]; omega⟩))
    have HR := hid hR
    clear hout hl8 hm8 hfx hbl hg hv hv' hat hR hW hC
    go_enter Try.func4, Try.ntmps4
    go_wp2_with fail
    refine (HK.out w).mono ?_
    rintro e w1 ⟨rfl, k1⟩
    have K1 := hid k1
    clear HK k1
    go_wp2_with (first | go_skip | fail)
    clear x1 x2 x3 x4 rg
    refine (HFX.out w1 K1.out).mono ?_
    rintro e w2 ⟨u2, A, rfl, k2, b2, hAl⟩
    obtain ⟨a2, c2, rfl⟩ := b2.form
    have K2 := hid (K1.out.trans k2)
    have B2 := hid (b2.bs (Nat.le_refl _)).all
    have HAL := hid hAl
    clear k2 b2 K1 HFX hAl
    obtain ⟨L1, hL1⟩ : ∃ m, m = A.length + 1 := ⟨_, rfl⟩
    have hL1z : (A.length : Int) + 1 = (L1 : Int) := by omega
    have qL := (wrapB (n := L1) (by have := HAL.out; omega)).1
    obtain ⟨K, hK⟩ : ∃ m, m = at_ % L1 := ⟨_, rfl⟩
    have hKl : K ≤ A.length := by have := Nat.mod_lt at_ (show 0 < L1 by omega); omega
    have r5 : (at_ : Int) % (L1 : Int) = (K : Int) := by rw [hK]; simp
    have hD1 : ((L1 : Int) == 0) = false := by
      have : ¬ L1 = 0 := by omega
      simpa using this
    have hD2 : ¬ (L1 : Int) = 0 := by omega
    have hcut := cuts15 A K
    have h5 : A.length ≤ 1000000000 := by have := HAL.out; omega
    have hr1 := fun W v lo hi (h : Bs W lo hi v A) => HR.out v lo hi A W h h5
    have hr2 := fun W v lo hi (h : Bs W lo hi v (A.take K)) => HR.out v lo hi _ W h (by rw [List.length_take]; omega)
    have hr3 := fun W v lo hi (h : Bs W lo hi v (A.take (scanC none (A.take K)))) => HR.out v lo hi _ W h (by rw [List.length_take]; omega)
    have hml : scanC none (A.take K) ≤ A.length := Nat.le_trans hcut.1 hKl
    obtain ⟨N, hN⟩ : ∃ m, m = scanC none A := ⟨_, rfl⟩
    obtain ⟨M, hM⟩ : ∃ m, m = scanC none (A.take K) := ⟨_, rfl⟩
    obtain ⟨R, hR0⟩ : ∃ m, m = scanR none A := ⟨_, rfl⟩
    obtain ⟨P, hP⟩ : ∃ m, m = scanR none (A.take K) := ⟨_, rfl⟩
    rw [← hM] at hcut hr2 hr3 hml
    rw [← hN] at hcut hr1
    rw [← hR0] at hcut hr1
    rw [← hP] at hcut hr2
    have hRl : 21 * R.length ≤ A.length := by rw [hR0]; exact scanR_len none A
    obtain ⟨Q, hQ⟩ : ∃ m, m = scanR none (A.take M) := ⟨_, rfl⟩
    obtain ⟨O, hO⟩ : ∃ m, m = scanC none (A.take M) := ⟨_, rfl⟩
    rw [← hQ, ← hO] at hr3
    rw [← hQ] at hcut
    have HR1 := hid hr1
    have HR2 := hid hr2
    have HR3 := hid hr3
    have HCU := hid hcut
    have HKL := hid (And.intro hKl hml)
    have HRL := hid hRl
    clear hL1 hK hKl hcut h5 hr1 hr2 hr3 hml hN hM hR0 hP hRl hQ hO
    go_wp2_with fail
    refine (HR1.out w2 _ _ _ B2.out).mono ?_
    rintro e w3 ⟨u3, rfl, k3, p3⟩
    obtain ⟨a3, c3, rfl⟩ := recs_form p3
    have K3 := hid (K2.out.trans k3)
    have B3 := hid (B2.out.kept k3 (fun _ _ _ h => h))
    have P3 := hid p3
    clear k3 p3 K2 B2 HR1
    obtain ⟨x8, sl8, p8⟩ := slice_to tBytes zBytes B3.out .i64 (K : Int) (Int.natCast_nonneg _) (by have := HKL.out.1; omega)
    simp only [Int.toNat_natCast] at sl8 p8
    rw [← List.map_take] at p8
    have hkk : decide ((K : Int) ≤ (A.length : Int)) = true := by have := HKL.out.1; simp; omega
    have BK3 := hid (show Bs w3 0 w2.heap.size (.slice x8 K c2) (A.take K) from p8)
    clear p8
    go_wp2_with fail
    simp only [r5]
    clear sl8 r5 hD1 hD2 qL qc hkk hL1z
    refine (HR2.out w3 _ _ _ BK3.out).mono ?_
    rintro e w4 ⟨u4, rfl, k4, p4⟩
    obtain ⟨a4, c4, rfl⟩ := recs_form p4
    have K4 := hid (K3.out.trans k4)
    have B4 := hid (B3.out.kept k4 (fun _ _ _ h => h))
    have P34 := hid (P3.out.kept k4 (fun _ _ _ h => h))
    have P4 := hid p4
    clear k4 p4 K3 B3 P3 BK3 HR2
    obtain ⟨a5, sl5, p5⟩ := ps_upto tRecs15 zRecs15 P34.out P.length HCU.out.2.2.1
    have hrs := fun W (hW : Kept None w4 W) => Hr.records _ _ _ _ _ _ P (R.take P.length) W (P4.out.kept hW (fun _ _ _ h => h)) ((show Ps 12 w4 _ _ _ (recsC (R.take P.length)) from by unfold recsC; rw [List.map_take]; exact p5).kept hW (fun _ _ _ h => h)) (by have := HCU.out.2.2.1; have := HRL.out; have := HAL.out; omega)
    have hrt : recsEq P (R.take P.length) = true := by unfold recsEq; rw [← HCU.out.2.2.2.1]; simp
    rw [hrt] at hrs
    have HRS := hid hrs
    have g1 : decide ((K : Int) < (M : Int)) = false := by have := HCU.out.1; simp; omega
    have g2 : decide (K < M) = false := by have := HCU.out.1; simp; omega
    have g3 : decide ((N : Int) < (M : Int)) = false := by have := HCU.out.2.1; simp; omega
    have g4 : decide (N < M) = false := by have := HCU.out.2.1; simp; omega
    have g5 : decide ((R.length : Int) < (P.length : Int)) = false := by have := HCU.out.2.2.1; simp; omega
    have g6 : decide (R.length < P.length) = false := by have := HCU.out.2.2.1; simp; omega
    clear hrs hrt p5
    go_wp2_with (first | go_skip | fail)
    clear sl5
    refine (HRS.out w4 (Kept.refl _ _)).mono ?_
    rintro e w5 ⟨rfl, k5⟩
    have K5 := hid (K4.out.trans k5)
    have B5 := hid (B4.out.kept k5 (fun _ _ _ h => h))
    clear k5 K4 B4 HRS P34 P4
    obtain ⟨x9, sl9, p9⟩ := slice_to tBytes zBytes B5.out .i64 (M : Int) (Int.natCast_nonneg _) (by have := HKL.out.2; omega)
    simp only [Int.toNat_natCast] at sl9 p9
    rw [← List.map_take] at p9
    have BM5 := hid (show Bs w5 0 w2.heap.size (.slice x9 M c2) (A.take M) from p9)
    clear p9 g1 g2 g3 g4 g5 g6
    go_wp2_with (first | go_skip | fail)
    clear sl9
    refine (HR3.out w5 _ _ _ BM5.out).mono ?_
    rintro e w6 ⟨u6, rfl, k6, p6⟩
    obtain ⟨a6, c6, rfl⟩ := recs_form p6
    have K6 := hid (K5.out.trans k6)
    have hql := HCU.out.2.2.2.2.1
    have s1 : ((Q.length : Int) == (P.length : Int)) = true := by rw [hql]; simp
    have s2 : (Q.length == P.length) = true := by rw [hql]; simp
    by_cases hkn : K < N
    · have g1 : decide ((K : Int) < (N : Int)) = true := by simp; omega
      have g2 : decide (K < N) = true := by simpa using hkn
      clear hql hkn k6 p6 K5 B5 BM5 HR3 HCU HKL HRL
      go_wp2_with (first | go_skip | fail)
      go_ret
      exact ⟨rfl, K6.out⟩
    · have g1 : decide ((K : Int) < (N : Int)) = false := by simp; omega
      have g2 : decide (K < N) = false := by simpa using hkn
      have hpl := HCU.out.2.2.2.2.2 hkn
      have s3 : ((P.length : Int) == (R.length : Int)) = true := by rw [hpl]; simp
      have s4 : (P.length == R.length) = true := by rw [hpl]; simp
      clear hpl hql hkn k6 p6 K5 B5 BM5 HR3 HCU HKL HRL
      go_wp2_with (first | go_skip | fail)
      go_ret
      exact ⟨rfl, K6.out⟩
end P15
end Go.Proofs.Ytbebpnanhkcngaa
namespace Go.Proofs.Ytbebpnanhkcngaa
open Go.ChangeShapes Go.WideShapes Go.ChangeAt Go.RowKit Go.Pm

theorem laidOut : laidOutB Try.prog = true := by kernel_rfl
theorem ownKnobs : ownKnob Try.prog.godebug = none := by kernel_rfl
theorem rI64t : Try.prog.underlying 2 = some (.int .i64) := by kernel_rfl
theorem rBool : Try.prog.underlying 4 = some .bool := by kernel_rfl
theorem rU16 : Try.prog.underlying 23 = some (.int .u16) := by kernel_rfl
theorem cByte : Try.prog.cellsOf 5 = 1 := by kernel_rfl

set_option maxRecDepth 100000 in
theorem scanCuts_lifted (os : Os) (started : os.Started) (H : Type) (enc : TypeId × Value → H) :
    ReturnsInHanded {} Try.checked os 4 .any (Rows.scanCutsSpec.pre6 enc Try.prog Try.f4 Rows.scanCutsRow.domain false) (Rows.scanCutsSpec.post enc Try.prog Try.f4 false true false false) := by
  refine returnsInHanded_of_change (C := Try.checked) ownKnobs started (by kernel_rfl) Try.func4
    (ChangeSpec.witness6 (enc := enc) (C := Try.checked) false ⟨#[], #[.int .i64 0, .slice none 0 0, .slice none 0 0, .int .u16 0], []⟩ 8 (by kernel_rfl) (by kernel_rfl) (by kernel_rfl) (by kernel_rfl)) ?_
  intro W base args ds gs before hval0 hW _ _
  have hval : ∀ (j : Nat) t v, Try.f4.params[j]? = some t → args[j]? = some v → Value.okWide Try.prog W .any base t v := hval0
  have hlt : ∀ x ∈ before, x.block < W.heap.size := fun x hx => by simpa using hW.lt x hx
  have hW' := hW
  obtain ⟨p, q, hA0, hV, rfl, hfz, hnd⟩ := hW
  obtain ⟨rfl, rfl⟩ := trodVars_none hV
  have hA : DataW.TrodAll enc Try.prog W 0 (fun _ => true) true Try.f4.params.toList args.toList ds p := hA0
  rw [Try.params4] at hA hval
  obtain ⟨v0, v1, v2, v3, d0, d1, d2, d3, p0, p1, p2, p3, rfl, rfl, rfl, h0, h1, h2, h3⟩ := trodAll_four hA
  obtain ⟨gen, rfl, _, _, b0⟩ := open_int rI64t (hval 0 2 v0 rfl rfl) h0
  obtain ⟨l, hl⟩ := openBs tBytes' tByte cByte (hval 1 22 v1 rfl rfl) h1 (fun x hx => hlt x (by simp [hx]))
  obtain ⟨more, hmore⟩ := openBs tBytes' tByte cByte (hval 2 22 v2 rfl rfl) h2 (fun x hx => hlt x (by simp [hx]))
  obtain ⟨at_, rfl, b3⟩ := openNat_u16 rU16 (hval 3 23 v3 rfl rfl) h3
  refine (P15.cuts Sn.records Sn.whole Sn.choose gen v1 v2 _ _ _ _ l more at_ W hl hmore b3).mono fun e W' ⟨he, hk⟩ => ?_
  subst he
  exact ⟨_, rfl, law_post (P := Try.prog) (f := Try.f4) rfl rfl rBool laidOut (by kernel_rfl) hW' rfl rfl rfl (hk.below (fun _ _ h => h))⟩

theorem scanCuts_holds : Rows.ScanCutsSaid :=
  OpenClaim.holds_of_wide 4 Try.f4 rfl rfl rfl rfl rfl rfl rfl ⟨rfl, rfl, rfl, rfl, rfl⟩ rfl rfl rfl rfl rfl (by kernel_rfl) Try.func4 (by kernel_rfl)
    (of_decide_eq_true (by kernel_rfl)) (by unfold Func.isWrapper; first | (rw [if_pos (by decide +kernel)]; kernel_rfl) | (rw [if_neg (by decide +kernel)]; exact ⟨rfl, rfl⟩))
    (fun os started H enc _ => scanCuts_lifted os started H enc)
end Go.Proofs.Ytbebpnanhkcngaa
