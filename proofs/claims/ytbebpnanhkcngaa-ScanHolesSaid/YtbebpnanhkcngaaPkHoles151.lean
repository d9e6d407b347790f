/- Rows.ScanHolesSaid: noughts in a journal end it there, and nothing behind them is told. No condition. -/
import Derived.Test.YtbebpnanhkcngaaPk5
import Derived.Test.YtbebpnanhkcngaaPk2
import Derived.Test.YtbebpnanhkcngaaPk6
import Derived.Deep.QuietTactic
import Derived.BigQuiet
import Derived.Test.YtbebpnanhkcngaaRows
import Derived.Test.YtbebpnanhkcngaaPk7
import Derived.Test.YtbebpnanhkcngaaPk8
namespace Go.Pm
open Go Go.RowKit
theorem Ps.all15 {k : Nat} {w : World} {lo hi : Nat} {v : Value} {xs : List (List Value)} (h : Ps k w lo hi v xs) : Ps k w 0 w.heap.size v xs := h.lt.wider (Nat.zero_le _) (Nat.min_le_right _ _)
theorem ps_upto {k : Nat} {P : Program} {t : TypeId} (ht : P.underlying t = some (.slice (P.elem t))) (hz : ∀ W, (sizeOf (P.elem t)).run P W = .ok k W) {w : World} {lo hi : Nat} {a : Option Addr} {n cap : Nat} {xs : List (List Value)} (h : Ps k w lo hi (.slice a n cap) xs) (i : Nat) (h1 : i ≤ n) :
    ∃ a', (∀ W, (Instr.slice t (.slice a n cap) none (some (.int .i64 (i : Int))) none).run P W = .ok (.slice a' i cap) W) ∧ Ps k w lo hi (.slice a' i cap) (xs.take i) := by
  have hc : n ≤ cap := by obtain ⟨a', cap', hv, hc, _⟩ := h.form; injection hv; omega
  refine ⟨if cap = 0 then a else a.map (·.add (0 * k)), fun W => ?_, ?_⟩
  · rw [run_slice_h (P := P) W t a n cap ht .i64 (i : Int) (Int.natCast_nonneg _) (by omega), hz]
    simp only [Result.andThen, Go.sliced, Nat.sub_zero, Int.toNat_natCast]
  · have := Ps.sliced h 0 i (Nat.zero_le _) h1
    simpa using this
end Go.Pm
namespace Go.Proofs.Ytbebpnanhkcngaa
open Go.RowKit Go.Pm
namespace P15
open Sn
theorem tRecs15 : Try.prog.underlying 27 = some (.slice (Try.prog.elem 27)) := by kernel_rfl
theorem zRecs15 : ∀ W, (sizeOf (Try.prog.elem 27)).run Try.prog W = .ok 12 W := fun _ => by kernel_rfl
theorem recs_form {w : World} {lo hi : Nat} {v : Value} {l : List Rec} (h : Ps 12 w lo hi v (recsC l)) : ∃ a c, v = .slice a l.length c := by
  obtain ⟨a, c, h1, _⟩ := h.form
  rw [recsC_len] at h1
  exact ⟨a, c, h1⟩
set_option maxRecDepth 100000 in
set_option maxHeartbeats 16000000 in
theorem cuts (hR : RecordsC) (hW : WholeC) (hC : ChooseC) (gen : Int) (vl vm : Value) (lo hi lo' hi' : Nat) (l more : List UInt8) (at_ : Nat) (w : World) (hv : Bs w lo hi vl l) (hv' : Bs w lo' hi' vm more) (hat : at_ < 65536) :
    Calls Try.prog 4 #[.int .i64 gen, vl, vm, .int .u16 (at_ : Int)] w fun e w' => e = .returned (.bool true) ∧ Kept None w w' := by
  obtain ⟨al, cl, rfl, _⟩ := hv.shape
  obtain ⟨am, cm, rfl, _⟩ := hv'.shape
  have HK := hid (fun W => known hR hW hC W)
  by_cases hout : 8 < l.length ∨ 8 < more.length
  · by_cases h1 : 8 < l.length
    · have x1 : decide ((8 : Int) < (l.length : Int)) = true := by simp; omega
      have x2 : decide (8 < l.length) = true := by simpa using h1
      clear hout h1 hv hv' hR hW hC hat
      go_enter Try.func4, Try.ntmps4
      go_wp2_with fail
      refine (HK.out w).mono ?_
      rintro e w1 ⟨rfl, k1⟩
      clear HK
      go_wp2_with (first | go_skip | fail)
      go_ret
      exact ⟨rfl, k1⟩
    · have x1 : decide ((8 : Int) < (l.length : Int)) = false := by simp; omega
      have x2 : decide (8 < l.length) = false := by simpa using h1
      have x3 : decide ((8 : Int) < (more.length : Int)) = true := by simp; omega
      have x4 : decide (8 < more.length) = true := by simp; omega
      clear hout h1 hv hv' hR hW hC hat
      go_enter Try.func4, Try.ntmps4
      go_wp2_with fail
      refine (HK.out w).mono ?_
      rintro e w1 ⟨rfl, k1⟩
      clear HK
      go_wp2_with (first | go_skip | fail)
      go_ret
      exact ⟨rfl, k1⟩
  · have x1 : decide ((8 : Int) < (l.length : Int)) = false := by simp; omega
    have x2 : decide (8 < l.length) = false := by simp; omega
    have x3 : decide ((8 : Int) < (more.length : Int)) = false := by simp; omega
    have x4 : decide (8 < more.length) = false := by simp; omega
    have hl8 : l.length ≤ 8 := by omega
    have hm8 : more.length ≤ 8 := by omega
    obtain ⟨g, hg⟩ : ∃ z, z = bits .and .i64 gen 255 := ⟨_, rfl⟩
    have rg := hg.symm
    have qc := (wrapB (n := at_) (by omega)).1
    have hfx := fun W (hW : Kept None w W) => file g 0 (.slice al l.length cl) (.slice am more.length cm) lo hi lo' hi' l more W (hv.kept hW (fun _ _ _ h => h)) (hv'.kept hW (fun _ _ _ h => h)) (by omega) (by omega)
    have hbl := baseF_le g 0 (Seat.pendF l) (by rw [show (Seat.pendF l).length = l.length from Seat.pendN_len l _]; omega)
    have HFX := hid (fun W hW => show Calls Try.prog 9 #[.int .i64 g, .slice al l.length cl, .slice am more.length cm, .int .i64 0] W fun e w' => ∃ u A, e = .returned u ∧ Kept None W w' ∧ Ob w' W.heap.size u A ∧ A.length ≤ 5000 from (hfx W hW).mono (by
      rintro e w' ⟨u, Z, h1, h2, h3, h4⟩
      exact ⟨u, _, h1, h2, h3, by rw [List.length_append]; omega⟩))
    have HR := hid hR
    clear hout hl8 hm8 hfx hbl hg hv hv' hat hR hW hC
    go_enter Try.func4, Try.ntmps4
    go_wp2_with fail
    refine (HK.out w).mono ?_
    rintro e w1 ⟨rfl, k1⟩
    have K1 := hid k1
    clear HK k1
    go_wp2_with (first | go_skip | fail)
    clear x1 x2 x3 x4 rg
    refine (HFX.out w1 K1.out).mono ?_
    rintro e w2 ⟨u2, A, rfl, k2, b2, hAl⟩
    obtain ⟨a2, c2, rfl⟩ := b2.form
    have K2 := hid (K1.out.trans k2)
    have B2 := hid (b2.bs (Nat.le_refl _)).all
    have HAL := hid hAl
    clear k2 b2 K1 HFX hAl
    obtain ⟨L1, hL1⟩ : ∃ m, m = A.length + 1 := ⟨_, rfl⟩
    have hL1z : (A.length : Int) + 1 = (L1 : Int) := by omega
    have qL := (wrapB (n := L1) (by have := HAL.out; omega)).1
    obtain ⟨K, hK⟩ : ∃ m, m = at_ % L1 := ⟨_, rfl⟩
    have hKl : K ≤ A.length := by have := Nat.mod_lt at_ (show 0 < L1 by omega); omega
    have r5 : (at_ : Int) % (L1 : Int) = (K : Int) := by rw [hK]; simp
    have hD1 : ((L1 : Int) == 0) = false := by
      have : ¬ L1 = 0 := by omega
      simpa using this
    have hD2 : ¬ (L1 : Int) = 0 := by omega
    have hcut := cuts15 A K
    have h5 : A.length ≤ 1000000000 := by have := HAL.out; omega
    have hr1 := fun W v lo hi (h : Bs W lo hi v A) => HR.out v lo hi A W h h5
    have hr2 := fun W v lo hi (h : Bs W lo hi v (A.take K)) => HR.out v lo hi _ W h (by rw [List.length_take]; omega)
    have hr3 := fun W v lo hi (h : Bs W lo hi v (A.take (scanC none (A.take K)))) => HR.out v lo hi _ W h (by rw [List.length_take]; omega)
    have hml : scanC none (A.take K) ≤ A.length := Nat.le_trans hcut.1 hKl
    obtain ⟨N, hN⟩ : ∃ m, m = scanC none A := ⟨_, rfl⟩
    obtain ⟨M, hM⟩ : ∃ m, m = scanC none (A.take K) := ⟨_, rfl⟩
    obtain ⟨R, hR0⟩ : ∃ m, m = scanR none A := ⟨_, rfl⟩
    obtain ⟨P, hP⟩ : ∃ m, m = scanR none (A.take K) := ⟨_, rfl⟩
    rw [← hM] at hcut hr2 hr3 hml
    rw [← hN] at hcut hr1
    rw [← hR0] at hcut hr1
    rw [← hP] at hcut hr2
    have hRl : 21 * R.length ≤ A.length := by rw [hR0]; exact scanR_len none A
    obtain ⟨Q, hQ⟩ : ∃ m, m = scanR none (A.take M) := ⟨_, rfl⟩
    obtain ⟨O, hO⟩ : ∃ m, m = scanC none (A.take M) := ⟨_, rfl⟩
    rw [← hQ, ← hO] at hr3
    rw [← hQ] at hcut
    have HR1 := hid hr1
    have HR2 := hid hr2
    have HR3 := hid hr3
    have HCU := hid hcut
    have HKL := hid (And.intro hKl hml)
    have HRL := hid hRl
    clear hL1 hK hKl hcut h5 hr1 hr2 hr3 hml hN hM hR0 hP hRl hQ hO
    go_wp2_with fail
    refine (HR1.out w2 _ _ _ B2.out).mono ?_
    rintro e w3 ⟨u3, rfl, k3, p3⟩
    obtain ⟨a3, c3, rfl⟩ := recs_form p3
    have K3 := hid (K2.out.trans k3)
    have B3 := hid (B2.out.kept k3 (fun _ _ _ h => h))
    have P3 := hid p3
    clear k3 p3 K2 B2 HR1
    obtain ⟨x8, sl8, p8⟩ := slice_to tBytes zBytes B3.out .i64 (K : Int) (Int.natCast_nonneg _) (by have := HKL.out.1; omega)
    simp only [Int.toNat_natCast] at sl8 p8
    rw [← List.map_take] at p8
    have hkk : decide ((K : Int) ≤ (A.length : Int)) = true := by have := HKL.out.1; simp; omega
    have BK3 := hid (show Bs w3 0 w2.heap.size (.slice x8 K c2) (A.take K) from p8)
    clear p8
    go_wp2_with fail
    simp only [r5]
    clear sl8 r5 hD1 hD2 qL qc hkk hL1z
    refine (HR2.out w3 _ _ _ BK3.out).mono ?_
    rintro e w4 ⟨u4, rfl, k4, p4⟩
    obtain ⟨a4, c4, rfl⟩ := recs_form p4
    have K4 := hid (K3.out.trans k4)
    have B4 := hid (B3.out.kept k4 (fun _ _ _ h => h))
    have P34 := hid (P3.out.kept k4 (fun _ _ _ h => h))
    have P4 := hid p4
    clear k4 p4 K3 B3 P3 BK3 HR2
    obtain ⟨a5, sl5, p5⟩ := ps_upto tRecs15 zRecs15 P34.out P.length HCU.out.2.2.1
    have hrs := fun W (hW : Kept None w4 W) => Hr.records _ _ _ _ _ _ P (R.take P.length) W (P4.out.kept hW (fun _ _ _ h => h)) ((show Ps 12 w4 _ _ _ (recsC (R.take P.length)) from by unfold recsC; rw [List.map_take]; exact p5).kept hW (fun _ _ _ h => h)) (by have := HCU.out.2.2.1; have := HRL.out; have := HAL.out; omega)
    have hrt : recsEq P (R.take P.length) = true := by unfold recsEq; rw [← HCU.out.2.2.2.1]; simp
    rw [hrt] at hrs
    have HRS := hid hrs
    have g1 : decide ((K : Int) < (M : Int)) = false := by have := HCU.out.1; simp; omega
    have g2 : decide (K < M) = false := by have := HCU.out.1; simp; omega
    have g3 : decide ((N : Int) < (M : Int)) = false := by have := HCU.out.2.1; simp; omega
    have g4 : decide (N < M) = false := by have := HCU.out.2.1; simp; omega
    have g5 : decide ((R.length : Int) < (P.length : Int)) = false := by have := HCU.out.2.2.1; simp; omega
    have g6 : decide (R.length < P.length) = false := by have := HCU.out.2.2.1; simp; omega
    clear hrs hrt p5
    go_wp2_with (first | go_skip | fail)
    clear sl5
    refine (HRS.out w4 (Kept.refl _ _)).mono ?_
    rintro e w5 ⟨rfl, k5⟩
    have K5 := hid (K4.out.trans k5)
    have B5 := hid (B4.out.kept k5 (fun _ _ _ h => h))
    clear k5 K4 B4 HRS P34 P4
    obtain ⟨x9, sl9, p9⟩ := slice_to tBytes zBytes B5.out .i64 (M : Int) (Int.natCast_nonneg _) (by have := HKL.out.2; omega)
    simp only [Int.toNat_natCast] at sl9 p9
    rw [← List.map_take] at p9
    have BM5 := hid (show Bs w5 0 w2.heap.size (.slice x9 M c2) (A.take M) from p9)
    clear p9 g1 g2 g3 g4 g5 g6
    go_wp2_with (first | go_skip | fail)
    clear sl9
    refine (HR3.out w5 _ _ _ BM5.out).mono ?_
    rintro e w6 ⟨u6, rfl, k6, p6⟩
    obtain ⟨a6, c6, rfl⟩ := recs_form p6
    have K6 := hid (K5.out.trans k6)
    have hql := HCU.out.2.2.2.2.1
    have s1 : ((Q.length : Int) == (P.length : Int)) = true := by rw [hql]; simp
    have s2 : (Q.length == P.length) = true := by rw [hql]; simp
    by_cases hkn : K < N
    · have g1 : decide ((K : Int) < (N : Int)) = true := by simp; omega
      have g2 : decide (K < N) = true := by simpa using hkn
      clear hql hkn k6 p6 K5 B5 BM5 HR3 HCU HKL HRL
      go_wp2_with (first | go_skip | fail)
      go_ret
      exact ⟨rfl, K6.out⟩
    · have g1 : decide ((K : Int) < (N : Int)) = false := by simp; omega
      have g2 : decide (K < N) = false := by simpa using hkn
      have hpl := HCU.out.2.2.2.2.2 hkn
      have s3 : ((P.length : Int) == (R.length : Int)) = true := by rw [hpl]; simp
      have s4 : (P.length == R.length) = true := by rw [hpl]; simp
      clear hpl hql hkn k6 p6 K5 B5 BM5 HR3 HCU HKL HRL
      go_wp2_with (first | go_skip | fail)
      go_ret
      exact ⟨rfl, K6.out⟩
end P15
end Go.Proofs.Ytbebpnanhkcngaa
namespace Go.Pm
open Go Go.RowKit
/-- An own row's cells. -/
theorem Bo.opened15 {e : TypeId} {w : World} {base n cap : Nat} {a : Option Addr} {l : List UInt8} (h : Bo e w base (.slice a n cap) l) (hn : 0 < l.length) :
    ∃ g, a = some ⟨g, 0, none⟩ ∧ base ≤ g ∧ (∀ I, I < l.length → w.cell? ⟨g, I, none⟩ = some (.int .u8 (bAt l I))) ∧ (∀ I, w.frozen? ⟨g, I, none⟩ = false) := by
  rcases h.2 with ⟨_, hnil⟩ | ⟨g, cc, cur, hval, hbg, hg, hnc, hcm, hcs, htake⟩
  · exfalso
    rw [hnil] at hn
    exact absurd hn (Nat.not_lt_zero _)
  have hB : Blk w g cur e := hg
  refine ⟨g, by injection hval, hbg, fun I hI => ?_, fun I => hB.free I⟩
  rw [hB.cell, ← Array.getElem?_toList]
  have h1 : (l.map u8v)[I]? = some (.int .u8 (bAt l I)) := by rw [List.getElem?_map, List.getElem?_eq_getElem hI, Option.map_some, u8v_at l I hI]
  rw [← htake, List.getElem?_take, if_pos (by rw [Nat.mul_one]; exact hI)] at h1
  exact h1
theorem sumH15 {a m s L : Nat} (hs : s = a + m) (h : s ≤ L) (hL : L ≤ 5000) : (a : Int) + (m : Int) = (s : Int) ∧ wrap64 (s : Int) = (s : Int) := by
  unfold wrap64
  omega
end Go.Pm
namespace Go.Proofs.Ytbebpnanhkcngaa
open Go.RowKit Go.Pm
namespace P15
open Sn
set_option maxRecDepth 100000 in
set_option maxHeartbeats 16000000 in
theorem holes (hR : RecordsC) (hW : WholeC) (hC : ChooseC) (vl vm : Value) (lo hi lo' hi' : Nat) (l more : List UInt8) (k : Nat) (w : World) (hv : Bs w lo hi vl l) (hv' : Bs w lo' hi' vm more) (hk : k < 256) :
    Calls Try.prog 6 #[vl, vm, .int .u8 (k : Int)] w fun e w' => e = .returned (.bool true) ∧ Kept None w w' := by
  obtain ⟨al, cl, rfl, _⟩ := hv.shape
  obtain ⟨am, cm, rfl, _⟩ := hv'.shape
  have HK := hid (fun W => known hR hW hC W)
  by_cases hout : 8 < l.length ∨ 8 < more.length
  · by_cases h1 : 8 < l.length
    · have x1 : decide ((8 : Int) < (l.length : Int)) = true := by simp; omega
      have x2 : decide (8 < l.length) = true := by simpa using h1
      clear hout h1 hv hv' hR hW hC hk
      go_enter Try.func6, Try.ntmps6
      go_wp2_with fail
      refine (HK.out w).mono ?_
      rintro e w1 ⟨rfl, k1⟩
      clear HK
      go_wp2_with (first | go_skip | fail)
      go_ret
      exact ⟨rfl, k1⟩
    · have x1 : decide ((8 : Int) < (l.length : Int)) = false := by simp; omega
      have x2 : decide (8 < l.length) = false := by simpa using h1
      have x3 : decide ((8 : Int) < (more.length : Int)) = true := by simp; omega
      have x4 : decide (8 < more.length) = true := by simp; omega
      clear hout h1 hv hv' hR hW hC hk
      go_enter Try.func6, Try.ntmps6
      go_wp2_with fail
      refine (HK.out w).mono ?_
      rintro e w1 ⟨rfl, k1⟩
      clear HK
      go_wp2_with (first | go_skip | fail)
      go_ret
      exact ⟨rfl, k1⟩
  · have x1 : decide ((8 : Int) < (l.length : Int)) = false := by simp; omega
    have x2 : decide (8 < l.length) = false := by simp; omega
    have x3 : decide ((8 : Int) < (more.length : Int)) = false := by simp; omega
    have x4 : decide (8 < more.length) = false := by simp; omega
    have hl8 : l.length ≤ 8 := by omega
    have hm8 : more.length ≤ 8 := by omega
    have qk := wrapB (n := k) (by omega)
    obtain ⟨p1, p2, p3⟩ := pend_facts l (by omega) 0 (by omega)
    have hfx := fun W (hW : Kept None w W) => file 1 0 (.slice al l.length cl) (.slice am more.length cm) lo hi lo' hi' l more W (hv.kept hW (fun _ _ _ h => h)) (hv'.kept hW (fun _ _ _ h => h)) (by omega) (by omega)
    have hbl := baseF_le 1 0 (Seat.pendF l) (by omega)
    have p0 : rightJ (recB 1 0 (Seat.pendF l).length) = true := recB_yes15 (by decide) (by decide) (by omega)
    have HFX := hid (fun W hW => show Calls Try.prog 9 #[.int .i64 1, .slice al l.length cl, .slice am more.length cm, .int .i64 0] W fun e w' => ∃ u A, e = .returned u ∧ Kept None W w' ∧ Ob w' W.heap.size u A ∧ A.length ≤ 5000 ∧ 0 < (scanR none A).length from (hfx W hW).mono (by
      rintro e w' ⟨u, Z, h1, h2, h3, h4⟩
      exact ⟨u, _, h1, h2, h3, by rw [List.length_append]; omega, by rw [(scan_base2 Z p0 p2 p3).1]; exact Nat.succ_pos _⟩))
    have HR := hid hR
    have HQ := hid qk
    clear hout hl8 hm8 hfx hbl hv hv' hk hR hW hC p0 p1 p2 p3 qk
    go_enter Try.func6, Try.ntmps6
    go_wp2_with fail
    refine (HK.out w).mono ?_
    rintro e w1 ⟨rfl, k1⟩
    have K1 := hid k1
    clear HK k1
    go_wp2_with (first | go_skip | fail)
    clear x1 x2 x3 x4
    refine (HFX.out w1 K1.out).mono ?_
    rintro e w2 ⟨u2, A, rfl, k2, b2, hAl, hA0⟩
    obtain ⟨a2, c2, rfl⟩ := b2.form
    have K2 := hid (K1.out.trans k2)
    have B2 := hid (b2.bs (Nat.le_refl _)).all
    have HAL := hid hAl
    clear k2 b2 K1 HFX
    have hr1 := fun W v lo hi (h : Bs W lo hi v A) => HR.out v lo hi A W h (Nat.le_trans hAl (by decide))
    obtain ⟨N, hN⟩ : ∃ m, m = scanC none A := ⟨_, rfl⟩
    obtain ⟨R, hR0⟩ : ∃ m, m = scanR none A := ⟨_, rfl⟩
    have hRl : 21 * R.length ≤ A.length := by rw [hR0]; exact scanR_len none A
    rw [← hN, ← hR0] at hr1
    rw [← hR0] at hA0
    obtain ⟨I, hI⟩ : ∃ m, m = k % R.length := ⟨_, rfl⟩
    have hIR : I < R.length := by rw [hI]; exact Nat.mod_lt _ hA0
    have r5 : (k : Int) % (R.length : Int) = (I : Int) := by rw [hI]; simp
    have hD1 : ((R.length : Int) == 0) = false := by
      have : ¬ R.length = 0 := by omega
      simpa using this
    have hD2 : ¬ (R.length : Int) = 0 := by omega
    have hD3 : (R.length == 0) = false := by
      have : ¬ R.length = 0 := by omega
      simpa using this
    have qR := wrapB (n := R.length) (by omega)
    have HR1 := hid hr1
    have HR0 := hid hR0
    have HNN := hid hN
    have HIR := hid hIR
    have HRL := hid hRl
    clear hAl hA0 hr1 hN hR0 hRl hI hIR
    go_wp2_with fail
    refine (HR1.out w2 _ _ _ B2.out).mono ?_
    rintro e w3 ⟨u3, rfl, k3, p3⟩
    obtain ⟨a3, c3, rfl⟩ := recs_form p3
    have K3 := hid (K2.out.trans k3)
    have B3 := hid (B2.out.kept k3 (fun _ _ _ h => h))
    have P3 := hid p3
    clear k3 p3 K2 B2 HR1
    obtain ⟨qk1, qk2⟩ := HQ.out
    obtain ⟨qr1, qr2⟩ := qR
    go_upto_region 9 with fail
    go_quiet (fail)
    clear hD1 hD2 hD3 qk1 qk2 qr1 qr2
    (try simp only [r5])
    clear r5
    have hkq := Kept.toDrewN None w3 nq
    have K4 := hid (K3.out.trans hkq)
    have B4 := hid (B3.out.kept hkq (fun _ _ _ h => h))
    have P4 := hid (P3.out.kept hkq (fun _ _ _ h => h))
    obtain ⟨w4, hw4⟩ : ∃ w4, w4 = w3.drewN nq := ⟨_, rfl⟩
    rw [← hw4] at K4 B4 P4 ⊢
    clear hkq hw4 K3 B3 P3
    go_wp2_with fail
    go_loopg [10, 12] I (fun kx s10 s12 wr => ∃ (j at_ : Nat), s10 = .int .i64 (at_ : Int) ∧ s12 = .int .i64 (j : Int) ∧ j ≤ I ∧ I - j ≤ kx ∧ Hid (at_ = atJ A j ∧ at_ ≤ A.length) ∧ Hid (Kept None w4 wr))
    case atStart => exact ⟨0, 0, rfl, rfl, Nat.zero_le _, Nat.le_refl _, hid ⟨rfl, Nat.zero_le _⟩, hid (Kept.refl _ _)⟩
    case round =>
    obtain ⟨j, at_, rfl, rfl, hj, hjx, HAT, HS⟩ := hrel
    have hBr := B4.out.kept HS.out (fun _ _ _ h => h)
    have HBR := hid hBr
    clear hBr
    by_cases hlt : j < I
    · have hlt' : decide ((j : Int) < (I : Int)) = true := by simpa using hlt
      have hlt2 : decide (j < I) = true := by simpa using hlt
      have hjr : j < R.length := (by have := HIR.out; omega)
      have he := read_at j none A (by rw [← HR0.out]; exact hjr)
      have hn := readJ_n he
      rw [List.length_drop] at hn
      obtain ⟨x5, sl5, p5⟩ := slice_from tBytes zBytes HBR.out .i64 (at_ : Int) (Int.natCast_nonneg _) (by have := HAT.out.2; omega)
      simp only [Int.toNat_natCast] at sl5 p5
      rw [← List.map_drop] at p5
      have hrd := R12.rread _ _ _ (A.drop at_) wr p5 (by have := HAL.out; rw [List.length_drop]; omega)
      have hat := HAT.out.1
      rw [← hat] at he hn
      obtain ⟨⟨⟨x0, x1, x2, x3, ⟨xn, xv, xk, xc, xr, xs⟩, xt, xe⟩, M, E⟩, hJ⟩ : ∃ z, z = readJ (A.drop at_) := ⟨_, rfl⟩
      rw [← hJ] at hrd he hn
      simp only at hrd he hn
      obtain rfl : E = 0 := he
      have HRD := hid hrd
      unfold Rec.V Rec.C at HRD
      have HJ := hid hJ
      have HN := hid hn
      have hdec : decide ((at_ : Int) ≤ (A.length : Int)) = true := by have := HAT.out.2; simp; omega
      clear hjr hn hrd hat hJ p5
      obtain ⟨S, hS⟩ : ∃ s, s = at_ + M := ⟨_, rfl⟩
      have hSA : S = atJ A (j + 1) := by rw [atJ_next, ← HAT.out.1, ← HJ.out, hS]
      have hSl : S ≤ A.length := by have := HN.out.2; have := HAT.out.2; omega
      obtain ⟨hs1, hs2⟩ := sumH15 hS hSl HAL.out
      have HSS := hid (And.intro hSA hSl)
      have HW2 := hid hs2
      have wi := (wrapB (n := j + 1) (by have := HIR.out; have := HRL.out; have := HAL.out; omega)).1
      have wi1 : wrap64 ((j : Int) + 1) = ((j + 1 : Nat) : Int) := wi
      have HWI := hid wi1
      clear hS hSA hSl wi wi1
      go_wp2_with fail
      refine HRD.out.mono ?_
      rintro e w5 ⟨rfl, k5⟩
      have K5 := hid ((HS.out.trans k5).alloc (.cells #[.int .i64 x0, .int .i64 x1, .int .i64 x2, .int .i64 x3, .string xn, .int .i64 xv, .int .u64 (xk : Int), .int .i64 xc, .int .u64 (xr : Int), .int .u64 (xs : Int), .int .i64 xt, .int .i64 xe] 45))
      clear k5 sl5 hdec HRD
      go_wp2_with fail
      go_roundg (I - (j + 1))
      case measure => omega
      case rel => exact ⟨j + 1, S, by first | rfl | rw [HW2.out], by first | rfl | rw [HWI.out] | simp, hlt, Nat.le_refl _, HSS, K5⟩
    · have hlt' : decide ((j : Int) < (I : Int)) = false := by simpa using hlt
      have hlt2 : decide (j < I) = false := by simpa using hlt
      obtain rfl : j = I := by omega
      obtain ⟨wo, rfl⟩ : ∃ wo : World, wo = wr := ⟨_, rfl⟩
      have hjr : j < R.length := HIR.out
      have he := read_at j none A (by rw [← HR0.out]; exact hjr)
      have hn := readJ_n he
      rw [List.length_drop] at hn
      obtain ⟨x5, sl5, p5⟩ := slice_from tBytes zBytes HBR.out .i64 (at_ : Int) (Int.natCast_nonneg _) (by have := HAT.out.2; omega)
      simp only [Int.toNat_natCast] at sl5 p5
      rw [← List.map_drop] at p5
      have hrd := R12.rread _ _ _ (A.drop at_) wo p5 (by have := HAL.out; rw [List.length_drop]; omega)
      have hat := HAT.out.1
      rw [← hat] at he hn
      obtain ⟨⟨⟨y0, y1, y2, y3, ⟨yn, yv, yk, yc, yr, ys⟩, yt, ye⟩, M, E⟩, hJ⟩ : ∃ z, z = readJ (A.drop at_) := ⟨_, rfl⟩
      rw [← hJ] at hrd he hn
      simp only at hrd he hn
      obtain rfl : E = 0 := he
      have HRD := hid hrd
      unfold Rec.V Rec.C at HRD
      have HJ := hid hJ
      have HN := hid hn
      have hdec : decide ((at_ : Int) ≤ (A.length : Int)) = true := by have := HAT.out.2; simp; omega
      clear hjr hn hrd hat hJ p5
      have hh := holes15 (a := A) (i := j) (by rw [← HR0.out]; exact HIR.out)
      rw [← HAT.out.1, ← HJ.out] at hh
      simp only at hh
      rw [← HR0.out, ← HNN.out] at hh
      obtain ⟨S, hS⟩ : ∃ s, s = at_ + M := ⟨_, rfl⟩
      rw [← hS] at hh
      obtain ⟨hs1, hs2⟩ := sumH15 hS hh.2.2.1 HAL.out
      have HHH := hid hh
      have HSS := hid hS
      have hR2 := fun W v lo hi (h : Bs W lo hi v (zset A at_ S)) => HR.out v lo hi _ W h (by rw [zset_len (by rw [hS]; exact Nat.le_add_right _ _) hh.2.2.1]; exact Nat.le_trans HAL.out (by decide))
      rw [hh.2.2.2.1, hh.2.2.2.2] at hR2
      have HR2 := hid hR2
      have HSW := hid (And.intro hs1 hs2)
      clear hlt hj hjx hh hS hR2
      go_wp2_with fail
      refine HRD.out.mono ?_
      rintro e w5 ⟨rfl, k5⟩
      have K5 := hid ((HS.out.trans k5).alloc (.cells #[.int .i64 y0, .int .i64 y1, .int .i64 y2, .int .i64 y3, .string yn, .int .i64 yv, .int .u64 (yk : Int), .int .i64 yc, .int .u64 (yr : Int), .int .u64 (ys : Int), .int .i64 yt, .int .i64 ye] 45))
      have B5 := hid ((HBR.out.kept k5 (fun _ _ _ h => h)).kept ((Kept.refl None w5).alloc (.cells #[.int .i64 y0, .int .i64 y1, .int .i64 y2, .int .i64 y3, .string yn, .int .i64 yv, .int .u64 (yk : Int), .int .i64 yc, .int .u64 (yr : Int), .int .u64 (ys : Int), .int .i64 yt, .int .i64 ye] 45)) (fun _ _ _ h => h))
      clear k5 sl5 hdec HRD hlt' hlt2
      go_upto_region 16 with fail
      obtain ⟨w6, hw6⟩ : ∃ w6, w6 = w5.alloc (.cells #[.int .i64 y0, .int .i64 y1, .int .i64 y2, .int .i64 y3, .string yn, .int .i64 yv, .int .u64 (yk : Int), .int .i64 yc, .int .u64 (yr : Int), .int .u64 (ys : Int), .int .i64 yt, .int .i64 ye] 45) := ⟨_, rfl⟩
      rw [← hw6] at K5 B5 ⊢
      clear hw6 HBR HS
      have hn0 : Ob w6 w6.heap.size (.slice none 0 0) [] := Bo.nil _ _ _
      have hu0 : Bs w6 0 w6.heap.size (.slice a2 A.length c2) A := B5.out.all
      have hln : ([] : List UInt8).length + A.length ≤ 140737488355328 := by have := HAL.out; simp; omega
      go_wp2_with (first | (refine wpList_append_bo rfl _ _ 22 rfl rtBytes rfl rfl hn0 hu0 hln (Nat.le_refl _) ?_; intro a7 n7 c7 w7 hB7 hK7) | fail)
      rw [List.nil_append] at hB7
      have hK67 : Kept None w6 w7 := hK7.mono (fun k _ h => by cases h)
      obtain ⟨_, _, hfm⟩ := hB7.form
      obtain rfl : n7 = A.length := by injection hfm
      have hpos : 0 < A.length := by have := HHH.out.1; have := HHH.out.2.2.1; have := HSS.out; omega
      obtain ⟨g, rfl, hbg, _, _⟩ := hB7.opened15 hpos
      have KL := hid (K4.out.trans (K5.out.trans hK67))
      have HB7 := hid (show Ob w7 w6.heap.size (.slice (some ⟨g, 0, none⟩) A.length c7) (zset A at_ at_) by rw [zset_zero]; exact hB7)
      have HBG := hid hbg
      have H6 := hid (show w.heap.size ≤ w6.heap.size from (K4.out.trans K5.out).size)
      have H67 := hid hK67.size
      have P7 := hid ((P4.out.kept K5.out (fun _ _ _ h => h)).all15.kept hK67 (fun _ _ _ h => h))
      clear hn0 hu0 hln hB7 hK7 hK67 hfm hpos hbg K5 B5 hs1 hs2
      go_loopg [20] S (fun kx s20 wr => ∃ t : Nat, s20 = .int .i64 (t : Int) ∧ at_ ≤ t ∧ t ≤ S ∧ S - t ≤ kx ∧ Hid (Kept None w wr) ∧ Hid (Ob wr w6.heap.size (.slice (some ⟨g, 0, none⟩) A.length c7) (zset A at_ t)) ∧ Hid (Kept (Just g) w7 wr))
      case atStart => exact ⟨at_, rfl, Nat.le_refl _, by have := HSS.out; omega, by omega, KL, HB7, hid (Kept.refl _ _)⟩
      case round =>
      obtain ⟨t, rfl, ht0, htS, htx, HS2, HO2, HG2⟩ := hrel
      obtain ⟨hs1, hs2⟩ := HSW.out
      by_cases hlt3 : t < S
      · have hlt' : decide ((t : Int) < (S : Int)) = true := by simpa using hlt3
        have hlt2 : decide (t < S) = true := by simpa using hlt3
        have htA : t < A.length := Nat.lt_of_lt_of_le hlt3 HHH.out.2.2.1
        have hzl : (zset A at_ t).length = A.length := zset_len ht0 (Nat.le_of_lt htA)
        obtain ⟨g', hg', _, hcl, hfr⟩ := HO2.out.opened15 (by omega)
        obtain rfl : g = g' := by injection hg' with e; injection e
        have hcell := hcl t (by omega)
        have hfree := hfr t
        have hib : (t : Int) < (A.length : Int) := Int.ofNat_lt.mpr htA
        have hset := HO2.out.set t 0 (by decide) (by decide)
        have hb0 : Go.Pm.byteOf 0 = 0 := by decide
        rw [hb0, zset_step ht0 htA] at hset
        have HSET := hid hset
        have HLT := hid (And.intro hlt3 ht0)
        have wi := (wrapB (n := t + 1) (by have := HAL.out; omega)).1
        have wi1 : wrap64 ((t : Int) + 1) = ((t + 1 : Nat) : Int) := wi
        have HWI := hid wi1
        clear htA hzl hg' hcl hfr hset hb0 wi wi1 hlt3
        go_wp2_with fail
        obtain ⟨wm, hwm⟩ : ∃ wm, wm = wr.setCell ⟨g, t, none⟩ (.int .u8 0) := ⟨_, rfl⟩
        have hst := HSET.out
        have hko := Kept.one wr g t (.int .u8 0)
        rw [← hwm] at hst hko ⊢
        have KM := hid (HS2.out.then hko (fun q hq (h : q = g) => by have := HBG.out; have := H6.out; omega))
        have HM := hid hst
        have HG3 := hid (HG2.out.trans hko)
        clear hwm hst hko HSET hcell hfree hs1 hs2 hlt' hlt2
        (try go_wp2_with fail)
        go_roundg (S - (t + 1))
        case measure => have := HLT.out.1; omega
        case rel => exact ⟨t + 1, by first | rfl | rw [HWI.out] | simp, by have := HLT.out.2; omega, HLT.out.1, Nat.le_refl _, KM, HM, HG3⟩
      · have hlt' : decide ((t : Int) < (S : Int)) = false := by simpa using hlt3
        have hlt2 : decide (t < S) = false := by simpa using hlt3
        obtain rfl : t = S := Nat.le_antisymm htS (Nat.le_of_not_lt hlt3)
        obtain ⟨wq, rfl⟩ : ∃ wq : World, wq = wr := ⟨_, rfl⟩
        have hz := HO2.out.bs (Nat.le_refl _)
        have HZ := hid hz
        have P8 := hid (P7.out.kept HG2.out (fun q _ hq (h : q = g) => by have := HBG.out; omega))
        have KQ := hid HS2.out
        clear hlt3 ht0 htS htx hz HS2 HO2 HG2 P7 KL HB7
        go_wp2_with fail
        clear hlt' hlt2
        refine (HR2.out wq _ _ _ HZ.out).mono ?_
        rintro e w8 ⟨u8, rfl, k8, p8⟩
        obtain ⟨a8, c8, rfl⟩ := recs_form p8
        have K8 := hid (KQ.out.trans k8)
        have P9 := hid (P8.out.kept k8 (fun _ _ _ h => h))
        have Q9 := hid p8
        have hlj : (R.take j).length = j := by rw [List.length_take]; have := HIR.out; omega
        clear k8 p8 KQ P8 HZ HR2
        obtain ⟨a5, sl5, p5⟩ := ps_upto tRecs15 zRecs15 P9.out j (Nat.le_of_lt HIR.out)
        have hrs := fun W (hW : Kept None w8 W) => Hr.records _ _ _ _ _ _ (R.take j) (R.take j) W (Q9.out.kept hW (fun _ _ _ h => h)) ((show Ps 12 w8 _ _ _ (recsC (R.take j)) from by unfold recsC; rw [List.map_take]; exact p5).kept hW (fun _ _ _ h => h)) (by rw [hlj]; have := HIR.out; have := HRL.out; have := HAL.out; omega)
        have hrt : recsEq (R.take j) (R.take j) = true := by unfold recsEq; simp
        rw [hrt, hlj] at hrs
        have HRS := hid hrs
        have s1 : (((R.take j).length : Int) == (j : Int)) = true := by rw [hlj]; simp
        have s2 : ((R.take j).length == j) = true := by rw [hlj]; simp
        have g1 : decide ((t : Int) ≤ (N : Int)) = true := by have := HHH.out.2.1; simp; omega
        have g2 : decide (t ≤ N) = true := by have := HHH.out.2.1; simpa using this
        clear hrs hrt p5
        simp only [hlj]
        clear hlj
        go_wp2_with (first | go_skip | fail)
        clear sl5
        refine (HRS.out w8 (Kept.refl _ _)).mono ?_
        rintro e w9 ⟨rfl, k9⟩
        have K9 := hid (K8.out.trans k9)
        clear k9 K8 HRS Q9 P9
        go_wp2_with (first | go_skip | fail)
        go_ret
        exact ⟨rfl, K9.out⟩
end P15
end Go.Proofs.Ytbebpnanhkcngaa
namespace Go.Proofs.Ytbebpnanhkcngaa
open Go.ChangeShapes Go.WideShapes Go.ChangeAt Go.RowKit Go.Pm

theorem laidOut : laidOutB Try.prog = true := by kernel_rfl
theorem ownKnobs : ownKnob Try.prog.godebug = none := by kernel_rfl
theorem rBool : Try.prog.underlying 4 = some .bool := by kernel_rfl
theorem rU8 : Try.prog.underlying 5 = some (.int .u8) := by kernel_rfl
theorem cByte : Try.prog.cellsOf 5 = 1 := by kernel_rfl

set_option maxRecDepth 100000 in
theorem scanHoles_lifted (os : Os) (started : os.Started) (H : Type) (enc : TypeId × Value → H) :
    ReturnsInHanded {} Try.checked os 6 .any (Rows.scanHolesSpec.pre6 enc Try.prog Try.f6 Rows.scanHolesRow.domain false) (Rows.scanHolesSpec.post enc Try.prog Try.f6 false true false false) := by
  refine returnsInHanded_of_change (C := Try.checked) ownKnobs started (by kernel_rfl) Try.func6
    (ChangeSpec.witness6 (enc := enc) (C := Try.checked) false ⟨#[], #[.slice none 0 0, .slice none 0 0, .int .u8 0], []⟩ 8 (by kernel_rfl) (by kernel_rfl) (by kernel_rfl) (by kernel_rfl)) ?_
  intro W base args ds gs before hval0 hW _ _
  have hval : ∀ (j : Nat) t v, Try.f6.params[j]? = some t → args[j]? = some v → Value.okWide Try.prog W .any base t v := hval0
  have hlt : ∀ x ∈ before, x.block < W.heap.size := fun x hx => by simpa using hW.lt x hx
  have hW' := hW
  obtain ⟨p, q, hA0, hV, rfl, hfz, hnd⟩ := hW
  obtain ⟨rfl, rfl⟩ := trodVars_none hV
  have hA : DataW.TrodAll enc Try.prog W 0 (fun _ => true) true Try.f6.params.toList args.toList ds p := hA0
  rw [Try.params6] at hA hval
  obtain ⟨v0, v1, v2, d0, d1, d2, p0, p1, p2, rfl, rfl, rfl, h0, h1, h2⟩ := trodAll_three hA
  obtain ⟨l, hl⟩ := openBs tBytes' tByte cByte (hval 0 22 v0 rfl rfl) h0 (fun x hx => hlt x (by simp [hx]))
  obtain ⟨more, hmore⟩ := openBs tBytes' tByte cByte (hval 1 22 v1 rfl rfl) h1 (fun x hx => hlt x (by simp [hx]))
  obtain ⟨k, rfl, b2⟩ := openNat_u8 rU8 (hval 2 5 v2 rfl rfl) h2
  refine (P15.holes Sn.records Sn.whole Sn.choose v0 v1 _ _ _ _ l more k W hl hmore b2).mono fun e W' ⟨he, hk⟩ => ?_
  subst he
  exact ⟨_, rfl, law_post (P := Try.prog) (f := Try.f6) rfl rfl rBool laidOut (by kernel_rfl) hW' rfl rfl rfl (hk.below (fun _ _ h => h))⟩

theorem scanHoles_holds : Rows.ScanHolesSaid :=
  OpenClaim.holds_of_wide 6 Try.f6 rfl rfl rfl rfl rfl rfl rfl ⟨rfl, rfl, rfl, rfl, rfl⟩ rfl rfl rfl rfl rfl (by kernel_rfl) Try.func6 (by kernel_rfl)
    (of_decide_eq_true (by kernel_rfl)) (by unfold Func.isWrapper; first | (rw [if_pos (by decide +kernel)]; kernel_rfl) | (rw [if_neg (by decide +kernel)]; exact ⟨rfl, rfl⟩))
    (fun os started H enc _ => scanHoles_lifted os started H enc)
end Go.Proofs.Ytbebpnanhkcngaa
