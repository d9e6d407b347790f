/- Rows.ScanTellsSaid: what any journals still say, and which one counts, is the document's, whatever the journals and what was done to them. No condition. -/
import Derived.Test.YtbebpnanhkcngaaPk5
import Derived.Test.YtbebpnanhkcngaaPk2
import Derived.Test.YtbebpnanhkcngaaPk6
import Derived.Deep.QuietTactic
import Derived.BigQuiet
import Derived.Test.YtbebpnanhkcngaaPk7
import Derived.Deep.CutRange
import Derived.Test.YtbebpnanhkcngaaRows
import Derived.Test.YtbebpnanhkcngaaPk8
namespace Go.Pm
open Go Go.RowKit
theorem Ps.all15 {k : Nat} {w : World} {lo hi : Nat} {v : Value} {xs : List (List Value)} (h : Ps k w lo hi v xs) : Ps k w 0 w.heap.size v xs := h.lt.wider (Nat.zero_le _) (Nat.min_le_right _ _)
theorem ps_upto {k : Nat} {P : Program} {t : TypeId} (ht : P.underlying t = some (.slice (P.elem t))) (hz : ∀ W, (sizeOf (P.elem t)).run P W = .ok k W) {w : World} {lo hi : Nat} {a : Option Addr} {n cap : Nat} {xs : List (List Value)} (h : Ps k w lo hi (.slice a n cap) xs) (i : Nat) (h1 : i ≤ n) :
    ∃ a', (∀ W, (Instr.slice t (.slice a n cap) none (some (.int .i64 (i : Int))) none).run P W = .ok (.slice a' i cap) W) ∧ Ps k w lo hi (.slice a' i cap) (xs.take i) := by
  have hc : n ≤ cap := by obtain ⟨a', cap', hv, hc, _⟩ := h.form; injection hv; omega
  refine ⟨if cap = 0 then a else a.map (·.add (0 * k)), fun W => ?_, ?_⟩
  · rw [run_slice_h (P := P) W t a n cap ht .i64 (i : Int) (Int.natCast_nonneg _) (by omega), hz]
    simp only [Result.andThen, Go.sliced, Nat.sub_zero, Int.toNat_natCast]
  · have := Ps.sliced h 0 i (Nat.zero_le _) h1
    simpa using this
end Go.Pm
namespace Go.Proofs.Ytbebpnanhkcngaa
open Go.RowKit Go.Pm
namespace P15
open Sn
theorem tRecs15 : Try.prog.underlying 27 = some (.slice (Try.prog.elem 27)) := by kernel_rfl
theorem zRecs15 : ∀ W, (sizeOf (Try.prog.elem 27)).run Try.prog W = .ok 12 W := fun _ => by kernel_rfl
theorem recs_form {w : World} {lo hi : Nat} {v : Value} {l : List Rec} (h : Ps 12 w lo hi v (recsC l)) : ∃ a c, v = .slice a l.length c := by
  obtain ⟨a, c, h1, _⟩ := h.form
  rw [recsC_len] at h1
  exact ⟨a, c, h1⟩
set_option maxRecDepth 100000 in
set_option maxHeartbeats 16000000 in
theorem cuts (hR : RecordsC) (hW : WholeC) (hC : ChooseC) (gen : Int) (vl vm : Value) (lo hi lo' hi' : Nat) (l more : List UInt8) (at_ : Nat) (w : World) (hv : Bs w lo hi vl l) (hv' : Bs w lo' hi' vm more) (hat : at_ < 65536) :
    Calls Try.prog 4 #[.int .i64 gen, vl, vm, .int .u16 (at_ : Int)] w fun e w' => e = .returned (.bool true) ∧ Kept None w w' := by
  obtain ⟨al, cl, rfl, _⟩ := hv.shape
  obtain ⟨am, cm, rfl, _⟩ := hv'.shape
  have HK := hid (fun W => known hR hW hC W)
  by_cases hout : 8 < l.length ∨ 8 < more.length
  · by_cases h1 : 8 < l.length
    · have x1 : decide ((8 : Int) < (l.length : Int)) = true := by simp; omega
      have x2 : decide (8 < l.length) = true := by simpa using h1
      clear hout h1 hv hv' hR hW hC hat
      go_enter Try.func4, Try.ntmps4
      go_wp2_with fail
      refine (HK.out w).mono ?_
      rintro e w1 ⟨rfl, k1⟩
      clear HK
      go_wp2_with (first | go_skip | fail)
      go_ret
      exact ⟨rfl, k1⟩
    · have x1 : decide ((8 : Int) < (l.length : Int)) = false := by simp; omega
      have x2 : decide (8 < l.length) = false := by simpa using h1
      have x3 : decide ((8 : Int) < (more.length : Int)) = true := by simp; omega
      have x4 : decide (8 < more.length) = true := by simp; omega
      clear hout h1 hv hv' hR hW hC hat
      go_enter Try.func4, Try.ntmps4
      go_wp2_with fail
      refine (HK.out w).mono ?_
      rintro e w1 ⟨rfl, k1⟩
      clear HK
      go_wp2_with (first | go_skip | fail)
      go_ret
      exact ⟨rfl, k1⟩
  · have x1 : decide ((8 : Int) < (l.length : Int)) = false := by simp; omega
    have x2 : decide (8 < l.length) = false := by simp; omega
    have x3 : decide ((8 : Int) < (more.length : Int)) = false := by simp; omega
    have x4 : decide (8 < more.length) = false := by simp; omega
    have hl8 : l.length ≤ 8 := by omega
    have hm8 : more.length ≤ 8 := by omega
    obtain ⟨g, hg⟩ : ∃ z, z = bits .and .i64 gen 255 := ⟨_, rfl⟩
    have rg := hg.symm
    have qc := (wrapB (n := at_) (by omega)).1
    have hfx := fun W (hW : Kept None w W) => file g 0 (.slice al l.length cl) (.slice am more.length cm) lo hi lo' hi' l more W (hv.kept hW (fun _ _ _ h => h)) (hv'.kept hW (fun _ _ _ h => h)) (by omega) (by omega)
    have hbl := baseF_le g 0 (Seat.pendF l) (by rw [show (Seat.pendF l).length = l.length from Seat.pendN_len l _]; omega)
    have HFX := hid (fun W hW => show Calls Try.prog 9 #[.int .i64 g, .slice al l.length cl, .slice am more.length cm, .int .i64 0] W fun e w' => ∃ u A, e = .returned u ∧ Kept None W w' ∧ Ob w' W.heap.size u A ∧ A.length ≤ 5000 from (hfx W hW).mono (by
      rintro e w' ⟨u, Z, h1, h2, h3, h4⟩
      exact ⟨u, _, h1, h2, h3, by rw [List.length_append]; omega⟩))
    have HR := hid hR
    clear hout hl8 hm8 hfx hbl hg hv hv' hat hR hW hC
    go_enter Try.func4, Try.ntmps4
    go_wp2_with fail
    refine (HK.out w).mono ?_
    rintro e w1 ⟨rfl, k1⟩
    have K1 := hid k1
    clear HK k1
    go_wp2_with (first | go_skip | fail)
    clear x1 x2 x3 x4 rg
    refine (HFX.out w1 K1.out).mono ?_
    rintro e w2 ⟨u2, A, rfl, k2, b2, hAl⟩
    obtain ⟨a2, c2, rfl⟩ := b2.form
    have K2 := hid (K1.out.trans k2)
    have B2 := hid (b2.bs (Nat.le_refl _)).all
    have HAL := hid hAl
    clear k2 b2 K1 HFX hAl
    obtain ⟨L1, hL1⟩ : ∃ m, m = A.length + 1 := ⟨_, rfl⟩
    have hL1z : (A.length : Int) + 1 = (L1 : Int) := by omega
    have qL := (wrapB (n := L1) (by have := HAL.out; omega)).1
    obtain ⟨K, hK⟩ : ∃ m, m = at_ % L1 := ⟨_, rfl⟩
    have hKl : K ≤ A.length := by have := Nat.mod_lt at_ (show 0 < L1 by omega); omega
    have r5 : (at_ : Int) % (L1 : Int) = (K : Int) := by rw [hK]; simp
    have hD1 : ((L1 : Int) == 0) = false := by
      have : ¬ L1 = 0 := by omega
      simpa using this
    have hD2 : ¬ (L1 : Int) = 0 := by omega
    have hcut := cuts15 A K
    have h5 : A.length ≤ 1000000000 := by have := HAL.out; omega
    have hr1 := fun W v lo hi (h : Bs W lo hi v A) => HR.out v lo hi A W h h5
    have hr2 := fun W v lo hi (h : Bs W lo hi v (A.take K)) => HR.out v lo hi _ W h (by rw [List.length_take]; omega)
    have hr3 := fun W v lo hi (h : Bs W lo hi v (A.take (scanC none (A.take K)))) => HR.out v lo hi _ W h (by rw [List.length_take]; omega)
    have hml : scanC none (A.take K) ≤ A.length := Nat.le_trans hcut.1 hKl
    obtain ⟨N, hN⟩ : ∃ m, m = scanC none A := ⟨_, rfl⟩
    obtain ⟨M, hM⟩ : ∃ m, m = scanC none (A.take K) := ⟨_, rfl⟩
    obtain ⟨R, hR0⟩ : ∃ m, m = scanR none A := ⟨_, rfl⟩
    obtain ⟨P, hP⟩ : ∃ m, m = scanR none (A.take K) := ⟨_, rfl⟩
    rw [← hM] at hcut hr2 hr3 hml
    rw [← hN] at hcut hr1
    rw [← hR0] at hcut hr1
    rw [← hP] at hcut hr2
    have hRl : 21 * R.length ≤ A.length := by rw [hR0]; exact scanR_len none A
    obtain ⟨Q, hQ⟩ : ∃ m, m = scanR none (A.take M) := ⟨_, rfl⟩
    obtain ⟨O, hO⟩ : ∃ m, m = scanC none (A.take M) := ⟨_, rfl⟩
    rw [← hQ, ← hO] at hr3
    rw [← hQ] at hcut
    have HR1 := hid hr1
    have HR2 := hid hr2
    have HR3 := hid hr3
    have HCU := hid hcut
    have HKL := hid (And.intro hKl hml)
    have HRL := hid hRl
    clear hL1 hK hKl hcut h5 hr1 hr2 hr3 hml hN hM hR0 hP hRl hQ hO
    go_wp2_with fail
    refine (HR1.out w2 _ _ _ B2.out).mono ?_
    rintro e w3 ⟨u3, rfl, k3, p3⟩
    obtain ⟨a3, c3, rfl⟩ := recs_form p3
    have K3 := hid (K2.out.trans k3)
    have B3 := hid (B2.out.kept k3 (fun _ _ _ h => h))
    have P3 := hid p3
    clear k3 p3 K2 B2 HR1
    obtain ⟨x8, sl8, p8⟩ := slice_to tBytes zBytes B3.out .i64 (K : Int) (Int.natCast_nonneg _) (by have := HKL.out.1; omega)
    simp only [Int.toNat_natCast] at sl8 p8
    rw [← List.map_take] at p8
    have hkk : decide ((K : Int) ≤ (A.length : Int)) = true := by have := HKL.out.1; simp; omega
    have BK3 := hid (show Bs w3 0 w2.heap.size (.slice x8 K c2) (A.take K) from p8)
    clear p8
    go_wp2_with fail
    simp only [r5]
    clear sl8 r5 hD1 hD2 qL qc hkk hL1z
    refine (HR2.out w3 _ _ _ BK3.out).mono ?_
    rintro e w4 ⟨u4, rfl, k4, p4⟩
    obtain ⟨a4, c4, rfl⟩ := recs_form p4
    have K4 := hid (K3.out.trans k4)
    have B4 := hid (B3.out.kept k4 (fun _ _ _ h => h))
    have P34 := hid (P3.out.kept k4 (fun _ _ _ h => h))
    have P4 := hid p4
    clear k4 p4 K3 B3 P3 BK3 HR2
    obtain ⟨a5, sl5, p5⟩ := ps_upto tRecs15 zRecs15 P34.out P.length HCU.out.2.2.1
    have hrs := fun W (hW : Kept None w4 W) => Hr.records _ _ _ _ _ _ P (R.take P.length) W (P4.out.kept hW (fun _ _ _ h => h)) ((show Ps 12 w4 _ _ _ (recsC (R.take P.length)) from by unfold recsC; rw [List.map_take]; exact p5).kept hW (fun _ _ _ h => h)) (by have := HCU.out.2.2.1; have := HRL.out; have := HAL.out; omega)
    have hrt : recsEq P (R.take P.length) = true := by unfold recsEq; rw [← HCU.out.2.2.2.1]; simp
    rw [hrt] at hrs
    have HRS := hid hrs
    have g1 : decide ((K : Int) < (M : Int)) = false := by have := HCU.out.1; simp; omega
    have g2 : decide (K < M) = false := by have := HCU.out.1; simp; omega
    have g3 : decide ((N : Int) < (M : Int)) = false := by have := HCU.out.2.1; simp; omega
    have g4 : decide (N < M) = false := by have := HCU.out.2.1; simp; omega
    have g5 : decide ((R.length : Int) < (P.length : Int)) = false := by have := HCU.out.2.2.1; simp; omega
    have g6 : decide (R.length < P.length) = false := by have := HCU.out.2.2.1; simp; omega
    clear hrs hrt p5
    go_wp2_with (first | go_skip | fail)
    clear sl5
    refine (HRS.out w4 (Kept.refl _ _)).mono ?_
    rintro e w5 ⟨rfl, k5⟩
    have K5 := hid (K4.out.trans k5)
    have B5 := hid (B4.out.kept k5 (fun _ _ _ h => h))
    clear k5 K4 B4 HRS P34 P4
    obtain ⟨x9, sl9, p9⟩ := slice_to tBytes zBytes B5.out .i64 (M : Int) (Int.natCast_nonneg _) (by have := HKL.out.2; omega)
    simp only [Int.toNat_natCast] at sl9 p9
    rw [← List.map_take] at p9
    have BM5 := hid (show Bs w5 0 w2.heap.size (.slice x9 M c2) (A.take M) from p9)
    clear p9 g1 g2 g3 g4 g5 g6
    go_wp2_with (first | go_skip | fail)
    clear sl9
    refine (HR3.out w5 _ _ _ BM5.out).mono ?_
    rintro e w6 ⟨u6, rfl, k6, p6⟩
    obtain ⟨a6, c6, rfl⟩ := recs_form p6
    have K6 := hid (K5.out.trans k6)
    have hql := HCU.out.2.2.2.2.1
    have s1 : ((Q.length : Int) == (P.length : Int)) = true := by rw [hql]; simp
    have s2 : (Q.length == P.length) = true := by rw [hql]; simp
    by_cases hkn : K < N
    · have g1 : decide ((K : Int) < (N : Int)) = true := by simp; omega
      have g2 : decide (K < N) = true := by simpa using hkn
      clear hql hkn k6 p6 K5 B5 BM5 HR3 HCU HKL HRL
      go_wp2_with (first | go_skip | fail)
      go_ret
      exact ⟨rfl, K6.out⟩
    · have g1 : decide ((K : Int) < (N : Int)) = false := by simp; omega
      have g2 : decide (K < N) = false := by simpa using hkn
      have hpl := HCU.out.2.2.2.2.2 hkn
      have s3 : ((P.length : Int) == (R.length : Int)) = true := by rw [hpl]; simp
      have s4 : (P.length == R.length) = true := by rw [hpl]; simp
      clear hpl hql hkn k6 p6 K5 B5 BM5 HR3 HCU HKL HRL
      go_wp2_with (first | go_skip | fail)
      go_ret
      exact ⟨rfl, K6.out⟩
end P15
end Go.Proofs.Ytbebpnanhkcngaa
namespace Go.Pm
open Go Go.RowKit
/-- An own row's cells. -/
theorem Bo.opened15 {e : TypeId} {w : World} {base n cap : Nat} {a : Option Addr} {l : List UInt8} (h : Bo e w base (.slice a n cap) l) (hn : 0 < l.length) :
    ∃ g, a = some ⟨g, 0, none⟩ ∧ base ≤ g ∧ (∀ I, I < l.length → w.cell? ⟨g, I, none⟩ = some (.int .u8 (bAt l I))) ∧ (∀ I, w.frozen? ⟨g, I, none⟩ = false) := by
  rcases h.2 with ⟨_, hnil⟩ | ⟨g, cc, cur, hval, hbg, hg, hnc, hcm, hcs, htake⟩
  · exfalso
    rw [hnil] at hn
    exact absurd hn (Nat.not_lt_zero _)
  have hB : Blk w g cur e := hg
  refine ⟨g, by injection hval, hbg, fun I hI => ?_, fun I => hB.free I⟩
  rw [hB.cell, ← Array.getElem?_toList]
  have h1 : (l.map u8v)[I]? = some (.int .u8 (bAt l I)) := by rw [List.getElem?_map, List.getElem?_eq_getElem hI, Option.map_some, u8v_at l I hI]
  rw [← htake, List.getElem?_take, if_pos (by rw [Nat.mul_one]; exact hI)] at h1
  exact h1
theorem sumH15 {a m s L : Nat} (hs : s = a + m) (h : s ≤ L) (hL : L ≤ 5000) : (a : Int) + (m : Int) = (s : Int) ∧ wrap64 (s : Int) = (s : Int) := by
  unfold wrap64
  omega
end Go.Pm
namespace Go.Proofs.Ytbebpnanhkcngaa
open Go.RowKit Go.Pm
namespace P15
open Sn
set_option maxRecDepth 100000 in
set_option maxHeartbeats 16000000 in
theorem holes (hR : RecordsC) (hW : WholeC) (hC : ChooseC) (vl vm : Value) (lo hi lo' hi' : Nat) (l more : List UInt8) (k : Nat) (w : World) (hv : Bs w lo hi vl l) (hv' : Bs w lo' hi' vm more) (hk : k < 256) :
    Calls Try.prog 6 #[vl, vm, .int .u8 (k : Int)] w fun e w' => e = .returned (.bool true) ∧ Kept None w w' := by
  obtain ⟨al, cl, rfl, _⟩ := hv.shape
  obtain ⟨am, cm, rfl, _⟩ := hv'.shape
  have HK := hid (fun W => known hR hW hC W)
  by_cases hout : 8 < l.length ∨ 8 < more.length
  · by_cases h1 : 8 < l.length
    · have x1 : decide ((8 : Int) < (l.length : Int)) = true := by simp; omega
      have x2 : decide (8 < l.length) = true := by simpa using h1
      clear hout h1 hv hv' hR hW hC hk
      go_enter Try.func6, Try.ntmps6
      go_wp2_with fail
      refine (HK.out w).mono ?_
      rintro e w1 ⟨rfl, k1⟩
      clear HK
      go_wp2_with (first | go_skip | fail)
      go_ret
      exact ⟨rfl, k1⟩
    · have x1 : decide ((8 : Int) < (l.length : Int)) = false := by simp; omega
      have x2 : decide (8 < l.length) = false := by simpa using h1
      have x3 : decide ((8 : Int) < (more.length : Int)) = true := by simp; omega
      have x4 : decide (8 < more.length) = true := by simp; omega
      clear hout h1 hv hv' hR hW hC hk
      go_enter Try.func6, Try.ntmps6
      go_wp2_with fail
      refine (HK.out w).mono ?_
      rintro e w1 ⟨rfl, k1⟩
      clear HK
      go_wp2_with (first | go_skip | fail)
      go_ret
      exact ⟨rfl, k1⟩
  · have x1 : decide ((8 : Int) < (l.length : Int)) = false := by simp; omega
    have x2 : decide (8 < l.length) = false := by simp; omega
    have x3 : decide ((8 : Int) < (more.length : Int)) = false := by simp; omega
    have x4 : decide (8 < more.length) = false := by simp; omega
    have hl8 : l.length ≤ 8 := by omega
    have hm8 : more.length ≤ 8 := by omega
    have qk := wrapB (n := k) (by omega)
    obtain ⟨p1, p2, p3⟩ := pend_facts l (by omega) 0 (by omega)
    have hfx := fun W (hW : Kept None w W) => file 1 0 (.slice al l.length cl) (.slice am more.length cm) lo hi lo' hi' l more W (hv.kept hW (fun _ _ _ h => h)) (hv'.kept hW (fun _ _ _ h => h)) (by omega) (by omega)
    have hbl := baseF_le 1 0 (Seat.pendF l) (by omega)
    have p0 : rightJ (recB 1 0 (Seat.pendF l).length) = true := recB_yes15 (by decide) (by decide) (by omega)
    have HFX := hid (fun W hW => show Calls Try.prog 9 #[.int .i64 1, .slice al l.length cl, .slice am more.length cm, .int .i64 0] W fun e w' => ∃ u A, e = .returned u ∧ Kept None W w' ∧ Ob w' W.heap.size u A ∧ A.length ≤ 5000 ∧ 0 < (scanR none A).length from (hfx W hW).mono (by
      rintro e w' ⟨u, Z, h1, h2, h3, h4⟩
      exact ⟨u, _, h1, h2, h3, by rw [List.length_append]; omega, by rw [(scan_base2 Z p0 p2 p3).1]; exact Nat.succ_pos _⟩))
    have HR := hid hR
    have HQ := hid qk
    clear hout hl8 hm8 hfx hbl hv hv' hk hR hW hC p0 p1 p2 p3 qk
    go_enter Try.func6, Try.ntmps6
    go_wp2_with fail
    refine (HK.out w).mono ?_
    rintro e w1 ⟨rfl, k1⟩
    have K1 := hid k1
    clear HK k1
    go_wp2_with (first | go_skip | fail)
    clear x1 x2 x3 x4
    refine (HFX.out w1 K1.out).mono ?_
    rintro e w2 ⟨u2, A, rfl, k2, b2, hAl, hA0⟩
    obtain ⟨a2, c2, rfl⟩ := b2.form
    have K2 := hid (K1.out.trans k2)
    have B2 := hid (b2.bs (Nat.le_refl _)).all
    have HAL := hid hAl
    clear k2 b2 K1 HFX
    have hr1 := fun W v lo hi (h : Bs W lo hi v A) => HR.out v lo hi A W h (Nat.le_trans hAl (by decide))
    obtain ⟨N, hN⟩ : ∃ m, m = scanC none A := ⟨_, rfl⟩
    obtain ⟨R, hR0⟩ : ∃ m, m = scanR none A := ⟨_, rfl⟩
    have hRl : 21 * R.length ≤ A.length := by rw [hR0]; exact scanR_len none A
    rw [← hN, ← hR0] at hr1
    rw [← hR0] at hA0
    obtain ⟨I, hI⟩ : ∃ m, m = k % R.length := ⟨_, rfl⟩
    have hIR : I < R.length := by rw [hI]; exact Nat.mod_lt _ hA0
    have r5 : (k : Int) % (R.length : Int) = (I : Int) := by rw [hI]; simp
    have hD1 : ((R.length : Int) == 0) = false := by
      have : ¬ R.length = 0 := by omega
      simpa using this
    have hD2 : ¬ (R.length : Int) = 0 := by omega
    have hD3 : (R.length == 0) = false := by
      have : ¬ R.length = 0 := by omega
      simpa using this
    have qR := wrapB (n := R.length) (by omega)
    have HR1 := hid hr1
    have HR0 := hid hR0
    have HNN := hid hN
    have HIR := hid hIR
    have HRL := hid hRl
    clear hAl hA0 hr1 hN hR0 hRl hI hIR
    go_wp2_with fail
    refine (HR1.out w2 _ _ _ B2.out).mono ?_
    rintro e w3 ⟨u3, rfl, k3, p3⟩
    obtain ⟨a3, c3, rfl⟩ := recs_form p3
    have K3 := hid (K2.out.trans k3)
    have B3 := hid (B2.out.kept k3 (fun _ _ _ h => h))
    have P3 := hid p3
    clear k3 p3 K2 B2 HR1
    obtain ⟨qk1, qk2⟩ := HQ.out
    obtain ⟨qr1, qr2⟩ := qR
    go_upto_region 9 with fail
    go_quiet (fail)
    clear hD1 hD2 hD3 qk1 qk2 qr1 qr2
    (try simp only [r5])
    clear r5
    have hkq := Kept.toDrewN None w3 nq
    have K4 := hid (K3.out.trans hkq)
    have B4 := hid (B3.out.kept hkq (fun _ _ _ h => h))
    have P4 := hid (P3.out.kept hkq (fun _ _ _ h => h))
    obtain ⟨w4, hw4⟩ : ∃ w4, w4 = w3.drewN nq := ⟨_, rfl⟩
    rw [← hw4] at K4 B4 P4 ⊢
    clear hkq hw4 K3 B3 P3
    go_wp2_with fail
    go_loopg [10, 12] I (fun kx s10 s12 wr => ∃ (j at_ : Nat), s10 = .int .i64 (at_ : Int) ∧ s12 = .int .i64 (j : Int) ∧ j ≤ I ∧ I - j ≤ kx ∧ Hid (at_ = atJ A j ∧ at_ ≤ A.length) ∧ Hid (Kept None w4 wr))
    case atStart => exact ⟨0, 0, rfl, rfl, Nat.zero_le _, Nat.le_refl _, hid ⟨rfl, Nat.zero_le _⟩, hid (Kept.refl _ _)⟩
    case round =>
    obtain ⟨j, at_, rfl, rfl, hj, hjx, HAT, HS⟩ := hrel
    have hBr := B4.out.kept HS.out (fun _ _ _ h => h)
    have HBR := hid hBr
    clear hBr
    by_cases hlt : j < I
    · have hlt' : decide ((j : Int) < (I : Int)) = true := by simpa using hlt
      have hlt2 : decide (j < I) = true := by simpa using hlt
      have hjr : j < R.length := (by have := HIR.out; omega)
      have he := read_at j none A (by rw [← HR0.out]; exact hjr)
      have hn := readJ_n he
      rw [List.length_drop] at hn
      obtain ⟨x5, sl5, p5⟩ := slice_from tBytes zBytes HBR.out .i64 (at_ : Int) (Int.natCast_nonneg _) (by have := HAT.out.2; omega)
      simp only [Int.toNat_natCast] at sl5 p5
      rw [← List.map_drop] at p5
      have hrd := R12.rread _ _ _ (A.drop at_) wr p5 (by have := HAL.out; rw [List.length_drop]; omega)
      have hat := HAT.out.1
      rw [← hat] at he hn
      obtain ⟨⟨⟨x0, x1, x2, x3, ⟨xn, xv, xk, xc, xr, xs⟩, xt, xe⟩, M, E⟩, hJ⟩ : ∃ z, z = readJ (A.drop at_) := ⟨_, rfl⟩
      rw [← hJ] at hrd he hn
      simp only at hrd he hn
      obtain rfl : E = 0 := he
      have HRD := hid hrd
      unfold Rec.V Rec.C at HRD
      have HJ := hid hJ
      have HN := hid hn
      have hdec : decide ((at_ : Int) ≤ (A.length : Int)) = true := by have := HAT.out.2; simp; omega
      clear hjr hn hrd hat hJ p5
      obtain ⟨S, hS⟩ : ∃ s, s = at_ + M := ⟨_, rfl⟩
      have hSA : S = atJ A (j + 1) := by rw [atJ_next, ← HAT.out.1, ← HJ.out, hS]
      have hSl : S ≤ A.length := by have := HN.out.2; have := HAT.out.2; omega
      obtain ⟨hs1, hs2⟩ := sumH15 hS hSl HAL.out
      have HSS := hid (And.intro hSA hSl)
      have HW2 := hid hs2
      have wi := (wrapB (n := j + 1) (by have := HIR.out; have := HRL.out; have := HAL.out; omega)).1
      have wi1 : wrap64 ((j : Int) + 1) = ((j + 1 : Nat) : Int) := wi
      have HWI := hid wi1
      clear hS hSA hSl wi wi1
      go_wp2_with fail
      refine HRD.out.mono ?_
      rintro e w5 ⟨rfl, k5⟩
      have K5 := hid ((HS.out.trans k5).alloc (.cells #[.int .i64 x0, .int .i64 x1, .int .i64 x2, .int .i64 x3, .string xn, .int .i64 xv, .int .u64 (xk : Int), .int .i64 xc, .int .u64 (xr : Int), .int .u64 (xs : Int), .int .i64 xt, .int .i64 xe] 45))
      clear k5 sl5 hdec HRD
      go_wp2_with fail
      go_roundg (I - (j + 1))
      case measure => omega
      case rel => exact ⟨j + 1, S, by first | rfl | rw [HW2.out], by first | rfl | rw [HWI.out] | simp, hlt, Nat.le_refl _, HSS, K5⟩
    · have hlt' : decide ((j : Int) < (I : Int)) = false := by simpa using hlt
      have hlt2 : decide (j < I) = false := by simpa using hlt
      obtain rfl : j = I := by omega
      obtain ⟨wo, rfl⟩ : ∃ wo : World, wo = wr := ⟨_, rfl⟩
      have hjr : j < R.length := HIR.out
      have he := read_at j none A (by rw [← HR0.out]; exact hjr)
      have hn := readJ_n he
      rw [List.length_drop] at hn
      obtain ⟨x5, sl5, p5⟩ := slice_from tBytes zBytes HBR.out .i64 (at_ : Int) (Int.natCast_nonneg _) (by have := HAT.out.2; omega)
      simp only [Int.toNat_natCast] at sl5 p5
      rw [← List.map_drop] at p5
      have hrd := R12.rread _ _ _ (A.drop at_) wo p5 (by have := HAL.out; rw [List.length_drop]; omega)
      have hat := HAT.out.1
      rw [← hat] at he hn
      obtain ⟨⟨⟨y0, y1, y2, y3, ⟨yn, yv, yk, yc, yr, ys⟩, yt, ye⟩, M, E⟩, hJ⟩ : ∃ z, z = readJ (A.drop at_) := ⟨_, rfl⟩
      rw [← hJ] at hrd he hn
      simp only at hrd he hn
      obtain rfl : E = 0 := he
      have HRD := hid hrd
      unfold Rec.V Rec.C at HRD
      have HJ := hid hJ
      have HN := hid hn
      have hdec : decide ((at_ : Int) ≤ (A.length : Int)) = true := by have := HAT.out.2; simp; omega
      clear hjr hn hrd hat hJ p5
      have hh := holes15 (a := A) (i := j) (by rw [← HR0.out]; exact HIR.out)
      rw [← HAT.out.1, ← HJ.out] at hh
      simp only at hh
      rw [← HR0.out, ← HNN.out] at hh
      obtain ⟨S, hS⟩ : ∃ s, s = at_ + M := ⟨_, rfl⟩
      rw [← hS] at hh
      obtain ⟨hs1, hs2⟩ := sumH15 hS hh.2.2.1 HAL.out
      have HHH := hid hh
      have HSS := hid hS
      have hR2 := fun W v lo hi (h : Bs W lo hi v (zset A at_ S)) => HR.out v lo hi _ W h (by rw [zset_len (by rw [hS]; exact Nat.le_add_right _ _) hh.2.2.1]; exact Nat.le_trans HAL.out (by decide))
      rw [hh.2.2.2.1, hh.2.2.2.2] at hR2
      have HR2 := hid hR2
      have HSW := hid (And.intro hs1 hs2)
      clear hlt hj hjx hh hS hR2
      go_wp2_with fail
      refine HRD.out.mono ?_
      rintro e w5 ⟨rfl, k5⟩
      have K5 := hid ((HS.out.trans k5).alloc (.cells #[.int .i64 y0, .int .i64 y1, .int .i64 y2, .int .i64 y3, .string yn, .int .i64 yv, .int .u64 (yk : Int), .int .i64 yc, .int .u64 (yr : Int), .int .u64 (ys : Int), .int .i64 yt, .int .i64 ye] 45))
      have B5 := hid ((HBR.out.kept k5 (fun _ _ _ h => h)).kept ((Kept.refl None w5).alloc (.cells #[.int .i64 y0, .int .i64 y1, .int .i64 y2, .int .i64 y3, .string yn, .int .i64 yv, .int .u64 (yk : Int), .int .i64 yc, .int .u64 (yr : Int), .int .u64 (ys : Int), .int .i64 yt, .int .i64 ye] 45)) (fun _ _ _ h => h))
      clear k5 sl5 hdec HRD hlt' hlt2
      go_upto_region 16 with fail
      obtain ⟨w6, hw6⟩ : ∃ w6, w6 = w5.alloc (.cells #[.int .i64 y0, .int .i64 y1, .int .i64 y2, .int .i64 y3, .string yn, .int .i64 yv, .int .u64 (yk : Int), .int .i64 yc, .int .u64 (yr : Int), .int .u64 (ys : Int), .int .i64 yt, .int .i64 ye] 45) := ⟨_, rfl⟩
      rw [← hw6] at K5 B5 ⊢
      clear hw6 HBR HS
      have hn0 : Ob w6 w6.heap.size (.slice none 0 0) [] := Bo.nil _ _ _
      have hu0 : Bs w6 0 w6.heap.size (.slice a2 A.length c2) A := B5.out.all
      have hln : ([] : List UInt8).length + A.length ≤ 140737488355328 := by have := HAL.out; simp; omega
      go_wp2_with (first | (refine wpList_append_bo rfl _ _ 22 rfl rtBytes rfl rfl hn0 hu0 hln (Nat.le_refl _) ?_; intro a7 n7 c7 w7 hB7 hK7) | fail)
      rw [List.nil_append] at hB7
      have hK67 : Kept None w6 w7 := hK7.mono (fun k _ h => by cases h)
      obtain ⟨_, _, hfm⟩ := hB7.form
      obtain rfl : n7 = A.length := by injection hfm
      have hpos : 0 < A.length := by have := HHH.out.1; have := HHH.out.2.2.1; have := HSS.out; omega
      obtain ⟨g, rfl, hbg, _, _⟩ := hB7.opened15 hpos
      have KL := hid (K4.out.trans (K5.out.trans hK67))
      have HB7 := hid (show Ob w7 w6.heap.size (.slice (some ⟨g, 0, none⟩) A.length c7) (zset A at_ at_) by rw [zset_zero]; exact hB7)
      have HBG := hid hbg
      have H6 := hid (show w.heap.size ≤ w6.heap.size from (K4.out.trans K5.out).size)
      have H67 := hid hK67.size
      have P7 := hid ((P4.out.kept K5.out (fun _ _ _ h => h)).all15.kept hK67 (fun _ _ _ h => h))
      clear hn0 hu0 hln hB7 hK7 hK67 hfm hpos hbg K5 B5 hs1 hs2
      go_loopg [20] S (fun kx s20 wr => ∃ t : Nat, s20 = .int .i64 (t : Int) ∧ at_ ≤ t ∧ t ≤ S ∧ S - t ≤ kx ∧ Hid (Kept None w wr) ∧ Hid (Ob wr w6.heap.size (.slice (some ⟨g, 0, none⟩) A.length c7) (zset A at_ t)) ∧ Hid (Kept (Just g) w7 wr))
      case atStart => exact ⟨at_, rfl, Nat.le_refl _, by have := HSS.out; omega, by omega, KL, HB7, hid (Kept.refl _ _)⟩
      case round =>
      obtain ⟨t, rfl, ht0, htS, htx, HS2, HO2, HG2⟩ := hrel
      obtain ⟨hs1, hs2⟩ := HSW.out
      by_cases hlt3 : t < S
      · have hlt' : decide ((t : Int) < (S : Int)) = true := by simpa using hlt3
        have hlt2 : decide (t < S) = true := by simpa using hlt3
        have htA : t < A.length := Nat.lt_of_lt_of_le hlt3 HHH.out.2.2.1
        have hzl : (zset A at_ t).length = A.length := zset_len ht0 (Nat.le_of_lt htA)
        obtain ⟨g', hg', _, hcl, hfr⟩ := HO2.out.opened15 (by omega)
        obtain rfl : g = g' := by injection hg' with e; injection e
        have hcell := hcl t (by omega)
        have hfree := hfr t
        have hib : (t : Int) < (A.length : Int) := Int.ofNat_lt.mpr htA
        have hset := HO2.out.set t 0 (by decide) (by decide)
        have hb0 : Go.Pm.byteOf 0 = 0 := by decide
        rw [hb0, zset_step ht0 htA] at hset
        have HSET := hid hset
        have HLT := hid (And.intro hlt3 ht0)
        have wi := (wrapB (n := t + 1) (by have := HAL.out; omega)).1
        have wi1 : wrap64 ((t : Int) + 1) = ((t + 1 : Nat) : Int) := wi
        have HWI := hid wi1
        clear htA hzl hg' hcl hfr hset hb0 wi wi1 hlt3
        go_wp2_with fail
        obtain ⟨wm, hwm⟩ : ∃ wm, wm = wr.setCell ⟨g, t, none⟩ (.int .u8 0) := ⟨_, rfl⟩
        have hst := HSET.out
        have hko := Kept.one wr g t (.int .u8 0)
        rw [← hwm] at hst hko ⊢
        have KM := hid (HS2.out.then hko (fun q hq (h : q = g) => by have := HBG.out; have := H6.out; omega))
        have HM := hid hst
        have HG3 := hid (HG2.out.trans hko)
        clear hwm hst hko HSET hcell hfree hs1 hs2 hlt' hlt2
        (try go_wp2_with fail)
        go_roundg (S - (t + 1))
        case measure => have := HLT.out.1; omega
        case rel => exact ⟨t + 1, by first | rfl | rw [HWI.out] | simp, by have := HLT.out.2; omega, HLT.out.1, Nat.le_refl _, KM, HM, HG3⟩
      · have hlt' : decide ((t : Int) < (S : Int)) = false := by simpa using hlt3
        have hlt2 : decide (t < S) = false := by simpa using hlt3
        obtain rfl : t = S := Nat.le_antisymm htS (Nat.le_of_not_lt hlt3)
        obtain ⟨wq, rfl⟩ : ∃ wq : World, wq = wr := ⟨_, rfl⟩
        have hz := HO2.out.bs (Nat.le_refl _)
        have HZ := hid hz
        have P8 := hid (P7.out.kept HG2.out (fun q _ hq (h : q = g) => by have := HBG.out; omega))
        have KQ := hid HS2.out
        clear hlt3 ht0 htS htx hz HS2 HO2 HG2 P7 KL HB7
        go_wp2_with fail
        clear hlt' hlt2
        refine (HR2.out wq _ _ _ HZ.out).mono ?_
        rintro e w8 ⟨u8, rfl, k8, p8⟩
        obtain ⟨a8, c8, rfl⟩ := recs_form p8
        have K8 := hid (KQ.out.trans k8)
        have P9 := hid (P8.out.kept k8 (fun _ _ _ h => h))
        have Q9 := hid p8
        have hlj : (R.take j).length = j := by rw [List.length_take]; have := HIR.out; omega
        clear k8 p8 KQ P8 HZ HR2
        obtain ⟨a5, sl5, p5⟩ := ps_upto tRecs15 zRecs15 P9.out j (Nat.le_of_lt HIR.out)
        have hrs := fun W (hW : Kept None w8 W) => Hr.records _ _ _ _ _ _ (R.take j) (R.take j) W (Q9.out.kept hW (fun _ _ _ h => h)) ((show Ps 12 w8 _ _ _ (recsC (R.take j)) from by unfold recsC; rw [List.map_take]; exact p5).kept hW (fun _ _ _ h => h)) (by rw [hlj]; have := HIR.out; have := HRL.out; have := HAL.out; omega)
        have hrt : recsEq (R.take j) (R.take j) = true := by unfold recsEq; simp
        rw [hrt, hlj] at hrs
        have HRS := hid hrs
        have s1 : (((R.take j).length : Int) == (j : Int)) = true := by rw [hlj]; simp
        have s2 : ((R.take j).length == j) = true := by rw [hlj]; simp
        have g1 : decide ((t : Int) ≤ (N : Int)) = true := by have := HHH.out.2.1; simp; omega
        have g2 : decide (t ≤ N) = true := by have := HHH.out.2.1; simpa using this
        clear hrs hrt p5
        simp only [hlj]
        clear hlj
        go_wp2_with (first | go_skip | fail)
        clear sl5
        refine (HRS.out w8 (Kept.refl _ _)).mono ?_
        rintro e w9 ⟨rfl, k9⟩
        have K9 := hid (K8.out.trans k9)
        clear k9 K8 HRS Q9 P9
        go_wp2_with (first | go_skip | fail)
        go_ret
        exact ⟨rfl, K9.out⟩
end P15
end Go.Proofs.Ytbebpnanhkcngaa
namespace Go.Pm
open Go Go.RowKit
def penEq (p q : Pn) : Bool := reqEq p.u q.u && ((p.tick == q.tick) && ((p.seq == q.seq) && ((p.sync == q.sync) && true)))
theorem penEq_iff (p q : Pn) : penEq p q = true ↔ p = q := by
  obtain ⟨u, t, s, y⟩ := p
  obtain ⟨u', t', s', y'⟩ := q
  unfold penEq
  simp only [Bool.and_eq_true, beq_iff_eq, Pn.mk.injEq, and_true, reqEq_iff]
instance : DecidableEq Pn := fun a b => decidable_of_iff (penEq a b = true) (penEq_iff a b)
/-- Are two rows of requests the same? -/
def pensEq (l m : List Pn) : Bool := decide (l = m)
theorem Pn.C_u (p : Pn) : (penC p).toArray.extract 0 (0 + 6) = p.u.C := rfl
end Go.Pm
namespace Go.Proofs.Ytbebpnanhkcngaa
open Go.RowKit Go.Pm
namespace Jq
theorem uPen : Try.prog.underlying 64 = some (.struct (Try.prog.fieldsOf 64)) := by kernel_rfl
theorem fPen : (Try.prog.fieldsOf 64).toList.map (fun f => (f.name == "_", f.type, f.offset)) = [(false, 43, 0), (false, 2, 6), (false, 2, 7), (false, 4, 8)] := by kernel_rfl
theorem hPen : Try.prog.stoodInHeld 64 = false := by kernel_rfl
theorem gBool : ∀ w, (isAgg 4).run Try.prog w = .ok false w := fun _ => by kernel_rfl
theorem nBool : Try.prog.underlying 4 = some .bool := by kernel_rfl
theorem equalIn_pen (p q : Pn) (w : World) : (Op.equalIn 10000 64 (.agg (penC p).toArray) (.agg (penC q).toArray)).run Try.prog w = .ok (penEq p q) w := by
  rw [run_equalIn_struct w 9999 64 _ _ uPen hPen]
  refine eqF_step fPen (part_agg gUpd sUpd) (part_agg gUpd sUpd) (by rw [Pn.C_u, Pn.C_u]; exact equalIn_req p.u q.u 9996 w) fun gs h1 => ?_
  refine eqF_step h1 (part_one gInt64 rfl) (part_one gInt64 rfl) (run_equalIn_int w 9998 _ _ _ _ _ nInt64) fun gs h2 => ?_
  refine eqF_step h2 (part_one gInt64 rfl) (part_one gInt64 rfl) (run_equalIn_int w 9998 _ _ _ _ _ nInt64) fun gs h3 => ?_
  exact eqF_step h3 (part_one gBool rfl) (part_one gBool rfl) (run_equalIn_bool' w 9998 _ _ _ nBool) fun gs h4 => eqF_nil h4
theorem neqPen (p q : Pn) (w : World) : (binOp .neq 64 (.agg (penC p).toArray) (.agg (penC q).toArray)).run Try.prog w = .ok (.bool (!penEq p q)) w := by
  rw [run_neq_struct, equalIn_pen]; rfl
end Jq
namespace Hr
theorem aPen15 : AggTy Try.prog 64 9 := Sg.AggTy.of (by kernel_rfl) (by kernel_rfl)
set_option maxRecDepth 100000 in
set_option maxHeartbeats 4000000 in
/-- postmarkhelp.Pending. -/
theorem pending (v v' : Value) (lo hi lo' hi' : Nat) (l m : List Pn) (w : World) (hv : Ps 9 w lo hi v (pensC l)) (hv' : Ps 9 w lo' hi' v' (pensC m)) (hln : l.length ≤ 1099511627776) :
    Calls Try.prog 15 #[v, v'] w fun e w' => e = .returned (.bool (pensEq l m)) ∧ Kept None w w' := by
  obtain ⟨av, nv, cv, rfl, hnv⟩ : ∃ a n c, v = .slice a n c ∧ n = l.length := by
    obtain ⟨a, c, h, _⟩ := hv.form
    rw [pensC_len] at h
    exact ⟨a, _, c, h, rfl⟩
  obtain ⟨au, nu, cu, rfl, hnu⟩ : ∃ a n c, v' = .slice a n c ∧ n = m.length := by
    obtain ⟨a, c, h, _⟩ := hv'.form
    rw [pensC_len] at h
    exact ⟨a, _, c, h, rfl⟩
  subst hnv hnu
  have HV := hid hv
  have HU := hid hv'
  have HN := hid hln
  clear hv hv' hln
  by_cases hlen : l.length = m.length
  · have d1 : ((l.length : Int) == (m.length : Int)) = true := by simp; omega
    have HL := hid hlen
    obtain ⟨n, hn⟩ : ∃ n, n = l.length := ⟨_, rfl⟩
    have hm : m.length = n := by omega
    rw [hm, ← hn]
    have HNN := hid (And.intro hn hm)
    clear hlen hn hm d1
    go_enter Try.func15, Try.ntmps15
    go_wp2_with fail
    go_loopg [5] n (fun kx s5 wr => ∃ i : Nat, s5 = .int .i64 (i : Int) ∧ i ≤ n ∧ n - i ≤ kx ∧ Hid (l.take i = m.take i) ∧ Hid (Kept None w wr))
    case atStart => exact ⟨0, rfl, Nat.zero_le _, Nat.le_refl _, hid rfl, hid (Kept.refl _ _)⟩
    case round =>
    obtain ⟨i, rfl, hi, hix, HE, HS⟩ := hrel
    by_cases hlt : i < n
    · have hlt' : decide ((i : Int) < (n : Int)) = true := by simpa using hlt
      have hlb : (i : Int) < (n : Int) := Int.ofNat_lt.mpr hlt
      have il : i < l.length := by rw [← HNN.out.1]; exact hlt
      have im : i < m.length := by rw [HNN.out.2]; exact hlt
      obtain ⟨b, o, rfl, _, h1⟩ := (HV.out.kept HS.out (fun _ _ _ h => h)).pen (by omega)
      obtain ⟨b', o', rfl, _, h2⟩ := (HU.out.kept HS.out (fun _ _ _ h => h)).pen (by omega)
      have r1 := (h1 i il).1
      have r2 := (h2 i im).1
      obtain ⟨x, hx⟩ : ∃ x, x = l[i] := ⟨_, rfl⟩
      obtain ⟨y, hy⟩ : ∃ y, y = m[i] := ⟨_, rfl⟩
      rw [← hx] at r1
      rw [← hy] at r2
      have HR1 := hid (fun W (hW : Kept None wr W) => rangeAt_kept r1 hW)
      have HR2 := hid (fun W (hW : Kept None wr W) => rangeAt_kept r2 hW)
      have hneq := fun W => Jq.neqPen x y W
      obtain ⟨B, hB⟩ : ∃ B, B = penEq x y := ⟨_, rfl⟩
      rw [← hB] at hneq
      have HNQ := hid (show ∀ W, (binOp .neq 64 (.agg (penC x).toArray) (.agg (penC y).toArray)).run Try.prog W = .ok (.bool (!B)) W from hneq)
      have aX : AggTy Try.prog 64 (penC x).length := aPen15
      have aY : AggTy Try.prog 64 (penC y).length := aPen15
      have HXY := hid (And.intro hx (And.intro hy hB))
      clear h1 h2 r1 r2 hx hy hB hneq
      go_wp2_with fail
      refine wp_region_kn wr [] Go.Pm.Steady.nil (Kept.refl _ _) (by kernel_rfl) (by kernel_rfl) (by kernel_rfl) ?_
      iterate 9 (refine wpPar_pure rfl (by rfl) _ (fun W hW => by
          have hnq := HNQ.out
          first | exact exec_load_at rfl rfl (HR1.out W hW) aX | exact exec_load_at rfl rfl (HR2.out W hW) aY | (go_simp; exact rfl)) ?_; simp only [Act.put, List.setIfInBounds_toArray, List.set_cons_zero, List.set_cons_succ])
      refine wpPar_nil (fun w2 hW hG => ?_)
      have K2 := hid (HS.out.trans hW)
      clear hG hW
      cases B with
      | true =>
        have HE2 : Hid (l.take (i + 1) = m.take (i + 1)) := hid (take_eq_step HE.out il im (by
          have h := (penEq_iff x y).1 HXY.out.2.2.symm
          rw [← HXY.out.1, ← HXY.out.2.1, h]))
        have hw : wrap64 ((i : Int) + 1) = ((i + 1 : Nat) : Int) := by have := HN.out; unfold wrap64; omega
        have HW := hid hw
        clear hw
        go_wp2
        go_roundg (n - (i + 1))
        case measure => omega
        case rel => exact ⟨i + 1, by rw [HW.out], hlt, Nat.le_refl _, HE2, K2⟩
      | false =>
        have hfin : pensEq l m = false := by
          unfold pensEq
          rw [decide_eq_false_iff_not]
          intro h
          have h1 : x = y := by
            rw [HXY.out.1, HXY.out.2.1]
            simp only [h]
          have := (penEq_iff x y).2 h1
          rw [← HXY.out.2.2] at this
          cases this
        have HF := hid hfin
        clear hfin
        go_wp2
        go_ret
        rw [HF.out]
        exact ⟨rfl, K2.out⟩
    · have hlt' : decide ((i : Int) < (n : Int)) = false := by simpa using hlt
      obtain rfl : i = n := by omega
      have hfin : pensEq l m = true := by
        have h := HE.out
        rw [List.take_of_length_le (by rw [← HNN.out.1]; exact Nat.le_refl _), List.take_of_length_le (by rw [HNN.out.2]; exact Nat.le_refl _)] at h
        unfold pensEq
        rw [h]
        simp
      have HF := hid hfin
      clear hlt hi hix hfin
      go_wp2
      go_ret
      rw [HF.out]
      exact ⟨rfl, HS.out⟩
  · have d1 : ((l.length : Int) == (m.length : Int)) = false := by simp; omega
    have hfin : pensEq l m = false := by
      unfold pensEq
      rw [decide_eq_false_iff_not]
      exact fun h => hlen (congrArg List.length h)
    have HF := hid hfin
    clear hfin
    go_enter Try.func15, Try.ntmps15
    go_wp2
    go_ret
    rw [HF.out]
    exact ⟨rfl, Kept.refl _ _⟩
end Hr
end Go.Proofs.Ytbebpnanhkcngaa
namespace Go.Pm
open Go Go.RowKit
/-- Records of which one has another kind. -/
def setKind : List Rec → Nat → Int → List Rec
  | [], _, _ => []
  | x :: l, 0, z => ⟨z, x.seq, x.gen, x.count, x.u, x.tick, x.epoch⟩ :: l
  | x :: l, i + 1, z => x :: setKind l i z
theorem setKind_len (z : Int) : ∀ (l : List Rec) (i : Nat), (setKind l i z).length = l.length
  | [], _ => rfl
  | _ :: _, 0 => rfl
  | x :: l, i + 1 => by rw [setKind, List.length_cons, List.length_cons, setKind_len z l i]
theorem setKind_cells (z : Int) : ∀ (l : List Rec) (i : Nat), i < l.length → (recsC (setKind l i z)).flatten = (recsC l).flatten.set (i * 12) (.int .i64 z)
  | [], _, h => absurd h (Nat.not_lt_zero _)
  | _ :: _, 0, _ => rfl
  | x :: l, i + 1, h => by
    have e : ∀ y m, (recsC (y :: m)).flatten = recC y ++ (recsC m).flatten := fun _ _ => rfl
    have hl : (recC x).length = 12 := rfl
    rw [setKind, e, e, List.set_append_right _ _ (by rw [hl]; omega), setKind_cells z l i (by simpa using h), hl]
    congr 2
    omega
theorem setKind_fits {z : Int} (hz : inI z) : ∀ (l : List Rec) (i : Nat), (∀ x ∈ l, x.Fits) → ∀ x ∈ setKind l i z, x.Fits
  | [], _, _, _, hx => by cases hx
  | y :: l, 0, h, x, hx => by
    have h0 := h y (List.mem_cons_self ..)
    rcases List.mem_cons.1 hx with rfl | hx
    · exact ⟨hz, h0.2⟩
    · exact h x (List.mem_cons_of_mem _ hx)
  | y :: l, i + 1, h, x, hx => by
    rcases List.mem_cons.1 hx with rfl | hx
    · exact h _ (List.mem_cons_self ..)
    · exact setKind_fits hz l i (fun a ha => h a (List.mem_cons_of_mem _ ha)) x hx
theorem Po.setKind {e : TypeId} {w : World} {base g n cap : Nat} {l : List Rec} (h : Po 12 e w base (.slice (some ⟨g, 0, none⟩) n cap) (recsC l)) (i : Nat) (hi : i < l.length) (z : Int) :
    Po 12 e (w.setCell ⟨g, i * 12, none⟩ (.int .i64 z)) base (.slice (some ⟨g, 0, none⟩) n cap) (recsC (setKind l i z)) ∧ Kept (Just g) w (w.setCell ⟨g, i * 12, none⟩ (.int .i64 z)) := by
  refine ⟨?_, Kept.one w g _ _⟩
  refine ⟨recsC_each _, ?_⟩
  rcases h.2.2 with ⟨hn, _⟩ | ⟨g', cap', cur, hv, hbg, hg, hnc, hcm, hcs, htake⟩
  · cases hn
  · injection hv with e1 e2 e3
    injection e1 with e1
    injection e1 with e1
    subst e1 e3
    have hB : Blk w g cur e := hg
    have h1 := h.2.1
    rw [recsC_len] at h1 hnc htake
    rw [recsC_len, setKind_len]
    refine ⟨?_, .inr ⟨g, cap, _, by rw [e2, recsC_len], hbg, hB.set (i * 12) _, hnc, hcm, by simpa using hcs, ?_⟩⟩
    · rw [setKind_cells z l i hi, List.length_set]
      exact h1
    · rw [Array.toList_setIfInBounds, List.take_set, htake, setKind_cells z l i hi]
theorem Po.rec15 {e : TypeId} {w : World} {base n cap : Nat} {a : Option Addr} {l : List Rec} (h : Po 12 e w base (.slice a n cap) (recsC l)) (hn : 0 < l.length) : ∃ g, a = some ⟨g, 0, none⟩ ∧ base ≤ g ∧ (∀ I, w.frozen? ⟨g, I, none⟩ = false) ∧ ∀ I, I < l.length → ∃ x, w.cell? ⟨g, I * 12, none⟩ = some x := by
  have hps := h.ps (Nat.le_refl _)
  obtain ⟨b, o, rfl, _, hr⟩ := hps.rec hn
  rcases h.2.2 with ⟨hn', _⟩ | ⟨g', cap', cur, hv, hbg, hg, _⟩
  · cases hn'
  · injection hv with e1 e2 e3
    injection e1 with e1
    injection e1 with e1 e4
    subst e1 e4
    have hB : Blk w b cur e := hg
    exact ⟨b, rfl, hbg, fun I => hB.free I, fun I hI => ⟨_, by have := (hr I hI) 0 _ rfl; rwa [Nat.zero_add, Nat.add_zero] at this⟩⟩
/-- A row of at most 100 records, each within its bounds. -/
def IsR (W : World) (v : Value) : Prop := ∃ (L : List Rec) (a : Option Addr) (c : Nat), v = .slice a L.length c ∧ L.length ≤ 100 ∧ (∀ r ∈ L, r.Fits) ∧ Ps 12 W 0 W.heap.size (.slice a L.length c) (recsC L)
theorem of_two15 {α : Type} {p : α → Prop} {a b : α} (ha : p a) (hb : p b) (i : Nat) (h : i < 2) : ∃ x, (#[a, b] : Array α)[i]? = some x ∧ p x := by
  rcases i with _ | _ | i
  · exact ⟨a, rfl, ha⟩
  · exact ⟨b, rfl, hb⟩
  · exact absurd h (by omega)
end Go.Pm
namespace Go.Proofs.Ytbebpnanhkcngaa
open Go.RowKit Go.Pm
namespace P15
open Sn
set_option maxRecDepth 100000 in
set_option maxHeartbeats 16000000 in
theorem raw (hR : RecordsC) (hW : WholeC) (hC : ChooseC) (vr : Value) (lo hi : Nat) (raw : List Rec) (k count : Nat) (w : World) (hv : Ps 12 w lo hi vr (recsC raw)) (hfr : ∀ r ∈ raw, r.Fits) (hk : k < 256) (_hct : count < 256) :
    Calls Try.prog 5 #[vr, .int .u8 (k : Int), .int .u8 (count : Int)] w fun e w' => e = .returned (.bool true) ∧ Kept None w w' := by
  obtain ⟨ar, cr, rfl⟩ := recs_form hv
  have HK := hid (fun W => known hR hW hC W)
  by_cases hl : raw.length ≤ 20
  · have x1 : decide ((20 : Int) < (raw.length : Int)) = false := by simp; omega
    have x2 : decide (20 < raw.length) = false := by simp; omega
    have qk := (wrapB (n := k) (by omega)).1
    obtain ⟨C12, hC12⟩ : ∃ m, m = count % 12 := ⟨_, rfl⟩
    have rc : (count : Int) % 12 = (C12 : Int) := by rw [hC12]; simp
    have qc := (wrapB (n := C12) (by omega)).1
    have i0 : inI 0 := ⟨by decide, by decide⟩
    have i1 : inI 1 := ⟨by decide, by decide⟩
    have hn0 : Req.none.Fits := ⟨i0, by decide, i0, by decide, by decide⟩
    have hf0 : (⟨1, 0, (k : Int), (C12 : Int), Req.none, 0, 0⟩ : Rec).Fits := ⟨i1, i0, ⟨by simp only; omega, by simp only; omega⟩, ⟨by simp only; omega, by simp only; omega⟩, hn0, i0, i0⟩
    have HF0 := hid hf0
    have HL := hid hl
    have HV := hid hv.all15
    have HFR := hid hfr
    have HW := hid hW
    clear hl hC12 hf0 i0 i1 hn0 hv hfr hk _hct hR hW hC
    go_enter Try.func5, Try.ntmps5
    go_wp2_with fail
    refine (HK.out w).mono ?_
    rintro e w1 ⟨rfl, k1⟩
    have K1 := hid k1
    have HP1 := hid (Po.one 12 w1 45 (recC (⟨1, 0, (k : Int), (C12 : Int), Req.none, 0, 0⟩ : Rec)) rfl)
    have HV1 := hid ((HV.out.kept k1 (fun _ _ _ h => h)).kept ((Kept.refl None w1).alloc (.cells #[.int .i64 1, .int .i64 0, .int .i64 (k : Int), .int .i64 (C12 : Int), .string ⟨#[]⟩, .int .i64 0, .int .u64 0, .int .i64 0, .int .u64 0, .int .u64 0, .int .i64 0, .int .i64 0] 45)) (fun _ _ _ h => h))
    have KA := hid ((K1.out.alloc (.cells #[.int .i64 1, .int .i64 0, .int .i64 (k : Int), .int .i64 (C12 : Int), .string ⟨#[]⟩, .int .i64 0, .int .u64 0, .int .i64 0, .int .u64 0, .int .u64 0, .int .i64 0, .int .i64 0] 45)))
    clear HK k1
    have hpo : Po 12 45 (w1.alloc (.cells #[.int .i64 1, .int .i64 0, .int .i64 (k : Int), .int .i64 (C12 : Int), .string ⟨#[]⟩, .int .i64 0, .int .u64 0, .int .i64 0, .int .u64 0, .int .u64 0, .int .i64 0, .int .i64 0] 45)) w1.heap.size (.slice (some ⟨w1.heap.size, 0, none⟩) 1 1) (recsC [(⟨1, 0, (k : Int), (C12 : Int), Req.none, 0, 0⟩ : Rec)]) := HP1.out
    have hv1 := HV1.out
    have hln : (recsC [(⟨1, 0, (k : Int), (C12 : Int), Req.none, 0, 0⟩ : Rec)]).length + (recsC raw).length ≤ 1099511627776 := by rw [recsC_len, recsC_len]; have := HL.out; simp; omega
    have hbs : w1.heap.size ≤ (w1.alloc (.cells #[.int .i64 1, .int .i64 0, .int .i64 (k : Int), .int .i64 (C12 : Int), .string ⟨#[]⟩, .int .i64 0, .int .u64 0, .int .i64 0, .int .u64 0, .int .u64 0, .int .i64 0, .int .i64 0] 45)).heap.size := ((Kept.refl None w1).alloc (.cells #[.int .i64 1, .int .i64 0, .int .i64 (k : Int), .int .i64 (C12 : Int), .string ⟨#[]⟩, .int .i64 0, .int .u64 0, .int .i64 0, .int .u64 0, .int .u64 0, .int .i64 0, .int .i64 0] 45)).size
    go_wp2_with (first | (refine wpList_one_item rfl _ _ rfl R12.rtRec15 (by decide) rfl rfl ?_) | (at_builtin; refine wpList_append_po rfl _ _ 27 rfl R12.rtRec15 (by decide) rfl rfl hpo hv1 (recsC_one15 _) hln hbs ?_; intro a9 n9 c9 w9 hP9 hK9 _) | fail)
    rw [← recsC_app] at hP9
    have hown := hpo.own
    have K9 := hid (KA.out.then hK9 (fun q hq h => by have := (hown q h).1; have := K1.out.size; omega))
    have hno : n9 = raw.length + 1 := by
      obtain ⟨a, c, h⟩ := hP9.form
      rw [recsC_len] at h
      injection h with _ h
    subst hno
    obtain ⟨L0, hL0⟩ : ∃ L, L = [(⟨1, 0, (k : Int), (C12 : Int), Req.none, 0, 0⟩ : Rec)] ++ raw := ⟨_, rfl⟩
    rw [← hL0] at hP9
    have hLn : L0.length = raw.length + 1 := by rw [hL0]; simp
    have hLf : ∀ r ∈ L0, r.Fits := fun r hr => by
      rw [hL0] at hr
      rcases List.mem_append.1 hr with hr | hr
      · rw [List.mem_singleton.1 hr]; exact HF0.out
      · exact HFR.out r hr
    obtain ⟨g, rfl, hbg, _⟩ := hP9.rec15 (by omega)
    have HP9 := hid hP9
    have HLF := hid (And.intro hLn hLf)
    have HBG := hid (show w1.heap.size ≤ g from hbg)
    have HK1z := hid K1.out.size
    clear hpo hv1 hln hbs hP9 hK9 hown hL0 hLn hLf hbg x1 x2 qk rc qc HP1 HV1 KA
    obtain ⟨N, hN⟩ : ∃ n, n = raw.length + 1 := ⟨_, rfl⟩
    rw [← hN]
    have HN := hid hN
    rw [← hN] at HP9 HLF
    clear hN
    go_loopg [8] N (fun kx s8 wr => ∃ (i : Nat) (L : List Rec), s8 = .int .i64 (i : Int) ∧ i ≤ N ∧ 1 ≤ i ∧ N - i ≤ kx ∧ Hid (L.length = N ∧ ∀ r ∈ L, r.Fits) ∧ Hid (Kept None w wr) ∧ Hid (Po 12 45 wr w1.heap.size (.slice (some ⟨g, 0, none⟩) N c9) (recsC L)))
    case atStart => exact ⟨1, L0, rfl, by have := HN.out; omega, Nat.le_refl _, by omega, HLF, K9, HP9⟩
    case round =>
    obtain ⟨i, L, rfl, hi, hi1, hix, HLL, HS, HO⟩ := hrel
    by_cases hlt : i < N
    · have hlt' : decide ((i : Int) < (N : Int)) = true := by simpa using hlt
      have hlb : (i : Int) < (N : Int) := Int.ofNat_lt.mpr hlt
      obtain ⟨M3, hM3⟩ : ∃ m, m = i % 3 := ⟨_, rfl⟩
      have r3 : (i : Int) % 3 = (M3 : Int) := by rw [hM3]; simp
      have wi := (wrapB (n := i + 1) (by have := HN.out; have := HL.out; omega)).1
      have wi1 : wrap64 ((i : Int) + 1) = ((i + 1 : Nat) : Int) := wi
      have HWI := hid wi1
      by_cases h3 : 0 < M3
      · have d1 : decide ((0 : Int) < (M3 : Int)) = true := by simp; omega
        have d2 : decide (0 < M3) = true := by simpa using h3
        have hiL : i < L.length := by rw [HLL.out.1]; exact hlt
        obtain ⟨g', hg', _, hfr, hcl⟩ := HO.out.rec15 (by omega)
        obtain rfl : g = g' := by injection hg' with e; injection e
        obtain ⟨xc, hcell⟩ := hcl i hiL
        have hfree := hfr (i * 12)
        have HSET := hid (HO.out.setKind i hiL 2)
        have HLT := hid (And.intro hlt hiL)
        clear hM3 h3 hg' hfr hcl hiL wi wi1 hlt
        go_wp2_with fail
        obtain ⟨wm, hwm⟩ : ∃ wm, wm = wr.setCell ⟨g, i * 12, none⟩ (.int .i64 2) := ⟨_, rfl⟩
        have hst := HSET.out
        rw [← hwm] at hst ⊢
        have KM := hid (HS.out.then hst.2 (fun q hq (h : q = g) => by have := HBG.out; have := HK1z.out; omega))
        have HM := hid hst.1
        have HLM : Hid ((setKind L i 2).length = N ∧ ∀ r ∈ setKind L i 2, r.Fits) := hid ⟨by rw [setKind_len]; exact HLL.out.1, setKind_fits ⟨by decide, by decide⟩ L i HLL.out.2⟩
        clear hwm hst HSET hcell hfree r3 d1 d2
        (try go_wp2_with fail)
        go_roundg (N - (i + 1))
        case measure => have := HLT.out; omega
        case rel => exact ⟨i + 1, _, by first | rfl | rw [HWI.out] | simp, HLT.out.1, by omega, Nat.le_refl _, HLM, KM, HM⟩
      · have d1 : decide ((0 : Int) < (M3 : Int)) = false := by simp; omega
        have d2 : decide (0 < M3) = false := by simpa using h3
        have HLT := hid hlt
        clear hM3 h3 wi wi1 hlt
        go_wp2_with fail
        go_roundg (N - (i + 1))
        case measure => have := HLT.out; omega
        case rel => exact ⟨i + 1, L, by first | rfl | rw [HWI.out] | simp, HLT.out, by omega, Nat.le_refl _, HLL, HS, HO⟩
    · have hlt' : decide ((i : Int) < (N : Int)) = false := by simpa using hlt
      have hlt3 : decide (i < N) = false := by simpa using hlt
      obtain ⟨wo, rfl⟩ : ∃ wo : World, wo = wr := ⟨_, rfl⟩
      have HROW := hid (show IsR wo (.slice ar raw.length cr) ∧ IsR wo (.slice (some ⟨g, 0, none⟩) N c9) from ⟨⟨raw, ar, cr, rfl, Nat.le_trans HL.out (by decide), HFR.out, (HV.out.kept HS.out (fun _ _ _ h => h)).all15⟩, by
        have hn := HLL.out.1
        refine ⟨L, _, c9, by rw [hn], by have := HN.out; have := HL.out; omega, HLL.out.2, ?_⟩
        rw [hn]
        exact (HO.out.ps (Nat.le_refl _)).all15⟩)
      have KO := hid HS.out
      clear hlt hi hi1 hix HS HO HLL
      go_wp2_with fail
      clear hlt' hlt3
      go_loopg [48] 2 (fun kx s48 wr => ∃ j : Nat, s48 = .int .i64 (j : Int) ∧ j ≤ 2 ∧ 2 - j ≤ kx ∧ Hid (Kept None wo wr) ∧ Hid (Blk wr wo.heap.size #[.slice ar raw.length cr, .slice (some ⟨g, 0, none⟩) N c9] 27))
      case atStart => exact ⟨0, rfl, by omega, by omega, hid ((Kept.refl _ _).alloc _), hid (Blk.new _ _ _)⟩
      case round =>
      obtain ⟨j, rfl, hj, hjx, HS2, HA2⟩ := hrel
      by_cases hlt2 : j < 2
      · have hjz : (j : Int) < 2 := by omega
        obtain ⟨cx, hcx, X, ax, cpx, rfl, hXl, hXf, hXp⟩ := of_two15 (p := IsR wo) HROW.out.1 HROW.out.2 j hlt2
        have hcc := HA2.out.cell j
        rw [hcx] at hcc
        have hXp2 := hXp.kept HS2.out (fun _ _ _ h => h)
        obtain ⟨wp, rfl⟩ : ∃ wp : World, wp = wr := ⟨_, rfl⟩
        have hw1 := fun W (hW' : Kept None wp W) => HW.out _ _ _ X W (hXp2.kept hW' (fun _ _ _ h => h)) hXf (by omega)
        have hw2 := fun W (hW' : Kept None wp W) => R12.whole _ _ _ X W (hXp2.kept hW' (fun _ _ _ h => h)) (by omega)
        obtain ⟨⟨G, PL, OK⟩, hF⟩ : ∃ x, x = wholeF X := ⟨_, rfl⟩
        have hPl : PL.length ≤ 1099511627776 := by
          have : (wholeF X).l.length ≤ X.length := by
            unfold wholeF
            split
            · exact Nat.zero_le _
            · split
              · exact Nat.le_trans (pendsF_len _) (Nat.le_succ _)
              · exact Nat.zero_le _
          rw [← hF] at this
          simp only at this
          omega
        rw [← hF] at hw1 hw2
        simp only at hw1 hw2
        have H1 := hid hw1
        have H2 := hid hw2
        have HPL := hid hPl
        clear hcx hXl hXf hXp hXp2 hw1 hw2 hF hPl
        go_wp2_with fail
        refine (H1.out wp (Kept.refl _ _)).mono ?_
        rintro e w2 ⟨u2, rfl, k2, p2⟩
        obtain ⟨a2, c2, hu2, _⟩ := p2.form
        rw [pensC_len] at hu2
        subst hu2
        have K2 := hid k2
        have P2 := hid p2
        clear k2 p2 hcc H1
        go_wp2_with fail
        refine (H2.out w2 K2.out).mono ?_
        rintro e w3 ⟨u3, rfl, k3, p3⟩
        have p3 := p3.ps (Nat.le_refl _)
        obtain ⟨a3, c3, hu3, _⟩ := p3.form
        rw [pensC_len] at hu3
        subst hu3
        have K3 := hid (K2.out.trans k3)
        have hpq := fun W (hW' : Kept None w3 W) => Hr.pending _ _ _ _ _ _ PL PL W ((P2.out.kept k3 (fun _ _ _ h => h)).kept hW' (fun _ _ _ h => h)) (p3.kept hW' (fun _ _ _ h => h)) HPL.out
        have hpt : pensEq PL PL = true := by unfold pensEq; simp
        rw [hpt] at hpq
        have HPQ := hid hpq
        have dd : (OK == OK) = true := by simp
        have dn : (OK != OK) = false := by simp
        clear k3 p3 hpq hpt P2 K2 H2
        go_wp2_with (first | go_skip | fail)
        clear dd dn
        refine (HPQ.out w3 (Kept.refl _ _)).mono ?_
        rintro e w4 ⟨rfl, k4⟩
        have K4 := hid ((HS2.out.trans K3.out).trans k4)
        have A4 := hid (HA2.out.kept (K3.out.trans k4) (fun h => h))
        clear k4 K3 HPQ
        go_wp2_with (first | go_skip | fail)
        go_roundg (2 - (j + 1))
        case measure => omega
        case rel => exact ⟨j + 1, by first | rfl | simp | go_num, by omega, Nat.le_refl _, K4, A4⟩
      · obtain rfl : j = 2 := by omega
        have KE := hid (KO.out.trans HS2.out)
        clear hlt2 hj hjx
        go_wp2_with fail
        go_ret
        exact ⟨rfl, KE.out⟩
  · have x1 : decide ((20 : Int) < (raw.length : Int)) = true := by simp; omega
    have x2 : decide (20 < raw.length) = true := by simp; omega
    clear hl hv hfr hk _hct hR hW hC
    go_enter Try.func5, Try.ntmps5
    go_wp2_with fail
    refine (HK.out w).mono ?_
    rintro e w1 ⟨rfl, k1⟩
    clear HK
    go_wp2_with (first | go_skip | fail)
    go_ret
    exact ⟨rfl, k1⟩
end P15
end Go.Proofs.Ytbebpnanhkcngaa
namespace Go.Proofs.Ytbebpnanhkcngaa
open Go.RowKit Go.Pm
namespace R12
theorem recs_ps {w : World} {base : Nat} {v : Value} {b : List UInt8} (h : Po 12 45 w base v (recsC (scanR none b))) : Ps 12 w 0 w.heap.size v (recsC (scanR none b)) := (h.ps (Nat.le_refl _)).wider (Nat.zero_le _) (Nat.le_refl _)
set_option maxRecDepth 100000 in
set_option maxHeartbeats 8000000 in
theorem choose (v v' : Value) (lo hi lo' hi' : Nat) (a b : List UInt8) (w : World) (hv : Bs w lo hi v a) (hv' : Bs w lo' hi' v' b) (hla : a.length ≤ 1000000000) (hlb : b.length ≤ 1000000000) :
    Calls Try.prog 17 #[v, v'] w fun en w' => en = .returned (.tuple #[.int .i64 (chooseF a b).f, .bool (chooseF a b).ok]) ∧ Kept None w w' := by
  have la : (scanR none a).length ≤ 1000000000 := Nat.le_trans (Nat.le_trans (by omega) (scanR_len none a)) hla
  have lb : (scanR none b).length ≤ 1000000000 := Nat.le_trans (Nat.le_trans (by omega) (scanR_len none b)) hlb
  have HVA := hid hv.all
  have HVB := hid hv'.all
  have HLA := hid (Nat.le_trans hla (show 1000000000 ≤ 1099511627000 by decide))
  have HLB := hid (Nat.le_trans hlb (show 1000000000 ≤ 1099511627000 by decide))
  have HZ := hid (And.intro la lb)
  have hch : chooseF a b = if (wholeF (scanR none b)).ok = true ∧ ((wholeF (scanR none a)).ok = false ∨ (wholeF (scanR none a)).gen < (wholeF (scanR none b)).gen) then ⟨1, true⟩ else ⟨0, (wholeF (scanR none a)).ok⟩ := rfl
  obtain ⟨⟨G, LX, X⟩, hX⟩ : ∃ x, x = wholeF (scanR none a) := ⟨_, rfl⟩
  obtain ⟨⟨J, LY, Y⟩, hY⟩ : ∃ x, x = wholeF (scanR none b) := ⟨_, rfl⟩
  rw [← hX, ← hY] at hch
  obtain ⟨⟨cf, ck⟩, hc⟩ : ∃ c, c = chooseF a b := ⟨_, rfl⟩
  rw [← hc] at hch ⊢
  have HC := hid hch
  have HX := hid hX
  have HY := hid hY
  clear hv hv' hla hlb la lb hX hY hch hc
  go_enter Try.func17, Try.ntmps17
  go_wp2_with fail
  refine (records _ _ _ a _ HVA.out HLA.out).mono ?_
  rintro e w1 ⟨u1, rfl, k1, p1⟩
  have K1 := hid k1
  have P1 := hid p1
  have HB1 := hid (HVB.out.kept k1 (fun _ _ _ h => h))
  clear k1 p1
  go_wp2_with fail
  refine (records _ _ _ b _ HB1.out HLB.out).mono ?_
  rintro e w2 ⟨u2, rfl, k2, p2⟩
  have K2 := hid (K1.out.trans k2)
  have P12 := hid (P1.out.kept k2 (fun _ _ h => h))
  have P2 := hid p2
  clear k2 p2 P1 K1 HB1
  go_wp2_with fail
  refine (whole _ _ _ _ _ (recs_ps P12.out) HZ.out.1).mono ?_
  rintro e w3 ⟨u3, rfl, k3, _⟩
  have K3 := hid (K2.out.trans k3)
  have P23 := hid (P2.out.kept k3 (fun _ _ h => h))
  rw [← HX.out]
  clear k3 K2 P2
  go_wp2_with fail
  refine (whole _ _ _ _ _ (recs_ps P23.out) HZ.out.2).mono ?_
  rintro e w4 ⟨u4, rfl, k4, _⟩
  have K4 := hid (K3.out.trans k4)
  rw [← HY.out]
  clear k4 K3 P23 P12 HX HY
  cases Y with
  | false =>
    obtain ⟨rfl, rfl⟩ : cf = 0 ∧ ck = X := by
      have hf := HC.out
      rw [if_neg (fun h => by cases h.1)] at hf
      exact ⟨congrArg Ch.f hf, congrArg Ch.ok hf⟩
    go_wp2_with (first | go_skip | fail)
    go_ret2
    exact ⟨rfl, K4.out⟩
  | true =>
    cases X with
    | false =>
      obtain ⟨rfl, rfl⟩ : cf = 1 ∧ ck = true := by
        have hf := HC.out
        rw [if_pos ⟨rfl, .inl rfl⟩] at hf
        exact ⟨congrArg Ch.f hf, congrArg Ch.ok hf⟩
      go_wp2_with (first | go_skip | fail)
      go_ret2
      exact ⟨rfl, K4.out⟩
    | true =>
      by_cases h : G < J
      · have d1 : decide (G < J) = true := by simpa using h
        obtain ⟨rfl, rfl⟩ : cf = 1 ∧ ck = true := by
          have hf := HC.out
          rw [if_pos ⟨rfl, .inr h⟩] at hf
          exact ⟨congrArg Ch.f hf, congrArg Ch.ok hf⟩
        go_wp2_with (first | go_skip | fail)
        go_ret2
        exact ⟨rfl, K4.out⟩
      · have d1 : decide (G < J) = false := by simpa using h
        obtain ⟨rfl, rfl⟩ : cf = 0 ∧ ck = true := by
          have hf := HC.out
          rw [if_neg (fun q => q.2.elim (fun e => by cases e) h)] at hf
          exact ⟨congrArg Ch.f hf, congrArg Ch.ok hf⟩
        go_wp2_with (first | go_skip | fail)
        go_ret2
        exact ⟨rfl, K4.out⟩
end R12
end Go.Proofs.Ytbebpnanhkcngaa
namespace Go.Pm
open Go Go.RowKit
theorem and_small (v : Int) (m : Nat) (hm : m < 4611686018427387904) : 0 ≤ bits .and .i64 v (m : Int) ∧ bits .and .i64 v (m : Int) ≤ m := by
  have h : bits .and .i64 v (m : Int) = IntKind.i64.wrap ((BitVec.ofInt 64 v &&& BitVec.ofInt 64 (m : Int)).toNat : Int) := rfl
  have hb : (BitVec.ofInt 64 (m : Int)).toNat = m := by rw [BitVec.ofInt_natCast, BitVec.toNat_ofNat]; exact Nat.mod_eq_of_lt (by omega)
  have h2 : (BitVec.ofInt 64 v &&& BitVec.ofInt 64 (m : Int)).toNat ≤ m := by
    rw [BitVec.toNat_and, hb]
    exact Nat.and_le_right
  rw [h, IntKind.wrap_i64]
  omega
theorem xor_small (a b : Int) : 0 ≤ bits .xor .u8 a b ∧ bits .xor .u8 a b < 256 := by
  have h : bits .xor .u8 a b = IntKind.u8.wrap ((BitVec.ofInt 8 a ^^^ BitVec.ofInt 8 b).toNat : Int) := rfl
  rw [h, IntKind.wrap_u8]
  omega
theorem nums40 {x K L : Nat} (_hx : x < 256) (hK : K < L) (hL : L ≤ 5500) : ∃ X S : Nat, (x : Int) % 40 = (X : Int) ∧ wrap64 ((K : Int) + (X : Int)) = (S : Int) := by
  refine ⟨x % 40, K + x % 40, by simp, ?_⟩
  unfold wrap64
  omega
/-- A slice that reads as at most 6000 bytes. -/
def IsB15 (W : World) (v : Value) : Prop := ∃ (L : List UInt8) (a : Option Addr) (c : Nat), v = .slice a L.length c ∧ L.length ≤ 6000 ∧ Bs W 0 W.heap.size (.slice a L.length c) L
theorem IsB15.of {W : World} {v : Value} {L : List UInt8} {lo hi : Nat} (h : Bs W lo hi v L) (hl : L.length ≤ 6000) : IsB15 W v := by
  obtain ⟨a, c, rfl, _⟩ := h.shape
  exact ⟨L, a, c, rfl, hl, h.all⟩
theorem IsB15.kept {W W' : World} {v : Value} (h : IsB15 W v) (k : Kept None W W') : IsB15 W' v := by
  obtain ⟨L, a, c, rfl, hl, hb⟩ := h
  exact ⟨L, a, c, rfl, hl, (hb.kept k (fun _ _ _ h => h)).all⟩
theorem of_four15 {α : Type} {p : α → Prop} {a b c d : α} (ha : p a) (hb : p b) (hc : p c) (hd : p d) (i : Nat) (h : i < 4) : ∃ x, (#[a, b, c, d] : Array α)[i]? = some x ∧ p x := by
  rcases i with _ | _ | _ | _ | i
  · exact ⟨a, rfl, ha⟩
  · exact ⟨b, rfl, hb⟩
  · exact ⟨c, rfl, hc⟩
  · exact ⟨d, rfl, hd⟩
  · exact absurd h (by omega)
end Go.Pm
namespace Go.Proofs.Ytbebpnanhkcngaa
open Go.RowKit Go.Pm
namespace P15
open Sn
theorem file_any (gen seq : Int) (vl vm : Value) (lo hi lo' hi' : Nat) (l more : List UInt8) (w : World) (hv : Bs w lo hi vl l) (hv' : Bs w lo' hi' vm more) (hl : l.length ≤ 10) (hm : more.length ≤ 12) :
    Calls Try.prog 9 #[.int .i64 gen, vl, vm, .int .i64 seq] w fun e w' => ∃ u A, e = .returned u ∧ Kept None w w' ∧ Ob w' w.heap.size u A ∧ A.length ≤ 5500 ∧ (0 ≤ gen ∧ gen ≤ 7 ∧ 0 ≤ seq ∧ seq ≤ 255 → 0 < A.length) := by
  obtain ⟨p1, _, _⟩ := pend_facts l (by omega) 0 (by decide)
  have hbl := baseF_le gen seq (Seat.pendF l) (by omega)
  refine (file gen seq vl vm lo hi lo' hi' l more w hv hv' (by omega) (by omega)).mono ?_
  rintro e w' ⟨u, Z, h1, h2, h3, h4⟩
  refine ⟨u, _, h1, h2, h3, by rw [List.length_append]; omega, fun h => ?_⟩
  obtain ⟨_, p2, _⟩ := pend_facts l (by omega) seq (by omega)
  have := baseF_len (recB_yes15 (g := gen) (s := seq) (n := (Seat.pendF l).length) (by omega) (by omega) (by omega)) p2
  rw [List.length_append]
  omega
set_option maxRecDepth 100000 in
set_option maxHeartbeats 32000000 in
theorem tells (hR : RecordsC) (hW : WholeC) (hC : ChooseC) (gen other seq : Int) (vl vm vo vr : Value) (lo1 hi1 lo2 hi2 lo3 hi3 lo4 hi4 : Nat) (l m more raw : List UInt8) (at_ x how : Nat) (w : World)
    (hvl : Bs w lo1 hi1 vl l) (hvm : Bs w lo2 hi2 vm m) (hvo : Bs w lo3 hi3 vo more) (hvr : Bs w lo4 hi4 vr raw) (hat : at_ < 65536) (hx : x < 256) (hhow : how < 256) (_hsq : inI seq) :
    Calls Try.prog 3 #[.int .i64 gen, .int .i64 other, vl, vm, vo, .int .i64 seq, vr, .int .u16 (at_ : Int), .int .u8 (x : Int), .int .u8 (how : Int)] w fun e w' => e = .returned (.bool true) ∧ Kept None w w' := by
  obtain ⟨al, cl, rfl, _⟩ := hvl.shape
  obtain ⟨am, cm, rfl, _⟩ := hvm.shape
  obtain ⟨ao, co, rfl, _⟩ := hvo.shape
  obtain ⟨ar, cr, rfl, _⟩ := hvr.shape
  have HK := hid (fun W => known hR hW hC W)
  by_cases hout : 10 < l.length ∨ 10 < m.length ∨ 12 < more.length ∨ 100 < raw.length
  · by_cases h1 : 10 < l.length
    · skip
      have x1 : decide ((10 : Int) < (l.length : Int)) = true := by simp; omega
      have x2 : decide (10 < l.length) = true := by simp; omega
      clear hout h1 hvl hvm hvo hvr hat hx hhow _hsq hR hW hC
      go_enter Try.func3, Try.ntmps3
      go_wp2_with fail
      refine (HK.out w).mono ?_
      rintro e w1 ⟨rfl, k1⟩
      clear HK
      go_wp2_with (first | go_skip | fail)
      go_ret
      exact ⟨rfl, k1⟩
    by_cases h2 : 10 < m.length
    · skip
      have x1 : decide ((10 : Int) < (l.length : Int)) = false := by simp; omega
      have x2 : decide (10 < l.length) = false := by simp; omega
      have x3 : decide ((10 : Int) < (m.length : Int)) = true := by simp; omega
      have x4 : decide (10 < m.length) = true := by simp; omega
      clear hout h1 h2 hvl hvm hvo hvr hat hx hhow _hsq hR hW hC
      go_enter Try.func3, Try.ntmps3
      go_wp2_with fail
      refine (HK.out w).mono ?_
      rintro e w1 ⟨rfl, k1⟩
      clear HK
      go_wp2_with (first | go_skip | fail)
      go_ret
      exact ⟨rfl, k1⟩
    by_cases h3 : 12 < more.length
    · skip
      have x1 : decide ((10 : Int) < (l.length : Int)) = false := by simp; omega
      have x2 : decide (10 < l.length) = false := by simp; omega
      have x3 : decide ((10 : Int) < (m.length : Int)) = false := by simp; omega
      have x4 : decide (10 < m.length) = false := by simp; omega
      have x5 : decide ((12 : Int) < (more.length : Int)) = true := by simp; omega
      have x6 : decide (12 < more.length) = true := by simp; omega
      clear hout h1 h2 h3 hvl hvm hvo hvr hat hx hhow _hsq hR hW hC
      go_enter Try.func3, Try.ntmps3
      go_wp2_with fail
      refine (HK.out w).mono ?_
      rintro e w1 ⟨rfl, k1⟩
      clear HK
      go_wp2_with (first | go_skip | fail)
      go_ret
      exact ⟨rfl, k1⟩
    have h4 : 100 < raw.length := by omega
    have x1 : decide ((10 : Int) < (l.length : Int)) = false := by simp; omega
    have x2 : decide (10 < l.length) = false := by simp; omega
    have x3 : decide ((10 : Int) < (m.length : Int)) = false := by simp; omega
    have x4 : decide (10 < m.length) = false := by simp; omega
    have x5 : decide ((12 : Int) < (more.length : Int)) = false := by simp; omega
    have x6 : decide (12 < more.length) = false := by simp; omega
    have x7 : decide ((100 : Int) < (raw.length : Int)) = true := by simp; omega
    have x8 : decide (100 < raw.length) = true := by simp; omega
    clear hout h1 h2 h3 h4 hvl hvm hvo hvr hat hx hhow _hsq hR hW hC
    go_enter Try.func3, Try.ntmps3
    go_wp2_with fail
    refine (HK.out w).mono ?_
    rintro e w1 ⟨rfl, k1⟩
    clear HK
    go_wp2_with (first | go_skip | fail)
    go_ret
    exact ⟨rfl, k1⟩
  · skip
    have x1 : decide ((10 : Int) < (l.length : Int)) = false := by simp; omega
    have x2 : decide (10 < l.length) = false := by simp; omega
    have hl1 : l.length ≤ 10 := by omega
    have x3 : decide ((10 : Int) < (m.length : Int)) = false := by simp; omega
    have x4 : decide (10 < m.length) = false := by simp; omega
    have hl2 : m.length ≤ 10 := by omega
    have x5 : decide ((12 : Int) < (more.length : Int)) = false := by simp; omega
    have x6 : decide (12 < more.length) = false := by simp; omega
    have hl3 : more.length ≤ 12 := by omega
    have x7 : decide ((100 : Int) < (raw.length : Int)) = false := by simp; omega
    have x8 : decide (100 < raw.length) = false := by simp; omega
    have hl4 : raw.length ≤ 100 := by omega
    obtain ⟨g1, hg1⟩ : ∃ z, z = bits .and .i64 gen 7 := ⟨_, rfl⟩
    obtain ⟨g2, hg2⟩ : ∃ z, z = bits .and .i64 seq 255 := ⟨_, rfl⟩
    obtain ⟨g3, hg3⟩ : ∃ z, z = bits .and .i64 other 7 := ⟨_, rfl⟩
    obtain ⟨g4, hg4⟩ : ∃ z, z = bits .and .i64 seq 4095 := ⟨_, rfl⟩
    have hgs : 0 ≤ g1 ∧ g1 ≤ 7 ∧ 0 ≤ g2 ∧ g2 ≤ 255 := by
      rw [hg1, hg2]
      exact ⟨(and_small gen 7 (by decide)).1, (and_small gen 7 (by decide)).2, (and_small seq 255 (by decide)).1, (and_small seq 255 (by decide)).2⟩
    have r1 := hg1.symm
    have r2 := hg2.symm
    have r3 := hg3.symm
    have r4 := hg4.symm
    have HFA := hid (fun W (hW : Kept None w W) => file_any g1 g2 (.slice al l.length cl) (.slice ao more.length co) lo1 hi1 lo3 hi3 l more W (hvl.kept hW (fun _ _ _ h => h)) (hvo.kept hW (fun _ _ _ h => h)) hl1 hl3)
    have HFB := hid (fun W (hW : Kept None w W) => file_any g3 g4 (.slice am m.length cm) (.slice ao more.length co) lo2 hi2 lo3 hi3 m more W (hvm.kept hW (fun _ _ _ h => h)) (hvo.kept hW (fun _ _ _ h => h)) hl2 hl3)
    have HVR := hid hvr.all
    have HRL := hid hl4
    have HGS := hid hgs
    have HNB := hid (And.intro hat (And.intro hx hhow))
    have HR := hid hR
    have HW := hid hW
    have HC := hid hC
    clear hout hl1 hl2 hl3 hl4 hg1 hg2 hg3 hg4 hgs hvl hvm hvo hvr hat hx hhow _hsq hR hW hC
    go_enter Try.func3, Try.ntmps3
    go_wp2_with fail
    refine (HK.out w).mono ?_
    rintro e w1 ⟨rfl, k1⟩
    have K1 := hid k1
    clear HK k1
    go_wp2_with (first | go_skip | fail)
    clear x1 x2 x3 x4 x5 x6 x7 x8
    refine (HFA.out w1 K1.out).mono ?_
    rintro e w2 ⟨u2, A, rfl, k2, b2, hAl, hA0⟩
    obtain ⟨a2, c2, rfl⟩ := b2.form
    have K2 := hid (K1.out.trans k2)
    have BA2 := hid (b2.bs (Nat.le_refl _)).all
    have HAL := hid (And.intro hAl (hA0 HGS.out))
    clear k2 b2 K1 HFA hAl hA0
    go_wp2_with fail
    refine (HFB.out w2 K2.out).mono ?_
    rintro e w3 ⟨u3, B, rfl, k3, b3, hBl, _⟩
    obtain ⟨a3, c3, rfl⟩ := b3.form
    have K3 := hid (K2.out.trans k3)
    have BA3 := hid (BA2.out.kept k3 (fun _ _ _ h => h)).all
    have BB3 := hid (b3.bs (Nat.le_refl _)).all
    have HBL := hid hBl
    clear k3 b3 K2 BA2 HFB hBl r1 r2 r3 r4
    obtain ⟨M4, hM4⟩ : ∃ q, q = how % 4 := ⟨_, rfl⟩
    have r5 : (how : Int) % 4 = (M4 : Int) := by rw [hM4]; simp
    have hM4c : M4 = 0 ∨ M4 = 1 ∨ M4 = 2 ∨ M4 = 3 := by omega
    have HM4 := hid hM4c
    have hn0 : Ob w3 w3.heap.size (.slice none 0 0) [] := Bo.nil _ _ _
    have hu0 : Bs w3 0 w3.heap.size (.slice a2 A.length c2) A := BA3.out
    have hln : ([] : List UInt8).length + A.length ≤ 140737488355328 := by have := HAL.out.1; simp; omega
    clear hM4 hM4c
    go_upto_block 0 with (first | (refine wpList_append_bo rfl _ _ 22 rfl rtBytes rfl rfl hn0 hu0 hln (Nat.le_refl _) ?_; intro a7 n7 c7 w7 hB7 hK7) | fail)
    (try simp only [r5])
    rw [List.nil_append] at hB7
    have hK37 : Kept None w3 w7 := hK7.mono (fun k _ h => by cases h)
    obtain ⟨_, _, hfm⟩ := hB7.form
    obtain rfl : n7 = A.length := by injection hfm
    have HB7 := hid hB7
    have K37 := hid hK37
    obtain ⟨LA, hLA⟩ : ∃ n, n = A.length := ⟨_, rfl⟩
    rw [← hLA]
    have HLA := hid hLA
    rw [← hLA] at HAL HB7
    obtain ⟨K, hK⟩ : ∃ n, n = at_ % LA := ⟨_, rfl⟩
    have hKl : K < LA := by rw [hK]; exact Nat.mod_lt _ HAL.out.2
    have r6 : (at_ : Int) % (LA : Int) = (K : Int) := by rw [hK]; simp
    have hD0 : ¬ LA = 0 := by have := HAL.out.2; omega
    have hD1 : ((LA : Int) == 0) = false := by simpa using hD0
    have hD2 : ¬ (LA : Int) = 0 := by simpa using hD0
    have qa := (wrapB (n := at_) (by have := HNB.out.1; omega)).1
    have ql := (wrapB (n := LA) (by have := HAL.out.1; omega)).1
    have HKL := hid hKl
    have hib : (K : Int) < (LA : Int) := Int.ofNat_lt.mpr hKl
    clear hB7 hK7 hK37 hfm hn0 hu0 hln r5 hLA hK hKl hD0
    go_cut [23] (fun s23 wx => ∃ (ac : Option Addr) (nc cc : Nat) (D : List UInt8), s23 = .slice ac nc cc ∧ Hid (D.length ≤ 6000) ∧ Hid (Kept None w3 wx) ∧ Hid (Bs wx 0 wx.heap.size (.slice ac nc cc) D))
    case first =>
      rcases HM4.out with rfl | rfl | rfl | rfl
      · obtain ⟨g, rfl, hbg, hcl, hfr⟩ := HB7.out.opened15 (by rw [← HLA.out]; exact HAL.out.2)
        have hcell := hcl K (by rw [← HLA.out]; exact HKL.out)
        have hfree := hfr K
        obtain ⟨y, hy⟩ : ∃ y, y = bAt A K := ⟨_, rfl⟩
        rw [← hy] at hcell
        have hz := xor_small y (x : Int)
        obtain ⟨z, hzz⟩ : ∃ z, z = bits .xor .u8 y (x : Int) := ⟨_, rfl⟩
        have hzx := hzz.symm
        rw [hzx] at hz
        have hset := HB7.out.set K z hz.1 hz.2
        have HSET := hid hset
        have HBG := hid hbg
        clear hy hz hzz hset hcl hfr hbg
        go_wp2_with fail
        obtain ⟨wm, hwm⟩ : ∃ wm, wm = w7.setCell ⟨g, K, none⟩ (.int .u8 z) := ⟨_, rfl⟩
        have hst := HSET.out
        have hko := Kept.one w7 g K (.int .u8 z)
        rw [← hwm] at hst hko ⊢
        have KM := hid (K37.out.then hko (fun q hq (h : q = g) => by have := HBG.out; omega))
        go_meet
        exact ⟨_, _, _, _, rfl, hid (by rw [List.length_set, ← HLA.out]; have := HAL.out.1; omega), KM, hid (hst.bs (Nat.le_refl _)).all⟩
      · obtain ⟨x8, sl8, p8⟩ := slice_to tBytes zBytes (HB7.out.bs (Nat.le_refl _)) .i64 (K : Int) (Int.natCast_nonneg _) (by have := HKL.out; omega)
        simp only [Int.toNat_natCast] at sl8 p8
        rw [← List.map_take] at p8
        have HP8 := hid (show Bs w7 w3.heap.size w7.heap.size (.slice x8 K c7) (A.take K) from p8)
        clear p8
        go_wp2_with fail
        go_meet
        exact ⟨_, _, _, _, rfl, hid (by rw [List.length_take, ← HLA.out]; have := HAL.out.1; omega), K37, hid HP8.out.all⟩
      · have hb := HB7.out
        have hu : Bs w7 0 w.heap.size (.slice ar raw.length cr) raw := HVR.out.kept (K3.out.trans K37.out) (fun _ _ _ h => h)
        have hl2 : A.length + raw.length ≤ 140737488355328 := by have := HAL.out.1; have := HRL.out; rw [← HLA.out]; omega
        have hsz := K37.out.size
        go_wp2_with (first | (refine wpList_append_bo rfl _ _ 22 rfl rtBytes rfl rfl hb hu hl2 hsz ?_; intro a8 n8 c8 w8 hB8 hK8) | fail)
        have KM := hid (K37.out.then hK8 (fun q hq h => by have := (hb.own q h).1; omega))
        go_meet
        exact ⟨_, _, _, _, rfl, hid (by rw [List.length_append, ← HLA.out]; have := HAL.out.1; have := HRL.out; omega), KM, hid (hB8.bs (Nat.le_refl _)).all⟩
      · obtain ⟨X40, S, hx40⟩ := nums40 HNB.out.2.1 HKL.out HAL.out.1
        have HXS := hid hx40
        clear hx40
        obtain ⟨g, rfl, hbg, _, _⟩ := HB7.out.opened15 (by rw [← HLA.out]; exact HAL.out.2)
        have HBG := hid hbg
        clear hbg
        go_wp2_with fail
        (try simp only [r6])
        go_loopg [24] LA (fun kx s24 wr => ∃ (t : Nat) (D : List UInt8), s24 = .int .i64 (t : Int) ∧ t ≤ LA ∧ LA - t ≤ kx ∧ Hid (D.length = LA) ∧ Hid (Kept None w3 wr) ∧ Hid (Ob wr w3.heap.size (.slice (some ⟨g, 0, none⟩) LA c7) D))
        case atStart => exact ⟨K, A, rfl, by have := HKL.out; omega, by omega, hid HLA.out.symm, K37, HB7⟩
        case round =>
        obtain ⟨t, D, rfl, htl, htx, HDL, HS2, HO2⟩ := hrel
        obtain ⟨r7, hS1⟩ := HXS.out
        by_cases hlt3 : t < LA
        · have hlt' : decide ((t : Int) < (LA : Int)) = true := decide_eq_true (Int.ofNat_lt.mpr hlt3)
          have hlt2 : decide (t < LA) = true := decide_eq_true hlt3
          have htb : (t : Int) < (LA : Int) := Int.ofNat_lt.mpr hlt3
          by_cases hts : t < S
          · have e1 : decide ((t : Int) < (S : Int)) = true := decide_eq_true (Int.ofNat_lt.mpr hts)
            have e2 : decide (t < S) = true := decide_eq_true hts
            obtain ⟨g', hg', _, hcl, hfr⟩ := HO2.out.opened15 (by rw [HDL.out]; exact HAL.out.2)
            obtain rfl : g = g' := by injection hg' with e; injection e
            have hcell := hcl t (by rw [HDL.out]; exact hlt3)
            have hfree := hfr t
            have hset := HO2.out.set t 0 (by decide) (by decide)
            have HSET := hid hset
            have HLT := hid hlt3
            have wi := (wrapB (n := t + 1) (by have := HAL.out.1; exact Nat.lt_of_lt_of_le (Nat.succ_lt_succ hlt3) (Nat.succ_le_succ (Nat.le_trans this (by decide))))).1
            have wi1 : wrap64 ((t : Int) + 1) = ((t + 1 : Nat) : Int) := wi
            have HWI := hid wi1
            clear hg' hcl hfr hset wi wi1 hlt3 hts
            go_wp2_with (first | go_skip | fail)
            obtain ⟨wm, hwm⟩ : ∃ wm, wm = wr.setCell ⟨g, t, none⟩ (.int .u8 0) := ⟨_, rfl⟩
            have hst := HSET.out
            have hko := Kept.one wr g t (.int .u8 0)
            rw [← hwm] at hst hko ⊢
            have KM := hid (HS2.out.then hko (fun q hq (h : q = g) => Nat.lt_irrefl _ (Nat.lt_of_lt_of_le hq (by rw [h]; exact HBG.out))))
            have HM := hid hst
            clear hwm hst hko HSET hcell hfree hlt' hlt2 htb e1 e2
            (try go_wp2_with fail)
            go_roundg (LA - (t + 1))
            case measure => have := HLT.out; omega
            case rel => exact ⟨t + 1, _, by first | rfl | rw [HWI.out] | simp, HLT.out, Nat.le_refl _, hid (by rw [List.length_set]; exact HDL.out), KM, HM⟩
          · have e1 : decide ((t : Int) < (S : Int)) = false := decide_eq_false (fun h => hts (Int.ofNat_lt.mp h))
            have e2 : decide (t < S) = false := decide_eq_false hts
            have HB9 := hid (HO2.out.bs (Nat.le_refl _)).all
            clear hlt3 hts htl htx HO2
            go_wp2_with (first | go_skip | fail)
            go_meet
            exact ⟨_, _, _, _, rfl, hid (by rw [HDL.out]; have := HAL.out.1; omega), HS2, HB9⟩
        · have hlt' : decide ((t : Int) < (LA : Int)) = false := decide_eq_false (fun h => hlt3 (Int.ofNat_lt.mp h))
          have hlt2 : decide (t < LA) = false := decide_eq_false hlt3
          have HB9 := hid (HO2.out.bs (Nat.le_refl _)).all
          clear hlt3 htl htx HO2
          go_wp2_with (first | go_skip | fail)
          go_meet
          exact ⟨_, _, _, _, rfl, hid (by rw [HDL.out]; have := HAL.out.1; omega), HS2, HB9⟩
    case rest =>
    obtain ⟨ac, nc, cc, D, rfl, HDL, K3c, HD⟩ := hcut
    obtain ⟨wo, rfl⟩ : ∃ wo : World, wo = wc := ⟨_, rfl⟩
    obtain ⟨ac', cc', he, _⟩ := HD.out.shape
    obtain ⟨rfl, rfl, rfl⟩ : ac = ac' ∧ nc = D.length ∧ cc = cc' := by simpa using he
    have hL : LA = A.length := HLA.out
    subst hL
    have HROW := hid (show IsB15 wo (.slice a2 A.length c2) ∧ IsB15 wo (.slice a3 B.length c3) ∧ IsB15 wo (.slice ac D.length cc) ∧ IsB15 wo (.slice ar raw.length cr) from
      ⟨IsB15.of (BA3.out.kept K3c.out (fun _ _ _ h => h)) (by have := HAL.out.1; omega), IsB15.of (BB3.out.kept K3c.out (fun _ _ _ h => h)) (by have := HBL.out; omega), IsB15.of HD.out HDL.out, IsB15.of (HVR.out.kept (K3.out.trans K3c.out) (fun _ _ _ h => h)) (by have := HRL.out; omega)⟩)
    have KO := hid (K3.out.trans K3c.out)
    clear he HDL HD K3c BA3 BB3 HVR HKL K37 HB7 hib r6 hD1 hD2 qa ql HM4
    go_wp2_with fail
    go_loopg [141] 4 (fun kx s141 wr => ∃ j : Nat, s141 = .int .i64 (j : Int) ∧ j ≤ 4 ∧ 4 - j ≤ kx ∧ Hid (Kept None wo wr) ∧ Hid (Blk wr wo.heap.size #[.slice a2 A.length c2, .slice a3 B.length c3, .slice ac D.length cc, .slice ar raw.length cr] 22))
    case atStart => exact ⟨0, rfl, by omega, by omega, hid ((Kept.refl _ _).alloc _), hid (Blk.new _ _ _)⟩
    case round =>
    obtain ⟨j, rfl, hj, hjx, HS2, HA2⟩ := hrel
    by_cases hlt2 : j < 4
    · have hjz : (j : Int) < 4 := by omega
      obtain ⟨cx, hcx, X, ax, cpx, rfl, hXl, hXb⟩ := of_four15 (p := IsB15 wo) HROW.out.1 HROW.out.2.1 HROW.out.2.2.1 HROW.out.2.2.2 j hlt2
      have hcc := HA2.out.cell j
      rw [hcx] at hcc
      obtain ⟨wp, rfl⟩ : ∃ wp : World, wp = wr := ⟨_, rfl⟩
      have HXB := hid hXb
      have HXL := hid (Nat.le_trans hXl (show 6000 ≤ 1000000000 by decide))
      have hr1 := fun W (hW' : Kept None wo W) => HR.out _ _ _ X W (HXB.out.kept hW' (fun _ _ _ h => h)) HXL.out
      have hr2 := fun W (hW' : Kept None wo W) => R12.records _ _ _ X W (HXB.out.kept hW' (fun _ _ _ h => h)) (Nat.le_trans HXL.out (by decide))
      have hRl : 21 * (scanR none X).length ≤ X.length := scanR_len none X
      have hRf := scanR_fits _ none X (Nat.le_refl _)
      obtain ⟨N, hN⟩ : ∃ n, n = scanC none X := ⟨_, rfl⟩
      obtain ⟨R, hR0⟩ : ∃ r, r = scanR none X := ⟨_, rfl⟩
      rw [← hN, ← hR0] at hr1 hr2
      rw [← hR0] at hRl hRf
      have hRn : R.length ≤ 1000000000 := Nat.le_trans (by omega) HXL.out
      have hPl : (wholeF R).l.length ≤ 1099511627776 := by
        have : (wholeF R).l.length ≤ R.length := by
          unfold wholeF
          split
          · exact Nat.zero_le _
          · split
            · exact Nat.le_trans (pendsF_len _) (Nat.le_succ _)
            · exact Nat.zero_le _
        omega
      have hw1 := fun W v lo hi (h : Ps 12 W lo hi v (recsC R)) => HW.out v lo hi R W h (fun r hr => (hRf r hr).2) hRn
      have hw2 := fun W v lo hi (h : Ps 12 W lo hi v (recsC R)) => R12.whole v lo hi R W h hRn
      obtain ⟨⟨G, PL, OK⟩, hF⟩ : ∃ q, q = wholeF R := ⟨_, rfl⟩
      rw [← hF] at hw1 hw2 hPl
      simp only at hw1 hw2 hPl
      have HR1 := hid hr1
      have HR2 := hid hr2
      have HW1 := hid hw1
      have HW2 := hid hw2
      have HPL := hid hPl
      have HRN := hid (Nat.le_trans hRn (show 1000000000 ≤ 1099511627776 by decide))
      clear hcx hXl hXb hr1 hr2 hRl hRf hN hR0 hRn hPl hw1 hw2 hF
      go_wp2_with fail
      refine (HR1.out wp HS2.out).mono ?_
      rintro e w4 ⟨u4, rfl, k4, p4⟩
      obtain ⟨a4, c4, rfl⟩ := recs_form p4
      have K4 := hid (HS2.out.trans k4)
      have P4 := hid p4
      have A4 := hid (HA2.out.kept k4 (fun h => h))
      clear k4 p4 hcc HR1
      go_wp2_with fail
      refine (HR2.out w4 K4.out).mono ?_
      rintro e w5 ⟨u5, rfl, k5, p5⟩
      have p5 := p5.ps (Nat.le_refl _)
      obtain ⟨a5, c5, rfl⟩ := recs_form p5
      have K5 := hid (K4.out.trans k5)
      have P45 := hid (P4.out.kept k5 (fun _ _ _ h => h))
      have P5 := hid p5
      have A5 := hid (A4.out.kept k5 (fun h => h))
      have hrs := fun W (hW' : Kept None w5 W) => Hr.records _ _ _ _ _ _ R R W (P45.out.kept hW' (fun _ _ _ h => h)) (P5.out.kept hW' (fun _ _ _ h => h)) HRN.out
      have hrt : recsEq R R = true := by unfold recsEq; simp
      rw [hrt] at hrs
      have HRS := hid hrs
      clear k5 p5 hrs hrt K4 P4 A4 HR2
      go_wp2_with (first | go_skip | fail)
      refine (HRS.out w5 (Kept.refl _ _)).mono ?_
      rintro e w6 ⟨rfl, k6⟩
      have K6 := hid (K5.out.trans k6)
      have P6 := hid (P5.out.kept k6 (fun _ _ _ h => h))
      have A6 := hid (A5.out.kept k6 (fun h => h))
      clear k6 K5 P45 P5 A5 HRS
      go_wp2_with (first | go_skip | fail)
      refine (HW1.out w6 _ _ _ P6.out).mono ?_
      rintro e w7 ⟨u7, rfl, k7, p7⟩
      obtain ⟨a7', c7', hu7, _⟩ := p7.form
      rw [pensC_len] at hu7
      subst hu7
      have K7 := hid (K6.out.trans k7)
      have P67 := hid (P6.out.kept k7 (fun _ _ _ h => h))
      have A7 := hid (A6.out.kept k7 (fun h => h))
      have Q7 := hid p7
      clear k7 p7 K6 P6 A6 HW1
      go_wp2_with fail
      refine (HW2.out w7 _ _ _ P67.out).mono ?_
      rintro e w8 ⟨u8, rfl, k8, p8⟩
      have p8 := p8.ps (Nat.le_refl _)
      obtain ⟨a8', c8', hu8, _⟩ := p8.form
      rw [pensC_len] at hu8
      subst hu8
      have K8 := hid (K7.out.trans k8)
      have A8 := hid (A7.out.kept k8 (fun h => h))
      have hpq := fun W (hW' : Kept None w8 W) => Hr.pending _ _ _ _ _ _ PL PL W ((Q7.out.kept k8 (fun _ _ _ h => h)).kept hW' (fun _ _ _ h => h)) (p8.kept hW' (fun _ _ _ h => h)) HPL.out
      have hpt : pensEq PL PL = true := by unfold pensEq; simp
      rw [hpt] at hpq
      have HPQ := hid hpq
      have dn : (OK != OK) = false := by simp
      clear k8 p8 hpq hpt K7 P67 A7 Q7 HW2
      go_wp2_with (first | go_skip | fail)
      clear dn
      refine (HPQ.out w8 (Kept.refl _ _)).mono ?_
      rintro e w9 ⟨rfl, k9⟩
      have K9 := hid (K8.out.trans k9)
      have A9 := hid (A8.out.kept k9 (fun h => h))
      clear k9 K8 A8 HPQ
      go_wp2_with (first | go_skip | fail)
      go_loopg [196] 4 (fun kx s196 wr => ∃ i : Nat, s196 = .int .i64 (i : Int) ∧ i ≤ 4 ∧ 4 - i ≤ kx ∧ Hid (Kept None w9 wr) ∧ Hid (Blk wr w9.heap.size #[.slice a2 A.length c2, .slice a3 B.length c3, .slice ac D.length cc, .slice ar raw.length cr] 22))
      case atStart => exact ⟨0, rfl, by omega, by omega, hid ((Kept.refl _ _).alloc _), hid (Blk.new _ _ _)⟩
      case round =>
      obtain ⟨i, rfl, hi, hix, HS3, HA3⟩ := hrel
      by_cases hlt3 : i < 4
      · have hiz : (i : Int) < 4 := by omega
        obtain ⟨cx, hcx, Y, ay, cpy, rfl, hYl, hYb⟩ := of_four15 (p := IsB15 wo) HROW.out.1 HROW.out.2.1 HROW.out.2.2.1 HROW.out.2.2.2 i hlt3
        have hcc := HA3.out.cell i
        rw [hcx] at hcc
        obtain ⟨wq, rfl⟩ : ∃ wq : World, wq = wr := ⟨_, rfl⟩
        have HYB := hid hYb
        have HYL := hid (Nat.le_trans hYl (show 6000 ≤ 1000000000 by decide))
        have hc1 := fun W (hW' : Kept None wo W) => HC.out _ _ _ _ _ _ X Y W (HXB.out.kept hW' (fun _ _ _ h => h)) (HYB.out.kept hW' (fun _ _ _ h => h)) HXL.out HYL.out
        have hc2 := fun W (hW' : Kept None wo W) => R12.choose _ _ _ _ _ _ X Y W (HXB.out.kept hW' (fun _ _ _ h => h)) (HYB.out.kept hW' (fun _ _ _ h => h)) HXL.out HYL.out
        obtain ⟨⟨cf, ck⟩, hcF⟩ : ∃ q, q = chooseF X Y := ⟨_, rfl⟩
        rw [← hcF] at hc1 hc2
        simp only at hc1 hc2
        have HC1 := hid hc1
        have HC2 := hid hc2
        have K9q := hid (K9.out.trans HS3.out)
        clear hcx hYl hYb hc1 hc2 hcF
        go_wp2_with fail
        refine (HC1.out wq K9q.out).mono ?_
        rintro e w10 ⟨rfl, k10⟩
        have K10 := hid (K9q.out.trans k10)
        have KL10 := hid (HS3.out.trans k10)
        have A10 := hid (HA3.out.kept k10 (fun h => h))
        clear k10 hcc HC1
        go_wp2_with fail
        refine (HC2.out w10 K10.out).mono ?_
        rintro e w11 ⟨rfl, k11⟩
        have KL11 := hid (KL10.out.trans k11)
        have A11 := hid (A10.out.kept k11 (fun h => h))
        have dn : (ck != ck) = false := by simp
        clear k11 HC2 K10 KL10 A10
        go_wp2_with (first | go_skip | fail)
        clear dn
        go_roundg (4 - (i + 1))
        case measure => omega
        case rel => exact ⟨i + 1, by first | rfl | simp | go_num, by omega, Nat.le_refl _, KL11, A11⟩
      · obtain rfl : i = 4 := by omega
        have KE := hid (K9.out.trans HS3.out)
        have AE := hid (A9.out.kept HS3.out (fun h => h))
        clear hlt3 hi hix
        go_wp2_with fail
        go_roundg (4 - (j + 1))
        case measure => omega
        case rel => exact ⟨j + 1, by first | rfl | simp | go_num, by omega, Nat.le_refl _, KE, AE⟩
    · obtain rfl : j = 4 := by omega
      have KE := hid (KO.out.trans HS2.out)
      clear hlt2 hj hjx
      go_wp2_with fail
      go_ret
      exact ⟨rfl, KE.out⟩
end P15
end Go.Proofs.Ytbebpnanhkcngaa
namespace Go.Pm
open Go Go.RowKit Go.ChangeShapes Go.WideShapes Go.ChangeAt
section
variable {H : Type} {enc : TypeId × Value → H} {P : Program}
theorem inI_wf {x : Int} (h : (Lit.int .i64 x).wf = true) : inI x := by
  simp [Lit.wf, IntKind.min, IntKind.max, IntKind.signed, IntKind.bits] at h
  exact ⟨by omega, by omega⟩
/-- A request's cells. -/
theorem trodReq {w : World} {base : Nat} {spare : Nat → Bool} {held : Bool} {n : Nat} {t : TypeId} {f0 f1 f2 f3 f4 g0 g1 : Field} {l : List Value} {y : DataW H × List MemPlace} (ht : P.underlying t = some (.struct #[f0, f1, f2, f3, f4])) (hl6 : l.length = 6)
    (o0 : f0.offset = 0) (o1 : f1.offset = 1) (o2 : f2.offset = 2) (o3 : f3.offset = 3) (o4 : f4.offset = 4) (hu0 : P.underlying f0.type = some .string) (hu1 : P.underlying f1.type = some (.int .i64)) (hu2 : P.underlying f2.type = some (.int .u64)) (hu3 : P.underlying f3.type = some (.int .i64))
    (hu4 : P.underlying f4.type = some (.struct #[g0, g1])) (q0 : g0.offset = 0) (q1 : g1.offset = 1) (hg0 : P.underlying g0.type = some (.int .u64)) (hg1 : P.underlying g1.type = some (.int .u64))
    (hc0 : P.cellsOf f0.type = 1) (hc1 : P.cellsOf f1.type = 1) (hc2 : P.cellsOf f2.type = 1) (hc3 : P.cellsOf f3.type = 1) (hc4 : P.cellsOf f4.type = 2) (hd0 : P.cellsOf g0.type = 1) (hd1 : P.cellsOf g1.type = 1)
    (h : DataW.trod enc P w base spare held n t l = some y) : ∃ u : Req, l = reqC u ∧ u.Fits := by
  obtain ⟨xs, n', _, _, _, hlen, hx⟩ := DataW.trod_struct ht h
  match l, hl6 with
  | [c0, c1, c2, c3, c4, c5], _ =>
    match xs, hlen with
    | [y0, y1, y2, y3, y4], _ =>
      have e0 := hx 0 f0 rfl
      have e1 := hx 1 f1 rfl
      have e2 := hx 2 f2 rfl
      have e3 := hx 3 f3 rfl
      have e4 := hx 4 f4 rfl
      rw [o0, hc0] at e0
      rw [o1, hc1] at e1
      rw [o2, hc2] at e2
      rw [o3, hc3] at e3
      rw [o4, hc4] at e4
      obtain ⟨s0, r0, _, _⟩ := DataW.trod_string hu0 e0
      obtain ⟨k1, r1, _, w1⟩ := DataW.trod_int hu1 e1
      obtain ⟨k2, r2, _, w2⟩ := DataW.trod_int hu2 e2
      obtain ⟨k3, r3, _, w3⟩ := DataW.trod_int hu3 e3
      obtain ⟨z0, z1, n4, _, _, m0, m1⟩ := trod_struct2 hu4 e4
      rw [q0, hd0] at m0
      rw [q1, hd1] at m1
      obtain ⟨k4, r4, _, w4⟩ := DataW.trod_int hg0 m0
      obtain ⟨k5, r5, _, w5⟩ := DataW.trod_int hg1 m1
      have i1 := inI_wf w1
      have i3 := inI_wf w3
      simp at r0 r1 r2 r3 r4 r5
      simp [Lit.wf, IntKind.min, IntKind.max, IntKind.signed, IntKind.bits] at w2 w4 w5
      subst r0 r1 r2 r3 r4 r5
      refine ⟨⟨s0, k1, k2.toNat, k3, k4.toNat, k5.toNat⟩, ?_, i1, by show k2.toNat < _; omega, i3, by show k4.toNat < _; omega, by show k5.toNat < _; omega⟩
      show _ = [_, _, Value.int .u64 ((k2.toNat : Nat) : Int), _, Value.int .u64 ((k4.toNat : Nat) : Int), Value.int .u64 ((k5.toNat : Nat) : Int)]
      rw [Int.toNat_of_nonneg (by omega), Int.toNat_of_nonneg (by omega), Int.toNat_of_nonneg (by omega)]
/-- An api.Record argument. -/
theorem openRec {W : World} {t : TypeId} {f0 f1 f2 f3 f4 g0 g1 e0 e1 e2 e3 e4 e5 e6 : Field} {v : Value} {d : DataW H} {p : List MemPlace} {base : Nat} (htr : P.underlying t = some (.struct #[e0, e1, e2, e3, e4, e5, e6])) (hC : P.cellsOf t = 12)
    (a0 : e0.offset = 0) (a1 : e1.offset = 1) (a2 : e2.offset = 2) (a3 : e3.offset = 3) (a4 : e4.offset = 4) (a5 : e5.offset = 10) (a6 : e6.offset = 11)
    (b0 : P.underlying e0.type = some (.int .i64)) (b1 : P.underlying e1.type = some (.int .i64)) (b2 : P.underlying e2.type = some (.int .i64)) (b3 : P.underlying e3.type = some (.int .i64)) (b5 : P.underlying e5.type = some (.int .i64)) (b6 : P.underlying e6.type = some (.int .i64))
    (k0 : P.cellsOf e0.type = 1) (k1 : P.cellsOf e1.type = 1) (k2 : P.cellsOf e2.type = 1) (k3 : P.cellsOf e3.type = 1) (k4 : P.cellsOf e4.type = 6) (k5 : P.cellsOf e5.type = 1) (k6 : P.cellsOf e6.type = 1)
    (ht : P.underlying e4.type = some (.struct #[f0, f1, f2, f3, f4]))
    (o0 : f0.offset = 0) (o1 : f1.offset = 1) (o2 : f2.offset = 2) (o3 : f3.offset = 3) (o4 : f4.offset = 4) (hu0 : P.underlying f0.type = some .string) (hu1 : P.underlying f1.type = some (.int .i64)) (hu2 : P.underlying f2.type = some (.int .u64)) (hu3 : P.underlying f3.type = some (.int .i64))
    (hu4 : P.underlying f4.type = some (.struct #[g0, g1])) (q0 : g0.offset = 0) (q1 : g1.offset = 1) (hg0 : P.underlying g0.type = some (.int .u64)) (hg1 : P.underlying g1.type = some (.int .u64))
    (hc0 : P.cellsOf f0.type = 1) (hc1 : P.cellsOf f1.type = 1) (hc2 : P.cellsOf f2.type = 1) (hc3 : P.cellsOf f3.type = 1) (hc4 : P.cellsOf f4.type = 2) (hd0 : P.cellsOf g0.type = 1) (hd1 : P.cellsOf g1.type = 1)
    (hok : Value.okWide P W .any base t v) (h : DataW.Trod enc P W 0 (fun _ => true) true t v d p) : ∃ r : Rec, v = r.V ∧ r.Fits := by
  simp only [Value.okWide, htr] at hok
  obtain ⟨cs, rfl, h2, _⟩ := hok
  rw [hC] at h2
  obtain ⟨fuel, hf⟩ := h
  obtain ⟨xs, n', _, _, _, hlen, hx⟩ := DataW.trod_struct htr hf
  obtain ⟨l⟩ := cs
  match l, h2 with
  | [c0, c1, c2, c3, c4, c5, c6, c7, c8, c9, c10, c11], _ =>
    match xs, hlen with
    | [y0, y1, y2, y3, y4, y5, y6], _ =>
      have m0 := hx 0 e0 rfl
      have m1 := hx 1 e1 rfl
      have m2 := hx 2 e2 rfl
      have m3 := hx 3 e3 rfl
      have m4 := hx 4 e4 rfl
      have m5 := hx 5 e5 rfl
      have m6 := hx 6 e6 rfl
      rw [a0, k0] at m0
      rw [a1, k1] at m1
      rw [a2, k2] at m2
      rw [a3, k3] at m3
      rw [a4, k4] at m4
      rw [a5, k5] at m5
      rw [a6, k6] at m6
      obtain ⟨x0, r0, _, w0⟩ := DataW.trod_int b0 m0
      obtain ⟨x1, r1, _, w1⟩ := DataW.trod_int b1 m1
      obtain ⟨x2, r2, _, w2⟩ := DataW.trod_int b2 m2
      obtain ⟨x3, r3, _, w3⟩ := DataW.trod_int b3 m3
      obtain ⟨x5, r5, _, w5⟩ := DataW.trod_int b5 m5
      obtain ⟨x6, r6, _, w6⟩ := DataW.trod_int b6 m6
      obtain ⟨u, hu, hfu⟩ := trodReq (l := [c4, c5, c6, c7, c8, c9]) ht rfl o0 o1 o2 o3 o4 hu0 hu1 hu2 hu3 hu4 q0 q1 hg0 hg1 hc0 hc1 hc2 hc3 hc4 hd0 hd1 m4
      simp [Value.cells] at r0 r1 r2 r3 r5 r6
      simp only [reqC, List.cons.injEq, and_true] at hu
      obtain ⟨u0, u1, u2, u3, u4, u5⟩ := hu
      subst r0 r1 r2 r3 r5 r6 u0 u1 u2 u3 u4 u5
      exact ⟨⟨x0, x1, x2, x3, u, x5, x6⟩, rfl, inI_wf w0, inI_wf w1, inI_wf w2, inI_wf w3, hfu, inI_wf w5, inI_wf w6⟩
theorem trodAll_8 {w : World} {base : Nat} {spare : Nat → Bool} {held : Bool} {t0 t1 t2 t3 t4 t5 t6 t7 : TypeId} {args : Array Value} {ds : List (DataW H)} {ps : List MemPlace} (h : DataW.TrodAll enc P w base spare held [t0, t1, t2, t3, t4, t5, t6, t7] args.toList ds ps) :
    ∃ v0 v1 v2 v3 v4 v5 v6 v7 d0 d1 d2 d3 d4 d5 d6 d7 p0 p1 p2 p3 p4 p5 p6 p7, args = #[v0, v1, v2, v3, v4, v5, v6, v7] ∧ ds = [d0, d1, d2, d3, d4, d5, d6, d7] ∧ ps = p0 ++ (p1 ++ (p2 ++ (p3 ++ (p4 ++ (p5 ++ (p6 ++ p7)))))) ∧
      DataW.Trod enc P w base spare held t0 v0 d0 p0 ∧ DataW.Trod enc P w base spare held t1 v1 d1 p1 ∧ DataW.Trod enc P w base spare held t2 v2 d2 p2 ∧ DataW.Trod enc P w base spare held t3 v3 d3 p3 ∧ DataW.Trod enc P w base spare held t4 v4 d4 p4 ∧ DataW.Trod enc P w base spare held t5 v5 d5 p5 ∧ DataW.Trod enc P w base spare held t6 v6 d6 p6 ∧ DataW.Trod enc P w base spare held t7 v7 d7 p7 := by
  obtain ⟨v0, l0, d0, e0, p0, q0, ha, rfl, rfl, h0, h⟩ := trodAll_cons h
  obtain ⟨v1, v2, v3, v4, v5, v6, v7, d1, d2, d3, d4, d5, d6, d7, p1, p2, p3, p4, p5, p6, p7, hb, rfl, rfl, h1, h2, h3, h4, h5, h6, h7⟩ := trodAll_seven (args := l0.toArray) (by simpa using h)
  refine ⟨v0, v1, v2, v3, v4, v5, v6, v7, d0, d1, d2, d3, d4, d5, d6, d7, p0, p1, p2, p3, p4, p5, p6, p7, ?_, rfl, by simp, h0, h1, h2, h3, h4, h5, h6, h7⟩
  apply Array.ext'
  rw [ha]
  have := congrArg Array.toList hb
  simp at this
  simp [this]
end
end Go.Pm
namespace Go.Proofs.Ytbebpnanhkcngaa
open Go.ChangeShapes Go.WideShapes Go.ChangeAt Go.RowKit Go.Pm

theorem laidOut : laidOutB Try.prog = true := by kernel_rfl
theorem ownKnobs : ownKnob Try.prog.godebug = none := by kernel_rfl
theorem rI64t : Try.prog.underlying 2 = some (.int .i64) := by kernel_rfl
theorem rBool : Try.prog.underlying 4 = some .bool := by kernel_rfl
theorem rU8 : Try.prog.underlying 5 = some (.int .u8) := by kernel_rfl
theorem rU16 : Try.prog.underlying 23 = some (.int .u16) := by kernel_rfl
theorem cByte : Try.prog.cellsOf 5 = 1 := by kernel_rfl

set_option maxRecDepth 100000 in
theorem scanTells_lifted (os : Os) (started : os.Started) (H : Type) (enc : TypeId × Value → H) :
    ReturnsInHanded {} Try.checked os 3 .any (Rows.scanTellsSpec.pre6 enc Try.prog Try.f3 Rows.scanTellsRow.domain false) (Rows.scanTellsSpec.post enc Try.prog Try.f3 false true false false) := by
  refine returnsInHanded_of_change (C := Try.checked) ownKnobs started (by kernel_rfl) Try.func3
    (ChangeSpec.witness6 (enc := enc) (C := Try.checked) false ⟨#[], #[.int .i64 0, .int .i64 0, .slice none 0 0, .slice none 0 0, .slice none 0 0, .int .i64 0, .slice none 0 0, .int .u16 0, .int .u8 0, .int .u8 0], []⟩ 8 (by kernel_rfl) (by kernel_rfl) (by kernel_rfl) (by kernel_rfl)) ?_
  intro W base args ds gs before hval0 hW _ _
  have hval : ∀ (j : Nat) t v, Try.f3.params[j]? = some t → args[j]? = some v → Value.okWide Try.prog W .any base t v := hval0
  have hlt : ∀ x ∈ before, x.block < W.heap.size := fun x hx => by simpa using hW.lt x hx
  have hW' := hW
  obtain ⟨p, q, hA0, hV, rfl, hfz, hnd⟩ := hW
  obtain ⟨rfl, rfl⟩ := trodVars_none hV
  have hA : DataW.TrodAll enc Try.prog W 0 (fun _ => true) true Try.f3.params.toList args.toList ds p := hA0
  rw [Try.params3] at hA hval
  obtain ⟨v0, v1, v2, v3, v4, v5, v6, v7, v8, v9, d0, d1, d2, d3, d4, d5, d6, d7, d8, d9, p0, p1, p2, p3, p4, p5, p6, p7, p8, p9, rfl, rfl, rfl, h0, h1, h2, h3, h4, h5, h6, h7, h8, h9⟩ := trodAll_ten hA
  obtain ⟨gen, rfl, _, _, b0⟩ := open_int rI64t (hval 0 2 v0 rfl rfl) h0
  obtain ⟨other, rfl, _, _, b1⟩ := open_int rI64t (hval 1 2 v1 rfl rfl) h1
  obtain ⟨l, hl⟩ := openBs tBytes' tByte cByte (hval 2 22 v2 rfl rfl) h2 (fun x hx => hlt x (by simp [hx]))
  obtain ⟨m, hm⟩ := openBs tBytes' tByte cByte (hval 3 22 v3 rfl rfl) h3 (fun x hx => hlt x (by simp [hx]))
  obtain ⟨more, hmore⟩ := openBs tBytes' tByte cByte (hval 4 22 v4 rfl rfl) h4 (fun x hx => hlt x (by simp [hx]))
  obtain ⟨seq, rfl, _, _, b5⟩ := open_int rI64t (hval 5 2 v5 rfl rfl) h5
  obtain ⟨raw, hraw⟩ := openBs tBytes' tByte cByte (hval 6 22 v6 rfl rfl) h6 (fun x hx => hlt x (by simp [hx]))
  obtain ⟨at_, rfl, b7⟩ := openNat_u16 rU16 (hval 7 23 v7 rfl rfl) h7
  obtain ⟨x, rfl, b8⟩ := openNat_u8 rU8 (hval 8 5 v8 rfl rfl) h8
  obtain ⟨how, rfl, b9⟩ := openNat_u8 rU8 (hval 9 5 v9 rfl rfl) h9
  refine (P15.tells Sn.records Sn.whole Sn.choose gen other seq v2 v3 v4 v6 _ _ _ _ _ _ _ _ l m more raw at_ x how W hl hm hmore hraw b7 b8 b9 (inI_wf b5)).mono fun e W' ⟨he, hk⟩ => ?_
  subst he
  exact ⟨_, rfl, law_post (P := Try.prog) (f := Try.f3) rfl rfl rBool laidOut (by kernel_rfl) hW' rfl rfl rfl (hk.below (fun _ _ h => h))⟩

theorem scanTells_holds : Rows.ScanTellsSaid :=
  OpenClaim.holds_of_wide 3 Try.f3 rfl rfl rfl rfl rfl rfl rfl ⟨rfl, rfl, rfl, rfl, rfl⟩ rfl rfl rfl rfl rfl (by kernel_rfl) Try.func3 (by kernel_rfl)
    (of_decide_eq_true (by kernel_rfl)) (by unfold Func.isWrapper; first | (rw [if_pos (by decide +kernel)]; kernel_rfl) | (rw [if_neg (by decide +kernel)]; exact ⟨rfl, rfl⟩))
    (fun os started H enc _ => scanTells_lifted os started H enc)
end Go.Proofs.Ytbebpnanhkcngaa
