/- Rows.ScanRawSaid: which lists of records are whole is as the document has it, whatever the records. No condition. -/
import Derived.Test.YtbebpnanhkcngaaPk5
import Derived.Test.YtbebpnanhkcngaaPk2
import Derived.Test.YtbebpnanhkcngaaPk7
import Derived.Test.YtbebpnanhkcngaaRows
import Derived.Test.YtbebpnanhkcngaaPk8
namespace Go.Pm
open Go Go.RowKit
theorem Ps.all15 {k : Nat} {w : World} {lo hi : Nat} {v : Value} {xs : List (List Value)} (h : Ps k w lo hi v xs) : Ps k w 0 w.heap.size v xs := h.lt.wider (Nat.zero_le _) (Nat.min_le_right _ _)
theorem ps_upto {k : Nat} {P : Program} {t : TypeId} (ht : P.underlying t = some (.slice (P.elem t))) (hz : ∀ W, (sizeOf (P.elem t)).run P W = .ok k W) {w : World} {lo hi : Nat} {a : Option Addr} {n cap : Nat} {xs : List (List Value)} (h : Ps k w lo hi (.slice a n cap) xs) (i : Nat) (h1 : i ≤ n) :
    ∃ a', (∀ W, (Instr.slice t (.slice a n cap) none (some (.int .i64 (i : Int))) none).run P W = .ok (.slice a' i cap) W) ∧ Ps k w lo hi (.slice a' i cap) (xs.take i) := by
  have hc : n ≤ cap := by obtain ⟨a', cap', hv, hc, _⟩ := h.form; injection hv; omega
  refine ⟨if cap = 0 then a else a.map (·.add (0 * k)), fun W => ?_, ?_⟩
  · rw [run_slice_h (P := P) W t a n cap ht .i64 (i : Int) (Int.natCast_nonneg _) (by omega), hz]
    simp only [Result.andThen, Go.sliced, Nat.sub_zero, Int.toNat_natCast]
  · have := Ps.sliced h 0 i (Nat.zero_le _) h1
    simpa using this
end Go.Pm
namespace Go.Proofs.Ytbebpnanhkcngaa
open Go.RowKit Go.Pm
namespace P15
open Sn
theorem tRecs15 : Try.prog.underlying 27 = some (.slice (Try.prog.elem 27)) := by kernel_rfl
theorem zRecs15 : ∀ W, (sizeOf (Try.prog.elem 27)).run Try.prog W = .ok 12 W := fun _ => by kernel_rfl
theorem recs_form {w : World} {lo hi : Nat} {v : Value} {l : List Rec} (h : Ps 12 w lo hi v (recsC l)) : ∃ a c, v = .slice a l.length c := by
  obtain ⟨a, c, h1, _⟩ := h.form
  rw [recsC_len] at h1
  exact ⟨a, c, h1⟩
set_option maxRecDepth 100000 in
set_option maxHeartbeats 16000000 in
theorem cuts (hR : RecordsC) (hW : WholeC) (hC : ChooseC) (gen : Int) (vl vm : Value) (lo hi lo' hi' : Nat) (l more : List UInt8) (at_ : Nat) (w : World) (hv : Bs w lo hi vl l) (hv' : Bs w lo' hi' vm more) (hat : at_ < 65536) :
    Calls Try.prog 4 #[.int .i64 gen, vl, vm, .int .u16 (at_ : Int)] w fun e w' => e = .returned (.bool true) ∧ Kept None w w' := by
  obtain ⟨al, cl, rfl, _⟩ := hv.shape
  obtain ⟨am, cm, rfl, _⟩ := hv'.shape
  have HK := hid (fun W => known hR hW hC W)
  by_cases hout : 8 < l.length ∨ 8 < more.length
  · by_cases h1 : 8 < l.length
    · have x1 : decide ((8 : Int) < (l.length : Int)) = true := by simp; omega
      have x2 : decide (8 < l.length) = true := by simpa using h1
      clear hout h1 hv hv' hR hW hC hat
      go_enter Try.func4, Try.ntmps4
      go_wp2_with fail
      refine (HK.out w).mono ?_
      rintro e w1 ⟨rfl, k1⟩
      clear HK
      go_wp2_with (first | go_skip | fail)
      go_ret
      exact ⟨rfl, k1⟩
    · have x1 : decide ((8 : Int) < (l.length : Int)) = false := by simp; omega
      have x2 : decide (8 < l.length) = false := by simpa using h1
      have x3 : decide ((8 : Int) < (more.length : Int)) = true := by simp; omega
      have x4 : decide (8 < more.length) = true := by simp; omega
      clear hout h1 hv hv' hR hW hC hat
      go_enter Try.func4, Try.ntmps4
      go_wp2_with fail
      refine (HK.out w).mono ?_
      rintro e w1 ⟨rfl, k1⟩
      clear HK
      go_wp2_with (first | go_skip | fail)
      go_ret
      exact ⟨rfl, k1⟩
  · have x1 : decide ((8 : Int) < (l.length : Int)) = false := by simp; omega
    have x2 : decide (8 < l.length) = false := by simp; omega
    have x3 : decide ((8 : Int) < (more.length : Int)) = false := by simp; omega
    have x4 : decide (8 < more.length) = false := by simp; omega
    have hl8 : l.length ≤ 8 := by omega
    have hm8 : more.length ≤ 8 := by omega
    obtain ⟨g, hg⟩ : ∃ z, z = bits .and .i64 gen 255 := ⟨_, rfl⟩
    have rg := hg.symm
    have qc := (wrapB (n := at_) (by omega)).1
    have hfx := fun W (hW : Kept None w W) => file g 0 (.slice al l.length cl) (.slice am more.length cm) lo hi lo' hi' l more W (hv.kept hW (fun _ _ _ h => h)) (hv'.kept hW (fun _ _ _ h => h)) (by omega) (by omega)
    have hbl := baseF_le g 0 (Seat.pendF l) (by rw [show (Seat.pendF l).length = l.length from Seat.pendN_len l _]; omega)
    have HFX := hid (fun W hW => show Calls Try.prog 9 #[.int .i64 g, .slice al l.length cl, .slice am more.length cm, .int .i64 0] W fun e w' => ∃ u A, e = .returned u ∧ Kept None W w' ∧ Ob w' W.heap.size u A ∧ A.length ≤ 5000 from (hfx W hW).mono (by
      rintro e w' ⟨u, Z, h1, h2, h3, h4⟩
      exact ⟨u, _, h1, h2, h3, by rw [List.length_append]; omega⟩))
    have HR := hid hR
    clear hout hl8 hm8 hfx hbl hg hv hv' hat hR hW hC
    go_enter Try.func4, Try.ntmps4
    go_wp2_with fail
    refine (HK.out w).mono ?_
    rintro e w1 ⟨rfl, k1⟩
    have K1 := hid k1
    clear HK k1
    go_wp2_with (first | go_skip | fail)
    clear x1 x2 x3 x4 rg
    refine (HFX.out w1 K1.out).mono ?_
    rintro e w2 ⟨u2, A, rfl, k2, b2, hAl⟩
    obtain ⟨a2, c2, rfl⟩ := b2.form
    have K2 := hid (K1.out.trans k2)
    have B2 := hid (b2.bs (Nat.le_refl _)).all
    have HAL := hid hAl
    clear k2 b2 K1 HFX hAl
    obtain ⟨L1, hL1⟩ : ∃ m, m = A.length + 1 := ⟨_, rfl⟩
    have hL1z : (A.length : Int) + 1 = (L1 : Int) := by omega
    have qL := (wrapB (n := L1) (by have := HAL.out; omega)).1
    obtain ⟨K, hK⟩ : ∃ m, m = at_ % L1 := ⟨_, rfl⟩
    have hKl : K ≤ A.length := by have := Nat.mod_lt at_ (show 0 < L1 by omega); omega
    have r5 : (at_ : Int) % (L1 : Int) = (K : Int) := by rw [hK]; simp
    have hD1 : ((L1 : Int) == 0) = false := by
      have : ¬ L1 = 0 := by omega
      simpa using this
    have hD2 : ¬ (L1 : Int) = 0 := by omega
    have hcut := cuts15 A K
    have h5 : A.length ≤ 1000000000 := by have := HAL.out; omega
    have hr1 := fun W v lo hi (h : Bs W lo hi v A) => HR.out v lo hi A W h h5
    have hr2 := fun W v lo hi (h : Bs W lo hi v (A.take K)) => HR.out v lo hi _ W h (by rw [List.length_take]; omega)
    have hr3 := fun W v lo hi (h : Bs W lo hi v (A.take (scanC none (A.take K)))) => HR.out v lo hi _ W h (by rw [List.length_take]; omega)
    have hml : scanC none (A.take K) ≤ A.length := Nat.le_trans hcut.1 hKl
    obtain ⟨N, hN⟩ : ∃ m, m = scanC none A := ⟨_, rfl⟩
    obtain ⟨M, hM⟩ : ∃ m, m = scanC none (A.take K) := ⟨_, rfl⟩
    obtain ⟨R, hR0⟩ : ∃ m, m = scanR none A := ⟨_, rfl⟩
    obtain ⟨P, hP⟩ : ∃ m, m = scanR none (A.take K) := ⟨_, rfl⟩
    rw [← hM] at hcut hr2 hr3 hml
    rw [← hN] at hcut hr1
    rw [← hR0] at hcut hr1
    rw [← hP] at hcut hr2
    have hRl : 21 * R.length ≤ A.length := by rw [hR0]; exact scanR_len none A
    obtain ⟨Q, hQ⟩ : ∃ m, m = scanR none (A.take M) := ⟨_, rfl⟩
    obtain ⟨O, hO⟩ : ∃ m, m = scanC none (A.take M) := ⟨_, rfl⟩
    rw [← hQ, ← hO] at hr3
    rw [← hQ] at hcut
    have HR1 := hid hr1
    have HR2 := hid hr2
    have HR3 := hid hr3
    have HCU := hid hcut
    have HKL := hid (And.intro hKl hml)
    have HRL := hid hRl
    clear hL1 hK hKl hcut h5 hr1 hr2 hr3 hml hN hM hR0 hP hRl hQ hO
    go_wp2_with fail
    refine (HR1.out w2 _ _ _ B2.out).mono ?_
    rintro e w3 ⟨u3, rfl, k3, p3⟩
    obtain ⟨a3, c3, rfl⟩ := recs_form p3
    have K3 := hid (K2.out.trans k3)
    have B3 := hid (B2.out.kept k3 (fun _ _ _ h => h))
    have P3 := hid p3
    clear k3 p3 K2 B2 HR1
    obtain ⟨x8, sl8, p8⟩ := slice_to tBytes zBytes B3.out .i64 (K : Int) (Int.natCast_nonneg _) (by have := HKL.out.1; omega)
    simp only [Int.toNat_natCast] at sl8 p8
    rw [← List.map_take] at p8
    have hkk : decide ((K : Int) ≤ (A.length : Int)) = true := by have := HKL.out.1; simp; omega
    have BK3 := hid (show Bs w3 0 w2.heap.size (.slice x8 K c2) (A.take K) from p8)
    clear p8
    go_wp2_with fail
    simp only [r5]
    clear sl8 r5 hD1 hD2 qL qc hkk hL1z
    refine (HR2.out w3 _ _ _ BK3.out).mono ?_
    rintro e w4 ⟨u4, rfl, k4, p4⟩
    obtain ⟨a4, c4, rfl⟩ := recs_form p4
    have K4 := hid (K3.out.trans k4)
    have B4 := hid (B3.out.kept k4 (fun _ _ _ h => h))
    have P34 := hid (P3.out.kept k4 (fun _ _ _ h => h))
    have P4 := hid p4
    clear k4 p4 K3 B3 P3 BK3 HR2
    obtain ⟨a5, sl5, p5⟩ := ps_upto tRecs15 zRecs15 P34.out P.length HCU.out.2.2.1
    have hrs := fun W (hW : Kept None w4 W) => Hr.records _ _ _ _ _ _ P (R.take P.length) W (P4.out.kept hW (fun _ _ _ h => h)) ((show Ps 12 w4 _ _ _ (recsC (R.take P.length)) from by unfold recsC; rw [List.map_take]; exact p5).kept hW (fun _ _ _ h => h)) (by have := HCU.out.2.2.1; have := HRL.out; have := HAL.out; omega)
    have hrt : recsEq P (R.take P.length) = true := by unfold recsEq; rw [← HCU.out.2.2.2.1]; simp
    rw [hrt] at hrs
    have HRS := hid hrs
    have g1 : decide ((K : Int) < (M : Int)) = false := by have := HCU.out.1; simp; omega
    have g2 : decide (K < M) = false := by have := HCU.out.1; simp; omega
    have g3 : decide ((N : Int) < (M : Int)) = false := by have := HCU.out.2.1; simp; omega
    have g4 : decide (N < M) = false := by have := HCU.out.2.1; simp; omega
    have g5 : decide ((R.length : Int) < (P.length : Int)) = false := by have := HCU.out.2.2.1; simp; omega
    have g6 : decide (R.length < P.length) = false := by have := HCU.out.2.2.1; simp; omega
    clear hrs hrt p5
    go_wp2_with (first | go_skip | fail)
    clear sl5
    refine (HRS.out w4 (Kept.refl _ _)).mono ?_
    rintro e w5 ⟨rfl, k5⟩
    have K5 := hid (K4.out.trans k5)
    have B5 := hid (B4.out.kept k5 (fun _ _ _ h => h))
    clear k5 K4 B4 HRS P34 P4
    obtain ⟨x9, sl9, p9⟩ := slice_to tBytes zBytes B5.out .i64 (M : Int) (Int.natCast_nonneg _) (by have := HKL.out.2; omega)
    simp only [Int.toNat_natCast] at sl9 p9
    rw [← List.map_take] at p9
    have BM5 := hid (show Bs w5 0 w2.heap.size (.slice x9 M c2) (A.take M) from p9)
    clear p9 g1 g2 g3 g4 g5 g6
    go_wp2_with (first | go_skip | fail)
    clear sl9
    refine (HR3.out w5 _ _ _ BM5.out).mono ?_
    rintro e w6 ⟨u6, rfl, k6, p6⟩
    obtain ⟨a6, c6, rfl⟩ := recs_form p6
    have K6 := hid (K5.out.trans k6)
    have hql := HCU.out.2.2.2.2.1
    have s1 : ((Q.length : Int) == (P.length : Int)) = true := by rw [hql]; simp
    have s2 : (Q.length == P.length) = true := by rw [hql]; simp
    by_cases hkn : K < N
    · have g1 : decide ((K : Int) < (N : Int)) = true := by simp; omega
      have g2 : decide (K < N) = true := by simpa using hkn
      clear hql hkn k6 p6 K5 B5 BM5 HR3 HCU HKL HRL
      go_wp2_with (first | go_skip | fail)
      go_ret
      exact ⟨rfl, K6.out⟩
    · have g1 : decide ((K : Int) < (N : Int)) = false := by simp; omega
      have g2 : decide (K < N) = false := by simpa using hkn
      have hpl := HCU.out.2.2.2.2.2 hkn
      have s3 : ((P.length : Int) == (R.length : Int)) = true := by rw [hpl]; simp
      have s4 : (P.length == R.length) = true := by rw [hpl]; simp
      clear hpl hql hkn k6 p6 K5 B5 BM5 HR3 HCU HKL HRL
      go_wp2_with (first | go_skip | fail)
      go_ret
      exact ⟨rfl, K6.out⟩
end P15
end Go.Proofs.Ytbebpnanhkcngaa
namespace Go.Pm
open Go Go.RowKit
def penEq (p q : Pn) : Bool := reqEq p.u q.u && ((p.tick == q.tick) && ((p.seq == q.seq) && ((p.sync == q.sync) && true)))
theorem penEq_iff (p q : Pn) : penEq p q = true ↔ p = q := by
  obtain ⟨u, t, s, y⟩ := p
  obtain ⟨u', t', s', y'⟩ := q
  unfold penEq
  simp only [Bool.and_eq_true, beq_iff_eq, Pn.mk.injEq, and_true, reqEq_iff]
instance : DecidableEq Pn := fun a b => decidable_of_iff (penEq a b = true) (penEq_iff a b)
/-- Are two rows of requests the same? -/
def pensEq (l m : List Pn) : Bool := decide (l = m)
theorem Pn.C_u (p : Pn) : (penC p).toArray.extract 0 (0 + 6) = p.u.C := rfl
end Go.Pm
namespace Go.Proofs.Ytbebpnanhkcngaa
open Go.RowKit Go.Pm
namespace Jq
theorem uPen : Try.prog.underlying 64 = some (.struct (Try.prog.fieldsOf 64)) := by kernel_rfl
theorem fPen : (Try.prog.fieldsOf 64).toList.map (fun f => (f.name == "_", f.type, f.offset)) = [(false, 43, 0), (false, 2, 6), (false, 2, 7), (false, 4, 8)] := by kernel_rfl
theorem hPen : Try.prog.stoodInHeld 64 = false := by kernel_rfl
theorem gBool : ∀ w, (isAgg 4).run Try.prog w = .ok false w := fun _ => by kernel_rfl
theorem nBool : Try.prog.underlying 4 = some .bool := by kernel_rfl
theorem equalIn_pen (p q : Pn) (w : World) : (Op.equalIn 10000 64 (.agg (penC p).toArray) (.agg (penC q).toArray)).run Try.prog w = .ok (penEq p q) w := by
  rw [run_equalIn_struct w 9999 64 _ _ uPen hPen]
  refine eqF_step fPen (part_agg gUpd sUpd) (part_agg gUpd sUpd) (by rw [Pn.C_u, Pn.C_u]; exact equalIn_req p.u q.u 9996 w) fun gs h1 => ?_
  refine eqF_step h1 (part_one gInt64 rfl) (part_one gInt64 rfl) (run_equalIn_int w 9998 _ _ _ _ _ nInt64) fun gs h2 => ?_
  refine eqF_step h2 (part_one gInt64 rfl) (part_one gInt64 rfl) (run_equalIn_int w 9998 _ _ _ _ _ nInt64) fun gs h3 => ?_
  exact eqF_step h3 (part_one gBool rfl) (part_one gBool rfl) (run_equalIn_bool' w 9998 _ _ _ nBool) fun gs h4 => eqF_nil h4
theorem neqPen (p q : Pn) (w : World) : (binOp .neq 64 (.agg (penC p).toArray) (.agg (penC q).toArray)).run Try.prog w = .ok (.bool (!penEq p q)) w := by
  rw [run_neq_struct, equalIn_pen]; rfl
end Jq
namespace Hr
theorem aPen15 : AggTy Try.prog 64 9 := Sg.AggTy.of (by kernel_rfl) (by kernel_rfl)
set_option maxRecDepth 100000 in
set_option maxHeartbeats 4000000 in
/-- postmarkhelp.Pending. -/
theorem pending (v v' : Value) (lo hi lo' hi' : Nat) (l m : List Pn) (w : World) (hv : Ps 9 w lo hi v (pensC l)) (hv' : Ps 9 w lo' hi' v' (pensC m)) (hln : l.length ≤ 1099511627776) :
    Calls Try.prog 15 #[v, v'] w fun e w' => e = .returned (.bool (pensEq l m)) ∧ Kept None w w' := by
  obtain ⟨av, nv, cv, rfl, hnv⟩ : ∃ a n c, v = .slice a n c ∧ n = l.length := by
    obtain ⟨a, c, h, _⟩ := hv.form
    rw [pensC_len] at h
    exact ⟨a, _, c, h, rfl⟩
  obtain ⟨au, nu, cu, rfl, hnu⟩ : ∃ a n c, v' = .slice a n c ∧ n = m.length := by
    obtain ⟨a, c, h, _⟩ := hv'.form
    rw [pensC_len] at h
    exact ⟨a, _, c, h, rfl⟩
  subst hnv hnu
  have HV := hid hv
  have HU := hid hv'
  have HN := hid hln
  clear hv hv' hln
  by_cases hlen : l.length = m.length
  · have d1 : ((l.length : Int) == (m.length : Int)) = true := by simp; omega
    have HL := hid hlen
    obtain ⟨n, hn⟩ : ∃ n, n = l.length := ⟨_, rfl⟩
    have hm : m.length = n := by omega
    rw [hm, ← hn]
    have HNN := hid (And.intro hn hm)
    clear hlen hn hm d1
    go_enter Try.func15, Try.ntmps15
    go_wp2_with fail
    go_loopg [5] n (fun kx s5 wr => ∃ i : Nat, s5 = .int .i64 (i : Int) ∧ i ≤ n ∧ n - i ≤ kx ∧ Hid (l.take i = m.take i) ∧ Hid (Kept None w wr))
    case atStart => exact ⟨0, rfl, Nat.zero_le _, Nat.le_refl _, hid rfl, hid (Kept.refl _ _)⟩
    case round =>
    obtain ⟨i, rfl, hi, hix, HE, HS⟩ := hrel
    by_cases hlt : i < n
    · have hlt' : decide ((i : Int) < (n : Int)) = true := by simpa using hlt
      have hlb : (i : Int) < (n : Int) := Int.ofNat_lt.mpr hlt
      have il : i < l.length := by rw [← HNN.out.1]; exact hlt
      have im : i < m.length := by rw [HNN.out.2]; exact hlt
      obtain ⟨b, o, rfl, _, h1⟩ := (HV.out.kept HS.out (fun _ _ _ h => h)).pen (by omega)
      obtain ⟨b', o', rfl, _, h2⟩ := (HU.out.kept HS.out (fun _ _ _ h => h)).pen (by omega)
      have r1 := (h1 i il).1
      have r2 := (h2 i im).1
      obtain ⟨x, hx⟩ : ∃ x, x = l[i] := ⟨_, rfl⟩
      obtain ⟨y, hy⟩ : ∃ y, y = m[i] := ⟨_, rfl⟩
      rw [← hx] at r1
      rw [← hy] at r2
      have HR1 := hid (fun W (hW : Kept None wr W) => rangeAt_kept r1 hW)
      have HR2 := hid (fun W (hW : Kept None wr W) => rangeAt_kept r2 hW)
      have hneq := fun W => Jq.neqPen x y W
      obtain ⟨B, hB⟩ : ∃ B, B = penEq x y := ⟨_, rfl⟩
      rw [← hB] at hneq
      have HNQ := hid (show ∀ W, (binOp .neq 64 (.agg (penC x).toArray) (.agg (penC y).toArray)).run Try.prog W = .ok (.bool (!B)) W from hneq)
      have aX : AggTy Try.prog 64 (penC x).length := aPen15
      have aY : AggTy Try.prog 64 (penC y).length := aPen15
      have HXY := hid (And.intro hx (And.intro hy hB))
      clear h1 h2 r1 r2 hx hy hB hneq
      go_wp2_with fail
      refine wp_region_kn wr [] Go.Pm.Steady.nil (Kept.refl _ _) (by kernel_rfl) (by kernel_rfl) (by kernel_rfl) ?_
      iterate 9 (refine wpPar_pure rfl (by rfl) _ (fun W hW => by
          have hnq := HNQ.out
          first | exact exec_load_at rfl rfl (HR1.out W hW) aX | exact exec_load_at rfl rfl (HR2.out W hW) aY | (go_simp; exact rfl)) ?_; simp only [Act.put, List.setIfInBounds_toArray, List.set_cons_zero, List.set_cons_succ])
      refine wpPar_nil (fun w2 hW hG => ?_)
      have K2 := hid (HS.out.trans hW)
      clear hG hW
      cases B with
      | true =>
        have HE2 : Hid (l.take (i + 1) = m.take (i + 1)) := hid (take_eq_step HE.out il im (by
          have h := (penEq_iff x y).1 HXY.out.2.2.symm
          rw [← HXY.out.1, ← HXY.out.2.1, h]))
        have hw : wrap64 ((i : Int) + 1) = ((i + 1 : Nat) : Int) := by have := HN.out; unfold wrap64; omega
        have HW := hid hw
        clear hw
        go_wp2
        go_roundg (n - (i + 1))
        case measure => omega
        case rel => exact ⟨i + 1, by rw [HW.out], hlt, Nat.le_refl _, HE2, K2⟩
      | false =>
        have hfin : pensEq l m = false := by
          unfold pensEq
          rw [decide_eq_false_iff_not]
          intro h
          have h1 : x = y := by
            rw [HXY.out.1, HXY.out.2.1]
            simp only [h]
          have := (penEq_iff x y).2 h1
          rw [← HXY.out.2.2] at this
          cases this
        have HF := hid hfin
        clear hfin
        go_wp2
        go_ret
        rw [HF.out]
        exact ⟨rfl, K2.out⟩
    · have hlt' : decide ((i : Int) < (n : Int)) = false := by simpa using hlt
      obtain rfl : i = n := by omega
      have hfin : pensEq l m = true := by
        have h := HE.out
        rw [List.take_of_length_le (by rw [← HNN.out.1]; exact Nat.le_refl _), List.take_of_length_le (by rw [HNN.out.2]; exact Nat.le_refl _)] at h
        unfold pensEq
        rw [h]
        simp
      have HF := hid hfin
      clear hlt hi hix hfin
      go_wp2
      go_ret
      rw [HF.out]
      exact ⟨rfl, HS.out⟩
  · have d1 : ((l.length : Int) == (m.length : Int)) = false := by simp; omega
    have hfin : pensEq l m = false := by
      unfold pensEq
      rw [decide_eq_false_iff_not]
      exact fun h => hlen (congrArg List.length h)
    have HF := hid hfin
    clear hfin
    go_enter Try.func15, Try.ntmps15
    go_wp2
    go_ret
    rw [HF.out]
    exact ⟨rfl, Kept.refl _ _⟩
end Hr
end Go.Proofs.Ytbebpnanhkcngaa
namespace Go.Pm
open Go Go.RowKit
/-- Records of which one has another kind. -/
def setKind : List Rec → Nat → Int → List Rec
  | [], _, _ => []
  | x :: l, 0, z => ⟨z, x.seq, x.gen, x.count, x.u, x.tick, x.epoch⟩ :: l
  | x :: l, i + 1, z => x :: setKind l i z
theorem setKind_len (z : Int) : ∀ (l : List Rec) (i : Nat), (setKind l i z).length = l.length
  | [], _ => rfl
  | _ :: _, 0 => rfl
  | x :: l, i + 1 => by rw [setKind, List.length_cons, List.length_cons, setKind_len z l i]
theorem setKind_cells (z : Int) : ∀ (l : List Rec) (i : Nat), i < l.length → (recsC (setKind l i z)).flatten = (recsC l).flatten.set (i * 12) (.int .i64 z)
  | [], _, h => absurd h (Nat.not_lt_zero _)
  | _ :: _, 0, _ => rfl
  | x :: l, i + 1, h => by
    have e : ∀ y m, (recsC (y :: m)).flatten = recC y ++ (recsC m).flatten := fun _ _ => rfl
    have hl : (recC x).length = 12 := rfl
    rw [setKind, e, e, List.set_append_right _ _ (by rw [hl]; omega), setKind_cells z l i (by simpa using h), hl]
    congr 2
    omega
theorem setKind_fits {z : Int} (hz : inI z) : ∀ (l : List Rec) (i : Nat), (∀ x ∈ l, x.Fits) → ∀ x ∈ setKind l i z, x.Fits
  | [], _, _, _, hx => by cases hx
  | y :: l, 0, h, x, hx => by
    have h0 := h y (List.mem_cons_self ..)
    rcases List.mem_cons.1 hx with rfl | hx
    · exact ⟨hz, h0.2⟩
    · exact h x (List.mem_cons_of_mem _ hx)
  | y :: l, i + 1, h, x, hx => by
    rcases List.mem_cons.1 hx with rfl | hx
    · exact h _ (List.mem_cons_self ..)
    · exact setKind_fits hz l i (fun a ha => h a (List.mem_cons_of_mem _ ha)) x hx
theorem Po.setKind {e : TypeId} {w : World} {base g n cap : Nat} {l : List Rec} (h : Po 12 e w base (.slice (some ⟨g, 0, none⟩) n cap) (recsC l)) (i : Nat) (hi : i < l.length) (z : Int) :
    Po 12 e (w.setCell ⟨g, i * 12, none⟩ (.int .i64 z)) base (.slice (some ⟨g, 0, none⟩) n cap) (recsC (setKind l i z)) ∧ Kept (Just g) w (w.setCell ⟨g, i * 12, none⟩ (.int .i64 z)) := by
  refine ⟨?_, Kept.one w g _ _⟩
  refine ⟨recsC_each _, ?_⟩
  rcases h.2.2 with ⟨hn, _⟩ | ⟨g', cap', cur, hv, hbg, hg, hnc, hcm, hcs, htake⟩
  · cases hn
  · injection hv with e1 e2 e3
    injection e1 with e1
    injection e1 with e1
    subst e1 e3
    have hB : Blk w g cur e := hg
    have h1 := h.2.1
    rw [recsC_len] at h1 hnc htake
    rw [recsC_len, setKind_len]
    refine ⟨?_, .inr ⟨g, cap, _, by rw [e2, recsC_len], hbg, hB.set (i * 12) _, hnc, hcm, by simpa using hcs, ?_⟩⟩
    · rw [setKind_cells z l i hi, List.length_set]
      exact h1
    · rw [Array.toList_setIfInBounds, List.take_set, htake, setKind_cells z l i hi]
theorem Po.rec15 {e : TypeId} {w : World} {base n cap : Nat} {a : Option Addr} {l : List Rec} (h : Po 12 e w base (.slice a n cap) (recsC l)) (hn : 0 < l.length) : ∃ g, a = some ⟨g, 0, none⟩ ∧ base ≤ g ∧ (∀ I, w.frozen? ⟨g, I, none⟩ = false) ∧ ∀ I, I < l.length → ∃ x, w.cell? ⟨g, I * 12, none⟩ = some x := by
  have hps := h.ps (Nat.le_refl _)
  obtain ⟨b, o, rfl, _, hr⟩ := hps.rec hn
  rcases h.2.2 with ⟨hn', _⟩ | ⟨g', cap', cur, hv, hbg, hg, _⟩
  · cases hn'
  · injection hv with e1 e2 e3
    injection e1 with e1
    injection e1 with e1 e4
    subst e1 e4
    have hB : Blk w b cur e := hg
    exact ⟨b, rfl, hbg, fun I => hB.free I, fun I hI => ⟨_, by have := (hr I hI) 0 _ rfl; rwa [Nat.zero_add, Nat.add_zero] at this⟩⟩
/-- A row of at most 100 records, each within its bounds. -/
def IsR (W : World) (v : Value) : Prop := ∃ (L : List Rec) (a : Option Addr) (c : Nat), v = .slice a L.length c ∧ L.length ≤ 100 ∧ (∀ r ∈ L, r.Fits) ∧ Ps 12 W 0 W.heap.size (.slice a L.length c) (recsC L)
theorem of_two15 {α : Type} {p : α → Prop} {a b : α} (ha : p a) (hb : p b) (i : Nat) (h : i < 2) : ∃ x, (#[a, b] : Array α)[i]? = some x ∧ p x := by
  rcases i with _ | _ | i
  · exact ⟨a, rfl, ha⟩
  · exact ⟨b, rfl, hb⟩
  · exact absurd h (by omega)
end Go.Pm
namespace Go.Proofs.Ytbebpnanhkcngaa
open Go.RowKit Go.Pm
namespace P15
open Sn
set_option maxRecDepth 100000 in
set_option maxHeartbeats 16000000 in
theorem raw (hR : RecordsC) (hW : WholeC) (hC : ChooseC) (vr : Value) (lo hi : Nat) (raw : List Rec) (k count : Nat) (w : World) (hv : Ps 12 w lo hi vr (recsC raw)) (hfr : ∀ r ∈ raw, r.Fits) (hk : k < 256) (_hct : count < 256) :
    Calls Try.prog 5 #[vr, .int .u8 (k : Int), .int .u8 (count : Int)] w fun e w' => e = .returned (.bool true) ∧ Kept None w w' := by
  obtain ⟨ar, cr, rfl⟩ := recs_form hv
  have HK := hid (fun W => known hR hW hC W)
  by_cases hl : raw.length ≤ 20
  · have x1 : decide ((20 : Int) < (raw.length : Int)) = false := by simp; omega
    have x2 : decide (20 < raw.length) = false := by simp; omega
    have qk := (wrapB (n := k) (by omega)).1
    obtain ⟨C12, hC12⟩ : ∃ m, m = count % 12 := ⟨_, rfl⟩
    have rc : (count : Int) % 12 = (C12 : Int) := by rw [hC12]; simp
    have qc := (wrapB (n := C12) (by omega)).1
    have i0 : inI 0 := ⟨by decide, by decide⟩
    have i1 : inI 1 := ⟨by decide, by decide⟩
    have hn0 : Req.none.Fits := ⟨i0, by decide, i0, by decide, by decide⟩
    have hf0 : (⟨1, 0, (k : Int), (C12 : Int), Req.none, 0, 0⟩ : Rec).Fits := ⟨i1, i0, ⟨by simp only; omega, by simp only; omega⟩, ⟨by simp only; omega, by simp only; omega⟩, hn0, i0, i0⟩
    have HF0 := hid hf0
    have HL := hid hl
    have HV := hid hv.all15
    have HFR := hid hfr
    have HW := hid hW
    clear hl hC12 hf0 i0 i1 hn0 hv hfr hk _hct hR hW hC
    go_enter Try.func5, Try.ntmps5
    go_wp2_with fail
    refine (HK.out w).mono ?_
    rintro e w1 ⟨rfl, k1⟩
    have K1 := hid k1
    have HP1 := hid (Po.one 12 w1 45 (recC (⟨1, 0, (k : Int), (C12 : Int), Req.none, 0, 0⟩ : Rec)) rfl)
    have HV1 := hid ((HV.out.kept k1 (fun _ _ _ h => h)).kept ((Kept.refl None w1).alloc (.cells #[.int .i64 1, .int .i64 0, .int .i64 (k : Int), .int .i64 (C12 : Int), .string ⟨#[]⟩, .int .i64 0, .int .u64 0, .int .i64 0, .int .u64 0, .int .u64 0, .int .i64 0, .int .i64 0] 45)) (fun _ _ _ h => h))
    have KA := hid ((K1.out.alloc (.cells #[.int .i64 1, .int .i64 0, .int .i64 (k : Int), .int .i64 (C12 : Int), .string ⟨#[]⟩, .int .i64 0, .int .u64 0, .int .i64 0, .int .u64 0, .int .u64 0, .int .i64 0, .int .i64 0] 45)))
    clear HK k1
    have hpo : Po 12 45 (w1.alloc (.cells #[.int .i64 1, .int .i64 0, .int .i64 (k : Int), .int .i64 (C12 : Int), .string ⟨#[]⟩, .int .i64 0, .int .u64 0, .int .i64 0, .int .u64 0, .int .u64 0, .int .i64 0, .int .i64 0] 45)) w1.heap.size (.slice (some ⟨w1.heap.size, 0, none⟩) 1 1) (recsC [(⟨1, 0, (k : Int), (C12 : Int), Req.none, 0, 0⟩ : Rec)]) := HP1.out
    have hv1 := HV1.out
    have hln : (recsC [(⟨1, 0, (k : Int), (C12 : Int), Req.none, 0, 0⟩ : Rec)]).length + (recsC raw).length ≤ 1099511627776 := by rw [recsC_len, recsC_len]; have := HL.out; simp; omega
    have hbs : w1.heap.size ≤ (w1.alloc (.cells #[.int .i64 1, .int .i64 0, .int .i64 (k : Int), .int .i64 (C12 : Int), .string ⟨#[]⟩, .int .i64 0, .int .u64 0, .int .i64 0, .int .u64 0, .int .u64 0, .int .i64 0, .int .i64 0] 45)).heap.size := ((Kept.refl None w1).alloc (.cells #[.int .i64 1, .int .i64 0, .int .i64 (k : Int), .int .i64 (C12 : Int), .string ⟨#[]⟩, .int .i64 0, .int .u64 0, .int .i64 0, .int .u64 0, .int .u64 0, .int .i64 0, .int .i64 0] 45)).size
    go_wp2_with (first | (refine wpList_one_item rfl _ _ rfl R12.rtRec15 (by decide) rfl rfl ?_) | (at_builtin; refine wpList_append_po rfl _ _ 27 rfl R12.rtRec15 (by decide) rfl rfl hpo hv1 (recsC_one15 _) hln hbs ?_; intro a9 n9 c9 w9 hP9 hK9 _) | fail)
    rw [← recsC_app] at hP9
    have hown := hpo.own
    have K9 := hid (KA.out.then hK9 (fun q hq h => by have := (hown q h).1; have := K1.out.size; omega))
    have hno : n9 = raw.length + 1 := by
      obtain ⟨a, c, h⟩ := hP9.form
      rw [recsC_len] at h
      injection h with _ h
    subst hno
    obtain ⟨L0, hL0⟩ : ∃ L, L = [(⟨1, 0, (k : Int), (C12 : Int), Req.none, 0, 0⟩ : Rec)] ++ raw := ⟨_, rfl⟩
    rw [← hL0] at hP9
    have hLn : L0.length = raw.length + 1 := by rw [hL0]; simp
    have hLf : ∀ r ∈ L0, r.Fits := fun r hr => by
      rw [hL0] at hr
      rcases List.mem_append.1 hr with hr | hr
      · rw [List.mem_singleton.1 hr]; exact HF0.out
      · exact HFR.out r hr
    obtain ⟨g, rfl, hbg, _⟩ := hP9.rec15 (by omega)
    have HP9 := hid hP9
    have HLF := hid (And.intro hLn hLf)
    have HBG := hid (show w1.heap.size ≤ g from hbg)
    have HK1z := hid K1.out.size
    clear hpo hv1 hln hbs hP9 hK9 hown hL0 hLn hLf hbg x1 x2 qk rc qc HP1 HV1 KA
    obtain ⟨N, hN⟩ : ∃ n, n = raw.length + 1 := ⟨_, rfl⟩
    rw [← hN]
    have HN := hid hN
    rw [← hN] at HP9 HLF
    clear hN
    go_loopg [8] N (fun kx s8 wr => ∃ (i : Nat) (L : List Rec), s8 = .int .i64 (i : Int) ∧ i ≤ N ∧ 1 ≤ i ∧ N - i ≤ kx ∧ Hid (L.length = N ∧ ∀ r ∈ L, r.Fits) ∧ Hid (Kept None w wr) ∧ Hid (Po 12 45 wr w1.heap.size (.slice (some ⟨g, 0, none⟩) N c9) (recsC L)))
    case atStart => exact ⟨1, L0, rfl, by have := HN.out; omega, Nat.le_refl _, by omega, HLF, K9, HP9⟩
    case round =>
    obtain ⟨i, L, rfl, hi, hi1, hix, HLL, HS, HO⟩ := hrel
    by_cases hlt : i < N
    · have hlt' : decide ((i : Int) < (N : Int)) = true := by simpa using hlt
      have hlb : (i : Int) < (N : Int) := Int.ofNat_lt.mpr hlt
      obtain ⟨M3, hM3⟩ : ∃ m, m = i % 3 := ⟨_, rfl⟩
      have r3 : (i : Int) % 3 = (M3 : Int) := by rw [hM3]; simp
      have wi := (wrapB (n := i + 1) (by have := HN.out; have := HL.out; omega)).1
      have wi1 : wrap64 ((i : Int) + 1) = ((i + 1 : Nat) : Int) := wi
      have HWI := hid wi1
      by_cases h3 : 0 < M3
      · have d1 : decide ((0 : Int) < (M3 : Int)) = true := by simp; omega
        have d2 : decide (0 < M3) = true := by simpa using h3
        have hiL : i < L.length := by rw [HLL.out.1]; exact hlt
        obtain ⟨g', hg', _, hfr, hcl⟩ := HO.out.rec15 (by omega)
        obtain rfl : g = g' := by injection hg' with e; injection e
        obtain ⟨xc, hcell⟩ := hcl i hiL
        have hfree := hfr (i * 12)
        have HSET := hid (HO.out.setKind i hiL 2)
        have HLT := hid (And.intro hlt hiL)
        clear hM3 h3 hg' hfr hcl hiL wi wi1 hlt
        go_wp2_with fail
        obtain ⟨wm, hwm⟩ : ∃ wm, wm = wr.setCell ⟨g, i * 12, none⟩ (.int .i64 2) := ⟨_, rfl⟩
        have hst := HSET.out
        rw [← hwm] at hst ⊢
        have KM := hid (HS.out.then hst.2 (fun q hq (h : q = g) => by have := HBG.out; have := HK1z.out; omega))
        have HM := hid hst.1
        have HLM : Hid ((setKind L i 2).length = N ∧ ∀ r ∈ setKind L i 2, r.Fits) := hid ⟨by rw [setKind_len]; exact HLL.out.1, setKind_fits ⟨by decide, by decide⟩ L i HLL.out.2⟩
        clear hwm hst HSET hcell hfree r3 d1 d2
        (try go_wp2_with fail)
        go_roundg (N - (i + 1))
        case measure => have := HLT.out; omega
        case rel => exact ⟨i + 1, _, by first | rfl | rw [HWI.out] | simp, HLT.out.1, by omega, Nat.le_refl _, HLM, KM, HM⟩
      · have d1 : decide ((0 : Int) < (M3 : Int)) = false := by simp; omega
        have d2 : decide (0 < M3) = false := by simpa using h3
        have HLT := hid hlt
        clear hM3 h3 wi wi1 hlt
        go_wp2_with fail
        go_roundg (N - (i + 1))
        case measure => have := HLT.out; omega
        case rel => exact ⟨i + 1, L, by first | rfl | rw [HWI.out] | simp, HLT.out, by omega, Nat.le_refl _, HLL, HS, HO⟩
    · have hlt' : decide ((i : Int) < (N : Int)) = false := by simpa using hlt
      have hlt3 : decide (i < N) = false := by simpa using hlt
      obtain ⟨wo, rfl⟩ : ∃ wo : World, wo = wr := ⟨_, rfl⟩
      have HROW := hid (show IsR wo (.slice ar raw.length cr) ∧ IsR wo (.slice (some ⟨g, 0, none⟩) N c9) from ⟨⟨raw, ar, cr, rfl, Nat.le_trans HL.out (by decide), HFR.out, (HV.out.kept HS.out (fun _ _ _ h => h)).all15⟩, by
        have hn := HLL.out.1
        refine ⟨L, _, c9, by rw [hn], by have := HN.out; have := HL.out; omega, HLL.out.2, ?_⟩
        rw [hn]
        exact (HO.out.ps (Nat.le_refl _)).all15⟩)
      have KO := hid HS.out
      clear hlt hi hi1 hix HS HO HLL
      go_wp2_with fail
      clear hlt' hlt3
      go_loopg [48] 2 (fun kx s48 wr => ∃ j : Nat, s48 = .int .i64 (j : Int) ∧ j ≤ 2 ∧ 2 - j ≤ kx ∧ Hid (Kept None wo wr) ∧ Hid (Blk wr wo.heap.size #[.slice ar raw.length cr, .slice (some ⟨g, 0, none⟩) N c9] 27))
      case atStart => exact ⟨0, rfl, by omega, by omega, hid ((Kept.refl _ _).alloc _), hid (Blk.new _ _ _)⟩
      case round =>
      obtain ⟨j, rfl, hj, hjx, HS2, HA2⟩ := hrel
      by_cases hlt2 : j < 2
      · have hjz : (j : Int) < 2 := by omega
        obtain ⟨cx, hcx, X, ax, cpx, rfl, hXl, hXf, hXp⟩ := of_two15 (p := IsR wo) HROW.out.1 HROW.out.2 j hlt2
        have hcc := HA2.out.cell j
        rw [hcx] at hcc
        have hXp2 := hXp.kept HS2.out (fun _ _ _ h => h)
        obtain ⟨wp, rfl⟩ : ∃ wp : World, wp = wr := ⟨_, rfl⟩
        have hw1 := fun W (hW' : Kept None wp W) => HW.out _ _ _ X W (hXp2.kept hW' (fun _ _ _ h => h)) hXf (by omega)
        have hw2 := fun W (hW' : Kept None wp W) => R12.whole _ _ _ X W (hXp2.kept hW' (fun _ _ _ h => h)) (by omega)
        obtain ⟨⟨G, PL, OK⟩, hF⟩ : ∃ x, x = wholeF X := ⟨_, rfl⟩
        have hPl : PL.length ≤ 1099511627776 := by
          have : (wholeF X).l.length ≤ X.length := by
            unfold wholeF
            split
            · exact Nat.zero_le _
            · split
              · exact Nat.le_trans (pendsF_len _) (Nat.le_succ _)
              · exact Nat.zero_le _
          rw [← hF] at this
          simp only at this
          omega
        rw [← hF] at hw1 hw2
        simp only at hw1 hw2
        have H1 := hid hw1
        have H2 := hid hw2
        have HPL := hid hPl
        clear hcx hXl hXf hXp hXp2 hw1 hw2 hF hPl
        go_wp2_with fail
        refine (H1.out wp (Kept.refl _ _)).mono ?_
        rintro e w2 ⟨u2, rfl, k2, p2⟩
        obtain ⟨a2, c2, hu2, _⟩ := p2.form
        rw [pensC_len] at hu2
        subst hu2
        have K2 := hid k2
        have P2 := hid p2
        clear k2 p2 hcc H1
        go_wp2_with fail
        refine (H2.out w2 K2.out).mono ?_
        rintro e w3 ⟨u3, rfl, k3, p3⟩
        have p3 := p3.ps (Nat.le_refl _)
        obtain ⟨a3, c3, hu3, _⟩ := p3.form
        rw [pensC_len] at hu3
        subst hu3
        have K3 := hid (K2.out.trans k3)
        have hpq := fun W (hW' : Kept None w3 W) => Hr.pending _ _ _ _ _ _ PL PL W ((P2.out.kept k3 (fun _ _ _ h => h)).kept hW' (fun _ _ _ h => h)) (p3.kept hW' (fun _ _ _ h => h)) HPL.out
        have hpt : pensEq PL PL = true := by unfold pensEq; simp
        rw [hpt] at hpq
        have HPQ := hid hpq
        have dd : (OK == OK) = true := by simp
        have dn : (OK != OK) = false := by simp
        clear k3 p3 hpq hpt P2 K2 H2
        go_wp2_with (first | go_skip | fail)
        clear dd dn
        refine (HPQ.out w3 (Kept.refl _ _)).mono ?_
        rintro e w4 ⟨rfl, k4⟩
        have K4 := hid ((HS2.out.trans K3.out).trans k4)
        have A4 := hid (HA2.out.kept (K3.out.trans k4) (fun h => h))
        clear k4 K3 HPQ
        go_wp2_with (first | go_skip | fail)
        go_roundg (2 - (j + 1))
        case measure => omega
        case rel => exact ⟨j + 1, by first | rfl | simp | go_num, by omega, Nat.le_refl _, K4, A4⟩
      · obtain rfl : j = 2 := by omega
        have KE := hid (KO.out.trans HS2.out)
        clear hlt2 hj hjx
        go_wp2_with fail
        go_ret
        exact ⟨rfl, KE.out⟩
  · have x1 : decide ((20 : Int) < (raw.length : Int)) = true := by simp; omega
    have x2 : decide (20 < raw.length) = true := by simp; omega
    clear hl hv hfr hk _hct hR hW hC
    go_enter Try.func5, Try.ntmps5
    go_wp2_with fail
    refine (HK.out w).mono ?_
    rintro e w1 ⟨rfl, k1⟩
    clear HK
    go_wp2_with (first | go_skip | fail)
    go_ret
    exact ⟨rfl, k1⟩
end P15
end Go.Proofs.Ytbebpnanhkcngaa
namespace Go.Pm
open Go Go.RowKit Go.ChangeShapes Go.WideShapes Go.ChangeAt
section
variable {H : Type} {enc : TypeId × Value → H} {P : Program}
theorem inI_wf {x : Int} (h : (Lit.int .i64 x).wf = true) : inI x := by
  simp [Lit.wf, IntKind.min, IntKind.max, IntKind.signed, IntKind.bits] at h
  exact ⟨by omega, by omega⟩
/-- A request's cells. -/
theorem trodReq {w : World} {base : Nat} {spare : Nat → Bool} {held : Bool} {n : Nat} {t : TypeId} {f0 f1 f2 f3 f4 g0 g1 : Field} {l : List Value} {y : DataW H × List MemPlace} (ht : P.underlying t = some (.struct #[f0, f1, f2, f3, f4])) (hl6 : l.length = 6)
    (o0 : f0.offset = 0) (o1 : f1.offset = 1) (o2 : f2.offset = 2) (o3 : f3.offset = 3) (o4 : f4.offset = 4) (hu0 : P.underlying f0.type = some .string) (hu1 : P.underlying f1.type = some (.int .i64)) (hu2 : P.underlying f2.type = some (.int .u64)) (hu3 : P.underlying f3.type = some (.int .i64))
    (hu4 : P.underlying f4.type = some (.struct #[g0, g1])) (q0 : g0.offset = 0) (q1 : g1.offset = 1) (hg0 : P.underlying g0.type = some (.int .u64)) (hg1 : P.underlying g1.type = some (.int .u64))
    (hc0 : P.cellsOf f0.type = 1) (hc1 : P.cellsOf f1.type = 1) (hc2 : P.cellsOf f2.type = 1) (hc3 : P.cellsOf f3.type = 1) (hc4 : P.cellsOf f4.type = 2) (hd0 : P.cellsOf g0.type = 1) (hd1 : P.cellsOf g1.type = 1)
    (h : DataW.trod enc P w base spare held n t l = some y) : ∃ u : Req, l = reqC u ∧ u.Fits := by
  obtain ⟨xs, n', _, _, _, hlen, hx⟩ := DataW.trod_struct ht h
  match l, hl6 with
  | [c0, c1, c2, c3, c4, c5], _ =>
    match xs, hlen with
    | [y0, y1, y2, y3, y4], _ =>
      have e0 := hx 0 f0 rfl
      have e1 := hx 1 f1 rfl
      have e2 := hx 2 f2 rfl
      have e3 := hx 3 f3 rfl
      have e4 := hx 4 f4 rfl
      rw [o0, hc0] at e0
      rw [o1, hc1] at e1
      rw [o2, hc2] at e2
      rw [o3, hc3] at e3
      rw [o4, hc4] at e4
      obtain ⟨s0, r0, _, _⟩ := DataW.trod_string hu0 e0
      obtain ⟨k1, r1, _, w1⟩ := DataW.trod_int hu1 e1
      obtain ⟨k2, r2, _, w2⟩ := DataW.trod_int hu2 e2
      obtain ⟨k3, r3, _, w3⟩ := DataW.trod_int hu3 e3
      obtain ⟨z0, z1, n4, _, _, m0, m1⟩ := trod_struct2 hu4 e4
      rw [q0, hd0] at m0
      rw [q1, hd1] at m1
      obtain ⟨k4, r4, _, w4⟩ := DataW.trod_int hg0 m0
      obtain ⟨k5, r5, _, w5⟩ := DataW.trod_int hg1 m1
      have i1 := inI_wf w1
      have i3 := inI_wf w3
      simp at r0 r1 r2 r3 r4 r5
      simp [Lit.wf, IntKind.min, IntKind.max, IntKind.signed, IntKind.bits] at w2 w4 w5
      subst r0 r1 r2 r3 r4 r5
      refine ⟨⟨s0, k1, k2.toNat, k3, k4.toNat, k5.toNat⟩, ?_, i1, by show k2.toNat < _; omega, i3, by show k4.toNat < _; omega, by show k5.toNat < _; omega⟩
      show _ = [_, _, Value.int .u64 ((k2.toNat : Nat) : Int), _, Value.int .u64 ((k4.toNat : Nat) : Int), Value.int .u64 ((k5.toNat : Nat) : Int)]
      rw [Int.toNat_of_nonneg (by omega), Int.toNat_of_nonneg (by omega), Int.toNat_of_nonneg (by omega)]
/-- An api.Record argument. -/
theorem openRec {W : World} {t : TypeId} {f0 f1 f2 f3 f4 g0 g1 e0 e1 e2 e3 e4 e5 e6 : Field} {v : Value} {d : DataW H} {p : List MemPlace} {base : Nat} (htr : P.underlying t = some (.struct #[e0, e1, e2, e3, e4, e5, e6])) (hC : P.cellsOf t = 12)
    (a0 : e0.offset = 0) (a1 : e1.offset = 1) (a2 : e2.offset = 2) (a3 : e3.offset = 3) (a4 : e4.offset = 4) (a5 : e5.offset = 10) (a6 : e6.offset = 11)
    (b0 : P.underlying e0.type = some (.int .i64)) (b1 : P.underlying e1.type = some (.int .i64)) (b2 : P.underlying e2.type = some (.int .i64)) (b3 : P.underlying e3.type = some (.int .i64)) (b5 : P.underlying e5.type = some (.int .i64)) (b6 : P.underlying e6.type = some (.int .i64))
    (k0 : P.cellsOf e0.type = 1) (k1 : P.cellsOf e1.type = 1) (k2 : P.cellsOf e2.type = 1) (k3 : P.cellsOf e3.type = 1) (k4 : P.cellsOf e4.type = 6) (k5 : P.cellsOf e5.type = 1) (k6 : P.cellsOf e6.type = 1)
    (ht : P.underlying e4.type = some (.struct #[f0, f1, f2, f3, f4]))
    (o0 : f0.offset = 0) (o1 : f1.offset = 1) (o2 : f2.offset = 2) (o3 : f3.offset = 3) (o4 : f4.offset = 4) (hu0 : P.underlying f0.type = some .string) (hu1 : P.underlying f1.type = some (.int .i64)) (hu2 : P.underlying f2.type = some (.int .u64)) (hu3 : P.underlying f3.type = some (.int .i64))
    (hu4 : P.underlying f4.type = some (.struct #[g0, g1])) (q0 : g0.offset = 0) (q1 : g1.offset = 1) (hg0 : P.underlying g0.type = some (.int .u64)) (hg1 : P.underlying g1.type = some (.int .u64))
    (hc0 : P.cellsOf f0.type = 1) (hc1 : P.cellsOf f1.type = 1) (hc2 : P.cellsOf f2.type = 1) (hc3 : P.cellsOf f3.type = 1) (hc4 : P.cellsOf f4.type = 2) (hd0 : P.cellsOf g0.type = 1) (hd1 : P.cellsOf g1.type = 1)
    (hok : Value.okWide P W .any base t v) (h : DataW.Trod enc P W 0 (fun _ => true) true t v d p) : ∃ r : Rec, v = r.V ∧ r.Fits := by
  simp only [Value.okWide, htr] at hok
  obtain ⟨cs, rfl, h2, _⟩ := hok
  rw [hC] at h2
  obtain ⟨fuel, hf⟩ := h
  obtain ⟨xs, n', _, _, _, hlen, hx⟩ := DataW.trod_struct htr hf
  obtain ⟨l⟩ := cs
  match l, h2 with
  | [c0, c1, c2, c3, c4, c5, c6, c7, c8, c9, c10, c11], _ =>
    match xs, hlen with
    | [y0, y1, y2, y3, y4, y5, y6], _ =>
      have m0 := hx 0 e0 rfl
      have m1 := hx 1 e1 rfl
      have m2 := hx 2 e2 rfl
      have m3 := hx 3 e3 rfl
      have m4 := hx 4 e4 rfl
      have m5 := hx 5 e5 rfl
      have m6 := hx 6 e6 rfl
      rw [a0, k0] at m0
      rw [a1, k1] at m1
      rw [a2, k2] at m2
      rw [a3, k3] at m3
      rw [a4, k4] at m4
      rw [a5, k5] at m5
      rw [a6, k6] at m6
      obtain ⟨x0, r0, _, w0⟩ := DataW.trod_int b0 m0
      obtain ⟨x1, r1, _, w1⟩ := DataW.trod_int b1 m1
      obtain ⟨x2, r2, _, w2⟩ := DataW.trod_int b2 m2
      obtain ⟨x3, r3, _, w3⟩ := DataW.trod_int b3 m3
      obtain ⟨x5, r5, _, w5⟩ := DataW.trod_int b5 m5
      obtain ⟨x6, r6, _, w6⟩ := DataW.trod_int b6 m6
      obtain ⟨u, hu, hfu⟩ := trodReq (l := [c4, c5, c6, c7, c8, c9]) ht rfl o0 o1 o2 o3 o4 hu0 hu1 hu2 hu3 hu4 q0 q1 hg0 hg1 hc0 hc1 hc2 hc3 hc4 hd0 hd1 m4
      simp [Value.cells] at r0 r1 r2 r3 r5 r6
      simp only [reqC, List.cons.injEq, and_true] at hu
      obtain ⟨u0, u1, u2, u3, u4, u5⟩ := hu
      subst r0 r1 r2 r3 r5 r6 u0 u1 u2 u3 u4 u5
      exact ⟨⟨x0, x1, x2, x3, u, x5, x6⟩, rfl, inI_wf w0, inI_wf w1, inI_wf w2, inI_wf w3, hfu, inI_wf w5, inI_wf w6⟩
theorem trodAll_8 {w : World} {base : Nat} {spare : Nat → Bool} {held : Bool} {t0 t1 t2 t3 t4 t5 t6 t7 : TypeId} {args : Array Value} {ds : List (DataW H)} {ps : List MemPlace} (h : DataW.TrodAll enc P w base spare held [t0, t1, t2, t3, t4, t5, t6, t7] args.toList ds ps) :
    ∃ v0 v1 v2 v3 v4 v5 v6 v7 d0 d1 d2 d3 d4 d5 d6 d7 p0 p1 p2 p3 p4 p5 p6 p7, args = #[v0, v1, v2, v3, v4, v5, v6, v7] ∧ ds = [d0, d1, d2, d3, d4, d5, d6, d7] ∧ ps = p0 ++ (p1 ++ (p2 ++ (p3 ++ (p4 ++ (p5 ++ (p6 ++ p7)))))) ∧
      DataW.Trod enc P w base spare held t0 v0 d0 p0 ∧ DataW.Trod enc P w base spare held t1 v1 d1 p1 ∧ DataW.Trod enc P w base spare held t2 v2 d2 p2 ∧ DataW.Trod enc P w base spare held t3 v3 d3 p3 ∧ DataW.Trod enc P w base spare held t4 v4 d4 p4 ∧ DataW.Trod enc P w base spare held t5 v5 d5 p5 ∧ DataW.Trod enc P w base spare held t6 v6 d6 p6 ∧ DataW.Trod enc P w base spare held t7 v7 d7 p7 := by
  obtain ⟨v0, l0, d0, e0, p0, q0, ha, rfl, rfl, h0, h⟩ := trodAll_cons h
  obtain ⟨v1, v2, v3, v4, v5, v6, v7, d1, d2, d3, d4, d5, d6, d7, p1, p2, p3, p4, p5, p6, p7, hb, rfl, rfl, h1, h2, h3, h4, h5, h6, h7⟩ := trodAll_seven (args := l0.toArray) (by simpa using h)
  refine ⟨v0, v1, v2, v3, v4, v5, v6, v7, d0, d1, d2, d3, d4, d5, d6, d7, p0, p1, p2, p3, p4, p5, p6, p7, ?_, rfl, by simp, h0, h1, h2, h3, h4, h5, h6, h7⟩
  apply Array.ext'
  rw [ha]
  have := congrArg Array.toList hb
  simp at this
  simp [this]
end
end Go.Pm
namespace Go.Pm
open Go Go.RowKit Go.ChangeShapes Go.WideShapes Go.ChangeAt
section
variable {H : Type} {enc : TypeId × Value → H} {P : Program}
/-- A record's cells. -/
theorem trodRec {w : World} {base : Nat} {spare : Nat → Bool} {held : Bool} {n : Nat} {t : TypeId} {f0 f1 f2 f3 f4 g0 g1 e0 e1 e2 e3 e4 e5 e6 : Field} {l : List Value} {y : DataW H × List MemPlace} (htr : P.underlying t = some (.struct #[e0, e1, e2, e3, e4, e5, e6])) (hl12 : l.length = 12)
    (a0 : e0.offset = 0) (a1 : e1.offset = 1) (a2 : e2.offset = 2) (a3 : e3.offset = 3) (a4 : e4.offset = 4) (a5 : e5.offset = 10) (a6 : e6.offset = 11)
    (b0 : P.underlying e0.type = some (.int .i64)) (b1 : P.underlying e1.type = some (.int .i64)) (b2 : P.underlying e2.type = some (.int .i64)) (b3 : P.underlying e3.type = some (.int .i64)) (b5 : P.underlying e5.type = some (.int .i64)) (b6 : P.underlying e6.type = some (.int .i64))
    (k0 : P.cellsOf e0.type = 1) (k1 : P.cellsOf e1.type = 1) (k2 : P.cellsOf e2.type = 1) (k3 : P.cellsOf e3.type = 1) (k4 : P.cellsOf e4.type = 6) (k5 : P.cellsOf e5.type = 1) (k6 : P.cellsOf e6.type = 1)
    (ht : P.underlying e4.type = some (.struct #[f0, f1, f2, f3, f4]))
    (o0 : f0.offset = 0) (o1 : f1.offset = 1) (o2 : f2.offset = 2) (o3 : f3.offset = 3) (o4 : f4.offset = 4) (hu0 : P.underlying f0.type = some .string) (hu1 : P.underlying f1.type = some (.int .i64)) (hu2 : P.underlying f2.type = some (.int .u64)) (hu3 : P.underlying f3.type = some (.int .i64))
    (hu4 : P.underlying f4.type = some (.struct #[g0, g1])) (q0 : g0.offset = 0) (q1 : g1.offset = 1) (hg0 : P.underlying g0.type = some (.int .u64)) (hg1 : P.underlying g1.type = some (.int .u64))
    (hc0 : P.cellsOf f0.type = 1) (hc1 : P.cellsOf f1.type = 1) (hc2 : P.cellsOf f2.type = 1) (hc3 : P.cellsOf f3.type = 1) (hc4 : P.cellsOf f4.type = 2) (hd0 : P.cellsOf g0.type = 1) (hd1 : P.cellsOf g1.type = 1)
    (h : DataW.trod enc P w base spare held n t l = some y) : ∃ r : Rec, l = recC r ∧ r.Fits := by
  obtain ⟨xs, n', _, _, _, hlen, hx⟩ := DataW.trod_struct htr h
  match l, hl12 with
  | [c0, c1, c2, c3, c4, c5, c6, c7, c8, c9, c10, c11], _ =>
    match xs, hlen with
    | [y0, y1, y2, y3, y4, y5, y6], _ =>
      have m0 := hx 0 e0 rfl
      have m1 := hx 1 e1 rfl
      have m2 := hx 2 e2 rfl
      have m3 := hx 3 e3 rfl
      have m4 := hx 4 e4 rfl
      have m5 := hx 5 e5 rfl
      have m6 := hx 6 e6 rfl
      rw [a0, k0] at m0
      rw [a1, k1] at m1
      rw [a2, k2] at m2
      rw [a3, k3] at m3
      rw [a4, k4] at m4
      rw [a5, k5] at m5
      rw [a6, k6] at m6
      obtain ⟨x0, r0, _, w0⟩ := DataW.trod_int b0 m0
      obtain ⟨x1, r1, _, w1⟩ := DataW.trod_int b1 m1
      obtain ⟨x2, r2, _, w2⟩ := DataW.trod_int b2 m2
      obtain ⟨x3, r3, _, w3⟩ := DataW.trod_int b3 m3
      obtain ⟨x5, r5, _, w5⟩ := DataW.trod_int b5 m5
      obtain ⟨x6, r6, _, w6⟩ := DataW.trod_int b6 m6
      obtain ⟨u, hu, hfu⟩ := trodReq (l := [c4, c5, c6, c7, c8, c9]) ht rfl o0 o1 o2 o3 o4 hu0 hu1 hu2 hu3 hu4 q0 q1 hg0 hg1 hc0 hc1 hc2 hc3 hc4 hd0 hd1 m4
      simp at r0 r1 r2 r3 r5 r6
      simp only [reqC, List.cons.injEq, and_true] at hu
      obtain ⟨u0, u1, u2, u3, u4, u5⟩ := hu
      subst r0 r1 r2 r3 r5 r6 u0 u1 u2 u3 u4 u5
      exact ⟨⟨x0, x1, x2, x3, u, x5, x6⟩, rfl, inI_wf w0, inI_wf w1, inI_wf w2, inI_wf w3, hfu, inI_wf w5, inI_wf w6⟩
/-- A slice of structs of k cells each. -/
theorem openRows {α : Type} {k : Nat} (hk0 : 0 < k) (f : α → List Value) (Q : α → Prop) (hfl : ∀ x, (f x).length = k) {W : World} {t e : TypeId} {v : Value} {d : DataW H} {p : List MemPlace} {base : Nat} (ht : P.underlying t = some (.slice e)) (ce : P.cellsOf e = k)
    (each : ∀ (w : World) (base : Nat) (spare : Nat → Bool) (held : Bool) (n : Nat) (cs : List Value) (y : DataW H × List MemPlace), DataW.trod enc P w base spare held n e cs = some y → cs.length = k → ∃ x, cs = f x ∧ Q x)
    (hok : Value.okWide P W .any base t v) (hT : DataW.Trod enc P W 0 (fun _ => true) true t v d p) (hlt : ∀ x ∈ p, x.block < W.heap.size) : ∃ l : List α, Ps k W 0 W.heap.size v (l.map f) ∧ ∀ x ∈ l, Q x := by
  have heach : ∀ l : List α, Each k (l.map f) := fun l x hx => by
    obtain ⟨y, _, rfl⟩ := List.mem_map.1 hx
    exact hfl y
  obtain ⟨a0, len, cap, rfl⟩ := okWide_slice ht hok
  obtain ⟨fuel, hf⟩ := hT
  rcases Deep.open_slice ht hf with ⟨hcs, hx⟩ | ⟨a, len', cap', m, n, D, Pl, hcs, _, hl, hm, hmm, hx, hcell⟩
  · simp [Value.cells] at hcs
    obtain ⟨rfl, rfl, rfl⟩ := hcs
    exact ⟨[], Ps.nil _ _ _ _, fun _ h => by cases h⟩
  · simp [Value.cells] at hcs
    obtain ⟨rfl, rfl, rfl⟩ := hcs
    simp only [Prod.mk.injEq] at hx
    obtain ⟨_, rfl⟩ := hx
    simp only [if_true] at hmm
    subst hmm
    rw [ce] at hcell hlt
    have get : ∀ i, i < len → ∃ x : α, Q x ∧ ∀ j c, (f x)[j]? = some c → W.cell? (a.add (i * k + j)) = some c := fun i hi => by
      obtain ⟨cs', h1, h2⟩ := hcell i (by omega)
      obtain ⟨_, hlen, hc⟩ := World.cells?_some h1
      obtain ⟨x, hx1, hx2⟩ := each _ _ _ _ _ _ _ h2 hlen
      refine ⟨x, hx2, fun j c hj => ?_⟩
      have hjk : j < k := by
        have := (List.getElem?_eq_some_iff.1 hj).1
        rwa [hfl] at this
      rw [← add_add', hc j (by omega), hx1]
      exact hj
    obtain ⟨l, hl2, hg⟩ := list_of (Q := fun i (x : α) => Q x ∧ ∀ j c, (f x)[j]? = some c → W.cell? (a.add (i * k + j)) = some c) len get
    have hflat : (l.map f).flatten.length = l.length * k := by rw [flat_len (heach l), List.length_map]
    have hQ : ∀ x ∈ l, Q x := fun x hx => by
      obtain ⟨i, hi, rfl⟩ := List.getElem_of_mem hx
      exact (hg i _ (List.getElem?_eq_getElem hi)).1
    refine ⟨l, ⟨heach l, by rw [hflat, List.length_map], some a, m, by rw [List.length_map, hl2], by rw [List.length_map]; omega, hm, (fun h => by cases h), ?_⟩, hQ⟩
    intro ad had i c hc
    obtain rfl := Option.some.inj had
    have hi : i < (l.map f).flatten.length := (List.getElem?_eq_some_iff.1 hc).1
    rw [hflat] at hi
    have hik : i / k < l.length := (Nat.div_lt_iff_lt_mul hk0).2 hi
    have hm2 : i % k < k := Nat.mod_lt _ hk0
    have hx : l[i / k]? = some l[i / k] := List.getElem?_eq_getElem hik
    have hmf : i % k < (f l[i / k]).length := by rw [hfl]; exact hm2
    have h := flat_get (heach l) (i := i / k) (x := f l[i / k]) (by rw [List.getElem?_map, hx]; rfl) (List.getElem?_eq_getElem hmf)
    have hdm : i / k * k + i % k = i := by rw [Nat.mul_comm]; exact Nat.div_add_mod i k
    rw [hdm, hc] at h
    have hcl := (hg (i / k) _ hx).2 (i % k) c (by rw [List.getElem?_eq_getElem hmf, ← Option.some.inj h])
    rw [hdm] at hcl
    refine ⟨Nat.zero_le _, ?_, hcl⟩
    have := block_lt_of_cell hcl
    rwa [add_block] at this
end
end Go.Pm
namespace Go.Proofs.Ytbebpnanhkcngaa
open Go.ChangeShapes Go.WideShapes Go.ChangeAt Go.RowKit Go.Pm

theorem laidOut : laidOutB Try.prog = true := by kernel_rfl
theorem ownKnobs : ownKnob Try.prog.godebug = none := by kernel_rfl
theorem rI64t : Try.prog.underlying 2 = some (.int .i64) := by kernel_rfl
theorem rI64 : Try.prog.underlying 3 = some (.int .i64) := by kernel_rfl
theorem rU64 : Try.prog.underlying 39 = some (.int .u64) := by kernel_rfl
theorem rStr : Try.prog.underlying 9 = some .string := by kernel_rfl
def fSigR : Field := { name := "R", type := 39, offset := 0, embedded := false, tag := "", pkgPath := "", byteOffset := 0 }
def fSigS : Field := { name := "S", type := 39, offset := 1, embedded := false, tag := "", pkgPath := "", byteOffset := 8 }
def fName : Field := { name := "Name", type := 9, offset := 0, embedded := false, tag := "", pkgPath := "", byteOffset := 0 }
def fVersion : Field := { name := "Version", type := 3, offset := 1, embedded := false, tag := "", pkgPath := "", byteOffset := 16 }
def fKey : Field := { name := "Key", type := 39, offset := 2, embedded := false, tag := "", pkgPath := "", byteOffset := 24 }
def fClass : Field := { name := "Class", type := 3, offset := 3, embedded := false, tag := "", pkgPath := "", byteOffset := 32 }
def fSig : Field := { name := "Sig", type := 41, offset := 4, embedded := false, tag := "", pkgPath := "", byteOffset := 40 }
def gKind : Field := { name := "Kind", type := 3, offset := 0, embedded := false, tag := "", pkgPath := "", byteOffset := 0 }
def gSeq : Field := { name := "Seq", type := 2, offset := 1, embedded := false, tag := "", pkgPath := "", byteOffset := 8 }
def gGen : Field := { name := "Gen", type := 2, offset := 2, embedded := false, tag := "", pkgPath := "", byteOffset := 16 }
def gCount : Field := { name := "Count", type := 3, offset := 3, embedded := false, tag := "", pkgPath := "", byteOffset := 24 }
def gUpdate : Field := { name := "Update", type := 43, offset := 4, embedded := false, tag := "", pkgPath := "", byteOffset := 32 }
def gTick : Field := { name := "Tick", type := 2, offset := 10, embedded := false, tag := "", pkgPath := "", byteOffset := 88 }
def gEpoch : Field := { name := "Epoch", type := 3, offset := 11, embedded := false, tag := "", pkgPath := "", byteOffset := 96 }
theorem rSig : Try.prog.underlying 41 = some (.struct #[fSigR, fSigS]) := by kernel_rfl
theorem rUpd : Try.prog.underlying 43 = some (.struct #[fName, fVersion, fKey, fClass, fSig]) := by kernel_rfl
theorem rRec : Try.prog.underlying 45 = some (.struct #[gKind, gSeq, gGen, gCount, gUpdate, gTick, gEpoch]) := by kernel_rfl
theorem rRecs : Try.prog.underlying 27 = some (.slice 45) := by kernel_rfl
theorem rBool : Try.prog.underlying 4 = some .bool := by kernel_rfl
theorem rU8 : Try.prog.underlying 5 = some (.int .u8) := by kernel_rfl

set_option maxRecDepth 100000 in
theorem scanRaw_lifted (os : Os) (started : os.Started) (H : Type) (enc : TypeId × Value → H) :
    ReturnsInHanded {} Try.checked os 5 .any (Rows.scanRawSpec.pre6 enc Try.prog Try.f5 Rows.scanRawRow.domain false) (Rows.scanRawSpec.post enc Try.prog Try.f5 false true false false) := by
  refine returnsInHanded_of_change (C := Try.checked) ownKnobs started (by kernel_rfl) Try.func5
    (ChangeSpec.witness6 (enc := enc) (C := Try.checked) false ⟨#[], #[.slice none 0 0, .int .u8 0, .int .u8 0], []⟩ 8 (by kernel_rfl) (by kernel_rfl) (by kernel_rfl) (by kernel_rfl)) ?_
  intro W base args ds gs before hval0 hW _ _
  have hval : ∀ (j : Nat) t v, Try.f5.params[j]? = some t → args[j]? = some v → Value.okWide Try.prog W .any base t v := hval0
  have hlt : ∀ x ∈ before, x.block < W.heap.size := fun x hx => by simpa using hW.lt x hx
  have hW' := hW
  obtain ⟨p, q, hA0, hV, rfl, hfz, hnd⟩ := hW
  obtain ⟨rfl, rfl⟩ := trodVars_none hV
  have hA : DataW.TrodAll enc Try.prog W 0 (fun _ => true) true Try.f5.params.toList args.toList ds p := hA0
  rw [Try.params5] at hA hval
  obtain ⟨v0, v1, v2, d0, d1, d2, p0, p1, p2, rfl, rfl, rfl, h0, h1, h2⟩ := trodAll_three hA
  obtain ⟨raw, hraw⟩ := openRows (k := 12) (by decide) recC Rec.Fits (fun _ => rfl) rRecs (by kernel_rfl) (fun _ _ _ _ _ _ _ h hl => trodRec rRec hl rfl rfl rfl rfl rfl rfl rfl rI64 rI64t rI64t rI64 rI64t rI64 (by kernel_rfl) (by kernel_rfl) (by kernel_rfl) (by kernel_rfl) (by kernel_rfl) (by kernel_rfl) (by kernel_rfl) rUpd rfl rfl rfl rfl rfl rStr rI64 rU64 rI64 rSig rfl rfl rU64 rU64 (by kernel_rfl) (by kernel_rfl) (by kernel_rfl) (by kernel_rfl) (by kernel_rfl) (by kernel_rfl) (by kernel_rfl) h) (hval 0 27 v0 rfl rfl) h0 (fun x hx => hlt x (by simp [hx]))
  obtain ⟨k, rfl, b1⟩ := openNat_u8 rU8 (hval 1 5 v1 rfl rfl) h1
  obtain ⟨count, rfl, b2⟩ := openNat_u8 rU8 (hval 2 5 v2 rfl rfl) h2
  refine (P15.raw Sn.records Sn.whole Sn.choose v0 _ _ raw k count W hraw.1 hraw.2 b1 b2).mono fun e W' ⟨he, hk⟩ => ?_
  subst he
  exact ⟨_, rfl, law_post (P := Try.prog) (f := Try.f5) rfl rfl rBool laidOut (by kernel_rfl) hW' rfl rfl rfl (hk.below (fun _ _ h => h))⟩

theorem scanRaw_holds : Rows.ScanRawSaid :=
  OpenClaim.holds_of_wide 5 Try.f5 rfl rfl rfl rfl rfl rfl rfl ⟨rfl, rfl, rfl, rfl, rfl⟩ rfl rfl rfl rfl rfl (by kernel_rfl) Try.func5 (by kernel_rfl)
    (of_decide_eq_true (by kernel_rfl)) (by unfold Func.isWrapper; first | (rw [if_pos (by decide +kernel)]; kernel_rfl) | (rw [if_neg (by decide +kernel)]; exact ⟨rfl, rfl⟩))
    (fun os started H enc _ => scanRaw_lifted os started H enc)
end Go.Proofs.Ytbebpnanhkcngaa
