/- postmarklaw13.FrameTurned: true, over frame's contracts. -/
import Derived.Test.YtkjidligfcihgaaKnown13
import Derived.Test.YtkjidligfcihgaaRRead13
import Derived.Deep.CutBlock
import Derived.Deep.DeepCutAuto
namespace Go.Proofs.Ytkjidligfcihgaa
open Go.RowKit Go.Pm
namespace K13
open Fm
theorem xor_u8 (a b : Int) : 0 ≤ bits .xor .u8 a b ∧ bits .xor .u8 a b < 256 := by
  have h : bits .xor .u8 a b = IntKind.u8.wrap ((BitVec.ofInt 8 a ^^^ BitVec.ofInt 8 b).toNat : Int) := rfl
  rw [h, IntKind.wrap_u8]
  omega
theorem readF_e (b : List UInt8) : (readF b).e = 0 ∨ (readF b).e = 20 ∨ (readF b).e = 21 ∨ (readF b).e = 24 := by
  unfold readF
  split
  · exact .inr (.inr (.inl rfl))
  · split
    · exact .inr (.inl rfl)
    · split
      · exact .inr (.inr (.inl rfl))
      · split
        · exact .inl rfl
        · exact .inr (.inr (.inr rfl))
set_option maxRecDepth 100000 in
set_option maxHeartbeats 4000000 in
theorem turned (hP : PutC) (hR : ReadC) (kind x at_ : Nat) (seq : Int) (v : Value) (lo hi : Nat) (body : List UInt8) (w : World) (_hkind : kind < 256) (hx : x < 256) (hat : at_ < 65536) (s0 : -9223372036854775808 ≤ seq) (s1 : seq ≤ 9223372036854775807) (hv : Bs w lo hi v body) :
    Calls Try.prog 4 #[.int .u8 (kind : Int), .int .i64 seq, v, .int .u16 (at_ : Int), .int .u8 (x : Int)] w fun e w' => e = .returned (.bool true) ∧ Kept None w w' := by
  obtain ⟨av, cv, rfl, _⟩ := hv.shape
  have HK := hid (fun W => known hP hR W)
  by_cases h100 : body.length ≤ 100
  · have d1 : decide ((100 : Int) < (body.length : Int)) = false := by simp; omega
    have d1' : decide (100 < body.length) = false := by simp; omega
    by_cases hx0 : x = 0
    · subst hx0
      clear hat s0 s1 hv hP hR h100
      go_enter Try.func4, Try.ntmps4
      go_wp2_with fail
      refine (HK.out w).mono ?_
      rintro e w1 ⟨rfl, k1⟩
      go_wp2
      go_ret
      exact ⟨rfl, k1⟩
    · have d2 : ((x : Int) == 0) = false := by simp; omega
      by_cases hs : seq < 0
      · have d3 : decide (seq < 0) = true := by simpa using hs
        clear hat s0 s1 hv hP hR h100 hs
        go_enter Try.func4, Try.ntmps4
        go_wp2_with fail
        refine (HK.out w).mono ?_
        rintro e w1 ⟨rfl, k1⟩
        go_wp2
        go_ret
        exact ⟨rfl, k1⟩
      · have d3 : decide (seq < 0) = false := by simpa using hs
        obtain ⟨C, hC⟩ : ∃ C, C = kind % 255 := ⟨_, rfl⟩
        have r1 : (kind : Int) % 255 = (C : Int) := by omega
        have hC5 : C < 255 := by omega
        obtain ⟨K, hK⟩ : ∃ K, K = C + 1 := ⟨_, rfl⟩
        have r2 : (C : Int) + 1 = (K : Int) := by omega
        obtain ⟨e1, e2⟩ := putFL_ok (k := (K : Int)) (s := seq) (b := body) (by omega) (by omega) (by omega) (by omega)
        have l1 := putF_len (K : Int) seq body
        have p1 := fun v lo hi W h => hP (K : Int) seq v lo hi body W h (by omega) (by omega) s0 (by omega) (by omega)
        rw [e1, e2] at p1
        obtain ⟨T, hT⟩ : ∃ T, T = putF (K : Int) seq body := ⟨_, rfl⟩
        rw [← hT] at p1 l1
        obtain ⟨Q, hQ⟩ : ∃ Q, Q = 21 + body.length := ⟨_, rfl⟩
        have r3 : (21 : Int) + (body.length : Int) = (Q : Int) := by omega
        have r3' : wrap64 (21 + (body.length : Int)) = (Q : Int) := by unfold wrap64; omega
        have R3 := hid r3'
        clear r3'
        rw [← hQ] at l1
        obtain ⟨D, hD⟩ : ∃ D, D = Q - 4 := ⟨_, rfl⟩
        have r4 : (Q : Int) - 4 = (D : Int) := by omega
        obtain ⟨J, hJ⟩ : ∃ J, J = at_ % D := ⟨_, rfl⟩
        have hJD : J < D := by rw [hJ]; exact Nat.mod_lt _ (by omega)
        have r5 : (at_ : Int) % (D : Int) = (J : Int) := by rw [hJ]; simp
        obtain ⟨I, hI⟩ : ∃ I, I = 4 + J := ⟨_, rfl⟩
        have r6 : (4 : Int) + (J : Int) = (I : Int) := by omega
        have HIQ := hid (show I < Q ∧ Q ≤ 121 ∧ T.length = Q ∧ D ≠ 0 by omega)
        have H1 := hid p1
        have HV := hid hv.all
        have HR5 := hid (And.intro r5 r6)
        have HR2 := hid hR
        have HQA := hid (show wrap64 (at_ : Int) = (at_ : Int) ∧ wrap64 (D : Int) = (D : Int) ∧ wrap64 (Q : Int) = (Q : Int) ∧ wrap64 (I : Int) = (I : Int) by unfold wrap64; omega)
        clear e1 e2 l1 p1 hT hQ hD hJ hJD hI hK hC hv hP hR h100 hx0 hs s0 s1 hat r5 r6
        go_enter Try.func4, Try.ntmps4
        go_wp2_with fail
        refine (HK.out w).mono ?_
        rintro e w1 ⟨rfl, k1⟩
        have K1 := hid k1
        have HV1 := hid (HV.out.kept k1 (fun _ _ _ h => h))
        clear k1
        go_wp2_with fail
        refine (H1.out _ _ _ _ HV1.out).mono ?_
        rintro e w2 ⟨u2, rfl, k2, b2⟩
        have K2 := hid (K1.out.trans k2)
        have hz := K1.out.size
        have HZ := hid hz
        obtain ⟨a2, c2, rfl⟩ := b2.form
        have B2 := hid b2
        clear k2 b2 hz
        have hTQ := HIQ.out.2.2.1
        have r3' := R3.out
        have hD0 : ¬ D = 0 := HIQ.out.2.2.2
        have hD1 : ((D : Int) == 0) = false := by simpa using hD0
        have hD2 : ¬ (D : Int) = 0 := by simpa using hD0
        have r5 : (at_ : Int) % (D : Int) = (J : Int) := HR5.out.1
        have r6 : (4 : Int) + (J : Int) = (I : Int) := HR5.out.2
        have qa := HQA.out.1
        have qD := HQA.out.2.1
        have q0 := HQA.out.2.2.1
        have qI := HQA.out.2.2.2
        go_upto_region 9 with fail
        have b2 := B2.out
        have hil : I < T.length := by rw [hTQ]; exact HIQ.out.1
        rcases b2.2 with ⟨_, hnil⟩ | ⟨g, cc, cur, hval, hbg, hg, hnc, hcm, hcs, htake⟩
        · exfalso
          rw [hnil] at hil
          exact absurd hil (Nat.not_lt_zero _)
        obtain ⟨rfl, rfl⟩ : a2 = some ⟨g, 0, none⟩ ∧ c2 = cc := by
          injection hval with e1 e2 e3
          exact ⟨e1, e3⟩
        have hB4 : Blk w2 g cur 5 := hg
        have hcell : w2.cell? ⟨g, I, none⟩ = some (.int .u8 (bAt T I)) := by
          rw [hB4.cell, ← Array.getElem?_toList]
          have h1 : (T.map u8v)[I]? = some (.int .u8 (bAt T I)) := by rw [List.getElem?_map, List.getElem?_eq_getElem hil, Option.map_some, u8v_at T I hil]
          rw [← htake, List.getElem?_take, if_pos (by rw [Nat.mul_one]; exact hil)] at h1
          exact h1
        have hfree := hB4.free I
        obtain ⟨y, hy⟩ : ∃ y, y = bAt T I := ⟨_, rfl⟩
        rw [← hy] at hcell
        have hz := xor_u8 y (x : Int)
        obtain ⟨z, hzz⟩ : ∃ z, z = bits .xor .u8 y (x : Int) := ⟨_, rfl⟩
        have hzx := hzz.symm
        rw [hzx] at hz
        have b5 := b2.set I z hz.1 hz.2
        have kS : Kept (Just g) w2 (w2.setCell ⟨g, I, none⟩ (.int .u8 z)) := Kept.one w2 g I _
        have kE := K2.out.then kS (fun k h (e : k = g) => by subst e; exact Nat.lt_irrefl _ (Nat.lt_of_lt_of_le h (Nat.le_trans HZ.out hbg)))
        have dC0 := b5.bs (Nat.le_refl _)
        obtain ⟨Cl, hCl⟩ : ∃ Cl, Cl = T.set I (Go.Pm.byteOf z) := ⟨_, rfl⟩
        rw [← hCl] at dC0
        have lC : Cl.length = Q := by rw [hCl, List.length_set, hTQ]
        have hIQ : I < Q := HIQ.out.1
        have hI0 : (I : Int) < (Q : Int) := Int.ofNat_lt.mpr hIQ
        rw [hTQ] at dC0
        clear hval hg hcs htake hB4 hy hzz b5 kS hCl b2 hz hnc hcm
        have hq : Cl.length ≤ 1099511627000 := by rw [lC]; exact Nat.le_trans HIQ.out.2.1 (by decide)
        go_wp2_with fail
        obtain ⟨wE, hwE⟩ : ∃ wE, wE = w2.setCell ⟨g, I, none⟩ (.int .u8 z) := ⟨_, rfl⟩
        rw [← hwE] at dC0 kE ⊢
        have KE := hid kE
        have DC := hid dC0
        have LC := hid (And.intro lC hq)
        clear hwE hcell hfree hzx hil kE dC0 lC hq
        obtain ⟨k6, s6, B6, n6, E6, hF⟩ : ∃ k s B n E, readF Cl = ⟨k, s, B, n, E⟩ := ⟨_, _, _, _, _, rfl⟩
        have hb6 := readF_body Cl
        have he6 := readF_e Cl
        have hf := fun (W : World) (h : Bs W w1.heap.size wE.heap.size (.slice (some ⟨g, 0, none⟩) Q c2) Cl) => HR2.out _ _ _ Cl W h LC.out.2
        have hg := fun (W : World) (h : Bs W w1.heap.size wE.heap.size (.slice (some ⟨g, 0, none⟩) Q c2) Cl) => R12.read _ _ _ Cl W h LC.out.2
        rw [hF] at hb6 he6
        simp only [hF] at hf hg
        have HF := hid hf
        have HG := hid hg
        clear hf hg hF
        simp only at hb6 he6
        clear HR2 LC HQA HR5 HIQ H1 B2 HV1 HV HK
        rcases he6 with rfl | rfl | rfl | rfl
        · refine (HF.out wE DC.out).mono ?_
          rintro e w5 ⟨u5, rfl, k5, b5⟩
          obtain ⟨a5, c5, rfl, _⟩ := b5.shape
          have K5 := hid (KE.out.trans k5)
          have D5 := hid (DC.out.kept k5 (fun _ _ _ h => h))
          clear k5 b5
          go_wp2_with fail
          refine (HG.out w5 D5.out).mono ?_
          rintro e w6 ⟨u6, rfl, k6, b6⟩
          obtain ⟨a6, c6, rfl, _⟩ := b6.shape
          have K6 := hid (K5.out.trans k6)
          clear k6 b6
          go_wp2
          go_ret
          exact ⟨rfl, K6.out⟩
        · obtain rfl : B6 = [] := hb6 (by decide)
          refine (HF.out wE DC.out).mono ?_
          rintro e w5 ⟨u5, rfl, k5, b5⟩
          obtain ⟨a5, c5, rfl, _⟩ := b5.shape
          have K5 := hid (KE.out.trans k5)
          have D5 := hid (DC.out.kept k5 (fun _ _ _ h => h))
          clear k5 b5
          go_wp2_with fail
          refine (HG.out w5 D5.out).mono ?_
          rintro e w6 ⟨u6, rfl, k6, b6⟩
          obtain ⟨a6, c6, rfl, _⟩ := b6.shape
          have K6 := hid (K5.out.trans k6)
          clear k6 b6
          go_wp2
          go_ret
          exact ⟨rfl, K6.out⟩
        · obtain rfl : B6 = [] := hb6 (by decide)
          refine (HF.out wE DC.out).mono ?_
          rintro e w5 ⟨u5, rfl, k5, b5⟩
          obtain ⟨a5, c5, rfl, _⟩ := b5.shape
          have K5 := hid (KE.out.trans k5)
          have D5 := hid (DC.out.kept k5 (fun _ _ _ h => h))
          clear k5 b5
          go_wp2_with fail
          refine (HG.out w5 D5.out).mono ?_
          rintro e w6 ⟨u6, rfl, k6, b6⟩
          obtain ⟨a6, c6, rfl, _⟩ := b6.shape
          have K6 := hid (K5.out.trans k6)
          clear k6 b6
          go_wp2
          go_ret
          exact ⟨rfl, K6.out⟩
        · obtain rfl : B6 = [] := hb6 (by decide)
          refine (HF.out wE DC.out).mono ?_
          rintro e w5 ⟨u5, rfl, k5, b5⟩
          obtain ⟨a5, c5, rfl, _⟩ := b5.shape
          have K5 := hid (KE.out.trans k5)
          have D5 := hid (DC.out.kept k5 (fun _ _ _ h => h))
          clear k5 b5
          go_wp2_with fail
          refine (HG.out w5 D5.out).mono ?_
          rintro e w6 ⟨u6, rfl, k6, b6⟩
          obtain ⟨a6, c6, rfl, _⟩ := b6.shape
          have K6 := hid (K5.out.trans k6)
          clear k6 b6
          go_wp2
          go_ret
          exact ⟨rfl, K6.out⟩
  · have d1 : decide ((100 : Int) < (body.length : Int)) = true := by simp; omega
    have d1' : decide (100 < body.length) = true := by simp; omega
    clear hx hat s0 s1 hv hP hR h100
    go_enter Try.func4, Try.ntmps4
    go_wp2_with fail
    refine (HK.out w).mono ?_
    rintro e w1 ⟨rfl, k1⟩
    go_wp2
    go_ret
    exact ⟨rfl, k1⟩
end K13
end Go.Proofs.Ytkjidligfcihgaa
