/- frame.Put: by contract. -/
import Derived.Test.YtkjidligfcihgaaFmSum13
import Derived.Test.YtkjidligfcihgaaFrmC13
namespace Go.Proofs.Ytkjidligfcihgaa
open Go.RowKit Go.Pm
namespace Fm
set_option maxRecDepth 100000 in
set_option maxHeartbeats 4000000 in
theorem put : PutC := by
  intro k s v lo hi b w hv _ _ _ s1 hl
  obtain ⟨av, cv, rfl, _⟩ := hv.shape
  have bad : ∀ E : Int, putFE k s b = E → E ≠ 0 → putFL k s b = [] := fun E h1 h2 => by unfold putFL; rw [if_neg (by rw [h1]; exact h2)]
  by_cases hk1 : k < 1
  · have e : putFE k s b = 23 := by unfold putFE; rw [if_pos (.inl hk1)]
    rw [e, bad 23 e (by decide)]
    have d1 : decide (k < 1) = true := by simpa using hk1
    clear bad e hk1 hv
    go_enter Try.func8, Try.ntmps8
    go_wp2
    go_ret2
    exact ⟨_, rfl, Kept.refl _ _, Bo.nil _ _ _⟩
  · by_cases hk2 : 255 < k
    · have e : putFE k s b = 23 := by unfold putFE; rw [if_pos (.inr (.inl hk2))]
      rw [e, bad 23 e (by decide)]
      have d1 : decide (k < 1) = false := by simpa using hk1
      have d2 : decide (255 < k) = true := by simpa using hk2
      clear bad e hk1 hk2 hv
      go_enter Try.func8, Try.ntmps8
      go_wp2
      go_ret2
      exact ⟨_, rfl, Kept.refl _ _, Bo.nil _ _ _⟩
    · by_cases hs0 : s < 0
      · have e : putFE k s b = 23 := by unfold putFE; rw [if_pos (.inr (.inr hs0))]
        rw [e, bad 23 e (by decide)]
        have d1 : decide (k < 1) = false := by simpa using hk1
        have d2 : decide (255 < k) = false := by simpa using hk2
        have d3 : decide (s < 0) = true := by simpa using hs0
        clear bad e hk1 hk2 hs0 hv
        go_enter Try.func8, Try.ntmps8
        go_wp2
        go_ret2
        exact ⟨_, rfl, Kept.refl _ _, Bo.nil _ _ _⟩
      · have d1 : decide (k < 1) = false := by simpa using hk1
        have d2 : decide (255 < k) = false := by simpa using hk2
        have d3 : decide (s < 0) = false := by simpa using hs0
        have hc : ¬ (k < 1 ∨ 255 < k ∨ s < 0) := by omega
        by_cases hlen : 4096 < b.length
        · have e : putFE k s b = 22 := by unfold putFE; rw [if_neg hc, if_pos hlen]
          rw [e, bad 22 e (by decide)]
          have d4 : decide ((4096 : Int) < (b.length : Int)) = true := by simp; omega
          have d5 : decide (4096 < b.length) = true := by simpa using hlen
          clear bad e hk1 hk2 hs0 hc hlen hv
          go_enter Try.func8, Try.ntmps8
          go_wp2
          go_ret2
          exact ⟨_, rfl, Kept.refl _ _, Bo.nil _ _ _⟩
        · have e : putFE k s b = 0 := by unfold putFE; rw [if_neg hc, if_neg hlen]
          have eL : putFL k s b = putF k s b := by unfold putFL; rw [if_pos e]
          rw [e, eL]
          have d4 : decide ((4096 : Int) < (b.length : Int)) = false := by simp; omega
          have d5 : decide (4096 < b.length) = false := by simpa using hlen
          have HN := hid (fun W => Bin.num (b.length : Int) W (by omega) (by omega))
          have HN2 := hid (fun W => Bin.num s W (by omega) (by omega))
          have HM := hid (fun W lo hi v (h : Bs W lo hi v b) => sum k s v lo hi b W h (by omega) (by omega) (by omega) s1 (by omega))
          have hJ : [(leB (b.length : Int)).take 4, [Go.Pm.byteOf k], leB s, b, markF k s b].flatten = putF k s b := by
            have : (leB (b.length : Int)).take 4 = le4 b.length := rfl
            simp [putF, this]
          have HJ := hid (fun W v lo hi lo' hi' h => Bin.join v lo hi lo' hi' [(leB (b.length : Int)).take 4, [Go.Pm.byteOf k], leB s, b, markF k s b] W h (by unfold total; rw [hJ, putF_len]; omega))
          rw [hJ] at HJ
          have HV := hid hv.all
          have wl : IntKind.u64.wrap (b.length : Int) = (b.length : Int) := by rw [IntKind.wrap_u64]; omega
          have ws : IntKind.u64.wrap s = s := by rw [IntKind.wrap_u64]; omega
          have wk : IntKind.u8.wrap k = k := by rw [IntKind.wrap_u8]; omega
          have HK := hid (show 0 ≤ k ∧ k < 256 by omega)
          clear bad e eL hc hv hlen hJ
          go_enter Try.func8, Try.ntmps8
          go_wp2_with fail
          refine (HN.out _).mono ?_
          rintro e w1 ⟨v1, rfl, k1, b1⟩
          obtain ⟨a1, c1, rfl⟩ := b1.form
          rw [leB_length]
          have b1' : Bs w1 0 w1.heap.size (.slice a1 8 c1) (leB (b.length : Int)) := (b1.bs (Nat.le_refl _)).all
          obtain ⟨x1, sl1, p1⟩ := slice_to tBytes zBytes b1' .i64 4 (by decide) (by decide)
          have P1 : Hid (Bs w1 0 w1.heap.size (.slice x1 4 c1) ((leB (b.length : Int)).take 4)) := hid (by unfold Bs; rw [List.map_take]; exact p1)
          have K1 := hid k1
          clear k1 b1 b1' p1
          simp only [show (4 : Int).toNat = 4 from rfl] at sl1
          go_wp2_with fail
          clear sl1
          refine (HN2.out _).mono ?_
          rintro e w2 ⟨v2, rfl, k2, b2⟩
          obtain ⟨a2, c2, rfl⟩ := b2.form
          rw [leB_length]
          have K2 := hid (K1.out.trans k2)
          have P2 := hid (P1.out.kept k2 (fun _ _ _ h => h)).all
          have Q2 : Hid (Bs w2 0 w2.heap.size (.slice a2 8 c2) (leB s)) := hid (b2.bs (Nat.le_refl _)).all
          clear k2 b2 P1 K1
          go_wp2_with fail
          have k3 : Kept None w2 (w2.alloc (.cells #[.int .u8 k] 5)) := (Kept.refl _ _).alloc _
          have R3 : Hid (Bs (w2.alloc (.cells #[.int .u8 k] 5)) w2.heap.size (w2.heap.size + 1) (.slice (some ⟨w2.heap.size, 0, none⟩) 1 1) [Go.Pm.byteOf k]) :=
            hid (Bs.newMark w2 #[.int .u8 k] 5 (0, 0) 1 rfl (by decide) [Go.Pm.byteOf k] (by simp [u8v_byteOf' HK.out.1 HK.out.2]))
          have K3 := hid (K2.out.trans k3)
          have P3 := hid (P2.out.kept k3 (fun _ _ _ h => h))
          have Q3 := hid (Q2.out.kept k3 (fun _ _ _ h => h))
          clear k3 P2 Q2 K2
          refine (HM.out _ _ _ _ (HV.out.kept K3.out (fun _ _ _ h => h))).mono ?_
          rintro e w4 ⟨a4, c4, rfl, k4, b4⟩
          have hbs := Bss.new w4 #[.slice x1 4 c1, .slice (some ⟨w2.heap.size, 0, none⟩) 1 1, .slice a2 8 c2, .slice av b.length cv, .slice a4 8 c4] 22 [(leB (b.length : Int)).take 4, [Go.Pm.byteOf k], leB s, b, markF k s b] 5 rfl (by decide) ⟨(P3.out.kept k4 (fun _ _ _ h => h)).all, (R3.out.kept k4 (fun _ _ _ h => h)).all, (Q3.out.kept k4 (fun _ _ _ h => h)).all, ((HV.out.kept K3.out (fun _ _ _ h => h)).kept k4 (fun _ _ _ h => h)).all, b4.all, trivial⟩
          have HB := hid hbs
          have K4 := hid (show Kept None w (w4.alloc (.cells #[.slice x1 4 c1, .slice (some ⟨w2.heap.size, 0, none⟩) 1 1, .slice a2 8 c2, .slice av b.length cv, .slice a4 8 c4] 22)) from (K3.out.trans k4).alloc _)
          clear hbs k4 b4 P3 Q3 R3 K3
          go_wp2_with fail
          refine (HJ.out _ _ _ _ _ _ HB.out).mono ?_
          rintro e w5 ⟨v5, rfl, k5, b5⟩
          have kk := K4.out.trans k5
          have hb5 := b5.base (Nat.le_trans ((Kept.refl None w).trans K4.out).size (Nat.le_refl _))
          clear b5 k5
          go_wp2
          go_ret2
          exact ⟨_, rfl, kk, hb5⟩
end Fm
end Go.Proofs.Ytkjidligfcihgaa
