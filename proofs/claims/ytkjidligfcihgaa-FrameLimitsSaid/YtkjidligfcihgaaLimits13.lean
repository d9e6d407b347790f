/- postmarklaw13.FrameLimits: true, over frame's contracts. -/
import Derived.Test.YtkjidligfcihgaaKnown13
namespace Go.Proofs.Ytkjidligfcihgaa
open Go.RowKit Go.Pm
namespace K13
open Fm
set_option maxRecDepth 100000 in
set_option maxHeartbeats 4000000 in
theorem limits (hP : PutC) (hR : ReadC) (k : Nat) (w : World) (hk : k < 256) : Calls Try.prog 5 #[.int .u8 (k : Int)] w fun e w' => e = .returned (.bool true) ∧ Kept None w w' := by
  obtain ⟨c, hc⟩ : ∃ c, c = k % 5 := ⟨_, rfl⟩
  have r1 : (k : Int) % 5 = (c : Int) := by omega
  have c5 : c < 5 := by omega
  obtain ⟨N, hN⟩ : ∃ N, N = 4094 + c := ⟨_, rfl⟩
  have r2 : (4094 : Int) + (c : Int) = (N : Int) := by omega
  have hNl : N ≤ 4098 := by omega
  obtain ⟨i0, hi0, hz0, hz1, hz2⟩ := info_parts infoByte
  have hmk : ∀ W, (Instr.makeSlice 22 (.int .i64 (N : Int)) (.int .i64 (N : Int))).run Try.prog W = .ok (.slice (some ⟨W.heap.size, 0, none⟩) N N) (W.alloc (.cells (madeCells (Value.cells (.int .u8 0)) N) 5)) := fun W => by
    have := run_makeSlice (P := Try.prog) W 22 5 i0 (.int .u8 0) tBytes' hi0 hz0 .i64 .i64 (N : Int) (N : Int) (by omega) (Int.le_refl _) (by rw [hz1]; omega) (by rw [hz2]; omega) (by omega)
    rw [show ((N : Int)).toNat = N by omega, hz1, Nat.mul_one] at this
    exact this
  have hbs : ∀ W : World, Bs (W.alloc (.cells (madeCells (Value.cells (.int .u8 0)) N) 5)) W.heap.size (W.heap.size + 1) (.slice (some ⟨W.heap.size, 0, none⟩) N N) (List.replicate N 0) := fun W => Bs.newMark W _ 5 (0, 0) N (by simp [madeCells]) (by omega) (List.replicate N 0) (by rw [List.map_replicate]; exact toList_madeCells_one _ _)
  obtain ⟨C, hC⟩ : ∃ C, C = madeCells (Value.cells (.int .u8 0)) N := ⟨_, rfl⟩
  simp only [← hC] at hmk hbs
  have HBS := hid hbs
  have HK := hid (fun W => known hP hR W)
  obtain ⟨b, hb⟩ : ∃ b : List UInt8, b = List.replicate N 0 := ⟨_, rfl⟩
  have hbl : b.length = N := by rw [hb]; simp
  rw [← hb] at HBS
  have p1 := fun v lo hi W h => hP 1 1 v lo hi b W h (by decide) (by decide) (by decide) (by decide) (by omega)
  have HBL := hid hbl
  have e13 : readF [1, 16, 0, 0, 1, 0, 0, 0, 0, 0, 0, 0, 0] = ⟨0, 0, [], 0, 20⟩ := readF_bad (M := 4097) (K := 1) (S := 0) (by decide) (by decide) (.inl (by decide))
  have r13 := fun v lo hi W h => hR v lo hi [1, 16, 0, 0, 1, 0, 0, 0, 0, 0, 0, 0, 0] W h (by decide)
  rw [e13] at r13
  have H13 := hid r13
  have HR2 := hid hR
  clear hbs hC hi0 hz0 hz1 hz2 hb hP hR e13 r13
  by_cases h2 : 2 < c
  · have e : putFE 1 1 b = 22 := by unfold putFE; rw [if_neg (by decide), if_pos (by omega)]
    have eL : putFL 1 1 b = [] := by unfold putFL; rw [if_neg (by rw [e]; decide)]
    rw [e, eL] at p1
    have H1 := hid p1
    have d1 : decide ((2 : Int) < (c : Int)) = true := by simp; omega
    have d2 : decide (2 < c) = true := by simpa using h2
    clear e eL p1 hbl h2 hN hc
    go_enter Try.func5, Try.ntmps5
    go_wp2_with fail
    refine (HK.out w).mono ?_
    rintro e w1 ⟨rfl, k1⟩
    have K1 := hid k1
    clear k1
    go_wp2_with fail
    refine (H1.out _ _ _ _ (HBS.out w1)).mono ?_
    rintro e w2 ⟨u2, rfl, k2, b2⟩
    obtain ⟨a2, c2, rfl⟩ := b2.form
    have K2 := hid ((K1.out.alloc _).trans k2)
    clear k2 b2
    go_wp2
    go_ret
    exact ⟨rfl, K2.out⟩
  · obtain ⟨e, eL⟩ := putFL_ok (k := 1) (s := 1) (b := b) (by decide) (by decide) (by decide) (by omega)
    have e3 := read_putF 1 1 b [] (by decide) (by decide) (by decide) (by decide) (by omega)
    rw [List.append_nil] at e3
    have l1 := putF_len 1 1 b
    rw [e, eL] at p1
    obtain ⟨T, hT⟩ : ∃ T, T = putF 1 1 b := ⟨_, rfl⟩
    rw [← hT] at p1 e3 l1
    rw [hbl] at e3 l1
    have q1 := fun v lo hi W h => HR2.out v lo hi T W h (by rw [l1]; omega)
    rw [e3] at q1
    obtain ⟨Q, hQ⟩ : ∃ Q, Q = 21 + N := ⟨_, rfl⟩
    rw [← hQ] at l1 q1
    have H1 := hid p1
    have H2 := hid q1
    have HL1 := hid l1
    have d1 : decide ((2 : Int) < (c : Int)) = false := by simp; omega
    have d2 : decide (2 < c) = false := by simpa using h2
    clear e eL p1 q1 hbl h2 hN hc e3 l1 hT hQ
    go_enter Try.func5, Try.ntmps5
    go_wp2_with fail
    refine (HK.out w).mono ?_
    rintro e w1 ⟨rfl, k1⟩
    have K1 := hid k1
    clear k1
    go_wp2_with fail
    refine (H1.out _ _ _ _ (HBS.out w1)).mono ?_
    rintro e w2 ⟨u2, rfl, k2, b2⟩
    obtain ⟨a2, c2, rfl⟩ := b2.form
    have K2 := hid ((K1.out.alloc _).trans k2)
    have B2 := hid (b2.bs (Nat.le_refl _))
    have BB := hid ((HBS.out w1).kept k2 (fun _ _ _ h => h))
    clear k2 b2
    go_wp2_with fail
    refine (H2.out _ _ _ _ B2.out).mono ?_
    rintro e w3 ⟨u3, rfl, k3, b3⟩
    obtain ⟨a3, c3, rfl, _⟩ := b3.shape
    have K3 := hid k3
    have B3 := hid b3
    clear k3 b3
    have h13 : Bs (w3.alloc (.cells #[.int .u8 1, .int .u8 16, .int .u8 0, .int .u8 0, .int .u8 1, .int .u8 0, .int .u8 0, .int .u8 0, .int .u8 0, .int .u8 0, .int .u8 0, .int .u8 0, .int .u8 0] 5)) w3.heap.size (w3.heap.size + 1) (.slice (some ⟨w3.heap.size, 0, none⟩) 13 13) [1, 16, 0, 0, 1, 0, 0, 0, 0, 0, 0, 0, 0] := Bs.newMark w3 #[.int .u8 1, .int .u8 16, .int .u8 0, .int .u8 0, .int .u8 1, .int .u8 0, .int .u8 0, .int .u8 0, .int .u8 0, .int .u8 0, .int .u8 0, .int .u8 0, .int .u8 0] 5 (0, 0) 13 rfl (by decide) [1, 16, 0, 0, 1, 0, 0, 0, 0, 0, 0, 0, 0] rfl
    have HH13 := hid h13
    clear h13
    go_wp2_with fail
    refine (H13.out _ _ _ _ HH13.out).mono ?_
    rintro e w4 ⟨u4, rfl, k4, b4⟩
    obtain ⟨a4, c4, rfl, _⟩ := b4.shape
    have K4 := hid (((Kept.refl None w3).alloc (.cells #[.int .u8 1, .int .u8 16, .int .u8 0, .int .u8 0, .int .u8 1, .int .u8 0, .int .u8 0, .int .u8 0, .int .u8 0, .int .u8 0, .int .u8 0, .int .u8 0, .int .u8 0] 5)).trans k4)
    clear k4 b4
    have s1 := cvBytes (B3.out.kept K4.out (fun _ _ _ h => h))
    have s2 := cvBytes ((BB.out.kept K3.out (fun _ _ _ h => h)).kept K4.out (fun _ _ _ h => h))
    have hlT := HL1.out
    go_wp2
    go_ret
    exact ⟨rfl, (K2.out.trans K3.out).trans K4.out⟩
end K13
end Go.Proofs.Ytkjidligfcihgaa
