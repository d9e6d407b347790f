/- postmarklaw13.known: true, over frame's contracts. -/
import Derived.Test.YtkjidligfcihgaaFrmC13
namespace Go.Proofs.Ytkjidligfcihgaa
open Go.RowKit Go.Pm
namespace K13
open Fm
set_option maxRecDepth 100000 in
set_option maxHeartbeats 4000000 in
theorem known (hP : PutC) (hR : ReadC) (w : World) : Calls Try.prog 7 #[] w fun e w' => e = .returned (.bool true) ∧ Kept None w w' := by
  obtain ⟨e1, e2⟩ := putFL_ok (k := 2) (s := 7) (b := [97, 98]) (by decide) (by decide) (by decide) (by decide)
  have e3 := read_putF 2 7 [97, 98] [9] (by decide) (by decide) (by decide) (by decide) (by decide)
  have e4 : readF (List.replicate 40 0) = ⟨0, 0, [], 0, 20⟩ := readF_bad (M := 0) (K := 0) (S := 0) (by decide) (by decide) (.inr (.inl rfl))
  have l1 := putF_len 2 7 [97, 98]
  have p1 := fun v lo hi W h => hP 2 7 v lo hi [97, 98] W h (by decide) (by decide) (by decide) (by decide) (by decide)
  rw [e1, e2] at p1
  obtain ⟨T, hT⟩ : ∃ T, T = putF 2 7 [97, 98] := ⟨_, rfl⟩
  rw [← hT] at p1 e3 l1
  have r1 := fun v lo hi W h => hR v lo hi (T ++ [9]) W h (by rw [List.length_append, l1]; decide)
  rw [e3] at r1
  have r2 := fun v lo hi W h => hR v lo hi (List.replicate 40 0) W h (by decide)
  rw [e4] at r2
  have p2 := fun W => hP 0 7 (.slice none 0 0) 0 0 [] W (Bs.nil _ _ _) (by decide) (by decide) (by decide) (by decide) (by decide)
  have e5 : putFE 0 7 [] = 23 := by decide
  rw [e5] at p2
  have H1 := hid p1
  have H2 := hid r1
  have H3 := hid r2
  have H4 := hid p2
  have HL := hid l1
  clear e1 e2 e3 e4 e5 l1 p1 r1 r2 p2 hT
  have cv := constBytes w #[.int .u8 97, .int .u8 98] 2 2 w.heap.size rfl
  go_enter Try.func7, Try.ntmps7
  go_wp2_with fail
  refine (H1.out _ _ _ _ (Bs.newMark w #[.int .u8 97, .int .u8 98] 5 (2, 3) 2 rfl (by decide) [97, 98] rfl)).mono ?_
  rintro e w2 ⟨u2, rfl, k2, b2⟩
  obtain ⟨a2, c2, rfl⟩ := b2.form
  have kk : Kept None w w2 := ((Kept.refl None w).alloc (.cells #[.int .u8 97, .int .u8 98] 5 (2, 3))).trans k2
  have hn : Ob w2 w2.heap.size (.slice none 0 0) [] := Bo.nil _ _ _
  have hu : Bs w2 0 w2.heap.size (.slice a2 T.length c2) T := (b2.bs (Nat.le_refl _)).all
  have hl : ([] : List UInt8).length + T.length ≤ 140737488355328 := by rw [HL.out]; decide
  have K2 := hid kk
  clear cv b2 k2 kk
  go_wp2_with (first | (refine wpList_append_byte rfl (.tmp 23) (.tmp 24) 22 rfl rtBytes (b := 9) rfl rfl hB3 (by decide) (by decide) hl3 hz3 ?_; intro a4 n4 c4 w4 hB4 hK4) | (refine wpList_append_bo rfl _ _ 22 rfl rtBytes rfl rfl hn hu hl (Nat.le_refl _) ?_; intro a3 n3 c3 w3 hB3 hK3; have hl3 : (([] : List UInt8) ++ T).length + 1 ≤ 140737488355328 := (by simp only [List.nil_append]; rw [HL.out]; decide); have hz3 := hK3.size) | fail)
  have hK34 : Kept None w2 w4 := (hK3.mono (fun k _ h => by cases h)).then hK4 (fun k hk h => by have := (hB3.own k h).1; omega)
  have hx : Bs w4 w2.heap.size w4.heap.size (.slice a4 n4 c4) (T ++ [9]) := by
    have := hB4.bs (Nat.le_refl _)
    rw [List.nil_append] at this
    exact this
  have K4 := hid (K2.out.trans hK34)
  clear hB3 hK3 hl3 hz3 hB4 hK4 hK34 hn hu hl
  refine (H2.out _ _ _ _ hx).mono ?_
  rintro e w5 ⟨u5, rfl, k5, b5⟩
  obtain ⟨a5, c5, rfl, _⟩ := b5.shape
  have K5 := hid (K4.out.trans k5)
  have hb5 := b5
  clear k5 hx
  have B5 := hid hb5
  clear hb5 b5
  obtain ⟨i0, hi0, hz0, hz1, hz2⟩ := info_parts infoByte
  have hmk : (Instr.makeSlice 22 (.int .i64 40) (.int .i64 40)).run Try.prog w5 = .ok (.slice (some ⟨w5.heap.size, 0, none⟩) 40 40) (w5.alloc (.cells (madeCells (Value.cells (.int .u8 0)) 40) 5)) := by
    have := run_makeSlice (P := Try.prog) w5 22 5 i0 (.int .u8 0) tBytes' hi0 hz0 .i64 .i64 40 40 (by omega) (Int.le_refl _) (by rw [hz1]; omega) (by rw [hz2]; omega) (by omega)
    rw [show (40 : Int).toNat = 40 from rfl, hz1, Nat.mul_one] at this
    exact this
  have hz : Bs (w5.alloc (.cells (madeCells (Value.cells (.int .u8 0)) 40) 5)) w5.heap.size (w5.heap.size + 1) (.slice (some ⟨w5.heap.size, 0, none⟩) 40 40) (List.replicate 40 0) := Bs.newMark w5 _ 5 (0, 0) 40 (by simp [madeCells]) (by decide) (List.replicate 40 0) (by rw [List.map_replicate]; exact toList_madeCells_one _ _)
  obtain ⟨C, hC⟩ : ∃ C, C = madeCells (Value.cells (.int .u8 0)) 40 := ⟨_, rfl⟩
  rw [← hC] at hmk hz
  have HZ := hid hz
  clear hz hC hi0 hz0 hz1 hz2
  go_wp2_with fail
  refine (H3.out _ _ _ _ HZ.out).mono ?_
  rintro e w6 ⟨u6, rfl, k6, b6⟩
  obtain ⟨a6, c6, rfl, _⟩ := b6.shape
  have K6 := hid (show Kept None w5 w6 from ((Kept.refl None w5).alloc _).trans k6)
  clear k6 b6 hmk
  go_wp2_with fail
  refine (H4.out _).mono ?_
  rintro e w7 ⟨u7, rfl, k7, b7⟩
  obtain ⟨a7, c7, rfl⟩ := b7.form
  have K7 := hid (K6.out.trans k7)
  have cs : (convert 22 9 (.slice a5 2 c5)).run Try.prog w7 = .ok (.string ⟨#[97, 98]⟩) w7 := cvBytes (B5.out.kept K7.out (fun _ _ _ h => h))
  clear k7 b7
  go_wp2
  go_ret
  exact ⟨rfl, K5.out.trans K7.out⟩
end K13
end Go.Proofs.Ytkjidligfcihgaa
