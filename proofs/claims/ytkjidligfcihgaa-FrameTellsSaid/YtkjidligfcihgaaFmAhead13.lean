/- frame.number and frame.ahead: by contract. -/
import Derived.Test.YtkjidligfcihgaaFmSum13
import Derived.Test.YtkjidligfcihgaaLowRdN
import Derived.Test.YtkjidligfcihgaaFrmC13
namespace Go.Proofs.Ytkjidligfcihgaa
open Go.RowKit Go.Pm
namespace Fm
set_option maxHeartbeats 1000000 in
/-- bytes.Equal. -/
theorem eqB (a b : List UInt8) (v u : Value) (lo hi lo' hi' : Nat) (w : World) (hv : Bs w lo hi v a) (hu : Bs w lo' hi' u b) : Calls Try.prog 18 #[v, u] w fun e w' => e = .returned (.bool (a == b)) ∧ Kept None w w' := by
  have c1 := cvBytes hv
  have c2 := cvBytes hu
  go_enter Try.func18, Try.ntmps18
  go_wp2
  go_ret
  exact ⟨rfl, Kept.refl _ _⟩
set_option maxRecDepth 100000 in
set_option maxHeartbeats 2000000 in
/-- frame.number. -/
theorem number (v : Value) (lo hi : Nat) (l : List UInt8) (w : World) (hv : Bs w lo hi v l) (hl : l.length ≤ 8) :
    Calls Try.prog 23 #[v] w fun e w' => e = .returned (.int .u64 (leV (l ++ List.replicate (8 - l.length) 0))) ∧ Kept None w w' := by
  obtain ⟨av, cv, rfl, _⟩ := hv.shape
  obtain ⟨N, hN⟩ : ∃ N, N = 8 - l.length := ⟨_, rfl⟩
  have r1 : (8 : Int) - (l.length : Int) = (N : Int) := by omega
  rw [← hN]
  obtain ⟨i0, hi0, hz0, hz1, hz2⟩ := info_parts infoByte
  have hmk : ∀ W, (Instr.makeSlice 22 (.int .i64 (N : Int)) (.int .i64 (N : Int))).run Try.prog W = .ok (.slice (some ⟨W.heap.size, 0, none⟩) N N) (W.alloc (.cells (madeCells (Value.cells (.int .u8 0)) N) 5)) := fun W => by
    have := run_makeSlice (P := Try.prog) W 22 5 i0 (.int .u8 0) tBytes' hi0 hz0 .i64 .i64 (N : Int) (N : Int) (by omega) (Int.le_refl _) (by rw [hz1]; omega) (by rw [hz2]; omega) (by omega)
    rw [show ((N : Int)).toNat = N by omega, hz1, Nat.mul_one] at this
    exact this
  have hbs : ∀ W : World, Bs (W.alloc (.cells (madeCells (Value.cells (.int .u8 0)) N) 5)) W.heap.size (W.heap.size + 1) (.slice (some ⟨W.heap.size, 0, none⟩) N N) (List.replicate N 0) := fun W => Bs.newMark W _ 5 (0, 0) N (by simp [madeCells]) (by omega) (List.replicate N 0) (by rw [List.map_replicate]; exact toList_madeCells_one _ _)
  obtain ⟨C, hC⟩ : ∃ C, C = madeCells (Value.cells (.int .u8 0)) N := ⟨_, rfl⟩
  simp only [← hC] at hmk hbs
  have HBS := hid hbs
  have HV := hid hv
  obtain ⟨L, hL⟩ : ∃ L, L = l ++ List.replicate N 0 := ⟨_, rfl⟩
  have hL8 : L.length = 8 := by rw [hL, List.length_append, List.length_replicate]; omega
  have hJ : [l, List.replicate N 0].flatten = L := by rw [hL]; simp
  have HJ := hid (fun W v lo hi lo' hi' h => Bin.join v lo hi lo' hi' [l, List.replicate N 0] W h (by unfold total; rw [hJ, hL8]; decide))
  rw [hJ] at HJ
  rw [← hL]
  have HN := hid (fun W v lo hi h => Bin.new v lo hi L W h (by rw [hL8]; decide))
  have HR := hid (fun W r lo h => Bin.rnum r lo r ⟨L, 0⟩ W h (Nat.le_refl _))
  have hnum : (St.mk L 0).num = leV L := if_pos ⟨rfl, by show 8 ≤ L.length; rw [hL8]; exact Nat.le_refl _⟩
  rw [hnum] at HR
  clear hi0 hz0 hz1 hz2 hC hv hN hL hL8 hJ hnum hbs hl
  go_enter Try.func23, Try.ntmps23
  go_wp2_with fail
  have hbs := Bss.new (w.alloc (.cells C 5)) #[.slice av l.length cv, .slice (some ⟨w.heap.size, 0, none⟩) N N] 22 [l, List.replicate N 0] 2 rfl (by decide) ⟨(HV.out.kept ((Kept.refl None w).alloc _) (fun _ _ _ h => h)).all, (HBS.out w).all, trivial⟩
  rw [show (w.alloc (.cells C 5)).heap.size = w.heap.size + 1 by simp] at hbs
  have HB := hid hbs
  have K2 := hid (show Kept None w ((w.alloc (.cells C 5)).alloc (.cells #[.slice av l.length cv, .slice (some ⟨w.heap.size, 0, none⟩) N N] 22)) from ((Kept.refl None w).alloc _).alloc _)
  clear hbs hmk
  refine (HJ.out _ _ _ _ _ _ HB.out).mono ?_
  rintro e w3 ⟨v3, rfl, k3, b3⟩
  have K3 := hid (K2.out.trans k3)
  have B3 := hid (b3.bs (Nat.le_refl _))
  clear k3 b3
  go_wp2_with fail
  refine (HN.out _ _ _ _ B3.out).mono ?_
  rintro e w4 ⟨r, rfl, k4, hr, hR⟩
  have K4 := hid (K3.out.trans k4)
  have H4 := hid (And.intro hr hR)
  have hz3 := hid K3.out.size
  clear k4 hr hR
  go_wp2_with fail
  refine (HR.out _ _ _ H4.out.2).mono ?_
  rintro e w5 ⟨rfl, k5, _⟩
  have kk := K4.out.then k5 (fun i hi e => by have e : i = r := e; have := H4.out.1; have := hz3.out; omega)
  clear k5
  go_wp2
  go_ret
  exact ⟨rfl, kk⟩
theorem leV_four (l : List UInt8) (h : 4 ≤ l.length) : leV (l.take 4 ++ List.replicate 4 0) = le4V l := by
  match l, h with
  | a :: b :: c :: d :: r, _ =>
    show leV ([a, b, c, d] ++ [0, 0, 0, 0]) = _
    unfold leV le4V
    simp [bAt]
theorem leV_eight (l r : List UInt8) (h : 8 ≤ l.length) : leV (l.take 8 ++ r) = leV l := by
  have e : leV (l.take 8 ++ r) = leV ((l.take 8 ++ r).take 8) := (leV_take _).symm
  rw [e, List.take_left' (by simp; omega)]
  exact leV_take l
set_option maxRecDepth 100000 in
set_option maxHeartbeats 4000000 in
/-- frame.ahead: of 13 bytes. -/
theorem ahead (v : Value) (lo hi : Nat) (l : List UInt8) (w : World) (hv : Bs w lo hi v l) (hl : l.length = 13) (M K S : Nat) (eM : le4V l = (M : Int)) (eK : bAt l 4 = (K : Int)) (eS : leV (l.drop 5) = (S : Int)) :
    Calls Try.prog 17 #[v] w fun e w' => e = .returned (.tuple #[.int .u64 (M : Int), .int .u8 (K : Int), .int .u64 (S : Int)]) ∧ Kept None w w' := by
  obtain ⟨av, cv, rfl, _⟩ := hv.shape
  obtain ⟨bb, o, rfl, q1, q2, q3, hcell⟩ := hv.ne (by omega)
  have HC := hid (fun W (hW : Kept None w W) => show W.cell? ⟨bb, o + 4, none⟩ = some (.int .u8 (K : Int)) from ((hW.cell (p := ⟨bb, o + 4, none⟩) q3 (fun h => h)).trans (hcell 4 (by omega))).trans (by rw [eK]))
  obtain ⟨x1, sl1, p1⟩ := slice_to tBytes zBytes hv .i64 4 (by decide) (by omega)
  obtain ⟨x2, sl2, p2⟩ := slice_from tBytes zBytes hv .i64 5 (by decide) (by omega)
  simp only [show (4 : Int).toNat = 4 from rfl, show (5 : Int).toNat = 5 from rfl] at sl1 sl2 p1 p2
  rw [← List.map_take] at p1
  rw [← List.map_drop] at p2
  have e8 : l.length - 5 = 8 := by omega
  rw [e8] at sl2 p2
  rw [hl] at sl1 sl2
  have hc1 : (l.take 4).length = 4 := by simp; omega
  have hc2 : (l.drop 5).length = 8 := by simp; omega
  have HN1 := hid (fun W (hW : Kept None w W) => show Calls Try.prog 23 #[.slice x1 4 cv] W fun e w' => e = .returned (.int .u64 (M : Int)) ∧ Kept None W w' from by
    have h := number (.slice x1 4 cv) lo hi (l.take 4) W (Bs.kept p1 hW (fun _ _ _ h => h)) (by omega)
    rw [hc1, show 8 - 4 = 4 from rfl, leV_four l (by omega), eM] at h
    exact h)
  have HN2 := hid (fun W (hW : Kept None w W) => show Calls Try.prog 23 #[.slice x2 8 (cv - 5)] W fun e w' => e = .returned (.int .u64 (S : Int)) ∧ Kept None W w' from by
    have h := number (.slice x2 8 (cv - 5)) lo hi (l.drop 5) W (Bs.kept p2 hW (fun _ _ _ h => h)) (by omega)
    rw [hc2, show 8 - 8 = 0 from rfl, List.replicate_zero, List.append_nil, eS] at h
    exact h)
  have i4 : (4 : Int) < (l.length : Int) := by omega
  rw [hl] at i4
  clear hv hcell q1 q2 q3 p1 p2 e8 hc1 hc2 eM eK eS
  rw [hl]
  go_enter Try.func17, Try.ntmps17
  go_wp2_with fail
  have hs : Steady [.val 2 (.int .u64 (M : Int)), .val 8 (.int .u64 (S : Int))] := Go.Pm.Steady.val (Go.Pm.Steady.val Go.Pm.Steady.nil)
  refine wp_region_kn w _ hs (Kept.refl _ _) (by kernel_rfl) (by kernel_rfl) (by kernel_rfl) ?_
  iterate 2 (refine wpPar_pure rfl (by rfl) _ (fun W hW => by
      have hc1 := HC.out W hW
      go_simp
      exact rfl) ?_; simp only [Act.put, List.setIfInBounds_toArray, List.set_cons_zero, List.set_cons_succ])
  refine wpKn_adds hs rfl (by rfl) (fun W hW hd => ?_) (fun v7 hv => ?_)
  · unfold Gives
    go_simp
    refine gives_call (HN1.out W hW) ?_
    rintro e w3 ⟨rfl, k3⟩
    exact ⟨_, rfl, k3, rfl, trivial⟩
  obtain rfl : v7 = .int .u64 (M : Int) := hv
  simp only [Act.put, List.setIfInBounds_toArray, List.set_cons_zero, List.set_cons_succ]
  iterate 5 (refine wpPar_pure rfl (by rfl) _ (fun W hW => by
      have hc1 := HC.out W hW
      go_simp
      exact rfl) ?_; simp only [Act.put, List.setIfInBounds_toArray, List.set_cons_zero, List.set_cons_succ])
  refine wpKn_adds hs rfl (by rfl) (fun W hW hd => ?_) (fun v13 hv => ?_)
  · unfold Gives
    go_simp
    refine gives_call (HN2.out W hW) ?_
    rintro e w3 ⟨rfl, k3⟩
    exact ⟨_, rfl, k3, rfl, trivial⟩
  obtain rfl : v13 = .int .u64 (S : Int) := hv
  simp only [Act.put, List.setIfInBounds_toArray, List.set_cons_zero, List.set_cons_succ]
  iterate 3 (refine wpPar_pure rfl (by rfl) _ (fun W hW => by
      have hc1 := HC.out W hW
      go_simp
      exact rfl) ?_; simp only [Act.put, List.setIfInBounds_toArray, List.set_cons_zero, List.set_cons_succ])
  refine wpPar_nil (fun W hW hG => ?_)
  have hk : Kept None w W := hW
  clear hG hs hW sl1 sl2
  go_wp2
  go_ret3
  exact ⟨rfl, hk⟩
end Fm
end Go.Proofs.Ytkjidligfcihgaa
