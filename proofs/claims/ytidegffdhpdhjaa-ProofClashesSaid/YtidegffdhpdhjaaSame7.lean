/- postmarkhelp.Hashes, Proof: by contract. -/
import Derived.Test.YtidegffdhpdhjaaRight7
namespace Go.Pm
open Go Go.RowKit
/-- Are two proofs the same? -/
def samePf (p q : Pf) : Bool := (p.e == q.e && itEq p.x q.x) && decide (p.path = q.path)
theorem samePf_is (p q : Pf) : samePf p q = decide (p = q) := by
  cases p; cases q
  unfold samePf
  rw [itEq_is, Bool.eq_iff_iff]
  simp
  constructor
  · rintro ⟨⟨h1, h2⟩, h3⟩; exact ⟨h3, h1, h2⟩
  · rintro ⟨h1, h2, h3⟩; exact ⟨⟨h2, h3⟩, h1⟩
end Go.Pm
namespace Go.Proofs.Ytidegffdhpdhjaa
open Go.RowKit Go.Pm
namespace Pr
set_option maxRecDepth 100000 in
set_option maxHeartbeats 1000000 in
/-- Hashes. -/
theorem hashes (va vb : Value) (xs ys : List (List UInt8)) (w : World) (ha : Rh 0 w va xs) (hb : Rh 0 w vb ys) : Calls Try.prog 80 #[va, vb] w fun e w' => e = .returned (.bool (decide (xs = ys))) ∧ Kept None w w' := by
  obtain ⟨h1, ha⟩ := ha
  obtain ⟨h2, hb⟩ := hb
  obtain ⟨a1, c1, rfl, p1, p2, _⟩ := ha.form
  obtain ⟨a2, c2, rfl, p3, p4, _⟩ := hb.form
  obtain ⟨n, hn⟩ : ∃ n, n = xs.length := ⟨_, rfl⟩
  obtain ⟨m, hm⟩ : ∃ n, n = ys.length := ⟨_, rfl⟩
  rw [← hn] at ha p1 ⊢
  rw [← hm] at hb p3 ⊢
  obtain ⟨r, hr⟩ : ∃ r, r = decide (xs = ys) := ⟨_, rfl⟩
  rw [← hr]
  have HA := hid ha
  have HB := hid hb
  have HN := hid (And.intro hn hm)
  have HR := hid hr
  clear ha hb hn hm hr
  by_cases hnm : n = m
  · subst hnm
    go_enter Try.func80, Try.ntmps80
    go_wp2
    go_loopg [5] n (fun kx s5 wr => ∃ k : Nat, s5 = .int .i64 k ∧ k ≤ n ∧ n - k ≤ kx ∧ Hid (Kept None w wr) ∧ Hid (xs.take k = ys.take k))
    case atStart => exact ⟨0, rfl, Nat.zero_le _, Nat.le_refl _, Kept.refl _ _, hid (by simp)⟩
    case round =>
      obtain ⟨k, rfl, hk, hkx, HK, HT⟩ := hrel
      by_cases hlt : k < n
      · have hz : (k : Int) < (n : Int) := by omega
        have i1 := HA.out.kept HK.out (fun _ _ _ h => h)
        have i2 := HB.out.kept HK.out (fun _ _ _ h => h)
        have l1 : k < xs.length := by have := HN.out; omega
        have l2 : k < ys.length := by have := HN.out; omega
        obtain ⟨b1, o1, q1, _, _, _, s1⟩ := i1.lo (by omega)
        obtain ⟨b2, o2, q2, _, _, _, s2⟩ := i2.lo (by omega)
        obtain rfl := q1
        obtain rfl := q2
        have r1 := s1 k l1
        have r2 := s2 k l2
        have e1 := Tr.neqHash xs[k] ys[k] (HA.out.1 _ (List.getElem_mem l1)) (HB.out.1 _ (List.getElem_mem l2))
        have aX := aH32' (HA.out.1 _ (List.getElem_mem l1))
        have aY := aH32' (HB.out.1 _ (List.getElem_mem l2))
        have t1 := List.take_succ_eq_append_getElem l1
        have t2 := List.take_succ_eq_append_getElem l2
        obtain ⟨x, hx⟩ : ∃ x, x = xs[k] := ⟨_, rfl⟩
        obtain ⟨y, hy⟩ : ∃ y, y = ys[k] := ⟨_, rfl⟩
        rw [← hx] at r1 e1 aX t1
        rw [← hy] at r2 e1 aY t2
        obtain ⟨CX, hCX⟩ : ∃ C, C = x.map u8v := ⟨_, rfl⟩
        obtain ⟨CY, hCY⟩ : ∃ C, C = y.map u8v := ⟨_, rfl⟩
        rw [← hCX] at r1 e1 aX
        rw [← hCY] at r2 e1 aY
        have HXY := hid (And.intro hx (And.intro hy (And.intro t1 t2)))
        have R1 := hid r1
        have R2 := hid r2
        obtain ⟨bE, hbE⟩ : ∃ b, b = (x == y) := ⟨_, rfl⟩
        rw [← hbE] at e1
        have HBE := hid hbE
        clear hCX hCY i1 i2 hx hy t1 t2 r1 r2 hbE s1 s2
        go_wp2_with fail
        have hs : Steady [] := Steady.nil
        refine wp_region_kn wr _ hs (Kept.refl _ _) (by kernel_rfl) (by kernel_rfl) (by kernel_rfl) ?_
        iterate 3 (refine wpPar_pure rfl (by rfl) _ (fun W hW => by
            go_simp
            exact rfl) ?_; simp only [Act.put, List.setIfInBounds_toArray, List.set_cons_zero, List.set_cons_succ])
        refine wpPar_pure rfl (by rfl) _ (fun W hW => exec_load_at rfl rfl (rangeAt_kept R1.out hW) aX) ?_; simp only [Act.put, List.setIfInBounds_toArray, List.set_cons_zero, List.set_cons_succ]
        iterate 3 (refine wpPar_pure rfl (by rfl) _ (fun W hW => by
            go_simp
            exact rfl) ?_; simp only [Act.put, List.setIfInBounds_toArray, List.set_cons_zero, List.set_cons_succ])
        refine wpPar_pure rfl (by rfl) _ (fun W hW => exec_load_at rfl rfl (rangeAt_kept R2.out hW) aY) ?_; simp only [Act.put, List.setIfInBounds_toArray, List.set_cons_zero, List.set_cons_succ]
        cases bE with
        | true =>
          iterate 1 (refine wpPar_pure rfl (by rfl) _ (fun W hW => by
              go_simp
              exact rfl) ?_; simp only [Act.put, List.setIfInBounds_toArray, List.set_cons_zero, List.set_cons_succ])
          refine wpPar_nil (fun w6 hW hG => ?_)
          have HW := hid (HK.out.trans hW)
          have HT2 : Hid (xs.take (k + 1) = ys.take (k + 1)) := hid (by
            have hxy : x = y := by have := HBE.out; simpa using this.symm
            rw [HXY.out.2.2.1, HXY.out.2.2.2, HT.out, hxy])
          clear hG hs hW HK e1 R1 R2
          go_wp2
          go_roundg (n - (k + 1))
          case measure => omega
          case rel => exact ⟨k + 1, by go_num, by omega, Nat.le_refl _, HW, HT2⟩
        | false =>
          iterate 1 (refine wpPar_pure rfl (by rfl) _ (fun W hW => by
              go_simp
              exact rfl) ?_; simp only [Act.put, List.setIfInBounds_toArray, List.set_cons_zero, List.set_cons_succ])
          refine wpPar_nil (fun w6 hW hG => ?_)
          have HW := hid (HK.out.trans hW)
          clear hG hs hW HK e1 R1 R2
          go_wp2
          go_ret
          exact ⟨by rw [HR.out, decide_eq_false (fun h => by
            have hxy : x ≠ y := by have := HBE.out; simpa using this.symm
            apply hxy
            rw [HXY.out.1, HXY.out.2.1]
            simp [h])]; rfl, HW.out⟩
      · have hz : ¬ (k : Int) < (n : Int) := by omega
        obtain rfl : k = n := by omega
        go_wp2
        go_ret
        exact ⟨by rw [HR.out, decide_eq_true (by
          have := HT.out
          rwa [List.take_of_length_le (by have := HN.out; omega), List.take_of_length_le (by have := HN.out; omega)] at this)]; rfl, HK.out⟩
  · have e1 : ((n : Int) == (m : Int)) = false := by rw [beq_eq_false_iff_ne]; omega
    have e2 : ((n : Int) != (m : Int)) = true := by rw [bne_iff_ne]; omega
    go_enter Try.func80, Try.ntmps80
    go_wp2
    go_ret
    exact ⟨by rw [HR.out, decide_eq_false (fun h => hnm (by rw [HN.out.1, HN.out.2, h]))]; rfl, Kept.refl _ _⟩

set_option maxRecDepth 100000 in
set_option maxHeartbeats 1000000 in
/-- Proof. -/
theorem same (s t : Value) (p q : Pf) (w : World) (hp : p.Ok) (hq : q.Ok) (hs : Rh 0 w s p.path) (ht : Rh 0 w t q.path) : Calls Try.prog 38 #[pfV s p, pfV t q] w fun e w' => e = .returned (.bool (decide (p = q))) ∧ Kept None w w' := by
  rw [← samePf_is]
  obtain ⟨X, hX⟩ : ∃ X, X = (pfC s p).toArray := ⟨_, rfl⟩
  obtain ⟨Y, hY⟩ : ∃ X, X = (pfC t q).toArray := ⟨_, rfl⟩
  obtain ⟨CX, hCX⟩ : ∃ CX : List Value, CX = itC p.x := ⟨_, rfl⟩
  obtain ⟨CY, hCY⟩ : ∃ CX : List Value, CX = itC q.x := ⟨_, rfl⟩
  obtain ⟨bI, hbI⟩ : ∃ b, b = itEq p.x q.x := ⟨_, rfl⟩
  obtain ⟨bP, hbP⟩ : ∃ b, b = decide (p.path = q.path) := ⟨_, rfl⟩
  have E := eqItem p.x q.x hp.2 hq.2
  have hH := fun w h1 h2 => hashes s t p.path q.path w h1 h2
  obtain ⟨P1, hP1⟩ : ∃ x, x = p.path := ⟨_, rfl⟩
  obtain ⟨P2, hP2⟩ : ∃ x, x = q.path := ⟨_, rfl⟩
  have aX := aI64' hp.2
  have aY := aI64' hq.2
  have k0 : Kept None w ((w.alloc (.cells X 63)).alloc (.cells Y 63)) := ((Kept.refl _ _).alloc _).alloc _
  have b0 : Blk ((w.alloc (.cells X 63)).alloc (.cells Y 63)) w.heap.size X 63 := (Blk.new w _ _).alloc _
  have b1 : Blk ((w.alloc (.cells X 63)).alloc (.cells Y 63)) (w.heap.size + 1) Y 63 := Blk.new2 w _ _ _
  have rX : World.rangeAt ((w.alloc (.cells X 63)).alloc (.cells Y 63)) w.heap.size 2 CX := hCX ▸ pf_rx (hX ▸ b0 : Blk ((w.alloc (.cells X 63)).alloc (.cells Y 63)) w.heap.size (pfC s p).toArray 63)
  have rY : World.rangeAt ((w.alloc (.cells X 63)).alloc (.cells Y 63)) (w.heap.size + 1) 2 CY := hCY ▸ pf_rx (hY ▸ b1 : Blk ((w.alloc (.cells X 63)).alloc (.cells Y 63)) (w.heap.size + 1) (pfC t q).toArray 63)
  have hx0 : X[0]? = some s := by rw [hX]; rfl
  have hx1 : X[1]? = some (.int .i64 p.e) := by rw [hX]; rfl
  have hy0 : Y[0]? = some t := by rw [hY]; rfl
  have hy1 : Y[1]? = some (.int .i64 q.e) := by rw [hY]; rfl
  have hs2 := hs.kept k0
  have ht2 := ht.kept k0
  obtain ⟨res, hres⟩ : ∃ r, r = samePf p q := ⟨_, rfl⟩
  rw [← hres]
  have hres2 : res = ((p.e == q.e && bI) && bP) := by rw [hres, hbI, hbP]; rfl
  show Calls Try.prog 38 #[.agg (pfC s p).toArray, .agg (pfC t q).toArray] w _
  rw [← hX, ← hY]
  rw [← hbI, ← hCX, ← hCY] at E
  rw [← hCX] at aX
  rw [← hCY] at aY
  rw [← hbP] at hH
  rw [← hP1] at hH hs2
  rw [← hP2] at hH ht2
  have HH := hid hH
  have HS := hid (And.intro hs2 ht2)
  have HRE := hid hres2
  obtain ⟨sa, cs, hsf⟩ := hs.form
  obtain ⟨ta, ct, htf⟩ := ht.form
  obtain ⟨e1, he1⟩ : ∃ e, e = p.e := ⟨_, rfl⟩
  obtain ⟨e2, he2⟩ : ∃ e, e = q.e := ⟨_, rfl⟩
  rw [← he1] at hx1 HRE
  rw [← he2] at hy1 HRE
  clear hX hY hCX hCY hbI hbP hres hres2 hH hs2 ht2 b0 b1 hP1 hP2 hs ht hsf htf he1 he2
  by_cases he : e1 = e2
  · subst he
    cases bI with
    | true =>
      go_enter Try.func38, Try.ntmps38
      go_wp2_with (first | go_skip | (refine wpList_load_wr (by kernel_rfl) rfl rfl rX aX ?_) | (refine wpList_load_wr (by kernel_rfl) rfl rfl rY aY ?_) | fail)
      refine (HH.out _ HS.out.1 HS.out.2).mono ?_
      rintro e w3 ⟨rfl, k3⟩
      have k03 := k0.trans k3
      clear k0 k3 rX rY aX aY E
      go_wp2
      go_ret
      exact ⟨by rw [HRE.out]; simp, k03⟩
    | false =>
      go_enter Try.func38, Try.ntmps38
      go_wp2_with (first | go_skip | (refine wpList_load_wr (by kernel_rfl) rfl rfl rX aX ?_) | (refine wpList_load_wr (by kernel_rfl) rfl rfl rY aY ?_) | fail)
      go_ret
      exact ⟨by rw [HRE.out]; simp, k0⟩
  · have n0 : (e1 == e2) = false := by simpa using he
    go_enter Try.func38, Try.ntmps38
    go_wp2_with (first | go_skip | fail)
    go_ret
    exact ⟨by rw [HRE.out, n0]; rfl, k0⟩
end Pr
end Go.Proofs.Ytidegffdhpdhjaa
