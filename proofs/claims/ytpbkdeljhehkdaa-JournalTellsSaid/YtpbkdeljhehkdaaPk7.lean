/- Texts joined: FmPut13, JrnP14, FmAhead13, FmRead13, JrnRd14, JrnBs14. -/
import Derived.Test.YtpbkdeljhehkdaaPk6
import Derived.Test.YtpbkdeljhehkdaaPk4
import Derived.Test.YtpbkdeljhehkdaaPk5
import Derived.Test.YtpbkdeljhehkdaaPk2
import Derived.Deep.LoopGhost
namespace Go.Proofs.Ytpbkdeljhehkdaa
open Go.RowKit Go.Pm
namespace Fm
set_option maxRecDepth 100000 in
set_option maxHeartbeats 4000000 in
theorem put : PutC := by
  intro k s v lo hi b w hv _ _ _ s1 hl
  obtain ⟨av, cv, rfl, _⟩ := hv.shape
  have bad : ∀ E : Int, putFE k s b = E → E ≠ 0 → putFL k s b = [] := fun E h1 h2 => by unfold putFL; rw [if_neg (by rw [h1]; exact h2)]
  by_cases hk1 : k < 1
  · have e : putFE k s b = 23 := by unfold putFE; rw [if_pos (.inl hk1)]
    rw [e, bad 23 e (by decide)]
    have d1 : decide (k < 1) = true := by simpa using hk1
    clear bad e hk1 hv
    go_enter Try.func25, Try.ntmps25
    go_wp2
    go_ret2
    exact ⟨_, rfl, Kept.refl _ _, Bo.nil _ _ _⟩
  · by_cases hk2 : 255 < k
    · have e : putFE k s b = 23 := by unfold putFE; rw [if_pos (.inr (.inl hk2))]
      rw [e, bad 23 e (by decide)]
      have d1 : decide (k < 1) = false := by simpa using hk1
      have d2 : decide (255 < k) = true := by simpa using hk2
      clear bad e hk1 hk2 hv
      go_enter Try.func25, Try.ntmps25
      go_wp2
      go_ret2
      exact ⟨_, rfl, Kept.refl _ _, Bo.nil _ _ _⟩
    · by_cases hs0 : s < 0
      · have e : putFE k s b = 23 := by unfold putFE; rw [if_pos (.inr (.inr hs0))]
        rw [e, bad 23 e (by decide)]
        have d1 : decide (k < 1) = false := by simpa using hk1
        have d2 : decide (255 < k) = false := by simpa using hk2
        have d3 : decide (s < 0) = true := by simpa using hs0
        clear bad e hk1 hk2 hs0 hv
        go_enter Try.func25, Try.ntmps25
        go_wp2
        go_ret2
        exact ⟨_, rfl, Kept.refl _ _, Bo.nil _ _ _⟩
      · have d1 : decide (k < 1) = false := by simpa using hk1
        have d2 : decide (255 < k) = false := by simpa using hk2
        have d3 : decide (s < 0) = false := by simpa using hs0
        have hc : ¬ (k < 1 ∨ 255 < k ∨ s < 0) := by omega
        by_cases hlen : 4096 < b.length
        · have e : putFE k s b = 22 := by unfold putFE; rw [if_neg hc, if_pos hlen]
          rw [e, bad 22 e (by decide)]
          have d4 : decide ((4096 : Int) < (b.length : Int)) = true := by simp; omega
          have d5 : decide (4096 < b.length) = true := by simpa using hlen
          clear bad e hk1 hk2 hs0 hc hlen hv
          go_enter Try.func25, Try.ntmps25
          go_wp2
          go_ret2
          exact ⟨_, rfl, Kept.refl _ _, Bo.nil _ _ _⟩
        · have e : putFE k s b = 0 := by unfold putFE; rw [if_neg hc, if_neg hlen]
          have eL : putFL k s b = putF k s b := by unfold putFL; rw [if_pos e]
          rw [e, eL]
          have d4 : decide ((4096 : Int) < (b.length : Int)) = false := by simp; omega
          have d5 : decide (4096 < b.length) = false := by simpa using hlen
          have HN := hid (fun W => Bin.num (b.length : Int) W (by omega) (by omega))
          have HN2 := hid (fun W => Bin.num s W (by omega) (by omega))
          have HM := hid (fun W lo hi v (h : Bs W lo hi v b) => sum k s v lo hi b W h (by omega) (by omega) (by omega) s1 (by omega))
          have hJ : [(leB (b.length : Int)).take 4, [Go.Pm.byteOf k], leB s, b, markF k s b].flatten = putF k s b := by
            have : (leB (b.length : Int)).take 4 = le4 b.length := rfl
            simp [putF, this]
          have HJ := hid (fun W v lo hi lo' hi' h => Bin.join v lo hi lo' hi' [(leB (b.length : Int)).take 4, [Go.Pm.byteOf k], leB s, b, markF k s b] W h (by unfold total; rw [hJ, putF_len]; omega))
          rw [hJ] at HJ
          have HV := hid hv.all
          have wl : IntKind.u64.wrap (b.length : Int) = (b.length : Int) := by rw [IntKind.wrap_u64]; omega
          have ws : IntKind.u64.wrap s = s := by rw [IntKind.wrap_u64]; omega
          have wk : IntKind.u8.wrap k = k := by rw [IntKind.wrap_u8]; omega
          have HK := hid (show 0 ≤ k ∧ k < 256 by omega)
          clear bad e eL hc hv hlen hJ
          go_enter Try.func25, Try.ntmps25
          go_wp2_with fail
          refine (HN.out _).mono ?_
          rintro e w1 ⟨v1, rfl, k1, b1⟩
          obtain ⟨a1, c1, rfl⟩ := b1.form
          rw [leB_length]
          have b1' : Bs w1 0 w1.heap.size (.slice a1 8 c1) (leB (b.length : Int)) := (b1.bs (Nat.le_refl _)).all
          obtain ⟨x1, sl1, p1⟩ := slice_to tBytes zBytes b1' .i64 4 (by decide) (by decide)
          have P1 : Hid (Bs w1 0 w1.heap.size (.slice x1 4 c1) ((leB (b.length : Int)).take 4)) := hid (by unfold Bs; rw [List.map_take]; exact p1)
          have K1 := hid k1
          clear k1 b1 b1' p1
          simp only [show (4 : Int).toNat = 4 from rfl] at sl1
          go_wp2_with fail
          clear sl1
          refine (HN2.out _).mono ?_
          rintro e w2 ⟨v2, rfl, k2, b2⟩
          obtain ⟨a2, c2, rfl⟩ := b2.form
          rw [leB_length]
          have K2 := hid (K1.out.trans k2)
          have P2 := hid (P1.out.kept k2 (fun _ _ _ h => h)).all
          have Q2 : Hid (Bs w2 0 w2.heap.size (.slice a2 8 c2) (leB s)) := hid (b2.bs (Nat.le_refl _)).all
          clear k2 b2 P1 K1
          go_wp2_with fail
          have k3 : Kept None w2 (w2.alloc (.cells #[.int .u8 k] 5)) := (Kept.refl _ _).alloc _
          have R3 : Hid (Bs (w2.alloc (.cells #[.int .u8 k] 5)) w2.heap.size (w2.heap.size + 1) (.slice (some ⟨w2.heap.size, 0, none⟩) 1 1) [Go.Pm.byteOf k]) :=
            hid (Bs.newMark w2 #[.int .u8 k] 5 (0, 0) 1 rfl (by decide) [Go.Pm.byteOf k] (by simp [u8v_byteOf' HK.out.1 HK.out.2]))
          have K3 := hid (K2.out.trans k3)
          have P3 := hid (P2.out.kept k3 (fun _ _ _ h => h))
          have Q3 := hid (Q2.out.kept k3 (fun _ _ _ h => h))
          clear k3 P2 Q2 K2
          refine (HM.out _ _ _ _ (HV.out.kept K3.out (fun _ _ _ h => h))).mono ?_
          rintro e w4 ⟨a4, c4, rfl, k4, b4⟩
          have hbs := Bss.new w4 #[.slice x1 4 c1, .slice (some ⟨w2.heap.size, 0, none⟩) 1 1, .slice a2 8 c2, .slice av b.length cv, .slice a4 8 c4] 29 [(leB (b.length : Int)).take 4, [Go.Pm.byteOf k], leB s, b, markF k s b] 5 rfl (by decide) ⟨(P3.out.kept k4 (fun _ _ _ h => h)).all, (R3.out.kept k4 (fun _ _ _ h => h)).all, (Q3.out.kept k4 (fun _ _ _ h => h)).all, ((HV.out.kept K3.out (fun _ _ _ h => h)).kept k4 (fun _ _ _ h => h)).all, b4.all, trivial⟩
          have HB := hid hbs
          have K4 := hid (show Kept None w (w4.alloc (.cells #[.slice x1 4 c1, .slice (some ⟨w2.heap.size, 0, none⟩) 1 1, .slice a2 8 c2, .slice av b.length cv, .slice a4 8 c4] 29)) from (K3.out.trans k4).alloc _)
          clear hbs k4 b4 P3 Q3 R3 K3
          go_wp2_with fail
          refine (HJ.out _ _ _ _ _ _ HB.out).mono ?_
          rintro e w5 ⟨v5, rfl, k5, b5⟩
          have kk := K4.out.trans k5
          have hb5 := b5.base (Nat.le_trans ((Kept.refl None w).trans K4.out).size (Nat.le_refl _))
          clear b5 k5
          go_wp2
          go_ret2
          exact ⟨_, rfl, kk, hb5⟩
end Fm
end Go.Proofs.Ytpbkdeljhehkdaa
namespace Go.Pm
open Go Go.RowKit
/-- What a Put tells: an own row and a number. -/
abbrev Fct.putO (e : TypeId) (k base : Nat) (l : List UInt8) (E : Int) (uses : List Nat := []) : Fct := { k := k, uses := uses, pure := fun u => ∃ a c, u = .tuple #[.slice a l.length c, .int .i64 E], fact := fun u W => ∃ a c, u = .tuple #[.slice a l.length c, .int .i64 E] ∧ Bo e W base (.slice a l.length c) l }
theorem Steady.putO {l : List Fct} {e : TypeId} {k base : Nat} {us : List Nat} {m : List UInt8} {E : Int} (h : Steady l) : Steady (.putO e k base m E us :: l) := .cons ⟨_, none, 0, rfl⟩ (fun _ _ _ hk ⟨a, c, h1, h2⟩ => ⟨a, c, h1, h2.kept hk (fun _ _ h => h)⟩) h
end Go.Pm
namespace Go.Proofs.Ytpbkdeljhehkdaa
open Go.RowKit Go.Pm
namespace Jr
theorem nil_own {k : Nat} (h : Of (.slice none 0 0) k) : False := by
  have h : (none : Option Nat) = some k := h
  cases h
theorem u64_in {x : Int} (h0 : 0 ≤ x) (h1 : x ≤ 1152921504606846976) : IntKind.u64.wrap x = x := by rw [IntKind.wrap_u64]; omega
set_option maxRecDepth 100000 in
set_option maxHeartbeats 4000000 in
theorem body1 (s g c : Int) (w : World) (hg : 0 ≤ g ∧ g ≤ 1152921504606846976) (hc : 0 ≤ c ∧ c ≤ 32) :
    Calls Try.prog 26 #[(⟨1, s, g, c, Req.none, 0, 0⟩ : Rec).V] w fun e' w' => ∃ u, e' = .returned u ∧ Kept None w w' ∧ Ob w' w.heap.size u (leB g ++ leB c) := by
  have wg := u64_in hg.1 hg.2
  have wc := u64_in hc.1 (Int.le_trans hc.2 (by decide))
  have HN1 := hid (fun W => Bin.num g W hg.1 (Int.lt_of_le_of_lt hg.2 (by decide)))
  have HN2 := hid (fun W => Bin.num c W hc.1 (Int.lt_of_le_of_lt hc.2 (by decide)))
  clear hg hc
  unfold Rec.V Rec.C
  have hb0 := hid (Blk.new w #[.int .i64 1, .int .i64 s, .int .i64 g, .int .i64 c, .string ⟨#[]⟩, .int .i64 0, .int .u64 0, .int .i64 0, .int .u64 0, .int .u64 0, .int .i64 0, .int .i64 0] 28)
  go_enter Try.func26, Try.ntmps26
  go_wp2_with fail
  refine (HN1.out _).mono ?_
  rintro e1 w1 ⟨v1, rfl, k1, b1⟩
  have K1 := hid (show Kept None w w1 from ((Kept.refl _ _).alloc _).trans k1)
  have B1 := hid (hb0.out.kept k1 (fun h => h))
  clear k1 HN1 hb0
  obtain ⟨a1, c1, rfl⟩ := b1.form
  have hu1 := (b1.bs (Nat.le_refl _)).all
  have hn1 : Ob w1 w.heap.size (.slice none 0 0) [] := Bo.nil _ _ _
  have hl1 : ([] : List UInt8).length + (leB g).length ≤ 140737488355328 := by simp [leB_length]
  have hz1 := K1.out.size
  clear b1
  go_upto_region 5 with (first | (refine wpList_append_bo rfl _ _ 29 rfl rtBytes rfl rfl hn1 hu1 hl1 hz1 ?_; intro a2 n2 c2 w2 hB2 hK2) | fail)
  have K2 := hid (K1.out.then hK2 (fun q hq h => Nat.lt_irrefl _ (Nat.lt_of_lt_of_le hq (hn1.own q h).1)))
  rw [List.nil_append] at hB2
  obtain ⟨_, _, hf2⟩ := hB2.form
  obtain rfl : n2 = (leB g).length := by injection hf2
  have hcell : w2.cell? ⟨w.heap.size, 3, none⟩ = some (.int .i64 c) := (B1.out.kept hK2 (fun h => nil_own h)).cell 3
  have HB2 := hid hB2
  clear hB2 hK2 hf2 hn1 hu1 hl1 hz1 B1 K1
  go_wp2_with fail
  refine (HN2.out _).mono ?_
  rintro e1 w3 ⟨v3, rfl, k3, b3⟩
  obtain ⟨a3, c3, rfl⟩ := b3.form
  have K3 := hid (K2.out.trans k3)
  have hn3 := HB2.out.kept k3 (fun _ _ h => h)
  have hu3 := (b3.bs (Nat.le_refl _)).all
  have hl3 : (leB g).length + (leB c).length ≤ 140737488355328 := by simp [leB_length]
  have hz3 := K3.out.size
  clear b3 k3 hcell HB2 K2
  go_wp2_with (first | (refine wpList_append_bo rfl _ _ 29 rfl rtBytes rfl rfl hn3 hu3 hl3 hz3 ?_; intro a4 n4 c4 w4 hB4 hK4) | fail)
  have K4 := K3.out.then hK4 (fun q hq h => Nat.lt_irrefl _ (Nat.lt_of_lt_of_le hq (hn3.own q h).1))
  clear hn3 hu3 hl3 hz3 hK4
  go_wp2
  go_ret
  exact ⟨_, rfl, K4, hB4⟩
set_option maxRecDepth 100000 in
set_option maxHeartbeats 4000000 in
theorem body3 (s e : Int) (w : World) (he : 1 ≤ e ∧ e ≤ 1073741824) :
    Calls Try.prog 26 #[(⟨3, s, 0, 0, Req.none, 0, e⟩ : Rec).V] w fun e' w' => ∃ u, e' = .returned u ∧ Kept None w w' ∧ Ob w' w.heap.size u (leB e) := by
  have wg := u64_in (Int.le_trans (by decide) he.1) (Int.le_trans he.2 (by decide))
  have HN1 := hid (fun W => Bin.num e W (Int.le_trans (by decide) he.1) (Int.lt_of_le_of_lt he.2 (by decide)))
  clear he
  unfold Rec.V Rec.C
  have hb0 := hid (Blk.new w #[.int .i64 3, .int .i64 s, .int .i64 0, .int .i64 0, .string ⟨#[]⟩, .int .i64 0, .int .u64 0, .int .i64 0, .int .u64 0, .int .u64 0, .int .i64 0, .int .i64 e] 28)
  go_enter Try.func26, Try.ntmps26
  go_wp2_with fail
  refine (HN1.out _).mono ?_
  rintro e1 w1 ⟨v1, rfl, k1, b1⟩
  have K1 := hid (show Kept None w w1 from ((Kept.refl _ _).alloc _).trans k1)
  clear k1 HN1 hb0
  obtain ⟨a1, c1, rfl⟩ := b1.form
  have hu1 := (b1.bs (Nat.le_refl _)).all
  have hn1 : Ob w1 w.heap.size (.slice none 0 0) [] := Bo.nil _ _ _
  have hl1 : ([] : List UInt8).length + (leB e).length ≤ 140737488355328 := by simp [leB_length]
  have hz1 := K1.out.size
  clear b1
  go_wp2_with (first | (refine wpList_append_bo rfl _ _ 29 rfl rtBytes rfl rfl hn1 hu1 hl1 hz1 ?_; intro a2 n2 c2 w2 hB2 hK2) | fail)
  have K2 := K1.out.then hK2 (fun q hq h => Nat.lt_irrefl _ (Nat.lt_of_lt_of_le hq (hn1.own q h).1))
  rw [List.nil_append] at hB2
  clear hK2 hn1 hu1 hl1 hz1 K1
  go_wp2
  go_ret
  exact ⟨_, rfl, K2, hB2⟩
set_option maxRecDepth 100000 in
set_option maxHeartbeats 4000000 in
theorem body2 (s t : Int) (n : ByteArray) (v cl : Int) (k rr ss : Nat) (w : World) (hr : rightB n.size v k cl = true) (ht : 0 ≤ t ∧ t ≤ 1152921504606846976) (hrr : rr < 18446744073709551616) (hss : ss < 18446744073709551616) :
    Calls Try.prog 26 #[(⟨2, s, 0, 0, ⟨n, v, k, cl, rr, ss⟩, t, 0⟩ : Rec).V] w fun e' w' => ∃ u, e' = .returned u ∧ Kept None w w' ∧ Ob w' w.heap.size u (leB t ++ putB n v k cl rr ss) := by
  have wg := u64_in ht.1 ht.2
  have HN1 := hid (fun W => Bin.num t W ht.1 (Int.lt_of_le_of_lt ht.2 (by decide)))
  have HU := hid (fun W => Up.put n v cl k rr ss W hrr hss)
  have hul := reqB_len ⟨n, v, k, cl, rr, ss⟩ hr
  obtain ⟨UB, hUB⟩ : ∃ UB, UB = putB n v k cl rr ss := ⟨_, rfl⟩
  have e1 : putE n.size v k cl = 0 := by unfold putE; rw [if_pos hr]
  have e2 : putL n v k cl rr ss = UB := by unfold putL; rw [if_pos hr, hUB]
  have e3 : reqB ⟨n, v, k, cl, rr, ss⟩ = UB := hUB.symm
  rw [e1, e2] at HU
  rw [e3] at hul
  rw [← hUB]
  have HUL := hid hul
  clear ht hr hrr hss hul hUB e1 e2 e3
  unfold Rec.V Rec.C
  have hb0 := hid (Blk.new w #[.int .i64 2, .int .i64 s, .int .i64 0, .int .i64 0, .string n, .int .i64 v, .int .u64 (k : Int), .int .i64 cl, .int .u64 (rr : Int), .int .u64 (ss : Int), .int .i64 t, .int .i64 0] 28)
  go_enter Try.func26, Try.ntmps26
  go_wp2_with fail
  refine (HU.out _).mono ?_
  rintro e1 w0 ⟨v0, rfl, k0, b0⟩
  obtain ⟨a0, c0, rfl⟩ := b0.form
  have K0 := hid (show Kept None w w0 from ((Kept.refl _ _).alloc _).trans k0)
  have B0 := hid (hb0.out.kept k0 (fun h => h))
  have U0 := hid (b0.bs (Nat.le_refl _)).all
  have hcell : w0.cell? ⟨w.heap.size, 10, none⟩ = some (.int .i64 t) := B0.out.cell 10
  clear k0 b0 HU hb0
  go_wp2_with fail
  refine (HN1.out _).mono ?_
  rintro e1 w1 ⟨v1, rfl, k1, b1⟩
  have K1 := hid (K0.out.trans k1)
  have U1 := hid (U0.out.kept k1 (fun _ _ _ h => h))
  clear k1 HN1 B0 hcell
  obtain ⟨a1, c1, rfl⟩ := b1.form
  have hu1 := (b1.bs (Nat.le_refl _)).all
  have hn1 : Ob w1 w.heap.size (.slice none 0 0) [] := Bo.nil _ _ _
  have hl1 : ([] : List UInt8).length + (leB t).length ≤ 140737488355328 := by simp [leB_length]
  have hz1 := K1.out.size
  clear b1
  go_upto_region 9 with (first | (refine wpList_append_bo rfl _ _ 29 rfl rtBytes rfl rfl hn1 hu1 hl1 hz1 ?_; intro a2 n2 c2 w2 hB2 hK2) | fail)
  have K2 := hid (K1.out.then hK2 (fun q hq h => Nat.lt_irrefl _ (Nat.lt_of_lt_of_le hq (hn1.own q h).1)))
  rw [List.nil_append] at hB2
  obtain ⟨_, _, hf2⟩ := hB2.form
  obtain rfl : n2 = (leB t).length := by injection hf2
  have hu2 := U1.out.kept hK2 (fun _ _ _ h => nil_own h)
  have hl2 : (leB t).length + UB.length ≤ 140737488355328 := by have := HUL.out; rw [leB_length]; omega
  have hz2 := K2.out.size
  clear hK2 hf2 hn1 hu1 hl1 hz1 K1 U1
  go_wp2_with (first | (refine wpList_append_bo rfl _ _ 29 rfl rtBytes rfl rfl hB2 hu2 hl2 hz2 ?_; intro a4 n4 c4 w4 hB4 hK4) | fail)
  have K4 := K2.out.then hK4 (fun q hq h => Nat.lt_irrefl _ (Nat.lt_of_lt_of_le hq (hB2.own q h).1))
  clear hu2 hl2 hz2 hK4
  go_wp2
  go_ret
  exact ⟨_, rfl, K4, hB4⟩
set_option maxRecDepth 100000 in
set_option maxHeartbeats 4000000 in
theorem body (r : Rec) (w : World) (h : rightJ r = true) (hf : r.u.r < 18446744073709551616 ∧ r.u.s < 18446744073709551616) :
    Calls Try.prog 26 #[r.V] w fun e' w' => ∃ u, e' = .returned u ∧ Kept None w w' ∧ Ob w' w.heap.size u (bodyJ r) := by
  obtain ⟨kd, s, g, c, ⟨n, v, k, cl, rr, ss⟩, t, e⟩ := r
  rcases ((rightJ_iff _).1 h).2 with ⟨h1, h2⟩ | ⟨h1, h2⟩ | ⟨h1, h2⟩
  · simp only [Rec.mk.injEq] at h1
    obtain ⟨rfl, _, _, _, h3, rfl, rfl⟩ := h1
    rw [h3]
    exact body1 s g c w ⟨h2.1, h2.2.1⟩ h2.2.2
  · simp only [Rec.mk.injEq] at h1
    obtain ⟨rfl, _, rfl, rfl, _, _, rfl⟩ := h1
    exact body2 s t n v cl k rr ss w h2.1 h2.2 hf.1 hf.2
  · simp only [Rec.mk.injEq] at h1
    obtain ⟨rfl, _, rfl, rfl, h3, rfl, _⟩ := h1
    rw [h3]
    exact body3 s e w h2
set_option maxRecDepth 100000 in
set_option maxHeartbeats 4000000 in
theorem put : PutC := by
  intro r w hr
  have hf : r.u.r < 18446744073709551616 ∧ r.u.s < 18446744073709551616 := hr.2.2.2.2.1.2.2.2
  have HR := hid (fun W => right r W)
  by_cases h : rightJ r = true
  · have e1 : putJE r = 0 := by unfold putJE; rw [if_pos h]
    have e2 : putJL r = putF r.kind r.seq (bodyJ r) := by unfold putJL; rw [if_pos h]
    have hk := rightJ_kind h
    have hs := ((rightJ_iff _).1 h).1
    have hl := bodyJ_len h
    have HB := hid (fun W => body r W h hf)
    obtain ⟨BD, hBD⟩ : ∃ BD, BD = bodyJ r := ⟨_, rfl⟩
    rw [← hBD] at HB e2 hl
    obtain ⟨A, hA⟩ : ∃ A, A = r.C := ⟨_, rfl⟩
    have hz : A.size = 12 := by rw [hA]; rfl
    obtain ⟨kd, hkd⟩ : ∃ kd, kd = r.kind := ⟨_, rfl⟩
    obtain ⟨s, hsq⟩ : ∃ s, s = r.seq := ⟨_, rfl⟩
    have g0 : A[0]? = some (.int .i64 kd) := by rw [hA, hkd]; rfl
    have g1 : A[1]? = some (.int .i64 s) := by rw [hA, hsq]; rfl
    rw [← hkd, ← hsq] at e2
    rw [← hkd] at hk
    rw [← hsq] at hs
    obtain ⟨PJ, hPJ⟩ : ∃ PJ, PJ = putF kd s BD := ⟨_, rfl⟩
    rw [← hPJ] at e2
    rw [e1, e2]
    have HF := hid (fun v lo hi W (hv : Bs W lo hi v BD) => show Calls Try.prog 25 #[.int .i64 kd, .int .i64 s, v] W fun e w' => ∃ u, e = .returned (.tuple #[u, .int .i64 0]) ∧ Kept None W w' ∧ Ob w' W.heap.size u PJ from by
      obtain ⟨f1, f2⟩ := Fm.putFL_ok (k := kd) (s := s) (b := BD) hk.1 (by omega) hs.1 (by omega)
      have hp := Fm.put kd s v lo hi BD W hv (by omega) (by omega) (by omega) (by omega) (by omega)
      rw [f1, f2, ← hPJ] at hp
      exact hp)
    unfold Rec.V at HR HB ⊢
    rw [h, ← hA] at HR
    rw [← hA] at HB ⊢
    have aA : AggTy Try.prog 28 A.size := by rw [hz]; exact aRec
    have hb0 := hid (Blk.new w A 28)
    clear h e1 e2 hk hs hl hBD hA hz hkd hsq hPJ hf hr
    go_enter Try.func11, Try.ntmps11
    go_wp2_with (first | (refine wpList_load_blk rfl _ _ rfl rfl (Blk.new w A 28) aA ?_) | fail)
    refine (HR.out _).mono ?_
    rintro e1 w1 ⟨rfl, k1⟩
    have K1 := hid (show Kept None w w1 from ((Kept.refl _ _).alloc _).trans k1)
    have B1 := hid (hb0.out.kept k1 (fun h => h))
    have HBK := hid (fun W (hW : Kept None w1 W) => B1.out.kept hW (fun h => h))
    have HCS := hid (fun W (hW : Kept None w1 W) => show W.cell? ⟨w.heap.size, 0, none⟩ = some (.int .i64 kd) ∧ W.cell? ⟨w.heap.size, 1, none⟩ = some (.int .i64 s) from by
      rw [(HBK.out W hW).cell 0, (HBK.out W hW).cell 1]; exact ⟨g0, g1⟩)
    clear k1 HR hb0 g0 g1
    go_wp2_with fail
    have hs : Steady [.own 5 5 (w.heap.size) BD, .putO 5 6 (w.heap.size) PJ 0 [5]] := Go.Pm.Steady.own (Go.Pm.Steady.putO (Go.Pm.Steady.nil))
    refine wp_region_kn w1 _ hs (Kept.refl _ _) (by kernel_rfl) (by kernel_rfl) (by kernel_rfl) ?_
    iterate 1 (refine wpPar_pure rfl (by rfl) _ (fun W hW => by
        have hc0 := (HCS.out W hW).1
        have hc1 := (HCS.out W hW).2
        go_simp
        exact rfl) ?_; simp only [Act.put, List.setIfInBounds_toArray, List.set_cons_zero, List.set_cons_succ])
    refine wpPar_pure rfl (by rfl) _ (fun W hW => by first | exact exec_load_blk _ _ rfl rfl (HBK.out W hW) aA | (have hc0 := (HCS.out W hW).1; have hc1 := (HCS.out W hW).2; go_simp; exact rfl)) ?_; simp only [Act.put, List.setIfInBounds_toArray, List.set_cons_zero, List.set_cons_succ]
    iterate 1 (refine wpPar_pure rfl (by rfl) _ (fun W hW => by
        have hc0 := (HCS.out W hW).1
        have hc1 := (HCS.out W hW).2
        go_simp
        exact rfl) ?_; simp only [Act.put, List.setIfInBounds_toArray, List.set_cons_zero, List.set_cons_succ])
    refine wpPar_pure rfl (by rfl) _ (fun W hW => by first | exact exec_load_blk _ _ rfl rfl (HBK.out W hW) aA | (have hc0 := (HCS.out W hW).1; have hc1 := (HCS.out W hW).2; go_simp; exact rfl)) ?_; simp only [Act.put, List.setIfInBounds_toArray, List.set_cons_zero, List.set_cons_succ]
    refine wpPar_pure rfl (by rfl) _ (fun W hW => by first | exact exec_load_blk _ _ rfl rfl (HBK.out W hW) aA | (have hc0 := (HCS.out W hW).1; have hc1 := (HCS.out W hW).2; go_simp; exact rfl)) ?_; simp only [Act.put, List.setIfInBounds_toArray, List.set_cons_zero, List.set_cons_succ]
    refine wpKn_adds hs rfl (by rfl) (fun W hW hd => ?_) (fun v5 hv => ?_)
    · unfold Gives
      go_simp
      refine gives_call (HB.out W) ?_
      rintro e w3 ⟨u, rfl, k3, b3⟩
      exact ⟨_, rfl, k3, b3.form, b3.base (Nat.le_trans K1.out.size hW.size)⟩
      
    obtain ⟨a5, c5, rfl⟩ : ∃ a c, v5 = .slice a BD.length c := hv
    simp only [Act.put, List.setIfInBounds_toArray, List.set_cons_zero, List.set_cons_succ]
    refine wpKn_adds hs rfl (by rfl) (fun W hW hd => ?_) (fun v6 hv => ?_)
    · unfold Gives
      have hb : Ob W w.heap.size (.slice a5 BD.length c5) BD := hd 5 (List.Mem.head _)
      go_simp
      refine gives_call (HF.out _ _ _ _ (hb.bs (Nat.le_refl _))) ?_
      rintro e w3 ⟨u, rfl, k3, b3⟩
      obtain ⟨a, c, rfl⟩ := b3.form
      exact ⟨_, rfl, k3, ⟨a, c, rfl⟩, a, c, rfl, b3.base (Nat.le_trans K1.out.size hW.size)⟩
      
    obtain ⟨a6, c6, rfl⟩ : ∃ a c, v6 = .tuple #[.slice a PJ.length c, .int .i64 0] := hv
    simp only [Act.put, List.setIfInBounds_toArray, List.set_cons_zero, List.set_cons_succ]
    iterate 4 (refine wpPar_pure rfl (by rfl) _ (fun W hW => by
        have hc0 := (HCS.out W hW).1
        have hc1 := (HCS.out W hW).2
        go_simp
        exact rfl) ?_; simp only [Act.put, List.setIfInBounds_toArray, List.set_cons_zero, List.set_cons_succ])
    refine wpPar_nil (fun W hW hG => ?_)
    obtain ⟨a, c, he, hb⟩ : ∃ a c, Value.tuple #[.slice a6 PJ.length c6, .int .i64 0] = .tuple #[.slice a PJ.length c, .int .i64 0] ∧ Ob W w.heap.size (.slice a PJ.length c) PJ := hG 6
    obtain ⟨rfl, rfl⟩ : a6 = a ∧ c6 = c := by simpa using he
    have kk := K1.out.trans (show Kept None w1 W from hW)
    clear hG hs hW he
    go_wp2
    go_ret2
    exact ⟨_, rfl, kk, hb⟩
  · have h : rightJ r = false := by simpa using h
    have e1 : putJE r = 23 := by unfold putJE; rw [h]; rfl
    have e2 : putJL r = [] := by unfold putJL; rw [h]; rfl
    rw [e1, e2]
    obtain ⟨A, hA⟩ : ∃ A, A = r.C := ⟨_, rfl⟩
    have hz : A.size = 12 := by rw [hA]; rfl
    unfold Rec.V at HR ⊢
    rw [h, ← hA] at HR
    rw [← hA]
    have aA : AggTy Try.prog 28 A.size := by rw [hz]; exact aRec
    clear h e1 e2 hf hr hA hz
    go_enter Try.func11, Try.ntmps11
    go_wp2_with (first | (refine wpList_load_blk rfl _ _ rfl rfl (Blk.new w A 28) aA ?_) | fail)
    refine (HR.out _).mono ?_
    rintro e1 w1 ⟨rfl, k1⟩
    have kk : Kept None w w1 := ((Kept.refl _ _).alloc _).trans k1
    clear k1
    go_wp2
    go_ret2
    exact ⟨_, rfl, kk, Bo.nil _ _ _⟩
end Jr
end Go.Proofs.Ytpbkdeljhehkdaa
namespace Go.Proofs.Ytpbkdeljhehkdaa
open Go.RowKit Go.Pm
namespace Fm
set_option maxHeartbeats 1000000 in
/-- bytes.Equal. -/
theorem eqB (a b : List UInt8) (v u : Value) (lo hi lo' hi' : Nat) (w : World) (hv : Bs w lo hi v a) (hu : Bs w lo' hi' u b) : Calls Try.prog 35 #[v, u] w fun e w' => e = .returned (.bool (a == b)) ∧ Kept None w w' := by
  have c1 := cvBytes hv
  have c2 := cvBytes hu
  go_enter Try.func35, Try.ntmps35
  go_wp2
  go_ret
  exact ⟨rfl, Kept.refl _ _⟩
set_option maxRecDepth 100000 in
set_option maxHeartbeats 2000000 in
/-- frame.number. -/
theorem number (v : Value) (lo hi : Nat) (l : List UInt8) (w : World) (hv : Bs w lo hi v l) (hl : l.length ≤ 8) :
    Calls Try.prog 74 #[v] w fun e w' => e = .returned (.int .u64 (leV (l ++ List.replicate (8 - l.length) 0))) ∧ Kept None w w' := by
  obtain ⟨av, cv, rfl, _⟩ := hv.shape
  obtain ⟨N, hN⟩ : ∃ N, N = 8 - l.length := ⟨_, rfl⟩
  have r1 : (8 : Int) - (l.length : Int) = (N : Int) := by omega
  rw [← hN]
  obtain ⟨i0, hi0, hz0, hz1, hz2⟩ := info_parts infoByte
  have hmk : ∀ W, (Instr.makeSlice 29 (.int .i64 (N : Int)) (.int .i64 (N : Int))).run Try.prog W = .ok (.slice (some ⟨W.heap.size, 0, none⟩) N N) (W.alloc (.cells (madeCells (Value.cells (.int .u8 0)) N) 5)) := fun W => by
    have := run_makeSlice (P := Try.prog) W 29 5 i0 (.int .u8 0) tBytes' hi0 hz0 .i64 .i64 (N : Int) (N : Int) (by omega) (Int.le_refl _) (by rw [hz1]; omega) (by rw [hz2]; omega) (by omega)
    rw [show ((N : Int)).toNat = N by omega, hz1, Nat.mul_one] at this
    exact this
  have hbs : ∀ W : World, Bs (W.alloc (.cells (madeCells (Value.cells (.int .u8 0)) N) 5)) W.heap.size (W.heap.size + 1) (.slice (some ⟨W.heap.size, 0, none⟩) N N) (List.replicate N 0) := fun W => Bs.newMark W _ 5 (0, 0) N (by simp [madeCells]) (by omega) (List.replicate N 0) (by rw [List.map_replicate]; exact toList_madeCells_one _ _)
  obtain ⟨C, hC⟩ : ∃ C, C = madeCells (Value.cells (.int .u8 0)) N := ⟨_, rfl⟩
  simp only [← hC] at hmk hbs
  have HBS := hid hbs
  have HV := hid hv
  obtain ⟨L, hL⟩ : ∃ L, L = l ++ List.replicate N 0 := ⟨_, rfl⟩
  have hL8 : L.length = 8 := by rw [hL, List.length_append, List.length_replicate]; omega
  have hJ : [l, List.replicate N 0].flatten = L := by rw [hL]; simp
  have HJ := hid (fun W v lo hi lo' hi' h => Bin.join v lo hi lo' hi' [l, List.replicate N 0] W h (by unfold total; rw [hJ, hL8]; decide))
  rw [hJ] at HJ
  rw [← hL]
  have HN := hid (fun W v lo hi h => Bin.new v lo hi L W h (by rw [hL8]; decide))
  have HR := hid (fun W r lo h => Bin.rnum r lo r ⟨L, 0⟩ W h (Nat.le_refl _))
  have hnum : (St.mk L 0).num = leV L := if_pos ⟨rfl, by show 8 ≤ L.length; rw [hL8]; exact Nat.le_refl _⟩
  rw [hnum] at HR
  clear hi0 hz0 hz1 hz2 hC hv hN hL hL8 hJ hnum hbs hl
  go_enter Try.func74, Try.ntmps74
  go_wp2_with fail
  have hbs := Bss.new (w.alloc (.cells C 5)) #[.slice av l.length cv, .slice (some ⟨w.heap.size, 0, none⟩) N N] 29 [l, List.replicate N 0] 2 rfl (by decide) ⟨(HV.out.kept ((Kept.refl None w).alloc _) (fun _ _ _ h => h)).all, (HBS.out w).all, trivial⟩
  rw [show (w.alloc (.cells C 5)).heap.size = w.heap.size + 1 by simp] at hbs
  have HB := hid hbs
  have K2 := hid (show Kept None w ((w.alloc (.cells C 5)).alloc (.cells #[.slice av l.length cv, .slice (some ⟨w.heap.size, 0, none⟩) N N] 29)) from ((Kept.refl None w).alloc _).alloc _)
  clear hbs hmk
  refine (HJ.out _ _ _ _ _ _ HB.out).mono ?_
  rintro e w3 ⟨v3, rfl, k3, b3⟩
  have K3 := hid (K2.out.trans k3)
  have B3 := hid (b3.bs (Nat.le_refl _))
  clear k3 b3
  go_wp2_with fail
  refine (HN.out _ _ _ _ B3.out).mono ?_
  rintro e w4 ⟨r, rfl, k4, hr, hR⟩
  have K4 := hid (K3.out.trans k4)
  have H4 := hid (And.intro hr hR)
  have hz3 := hid K3.out.size
  clear k4 hr hR
  go_wp2_with fail
  refine (HR.out _ _ _ H4.out.2).mono ?_
  rintro e w5 ⟨rfl, k5, _⟩
  have kk := K4.out.then k5 (fun i hi e => by have e : i = r := e; have := H4.out.1; have := hz3.out; omega)
  clear k5
  go_wp2
  go_ret
  exact ⟨rfl, kk⟩
theorem leV_four (l : List UInt8) (h : 4 ≤ l.length) : leV (l.take 4 ++ List.replicate 4 0) = le4V l := by
  match l, h with
  | a :: b :: c :: d :: r, _ =>
    show leV ([a, b, c, d] ++ [0, 0, 0, 0]) = _
    unfold leV le4V
    simp [bAt]
theorem leV_eight (l r : List UInt8) (h : 8 ≤ l.length) : leV (l.take 8 ++ r) = leV l := by
  have e : leV (l.take 8 ++ r) = leV ((l.take 8 ++ r).take 8) := (leV_take _).symm
  rw [e, List.take_left' (by simp; omega)]
  exact leV_take l
set_option maxRecDepth 100000 in
set_option maxHeartbeats 4000000 in
/-- frame.ahead: of 13 bytes. -/
theorem ahead (v : Value) (lo hi : Nat) (l : List UInt8) (w : World) (hv : Bs w lo hi v l) (hl : l.length = 13) (M K S : Nat) (eM : le4V l = (M : Int)) (eK : bAt l 4 = (K : Int)) (eS : leV (l.drop 5) = (S : Int)) :
    Calls Try.prog 53 #[v] w fun e w' => e = .returned (.tuple #[.int .u64 (M : Int), .int .u8 (K : Int), .int .u64 (S : Int)]) ∧ Kept None w w' := by
  obtain ⟨av, cv, rfl, _⟩ := hv.shape
  obtain ⟨bb, o, rfl, q1, q2, q3, hcell⟩ := hv.ne (by omega)
  have HC := hid (fun W (hW : Kept None w W) => show W.cell? ⟨bb, o + 4, none⟩ = some (.int .u8 (K : Int)) from ((hW.cell (p := ⟨bb, o + 4, none⟩) q3 (fun h => h)).trans (hcell 4 (by omega))).trans (by rw [eK]))
  obtain ⟨x1, sl1, p1⟩ := slice_to tBytes zBytes hv .i64 4 (by decide) (by omega)
  obtain ⟨x2, sl2, p2⟩ := slice_from tBytes zBytes hv .i64 5 (by decide) (by omega)
  simp only [show (4 : Int).toNat = 4 from rfl, show (5 : Int).toNat = 5 from rfl] at sl1 sl2 p1 p2
  rw [← List.map_take] at p1
  rw [← List.map_drop] at p2
  have e8 : l.length - 5 = 8 := by omega
  rw [e8] at sl2 p2
  rw [hl] at sl1 sl2
  have hc1 : (l.take 4).length = 4 := by simp; omega
  have hc2 : (l.drop 5).length = 8 := by simp; omega
  have HN1 := hid (fun W (hW : Kept None w W) => show Calls Try.prog 74 #[.slice x1 4 cv] W fun e w' => e = .returned (.int .u64 (M : Int)) ∧ Kept None W w' from by
    have h := number (.slice x1 4 cv) lo hi (l.take 4) W (Bs.kept p1 hW (fun _ _ _ h => h)) (by omega)
    rw [hc1, show 8 - 4 = 4 from rfl, leV_four l (by omega), eM] at h
    exact h)
  have HN2 := hid (fun W (hW : Kept None w W) => show Calls Try.prog 74 #[.slice x2 8 (cv - 5)] W fun e w' => e = .returned (.int .u64 (S : Int)) ∧ Kept None W w' from by
    have h := number (.slice x2 8 (cv - 5)) lo hi (l.drop 5) W (Bs.kept p2 hW (fun _ _ _ h => h)) (by omega)
    rw [hc2, show 8 - 8 = 0 from rfl, List.replicate_zero, List.append_nil, eS] at h
    exact h)
  have i4 : (4 : Int) < (l.length : Int) := by omega
  rw [hl] at i4
  clear hv hcell q1 q2 q3 p1 p2 e8 hc1 hc2 eM eK eS
  rw [hl]
  go_enter Try.func53, Try.ntmps53
  go_wp2_with fail
  have hs : Steady [.val 2 (.int .u64 (M : Int)), .val 8 (.int .u64 (S : Int))] := Go.Pm.Steady.val (Go.Pm.Steady.val Go.Pm.Steady.nil)
  refine wp_region_kn w _ hs (Kept.refl _ _) (by kernel_rfl) (by kernel_rfl) (by kernel_rfl) ?_
  iterate 2 (refine wpPar_pure rfl (by rfl) _ (fun W hW => by
      have hc1 := HC.out W hW
      go_simp
      exact rfl) ?_; simp only [Act.put, List.setIfInBounds_toArray, List.set_cons_zero, List.set_cons_succ])
  refine wpKn_adds hs rfl (by rfl) (fun W hW hd => ?_) (fun v7 hv => ?_)
  · unfold Gives
    go_simp
    refine gives_call (HN1.out W hW) ?_
    rintro e w3 ⟨rfl, k3⟩
    exact ⟨_, rfl, k3, rfl, trivial⟩
  obtain rfl : v7 = .int .u64 (M : Int) := hv
  simp only [Act.put, List.setIfInBounds_toArray, List.set_cons_zero, List.set_cons_succ]
  iterate 5 (refine wpPar_pure rfl (by rfl) _ (fun W hW => by
      have hc1 := HC.out W hW
      go_simp
      exact rfl) ?_; simp only [Act.put, List.setIfInBounds_toArray, List.set_cons_zero, List.set_cons_succ])
  refine wpKn_adds hs rfl (by rfl) (fun W hW hd => ?_) (fun v13 hv => ?_)
  · unfold Gives
    go_simp
    refine gives_call (HN2.out W hW) ?_
    rintro e w3 ⟨rfl, k3⟩
    exact ⟨_, rfl, k3, rfl, trivial⟩
  obtain rfl : v13 = .int .u64 (S : Int) := hv
  simp only [Act.put, List.setIfInBounds_toArray, List.set_cons_zero, List.set_cons_succ]
  iterate 3 (refine wpPar_pure rfl (by rfl) _ (fun W hW => by
      have hc1 := HC.out W hW
      go_simp
      exact rfl) ?_; simp only [Act.put, List.setIfInBounds_toArray, List.set_cons_zero, List.set_cons_succ])
  refine wpPar_nil (fun W hW hG => ?_)
  have hk : Kept None w W := hW
  clear hG hs hW sl1 sl2
  go_wp2
  go_ret3
  exact ⟨rfl, hk⟩
end Fm
end Go.Proofs.Ytpbkdeljhehkdaa
namespace Go.Proofs.Ytpbkdeljhehkdaa
open Go.RowKit Go.Pm
namespace Fm
theorem le4V_take (b : List UInt8) : le4V (b.take 13) = le4V b := by unfold le4V; simp [bAt_take]
set_option maxRecDepth 100000 in
set_option maxHeartbeats 8000000 in
theorem read : ReadC := by
  intro v lo hi b w hv hl
  obtain ⟨av, cv, rfl, g1, g2, g3⟩ := hv.shape
  by_cases h13 : b.length < 13
  · have er : readF b = ⟨0, 0, [], 0, 21⟩ := by unfold readF; rw [if_pos h13]
    rw [er]
    have d1 : decide ((b.length : Int) < 13) = true := by simp; omega
    have d2 : decide (b.length < 13) = true := by simpa using h13
    clear er hv h13 g3
    go_enter Try.func33, Try.ntmps33
    go_wp2
    (try simp only [Exit.inBlock, Exit.then])
    refine bodyPost_ret (results_tmp5 rfl _ _ _) rfl ?_
    exact ⟨.slice none 0 0, rfl, Kept.refl _ _, Bs.nil _ _ _⟩
  · have d1 : decide ((b.length : Int) < 13) = false := by simp; omega
    have d2 : decide (b.length < 13) = false := by simp; omega
    obtain ⟨M, hM⟩ : ∃ M : Nat, M = (le4V b).toNat := ⟨_, rfl⟩
    obtain ⟨K, hK⟩ : ∃ K : Nat, K = (b.getD 4 0).toNat := ⟨_, rfl⟩
    obtain ⟨S, hS⟩ : ∃ S : Nat, S = (leV (b.drop 5)).toNat := ⟨_, rfl⟩
    have eM : le4V b = (M : Int) := by rw [hM, Int.toNat_of_nonneg (le4V_ge b)]
    have eK : bAt b 4 = (K : Int) := by rw [hK]; rfl
    have eS : leV (b.drop 5) = (S : Int) := by rw [hS, Int.toNat_of_nonneg (leV_ge _)]
    have HMM := hid (And.intro eM (And.intro eK eS))
    have HKB := hid (show K < 256 by have := bAt_lt b 4; omega)
    have HKw := hid (wrapI (K : Int) (by omega) (by have := HKB.out; omega))
    clear g2 g3
    obtain ⟨x13, sl13, p13⟩ := slice_to tBytes zBytes hv .i64 13 (by decide) (by omega)
    simp only [show (13 : Int).toNat = 13 from rfl] at sl13 p13
    rw [← List.map_take] at p13
    have ht13 : (b.take 13).length = 13 := by simp; omega
    have HA := hid (ahead (.slice x13 13 cv) lo hi (b.take 13) w p13 ht13 M K S (by rw [le4V_take, eM]) (by rw [← eK]; simp [bAt_take]) (by rw [List.drop_take, leV_take, eS]))
    have HV := hid hv
    have HL := hid (And.intro hl h13)
    clear hv hl h13 hM hK hS eM eK eS p13 ht13
    go_enter Try.func33, Try.ntmps33
    go_wp2_with fail
    refine (HA.out).mono ?_
    rintro e W2 ⟨rfl, k2⟩
    have kW2 := hid k2
    clear k2 sl13
    by_cases h1 : 4096 < M
    · have ER := hid (readF_bad HL.out.2 HMM.out (.inl h1))
      have c1 : decide ((4096 : Int) < (M : Int)) = true := by simp; omega
      have c1' : decide (4096 < M) = true := by simp; omega
      clear h1
      go_wp2
      (try simp only [Exit.inBlock, Exit.then])
      refine bodyPost_ret (results_tmp5 rfl _ _ _) rfl ?_
      rw [ER.out]
      exact ⟨.slice none 0 0, rfl, kW2.out, Bs.nil _ _ _⟩
    by_cases h2 : K = 0
    · have ER := hid (readF_bad HL.out.2 HMM.out (.inr (.inl h2)))
      subst h2
      have c1 : decide ((4096 : Int) < (M : Int)) = false := by simp; omega
      have c1' : decide (4096 < M) = false := by simp; omega
      clear h1
      go_wp2
      (try simp only [Exit.inBlock, Exit.then])
      refine bodyPost_ret (results_tmp5 rfl _ _ _) rfl ?_
      rw [ER.out]
      exact ⟨.slice none 0 0, rfl, kW2.out, Bs.nil _ _ _⟩
    by_cases h3 : 9223372036854775807 < S
    · have ER := hid (readF_bad HL.out.2 HMM.out (.inr (.inr h3)))
      have c1 : decide ((4096 : Int) < (M : Int)) = false := by simp; omega
      have c1' : decide (4096 < M) = false := by simp; omega
      have c2 : ((K : Int) == 0) = false := by simp; omega
      have c2' : ¬ K = 0 := h2
      have c3 := (lt_lit h3).1
      have c3' := (lt_lit h3).2
      clear h1 h2 h3
      go_wp2
      (try simp only [Exit.inBlock, Exit.then])
      refine bodyPost_ret (results_tmp5 rfl _ _ _) rfl ?_
      rw [ER.out]
      exact ⟨.slice none 0 0, rfl, kW2.out, Bs.nil _ _ _⟩
    have HN := hid (show ¬ (4096 < M ∨ K = 0 ∨ 9223372036854775807 < S) from fun h => h.elim h1 (fun h => h.elim h2 h3))
    have c1 : decide ((4096 : Int) < (M : Int)) = false := by simp; omega
    have c1' : decide (4096 < M) = false := by simp; omega
    have c2 : ((K : Int) == 0) = false := by simp; omega
    have c2' : ¬ K = 0 := h2
    have c3 := (le_lit h3).1
    have c3' := (le_lit h3).2
    obtain ⟨P, hP⟩ : ∃ P, P = 13 + M := ⟨_, rfl⟩
    obtain ⟨Q, hQ⟩ : ∃ Q, Q = 21 + M := ⟨_, rfl⟩
    have HP := hid (sums13 (Nat.le_of_not_lt h1) hP hQ)
    have HMS := hid (And.intro (Nat.le_of_not_lt h1) (Nat.le_of_not_lt h3))
    have HPQ := hid (And.intro hP hQ)
    have cM : IntKind.i64.wrap (M : Int) = (M : Int) := wrapI _ (by omega) (by omega)
    have cM' : wrap64 (M : Int) = (M : Int) := wrapIn _ (by omega) (by omega)
    clear hP hQ h1 h2 h3
    by_cases h4 : b.length < Q
    · have ER := hid (readF_short HL.out.2 HMM.out HN.out (by rw [← HPQ.out.2]; exact h4))
      have c4 : decide ((b.length : Int) < (Q : Int)) = true := by simp; omega
      have c4' : decide (b.length < Q) = true := by simpa using h4
      clear h4
      obtain ⟨p1, p2, _⟩ := HP.out.1
      go_wp2
      (try simp only [Exit.inBlock, Exit.then])
      refine bodyPost_ret (results_tmp5 rfl _ _ _) rfl ?_
      rw [ER.out]
      exact ⟨.slice none 0 0, rfl, kW2.out, Bs.nil _ _ _⟩
    · have c4 : decide ((b.length : Int) < (Q : Int)) = false := by simp; omega
      have c4' : decide (b.length < Q) = false := by simp; omega
      have HQL := hid h4
      clear h4
      obtain ⟨p1, p2, p3⟩ := HP.out.1
      obtain ⟨a6, hsl6, hv6⟩ := slice_mid tBytes zBytes HV.out .i64 .i64 (13 : Int) (P : Int) (by decide) (by have := HPQ.out.1; omega) (by have := HPQ.out; have := HQL.out; omega)
      obtain ⟨a7, hsl7, hv7⟩ := slice_mid tBytes zBytes HV.out .i64 .i64 (P : Int) (Q : Int) (by omega) (by have := HPQ.out; omega) (by have := HQL.out; omega)
      simp only [Int.toNat_natCast, show (13 : Int).toNat = 13 from rfl] at hsl6 hv6 hsl7 hv7
      rw [show P - 13 = M by have := HPQ.out.1; omega] at hsl6 hv6
      rw [show Q - P = 8 by have := HPQ.out; omega] at hsl7 hv7
      obtain ⟨BD, hBD⟩ : ∃ BD, BD = (b.drop 13).take M := ⟨_, rfl⟩
      have HBD := hid hBD
      have HV6 := hid (show Bs w lo hi (.slice a6 M (cv - 13)) BD by
        unfold Bs
        rw [hBD, show (b.drop 13).take M = (b.take P).drop 13 by rw [List.drop_take]; congr 1; have := HPQ.out.1; omega, List.map_drop, List.map_take]
        exact hv6)
      have HV7 := hid (show Bs w lo hi (.slice a7 8 (cv - P)) ((b.drop P).take 8) by
        unfold Bs
        rw [show (b.drop P).take 8 = (b.take Q).drop P by rw [List.drop_take]; congr 1; have := HPQ.out; omega, List.map_drop, List.map_take]
        exact hv7)
      obtain ⟨MK, hMK⟩ : ∃ MK, MK = markF (K : Int) (S : Int) BD := ⟨_, rfl⟩
      have HMK := hid hMK.symm
      have HML := hid (show MK.length = 8 by rw [hMK]; simp [markF, sumB_len])
      have HS1 := hid (wrapI (S : Int) (by omega) (Int.lt_of_le_of_lt (Int.ofNat_le.2 HMS.out.2) (by decide)))
      have hBDl : BD.length ≤ 1099511627000 := by rw [hBD, List.length_take]; have := HMS.out.1; omega
      have HMC := hid (fun W (hW : Kept None w W) => (by
        have h := sum (K : Int) (S : Int) (.slice a6 M (cv - 13)) lo hi BD W (HV6.out.kept hW (fun _ _ _ h => h)) (by omega) (by have := HKB.out; omega) (by omega) (Int.lt_of_le_of_lt (Int.ofNat_le.2 HMS.out.2) (by decide)) hBDl
        rw [← hMK] at h
        exact h))
      have HCl := hid (fun W (hW : Kept None w W) => Bin.clone (.slice a6 M (cv - 13)) lo hi BD W (HV6.out.kept hW (fun _ _ _ h => h)) (Nat.le_trans hBDl (by decide)))
      obtain ⟨X, hX⟩ : ∃ X, X = (b.drop P).take 8 := ⟨_, rfl⟩
      rw [← hX] at HV7
      obtain ⟨q, hq⟩ : ∃ q, q = (X == MK) := ⟨_, rfl⟩
      have HEQ := hid (fun W u lo' hi' (hW : Kept None w W) (hu : Bs W lo' hi' u MK) => by
        have h := eqB X MK (.slice a7 8 (cv - P)) u lo hi lo' hi' W (HV7.out.kept hW (fun _ _ _ h => h)) hu
        rw [← hq] at h
        exact h)
      have HX := hid (And.intro hX hq)
      clear hv6 hv7 hBD hMK hBDl hX hq
      go_wp2_with fail
      clear p1 p2 p3 c1 c1' c2 c2' c3 c3' c4 c4' d1 d2 cM cM'
      have hs : Steady [.bytes 7 MK, .val 8 (.bool q) [7]] := Go.Pm.Steady.bytes (Go.Pm.Steady.val (Go.Pm.Steady.nil))
      refine wp_region_kn W2 _ hs (Kept.refl _ _) (by kernel_rfl) (by kernel_rfl) (by kernel_rfl) ?_
      iterate 7 (refine wpPar_pure rfl (by rfl) _ (fun W hW => by
          have p1 := HP.out.1.1
          have p2 := HP.out.1.2.1
          go_simp
          exact rfl) ?_; simp only [Act.put, List.setIfInBounds_toArray, List.set_cons_zero, List.set_cons_succ])
      refine wpKn_adds hs rfl (by rfl) (fun W hW hd => ?_) (fun v52 hv => ?_)
      · unfold Gives
        go_simp
        refine gives_call (HMC.out _ (kW2.out.trans hW)) ?_
        rintro e w3 ⟨a, c, rfl, k3, b3⟩
        exact ⟨_, rfl, k3, ⟨_, _, by rw [HML.out]⟩, _, _, b3⟩
      obtain ⟨a8, c8, rfl⟩ : ∃ a c, v52 = .slice a (MK).length c := hv
      simp only [Act.put, List.setIfInBounds_toArray, List.set_cons_zero, List.set_cons_succ]
      refine wpKn_adds hs rfl (by rfl) (fun W hW hd => ?_) (fun v53 hv => ?_)
      · unfold Gives
        obtain ⟨lo', hi', hb⟩ : ∃ lo hi, Bs W lo hi (.slice a8 (MK).length c8) (MK) := hd 7 (List.Mem.head _)
        go_simp
        refine gives_call (HEQ.out W _ lo' hi' (kW2.out.trans hW) hb) ?_
        rintro e w3 ⟨rfl, k3⟩
        exact ⟨_, rfl, k3, rfl, trivial⟩
      obtain rfl : v53 = .bool q := hv
      simp only [Act.put, List.setIfInBounds_toArray, List.set_cons_zero, List.set_cons_succ]
      iterate 1 (refine wpPar_pure rfl (by rfl) _ (fun W hW => by
          have p1 := HP.out.1.1
          have p2 := HP.out.1.2.1
          go_simp
          exact rfl) ?_; simp only [Act.put, List.setIfInBounds_toArray, List.set_cons_zero, List.set_cons_succ])
      refine wpPar_nil (fun W3 hW3 hG => ?_)
      have k3 := kW2.out.trans hW3
      clear hG hs hW3
      have K3 := hid k3
      clear k3
      cases q with
      | true =>
        have hm : MK = X := (eq_of_beq HX.out.2.symm).symm
        have ER := hid (readF_ok HL.out.2 HMM.out HN.out (by rw [← HPQ.out.2]; exact HQL.out) (by rw [← HPQ.out.1, ← HX.out.1, ← HBD.out, ← hm]; exact HMK.out))
        clear hm
        have cs1 := HS1.out
        have ck := HKw.out
        have p1 := HP.out.1.1
        have p2 := HP.out.1.2.1
        go_wp2_with fail
        refine (HCl.out _ K3.out).mono ?_
        rintro e w4 ⟨u4, rfl, k4, b4⟩
        have kk := K3.out.trans k4
        have hb := (b4.bs (Nat.le_refl _)).all
        clear b4 k4
        go_wp2
        (try simp only [Exit.inBlock, Exit.then])
        refine bodyPost_ret (results_tmp5 rfl _ _ _) rfl ?_
        rw [ER.out]
        refine ⟨u4, ?_, kk, by rw [← HBD.out]; exact hb⟩
        rw [← HPQ.out.2]
        rfl
      | false =>
        have hm : ¬ MK = X := fun h => by have := HX.out.2; rw [h] at this; simp at this
        have ER := hid (readF_sum HL.out.2 HMM.out HN.out (by rw [← HPQ.out.2]; exact HQL.out) (by rw [← HPQ.out.1, ← HX.out.1, ← HBD.out, HMK.out]; exact hm))
        clear hm
        go_wp2
        (try simp only [Exit.inBlock, Exit.then])
        refine bodyPost_ret (results_tmp5 rfl _ _ _) rfl ?_
        rw [ER.out]
        exact ⟨.slice none 0 0, rfl, K3.out, Bs.nil _ _ _⟩
end Fm
end Go.Proofs.Ytpbkdeljhehkdaa
namespace Go.Proofs.Ytpbkdeljhehkdaa
open Go.RowKit Go.Pm
namespace Jr
set_option maxRecDepth 100000 in
set_option maxHeartbeats 8000000 in
theorem read : ReadC := by
  intro vv lo hi b w hv0 hl
  have hv := hv0.all
  clear hv0
  obtain ⟨av, cv, rfl, _⟩ := hv.shape
  have hR := fun W (h : Bs W 0 w.heap.size (.slice av b.length cv) b) => Fm.read _ _ _ b W h hl
  obtain ⟨K, S, L, m, E, hF⟩ : ∃ K S L m E, readF b = ⟨K, S, L, m, E⟩ := ⟨_, _, _, _, _, rfl⟩
  simp only [hF] at hR
  have HR := hid hR
  have k0 : Kept None w (w.alloc (.cells #[.int .i64 0, .int .i64 0, .int .i64 0, .int .i64 0, .string ⟨#[]⟩, .int .i64 0, .int .u64 0, .int .i64 0, .int .u64 0, .int .u64 0, .int .i64 0, .int .i64 0] 28)) := (Kept.refl _ _).alloc _
  have HV0 := hid (hv.kept k0 (fun _ _ _ h => h))
  have hZ0 := hid (Blk.new w #[.int .i64 0, .int .i64 0, .int .i64 0, .int .i64 0, .string ⟨#[]⟩, .int .i64 0, .int .u64 0, .int .i64 0, .int .u64 0, .int .u64 0, .int .i64 0, .int .i64 0] 28)
  clear hR hv
  by_cases hE : E = 0
  · subst hE
    have ht := readF_take (b := b) (by rw [hF])
    rw [hF] at ht
    simp only at ht
    have HT := hid ht
    have HFF := hid hF
    have HFL := hid (fun W v lo hi (h : Bs W lo hi v L) => fields K v lo hi L W h (by have := ht.2.1; omega))
    have hk := fldJ_kind K L
    have hw := fldJ_words K L
    have hc : okJ K S L = true → _ := fun h => fldJ_cand (K := K) (S := S) (L := L) h
    obtain ⟨⟨kd, sq, g, c, ⟨n, v, k, cl, rr, ss⟩, t, e⟩, hfl⟩ : ∃ r, r = fldJ K L := ⟨_, rfl⟩
    rw [← hfl] at hk hw HFL
    simp only [← hfl] at hc
    simp only at hk hw
    have hres := readJ_of2 hF (⟨kd, S, g, c, ⟨n, v, k, cl, rr, ss⟩, t, e⟩ : Rec) hk rfl hw hc
    have HRT := hid (fun W => right (⟨kd, S, g, c, ⟨n, v, k, cl, rr, ss⟩, t, e⟩ : Rec) W)
    have HBD := hid (fun W (h : rightJ (⟨kd, S, g, c, ⟨n, v, k, cl, rr, ss⟩, t, e⟩ : Rec) = true) => body (⟨kd, S, g, c, ⟨n, v, k, cl, rr, ss⟩, t, e⟩ : Rec) W h hw)
    have HEQ := hid (fun W v1 v2 lo hi lo' hi' hv hu => Fm.eqB (bodyJ (⟨kd, S, g, c, ⟨n, v, k, cl, rr, ss⟩, t, e⟩ : Rec)) L v1 v2 lo hi lo' hi' W hv hu)
    obtain ⟨X, hX⟩ : ∃ X, X = rightJ (⟨kd, S, g, c, ⟨n, v, k, cl, rr, ss⟩, t, e⟩ : Rec) := ⟨_, rfl⟩
    obtain ⟨D, hD⟩ : ∃ D, D = bodyJ (⟨kd, S, g, c, ⟨n, v, k, cl, rr, ss⟩, t, e⟩ : Rec) := ⟨_, rfl⟩
    rw [← hX] at HRT HBD hres
    rw [← hD] at HBD HEQ hres
    have hres : readJ b = if X = true ∧ D = L then ⟨(⟨kd, S, g, c, ⟨n, v, k, cl, rr, ss⟩, t, e⟩ : Rec), m, 0⟩ else ⟨Rec.none, 0, 20⟩ := hres
    have HRS := hid hres
    unfold Rec.V Rec.C at HRT HBD HFL
    clear hF ht hk hw hc hfl hX hD hres
    go_enter Try.func15, Try.ntmps15
    go_wp2_with fail
    refine (HR.out _ HV0.out).mono ?_
    rintro e1 w1 ⟨u1, rfl, k1, b1⟩
    obtain ⟨a1, c1, rfl, _⟩ := b1.shape
    have BZ1 := hid (hZ0.out.kept k1 (fun h => h))
    have K1 := hid (k0.trans k1)
    have B1 := hid b1
    clear k1 b1 hZ0 HV0 HR k0
    go_wp2_with fail
    refine (HFL.out _ _ _ _ B1.out).mono ?_
    rintro e1 w2 ⟨rfl, k2⟩
    have BZ2 := hid (BZ1.out.kept k2 (fun h => h))
    have K2 := hid (K1.out.trans k2)
    have B2 := hid (B1.out.kept k2 (fun _ _ _ h => h))
    clear k2 BZ1 K1 B1 HFL
    go_upto_region 6 with fail
    have BZ3 := hid (BZ2.out.alloc (.cells #[.int .i64 kd, .int .i64 S, .int .i64 g, .int .i64 c, .string n, .int .i64 v, .int .u64 (k : Int), .int .i64 cl, .int .u64 (rr : Int), .int .u64 (ss : Int), .int .i64 t, .int .i64 e] 28))
    have K3 := hid (K2.out.alloc (.cells #[.int .i64 kd, .int .i64 S, .int .i64 g, .int .i64 c, .string n, .int .i64 v, .int .u64 (k : Int), .int .i64 cl, .int .u64 (rr : Int), .int .u64 (ss : Int), .int .i64 t, .int .i64 e] 28))
    have B3 := hid (B2.out.kept ((Kept.refl None w2).alloc (.cells #[.int .i64 kd, .int .i64 S, .int .i64 g, .int .i64 c, .string n, .int .i64 v, .int .u64 (k : Int), .int .i64 cl, .int .u64 (rr : Int), .int .u64 (ss : Int), .int .i64 t, .int .i64 e] 28)) (fun _ _ _ h => h))
    have A3 := hid (Blk.new w2 #[.int .i64 kd, .int .i64 S, .int .i64 g, .int .i64 c, .string n, .int .i64 v, .int .u64 (k : Int), .int .i64 cl, .int .u64 (rr : Int), .int .u64 (ss : Int), .int .i64 t, .int .i64 e] 28)
    have hz3 := hid (show w.heap.size < w2.heap.size from BZ2.out.lt)
    obtain ⟨w3, hw3⟩ : ∃ w3, w3 = w2.alloc (.cells #[.int .i64 kd, .int .i64 S, .int .i64 g, .int .i64 c, .string n, .int .i64 v, .int .u64 (k : Int), .int .i64 cl, .int .u64 (rr : Int), .int .u64 (ss : Int), .int .i64 t, .int .i64 e] 28) := ⟨_, rfl⟩
    rw [← hw3] at BZ3 K3 B3 A3 ⊢
    have a3 := A3.out
    clear hw3 BZ2 K2 B2
    go_wp2_with (first | go_skip | (refine wpList_load_blk rfl _ _ rfl rfl a3 aRecF ?_) | fail)
    refine (HRT.out _).mono ?_
    rintro e1 w4 ⟨rfl, k4⟩
    have BZ4 := hid (BZ3.out.kept k4 (fun h => h))
    have K4 := hid (K3.out.trans k4)
    have B4 := hid (B3.out.kept k4 (fun _ _ _ h => h))
    have A4 := hid (A3.out.kept k4 (fun h => h))
    clear k4 a3 BZ3 K3 B3 A3 HRT
    cases X with
    | false =>
      have z4 := BZ4.out
      go_wp2_with (first | go_skip | (refine wpList_store_blk rfl _ _ _ rfl rfl rfl z4 aRecF rfl zRecF ?_; intro w9 hR9 k9) | fail)
      have kk : Kept None w w9 := K4.out.then k9 (fun i hi (h : i = w.heap.size) => by omega)
      (try simp only [Exit.inBlock, Exit.then])
      refine bodyPost_ret (v := .tuple #[Rec.none.V, .int .i64 0, .int .i64 20]) (results_blk3 rfl _ rfl rfl rfl hR9 aRecF) rfl ?_
      have hfin := HRS.out
      rw [if_neg (fun h => by cases h.1)] at hfin
      rw [hfin]
      exact ⟨rfl, kk⟩
    | true =>
      have a4 := A4.out
      go_wp2_with (first | go_skip | (refine wpList_load_bw (by kernel_rfl) rfl rfl a4 aRecF ?_) | fail)
      refine (HBD.out _ trivial).mono ?_
      rintro e1 w5 ⟨u5, rfl, k5, b5⟩
      obtain ⟨a5, c5, rfl⟩ := b5.form
      have BZ5 := hid (BZ4.out.kept k5 (fun h => h))
      have K5 := hid (K4.out.trans k5)
      have B5 := hid (B4.out.kept k5 (fun _ _ _ h => h))
      have A5 := hid (A4.out.kept k5 (fun h => h))
      have D5 := hid (b5.bs (Nat.le_refl _))
      clear k5 a4 b5 BZ4 K4 B4 A4 HBD
      go_wp2_with (first | go_skip | fail)
      refine (HEQ.out _ _ _ _ _ _ _ D5.out B5.out).mono ?_
      rintro e1 w6 ⟨rfl, k6⟩
      have Z6 := hid (BZ5.out.kept k6 (fun h => h))
      have K6 := hid (K5.out.trans k6)
      have A6 := hid (A5.out.kept k6 (fun h => h))
      clear k6 BZ5 K5 B5 A5 D5 HEQ
      have a6 := A6.out
      have z6 := Z6.out
      by_cases hq : D = L
      · have bq : (D == L) = true := by simpa using hq
        rw [bq]
        have HQ := hid hq
        clear hq bq
        go_wp2_with (first | (refine wpList_load_blk rfl _ _ rfl rfl a6 aRecF ?_) | (refine wpList_store_blk rfl _ _ _ rfl rfl rfl z6 aRecF rfl (Rec.C_one (⟨kd, S, g, c, ⟨n, v, k, cl, rr, ss⟩, t, e⟩ : Rec)) ?_; intro w9 hR9 k9) | fail)
        have kk : Kept None w w9 := K6.out.then k9 (fun i hi (h : i = w.heap.size) => by omega)
        (try simp only [Exit.inBlock, Exit.then])
        refine bodyPost_ret (v := .tuple #[(⟨kd, S, g, c, ⟨n, v, k, cl, rr, ss⟩, t, e⟩ : Rec).V, .int .i64 m, .int .i64 0]) (results_blk3 rfl _ rfl rfl rfl hR9 aRecF) rfl ?_
        have hfin := HRS.out
        rw [if_pos ⟨trivial, HQ.out⟩] at hfin
        rw [hfin]
        exact ⟨rfl, kk⟩
      · have bq : (D == L) = false := by simpa using hq
        rw [bq]
        have HQ := hid hq
        clear hq bq
        go_wp2_with (first | (refine wpList_store_blk rfl _ _ _ rfl rfl rfl z6 aRecF rfl zRecF ?_; intro w9 hR9 k9) | fail)
        have kk : Kept None w w9 := K6.out.then k9 (fun i hi (h : i = w.heap.size) => by omega)
        (try simp only [Exit.inBlock, Exit.then])
        refine bodyPost_ret (v := .tuple #[Rec.none.V, .int .i64 0, .int .i64 20]) (results_blk3 rfl _ rfl rfl rfl hR9 aRecF) rfl ?_
        have hfin := HRS.out
        rw [if_neg (fun h => HQ.out h.2)] at hfin
        rw [hfin]
        exact ⟨rfl, kk⟩
  · have e := hid (readJ_err hF hE)
    have dE : (E == 0) = false := by simpa using hE
    clear hE hF
    go_enter Try.func15, Try.ntmps15
    go_wp2_with fail
    refine (HR.out _ HV0.out).mono ?_
    rintro e1 w1 ⟨u1, rfl, k1, b1⟩
    obtain ⟨a1, c1, rfl, _⟩ := b1.shape
    have hZ := hZ0.out.kept k1 (fun h => h)
    have K1 := hid (k0.trans k1)
    clear k1 b1 hZ0 HV0 HR
    go_wp2_with (first | (refine wpList_store_blk rfl _ _ _ rfl rfl rfl hZ aRecF rfl zRecF ?_; intro w9 hR9 k9) | fail)
    have kk : Kept None w w9 := K1.out.then k9 (fun i hi (h : i = w.heap.size) => by omega)
    (try simp only [Exit.inBlock, Exit.then])
    refine bodyPost_ret (v := .tuple #[Rec.none.V, .int .i64 0, .int .i64 E]) (results_blk3 rfl _ rfl rfl rfl hR9 aRecF) rfl ?_
    rw [e.out]
    exact ⟨rfl, kk⟩
end Jr
end Go.Proofs.Ytpbkdeljhehkdaa
namespace Go.Pm
open Go Go.RowKit
theorem inI0 : inI 0 := ⟨by decide, by decide⟩
theorem inI1 : inI 1 := ⟨by decide, by decide⟩
theorem inI2 : inI 2 := ⟨by decide, by decide⟩
theorem none_fitsQ : Req.none.Fits := ⟨inI0, by decide, inI0, by decide, by decide⟩
theorem recB_fits {gen s : Int} {n : Nat} (hg : inI gen) (hs : inI s) (hn : n ≤ 1000) : (recB gen s n).Fits := ⟨inI1, hs, hg, ⟨by simp only [recB]; omega, by simp only [recB]; omega⟩, none_fitsQ, inI0, inI0⟩
theorem recP_fits {s : Int} {i : Nat} {x : Pn} (h0 : 0 ≤ s) (h1 : s ≤ 1152921504606846976) (hi : i ≤ 1000) (hu : x.u.Fits) (ht : inI x.tick) : (recP s i x).Fits := ⟨inI2, ⟨by simp only [recP]; omega, by simp only [recP]; omega⟩, inI0, inI0, hu, ht, inI0⟩
theorem wrapQ {s q q1 : Int} {i : Nat} (h0 : 0 ≤ s) (h1 : s ≤ 1152921504606846976) (hi : i ≤ 1000) (hq : q = s + i) (hq1 : q1 = s + 1 + i) : wrap64 (q + 1) = q1 ∧ q1 = s + ((i + 1 : Nat) : Int) := by
  unfold wrap64
  omega
end Go.Pm
namespace Go.Proofs.Ytpbkdeljhehkdaa
open Go.RowKit Go.Pm
namespace Jr
theorem aPen : AggTy Try.prog 47 9 := Sg.AggTy.of (by kernel_rfl) (by kernel_rfl)
set_option maxRecDepth 100000 in
set_option maxHeartbeats 8000000 in
theorem base : BaseC := by
  intro gen s v lo hi l w hv hf hgen hsi hln
  obtain ⟨av, nv, cv, rfl, hnv⟩ : ∃ a n c, v = .slice a n c ∧ n = l.length := by
    obtain ⟨a, c, h, _⟩ := hv.form
    rw [pensC_len] at h
    exact ⟨a, _, c, h, rfl⟩
  subst hnv
  have HP0 := hid (fun W => put (recB gen s l.length) W (recB_fits hgen hsi hln))
  have HV := hid hv
  clear hv hgen hsi
  by_cases hr : rightJ (recB gen s l.length) = true
  · have hb := recB_right hr
    have e0 : putJE (recB gen s l.length) = 0 := by unfold putJE; rw [if_pos hr]
    have hl0 := putJL_len (recB gen s l.length)
    rw [e0] at HP0
    obtain ⟨T0, hT0⟩ : ∃ T0, T0 = putJL (recB gen s l.length) := ⟨_, rfl⟩
    rw [← hT0] at HP0 hl0
    have HB := hid hb
    have HR := hid (And.intro hr hT0)
    have HL0 := hid hl0
    unfold recB Rec.V Rec.C at HP0
    clear hr hb e0 hl0 hT0 hln
    go_enter Try.func17, Try.ntmps17
    go_wp2_with fail
    refine (HP0.out _).mono ?_
    rintro e1 w1 ⟨u1, rfl, k1, b1⟩
    obtain ⟨a1, c1, rfl⟩ := b1.form
    have K1 := hid k1
    have B1 := hid b1
    clear k1 b1 HP0
    go_wp2_with fail
    go_loopg [1, 7, 26] l.length (fun kx s1 s7 s26 wr => ∃ (i : Nat) (q : Int) (a7 : Option Addr) (n7 c7 : Nat), s1 = .int .i64 q ∧ s7 = .slice a7 n7 c7 ∧ s26 = .int .i64 (i : Int) ∧ i ≤ l.length ∧ l.length - i ≤ kx ∧ Hid (q = s + i) ∧ Hid (allR (recsP s 0 (l.take i)) = true) ∧ Hid (Kept None w wr) ∧ Hid (Ob wr w.heap.size (.slice a7 n7 c7) (T0 ++ joinR (recsP s 0 (l.take i)))))
    case atStart => exact ⟨0, s, a1, _, c1, rfl, rfl, rfl, Nat.zero_le _, Nat.le_refl _, hid (by simp), hid rfl, K1, hid (by simpa [recsP, joinR] using B1.out)⟩
    case round =>
    obtain ⟨i, q, a7, n7, c7, rfl, rfl, rfl, hi, hix, HQ, HAl, HS, HO⟩ := hrel
    by_cases hlt : i < l.length
    · have hlt' : decide ((i : Int) < (l.length : Int)) = true := by simpa using hlt
      obtain ⟨b, o, rfl, hbs, hcell⟩ := (HV.out.kept HS.out (fun _ _ _ h => h)).pen (by omega)
      obtain ⟨rx, _, _, _, _⟩ := hcell i hlt
      have hlb : (i : Int) < (l.length : Int) := Int.ofNat_lt.mpr hlt
      obtain ⟨x, hx⟩ : ∃ x, x = l[i] := ⟨_, rfl⟩
      rw [← hx] at rx
      obtain ⟨q1, hq1⟩ : ∃ q1, q1 = s + 1 + (i : Int) := ⟨_, rfl⟩
      have hbb := HB.out
      have HWQ := hid (wrapQ (i := i) hbb.1 hbb.2.1 (by omega) HQ.out hq1)
      have hfx := hf x (by rw [hx]; exact List.getElem_mem _)
      have HP := hid (fun W => put (recP s i x) W (recP_fits hbb.1 hbb.2.1 (by omega) hfx.1 hfx.2))
      obtain ⟨T1, hT⟩ : ∃ T, T = putJL (recP s i x) := ⟨_, rfl⟩
      obtain ⟨E, hE⟩ : ∃ E, E = putJE (recP s i x) := ⟨_, rfl⟩
      have hTl := putJL_len (recP s i x)
      rw [← hT] at HP hTl
      rw [← hE] at HP
      have HT := hid (And.intro hT hTl)
      have HX := hid hx
      have HE := hid hE
      unfold recP Rec.V Rec.C at HP
      rw [← hq1] at HP
      have wq := HWQ.out.1
      obtain ⟨⟨xn, xv, xk, xc, xr, xs⟩, xt, xq, xb⟩ := x
      simp only at HP
      simp only [penC] at rx
      clear hcell hx hT hTl hfx hE hbs hq1 hbb
      go_wp2_with (first | (refine wpList_load_at (.refl _) _ _ rfl rfl rx aPen ?_) | fail)
      refine (HP.out _).mono ?_
      rintro e3 w3 ⟨u3, rfl, k3, b3⟩
      obtain ⟨a9, c9, rfl⟩ := b3.form
      have K3 := hid ((HS.out.alloc _).trans k3)
      have HU := hid (b3.bs (Nat.le_refl _)).all
      have HO2 := hid ((HO.out.alloc _).kept k3 (fun _ _ h => h))
      clear k3 b3 rx HP
      by_cases hrx : rightJ (recP s i ⟨⟨xn, xv, xk, xc, xr, xs⟩, xt, xq, xb⟩) = true
      · have eE : E = 0 := by rw [HE.out]; unfold putJE; rw [if_pos hrx]
        subst eE
        have HRX := hid hrx
        have hb := HO2.out
        have hu := HU.out
        have hln : (T0 ++ joinR (recsP s 0 (l.take i))).length + T1.length ≤ 140737488355328 := by
          have h1 := joinR_len (recsP s 0 (l.take i))
          rw [recsP_len, List.length_take] at h1
          have h2 := HL0.out
          have h3 := HT.out.2
          have h4 := HB.out.2.2
          rw [List.length_append]
          omega
        have hsz := K3.out.size
        clear hrx wq
        go_wp2_with (first | (refine wpList_append_bo rfl _ _ 29 rfl rtBytes rfl rfl hb hu hln hsz ?_; intro a8 n8 c8 w8 hB8 hK8) | fail)
        have HK8 := hid (K3.out.then hK8 (fun q hq h => Nat.lt_irrefl _ (Nat.lt_of_lt_of_le hq (hb.own q h).1)))
        have hB9 : Ob w8 w.heap.size (.slice a8 n8 c8) (T0 ++ joinR (recsP s 0 (l.take (i + 1)))) := by
          rw [recsP_take s l i hlt, joinR_app, ← List.append_assoc, ← HX.out]
          have e : joinR [recP s i ⟨⟨xn, xv, xk, xc, xr, xs⟩, xt, xq, xb⟩] = T1 := by rw [HT.out.1]; simp [joinR]
          rw [e]
          exact hB8
        have HB9 := hid hB9
        have HA9 : Hid (allR (recsP s 0 (l.take (i + 1))) = true) := hid (by
          rw [recsP_take s l i hlt, allR_app, HAl.out, ← HX.out]
          simp [allR, HRX.out])
        clear hb hu hln hsz hB8 hK8 hB9
        go_wp2
        go_roundg (l.length - (i + 1))
        case measure => omega
        case rel => exact ⟨i + 1, q1, a8, n8, c8, by rw [HWQ.out.1], rfl, by rw [show wrap64 ((i : Int) + 1) = ((i + 1 : Nat) : Int) by have := HB.out.2.2; unfold wrap64; omega], hlt, Nat.le_refl _, hid HWQ.out.2, HA9, HK8, HB9⟩
      · have eE : E = 23 := by rw [HE.out]; unfold putJE; rw [if_neg hrx]
        subst eE
        have hfin : baseF gen s l = [] := by
          unfold baseF
          rw [allR_take hlt (by rw [← HX.out]; simpa using hrx), Bool.and_false]
          rfl
        have HFin := hid hfin
        clear hrx hfin wq
        go_wp2
        go_ret
        rw [HFin.out]
        exact ⟨_, rfl, K3.out, Bo.nil _ _ _⟩
    · have hlt' : decide ((i : Int) < (l.length : Int)) = false := by simpa using hlt
      obtain rfl : i = l.length := by omega
      have hfin : baseF gen s l = T0 ++ joinR (recsP s 0 l) := by
        have h := HAl.out
        rw [List.take_length] at h
        unfold baseF
        rw [HR.out.1, h, HR.out.2]
        rfl
      have ho := HO.out
      rw [List.take_length, ← hfin] at ho
      have HO2 := hid ho
      clear hlt hi hix hfin ho HO
      go_wp2
      go_ret
      exact ⟨_, rfl, HS.out, HO2.out⟩
  · have e0 : putJE (recB gen s l.length) = 23 := by unfold putJE; rw [if_neg hr]
    have e1 : baseF gen s l = [] := by
      unfold baseF
      rw [show rightJ (recB gen s l.length) = false by simpa using hr]
      rfl
    rw [e0] at HP0
    rw [e1]
    unfold recB Rec.V Rec.C at HP0
    clear hr e0 e1
    go_enter Try.func17, Try.ntmps17
    go_wp2_with fail
    refine (HP0.out _).mono ?_
    rintro e1 w1 ⟨u1, rfl, k1, b1⟩
    obtain ⟨a1, c1, rfl⟩ := b1.form
    clear b1 HP0
    go_wp2
    go_ret
    exact ⟨_, rfl, k1, Bo.nil _ _ _⟩
/-- journal.Right. -/
theorem rightC : RightC := fun r w _ => right r w
end Jr
end Go.Proofs.Ytpbkdeljhehkdaa
