/- Package postmarkref1, its bytes: each function by its contract, over the same plain functions as package bin. -/
import Derived.Test.YtjadlhpheagkfaaBin
namespace Go.Proofs.Ytjadlhpheagkfaa
open Go.RowKit Go.Pm

namespace Ref
/-- A Reader of package postmarkref1 at block r. -/
def Rd (w : World) (lo hi r : Nat) (s : St) : Prop := s.Ok ∧ ∃ v, Blk w r #[v, .int .i64 s.e] 34 ∧ Bs w lo hi v s.l
theorem Rd.kept {S : Nat → Prop} {w w' : World} {lo hi r : Nat} {s : St} (h : Rd w lo hi r s) (hk : Kept S w w') (h1 : ∀ k, lo ≤ k → k < hi → ¬ S k) (h2 : ¬ S r) : Rd w' lo hi r s := by
  obtain ⟨ok, v, hb, hv⟩ := h
  exact ⟨ok, v, hb.kept hk h2, hv.kept hk h1⟩
theorem Rd.lt {w : World} {lo hi r : Nat} {s : St} (h : Rd w lo hi r s) : r < w.heap.size := by
  obtain ⟨ok, v, hb, hv⟩ := h
  exact hb.lt

set_option maxHeartbeats 400000 in
/-- postmarkref1.Num. -/
theorem num (n : Int) (w : World) (h0 : 0 ≤ n) (_h1 : n < 18446744073709551616) :
    Calls Try.prog 11 #[.int .u64 n] w fun e w' => ∃ v, e = .returned v ∧ Kept None w w' ∧ Ob w' w.heap.size v (leB n) := by
  go_enter Try.func11, Try.ntmps11
  go_wp2
  go_loopw [3, 4] (fun b i wr => ∃ k : Nat, k ≤ 8 ∧ i = .int .i64 k ∧ Ob wr w.heap.size b ((leB n).take k) ∧ Kept None w wr ∧ (∃ a n c, b = .slice a n c)) (fun _ i _ => 8 - (intOf i).toNat)
  case atStart => exact ⟨0, by omega, rfl, Bo.nil _ _ _, Kept.refl _ _, _, _, _, rfl⟩
  case round =>
    obtain ⟨k, hk8, rfl, hb, hk, a, m, c, rfl⟩ := hrel
    by_cases hlt : k < 8
    · have hpos : (0 : Int) ≤ n / 2 ^ (8 * k) := Int.ediv_nonneg h0 (Int.pow_nonneg (by decide))
      go_wp2_with (at_builtin; refine wpList_append_byte rfl _ _ 22 rfl rtBytes rfl rfl hb ?h1 ?h2 ?h3 ?h4 ?h5)
      case h1 => omega
      case h2 => omega
      case h3 => simp [leB_length]; omega
      case h4 => exact hk.size
      case h5 =>
        intro a' n' cap' w' h1 h2
        have hk' := Kept.own hk h2 (fun k hk => (hb.own k hk).1)
        have hb' : Ob w' w.heap.size (.slice a' n' cap') ((leB n).take (k + 1)) := by rw [leB_take n k hlt]; exact h1
        clear hk hb h1 h2
        go_wp2
        go_roundw
        case rel => exact ⟨k + 1, by omega, by go_num, hb', hk', _, _, _, rfl⟩
        case measure => simp [intOf]; omega
    · have h8 : k = 8 := by omega
      have hfin : ∃ v, Ending.returned (.slice a m c) = .returned v ∧ Kept None w wr ∧ Ob wr w.heap.size v (leB n) := ⟨_, rfl, hk, by subst h8; exact hb⟩
      clear h8
      go_wp2
      go_ret
      exact hfin

set_option maxHeartbeats 400000 in
/-- postmarkref1.Lump. -/
theorem lump (v : Value) (lo hi : Nat) (l : List UInt8) (w : World) (hv : Bs w lo hi v l) (hl : l.length ≤ 70368744177664) :
    Calls Try.prog 9 #[v] w fun en w' => ∃ v', en = .returned v' ∧ Kept None w w' ∧ Ob w' w.heap.size v' (leB l.length ++ l) := by
  obtain ⟨a, cap, rfl, g1, g2, g3⟩ := hv.shape
  go_enter Try.func9, Try.ntmps9
  go_wp2_with fail
  refine (num _ w (by omega) (by omega)).mono ?_
  rintro e1 w1 ⟨v1, rfl, hk, hb⟩
  obtain ⟨a1, c1, rfl⟩ := hb.form
  have hv1 := hv.kept hk (fun _ _ _ h => h)
  have hsz := hk.size
  clear hv g3
  go_wp2_with (at_builtin; refine wpList_append_bo (l := leB l.length) (m := l) (base := w.heap.size) (lo := lo) (hi := hi) rfl _ _ 22 rfl rtBytes rfl rfl ?k1 ?k2 ?k3 ?k4 ?k5)
  case k1 => exact hb
  case k2 => exact hv1
  case k3 => rw [leB_length]; omega
  case k4 => exact hsz
  case k5 =>
    intro a2 n2 c2 w2 hb2 hk2
    have hk3 := Kept.own hk hk2 (fun k hk => (hb.own k hk).1)
    clear hb hv1 hk hk2
    go_wp2
    go_ret
    exact ⟨_, rfl, hk3, hb2⟩

set_option maxHeartbeats 1000000 in
/-- postmarkref1.Word. -/
theorem word (v : Value) (lo hi : Nat) (l : List UInt8) (w : World) (hv : Bs w lo hi v l) (hl : l.length = 8) :
    Calls Try.prog 24 #[v] w fun en w' => en = .returned (.int .u64 (leV l)) ∧ w = w' := by
  have hV : leV l = leV l := rfl
  conv at hV => rhs; unfold leV
  generalize leV l = V at hV ⊢
  obtain ⟨b, o, cap, rfl, g1, g2, q1, q2, q3, hc⟩ := Bs.lit hv 8 hl (by omega)
  have c0 := hc 0 (by omega)
  have c1 := hc 1 (by omega)
  have c2 := hc 2 (by omega)
  have c3 := hc 3 (by omega)
  have c4 := hc 4 (by omega)
  have c5 := hc 5 (by omega)
  have c6 := hc 6 (by omega)
  have c7 := hc 7 (by omega)
  simp only [Nat.add_zero] at c0
  have B := fun i => bAt_lt l i
  have A := fun i => bAt_ge l i
  clear hc hv hl
  have b0 := B 0
  have a0 := A 0
  have b1 := B 1
  have a1 := A 1
  have b2 := B 2
  have a2 := A 2
  have b3 := B 3
  have a3 := A 3
  have b4 := B 4
  have a4 := A 4
  have b5 := B 5
  have a5 := A 5
  have b6 := B 6
  have a6 := A 6
  have b7 := B 7
  have a7 := A 7
  clear A B
  generalize bAt l 0 = x0 at *
  generalize bAt l 1 = x1 at *
  generalize bAt l 2 = x2 at *
  generalize bAt l 3 = x3 at *
  generalize bAt l 4 = x4 at *
  generalize bAt l 5 = x5 at *
  generalize bAt l 6 = x6 at *
  generalize bAt l 7 = x7 at *
  have HV := hid hV
  clear hV
  go_enter Try.func24, Try.ntmps24
  go_wp2
  refine wp_loop_rounds 9 ?_
  iterate 9 (rw [rounds_succ]; go_wp2)
  go_ret
  refine ⟨?_, rfl⟩
  show Ending.returned (.int .u64 _) = _
  rw [or_zero x7 a7 b7, or_step x7 x6 (by omega) (by omega) a6 b6, or_step _ x5 (by omega) (by omega) a5 b5, or_step _ x4 (by omega) (by omega) a4 b4, or_step _ x3 (by omega) (by omega) a3 b3,
    or_step _ x2 (by omega) (by omega) a2 b2, or_step _ x1 (by omega) (by omega) a1 b1, or_step _ x0 (by omega) (by omega) a0 b0, HV.out]
  congr 2
  omega

set_option maxHeartbeats 400000 in
/-- (*postmarkref1.Reader).fail. -/
theorem fail (r : Nat) (v : Value) (e e' : Int) (w : World) (hb : Blk w r #[v, .int .i64 e] 34) :
    Calls Try.prog 26 #[.pointer (some ⟨r, 0, none⟩), .int .i64 e'] w fun en w' => en = .returned (.tuple #[]) ∧ Blk w' r #[.slice none 0 0, .int .i64 e'] 34 ∧ Kept (Just r) w w' := by
  have c0 := hb.cell 0
  have c1 := hb.cell 1
  have f0 := hb.free 0
  have f1 := hb.free 1
  have r1 : Blk ((w.setCell ⟨r, 0, none⟩ (.slice none 0 0)).setCell ⟨r, 1, none⟩ (.int .i64 e')) r #[.slice none 0 0, .int .i64 e'] 34 := (hb.set 0 _).set 1 _
  have k1 : Kept (Just r) w ((w.setCell ⟨r, 0, none⟩ (.slice none 0 0)).setCell ⟨r, 1, none⟩ (.int .i64 e')) := (Kept.one w r 0 _).one' 1 _
  simp at c0 c1
  go_enter Try.func26, Try.ntmps26
  go_wp2
  go_end0
  exact ⟨rfl, r1, k1⟩

set_option maxHeartbeats 1000000 in
/-- (*postmarkref1.Reader).Raw. -/
theorem rraw (r : Nat) (lo hi : Nat) (s : St) (n : Int) (w : World) (hr : Rd w lo hi r s) (h1 : -9223372036854775808 ≤ n) (h2 : n < 9223372036854775808) (hlo : hi ≤ r) :
    Calls Try.prog 19 #[.pointer (some ⟨r, 0, none⟩), .int .i64 n] w fun en w' => ∃ v, en = .returned v ∧ Kept (Just r) w w' ∧ Bs w' lo hi v (s.raw n) ∧ Rd w' lo hi r (s.rawS n) := by
  have ok' := St.rawS_ok hr.1 n
  obtain ⟨ok, v, hb, hv⟩ := hr
  by_cases he : s.e = 0
  · by_cases hn : n ≤ s.l.length
    · have e1 : s.raw n = s.l.take n.toNat := if_pos ⟨he, hn⟩
      have e2 : s.rawS n = ⟨s.l.drop n.toNat, 0⟩ := by unfold St.rawS; rw [if_pos he, if_pos hn]
      rw [e2] at ok'
      rw [e1, e2]
      clear e1 e2 ok
      obtain ⟨l, e⟩ := s
      simp only at he hn hb hv ok' ⊢
      subst he
      obtain ⟨a, cap, rfl, g1, g2, g3⟩ := hv.shape
      have c0 := hb.cell 0
      have c1 := hb.cell 1
      have f0 := hb.free 0
      have f1 := hb.free 1
      simp at c0 c1
      by_cases h0 : n < 0
      · have ez : n.toNat = 0 := by omega
        rw [ez] at ok' ⊢
        obtain ⟨a1, s1, p1⟩ := slice_to tBytes zBytes hv .i64 0 (by omega) (by omega)
        obtain ⟨a2, s2, p2⟩ := slice_from tBytes zBytes hv .i64 0 (by omega) (by omega)
        simp only [Int.toNat_zero, Nat.sub_zero] at s1 s2 p1 p2
        have hw := hb.set 0 (.slice a2 l.length cap)
        have hk := Kept.one w r 0 (.slice a2 l.length cap)
        have q1 := p1.kept hk (fun k _ h e => by unfold Just at e; omega)
        have q2 := p2.kept hk (fun k _ h e => by unfold Just at e; omega)
        rw [← List.map_take] at q1
        rw [← List.map_drop] at q2
        have fin : ∃ v, Ending.returned (.slice a1 0 cap) = .returned v ∧ Kept (Just r) w (w.setCell ⟨r, 0, none⟩ (.slice a2 l.length cap)) ∧ Bs (w.setCell ⟨r, 0, none⟩ (.slice a2 l.length cap)) lo hi v (l.take 0) ∧ Rd (w.setCell ⟨r, 0, none⟩ (.slice a2 l.length cap)) lo hi r ⟨l.drop 0, 0⟩ :=
          ⟨_, rfl, hk, q1, ok', _, hw, q2⟩
        have hn0 : ¬ (l.length : Int) < 0 := by omega
        clear p1 p2 hw hk q1 q2 hv hb g3 ok' ez hn
        go_enter Try.func19, Try.ntmps19
        go_wp2
        go_ret
        exact fin
      · obtain ⟨a1, s1, p1⟩ := slice_to tBytes zBytes hv .i64 n (by omega) hn
        obtain ⟨a2, s2, p2⟩ := slice_from tBytes zBytes hv .i64 n (by omega) hn
        have hw := hb.set 0 (.slice a2 (l.length - n.toNat) (cap - n.toNat))
        have hk := Kept.one w r 0 (.slice a2 (l.length - n.toNat) (cap - n.toNat))
        have q1 := p1.kept hk (fun k _ h e => by unfold Just at e; omega)
        have q2 := p2.kept hk (fun k _ h e => by unfold Just at e; omega)
        rw [← List.map_take] at q1
        rw [← List.map_drop] at q2
        have fin : ∃ v, Ending.returned (.slice a1 n.toNat cap) = .returned v ∧ Kept (Just r) w (w.setCell ⟨r, 0, none⟩ (.slice a2 (l.length - n.toNat) (cap - n.toNat))) ∧ Bs (w.setCell ⟨r, 0, none⟩ (.slice a2 (l.length - n.toNat) (cap - n.toNat))) lo hi v (l.take n.toNat) ∧ Rd (w.setCell ⟨r, 0, none⟩ (.slice a2 (l.length - n.toNat) (cap - n.toNat))) lo hi r ⟨l.drop n.toNat, 0⟩ :=
          ⟨_, rfl, hk, q1, ok', _, hw, q2⟩
        clear p1 p2 hw hk q1 q2 hv hb g3 ok'
        go_enter Try.func19, Try.ntmps19
        go_wp2
        go_ret
        exact fin
    · have e1 : s.raw n = [] := if_neg (fun h => hn h.2)
      have e2 : s.rawS n = ⟨[], 21⟩ := by unfold St.rawS; rw [if_pos he, if_neg hn]
      rw [e2] at ok'
      rw [e1, e2]
      clear e1 e2 ok
      obtain ⟨l, e⟩ := s
      simp only at he hn hb hv ok' ⊢
      subst he
      obtain ⟨a, cap, rfl, g1, g2, g3⟩ := hv.shape
      have c0 := hb.cell 0
      have c1 := hb.cell 1
      simp at c0 c1
      have h0 : ¬ n < 0 := by omega
      have HB := hid hb
      have OK' := hid ok'
      clear hv g3 hb ok'
      go_enter Try.func19, Try.ntmps19
      go_wp2_with fail
      refine (fail r _ 0 21 w HB.out).mono ?_
      rintro e1 w1 ⟨rfl, h1, h2⟩
      go_wp2
      go_ret
      exact ⟨_, rfl, h2, Bs.nil _ _ _, OK'.out, _, h1, Bs.nil _ _ _⟩
  · have e1 : s.raw n = [] := if_neg (fun h => he h.1)
    have e2 : s.rawS n = s := if_neg he
    rw [e2] at ok'
    rw [e1, e2]
    have hfin : ∃ v, Ending.returned (.slice none 0 0) = .returned v ∧ Kept (Just r) w w ∧ Bs w lo hi v [] ∧ Rd w lo hi r s := ⟨_, rfl, Kept.refl _ _, Bs.nil _ _ _, ok, v, hb, hv⟩
    have c1 := hb.cell 1
    have he' : (s.e != 0) = true := by simpa using he
    simp at c1
    clear e1 e2 ok hb hv ok'
    go_enter Try.func19, Try.ntmps19
    go_wp2
    all_goals
      go_ret
      exact hfin

set_option maxHeartbeats 400000 in
/-- (*postmarkref1.Reader).Num. -/
theorem rnum (r : Nat) (lo hi : Nat) (s : St) (w : World) (hr : Rd w lo hi r s) (hlo : hi ≤ r) :
    Calls Try.prog 15 #[.pointer (some ⟨r, 0, none⟩)] w fun en w' => en = .returned (.int .u64 s.num) ∧ Kept (Just r) w w' ∧ Rd w' lo hi r s.numS := by
  have eS : s.rawS 8 = s.numS := by
    unfold St.rawS St.numS
    by_cases h : 8 ≤ s.l.length
    · rw [if_pos (show (8 : Int) ≤ s.l.length by omega), if_pos h]; rfl
    · rw [if_neg (show ¬ (8 : Int) ≤ s.l.length by omega), if_neg h]
  rw [← eS]
  by_cases hc : s.e = 0 ∧ 8 ≤ s.l.length
  · have eN : s.num = leV s.l := if_pos hc
    have eR : s.raw 8 = s.l.take 8 := by unfold St.raw; rw [if_pos ⟨hc.1, by omega⟩]; rfl
    have eE : (s.rawS 8).e = 0 := by unfold St.rawS; rw [if_pos hc.1]; rw [if_pos (by omega)]
    rw [eN, ← leV_take, ← eR]
    have hl : (s.raw 8).length = 8 := by rw [eR]; simp; omega
    have HL := hid hl
    have EE := hid eE
    clear eN eR hc eS hl eE
    go_enter Try.func15, Try.ntmps15
    go_wp2_with fail
    refine (rraw r lo hi s 8 w hr (by omega) (by omega) hlo).mono ?_
    rintro e1 w1 ⟨v, rfl, hk, hb, hr'⟩
    have hr2 := hr'
    obtain ⟨ok, v', hb', hv'⟩ := hr'
    rw [EE.out] at hb'
    have c1 := hb'.cell 1
    simp at c1
    clear hb' hv' ok
    go_wp2_with fail
    refine (word v lo hi _ w1 hb HL.out).mono ?_
    rintro e1 w2 ⟨rfl, rfl⟩
    go_wp2
    go_ret
    exact ⟨rfl, hk, hr2⟩
  · have eN : s.num = 0 := if_neg hc
    have eE : (s.rawS 8).e ≠ 0 := by
      unfold St.rawS
      by_cases h : s.e = 0
      · rw [if_pos h, if_neg (fun h2 => hc ⟨h, by omega⟩)]; decide
      · rw [if_neg h]; exact h
    rw [eN]
    have eB : ((s.rawS 8).e != 0) = true := by simpa using eE
    clear eN eS eE
    go_enter Try.func15, Try.ntmps15
    go_wp2_with fail
    refine (rraw r lo hi s 8 w hr (by omega) (by omega) hlo).mono ?_
    rintro e1 w1 ⟨v, rfl, hk, hb, hr'⟩
    have hr2 := hr'
    obtain ⟨ok, v', hb', hv'⟩ := hr'
    have c1 := hb'.cell 1
    simp at c1
    clear hb' hv' ok
    go_wp2
    go_ret
    exact ⟨rfl, hk, hr2⟩

set_option maxHeartbeats 1000000 in
/-- (*postmarkref1.Reader).Lump. -/
theorem rlump (r : Nat) (lo hi : Nat) (s : St) (m : Int) (w : World) (hr : Rd w lo hi r s) (h1 : -9223372036854775808 ≤ m) (h2 : m < 9223372036854775808) (hlo : hi ≤ r) :
    Calls Try.prog 17 #[.pointer (some ⟨r, 0, none⟩), .int .i64 m] w fun en w' => ∃ v, en = .returned v ∧ Kept (Just r) w w' ∧ Bs w' lo hi v (s.lump m) ∧ Rd w' lo hi r (s.lumpS m) := by
  have n0 := s.num_ge
  have n1 := s.num_lt
  have ok' : (s.lumpS m).Ok := St.lumpS_ok hr.1 m
  have OK' := hid ok'
  clear ok'
  by_cases he : s.numS.e = 0
  · have heB : (s.numS.e != 0) = false := by simpa using he
    by_cases hc : s.num ≤ max m 0
    · have e1 : s.lump m = s.numS.raw s.num := if_pos ⟨he, hc⟩
      have e2 : s.lumpS m = s.numS.rawS s.num := by unfold St.lumpS; rw [if_pos he, if_pos hc]
      rw [e1, e2]
      clear e1 e2 he
      by_cases hm : m < 0
      · have hc' : s.num ≤ 0 := by omega
        clear hc
        go_enter Try.func17, Try.ntmps17
        go_wp2_with fail
        refine (rnum r lo hi s w hr hlo).mono ?_
        rintro e1 w1 ⟨rfl, hk, hr'⟩
        have hr2 := hr'
        obtain ⟨ok, v', hb', hv'⟩ := hr'
        have c1 := hb'.cell 1
        simp at c1
        clear hb' hv' ok
        go_wp2_with fail
        refine (rraw r lo hi s.numS _ w1 hr2 (by omega) (by omega) hlo).mono ?_
        rintro e2 w2 ⟨v, rfl, hk2, hb2, hr3⟩
        go_wp2
        go_ret
        exact ⟨_, rfl, hk.trans hk2, hb2, hr3⟩
      · have hc' : s.num ≤ m := by omega
        clear hc
        go_enter Try.func17, Try.ntmps17
        go_wp2_with fail
        refine (rnum r lo hi s w hr hlo).mono ?_
        rintro e1 w1 ⟨rfl, hk, hr'⟩
        have hr2 := hr'
        obtain ⟨ok, v', hb', hv'⟩ := hr'
        have c1 := hb'.cell 1
        simp at c1
        clear hb' hv' ok
        go_wp2_with fail
        refine (rraw r lo hi s.numS _ w1 hr2 (by omega) (by omega) hlo).mono ?_
        rintro e2 w2 ⟨v, rfl, hk2, hb2, hr3⟩
        go_wp2
        go_ret
        exact ⟨_, rfl, hk.trans hk2, hb2, hr3⟩
    · have e1 : s.lump m = [] := if_neg (fun h => hc h.2)
      have e2 : s.lumpS m = ⟨[], 22⟩ := by unfold St.lumpS; rw [if_pos he, if_neg hc]
      rw [e1, e2]
      rw [e2] at OK'
      clear e1 e2
      by_cases hm : m < 0
      · have hc' : 0 < s.num := by omega
        clear hc he
        go_enter Try.func17, Try.ntmps17
        go_wp2_with fail
        refine (rnum r lo hi s w hr hlo).mono ?_
        rintro e1 w1 ⟨rfl, hk, hr'⟩
        obtain ⟨ok, v', hb', hv'⟩ := hr'
        have c1 := hb'.cell 1
        simp at c1
        have HB := hid hb'
        clear hb' hv' ok
        go_wp2_with fail
        refine (fail r v' s.numS.e 22 w1 HB.out).mono ?_
        rintro e2 w2 ⟨rfl, hb2, hk2⟩
        go_wp2
        go_ret
        exact ⟨_, rfl, hk.trans hk2, Bs.nil _ _ _, OK'.out, _, hb2, Bs.nil _ _ _⟩
      · have hc' : m < s.num := by omega
        clear hc he
        go_enter Try.func17, Try.ntmps17
        go_wp2_with fail
        refine (rnum r lo hi s w hr hlo).mono ?_
        rintro e1 w1 ⟨rfl, hk, hr'⟩
        obtain ⟨ok, v', hb', hv'⟩ := hr'
        have c1 := hb'.cell 1
        simp at c1
        have HB := hid hb'
        clear hb' hv' ok
        go_wp2_with fail
        refine (fail r v' s.numS.e 22 w1 HB.out).mono ?_
        rintro e2 w2 ⟨rfl, hb2, hk2⟩
        go_wp2
        go_ret
        exact ⟨_, rfl, hk.trans hk2, Bs.nil _ _ _, OK'.out, _, hb2, Bs.nil _ _ _⟩
  · have heB : (s.numS.e != 0) = true := by simpa using he
    have e1 : s.lump m = [] := if_neg (fun h => he h.1)
    have e2 : s.lumpS m = s.numS := by unfold St.lumpS; rw [if_neg he]
    rw [e1, e2]
    clear e1 e2 he
    go_enter Try.func17, Try.ntmps17
    go_wp2_with fail
    refine (rnum r lo hi s w hr hlo).mono ?_
    rintro e1 w1 ⟨rfl, hk, hr'⟩
    have hr2 := hr'
    obtain ⟨ok, v', hb', hv'⟩ := hr'
    have c1 := hb'.cell 1
    simp at c1
    clear hb' hv' ok
    go_wp2
    go_ret
    exact ⟨_, rfl, hk, Bs.nil _ _ _, hr2⟩
end Ref
end Go.Proofs.Ytjadlhpheagkfaa
