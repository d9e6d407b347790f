/- Package postmarkref1, its Reader: each function by its contract, over the same plain functions as package bin. -/
import Derived.Test.YtbckjkfdkgomiaaBin
import Derived.Test.YtbckjkfdkgomiaaRefA
namespace Go.Proofs.Ytbckjkfdkgomiaa
open Go.RowKit Go.Pm

namespace Ref
/-- A Reader of package postmarkref1 at block r. -/
def Rd (w : World) (lo hi r : Nat) (s : St) : Prop := s.Ok ∧ ∃ v, Blk w r #[v, .int .i64 s.e] 74 ∧ Bs w lo hi v s.l
theorem Rd.kept {S : Nat → Prop} {w w' : World} {lo hi r : Nat} {s : St} (h : Rd w lo hi r s) (hk : Kept S w w') (h1 : ∀ k, lo ≤ k → k < hi → ¬ S k) (h2 : ¬ S r) : Rd w' lo hi r s := by
  obtain ⟨ok, v, hb, hv⟩ := h
  exact ⟨ok, v, hb.kept hk h2, hv.kept hk h1⟩
theorem Rd.lt {w : World} {lo hi r : Nat} {s : St} (h : Rd w lo hi r s) : r < w.heap.size := by
  obtain ⟨ok, v, hb, hv⟩ := h
  exact hb.lt

set_option maxHeartbeats 400000 in
/-- (*postmarkref1.Reader).fail. -/
theorem fail (r : Nat) (v : Value) (e e' : Int) (w : World) (hb : Blk w r #[v, .int .i64 e] 74) :
    Calls Try.prog 80 #[.pointer (some ⟨r, 0, none⟩), .int .i64 e'] w fun en w' => en = .returned (.tuple #[]) ∧ Blk w' r #[.slice none 0 0, .int .i64 e'] 74 ∧ Kept (Just r) w w' := by
  have c0 := hb.cell 0
  have c1 := hb.cell 1
  have f0 := hb.free 0
  have f1 := hb.free 1
  have r1 : Blk ((w.setCell ⟨r, 0, none⟩ (.slice none 0 0)).setCell ⟨r, 1, none⟩ (.int .i64 e')) r #[.slice none 0 0, .int .i64 e'] 74 := (hb.set 0 _).set 1 _
  have k1 : Kept (Just r) w ((w.setCell ⟨r, 0, none⟩ (.slice none 0 0)).setCell ⟨r, 1, none⟩ (.int .i64 e')) := (Kept.one w r 0 _).one' 1 _
  simp at c0 c1
  go_enter Try.func80, Try.ntmps80
  go_wp2
  go_end0
  exact ⟨rfl, r1, k1⟩

set_option maxHeartbeats 1000000 in
/-- (*postmarkref1.Reader).Raw. -/
theorem rraw (r : Nat) (lo hi : Nat) (s : St) (n : Int) (w : World) (hr : Rd w lo hi r s) (h1 : -9223372036854775808 ≤ n) (h2 : n < 9223372036854775808) (hlo : hi ≤ r) :
    Calls Try.prog 67 #[.pointer (some ⟨r, 0, none⟩), .int .i64 n] w fun en w' => ∃ v, en = .returned v ∧ Kept (Just r) w w' ∧ Bs w' lo hi v (s.raw n) ∧ Rd w' lo hi r (s.rawS n) := by
  have ok' := St.rawS_ok hr.1 n
  obtain ⟨ok, v, hb, hv⟩ := hr
  by_cases he : s.e = 0
  · by_cases hn : n ≤ s.l.length
    · have e1 : s.raw n = s.l.take n.toNat := if_pos ⟨he, hn⟩
      have e2 : s.rawS n = ⟨s.l.drop n.toNat, 0⟩ := by unfold St.rawS; rw [if_pos he, if_pos hn]
      rw [e2] at ok'
      rw [e1, e2]
      clear e1 e2 ok
      obtain ⟨l, e⟩ := s
      simp only at he hn hb hv ok' ⊢
      subst he
      obtain ⟨a, cap, rfl, g1, g2, g3⟩ := hv.shape
      have c0 := hb.cell 0
      have c1 := hb.cell 1
      have f0 := hb.free 0
      have f1 := hb.free 1
      simp at c0 c1
      by_cases h0 : n < 0
      · have ez : n.toNat = 0 := by omega
        rw [ez] at ok' ⊢
        obtain ⟨a1, s1, p1⟩ := slice_to tBytes zBytes hv .i64 0 (by omega) (by omega)
        obtain ⟨a2, s2, p2⟩ := slice_from tBytes zBytes hv .i64 0 (by omega) (by omega)
        simp only [Int.toNat_zero, Nat.sub_zero] at s1 s2 p1 p2
        have hw := hb.set 0 (.slice a2 l.length cap)
        have hk := Kept.one w r 0 (.slice a2 l.length cap)
        have q1 := p1.kept hk (fun k _ h e => by unfold Just at e; omega)
        have q2 := p2.kept hk (fun k _ h e => by unfold Just at e; omega)
        rw [← List.map_take] at q1
        rw [← List.map_drop] at q2
        have fin : ∃ v, Ending.returned (.slice a1 0 cap) = .returned v ∧ Kept (Just r) w (w.setCell ⟨r, 0, none⟩ (.slice a2 l.length cap)) ∧ Bs (w.setCell ⟨r, 0, none⟩ (.slice a2 l.length cap)) lo hi v (l.take 0) ∧ Rd (w.setCell ⟨r, 0, none⟩ (.slice a2 l.length cap)) lo hi r ⟨l.drop 0, 0⟩ :=
          ⟨_, rfl, hk, q1, ok', _, hw, q2⟩
        have hn0 : ¬ (l.length : Int) < 0 := by omega
        clear p1 p2 hw hk q1 q2 hv hb g3 ok' ez hn
        go_enter Try.func67, Try.ntmps67
        go_wp2
        go_ret
        exact fin
      · obtain ⟨a1, s1, p1⟩ := slice_to tBytes zBytes hv .i64 n (by omega) hn
        obtain ⟨a2, s2, p2⟩ := slice_from tBytes zBytes hv .i64 n (by omega) hn
        have hw := hb.set 0 (.slice a2 (l.length - n.toNat) (cap - n.toNat))
        have hk := Kept.one w r 0 (.slice a2 (l.length - n.toNat) (cap - n.toNat))
        have q1 := p1.kept hk (fun k _ h e => by unfold Just at e; omega)
        have q2 := p2.kept hk (fun k _ h e => by unfold Just at e; omega)
        rw [← List.map_take] at q1
        rw [← List.map_drop] at q2
        have fin : ∃ v, Ending.returned (.slice a1 n.toNat cap) = .returned v ∧ Kept (Just r) w (w.setCell ⟨r, 0, none⟩ (.slice a2 (l.length - n.toNat) (cap - n.toNat))) ∧ Bs (w.setCell ⟨r, 0, none⟩ (.slice a2 (l.length - n.toNat) (cap - n.toNat))) lo hi v (l.take n.toNat) ∧ Rd (w.setCell ⟨r, 0, none⟩ (.slice a2 (l.length - n.toNat) (cap - n.toNat))) lo hi r ⟨l.drop n.toNat, 0⟩ :=
          ⟨_, rfl, hk, q1, ok', _, hw, q2⟩
        clear p1 p2 hw hk q1 q2 hv hb g3 ok'
        go_enter Try.func67, Try.ntmps67
        go_wp2
        go_ret
        exact fin
    · have e1 : s.raw n = [] := if_neg (fun h => hn h.2)
      have e2 : s.rawS n = ⟨[], 21⟩ := by unfold St.rawS; rw [if_pos he, if_neg hn]
      rw [e2] at ok'
      rw [e1, e2]
      clear e1 e2 ok
      obtain ⟨l, e⟩ := s
      simp only at he hn hb hv ok' ⊢
      subst he
      obtain ⟨a, cap, rfl, g1, g2, g3⟩ := hv.shape
      have c0 := hb.cell 0
      have c1 := hb.cell 1
      simp at c0 c1
      have h0 : ¬ n < 0 := by omega
      have HB := hid hb
      have OK' := hid ok'
      clear hv g3 hb ok'
      go_enter Try.func67, Try.ntmps67
      go_wp2_with fail
      refine (fail r _ 0 21 w HB.out).mono ?_
      rintro e1 w1 ⟨rfl, h1, h2⟩
      go_wp2
      go_ret
      exact ⟨_, rfl, h2, Bs.nil _ _ _, OK'.out, _, h1, Bs.nil _ _ _⟩
  · have e1 : s.raw n = [] := if_neg (fun h => he h.1)
    have e2 : s.rawS n = s := if_neg he
    rw [e2] at ok'
    rw [e1, e2]
    have hfin : ∃ v, Ending.returned (.slice none 0 0) = .returned v ∧ Kept (Just r) w w ∧ Bs w lo hi v [] ∧ Rd w lo hi r s := ⟨_, rfl, Kept.refl _ _, Bs.nil _ _ _, ok, v, hb, hv⟩
    have c1 := hb.cell 1
    have he' : (s.e != 0) = true := by simpa using he
    simp at c1
    clear e1 e2 ok hb hv ok'
    go_enter Try.func67, Try.ntmps67
    go_wp2
    all_goals
      go_ret
      exact hfin

set_option maxHeartbeats 400000 in
/-- (*postmarkref1.Reader).Num. -/
theorem rnum (r : Nat) (lo hi : Nat) (s : St) (w : World) (hr : Rd w lo hi r s) (hlo : hi ≤ r) :
    Calls Try.prog 47 #[.pointer (some ⟨r, 0, none⟩)] w fun en w' => en = .returned (.int .u64 s.num) ∧ Kept (Just r) w w' ∧ Rd w' lo hi r s.numS := by
  have eS : s.rawS 8 = s.numS := by
    unfold St.rawS St.numS
    by_cases h : 8 ≤ s.l.length
    · rw [if_pos (show (8 : Int) ≤ s.l.length by omega), if_pos h]; rfl
    · rw [if_neg (show ¬ (8 : Int) ≤ s.l.length by omega), if_neg h]
  rw [← eS]
  by_cases hc : s.e = 0 ∧ 8 ≤ s.l.length
  · have eN : s.num = leV s.l := if_pos hc
    have eR : s.raw 8 = s.l.take 8 := by unfold St.raw; rw [if_pos ⟨hc.1, by omega⟩]; rfl
    have eE : (s.rawS 8).e = 0 := by unfold St.rawS; rw [if_pos hc.1]; rw [if_pos (by omega)]
    rw [eN, ← leV_take, ← eR]
    have hl : (s.raw 8).length = 8 := by rw [eR]; simp; omega
    have HL := hid hl
    have EE := hid eE
    clear eN eR hc eS hl eE
    go_enter Try.func47, Try.ntmps47
    go_wp2_with fail
    refine (rraw r lo hi s 8 w hr (by omega) (by omega) hlo).mono ?_
    rintro e1 w1 ⟨v, rfl, hk, hb, hr'⟩
    have hr2 := hr'
    obtain ⟨ok, v', hb', hv'⟩ := hr'
    rw [EE.out] at hb'
    have c1 := hb'.cell 1
    simp at c1
    clear hb' hv' ok
    go_wp2_with fail
    refine (word v lo hi _ w1 hb HL.out).mono ?_
    rintro e1 w2 ⟨rfl, rfl⟩
    go_wp2
    go_ret
    exact ⟨rfl, hk, hr2⟩
  · have eN : s.num = 0 := if_neg hc
    have eE : (s.rawS 8).e ≠ 0 := by
      unfold St.rawS
      by_cases h : s.e = 0
      · rw [if_pos h, if_neg (fun h2 => hc ⟨h, by omega⟩)]; decide
      · rw [if_neg h]; exact h
    rw [eN]
    have eB : ((s.rawS 8).e != 0) = true := by simpa using eE
    clear eN eS eE
    go_enter Try.func47, Try.ntmps47
    go_wp2_with fail
    refine (rraw r lo hi s 8 w hr (by omega) (by omega) hlo).mono ?_
    rintro e1 w1 ⟨v, rfl, hk, hb, hr'⟩
    have hr2 := hr'
    obtain ⟨ok, v', hb', hv'⟩ := hr'
    have c1 := hb'.cell 1
    simp at c1
    clear hb' hv' ok
    go_wp2
    go_ret
    exact ⟨rfl, hk, hr2⟩

set_option maxHeartbeats 1000000 in
/-- (*postmarkref1.Reader).Lump. -/
theorem rlump (r : Nat) (lo hi : Nat) (s : St) (m : Int) (w : World) (hr : Rd w lo hi r s) (h1 : -9223372036854775808 ≤ m) (h2 : m < 9223372036854775808) (hlo : hi ≤ r) :
    Calls Try.prog 66 #[.pointer (some ⟨r, 0, none⟩), .int .i64 m] w fun en w' => ∃ v, en = .returned v ∧ Kept (Just r) w w' ∧ Bs w' lo hi v (s.lump m) ∧ Rd w' lo hi r (s.lumpS m) := by
  have n0 := s.num_ge
  have n1 := s.num_lt
  have ok' : (s.lumpS m).Ok := St.lumpS_ok hr.1 m
  have OK' := hid ok'
  clear ok'
  by_cases he : s.numS.e = 0
  · have heB : (s.numS.e != 0) = false := by simpa using he
    by_cases hc : s.num ≤ max m 0
    · have e1 : s.lump m = s.numS.raw s.num := if_pos ⟨he, hc⟩
      have e2 : s.lumpS m = s.numS.rawS s.num := by unfold St.lumpS; rw [if_pos he, if_pos hc]
      rw [e1, e2]
      clear e1 e2 he
      by_cases hm : m < 0
      · have hc' : s.num ≤ 0 := by omega
        clear hc
        go_enter Try.func66, Try.ntmps66
        go_wp2_with fail
        refine (rnum r lo hi s w hr hlo).mono ?_
        rintro e1 w1 ⟨rfl, hk, hr'⟩
        have hr2 := hr'
        obtain ⟨ok, v', hb', hv'⟩ := hr'
        have c1 := hb'.cell 1
        simp at c1
        clear hb' hv' ok
        go_wp2_with fail
        refine (rraw r lo hi s.numS _ w1 hr2 (by omega) (by omega) hlo).mono ?_
        rintro e2 w2 ⟨v, rfl, hk2, hb2, hr3⟩
        go_wp2
        go_ret
        exact ⟨_, rfl, hk.trans hk2, hb2, hr3⟩
      · have hc' : s.num ≤ m := by omega
        clear hc
        go_enter Try.func66, Try.ntmps66
        go_wp2_with fail
        refine (rnum r lo hi s w hr hlo).mono ?_
        rintro e1 w1 ⟨rfl, hk, hr'⟩
        have hr2 := hr'
        obtain ⟨ok, v', hb', hv'⟩ := hr'
        have c1 := hb'.cell 1
        simp at c1
        clear hb' hv' ok
        go_wp2_with fail
        refine (rraw r lo hi s.numS _ w1 hr2 (by omega) (by omega) hlo).mono ?_
        rintro e2 w2 ⟨v, rfl, hk2, hb2, hr3⟩
        go_wp2
        go_ret
        exact ⟨_, rfl, hk.trans hk2, hb2, hr3⟩
    · have e1 : s.lump m = [] := if_neg (fun h => hc h.2)
      have e2 : s.lumpS m = ⟨[], 22⟩ := by unfold St.lumpS; rw [if_pos he, if_neg hc]
      rw [e1, e2]
      rw [e2] at OK'
      clear e1 e2
      by_cases hm : m < 0
      · have hc' : 0 < s.num := by omega
        clear hc he
        go_enter Try.func66, Try.ntmps66
        go_wp2_with fail
        refine (rnum r lo hi s w hr hlo).mono ?_
        rintro e1 w1 ⟨rfl, hk, hr'⟩
        obtain ⟨ok, v', hb', hv'⟩ := hr'
        have c1 := hb'.cell 1
        simp at c1
        have HB := hid hb'
        clear hb' hv' ok
        go_wp2_with fail
        refine (fail r v' s.numS.e 22 w1 HB.out).mono ?_
        rintro e2 w2 ⟨rfl, hb2, hk2⟩
        go_wp2
        go_ret
        exact ⟨_, rfl, hk.trans hk2, Bs.nil _ _ _, OK'.out, _, hb2, Bs.nil _ _ _⟩
      · have hc' : m < s.num := by omega
        clear hc he
        go_enter Try.func66, Try.ntmps66
        go_wp2_with fail
        refine (rnum r lo hi s w hr hlo).mono ?_
        rintro e1 w1 ⟨rfl, hk, hr'⟩
        obtain ⟨ok, v', hb', hv'⟩ := hr'
        have c1 := hb'.cell 1
        simp at c1
        have HB := hid hb'
        clear hb' hv' ok
        go_wp2_with fail
        refine (fail r v' s.numS.e 22 w1 HB.out).mono ?_
        rintro e2 w2 ⟨rfl, hb2, hk2⟩
        go_wp2
        go_ret
        exact ⟨_, rfl, hk.trans hk2, Bs.nil _ _ _, OK'.out, _, hb2, Bs.nil _ _ _⟩
  · have heB : (s.numS.e != 0) = true := by simpa using he
    have e1 : s.lump m = [] := if_neg (fun h => he h.1)
    have e2 : s.lumpS m = s.numS := by unfold St.lumpS; rw [if_neg he]
    rw [e1, e2]
    clear e1 e2 he
    go_enter Try.func66, Try.ntmps66
    go_wp2_with fail
    refine (rnum r lo hi s w hr hlo).mono ?_
    rintro e1 w1 ⟨rfl, hk, hr'⟩
    have hr2 := hr'
    obtain ⟨ok, v', hb', hv'⟩ := hr'
    have c1 := hb'.cell 1
    simp at c1
    clear hb' hv' ok
    go_wp2
    go_ret
    exact ⟨_, rfl, hk, Bs.nil _ _ _, hr2⟩
end Ref
end Go.Proofs.Ytbckjkfdkgomiaa
