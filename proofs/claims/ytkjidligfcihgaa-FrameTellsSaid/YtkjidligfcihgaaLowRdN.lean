/- Package bin, its Reader: New, take, Num, each function by its contract. -/
import Derived.Test.YtkjidligfcihgaaLowBin
namespace Go.Proofs.Ytkjidligfcihgaa
open Go.RowKit Go.Pm

namespace Bin
/-- A Reader of package bin at block r: its bytes lie in blocks from lo on, below hi. -/
def Rd (w : World) (lo hi r : Nat) (s : St) : Prop := s.Ok ∧ ∃ v, Blk w r #[v, .int .i64 s.e] 64 ∧ Bs w lo hi v s.l
theorem Rd.kept {S : Nat → Prop} {w w' : World} {lo hi r : Nat} {s : St} (h : Rd w lo hi r s) (hk : Kept S w w') (h1 : ∀ k, lo ≤ k → k < hi → ¬ S k) (h2 : ¬ S r) : Rd w' lo hi r s := by
  obtain ⟨ok, v, hb, hv⟩ := h
  exact ⟨ok, v, hb.kept hk h2, hv.kept hk h1⟩
theorem Rd.lt {w : World} {lo hi r : Nat} {s : St} (h : Rd w lo hi r s) : r < w.heap.size := by
  obtain ⟨ok, v, hb, hv⟩ := h
  exact hb.lt

/-- bytes.Clone. -/
theorem clone (v : Value) (lo hi : Nat) (l : List UInt8) (w : World) (hv : Bs w lo hi v l) (hl : l.length ≤ 140737488355328) :
    Calls Try.prog 19 #[v] w fun en w' => ∃ v', en = .returned v' ∧ Kept None w w' ∧ Ob w' w.heap.size v' l := by
  obtain ⟨a, cap, rfl, g1, g2, g3⟩ := hv.shape
  cases a with
  | none =>
    have := g3 rfl
    subst this
    have hn : l = [] := List.eq_nil_of_length_eq_zero (by omega)
    subst hn
    have e1 := @Lib.run_eql_slice_nil Try.prog
    go_enter Try.func19, Try.ntmps19
    go_wp2
    go_ret
    exact ⟨_, rfl, Kept.refl _ _, Bo.nil _ _ _⟩
  | some ad =>
    have e1 := @Lib.run_eql_slice_nil Try.prog
    clear g3
    go_enter Try.func19, Try.ntmps19
    go_wp2_with (at_builtin; refine wpList_append_bo (l := []) (m := l) (base := w.heap.size) (lo := lo) (hi := hi) rfl _ _ 22 rfl rtBytes rfl rfl ?h1 ?h2 ?h3 ?h4 ?h5)
    case h1 => exact Bo.new w 5 [] #[] rfl 0 rfl (by decide)
    case h2 => exact hv.kept ((Kept.refl None _).alloc _) (fun _ _ _ h => h)
    case h3 => simpa using hl
    case h4 => simp
    intro a' n' cap' w' hb hk
    have hk' := Kept.own ((Kept.refl None w).alloc (Obj.cells #[] 5)) hk (fun k hk => by simp [Value.ownBlock] at hk; omega)
    go_wp2
    go_ret
    exact ⟨_, rfl, hk', by simpa using hb⟩

/-- The first error stays. -/
def firstErr (e e' : Int) : Int := if e = 0 then e' else e

set_option maxHeartbeats 400000 in
theorem fail (r : Nat) (v : Value) (e e' : Int) (w : World) (hb : Blk w r #[v, .int .i64 e] 64) :
    Calls Try.prog 39 #[.pointer (some ⟨r, 0, none⟩), .int .i64 e'] w fun en w' => en = .returned (.tuple #[]) ∧ Blk w' r #[.slice none 0 0, .int .i64 (firstErr e e')] 64 ∧ Kept (Just r) w w' := by
  have c0 := hb.cell 0
  have c1 := hb.cell 1
  have f0 := hb.free 0
  have f1 := hb.free 1
  have r1 : Blk ((w.setCell ⟨r, 1, none⟩ (.int .i64 e')).setCell ⟨r, 0, none⟩ (.slice none 0 0)) r #[.slice none 0 0, .int .i64 e'] 64 := (hb.set 1 _).set 0 _
  have r2 : Blk (w.setCell ⟨r, 0, none⟩ (.slice none 0 0)) r #[.slice none 0 0, .int .i64 e] 64 := hb.set 0 _
  have k1 : Kept (Just r) w ((w.setCell ⟨r, 1, none⟩ (.int .i64 e')).setCell ⟨r, 0, none⟩ (.slice none 0 0)) := (Kept.one w r 1 _).one' 0 _
  have k2 : Kept (Just r) w (w.setCell ⟨r, 0, none⟩ (.slice none 0 0)) := Kept.one w r 0 _
  simp at c0 c1
  by_cases he : e = 0
  · subst he
    have e1 : firstErr 0 e' = e' := rfl
    rw [e1]
    go_enter Try.func39, Try.ntmps39
    go_wp2
    go_end0
    exact ⟨rfl, r1, k1⟩
  · have e1 : firstErr e e' = e := if_neg he
    rw [e1]
    have he' : (e == 0) = false := by simpa using he
    clear e1
    go_enter Try.func39, Try.ntmps39
    go_wp2
    go_end0
    exact ⟨rfl, r2, k2⟩

/-- take, where there are so many. -/
theorem take_yes (r : Nat) (lo hi : Nat) (s : St) (n : Int) (w : World) (hr : Rd w lo hi r s) (h0 : 0 ≤ n) (h1 : n ≤ s.l.length) (hlo : hi ≤ r) :
    Calls Try.prog 36 #[.pointer (some ⟨r, 0, none⟩), .int .i64 n] w fun en w' => ∃ v, en = .returned v ∧ Kept (Just r) w w' ∧ Bs w' lo hi v (s.raw n) ∧ Rd w' lo hi r (s.rawS n) := by
  have ok' := St.rawS_ok hr.1 n
  obtain ⟨ok, v, hb, hv⟩ := hr
  have e1 : s.raw n = s.l.take n.toNat := by
    unfold St.raw
    by_cases he : s.e = 0
    · rw [if_pos ⟨he, h1⟩]
    · rw [if_neg (fun h => he h.1), ok he]; simp
  have e2 : s.rawS n = ⟨s.l.drop n.toNat, s.e⟩ := by
    unfold St.rawS
    by_cases he : s.e = 0
    · rw [if_pos he, if_pos h1, he]
    · rw [if_neg he]; obtain ⟨l, e⟩ := s; have := ok he; simp only at this; subst this; simp
  rw [e2] at ok'
  rw [e1, e2]
  clear e1 e2 ok
  obtain ⟨l, e⟩ := s
  simp only at h1 hb hv ok' ⊢
  obtain ⟨a, cap, rfl, g1, g2, g3⟩ := hv.shape
  have c0 := hb.cell 0
  have c1 := hb.cell 1
  have f0 := hb.free 0
  have f1 := hb.free 1
  simp at c0 c1
  obtain ⟨a1, s1, p1⟩ := slice_to tBytes zBytes hv .i64 n h0 h1
  obtain ⟨a2, s2, p2⟩ := slice_from tBytes zBytes hv .i64 n h0 h1
  have hw := hb.set 0 (.slice a2 (l.length - n.toNat) (cap - n.toNat))
  have hk := Kept.one w r 0 (.slice a2 (l.length - n.toNat) (cap - n.toNat))
  have q1 := p1.kept hk (fun k _ h e => by unfold Just at e; omega)
  have q2 := p2.kept hk (fun k _ h e => by unfold Just at e; omega)
  rw [← List.map_take] at q1
  rw [← List.map_drop] at q2
  have fin : ∃ v, Ending.returned (.slice a1 n.toNat cap) = .returned v ∧ Kept (Just r) w (w.setCell ⟨r, 0, none⟩ (.slice a2 (l.length - n.toNat) (cap - n.toNat))) ∧ Bs (w.setCell ⟨r, 0, none⟩ (.slice a2 (l.length - n.toNat) (cap - n.toNat))) lo hi v (l.take n.toNat) ∧ Rd (w.setCell ⟨r, 0, none⟩ (.slice a2 (l.length - n.toNat) (cap - n.toNat))) lo hi r ⟨l.drop n.toNat, e⟩ :=
    ⟨_, rfl, hk, q1, ok', _, hw, q2⟩
  clear p1 p2 hw hk q1 q2 hv hb g3 ok'
  go_enter Try.func36, Try.ntmps36
  go_wp2
  go_ret
  exact fin

theorem take_no (r : Nat) (lo hi : Nat) (s : St) (n : Int) (w : World) (hr : Rd w lo hi r s) (_h0 : 0 ≤ n) (_h2 : n < 9223372036854775808) (h1 : s.l.length < n) :
    Calls Try.prog 36 #[.pointer (some ⟨r, 0, none⟩), .int .i64 n] w fun en w' => ∃ v, en = .returned v ∧ Kept (Just r) w w' ∧ Bs w' lo hi v (s.raw n) ∧ Rd w' lo hi r (s.rawS n) := by
  have ok' := St.rawS_ok hr.1 n
  obtain ⟨ok, v, hb, hv⟩ := hr
  have e1 : s.raw n = [] := by
    unfold St.raw
    rw [if_neg (fun h => by omega)]
  have e2 : s.rawS n = ⟨[], firstErr s.e 21⟩ := by
    unfold St.rawS firstErr
    by_cases he : s.e = 0
    · rw [if_pos he, if_neg (by omega), if_pos he]
    · rw [if_neg he, if_neg he, ← ok he]
  rw [e2] at ok'
  rw [e1, e2]
  clear e1 e2 ok
  obtain ⟨l, e⟩ := s
  simp only at h1 hb hv ok' ⊢
  obtain ⟨a, cap, rfl, g1, g2, g3⟩ := hv.shape
  have c0 := hb.cell 0
  have c1 := hb.cell 1
  simp at c0 c1
  clear hv g3
  have HB := hid hb
  clear hb
  go_enter Try.func36, Try.ntmps36
  go_wp2_with fail
  refine (fail r _ e 21 w HB.out).mono ?_
  rintro e1 w1 ⟨rfl, h1, h2⟩
  go_wp2
  go_ret
  exact ⟨_, rfl, h2, Bs.nil _ _ _, ok', _, h1, Bs.nil _ _ _⟩

/-- (*bin.Reader).take. -/
theorem take (r : Nat) (lo hi : Nat) (s : St) (n : Int) (w : World) (hr : Rd w lo hi r s) (h0 : 0 ≤ n) (h2 : n < 9223372036854775808) (hlo : hi ≤ r) :
    Calls Try.prog 36 #[.pointer (some ⟨r, 0, none⟩), .int .i64 n] w fun en w' => ∃ v, en = .returned v ∧ Kept (Just r) w w' ∧ Bs w' lo hi v (s.raw n) ∧ Rd w' lo hi r (s.rawS n) := by
  by_cases h : n ≤ s.l.length
  · exact take_yes r lo hi s n w hr h0 h hlo
  · exact take_no r lo hi s n w hr h0 h2 (by omega)

set_option maxHeartbeats 1000000 in
/-- (*bin.Reader).Num. -/
theorem rnum (r : Nat) (lo hi : Nat) (s : St) (w : World) (hr : Rd w lo hi r s) (hlo : hi ≤ r) :
    Calls Try.prog 29 #[.pointer (some ⟨r, 0, none⟩)] w fun en w' => en = .returned (.int .u64 s.num) ∧ Kept (Just r) w w' ∧ Rd w' lo hi r s.numS := by
  have eS : s.rawS 8 = s.numS := by
    unfold St.rawS St.numS
    by_cases h : 8 ≤ s.l.length
    · rw [if_pos (show (8 : Int) ≤ s.l.length by omega), if_pos h]; rfl
    · rw [if_neg (show ¬ (8 : Int) ≤ s.l.length by omega), if_neg h]
  rw [← eS]
  by_cases hc : s.e = 0 ∧ 8 ≤ s.l.length
  · have eN : s.num = leV s.l := if_pos hc
    have eR : s.raw 8 = s.l.take 8 := by unfold St.raw; rw [if_pos ⟨hc.1, by omega⟩]; rfl
    rw [eN, ← leV_take, ← eR]
    have hl : (s.raw 8).length = 8 := by rw [eR]; simp; omega
    have hv : leV (s.raw 8) = leV (s.raw 8) := rfl
    conv at hv => rhs; unfold leV
    generalize leV (s.raw 8) = V at hv ⊢
    have HV := hid hv
    clear hv eN eR hc eS
    go_enter Try.func29, Try.ntmps29
    go_wp2_with fail
    refine (take r lo hi s 8 w hr (by omega) (by omega) hlo).mono ?_
    rintro e1 w1 ⟨v, rfl, hk, hb, hr'⟩
    obtain ⟨b, o, cap, rfl, g1, g2, q1, q2, q3, hc⟩ := Bs.lit hb 8 hl (by omega)
    have c0 := hc 0 (by omega)
    have c1 := hc 1 (by omega)
    have c2 := hc 2 (by omega)
    have c3 := hc 3 (by omega)
    have c4 := hc 4 (by omega)
    have c5 := hc 5 (by omega)
    have c6 := hc 6 (by omega)
    have c7 := hc 7 (by omega)
    simp only [Nat.add_zero] at c0
    have B := fun i => bAt_lt (s.raw 8) i
    have A := fun i => bAt_ge (s.raw 8) i
    clear hc hb hl
    have b0 := B 0
    have a0 := A 0
    have b1 := B 1
    have a1 := A 1
    have b2 := B 2
    have a2 := A 2
    have b3 := B 3
    have a3 := A 3
    have b4 := B 4
    have a4 := A 4
    have b5 := B 5
    have a5 := A 5
    have b6 := B 6
    have a6 := A 6
    have b7 := B 7
    have a7 := A 7
    clear A B
    generalize bAt (s.raw 8) 0 = x0 at *
    generalize bAt (s.raw 8) 1 = x1 at *
    generalize bAt (s.raw 8) 2 = x2 at *
    generalize bAt (s.raw 8) 3 = x3 at *
    generalize bAt (s.raw 8) 4 = x4 at *
    generalize bAt (s.raw 8) 5 = x5 at *
    generalize bAt (s.raw 8) 6 = x6 at *
    generalize bAt (s.raw 8) 7 = x7 at *
    go_wp2
    refine wp_loop_rounds 9 ?_
    iterate 9 (rw [rounds_succ]; go_wp2)
    go_ret
    refine ⟨?_, hk, hr'⟩
    rw [HV.out, ← or_up x0 x1 x2 x3 x4 x5 x6 x7 a0 b0 a1 b1 a2 b2 a3 b3 a4 b4 a5 b5 a6 b6 a7 b7]
    rfl
  · have eN : s.num = 0 := if_neg hc
    have eR : s.raw 8 = [] := by unfold St.raw; rw [if_neg (fun h => hc ⟨h.1, by omega⟩)]
    rw [eN]
    clear eN eS
    go_enter Try.func29, Try.ntmps29
    go_wp2_with fail
    refine (take r lo hi s 8 w hr (by omega) (by omega) hlo).mono ?_
    rintro e1 w1 ⟨v, rfl, hk, hb, hr'⟩
    rw [eR] at hb
    obtain ⟨a, cap, rfl, g1, g2, g3⟩ := hb.shape
    simp only [List.length_nil]
    clear eR g3 hb
    go_wp2
    refine wp_loop_rounds 1 ?_
    rw [rounds_succ]
    go_wp2
    go_ret
    exact ⟨rfl, hk, hr'⟩

theorem reach {s : St} {n : Int} {m : Nat} (h : s.l.length ≤ m) : (s.raw n).length ≤ m := Nat.le_trans (St.raw_len s n) h

/-- bin.New. -/
theorem new (v : Value) (lo hi : Nat) (l : List UInt8) (w : World) (hv : Bs w lo hi v l) (hl : l.length ≤ 140737488355328) :
    Calls Try.prog 28 #[v] w fun en w' => ∃ r, en = .returned (.pointer (some ⟨r, 0, none⟩)) ∧ Kept None w w' ∧ w.heap.size ≤ r ∧ Rd w' w.heap.size r r ⟨l, 0⟩ := by
  go_enter Try.func28, Try.ntmps28
  go_wp2_with fail
  refine (clone v lo hi l w hv hl).mono ?_
  rintro e1 w1 ⟨v1, rfl, hk, hb⟩
  have hs := hb.bs (Nat.le_refl _)
  obtain ⟨a, cap, rfl⟩ := hb.form
  have hsz := hk.size
  clear hb
  go_wp2
  go_ret
  refine ⟨_, rfl, hk.alloc _, hsz, fun h => absurd rfl h, _, Blk.new _ _ _, ?_⟩
  exact hs.kept ((Kept.refl None _).alloc _) (fun _ _ _ h => h)

end Bin
end Go.Proofs.Ytkjidligfcihgaa
