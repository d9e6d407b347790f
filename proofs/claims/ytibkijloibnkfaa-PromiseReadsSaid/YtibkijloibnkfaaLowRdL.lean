/- Lump of both Readers: by contract. -/
import Derived.Test.YtibkijloibnkfaaLowRd
namespace Go.Proofs.Ytibkijloibnkfaa
open Go.RowKit Go.Pm
namespace Bin
set_option maxHeartbeats 400000 in
/-- (*bin.Reader).Lump. -/
theorem rlump (r : Nat) (lo hi : Nat) (s : St) (m : Int) (w : World) (hr : Rd w lo hi r s) (h1 : -9223372036854775808 ≤ m) (h2 : m < 9223372036854775808) (hlo : hi ≤ r) (hl : s.l.length ≤ 140737488355328) :
    Calls Try.prog 78 #[.pointer (some ⟨r, 0, none⟩), .int .i64 m] w fun en w' => ∃ v, en = .returned v ∧ Kept (Just r) w w' ∧ Ob w' w.heap.size v (s.lump m) ∧ Rd w' lo hi r (s.lumpS m) := by
  have n0 := s.num_ge
  have n1 := s.num_lt
  have nl : s.numS.l.length ≤ 140737488355328 := Nat.le_trans (St.numS_len s) hl
  have no : ¬ s.num ≤ max m 0 → s.numS.e = 0 ∧ s.lump m = [] ∧ s.lumpS m = ⟨[], firstErr s.numS.e 22⟩ := fun h => by
    have h0 : s.numS.e = 0 := by
      have h3 : s.e = 0 ∧ 8 ≤ s.l.length := by
        by_cases h4 : s.e = 0 ∧ 8 ≤ s.l.length
        · exact h4
        · have : s.num = 0 := if_neg h4
          omega
      unfold St.numS
      rw [if_pos h3.1, if_pos h3.2]
    refine ⟨h0, ?_, ?_⟩
    · unfold St.lump; rw [if_neg (fun h5 => h h5.2)]
    · unfold St.lumpS; rw [if_pos h0, if_neg h, h0]; rfl
  have yes : s.num ≤ max m 0 → s.lump m = s.numS.raw s.num ∧ s.lumpS m = s.numS.rawS s.num := fun h => by
    unfold St.lump St.lumpS
    by_cases h0 : s.numS.e = 0
    · rw [if_pos ⟨h0, h⟩, if_pos h0, if_pos h]; exact ⟨rfl, rfl⟩
    · rw [if_neg (fun h5 => h0 h5.1), if_neg h0]
      constructor
      · unfold St.raw; rw [if_neg (fun h5 => h0 h5.1)]
      · unfold St.rawS; rw [if_neg h0]
  have ok' : (s.lumpS m).Ok := St.lumpS_ok hr.1 m
  have NO := hid no
  have YES := hid yes
  have OK' := hid ok'
  clear no yes ok'
  by_cases hc : s.num ≤ max m 0
  · rw [(YES.out hc).1, (YES.out hc).2]
    by_cases hm : m < 0
    · have hc' : s.num ≤ 0 := by omega
      clear hc
      go_enter Try.func78, Try.ntmps78
      go_wp2_with fail
      refine (rnum r lo hi s w hr hlo).mono ?_
      rintro e1 w1 ⟨rfl, hk, hr'⟩
      have hsz := hk.size
      go_wp2_with fail
      refine (rraw r lo hi s.numS _ w1 hr' (by omega) (by omega) hlo nl).mono ?_
      rintro e2 w2 ⟨v, rfl, hk2, hb2, hr2⟩
      go_wp2
      go_ret
      exact ⟨_, rfl, hk.trans hk2, hb2.base hsz, hr2⟩
    · have hc' : s.num ≤ m := by omega
      clear hc
      go_enter Try.func78, Try.ntmps78
      go_wp2_with fail
      refine (rnum r lo hi s w hr hlo).mono ?_
      rintro e1 w1 ⟨rfl, hk, hr'⟩
      have hsz := hk.size
      go_wp2_with fail
      refine (rraw r lo hi s.numS _ w1 hr' (by omega) (by omega) hlo nl).mono ?_
      rintro e2 w2 ⟨v, rfl, hk2, hb2, hr2⟩
      go_wp2
      go_ret
      exact ⟨_, rfl, hk.trans hk2, hb2.base hsz, hr2⟩
  · rw [(NO.out hc).2.1, (NO.out hc).2.2]
    rw [(NO.out hc).2.2] at OK'
    by_cases hm : m < 0
    · have hc' : 0 < s.num := by omega
      clear hc
      go_enter Try.func78, Try.ntmps78
      go_wp2_with fail
      refine (rnum r lo hi s w hr hlo).mono ?_
      rintro e1 w1 ⟨rfl, hk, ok2, v, hb', hv'⟩
      go_wp2_with fail
      refine (fail r v s.numS.e 22 w1 hb').mono ?_
      rintro e2 w2 ⟨rfl, hb2, hk2⟩
      go_wp2
      go_ret
      exact ⟨_, rfl, hk.trans hk2, Bo.nil _ _ _, OK'.out, _, hb2, Bs.nil _ _ _⟩
    · have hc' : m < s.num := by omega
      clear hc
      go_enter Try.func78, Try.ntmps78
      go_wp2_with fail
      refine (rnum r lo hi s w hr hlo).mono ?_
      rintro e1 w1 ⟨rfl, hk, ok2, v, hb', hv'⟩
      go_wp2_with fail
      refine (fail r v s.numS.e 22 w1 hb').mono ?_
      rintro e2 w2 ⟨rfl, hb2, hk2⟩
      go_wp2
      go_ret
      exact ⟨_, rfl, hk.trans hk2, Bo.nil _ _ _, OK'.out, _, hb2, Bs.nil _ _ _⟩

end Bin
namespace Ref
set_option maxHeartbeats 1000000 in
/-- (*postmarkref1.Reader).Lump. -/
theorem rlump (r : Nat) (lo hi : Nat) (s : St) (m : Int) (w : World) (hr : Rd w lo hi r s) (h1 : -9223372036854775808 ≤ m) (h2 : m < 9223372036854775808) (hlo : hi ≤ r) :
    Calls Try.prog 79 #[.pointer (some ⟨r, 0, none⟩), .int .i64 m] w fun en w' => ∃ v, en = .returned v ∧ Kept (Just r) w w' ∧ Bs w' lo hi v (s.lump m) ∧ Rd w' lo hi r (s.lumpS m) := by
  have n0 := s.num_ge
  have n1 := s.num_lt
  have ok' : (s.lumpS m).Ok := St.lumpS_ok hr.1 m
  have OK' := hid ok'
  clear ok'
  by_cases he : s.numS.e = 0
  · have heB : (s.numS.e != 0) = false := by simpa using he
    by_cases hc : s.num ≤ max m 0
    · have e1 : s.lump m = s.numS.raw s.num := if_pos ⟨he, hc⟩
      have e2 : s.lumpS m = s.numS.rawS s.num := by unfold St.lumpS; rw [if_pos he, if_pos hc]
      rw [e1, e2]
      clear e1 e2 he
      by_cases hm : m < 0
      · have hc' : s.num ≤ 0 := by omega
        clear hc
        go_enter Try.func79, Try.ntmps79
        go_wp2_with fail
        refine (rnum r lo hi s w hr hlo).mono ?_
        rintro e1 w1 ⟨rfl, hk, hr'⟩
        have hr2 := hr'
        obtain ⟨ok, v', hb', hv'⟩ := hr'
        have c1 := hb'.cell 1
        simp at c1
        clear hb' hv' ok
        go_wp2_with fail
        refine (rraw r lo hi s.numS _ w1 hr2 (by omega) (by omega) hlo).mono ?_
        rintro e2 w2 ⟨v, rfl, hk2, hb2, hr3⟩
        go_wp2
        go_ret
        exact ⟨_, rfl, hk.trans hk2, hb2, hr3⟩
      · have hc' : s.num ≤ m := by omega
        clear hc
        go_enter Try.func79, Try.ntmps79
        go_wp2_with fail
        refine (rnum r lo hi s w hr hlo).mono ?_
        rintro e1 w1 ⟨rfl, hk, hr'⟩
        have hr2 := hr'
        obtain ⟨ok, v', hb', hv'⟩ := hr'
        have c1 := hb'.cell 1
        simp at c1
        clear hb' hv' ok
        go_wp2_with fail
        refine (rraw r lo hi s.numS _ w1 hr2 (by omega) (by omega) hlo).mono ?_
        rintro e2 w2 ⟨v, rfl, hk2, hb2, hr3⟩
        go_wp2
        go_ret
        exact ⟨_, rfl, hk.trans hk2, hb2, hr3⟩
    · have e1 : s.lump m = [] := if_neg (fun h => hc h.2)
      have e2 : s.lumpS m = ⟨[], 22⟩ := by unfold St.lumpS; rw [if_pos he, if_neg hc]
      rw [e1, e2]
      rw [e2] at OK'
      clear e1 e2
      by_cases hm : m < 0
      · have hc' : 0 < s.num := by omega
        clear hc he
        go_enter Try.func79, Try.ntmps79
        go_wp2_with fail
        refine (rnum r lo hi s w hr hlo).mono ?_
        rintro e1 w1 ⟨rfl, hk, hr'⟩
        obtain ⟨ok, v', hb', hv'⟩ := hr'
        have c1 := hb'.cell 1
        simp at c1
        have HB := hid hb'
        clear hb' hv' ok
        go_wp2_with fail
        refine (fail r v' s.numS.e 22 w1 HB.out).mono ?_
        rintro e2 w2 ⟨rfl, hb2, hk2⟩
        go_wp2
        go_ret
        exact ⟨_, rfl, hk.trans hk2, Bs.nil _ _ _, OK'.out, _, hb2, Bs.nil _ _ _⟩
      · have hc' : m < s.num := by omega
        clear hc he
        go_enter Try.func79, Try.ntmps79
        go_wp2_with fail
        refine (rnum r lo hi s w hr hlo).mono ?_
        rintro e1 w1 ⟨rfl, hk, hr'⟩
        obtain ⟨ok, v', hb', hv'⟩ := hr'
        have c1 := hb'.cell 1
        simp at c1
        have HB := hid hb'
        clear hb' hv' ok
        go_wp2_with fail
        refine (fail r v' s.numS.e 22 w1 HB.out).mono ?_
        rintro e2 w2 ⟨rfl, hb2, hk2⟩
        go_wp2
        go_ret
        exact ⟨_, rfl, hk.trans hk2, Bs.nil _ _ _, OK'.out, _, hb2, Bs.nil _ _ _⟩
  · have heB : (s.numS.e != 0) = true := by simpa using he
    have e1 : s.lump m = [] := if_neg (fun h => he h.1)
    have e2 : s.lumpS m = s.numS := by unfold St.lumpS; rw [if_neg he]
    rw [e1, e2]
    clear e1 e2 he
    go_enter Try.func79, Try.ntmps79
    go_wp2_with fail
    refine (rnum r lo hi s w hr hlo).mono ?_
    rintro e1 w1 ⟨rfl, hk, hr'⟩
    have hr2 := hr'
    obtain ⟨ok, v', hb', hv'⟩ := hr'
    have c1 := hb'.cell 1
    simp at c1
    clear hb' hv' ok
    go_wp2
    go_ret
    exact ⟨_, rfl, hk, Bs.nil _ _ _, hr2⟩
end Ref
end Go.Proofs.Ytibkijloibnkfaa
