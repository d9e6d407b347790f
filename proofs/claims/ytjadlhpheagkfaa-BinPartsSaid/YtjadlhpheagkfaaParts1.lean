/- postmarklaw1.BinParts: true. -/
import Derived.Test.YtjadlhpheagkfaaKnown1
import Derived.Deep.QuietTactic
import Derived.BigQuiet
namespace Go.Proofs.Ytjadlhpheagkfaa
open Go.RowKit Go.Pm

set_option maxHeartbeats 2000000 in
theorem binParts (v u : Value) (lo hi lo' hi' : Nat) (l m : List UInt8) (w : World) (hv : Bs w lo hi v l) (hu : Bs w lo' hi' u m) (hhi : hi ≤ w.heap.size) :
    Calls Try.prog 6 #[v, u] w fun e w' => e = .returned (.bool true) ∧ Kept None w w' := by
  obtain ⟨a, cap, rfl, g1, g2, g3⟩ := hv.shape
  obtain ⟨a', cap', rfl, g1', g2', g3'⟩ := hu.shape
  by_cases hl : 100 < l.length
  · go_enter Try.func6, Try.ntmps6
    go_wp2_with fail
    refine (known w).mono ?_
    rintro e1 w1 ⟨rfl, k1⟩
    go_wp2
    go_ret
    exact ⟨rfl, k1⟩
  by_cases hl' : 30 < m.length
  · go_enter Try.func6, Try.ntmps6
    go_wp2_with fail
    refine (known w).mono ?_
    rintro e1 w1 ⟨rfl, k1⟩
    go_wp2
    go_ret
    exact ⟨rfl, k1⟩
  have d1 : decide (100 < (l.length : Int)) = false := by simp; omega
  have d2 : decide (30 < (m.length : Int)) = false := by simp; omega
  go_enter Try.func6, Try.ntmps6
  go_wp2_with fail
  refine (known w).mono ?_
  rintro e1 w1 ⟨rfl, k1⟩
  have hv1 := hv.kept k1 (fun _ _ _ h => h)
  go_wp2_with fail
  refine (Bin.new _ _ _ _ _ hv1 (by omega)).mono ?_
  rintro e2 w2 ⟨r, rfl, k2, hr, rd2⟩
  have k02 := k1.then k2 (fun _ _ h => h)
  have s1 := k1.size
  have s2 := k02.size
  have hr2 := rd2.lt
  have hwr : w.heap.size ≤ r := by omega
  clear hv1 k1 k2
  go_wp2_with fail
  go_loopw [6, 7] (fun o i wr => ∃ k q : Nat, k ≤ m.length ∧ i = .int .i64 k ∧ q ≤ l.length ∧ (∃ a n c, o = .slice a n c) ∧ Ob wr w2.heap.size o (l.take q) ∧ Kept None w wr ∧ w2.heap.size ≤ wr.heap.size ∧ Bin.Rd wr w1.heap.size r r ⟨l.drop q, 0⟩) (fun _ i _ => m.length - (intOf i).toNat)
  case atStart => exact ⟨0, 0, by omega, rfl, by omega, ⟨_, _, _, rfl⟩, Bo.nil _ _ _, k02, Nat.le_refl _, rd2⟩
  case round =>
    obtain ⟨k, q, hk, rfl, hq, ⟨ao, no, co, rfl⟩, hb, hkk, hsz, hrd⟩ := hrel
    by_cases hlt : k < m.length
    · have huw := hu.kept hkk (fun _ _ _ h => h)
      obtain ⟨b, o, rfl, q1, q2, q3, hc⟩ := Bs.ne huw (by omega)
      have hc' := hc k hlt
      have c0 := bAt_ge m k
      have c1 := bAt_lt m k
      generalize bAt m k = c at *
      clear hc huw g3'
      have hL : ∀ n, Calls Try.prog 21 #[.pointer (some ⟨r, 0, none⟩)] (wr.drewN n) fun e w' => e = .returned (.int .i64 ((l.length - q : Nat) : Int)) ∧ w' = wr.drewN n := fun n => by
        have := Calls.same (Bin.rleft r _ _ _ _ (hrd.kept (Kept.toDrewN None wr n) (fun _ _ _ h => h) (fun h => h)) (by simp; omega))
        simpa using this
      have hlq : (l.length - q : Nat) ≤ 100 := by omega
      have key : ∀ (x : Int) (W : World) (base : Nat) (v : Value), Ob W base v (St.raw ⟨l.drop q, 0⟩ x) → 0 ≤ x → x ≤ ((l.length - q : Nat) : Int) →
          ∃ j : Nat, q + j ≤ l.length ∧ Ob W base v ((l.drop q).take j) ∧ St.rawS ⟨l.drop q, 0⟩ x = ⟨l.drop (q + j), 0⟩ ∧ l.take q ++ (l.drop q).take j = l.take (q + j) ∧ ((l.drop q).take j).length ≤ 100 := fun x W base v h h0 h1 => by
        unfold St.raw at h
        rw [if_pos ⟨rfl, by simpa using h1⟩] at h
        unfold St.rawS
        rw [if_pos rfl, if_pos (by simpa using h1), List.drop_drop]
        exact ⟨x.toNat, by omega, h, rfl, by rw [List.take_add], by simp; omega⟩
      have KEY := hid key
      clear key
      go_wp2_with fail
      go_quiet ((go_at_call 21; exact Calls.quiet_of_same (hL _)))
      have kq := Kept.toDrewN None wr nq
      have hrd' := hrd.kept kq (fun _ _ _ h => h) (fun h => h)
      have hb' := hb.kept kq (fun _ _ h => h)
      have hkk' := hkk.then kq (fun _ _ h => h)
      have hsz' : w2.heap.size ≤ (wr.drewN nq).heap.size := hsz
      clear hL hb hkk hsz hrd kq
      generalize wr.drewN nq = wx at *
      go_wp2_with fail
      all_goals
        refine (Bin.rraw _ _ _ _ _ _ hrd' (by omega) (by omega) (Nat.le_refl _) (by simp; omega)).mono ?_
        rintro e3 w3 ⟨v3, rfl, k3, b3, rd3⟩
        obtain ⟨j, hj, b3', hS, hT, hJ⟩ := KEY.out _ _ _ _ b3 (by omega) (by omega)
        rw [hS] at rd3
        have HT := hid hT
        have k03 := hkk'.then k3 (fun i hi (h : i = r) => by omega)
        have hb3 := hb'.kept k3 (fun k hk (h : k = r) => by have := (hb'.own k hk).1; omega)
        have s3 := k3.size
        clear hb' hkk' hrd' k3 KEY b3 hS hT
        go_wp2_with (at_builtin; refine wpList_append_bo (base := w2.heap.size) (lo := 0) (hi := w3.heap.size) rfl _ _ 22 rfl rtBytes rfl rfl hb3 (b3'.bs (Nat.le_refl _)).all ?x3 ?x4 ?x5)
        case x3 => have h1 : (l.take q).length ≤ 100 := by simp; omega
                   omega
        case x4 => omega
        case x5 =>
          intro a4 n4 c4 w4 b4 k4
          rw [HT.out] at b4
          have k04 := Kept.own k03 k4 (fun k hk => by have := (hb3.own k hk).1; omega)
          have rd4 := rd3.kept k4 (fun k h1 h2 (h : _ = _) => by have := (hb3.own k h).1; omega) (fun h => by have := (hb3.own r h).1; omega)
          have s4 := k4.size
          clear k03 k4 hb3 b3' rd3 HT hJ
          go_wp2
          go_roundw
          case rel => exact ⟨k + 1, _, by omega, by go_num, by omega, ⟨_, _, _, rfl⟩, b4, k04, by omega, rd4⟩
          case measure => simp [intOf]; omega
    · have hno : no = q := by
        obtain ⟨_, _, hf⟩ := hb.form
        injection hf with _ h2 _
        rw [h2]; simp; omega
      subst hno
      have hv2 := hv.kept hkk (fun _ _ _ h => h)
      have eL : (St.mk (l.drop no) 0).l.length = l.length - no := by simp
      have hcast : ((l.length - no : Nat) : Int) = (l.length : Int) - no := by omega
      have E := hid (And.intro eL hcast)
      clear eL hcast g3 g3' hu hv rd2 k02
      go_wp2_with fail
      refine (Bin.rleft _ _ _ _ _ hrd (by simp; omega)).mono ?_
      rintro e3 w3 ⟨rfl, rfl⟩
      rw [E.out.1, E.out.2]
      go_wp2_with fail
      refine (Bin.rleft _ _ _ _ _ hrd (by simp; omega)).mono ?_
      rintro e3 w3 ⟨rfl, rfl⟩
      rw [E.out.1]
      go_wp2_with fail
      refine (Bin.rraw _ _ _ _ _ _ hrd (by omega) (by omega) (Nat.le_refl _) (by simp; omega)).mono ?_
      rintro e4 w4 ⟨v4, rfl, k4, b4, rd4⟩
      have eR : St.raw ⟨l.drop no, 0⟩ ((l.length - no : Nat) : Int) = l.drop no := by
        unfold St.raw; rw [if_pos ⟨rfl, by simp⟩, Int.toNat_natCast]; exact List.take_of_length_le (by simp)
      have eS : St.rawS ⟨l.drop no, 0⟩ ((l.length - no : Nat) : Int) = ⟨[], 0⟩ := by
        unfold St.rawS; rw [if_pos rfl, if_pos (by simp), Int.toNat_natCast, List.drop_of_length_le (by simp)]
      rw [eR] at b4
      rw [eS] at rd4
      have k04 := hkk.then k4 (fun i hi (h : i = r) => by omega)
      have hb4 := hb.kept k4 (fun k hk (h : k = r) => by have := (hb.own k hk).1; omega)
      have s4 := k4.size
      have hv4 := hv2.kept k4 (fun k h1 h2 (h : k = r) => by omega)
      clear eR eS hb hkk hrd k4 hv2 E
      go_wp2_with (at_builtin; refine wpList_append_bo (base := w2.heap.size) (lo := 0) (hi := w4.heap.size) rfl _ _ 22 rfl rtBytes rfl rfl hb4 (b4.bs (Nat.le_refl _)).all ?y3 ?y4 ?y5)
      case y3 => simp; omega
      case y4 => omega
      case y5 =>
        intro a5 n5 c5 w5 b5 k5
        have k05 := Kept.own k04 k5 (fun k hk => by have := (hb4.own k hk).1; omega)
        have rd5 := rd4.kept k5 (fun k h1 h2 (h : _ = _) => by have := (hb4.own k h).1; omega) (fun h => by have := (hb4.own r h).1; omega)
        have hv5 := hv4.kept k5 (fun k h1 h2 (h : _ = _) => by have := (hb4.own k h).1; omega)
        have cA := cvBytes (b5.bs (Nat.le_refl _))
        have cB := cvBytes hv5
        have s5 := k05.size
        clear k04 k5 hb4 b4 rd4 hv4 hv5 b5
        go_wp2_with fail
        refine (Bin.rleft _ _ _ _ _ rd5 (by decide)).mono ?_
        rintro e6 w6 ⟨rfl, rfl⟩
        simp only [List.length_nil]
        go_wp2_with fail
        refine (Bin.rerr _ _ _ _ _ rd5).mono ?_
        rintro e6 w6 ⟨rfl, rfl⟩
        go_wp2_with fail
        refine (Bin.rraw _ _ _ _ (-5) _ rd5 (by omega) (by omega) (Nat.le_refl _) (by decide)).mono ?_
        rintro e7 w7 ⟨v7, rfl, k7, b7, rd7⟩
        rw [show St.raw ⟨[], 0⟩ (-5) = [] from rfl] at b7
        rw [show St.rawS ⟨[], 0⟩ (-5) = ⟨[], 0⟩ from rfl] at rd7
        obtain ⟨a7, c7, rfl⟩ := b7.form
        simp only [List.length_nil]
        have k07 := k05.then k7 (fun i hi (h : i = r) => by omega)
        clear k05 k7 rd5 b7
        go_wp2_with fail
        refine (Bin.rerr _ _ _ _ _ rd7).mono ?_
        rintro e8 w8 ⟨rfl, rfl⟩
        go_wp2
        go_ret
        exact ⟨rfl, k07⟩
end Go.Proofs.Ytjadlhpheagkfaa
