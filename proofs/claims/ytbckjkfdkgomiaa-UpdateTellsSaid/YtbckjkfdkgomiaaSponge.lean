/- Package sponge: each function by its contract, over the plain functions of Spec2. So far: turn, spread, Perm. -/
import Derived.Test.YtbckjkfdkgomiaaBinA
import Derived.Test.YtbckjkfdkgomiaaSpec2
import Derived.Deep.QuietTactic
import Derived.BigQuiet
import Derived.StillTailTactics
import Derived.Test.YtbckjkfdkgomiaaArr
namespace Go.Proofs.Ytbckjkfdkgomiaa
open Go.RowKit Go.Pm
namespace Sp

set_option maxHeartbeats 400000 in
theorem turn (x : U64) (n : Nat) (w : World) (h0 : 0 < n) (h1 : n < 64) :
    Calls Try.prog 93 #[.int .u64 (U x), .int .i64 n] w fun e w' => e = .returned (.int .u64 (U (rot x n))) ∧ ∃ m, w' = w.drewN m := by
  have g0 := U_ge x
  have g1 := U_lt x
  go_enter Try.func93, Try.ntmps93
  go_wp2
  go_quiet (fail)
  go_wp2
  go_ret
  have e1 := U_shr x n
  have e2 := U_shl x (64 - n)
  push_cast at e1 e2
  refine ⟨?_, nq, rfl⟩
  show Ending.returned (.int .u64 (bits .or .u64 (U x / 2 ^ n) (IntKind.u64.wrap (U x * 2 ^ (64 - n))))) = _
  rw [e1, e2, U_or]
  rfl

set_option maxHeartbeats 400000 in
theorem spread (x : U64) (n m : Nat) (N M : Int) (hN : N = n) (hM : M = m) (w : World) (h0 : 0 < n) (h1 : n < 64) (h2 : 0 < m) (h3 : m < 64) :
    Calls Try.prog 90 #[.int .u64 (U x), .int .i64 N, .int .i64 M] w fun e w' => e = .returned (.int .u64 (U (lin x n m))) ∧ Kept None w w' := by
  subst hN hM
  have g0 := U_ge x
  have g1 := U_lt x
  go_enter Try.func90, Try.ntmps90
  go_wp2_with fail
  refine (turn x n _ h0 h1).mono ?_
  rintro e1 w1 ⟨rfl, m1, hw1⟩
  have k1 : Kept None w w1 := by rw [hw1]; exact Kept.toDrewN _ _ _
  clear hw1
  go_wp2_with fail
  refine (turn x m _ h2 h3).mono ?_
  rintro e2 w2 ⟨rfl, m2, hw2⟩
  have k2 : Kept None w w2 := by rw [hw2]; exact k1.drewN _
  clear hw2
  go_wp2
  go_ret
  simp only [U_xor]
  exact ⟨rfl, k2⟩

/-- A state, as the program has it. -/
abbrev sv (s : S5) : Value := .agg #[.int .u64 (U s.a), .int .u64 (U s.b), .int .u64 (U s.c), .int .u64 (U s.d), .int .u64 (U s.e)]
set_option maxRecDepth 100000 in
set_option maxHeartbeats 1000000 in
theorem perm (s : S5) (w : World) :
    Calls Try.prog 85 #[sv s] w fun e w' => e = .returned (sv s.perm) ∧ Kept None w w' := by
  generalize hs0 : s = s0
  have HS := hid hs0
  clear hs0
  obtain ⟨a, b, c, d, e⟩ := s
  go_enter Try.func85, Try.ntmps85
  go_wp2
  go_quiet (fail)
  go_wp2
  go_loopw [3, 4, 5, 6, 7, 8] (fun v3 v4 v5 v6 v7 v8 wr => ∃ (k : Nat) (t : S5) (n : U64), k ≤ 12 ∧ U n = 240 - 15 * k ∧ t = (consts.take k).foldl S5.round s0 ∧ v3 = .int .u64 (U t.a) ∧ v4 = .int .u64 (U t.b) ∧ v5 = .int .u64 (U t.c) ∧ v6 = .int .u64 (U t.d) ∧ v7 = .int .u64 (U t.e) ∧
      v8 = .int .u64 (U n) ∧ Kept None w wr ∧ Blk wr (w.heap.size + 1) #[.int .u64 0, .int .u64 0, .int .u64 0, .int .u64 0, .int .u64 0] 98) (fun _ _ _ _ _ v8 _ => (intOf v8).toNat)
  case atStart =>
    refine ⟨0, _, 240, by omega, rfl, rfl, ?_, ?_, ?_, ?_, ?_, rfl, ((Kept.refl _ _).alloc _).alloc _ |>.drewN _, (Blk.new2 _ _ _ _).drewN _⟩
    all_goals rw [← HS.out]; rfl
  case round =>
    obtain ⟨k, t, n, hk, hn, ht, rfl, rfl, rfl, rfl, rfl, rfl, hkk, hb⟩ := hrel
    by_cases hlt : k < 12
    · have hn1 : 75 ≤ U n := by omega
      have HM := hid (U_next n hn1)
      have HN := hid hn
      have HT := hid ht
      have HB := hid hb
      clear hn ht hb HS
      go_wp2_with fail
      simp only [U_xor, U_and, U_not']
      refine (spread _ 19 28 _ _ rfl rfl _ (by decide) (by decide) (by decide) (by decide)).mono ?_
      rintro e1 w1 ⟨rfl, k1⟩
      go_wp2_with fail
      refine (spread _ 61 39 _ _ rfl rfl _ (by decide) (by decide) (by decide) (by decide)).mono ?_
      rintro e2 w2 ⟨rfl, k2⟩
      go_wp2_with fail
      refine (spread _ 1 6 _ _ rfl rfl _ (by decide) (by decide) (by decide) (by decide)).mono ?_
      rintro e3 w3 ⟨rfl, k3⟩
      go_wp2_with fail
      refine (spread _ 10 17 _ _ rfl rfl _ (by decide) (by decide) (by decide) (by decide)).mono ?_
      rintro e4 w4 ⟨rfl, k4⟩
      go_wp2_with fail
      refine (spread _ 7 41 _ _ rfl rfl _ (by decide) (by decide) (by decide) (by decide)).mono ?_
      rintro e5 w5 ⟨rfl, k5⟩
      have kk := (((k1.trans k2).trans k3).trans k4).trans k5
      clear k1 k2 k3 k4 k5
      go_wp2
      go_roundw
      case rel =>
        obtain ⟨m, hm⟩ := HM.out
        refine ⟨k + 1, t.round n, m, by omega, by have := HN.out; omega, ?_, rfl, rfl, rfl, rfl, rfl, ?_, hkk.then kk (fun _ _ h => h), HB.out.kept kk (fun h => h)⟩
        · rw [HT.out]; exact (consts_step k hlt n HN.out s0).symm
        · rw [hm, wrap_next n hn1]
      case measure => simp only [intOf]; rw [wrap_next n hn1]; omega
    · have h12 : k = 12 := by omega
      have ht' : t = s0.perm := by rw [ht, h12]; rfl
      have hn1 : U n < 75 := by omega
      have HP := hid ht'
      have c2 := fun i => hb.cell i
      have hf : ∀ i, wr.frozen? ⟨w.heap.size + 1, i, none⟩ = false := fun i => hb.free i
      clear ht hn h12 ht'
      go_wp2
      have hb2 := ((((hb.set 0 (.int .u64 (U t.a))).set 1 (.int .u64 (U t.b))).set 2 (.int .u64 (U t.c))).set 3 (.int .u64 (U t.d))).set 4 (.int .u64 (U t.e))
      have hk2 : Kept None w (((((wr.setCell ⟨w.heap.size + 1, 0, none⟩ (.int .u64 (U t.a))).setCell ⟨w.heap.size + 1, 1, none⟩ (.int .u64 (U t.b))).setCell ⟨w.heap.size + 1, 2, none⟩ (.int .u64 (U t.c))).setCell ⟨w.heap.size + 1, 3, none⟩ (.int .u64 (U t.d))).setCell ⟨w.heap.size + 1, 4, none⟩ (.int .u64 (U t.e))) := by
        exact ((((hkk.setNew (by omega) _ _).setNew (by omega) _ _).setNew (by omega) _ _).setNew (by omega) _ _).setNew (by omega) _ _
      clear hb hkk c2 hf
      generalize (((((wr.setCell ⟨w.heap.size + 1, 0, none⟩ (.int .u64 (U t.a))).setCell ⟨w.heap.size + 1, 1, none⟩ (.int .u64 (U t.b))).setCell ⟨w.heap.size + 1, 2, none⟩ (.int .u64 (U t.c))).setCell ⟨w.heap.size + 1, 3, none⟩ (.int .u64 (U t.d))).setCell ⟨w.heap.size + 1, 4, none⟩ (.int .u64 (U t.e))) = w2 at *
      have c0 := hb2.cell 0
      have c1 := hb2.cell 1
      have c2 := hb2.cell 2
      have c3 := hb2.cell 3
      have c4 := hb2.cell 4
      simp at c0 c1 c2 c3 c4
      rw [← HP.out]
      exact bodyPost_ret (v := sv t) (by simp [results, Try.results85, go_sem, c0, c1, c2, c3, c4]) rfl ⟨rfl, hk2⟩

set_option maxHeartbeats 400000 in
/-- sponge.word. -/
theorem word (v : Value) (lo hi : Nat) (l : List UInt8) (w : World) (hv : Bs w lo hi v l) (hl : l.length ≤ 8) :
    Calls Try.prog 86 #[v] w fun en w' => en = .returned (.int .u64 (leV l)) ∧ w = w' := by
  obtain ⟨a, cap, rfl, g1, g2, g3⟩ := hv.shape
  go_enter Try.func86, Try.ntmps86
  go_wp2
  go_loop [3, 8] (fun x i => ∃ k : Nat, k ≤ l.length ∧ i = .int .i64 k ∧ x = .int .u64 (leV (l.take k))) (fun _ i => l.length - (intOf i).toNat)
  case atStart => exact ⟨0, Nat.zero_le _, rfl, by rw [leV_zero]⟩
  case round =>
    obtain ⟨k, hk, rfl, rfl⟩ := hrel
    by_cases hlt : k < l.length
    · obtain ⟨b, o, rfl, q1, q2, q3, hc⟩ := Bs.ne hv (by omega)
      have hc' := hc k hlt
      have c0 := bAt_ge l k
      have c1 := bAt_lt l k
      have HS := hid (word_step l k (by omega))
      clear hc hv g3
      generalize bAt l k = c at *
      go_wp2
      go_round
      case rel => exact ⟨k + 1, by omega, by go_num, by rw [HS.out]⟩
      case measure => simp [intOf]; omega
    · have h1 : l.take k = l := List.take_of_length_le (by omega)
      rw [h1]
      clear h1 hv g3
      go_wp2
      go_ret
      exact ⟨rfl, rfl⟩
end Sp
end Go.Proofs.Ytbckjkfdkgomiaa
