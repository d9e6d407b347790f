/- Package postmarkref1, what writes bytes: each function by its contract, over the same plain functions as package bin. -/
import Derived.Test.YtbckjkfdkgomiaaBinA
namespace Go.Proofs.Ytbckjkfdkgomiaa
open Go.RowKit Go.Pm

namespace Ref
set_option maxHeartbeats 400000 in
/-- postmarkref1.Num. -/
theorem num (n : Int) (w : World) (h0 : 0 ≤ n) (_h1 : n < 18446744073709551616) :
    Calls Try.prog 34 #[.int .u64 n] w fun e w' => ∃ v, e = .returned v ∧ Kept None w w' ∧ Ob w' w.heap.size v (leB n) := by
  go_enter Try.func34, Try.ntmps34
  go_wp2
  go_loopw [3, 4] (fun b i wr => ∃ k : Nat, k ≤ 8 ∧ i = .int .i64 k ∧ Ob wr w.heap.size b ((leB n).take k) ∧ Kept None w wr ∧ (∃ a n c, b = .slice a n c)) (fun _ i _ => 8 - (intOf i).toNat)
  case atStart => exact ⟨0, by omega, rfl, Bo.nil _ _ _, Kept.refl _ _, _, _, _, rfl⟩
  case round =>
    obtain ⟨k, hk8, rfl, hb, hk, a, m, c, rfl⟩ := hrel
    by_cases hlt : k < 8
    · have hpos : (0 : Int) ≤ n / 2 ^ (8 * k) := Int.ediv_nonneg h0 (Int.pow_nonneg (by decide))
      go_wp2_with (at_builtin; refine wpList_append_byte rfl _ _ 32 rfl rtBytes rfl rfl hb ?h1 ?h2 ?h3 ?h4 ?h5)
      case h1 => omega
      case h2 => omega
      case h3 => simp [leB_length]; omega
      case h4 => exact hk.size
      case h5 =>
        intro a' n' cap' w' h1 h2
        have hk' := Kept.own hk h2 (fun k hk => (hb.own k hk).1)
        have hb' : Ob w' w.heap.size (.slice a' n' cap') ((leB n).take (k + 1)) := by rw [leB_take n k hlt]; exact h1
        clear hk hb h1 h2
        go_wp2
        go_roundw
        case rel => exact ⟨k + 1, by omega, by go_num, hb', hk', _, _, _, rfl⟩
        case measure => simp [intOf]; omega
    · have h8 : k = 8 := by omega
      have hfin : ∃ v, Ending.returned (.slice a m c) = .returned v ∧ Kept None w wr ∧ Ob wr w.heap.size v (leB n) := ⟨_, rfl, hk, by subst h8; exact hb⟩
      clear h8
      go_wp2
      go_ret
      exact hfin

set_option maxHeartbeats 400000 in
/-- postmarkref1.Lump. -/
theorem lump (v : Value) (lo hi : Nat) (l : List UInt8) (w : World) (hv : Bs w lo hi v l) (hl : l.length ≤ 70368744177664) :
    Calls Try.prog 49 #[v] w fun en w' => ∃ v', en = .returned v' ∧ Kept None w w' ∧ Ob w' w.heap.size v' (leB l.length ++ l) := by
  obtain ⟨a, cap, rfl, g1, g2, g3⟩ := hv.shape
  go_enter Try.func49, Try.ntmps49
  go_wp2_with fail
  refine (num _ w (by omega) (by omega)).mono ?_
  rintro e1 w1 ⟨v1, rfl, hk, hb⟩
  obtain ⟨a1, c1, rfl⟩ := hb.form
  have hv1 := hv.kept hk (fun _ _ _ h => h)
  have hsz := hk.size
  clear hv g3
  go_wp2_with (at_builtin; refine wpList_append_bo (l := leB l.length) (m := l) (base := w.heap.size) (lo := lo) (hi := hi) rfl _ _ 32 rfl rtBytes rfl rfl ?k1 ?k2 ?k3 ?k4 ?k5)
  case k1 => exact hb
  case k2 => exact hv1
  case k3 => rw [leB_length]; omega
  case k4 => exact hsz
  case k5 =>
    intro a2 n2 c2 w2 hb2 hk2
    have hk3 := Kept.own hk hk2 (fun k hk => (hb.own k hk).1)
    clear hb hv1 hk hk2
    go_wp2
    go_ret
    exact ⟨_, rfl, hk3, hb2⟩

set_option maxHeartbeats 1000000 in
/-- postmarkref1.Word. -/
theorem word (v : Value) (lo hi : Nat) (l : List UInt8) (w : World) (hv : Bs w lo hi v l) (hl : l.length = 8) :
    Calls Try.prog 68 #[v] w fun en w' => en = .returned (.int .u64 (leV l)) ∧ w = w' := by
  have hV : leV l = leV l := rfl
  conv at hV => rhs; unfold leV
  generalize leV l = V at hV ⊢
  obtain ⟨b, o, cap, rfl, g1, g2, q1, q2, q3, hc⟩ := Bs.lit hv 8 hl (by omega)
  have c0 := hc 0 (by omega)
  have c1 := hc 1 (by omega)
  have c2 := hc 2 (by omega)
  have c3 := hc 3 (by omega)
  have c4 := hc 4 (by omega)
  have c5 := hc 5 (by omega)
  have c6 := hc 6 (by omega)
  have c7 := hc 7 (by omega)
  simp only [Nat.add_zero] at c0
  have B := fun i => bAt_lt l i
  have A := fun i => bAt_ge l i
  clear hc hv hl
  have b0 := B 0
  have a0 := A 0
  have b1 := B 1
  have a1 := A 1
  have b2 := B 2
  have a2 := A 2
  have b3 := B 3
  have a3 := A 3
  have b4 := B 4
  have a4 := A 4
  have b5 := B 5
  have a5 := A 5
  have b6 := B 6
  have a6 := A 6
  have b7 := B 7
  have a7 := A 7
  clear A B
  generalize bAt l 0 = x0 at *
  generalize bAt l 1 = x1 at *
  generalize bAt l 2 = x2 at *
  generalize bAt l 3 = x3 at *
  generalize bAt l 4 = x4 at *
  generalize bAt l 5 = x5 at *
  generalize bAt l 6 = x6 at *
  generalize bAt l 7 = x7 at *
  have HV := hid hV
  clear hV
  go_enter Try.func68, Try.ntmps68
  go_wp2
  refine wp_loop_rounds 9 ?_
  iterate 9 (rw [rounds_succ]; go_wp2)
  go_ret
  refine ⟨?_, rfl⟩
  show Ending.returned (.int .u64 _) = _
  rw [or_zero x7 a7 b7, or_step x7 x6 (by omega) (by omega) a6 b6, or_step _ x5 (by omega) (by omega) a5 b5, or_step _ x4 (by omega) (by omega) a4 b4, or_step _ x3 (by omega) (by omega) a3 b3,
    or_step _ x2 (by omega) (by omega) a2 b2, or_step _ x1 (by omega) (by omega) a1 b1, or_step _ x0 (by omega) (by omega) a0 b0, HV.out]
  congr 2
  omega

end Ref
end Go.Proofs.Ytbckjkfdkgomiaa
