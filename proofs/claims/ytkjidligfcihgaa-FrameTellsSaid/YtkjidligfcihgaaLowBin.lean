/- Package bin and postmarkref1, what writes bytes; bytes as texts. -/
import Derived.Test.YtkjidligfcihgaaProg
import Derived.Test.YtkjidligfcihgaaLow
import Derived.Test.YtkjidligfcihgaaLowByt
import Derived.Lib.SlBytesConst
/- Package bin, what writes: each function by its contract. -/
namespace Go.Proofs.Ytkjidligfcihgaa
open Go.RowKit Go.Pm

namespace Bin
theorem mk8 : ∀ w : World, (Instr.makeSlice 22 (.int .i64 8) (.int .i64 8)).run Try.prog w = .ok (.slice (some ⟨w.heap.size, 0, none⟩) 8 8) (w.alloc (.cells (Array.replicate 8 (.int .u8 0)) 5)) := fun _ => by kernel_rfl

set_option maxHeartbeats 400000 in
/-- bin.Num. -/
theorem num (n : Int) (w : World) (h0 : 0 ≤ n) (h1 : n < 18446744073709551616) :
    Calls Try.prog 12 #[.int .u64 n] w fun e w' => ∃ v, e = .returned v ∧ Kept None w w' ∧ Ob w' w.heap.size v (leB n) := by
  have hmk := mk8
  go_enter Try.func12, Try.ntmps12
  go_wp2
  refine wp_loop_rounds 9 ?_
  iterate 9 (rw [rounds_succ]; go_wp2)
  go_ret
  refine ⟨_, rfl, (Kept.refl _ _).alloc _, Bo.new w 5 (leB n) _ ?_ 8 rfl (by decide)⟩
  simp [leB, u8v_byteOf]
  omega

set_option maxHeartbeats 1000000 in
/-- bin.Join. -/
theorem join (v : Value) (lo hi lo' hi' : Nat) (ls : List (List UInt8)) (w : World) (hv : Bss w lo hi lo' hi' v ls) (hl : total ls ≤ 140737488355328) :
    Calls Try.prog 13 #[v] w fun en w' => ∃ v', en = .returned v' ∧ Kept None w w' ∧ Ob w' w.heap.size v' ls.flatten := by
  obtain ⟨a, cap, rfl, g1, g2, g3⟩ := hv.shape
  have hlen : ls.length ≤ 9223372036854775807 := by omega
  obtain ⟨i0, hi0, hz0, hz1, hz2⟩ := info_parts infoByte
  go_enter Try.func13, Try.ntmps13
  go_wp2
  go_loop [3, 11] (fun t i => ∃ k : Nat, k ≤ ls.length ∧ i = .int .i64 k ∧ ∃ m : Nat, m = total (ls.take k) ∧ t = .int .i64 m) (fun _ i => ls.length - (intOf i).toNat)
  case atStart => exact ⟨0, Nat.zero_le _, rfl, 0, by simp [total], rfl⟩
  case round =>
    obtain ⟨k, hk, rfl, m, hm, rfl⟩ := hrel
    have hml : m ≤ 140737488355328 := by have := total_take_le ls k; omega
    by_cases hlt : k < ls.length
    · obtain ⟨b, o, rfl, q1, q2, q3, hc⟩ := Bss.at hv (by omega)
      obtain ⟨a', c', hc', hb'⟩ := hc k hlt
      have hm' : m + ls[k].length = total (ls.take (k + 1)) := by rw [total_take ls k hlt, hm]
      have hml' : m + ls[k].length ≤ 140737488355328 := by have := total_take_le ls (k + 1); omega
      generalize hn' : ls[k].length = n' at *
      have HM := hid hm'
      clear hm' hm hb' hc g3 hv hn'
      go_wp2
      go_round
      case rel => exact ⟨k + 1, by omega, by go_num, m + n', HM.out, by go_num⟩
      case measure => simp [intOf]; omega
    · have hm2 : m = total ls := by rw [hm, List.take_of_length_le (by omega)]
      have HM := hid hm2
      clear hm2 hm
      go_wp2_with (at_make; refine wpList_make_own _ rfl _ _ 22 rfl w.heap.size 5 i0 (.int .u8 0) 1 tBytes' hi0 hz0 hz1 .i64 .i64 (m : Int) m rfl rfl rfl ?h1 ?h2 ?h3 ?h4)
      case h1 => omega
      case h2 => unfold maxLen; omega
      case h4 =>
        intro w1 hown hgrow
        have hk1 : Kept None w w1 := Kept.grown (Kept.refl _ _) hgrow (fun _ h => by cases h)
        have hb1 : Ob w1 w.heap.size (.slice (some ⟨w.heap.size, 0, none⟩) 0 m) [] := hown
        clear hown hgrow
        go_wp2
        go_loopw [6, 24] (fun t i wr => ∃ k : Nat, k ≤ ls.length ∧ i = .int .i64 k ∧ (∃ a n c, t = .slice a n c) ∧ Ob wr w.heap.size t (ls.take k).flatten ∧ Kept None w wr) (fun _ i _ => ls.length - (intOf i).toNat)
        case atStart => exact ⟨0, Nat.zero_le _, rfl, ⟨_, _, _, rfl⟩, hb1, hk1⟩
        case round =>
          clear hb1 hk1
          obtain ⟨k, hk, rfl, ⟨a1, n1, c1, rfl⟩, hb, hkk⟩ := hrel
          have hsz := hkk.size
          by_cases hlt : k < ls.length
          · have hvr := hv.kept hkk (fun _ _ _ h => h) (fun _ _ _ h => h)
            obtain ⟨b, o, rfl, q1, q2, q3, hc⟩ := Bss.at hvr (by omega)
            obtain ⟨a', c', hc', hb'⟩ := hc k hlt
            have hml : total (ls.take k) + ls[k].length ≤ 140737488355328 := by have := total_take_le ls (k + 1); rw [total_take ls k hlt] at this; omega
            have hfl := flatten_take ls k hlt
            generalize hx : ls[k] = x at *
            have HF := hid hfl
            clear hfl hx hc hvr g3 hv
            go_wp2_with (at_builtin; refine wpList_append_bo (l := (ls.take k).flatten) (m := x) (base := w.heap.size) (lo := lo') (hi := hi') rfl _ _ 22 rfl rtBytes rfl rfl ?k1 ?k2 ?k3 ?k4 ?k5)
            case k1 => exact hb
            case k2 => exact hb'
            case k3 => exact hml
            case k4 => exact hsz
            case k5 =>
              intro a2 n2 c2 w2 hb2 hk2
              have hk3 := Kept.own hkk hk2 (fun k hk => (hb.own k hk).1)
              rw [← HF.out] at hb2
              clear hb hb' hkk hk2 HF
              go_wp2
              go_roundw
              case rel => exact ⟨k + 1, by omega, by go_num, ⟨_, _, _, rfl⟩, hb2, hk3⟩
              case measure => simp [intOf]; omega
          · have hb3 : Ob wr w.heap.size (.slice a1 n1 c1) ls.flatten := by rw [List.take_of_length_le (by omega)] at hb; exact hb
            clear hb hv g3
            go_wp2
            go_ret
            exact ⟨_, rfl, hkk, hb3⟩

set_option maxHeartbeats 400000 in
/-- bin.Lump. -/
theorem lump (v : Value) (lo hi : Nat) (l : List UInt8) (w : World) (hv : Bs w lo hi v l) (hl : l.length ≤ 70368744177664) :
    Calls Try.prog 33 #[v] w fun en w' => ∃ v', en = .returned v' ∧ Kept None w w' ∧ Ob w' w.heap.size v' (leB l.length ++ l) := by
  obtain ⟨a, cap, rfl, g1, g2, g3⟩ := hv.shape
  go_enter Try.func33, Try.ntmps33
  go_wp2_with fail
  refine (num _ w (by omega) (by omega)).mono ?_
  rintro e1 w1 ⟨v1, rfl, hk, hb⟩
  obtain ⟨a1, c1, rfl⟩ := hb.form
  have hs := hb.bs (Nat.le_refl _)
  have hv1 := hv.kept hk (fun _ _ _ h => h)
  rw [leB_length] at hs
  clear hb hv g3
  go_wp2_with fail
  rw [leB_length]
  have hbs := Bss.new w1 #[.slice a1 8 c1, .slice a l.length cap] 22 [leB l.length, l] 2 rfl (by decide) ⟨hs.all, hv1.all, trivial⟩
  refine (join _ _ _ _ _ _ _ hbs (by simp [total, leB_length]; omega)).mono ?_
  rintro e2 w2 ⟨v2, rfl, hk2, hb2⟩
  have hsz := hk.size
  go_wp2
  go_ret
  exact ⟨_, rfl, (hk.alloc _).then hk2 (fun _ _ h => h.elim), by have := Bo.base (base' := w.heap.size) hb2 (by simp; omega); simpa using this⟩
end Bin
end Go.Proofs.Ytkjidligfcihgaa

/- Package postmarkref1, what writes bytes: each function by its contract, over the same plain functions as package bin. -/
namespace Go.Proofs.Ytkjidligfcihgaa
open Go.RowKit Go.Pm

namespace Ref
set_option maxHeartbeats 400000 in
/-- postmarkref1.Num. -/
theorem num (n : Int) (w : World) (h0 : 0 ≤ n) (_h1 : n < 18446744073709551616) :
    Calls Try.prog 15 #[.int .u64 n] w fun e w' => ∃ v, e = .returned v ∧ Kept None w w' ∧ Ob w' w.heap.size v (leB n) := by
  go_enter Try.func15, Try.ntmps15
  go_wp2
  go_loopw [3, 4] (fun b i wr => ∃ k : Nat, k ≤ 8 ∧ i = .int .i64 k ∧ Ob wr w.heap.size b ((leB n).take k) ∧ Kept None w wr ∧ (∃ a n c, b = .slice a n c)) (fun _ i _ => 8 - (intOf i).toNat)
  case atStart => exact ⟨0, by omega, rfl, Bo.nil _ _ _, Kept.refl _ _, _, _, _, rfl⟩
  case round =>
    obtain ⟨k, hk8, rfl, hb, hk, a, m, c, rfl⟩ := hrel
    by_cases hlt : k < 8
    · have hpos : (0 : Int) ≤ n / 2 ^ (8 * k) := Int.ediv_nonneg h0 (Int.pow_nonneg (by decide))
      go_wp2_with (at_builtin; refine wpList_append_byte rfl _ _ 22 rfl rtBytes rfl rfl hb ?h1 ?h2 ?h3 ?h4 ?h5)
      case h1 => omega
      case h2 => omega
      case h3 => simp [leB_length]; omega
      case h4 => exact hk.size
      case h5 =>
        intro a' n' cap' w' h1 h2
        have hk' := Kept.own hk h2 (fun k hk => (hb.own k hk).1)
        have hb' : Ob w' w.heap.size (.slice a' n' cap') ((leB n).take (k + 1)) := by rw [leB_take n k hlt]; exact h1
        clear hk hb h1 h2
        go_wp2
        go_roundw
        case rel => exact ⟨k + 1, by omega, by go_num, hb', hk', _, _, _, rfl⟩
        case measure => simp [intOf]; omega
    · have h8 : k = 8 := by omega
      have hfin : ∃ v, Ending.returned (.slice a m c) = .returned v ∧ Kept None w wr ∧ Ob wr w.heap.size v (leB n) := ⟨_, rfl, hk, by subst h8; exact hb⟩
      clear h8
      go_wp2
      go_ret
      exact hfin

set_option maxHeartbeats 400000 in
/-- postmarkref1.Lump. -/
theorem lump (v : Value) (lo hi : Nat) (l : List UInt8) (w : World) (hv : Bs w lo hi v l) (hl : l.length ≤ 70368744177664) :
    Calls Try.prog 35 #[v] w fun en w' => ∃ v', en = .returned v' ∧ Kept None w w' ∧ Ob w' w.heap.size v' (leB l.length ++ l) := by
  obtain ⟨a, cap, rfl, g1, g2, g3⟩ := hv.shape
  go_enter Try.func35, Try.ntmps35
  go_wp2_with fail
  refine (num _ w (by omega) (by omega)).mono ?_
  rintro e1 w1 ⟨v1, rfl, hk, hb⟩
  obtain ⟨a1, c1, rfl⟩ := hb.form
  have hv1 := hv.kept hk (fun _ _ _ h => h)
  have hsz := hk.size
  clear hv g3
  go_wp2_with (at_builtin; refine wpList_append_bo (l := leB l.length) (m := l) (base := w.heap.size) (lo := lo) (hi := hi) rfl _ _ 22 rfl rtBytes rfl rfl ?k1 ?k2 ?k3 ?k4 ?k5)
  case k1 => exact hb
  case k2 => exact hv1
  case k3 => rw [leB_length]; omega
  case k4 => exact hsz
  case k5 =>
    intro a2 n2 c2 w2 hb2 hk2
    have hk3 := Kept.own hk hk2 (fun k hk => (hb.own k hk).1)
    clear hb hv1 hk hk2
    go_wp2
    go_ret
    exact ⟨_, rfl, hk3, hb2⟩

set_option maxHeartbeats 1000000 in
/-- postmarkref1.Word. -/
theorem word (v : Value) (lo hi : Nat) (l : List UInt8) (w : World) (hv : Bs w lo hi v l) (hl : l.length = 8) :
    Calls Try.prog 20 #[v] w fun en w' => en = .returned (.int .u64 (leV l)) ∧ w = w' := by
  have hV : leV l = leV l := rfl
  conv at hV => rhs; unfold leV
  generalize leV l = V at hV ⊢
  obtain ⟨b, o, cap, rfl, g1, g2, q1, q2, q3, hc⟩ := Bs.lit hv 8 hl (by omega)
  have c0 := hc 0 (by omega)
  have c1 := hc 1 (by omega)
  have c2 := hc 2 (by omega)
  have c3 := hc 3 (by omega)
  have c4 := hc 4 (by omega)
  have c5 := hc 5 (by omega)
  have c6 := hc 6 (by omega)
  have c7 := hc 7 (by omega)
  simp only [Nat.add_zero] at c0
  have B := fun i => bAt_lt l i
  have A := fun i => bAt_ge l i
  clear hc hv hl
  have b0 := B 0
  have a0 := A 0
  have b1 := B 1
  have a1 := A 1
  have b2 := B 2
  have a2 := A 2
  have b3 := B 3
  have a3 := A 3
  have b4 := B 4
  have a4 := A 4
  have b5 := B 5
  have a5 := A 5
  have b6 := B 6
  have a6 := A 6
  have b7 := B 7
  have a7 := A 7
  clear A B
  generalize bAt l 0 = x0 at *
  generalize bAt l 1 = x1 at *
  generalize bAt l 2 = x2 at *
  generalize bAt l 3 = x3 at *
  generalize bAt l 4 = x4 at *
  generalize bAt l 5 = x5 at *
  generalize bAt l 6 = x6 at *
  generalize bAt l 7 = x7 at *
  have HV := hid hV
  clear hV
  go_enter Try.func20, Try.ntmps20
  go_wp2
  refine wp_loop_rounds 9 ?_
  iterate 9 (rw [rounds_succ]; go_wp2)
  go_ret
  refine ⟨?_, rfl⟩
  show Ending.returned (.int .u64 _) = _
  rw [or_zero x7 a7 b7, or_step x7 x6 (by omega) (by omega) a6 b6, or_step _ x5 (by omega) (by omega) a5 b5, or_step _ x4 (by omega) (by omega) a4 b4, or_step _ x3 (by omega) (by omega) a3 b3,
    or_step _ x2 (by omega) (by omega) a2 b2, or_step _ x1 (by omega) (by omega) a1 b1, or_step _ x0 (by omega) (by omega) a0 b0, HV.out]
  congr 2
  omega

end Ref
end Go.Proofs.Ytkjidligfcihgaa
