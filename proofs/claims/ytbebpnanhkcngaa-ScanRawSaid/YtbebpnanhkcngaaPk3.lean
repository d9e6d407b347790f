/- Texts joined: ScanB15, LowBin, EntA, EntRight, EntFields, UpRight, RefFieldM, LowSponge, LowRefSponge, RefSgn. -/
import Derived.Test.YtbebpnanhkcngaaPk2
import Derived.Test.YtbebpnanhkcngaaProg
import Derived.Test.YtbebpnanhkcngaaPk1
import Derived.Lib.SlBytesConst
import Derived.Deep.QuietTactic
import Derived.BigQuiet
import Derived.Lib.Mul64
import Derived.Laws.Bits64b
import Derived.KernelRfl
import Derived.Deep.CutBlock
import Derived.Deep.DeepCutAuto
import Derived.Deep.LoopGhost
import Derived.StillTailTactics
import Derived.Outline
namespace Go.Pm
open Go Go.RowKit
theorem scanC_put {r : Rec} {p : Option Int} (t : List UInt8) (h : rightJ r = true) (hw : r.u.r < 18446744073709551616 ∧ r.u.s < 18446744073709551616) (hp : nextJ p r.seq = true) : scanC p (putJL r ++ t) = (putJL r).length + scanC (some r.seq) t := by
  have e := read_putJ t h hw
  have hl : (putJL r).length = 21 + (bodyJ r).length := putJ_len h
  have hg : goesJ p (putJL r ++ t) := by unfold goesJ; rw [e]; exact ⟨rfl, hp⟩
  rw [scanC_go hg, e]
  simp only
  rw [List.drop_left' hl, hl]
theorem scan_recs2 {s : Int} : ∀ (l : List Pn) (i : Nat) (t : List UInt8), allR (recsP s i l) = true → PnFits l → scanR (some (s + i)) (joinR (recsP s i l) ++ t) = recsP s i l ++ scanR (some (s + ((i + l.length : Nat) : Int))) t ∧ scanC (some (s + i)) (joinR (recsP s i l) ++ t) = (joinR (recsP s i l)).length + scanC (some (s + ((i + l.length : Nat) : Int))) t
  | [], i, t, _, _ => ⟨by simp [recsP, joinR], by simp [recsP, joinR]⟩
  | x :: l, i, t, h, hf => by
    rw [recsP, allR, List.all_cons, Bool.and_eq_true] at h
    have hj : joinR (recsP s i (x :: l)) = putJL (recP s i x) ++ joinR (recsP s (i + 1) l) := by simp [recsP, joinR]
    have hi := scan_recs2 l (i + 1) t h.2 (fun y hy => hf y (List.mem_cons_of_mem _ hy))
    have hp : nextJ (some (s + i)) (recP s i x).seq = true := by
      show decide ((recP s i x).seq = s + (i : Int) + 1) = true
      rw [decide_eq_true_eq]
      show s + 1 + (i : Int) = _
      omega
    have e2 : (recP s i x).seq = s + ((i + 1 : Nat) : Int) := by simp only [recP]; omega
    have e3 : i + 1 + l.length = i + (x :: l).length := by rw [List.length_cons]; omega
    rw [e3] at hi
    refine ⟨?_, ?_⟩
    · rw [hj, List.append_assoc, scan_put _ h.1 (hf x (List.mem_cons_self ..)) hp, recsP, List.cons_append, e2, hi.1]
    · rw [hj, List.append_assoc, scanC_put _ h.1 (hf x (List.mem_cons_self ..)) hp, e2, hi.2, List.length_append, Nat.add_assoc]
theorem baseF_yes {gen s : Int} {l : List Pn} (h0 : rightJ (recB gen s l.length) = true) (h : allR (recsP s 0 l) = true) : baseF gen s l = putJL (recB gen s l.length) ++ joinR (recsP s 0 l) := by
  unfold baseF
  rw [h0, h]
  rfl
theorem scan_base2 {gen s : Int} {l : List Pn} (t : List UInt8) (h0 : rightJ (recB gen s l.length) = true) (h : allR (recsP s 0 l) = true) (hf : PnFits l) :
    scanR none (baseF gen s l ++ t) = recB gen s l.length :: (recsP s 0 l ++ scanR (some (s + (l.length : Int))) t) ∧ scanC none (baseF gen s l ++ t) = (baseF gen s l).length + scanC (some (s + (l.length : Int))) t := by
  have hw : (recB gen s l.length).u.r < 18446744073709551616 ∧ (recB gen s l.length).u.s < 18446744073709551616 := ⟨by show (0 : Nat) < _; decide, by show (0 : Nat) < _; decide⟩
  have e3 : (recB gen s l.length).seq = s + ((0 : Nat) : Int) := by simp [recB]
  have h2 := scan_recs2 l 0 t h hf
  rw [Nat.zero_add] at h2
  rw [baseF_yes h0 h, List.append_assoc]
  refine ⟨?_, ?_⟩
  · rw [scan_put _ h0 hw rfl, e3, h2.1]
  · rw [scanC_put _ h0 hw rfl, e3, h2.2, List.length_append, Nat.add_assoc]
theorem scan_zero {p : Option Int} {b : List UInt8} (h : bAt b 4 = 0) : scanR p b = [] ∧ scanC p b = 0 :=
  ⟨scanR_end (fun g => readJ_zero h g.1), scanC_end (fun g => readJ_zero h g.1)⟩
theorem scan_nil (p : Option Int) : scanR p [] = [] ∧ scanC p [] = 0 := scan_zero rfl
/-- .. with nothing behind it. -/
theorem scan_base0 {gen s : Int} {l : List Pn} (h0 : rightJ (recB gen s l.length) = true) (h : allR (recsP s 0 l) = true) (hf : PnFits l) :
    scanR none (baseF gen s l) = recB gen s l.length :: recsP s 0 l ∧ scanC none (baseF gen s l) = (baseF gen s l).length := by
  have h2 := scan_base2 [] h0 h hf
  rw [List.append_nil, (scan_nil _).1, (scan_nil _).2, List.append_nil, Nat.add_zero] at h2
  exact h2
theorem recB_yes15 {g s : Int} {n : Nat} (hg : 0 ≤ g ∧ g < 65536) (hs : 0 ≤ s ∧ s < 65536) (hn : n ≤ 32) : rightJ (recB g s n) = true := by
  refine (rightJ_iff _).2 ⟨⟨by simp only [recB]; omega, by simp only [recB]; omega⟩, .inl ⟨rfl, ?_⟩⟩
  simp only [recB]
  omega
theorem recP_yes15 {s : Int} {i : Nat} {x : Pn} (hs : 0 ≤ s ∧ s < 65536) (hi : i ≤ 1000) (hx : x.u.right = true) (ht : 0 ≤ x.tick ∧ x.tick ≤ 1003) : rightJ (recP s i x) = true := by
  refine (rightJ_iff _).2 ⟨⟨by simp only [recP]; omega, by simp only [recP]; omega⟩, .inr (.inl ⟨rfl, hx, ht.1, ?_⟩)⟩
  simp only [recP]
  omega
theorem allR_yes15 {s : Int} (hs : 0 ≤ s ∧ s < 65536) : ∀ (l : List Pn) (i : Nat), i + l.length ≤ 1000 → (∀ x ∈ l, x.u.right = true ∧ 0 ≤ x.tick ∧ x.tick ≤ 1003) → allR (recsP s i l) = true
  | [], _, _, _ => rfl
  | x :: l, i, hi, h => by
    rw [List.length_cons] at hi
    have h1 := h x (List.mem_cons_self ..)
    have h2 := allR_yes15 hs l (i + 1) (by omega) (fun y hy => h y (List.mem_cons_of_mem _ hy))
    unfold allR at h2 ⊢
    rw [recsP, List.all_cons, recP_yes15 hs (by omega) h1.1 h1.2, h2]
    rfl
theorem baseF_len {gen s : Int} {l : List Pn} (h0 : rightJ (recB gen s l.length) = true) (h : allR (recsP s 0 l) = true) : 37 ≤ (baseF gen s l).length := by
  rw [baseF_yes h0 h, List.length_append, putJ_len h0]
  have : (bodyJ (recB gen s l.length)).length = 16 := by simp [bodyJ, recB, leB_length]
  omega
/-- A journal laid anew that is cut is not whole. -/
theorem cut_base {gen s : Int} {l : List Pn} {k : Nat} (h0 : rightJ (recB gen s l.length) = true) (h : allR (recsP s 0 l) = true) (hf : PnFits l) (hk : k < (baseF gen s l).length) :
    (wholeF (scanR none ((baseF gen s l).take k))).ok = false ∧ (wholeF (scanR none ((baseF gen s l).take k))).gen = 0 := by
  obtain ⟨e1, e2⟩ := scan_base0 h0 h hf
  obtain ⟨t1, _, t3⟩ := scan_take _ none (baseF gen s l) k (Nat.le_refl _)
  rw [e1] at t1
  refine whole_cut _ ?_ t1
  refine Nat.lt_of_not_le fun hc => ?_
  have h1 := atJ_le _ none ((baseF gen s l).take k) (Nat.le_refl _)
  rw [t3, List.length_take] at h1
  rw [List.take_of_length_le hc] at t1
  have h2 : atJ (baseF gen s l) (scanR none ((baseF gen s l).take k)).length = (baseF gen s l).length := by
    rw [t1, ← e1]
    exact e2
  omega
theorem atJ_mono {p : Option Int} {b : List UInt8} : ∀ (j i : Nat), i ≤ j → atJ b i ≤ atJ b j
  | 0, i, h => by
    obtain rfl : i = 0 := by omega
    exact Nat.le_refl _
  | j + 1, i, h => by
    by_cases hi : i = j + 1
    · subst hi; exact Nat.le_refl _
    · have := atJ_mono (p := p) (b := b) j i (by omega)
      rw [atJ_next]
      omega
/-- What ScanCuts asks. -/
theorem cuts15 (a : List UInt8) (k : Nat) : scanC none (a.take k) ≤ k ∧ scanC none (a.take k) ≤ scanC none a ∧ (scanR none (a.take k)).length ≤ (scanR none a).length ∧ scanR none (a.take k) = (scanR none a).take (scanR none (a.take k)).length ∧
    (scanR none (a.take (scanC none (a.take k)))).length = (scanR none (a.take k)).length ∧ (¬ k < scanC none a → (scanR none (a.take k)).length = (scanR none a).length) := by
  obtain ⟨t1, t2, t3⟩ := scan_take _ none a k (Nat.le_refl _)
  have h1 := scanC_le none (a.take k)
  have h2 : (scanR none (a.take k)).length ≤ (scanR none a).length := by
    have := congrArg List.length t1
    rw [List.length_take] at this
    omega
  have hk : scanC none (a.take k) ≤ k := by rw [List.length_take] at h1; omega
  refine ⟨hk, ?_, h2, t1, ?_, fun h => by rw [t2 (by omega)]⟩
  · unfold scanC
    rw [t3]
    exact atJ_mono (p := none) _ _ h2
  · have e := (scan_take _ none (a.take k) (scanC none (a.take k)) (Nat.le_refl _)).2.1 (Nat.le_refl _)
    rw [List.take_take, Nat.min_eq_left hk] at e
    rw [e]
/-- The i-th record stands where it begins. -/
theorem read_at : ∀ (i : Nat) (p : Option Int) (a : List UInt8), i < (scanR p a).length → (readJ (a.drop (atJ a i))).e = 0
  | 0, p, a, h => by
    by_cases hg : goesJ p a
    · exact hg.1
    · rw [scanR_end hg] at h
      exact absurd h (Nat.not_lt_zero _)
  | i + 1, p, a, h => by
    by_cases hg : goesJ p a
    · rw [scanR_go hg, List.length_cons] at h
      have := read_at i _ _ (Nat.lt_of_succ_lt_succ h)
      rwa [List.drop_drop] at this
    · rw [scanR_end hg] at h
      exact absurd h (Nat.not_lt_zero _)
/-- Noughts from i on, up to j. -/
def zset (a : List UInt8) (i j : Nat) : List UInt8 := a.take i ++ (List.replicate (j - i) 0 ++ a.drop j)
theorem zset_zero (a : List UInt8) (i : Nat) : zset a i i = a := by unfold zset; simp
theorem zset_len {a : List UInt8} {i j : Nat} (h : i ≤ j) (hj : j ≤ a.length) : (zset a i j).length = a.length := by
  unfold zset
  rw [List.length_append, List.length_append, List.length_take, List.length_replicate, List.length_drop]
  omega
theorem zset_step {a : List UInt8} {i j : Nat} (h : i ≤ j) (hj : j < a.length) : (zset a i j).set j 0 = zset a i (j + 1) := by
  unfold zset
  have hl : (a.take i).length = i := by rw [List.length_take]; omega
  rw [List.set_append_right _ _ (by rw [hl]; exact h), hl, List.set_append_right _ _ (by rw [List.length_replicate]; exact Nat.le_refl _), List.length_replicate, Nat.sub_self, List.drop_eq_getElem_cons hj, List.set_cons_zero]
  rw [show j + 1 - i = (j - i) + 1 by omega, List.replicate_succ', List.append_assoc]
  rfl
/-- What ScanHoles asks. -/
theorem holes15 {a : List UInt8} {i : Nat} (h : i < (scanR none a).length) :
    21 ≤ (readJ (a.drop (atJ a i))).n ∧ atJ a i + (readJ (a.drop (atJ a i))).n ≤ scanC none a ∧ atJ a i + (readJ (a.drop (atJ a i))).n ≤ a.length ∧ scanR none (zset a (atJ a i) (atJ a i + (readJ (a.drop (atJ a i))).n)) = (scanR none a).take i ∧ scanC none (zset a (atJ a i) (atJ a i + (readJ (a.drop (atJ a i))).n)) = atJ a i := by
  have he := read_at i none a h
  have hn := readJ_n he
  have hc : atJ a i + (readJ (a.drop (atJ a i))).n ≤ scanC none a := by
    rw [← atJ_next]
    exact atJ_mono (p := none) _ _ h
  have hl := scanC_le none a
  obtain ⟨m, hm⟩ : ∃ m, m = (readJ (a.drop (atJ a i))).n := ⟨_, rfl⟩
  obtain ⟨t, ht⟩ : ∃ t, t = atJ a i := ⟨_, rfl⟩
  rw [← ht] at hc hn hm ⊢
  rw [← hm] at hc hn ⊢
  have hta : (a.take t).length = t := by rw [List.length_take]; omega
  have h1 : (zset a t (t + m)).take t = a.take t := by
    unfold zset
    exact List.take_left' hta
  obtain ⟨q, e1, e2⟩ := scan_upto i none a (zset a t (t + m)) (Nat.le_of_lt h) (by rw [← ht]; exact h1)
  rw [← ht] at e1 e2
  have h2 : (zset a t (t + m)).drop t = List.replicate m 0 ++ a.drop (t + m) := by
    unfold zset
    rw [List.drop_left' hta, Nat.add_sub_cancel_left]
  have h3 : bAt ((zset a t (t + m)).drop t) 4 = 0 := by
    rw [h2]
    obtain ⟨m', rfl⟩ : ∃ m', m = m' + 5 := ⟨m - 5, by omega⟩
    rfl
  refine ⟨hn.1, hc, by omega, ?_, ?_⟩
  · rw [e1, (scan_zero h3).1, List.append_nil]
  · rw [e2, (scan_zero h3).2, Nat.add_zero]
/-- Two journals laid anew. -/
theorem choose_two {x y : List UInt8} {g h : Int} (hx : (wholeF (scanR none x)).ok = true ∧ (wholeF (scanR none x)).gen = g) (hy : (wholeF (scanR none y)).ok = true ∧ (wholeF (scanR none y)).gen = h) : chooseF x y = ⟨if g < h then 1 else 0, true⟩ := by
  unfold chooseF
  rw [hx.1, hx.2, hy.1, hy.2]
  by_cases hl : g < h
  · rw [if_pos ⟨rfl, .inr hl⟩, if_pos hl]
  · rw [if_neg (fun q => q.2.elim (fun e => by cases e) hl), if_neg hl]
theorem choose_no {x y : List UInt8} (hx : (wholeF (scanR none x)).ok = false) (hy : (wholeF (scanR none y)).ok = true) : chooseF x y = ⟨1, true⟩ := by
  unfold chooseF
  rw [hx, hy, if_pos ⟨rfl, .inl rfl⟩]
theorem choose_none {x y : List UInt8} (hx : (wholeF (scanR none x)).ok = false) (hy : (wholeF (scanR none y)).ok = false) : chooseF x y = ⟨0, false⟩ := by
  unfold chooseF
  rw [hx, hy, if_neg (fun q => by cases q.1)]
theorem whole_base0 {gen s : Int} {l : List Pn} (h0 : rightJ (recB gen s l.length) = true) (h : allR (recsP s 0 l) = true) (hf : PnFits l) : (wholeF (scanR none (baseF gen s l))).ok = true ∧ (wholeF (scanR none (baseF gen s l))).gen = gen := by
  rw [(scan_base0 h0 h hf).1]
  have := whole_base (gen := gen) (s := s) (l := l) []
  rwa [List.append_nil] at this
end Go.Pm
/- Package bin, what writes: each function by its contract. -/
namespace Go.Proofs.Ytbebpnanhkcngaa
open Go.RowKit Go.Pm

namespace Bin
theorem mk8 : ∀ w : World, (Instr.makeSlice 22 (.int .i64 8) (.int .i64 8)).run Try.prog w = .ok (.slice (some ⟨w.heap.size, 0, none⟩) 8 8) (w.alloc (.cells (Array.replicate 8 (.int .u8 0)) 5)) := fun _ => by kernel_rfl

set_option maxHeartbeats 400000 in
/-- bin.Num. -/
theorem num (n : Int) (w : World) (h0 : 0 ≤ n) (h1 : n < 18446744073709551616) :
    Calls Try.prog 67 #[.int .u64 n] w fun e w' => ∃ v, e = .returned v ∧ Kept None w w' ∧ Ob w' w.heap.size v (leB n) := by
  have hmk := mk8
  go_enter Try.func67, Try.ntmps67
  go_wp2
  refine wp_loop_rounds 9 ?_
  iterate 9 (rw [rounds_succ]; go_wp2)
  go_ret
  refine ⟨_, rfl, (Kept.refl _ _).alloc _, Bo.new w 5 (leB n) _ ?_ 8 rfl (by decide)⟩
  simp [leB, u8v_byteOf]
  omega

set_option maxHeartbeats 1000000 in
/-- bin.Join. -/
theorem join (v : Value) (lo hi lo' hi' : Nat) (ls : List (List UInt8)) (w : World) (hv : Bss w lo hi lo' hi' v ls) (hl : total ls ≤ 140737488355328) :
    Calls Try.prog 86 #[v] w fun en w' => ∃ v', en = .returned v' ∧ Kept None w w' ∧ Ob w' w.heap.size v' ls.flatten := by
  obtain ⟨a, cap, rfl, g1, g2, g3⟩ := hv.shape
  have hlen : ls.length ≤ 9223372036854775807 := by omega
  obtain ⟨i0, hi0, hz0, hz1, hz2⟩ := info_parts infoByte
  go_enter Try.func86, Try.ntmps86
  go_wp2
  go_loop [3, 11] (fun t i => ∃ k : Nat, k ≤ ls.length ∧ i = .int .i64 k ∧ ∃ m : Nat, m = total (ls.take k) ∧ t = .int .i64 m) (fun _ i => ls.length - (intOf i).toNat)
  case atStart => exact ⟨0, Nat.zero_le _, rfl, 0, by simp [total], rfl⟩
  case round =>
    obtain ⟨k, hk, rfl, m, hm, rfl⟩ := hrel
    have hml : m ≤ 140737488355328 := by have := total_take_le ls k; omega
    by_cases hlt : k < ls.length
    · obtain ⟨b, o, rfl, q1, q2, q3, hc⟩ := Bss.at hv (by omega)
      obtain ⟨a', c', hc', hb'⟩ := hc k hlt
      have hm' : m + ls[k].length = total (ls.take (k + 1)) := by rw [total_take ls k hlt, hm]
      have hml' : m + ls[k].length ≤ 140737488355328 := by have := total_take_le ls (k + 1); omega
      generalize hn' : ls[k].length = n' at *
      have HM := hid hm'
      clear hm' hm hb' hc g3 hv hn'
      go_wp2
      go_round
      case rel => exact ⟨k + 1, by omega, by go_num, m + n', HM.out, by go_num⟩
      case measure => simp [intOf]; omega
    · have hm2 : m = total ls := by rw [hm, List.take_of_length_le (by omega)]
      have HM := hid hm2
      clear hm2 hm
      go_wp2_with (at_make; refine wpList_make_own _ rfl _ _ 22 rfl w.heap.size 5 i0 (.int .u8 0) 1 tBytes' hi0 hz0 hz1 .i64 .i64 (m : Int) m rfl rfl rfl ?h1 ?h2 ?h3 ?h4)
      case h1 => omega
      case h2 => unfold maxLen; omega
      case h4 =>
        intro w1 hown hgrow
        have hk1 : Kept None w w1 := Kept.grown (Kept.refl _ _) hgrow (fun _ h => by cases h)
        have hb1 : Ob w1 w.heap.size (.slice (some ⟨w.heap.size, 0, none⟩) 0 m) [] := hown
        clear hown hgrow
        go_wp2
        go_loopw [6, 24] (fun t i wr => ∃ k : Nat, k ≤ ls.length ∧ i = .int .i64 k ∧ (∃ a n c, t = .slice a n c) ∧ Ob wr w.heap.size t (ls.take k).flatten ∧ Kept None w wr) (fun _ i _ => ls.length - (intOf i).toNat)
        case atStart => exact ⟨0, Nat.zero_le _, rfl, ⟨_, _, _, rfl⟩, hb1, hk1⟩
        case round =>
          clear hb1 hk1
          obtain ⟨k, hk, rfl, ⟨a1, n1, c1, rfl⟩, hb, hkk⟩ := hrel
          have hsz := hkk.size
          by_cases hlt : k < ls.length
          · have hvr := hv.kept hkk (fun _ _ _ h => h) (fun _ _ _ h => h)
            obtain ⟨b, o, rfl, q1, q2, q3, hc⟩ := Bss.at hvr (by omega)
            obtain ⟨a', c', hc', hb'⟩ := hc k hlt
            have hml : total (ls.take k) + ls[k].length ≤ 140737488355328 := by have := total_take_le ls (k + 1); rw [total_take ls k hlt] at this; omega
            have hfl := flatten_take ls k hlt
            generalize hx : ls[k] = x at *
            have HF := hid hfl
            clear hfl hx hc hvr g3 hv
            go_wp2_with (at_builtin; refine wpList_append_bo (l := (ls.take k).flatten) (m := x) (base := w.heap.size) (lo := lo') (hi := hi') rfl _ _ 22 rfl rtBytes rfl rfl ?k1 ?k2 ?k3 ?k4 ?k5)
            case k1 => exact hb
            case k2 => exact hb'
            case k3 => exact hml
            case k4 => exact hsz
            case k5 =>
              intro a2 n2 c2 w2 hb2 hk2
              have hk3 := Kept.own hkk hk2 (fun k hk => (hb.own k hk).1)
              rw [← HF.out] at hb2
              clear hb hb' hkk hk2 HF
              go_wp2
              go_roundw
              case rel => exact ⟨k + 1, by omega, by go_num, ⟨_, _, _, rfl⟩, hb2, hk3⟩
              case measure => simp [intOf]; omega
          · have hb3 : Ob wr w.heap.size (.slice a1 n1 c1) ls.flatten := by rw [List.take_of_length_le (by omega)] at hb; exact hb
            clear hb hv g3
            go_wp2
            go_ret
            exact ⟨_, rfl, hkk, hb3⟩

set_option maxHeartbeats 400000 in
/-- bin.Lump. -/
theorem lump (v : Value) (lo hi : Nat) (l : List UInt8) (w : World) (hv : Bs w lo hi v l) (hl : l.length ≤ 70368744177664) :
    Calls Try.prog 85 #[v] w fun en w' => ∃ v', en = .returned v' ∧ Kept None w w' ∧ Ob w' w.heap.size v' (leB l.length ++ l) := by
  obtain ⟨a, cap, rfl, g1, g2, g3⟩ := hv.shape
  go_enter Try.func85, Try.ntmps85
  go_wp2_with fail
  refine (num _ w (by omega) (by omega)).mono ?_
  rintro e1 w1 ⟨v1, rfl, hk, hb⟩
  obtain ⟨a1, c1, rfl⟩ := hb.form
  have hs := hb.bs (Nat.le_refl _)
  have hv1 := hv.kept hk (fun _ _ _ h => h)
  rw [leB_length] at hs
  clear hb hv g3
  go_wp2_with fail
  rw [leB_length]
  have hbs := Bss.new w1 #[.slice a1 8 c1, .slice a l.length cap] 22 [leB l.length, l] 2 rfl (by decide) ⟨hs.all, hv1.all, trivial⟩
  refine (join _ _ _ _ _ _ _ hbs (by simp [total, leB_length]; omega)).mono ?_
  rintro e2 w2 ⟨v2, rfl, hk2, hb2⟩
  have hsz := hk.size
  go_wp2
  go_ret
  exact ⟨_, rfl, (hk.alloc _).then hk2 (fun _ _ h => h.elim), by have := Bo.base (base' := w.heap.size) hb2 (by simp; omega); simpa using this⟩
end Bin
end Go.Proofs.Ytbebpnanhkcngaa

/- Package postmarkref1, what writes bytes: each function by its contract, over the same plain functions as package bin. -/
namespace Go.Proofs.Ytbebpnanhkcngaa
open Go.RowKit Go.Pm

namespace Ref
set_option maxHeartbeats 400000 in
/-- postmarkref1.Num. -/
theorem num (n : Int) (w : World) (h0 : 0 ≤ n) (_h1 : n < 18446744073709551616) :
    Calls Try.prog 36 #[.int .u64 n] w fun e w' => ∃ v, e = .returned v ∧ Kept None w w' ∧ Ob w' w.heap.size v (leB n) := by
  go_enter Try.func36, Try.ntmps36
  go_wp2
  go_loopw [3, 4] (fun b i wr => ∃ k : Nat, k ≤ 8 ∧ i = .int .i64 k ∧ Ob wr w.heap.size b ((leB n).take k) ∧ Kept None w wr ∧ (∃ a n c, b = .slice a n c)) (fun _ i _ => 8 - (intOf i).toNat)
  case atStart => exact ⟨0, by omega, rfl, Bo.nil _ _ _, Kept.refl _ _, _, _, _, rfl⟩
  case round =>
    obtain ⟨k, hk8, rfl, hb, hk, a, m, c, rfl⟩ := hrel
    by_cases hlt : k < 8
    · have hpos : (0 : Int) ≤ n / 2 ^ (8 * k) := Int.ediv_nonneg h0 (Int.pow_nonneg (by decide))
      go_wp2_with (at_builtin; refine wpList_append_byte rfl _ _ 22 rfl rtBytes rfl rfl hb ?h1 ?h2 ?h3 ?h4 ?h5)
      case h1 => omega
      case h2 => omega
      case h3 => simp [leB_length]; omega
      case h4 => exact hk.size
      case h5 =>
        intro a' n' cap' w' h1 h2
        have hk' := Kept.own hk h2 (fun k hk => (hb.own k hk).1)
        have hb' : Ob w' w.heap.size (.slice a' n' cap') ((leB n).take (k + 1)) := by rw [leB_take n k hlt]; exact h1
        clear hk hb h1 h2
        go_wp2
        go_roundw
        case rel => exact ⟨k + 1, by omega, by go_num, hb', hk', _, _, _, rfl⟩
        case measure => simp [intOf]; omega
    · have h8 : k = 8 := by omega
      have hfin : ∃ v, Ending.returned (.slice a m c) = .returned v ∧ Kept None w wr ∧ Ob wr w.heap.size v (leB n) := ⟨_, rfl, hk, by subst h8; exact hb⟩
      clear h8
      go_wp2
      go_ret
      exact hfin

set_option maxHeartbeats 400000 in
/-- postmarkref1.Lump. -/
theorem lump (v : Value) (lo hi : Nat) (l : List UInt8) (w : World) (hv : Bs w lo hi v l) (hl : l.length ≤ 70368744177664) :
    Calls Try.prog 78 #[v] w fun en w' => ∃ v', en = .returned v' ∧ Kept None w w' ∧ Ob w' w.heap.size v' (leB l.length ++ l) := by
  obtain ⟨a, cap, rfl, g1, g2, g3⟩ := hv.shape
  go_enter Try.func78, Try.ntmps78
  go_wp2_with fail
  refine (num _ w (by omega) (by omega)).mono ?_
  rintro e1 w1 ⟨v1, rfl, hk, hb⟩
  obtain ⟨a1, c1, rfl⟩ := hb.form
  have hv1 := hv.kept hk (fun _ _ _ h => h)
  have hsz := hk.size
  clear hv g3
  go_wp2_with (at_builtin; refine wpList_append_bo (l := leB l.length) (m := l) (base := w.heap.size) (lo := lo) (hi := hi) rfl _ _ 22 rfl rtBytes rfl rfl ?k1 ?k2 ?k3 ?k4 ?k5)
  case k1 => exact hb
  case k2 => exact hv1
  case k3 => rw [leB_length]; omega
  case k4 => exact hsz
  case k5 =>
    intro a2 n2 c2 w2 hb2 hk2
    have hk3 := Kept.own hk hk2 (fun k hk => (hb.own k hk).1)
    clear hb hv1 hk hk2
    go_wp2
    go_ret
    exact ⟨_, rfl, hk3, hb2⟩

set_option maxHeartbeats 1000000 in
/-- postmarkref1.Word. -/
theorem word (v : Value) (lo hi : Nat) (l : List UInt8) (w : World) (hv : Bs w lo hi v l) (hl : l.length = 8) :
    Calls Try.prog 44 #[v] w fun en w' => en = .returned (.int .u64 (leV l)) ∧ w = w' := by
  have hV : leV l = leV l := rfl
  conv at hV => rhs; unfold leV
  generalize leV l = V at hV ⊢
  obtain ⟨b, o, cap, rfl, g1, g2, q1, q2, q3, hc⟩ := Bs.lit hv 8 hl (by omega)
  have c0 := hc 0 (by omega)
  have c1 := hc 1 (by omega)
  have c2 := hc 2 (by omega)
  have c3 := hc 3 (by omega)
  have c4 := hc 4 (by omega)
  have c5 := hc 5 (by omega)
  have c6 := hc 6 (by omega)
  have c7 := hc 7 (by omega)
  simp only [Nat.add_zero] at c0
  have B := fun i => bAt_lt l i
  have A := fun i => bAt_ge l i
  clear hc hv hl
  have b0 := B 0
  have a0 := A 0
  have b1 := B 1
  have a1 := A 1
  have b2 := B 2
  have a2 := A 2
  have b3 := B 3
  have a3 := A 3
  have b4 := B 4
  have a4 := A 4
  have b5 := B 5
  have a5 := A 5
  have b6 := B 6
  have a6 := A 6
  have b7 := B 7
  have a7 := A 7
  clear A B
  generalize bAt l 0 = x0 at *
  generalize bAt l 1 = x1 at *
  generalize bAt l 2 = x2 at *
  generalize bAt l 3 = x3 at *
  generalize bAt l 4 = x4 at *
  generalize bAt l 5 = x5 at *
  generalize bAt l 6 = x6 at *
  generalize bAt l 7 = x7 at *
  have HV := hid hV
  clear hV
  go_enter Try.func44, Try.ntmps44
  go_wp2
  refine wp_loop_rounds 9 ?_
  iterate 9 (rw [rounds_succ]; go_wp2)
  go_ret
  refine ⟨?_, rfl⟩
  show Ending.returned (.int .u64 _) = _
  rw [or_zero x7 a7 b7, or_step x7 x6 (by omega) (by omega) a6 b6, or_step _ x5 (by omega) (by omega) a5 b5, or_step _ x4 (by omega) (by omega) a4 b4, or_step _ x3 (by omega) (by omega) a3 b3,
    or_step _ x2 (by omega) (by omega) a2 b2, or_step _ x1 (by omega) (by omega) a1 b1, or_step _ x0 (by omega) (by omega) a0 b0, HV.out]
  congr 2
  omega

end Ref
end Go.Proofs.Ytbebpnanhkcngaa
namespace Go.Proofs.Ytbebpnanhkcngaa
open Go.RowKit Go.Pm
namespace Up
theorem aEnt : AggTy Try.prog 94 3 := Sg.AggTy.of (by kernel_rfl) (by kernel_rfl)
theorem ent_all (n : ByteArray) (v : Int) (k : Nat) : (#[.string n, .int .i64 v, .int .u64 (k : Int)] : Array Value).all (·.oneCell') = true := by simp [Value.oneCell']
end Up
end Go.Proofs.Ytbebpnanhkcngaa
namespace Go.Proofs.Ytbebpnanhkcngaa
open Go.RowKit Go.Pm
namespace RUp
theorem prime_lt (s : Nat) (b : Bool) (h : decide (s < prime61) = b) : ∀ z, z = s → decide ((z : Int) < (2305843009213693951 : Int)) = b := by
  rintro z rfl
  rw [← h, decide_eq_decide]
  unfold prime61
  omega
theorem entR_no {m : Nat} {v : Int} {k : Nat} (h : ¬ (1 ≤ m ∧ m ≤ 32 ∧ 1 ≤ v ∧ v ≤ 1073741824 ∧ 1 ≤ k ∧ k < prime61)) : entR m v k = false := by
  cases hb : entR m v k with
  | false => rfl
  | true =>
    unfold entR at hb
    simp only [Bool.and_eq_true, decide_eq_true_eq, and_assoc] at hb
    exact absurd hb h
theorem entR_yes {m : Nat} {v : Int} {k : Nat} (h : 1 ≤ m ∧ m ≤ 32 ∧ 1 ≤ v ∧ v ≤ 1073741824 ∧ 1 ≤ k ∧ k < prime61) : entR m v k = true := by
  unfold entR
  simp only [Bool.and_eq_true, decide_eq_true_eq, and_assoc]
  exact h

set_option maxRecDepth 100000 in
set_option maxHeartbeats 1000000 in
/-- postmarkref5.EntryRight. -/
theorem entryRight (n : ByteArray) (v : Int) (k : Nat) (w : World) : Calls Try.prog 72 #[entV n v k] w fun e w' => e = .returned (.bool (entR n.size v k)) ∧ Kept None w w' := by
  have k0 : Kept None w (w.alloc (.cells #[.string n, .int .i64 v, .int .u64 (k : Int)] 94)) := (Kept.refl _ _).alloc _
  by_cases h1 : n.size < 1
  · rw [entR_no (by omega)]
    go_enter Try.func72, Try.ntmps72
    go_wp2
    go_ret
    exact ⟨rfl, k0⟩
  by_cases h2 : 32 < n.size
  · rw [entR_no (by omega)]
    go_enter Try.func72, Try.ntmps72
    go_wp2
    go_ret
    exact ⟨rfl, k0⟩
  by_cases h3 : v < 1
  · rw [entR_no (by omega)]
    go_enter Try.func72, Try.ntmps72
    go_wp2
    go_ret
    exact ⟨rfl, k0⟩
  by_cases h4 : 1073741824 < v
  · rw [entR_no (by omega)]
    go_enter Try.func72, Try.ntmps72
    go_wp2
    go_ret
    exact ⟨rfl, k0⟩
  by_cases h5 : k < 1
  · rw [entR_no (by omega)]
    go_enter Try.func72, Try.ntmps72
    go_wp2
    go_ret
    exact ⟨rfl, k0⟩
  by_cases h6 : k < prime61
  · rw [entR_yes (by omega)]
    have hb := prime_lt k true (decide_eq_true h6)
    clear h6
    go_enter Try.func72, Try.ntmps72
    go_wp2
    go_ret
    exact ⟨rfl, k0⟩
  · rw [entR_no (by omega)]
    have hb := prime_lt k false (decide_eq_false h6)
    clear h6
    go_enter Try.func72, Try.ntmps72
    go_wp2
    go_ret
    exact ⟨rfl, k0⟩
end RUp
end Go.Proofs.Ytbebpnanhkcngaa
namespace Go.Proofs.Ytbebpnanhkcngaa
open Go.RowKit Go.Pm
namespace RUp
theorem fields_flat (n : ByteArray) (v : Int) (k : Nat) : lumpB (strB n) ++ leB (U6 v) ++ leB (k : Int) = fieldsB n v k := rfl
set_option maxRecDepth 100000 in
set_option maxHeartbeats 4000000 in
/-- postmarkref5.Fields. -/
theorem fields (n : ByteArray) (v : Int) (k : Nat) (w : World) (hn : n.size ≤ 274877906944) (hk : k < 18446744073709551616) : Calls Try.prog 54 #[entV n v k] w fun e w' => ∃ u, e = .returned u ∧ Kept None w w' ∧ Ob w' w.heap.size u (fieldsB n v k) := by
  have hsn := strB_len n
  have hv0 := U6_ge v
  have hv1 := U6_lt v
  have hw : IntKind.u64.wrap v = U6 v := by rw [IntKind.wrap_u64]
  have hf := fields_flat n v k
  obtain ⟨V, hV⟩ : ∃ V, V = U6 v := ⟨_, rfl⟩
  rw [← hV] at hv0 hv1 hw hf
  obtain ⟨L, hL⟩ : ∃ L, L = lumpB (strB n) := ⟨_, rfl⟩
  have hLl : L.length = 8 + n.size := by rw [hL, lumpB_len, hsn]
  have hj : ∀ v lo hi W, Bs W lo hi v (strB n) → Calls Try.prog 78 #[v] W fun en w' => ∃ v', en = .returned v' ∧ Kept None W w' ∧ Ob w' W.heap.size v' L := by
    intro v lo hi W h
    rw [hL]
    exact Ref.lump v lo hi (strB n) W h (by omega)
  rw [← hL] at hf
  obtain ⟨F, hF⟩ : ∃ F, F = fieldsB n v k := ⟨_, rfl⟩
  rw [← hF] at hf ⊢
  have H := hid (And.intro hj (And.intro hf (And.intro hLl (And.intro hn (And.intro hk (And.intro hv0 hv1))))))
  have B0 := Blk.new w #[.string n, .int .i64 v, .int .u64 (k : Int)] 94
  have k0 : Kept None w (w.alloc (.cells #[.string n, .int .i64 v, .int .u64 (k : Int)] 94)) := (Kept.refl _ _).alloc _
  clear hj hf hLl hF hL hV hn hk hv0 hv1
  go_enter Try.func54, Try.ntmps54
  have c0 := World.cell?_alloc_new w #[.string n, .int .i64 v, .int .u64 (k : Int)] 94
  clear c0
  go_wp2_with (first | (refine wpList_bytes rfl 9 22 5 _ rfl tString tBytes' tByte rfl (by have := H.out; omega) ?_; intro gB cB w2 hgB kB bB) | fail)
  refine (H.out.1 _ _ _ _ bB).mono ?_
  rintro e w3 ⟨u, rfl, k3, b3⟩
  have kk := kB.trans k3
  have B3 := B0.kept kk (fun h => h)
  have k03 := k0.trans kk
  have hs3 := k03.size
  have b3' := b3.base (base' := w.heap.size + 1) (B0.kept kB (fun h => h)).lt
  obtain ⟨aL, cL, rfl⟩ := b3.form
  have c1 : w3.cell? ⟨w.heap.size, 1, none⟩ = some (.int .i64 v) := B3.cell 1
  clear B0 k0 kB bB k3 kk b3
  go_wp2_with fail
  refine (Ref.num V _ H.out.2.2.2.2.2.1 H.out.2.2.2.2.2.2).mono ?_
  rintro e w4 ⟨u4, rfl, k4, b4⟩
  have B4 := B3.kept k4 (fun h => h)
  have k04 := k03.trans k4
  have hs4 : w.heap.size + 1 ≤ w4.heap.size := B4.lt
  have d4 := b4.bs (Nat.le_refl _)
  obtain ⟨a4, c4, rfl⟩ := b4.form
  have b3'' := b3'.kept k4 (fun _ _ h => h)
  clear B3 k03 k4 b4 b3' c1 hs3
  go_wp2_with (first | (at_builtin; refine wpList_append_bo (l := L) (m := leB V) (base := w.heap.size + 1) rfl _ _ 22 rfl rtBytes rfl rfl b3'' d4 (by have := H.out; rw [leB_length]; omega) hs4 ?k5) | fail)
  case k5 =>
    intro a5 n5 c5 w5 b5 k5
    have hne : ∀ k, (Value.slice aL L.length cL).ownBlock = some k → w.heap.size + 1 ≤ k := fun k hk => (b3''.own k hk).1
    have k05 := Kept.own k04 k5 (fun k hk => Nat.le_of_succ_le (hne k hk))
    have B5 := B4.kept k5 (fun h => absurd (hne _ h) (by omega))
    have c2 : w5.cell? ⟨w.heap.size, 2, none⟩ = some (.int .u64 (k : Int)) := B5.cell 2
    clear b3'' B4 k04 k5 hne d4 hs4
    go_wp2_with fail
    refine (Ref.num k _ (by omega) (by have := H.out; omega)).mono ?_
    rintro e w6 ⟨u6, rfl, k6, b6⟩
    have k06 := k05.trans k6
    have d6 := b6.bs (Nat.le_refl _)
    have hs6 : w.heap.size + 1 ≤ w6.heap.size := (B5.kept k6 (fun h => h)).lt
    obtain ⟨a6, c6, rfl⟩ := b6.form
    have b5' := b5.kept k6 (fun _ _ h => h)
    clear B5 k05 k6 b6 b5 c2
    go_wp2_with (first | (at_builtin; refine wpList_append_bo (l := L ++ leB V) (m := leB k) (base := w.heap.size + 1) rfl _ _ 22 rfl rtBytes rfl rfl b5' d6 (by have := H.out; rw [List.length_append, leB_length, leB_length]; omega) hs6 ?k7) | fail)
    case k7 =>
      intro a7 n7 c7 w7 b7 k7
      have k07 := Kept.own k06 k7 (fun k hk => Nat.le_of_succ_le (b5'.own k hk).1)
      rw [← List.append_assoc, H.out.2.1] at b7
      have b8 := b7.base (Nat.le_succ w.heap.size)
      clear b5' k06 k7 d6 b7
      go_wp2
      go_ret
      exact ⟨_, rfl, k07, b8⟩
end RUp
end Go.Proofs.Ytbebpnanhkcngaa
namespace Go.Proofs.Ytbebpnanhkcngaa
open Go.RowKit Go.Pm
namespace Up
theorem aUpd : AggTy Try.prog 43 6 := Sg.AggTy.of (by kernel_rfl) (by kernel_rfl)
theorem upd_all (n : ByteArray) (v c : Int) (k r s : Nat) : (#[.string n, .int .i64 v, .int .u64 (k : Int), .int .i64 c, .int .u64 (r : Int), .int .u64 (s : Int)] : Array Value).all (·.oneCell') = true := by simp [Value.oneCell']

theorem prime_ge (s : Nat) (b : Bool) (h : decide (prime61 ≤ s) = b) : ∀ z, z = s → decide ((2305843009213693951 : Int) ≤ (z : Int)) = b := by
  rintro z rfl
  rw [← h, decide_eq_decide]
  unfold prime61
  omega

set_option maxRecDepth 100000 in
set_option maxHeartbeats 1000000 in
/-- update.Right. -/
theorem right (n : ByteArray) (v c : Int) (k r s : Nat) (w : World) : Calls Try.prog 84 #[updV n v k c r s] w fun e w' => e = .returned (.bool (rightB n.size v k c)) ∧ Kept None w w' := by
  have k0 : Kept None w (w.alloc (.cells #[.string n, .int .i64 v, .int .u64 (k : Int), .int .i64 c, .int .u64 (r : Int), .int .u64 (s : Int)] 43)) := (Kept.refl _ _).alloc _
  by_cases h1 : n.size < 1
  · rw [rightB_no (by omega)]
    go_enter Try.func84, Try.ntmps84
    go_wp2
    go_ret
    exact ⟨rfl, k0⟩
  by_cases h2 : 32 < n.size
  · rw [rightB_no (by omega)]
    go_enter Try.func84, Try.ntmps84
    go_wp2
    go_ret
    exact ⟨rfl, k0⟩
  by_cases h3 : v < 1
  · rw [rightB_no (by omega)]
    go_enter Try.func84, Try.ntmps84
    go_wp2
    go_ret
    exact ⟨rfl, k0⟩
  by_cases h4 : 1073741824 < v
  · rw [rightB_no (by omega)]
    go_enter Try.func84, Try.ntmps84
    go_wp2
    go_ret
    exact ⟨rfl, k0⟩
  by_cases h5 : k < 1
  · rw [rightB_no (by omega)]
    go_enter Try.func84, Try.ntmps84
    go_wp2
    go_ret
    exact ⟨rfl, k0⟩
  by_cases h6 : prime61 ≤ k
  · rw [rightB_no (by omega)]
    have hb := prime_ge k true (decide_eq_true h6)
    clear h6
    go_enter Try.func84, Try.ntmps84
    go_wp2
    go_ret
    exact ⟨rfl, k0⟩
  have hb := prime_ge k false (decide_eq_false h6)
  have e1 : rightB n.size v k c = (c == 0 || c == 1) := by
    rw [Bool.eq_iff_iff, rightB_iff]
    simp only [Bool.or_eq_true, beq_iff_eq]
    omega
  rw [e1]
  clear h6 e1 k0
  go_enter Try.func84, Try.ntmps84
  go_wp2
  all_goals
    go_ret
    exact ⟨rfl, (Kept.refl _ _).alloc _⟩
end Up
end Go.Proofs.Ytbebpnanhkcngaa
namespace Go.Proofs.Ytbebpnanhkcngaa
open Go.RowKit Go.Pm
namespace Ref
/-- The modulus that counts. -/
def modOf (m : Nat) : Nat := if m = order61 then order61 else prime61
theorem modOf_pos (m : Nat) : 0 < modOf m := by unfold modOf; split <;> decide
theorem modOf_le (m : Nat) : modOf m ≤ 4611686018427387904 := by unfold modOf; split <;> decide

theorem modulus (m : Nat) (w : World) : Calls Try.prog 91 #[.int .u64 m] w fun e w' => e = .returned (.int .u64 (modOf m : Nat)) ∧ w = w' := by
  by_cases h : m = order61
  · have e1 : modOf m = order61 := if_pos h
    rw [e1, h]
    go_enter Try.func91, Try.ntmps91
    go_wp2
    go_ret
    exact ⟨rfl, rfl⟩
  · have e1 : modOf m = prime61 := if_neg h
    rw [e1]
    have h2 : ((m : Int) == 2305843009213693950) = false := by
      simp only [beq_eq_false_iff_ne, ne_eq]
      intro e
      exact h (by unfold order61; omega)
    go_enter Try.func91, Try.ntmps91
    go_wp2
    go_ret
    exact ⟨rfl, rfl⟩

set_option maxHeartbeats 400000 in
theorem add (a b m : Nat) (w : World) : Calls Try.prog 76 #[.int .u64 a, .int .u64 b, .int .u64 m] w fun e w' => e = .returned (.int .u64 ((a + b) % modOf m : Nat)) ∧ Kept None w w' := by
  have m0 := modOf_pos m
  have m1 := modOf_le m
  have hmod := modulus m
  generalize modOf m = M at *
  have HM := hid hmod
  clear hmod
  go_enter Try.func76, Try.ntmps76
  go_wp2_with fail
  refine (HM.out _).mono ?_
  rintro e w1 ⟨rfl, rfl⟩
  go_wp2
  have p0 : (0 : Int) < M := by omega
  have x0 := Int.emod_nonneg (a : Int) (show (M : Int) ≠ 0 by omega)
  have y0 := Int.emod_nonneg (b : Int) (show (M : Int) ≠ 0 by omega)
  have x1 := Int.emod_lt_of_pos (a : Int) p0
  have y1 := Int.emod_lt_of_pos (b : Int) p0
  have ew : IntKind.u64.wrap ((a : Int) % M + (b : Int) % M) = (a : Int) % M + (b : Int) % M := by rw [IntKind.wrap_u64]; exact Int.emod_eq_of_lt (by omega) (by omega)
  have t1 : (a : Int).tmod M = (a : Int) % M := Int.tmod_eq_emod_of_nonneg (by omega)
  have t2 : (b : Int).tmod M = (b : Int) % M := Int.tmod_eq_emod_of_nonneg (by omega)
  have t3 : ((a : Int) % M + (b : Int) % M).tmod M = ((a : Int) % M + (b : Int) % M) % M := Int.tmod_eq_emod_of_nonneg (by omega)
  clear x0 x1 y0 y1 m0 m1
  go_quiet (fail)
  go_wp2
  go_ret
  exact ⟨by rw [Int.natCast_emod, Int.natCast_add]; rfl, Kept.toDrewN _ _ _⟩

theorem and_one (n : Nat) : bits .and .u64 (n : Int) 1 = ((n % 2 : Nat) : Int) := by
  have key : (BitVec.ofInt 64 (n : Int) &&& BitVec.ofInt 64 1).toNat = n % 2 := by
    rw [BitVec.toNat_and, BitVec.ofInt_natCast, BitVec.toNat_ofNat, show (BitVec.ofInt 64 1).toNat = 2 ^ 1 - 1 from rfl, Nat.and_two_pow_sub_one_eq_mod]
    omega
  show IntKind.u64.wrap ((BitVec.ofInt 64 (n : Int) &&& BitVec.ofInt 64 1).toNat : Int) = _
  rw [key, IntKind.wrap_u64]
  omega

set_option maxHeartbeats 1000000 in
theorem mul (a b m : Nat) (w : World) : Calls Try.prog 77 #[.int .u64 a, .int .u64 b, .int .u64 m] w fun e w' => e = .returned (.int .u64 (a * b % modOf m : Nat)) ∧ Kept None w w' := by
  have m0 := modOf_pos m
  have m1 := modOf_le m
  have hmod := modulus m
  generalize modOf m = M at *
  have HM := hid hmod
  clear hmod
  go_enter Try.func77, Try.ntmps77
  go_wp2_with fail
  refine (HM.out _).mono ?_
  rintro e w1 ⟨rfl, rfl⟩
  go_wp2
  have t1 : (a : Int).tmod M = ((a % M : Nat) : Int) := by rw [Int.natCast_emod]; exact Int.tmod_eq_emod_of_nonneg (by omega)
  have t2 : (b : Int).tmod M = ((b % M : Nat) : Int) := by rw [Int.natCast_emod]; exact Int.tmod_eq_emod_of_nonneg (by omega)
  have p0 : (0 : Int) < M := by omega
  go_quiet (fail)
  clear t1 t2
  go_wp2
  go_loopw [0, 1, 7] (fun x y z wr => ∃ a' b' o : Nat, x = .int .u64 a' ∧ y = .int .u64 b' ∧ z = .int .u64 o ∧ a' < M ∧ o < M ∧ (o + a' * b') % M = a * b % M ∧ Kept None w wr) (fun _ y _ _ => (intOf y).toNat)
  case atStart =>
    refine ⟨a % M, b % M, 0, ?_, ?_, rfl, Nat.mod_lt _ m0, m0, by rw [Nat.zero_add, ← Nat.mul_mod], Kept.toDrewN _ _ _⟩
    · rw [Int.natCast_emod]
    · rw [Int.natCast_emod]
  case round =>
    obtain ⟨x, y, o, rfl, rfl, rfl, hx, ho, he, hk⟩ := hrel
    by_cases hy : 0 < y
    · have hand := and_one y
      rcases Nat.mod_two_eq_zero_or_one y with hp | hp
      · rw [hp] at hand
        have HE := hid ((mul_even M o x y hp).trans he)
        clear he hp
        go_wp2
        go_roundw
        case rel => exact ⟨(x + x) % M, y / 2, o, by simp, by simp, rfl, Nat.mod_lt _ m0, ho, HE.out, hk⟩
        case measure => simp [intOf]; omega
      · rw [hp] at hand
        have HE := hid ((mul_odd M o x y hp).trans he)
        clear he hp
        go_wp2
        go_roundw
        case rel => exact ⟨(x + x) % M, y / 2, (o + x) % M, by simp, by simp, by simp, Nat.mod_lt _ m0, Nat.mod_lt _ m0, HE.out, hk⟩
        case measure => simp [intOf]; omega
    · have hy0 : y = 0 := by omega
      subst hy0
      rw [Nat.mul_zero, Nat.add_zero, Nat.mod_eq_of_lt ho] at he
      have HE := hid he
      clear he
      go_wp2
      go_ret
      rw [← HE.out]
      exact ⟨rfl, hk⟩

theorem modOf_modOf (m : Nat) : modOf (modOf m) = modOf m := by
  unfold modOf
  by_cases h : m = order61
  · rw [if_pos h, if_pos rfl]
  · rw [if_neg h, if_neg (by decide)]

set_option maxHeartbeats 1000000 in
theorem pow (a n m : Nat) (w : World) : Calls Try.prog 73 #[.int .u64 a, .int .u64 n, .int .u64 m] w fun e w' => e = .returned (.int .u64 (powm (modOf m) a n : Nat)) ∧ Kept None w w' := by
  have m0 := modOf_pos m
  have m1 := modOf_le m
  have hmod := modulus m
  have hmul := fun a b => mul a b (modOf m)
  simp only [modOf_modOf] at hmul
  generalize modOf m = M at *
  have HM := hid hmod
  have HU := hid hmul
  clear hmod hmul
  go_enter Try.func73, Try.ntmps73
  go_wp2_with fail
  refine (HM.out _).mono ?_
  rintro e w1 ⟨rfl, rfl⟩
  go_wp2
  go_loopw [0, 1, 7] (fun x y z wr => ∃ a' b' o : Nat, x = .int .u64 a' ∧ y = .int .u64 b' ∧ z = .int .u64 o ∧ o < M ∧ o * powm M a' b' % M = powm M a n ∧ Kept None w wr) (fun _ y _ _ => (intOf y).toNat)
  case atStart =>
    refine ⟨a % M, n, 1 % M, by simp, rfl, by simp, Nat.mod_lt _ m0, ?_, Kept.refl _ _⟩
    rw [Nat.mod_mul_mod, Nat.one_mul, powm_mod, Nat.mod_eq_of_lt (powm_lt M a n m0)]
  case round =>
    obtain ⟨x, y, o, rfl, rfl, rfl, ho, he, hk⟩ := hrel
    by_cases hy : 0 < y
    · have hand := and_one y
      rcases Nat.mod_two_eq_zero_or_one y with hp | hp
      · rw [hp] at hand
        have HE := hid ((pow_even M o x y hp).trans he)
        clear he hp
        go_wp2_with fail
        refine (HU.out x x _).mono ?_
        rintro e w2 ⟨rfl, k2⟩
        have hk2 := hk.then k2 (fun _ _ h => h)
        go_wp2
        go_roundw
        case rel => exact ⟨x * x % M, y / 2, o, rfl, by simp, rfl, ho, HE.out, hk2⟩
        case measure => simp [intOf]; omega
      · rw [hp] at hand
        have HE := hid ((pow_odd M o x y hp).trans he)
        clear he hp
        go_wp2_with fail
        refine (HU.out o x _).mono ?_
        rintro e w2 ⟨rfl, k2⟩
        have hk2 := hk.then k2 (fun _ _ h => h)
        go_wp2_with fail
        refine (HU.out x x _).mono ?_
        rintro e w3 ⟨rfl, k3⟩
        have hk3 := hk2.then k3 (fun _ _ h => h)
        go_wp2
        go_roundw
        case rel => exact ⟨x * x % M, y / 2, o * x % M, rfl, by simp, rfl, Nat.mod_lt _ m0, HE.out, hk3⟩
        case measure => simp [intOf]; omega
    · have hy0 : y = 0 := by omega
      subst hy0
      rw [powm_zero, Nat.mul_mod_mod, Nat.mul_one, Nat.mod_eq_of_lt ho] at he
      have HE := hid he
      clear he
      go_wp2
      go_ret
      rw [← HE.out]
      exact ⟨rfl, hk⟩
end Ref
end Go.Proofs.Ytbebpnanhkcngaa
/- Package sponge: each function by its contract, over the plain functions of Spec2. So far: turn, spread, Perm. -/
namespace Go.Proofs.Ytbebpnanhkcngaa
open Go.RowKit Go.Pm
namespace Sp

set_option maxHeartbeats 400000 in
theorem turn (x : U64) (n : Nat) (w : World) (h0 : 0 < n) (h1 : n < 64) :
    Calls Try.prog 104 #[.int .u64 (U x), .int .i64 n] w fun e w' => e = .returned (.int .u64 (U (rot x n))) ∧ ∃ m, w' = w.drewN m := by
  have g0 := U_ge x
  have g1 := U_lt x
  go_enter Try.func104, Try.ntmps104
  go_wp2
  go_quiet (fail)
  go_wp2
  go_ret
  have e1 := U_shr x n
  have e2 := U_shl x (64 - n)
  push_cast at e1 e2
  refine ⟨?_, nq, rfl⟩
  show Ending.returned (.int .u64 (bits .or .u64 (U x / 2 ^ n) (IntKind.u64.wrap (U x * 2 ^ (64 - n))))) = _
  rw [e1, e2, U_or]
  rfl

set_option maxHeartbeats 400000 in
theorem spread (x : U64) (n m : Nat) (N M : Int) (hN : N = n) (hM : M = m) (w : World) (h0 : 0 < n) (h1 : n < 64) (h2 : 0 < m) (h3 : m < 64) :
    Calls Try.prog 102 #[.int .u64 (U x), .int .i64 N, .int .i64 M] w fun e w' => e = .returned (.int .u64 (U (lin x n m))) ∧ Kept None w w' := by
  subst hN hM
  have g0 := U_ge x
  have g1 := U_lt x
  go_enter Try.func102, Try.ntmps102
  go_wp2_with fail
  refine (turn x n _ h0 h1).mono ?_
  rintro e1 w1 ⟨rfl, m1, hw1⟩
  have k1 : Kept None w w1 := by rw [hw1]; exact Kept.toDrewN _ _ _
  clear hw1
  go_wp2_with fail
  refine (turn x m _ h2 h3).mono ?_
  rintro e2 w2 ⟨rfl, m2, hw2⟩
  have k2 : Kept None w w2 := by rw [hw2]; exact k1.drewN _
  clear hw2
  go_wp2
  go_ret
  simp only [U_xor]
  exact ⟨rfl, k2⟩

/-- A state, as the program has it. -/
abbrev sv (s : S5) : Value := .agg #[.int .u64 (U s.a), .int .u64 (U s.b), .int .u64 (U s.c), .int .u64 (U s.d), .int .u64 (U s.e)]
set_option maxRecDepth 100000 in
set_option maxHeartbeats 1000000 in
theorem perm (s : S5) (w : World) :
    Calls Try.prog 98 #[sv s] w fun e w' => e = .returned (sv s.perm) ∧ Kept None w w' := by
  generalize hs0 : s = s0
  have HS := hid hs0
  clear hs0
  obtain ⟨a, b, c, d, e⟩ := s
  go_enter Try.func98, Try.ntmps98
  go_wp2
  go_quiet (fail)
  go_wp2
  go_loopw [3, 4, 5, 6, 7, 8] (fun v3 v4 v5 v6 v7 v8 wr => ∃ (k : Nat) (t : S5) (n : U64), k ≤ 12 ∧ U n = 240 - 15 * k ∧ t = (consts.take k).foldl S5.round s0 ∧ v3 = .int .u64 (U t.a) ∧ v4 = .int .u64 (U t.b) ∧ v5 = .int .u64 (U t.c) ∧ v6 = .int .u64 (U t.d) ∧ v7 = .int .u64 (U t.e) ∧
      v8 = .int .u64 (U n) ∧ Kept None w wr ∧ Blk wr (w.heap.size + 1) #[.int .u64 0, .int .u64 0, .int .u64 0, .int .u64 0, .int .u64 0] 137) (fun _ _ _ _ _ v8 _ => (intOf v8).toNat)
  case atStart =>
    refine ⟨0, _, 240, by omega, rfl, rfl, ?_, ?_, ?_, ?_, ?_, rfl, ((Kept.refl _ _).alloc _).alloc _ |>.drewN _, (Blk.new2 _ _ _ _).drewN _⟩
    all_goals rw [← HS.out]; rfl
  case round =>
    obtain ⟨k, t, n, hk, hn, ht, rfl, rfl, rfl, rfl, rfl, rfl, hkk, hb⟩ := hrel
    by_cases hlt : k < 12
    · have hn1 : 75 ≤ U n := by omega
      have HM := hid (U_next n hn1)
      have HN := hid hn
      have HT := hid ht
      have HB := hid hb
      clear hn ht hb HS
      go_wp2_with fail
      simp only [U_xor, U_and, U_not']
      refine (spread _ 19 28 _ _ rfl rfl _ (by decide) (by decide) (by decide) (by decide)).mono ?_
      rintro e1 w1 ⟨rfl, k1⟩
      go_wp2_with fail
      refine (spread _ 61 39 _ _ rfl rfl _ (by decide) (by decide) (by decide) (by decide)).mono ?_
      rintro e2 w2 ⟨rfl, k2⟩
      go_wp2_with fail
      refine (spread _ 1 6 _ _ rfl rfl _ (by decide) (by decide) (by decide) (by decide)).mono ?_
      rintro e3 w3 ⟨rfl, k3⟩
      go_wp2_with fail
      refine (spread _ 10 17 _ _ rfl rfl _ (by decide) (by decide) (by decide) (by decide)).mono ?_
      rintro e4 w4 ⟨rfl, k4⟩
      go_wp2_with fail
      refine (spread _ 7 41 _ _ rfl rfl _ (by decide) (by decide) (by decide) (by decide)).mono ?_
      rintro e5 w5 ⟨rfl, k5⟩
      have kk := (((k1.trans k2).trans k3).trans k4).trans k5
      clear k1 k2 k3 k4 k5
      go_wp2
      go_roundw
      case rel =>
        obtain ⟨m, hm⟩ := HM.out
        refine ⟨k + 1, t.round n, m, by omega, by have := HN.out; omega, ?_, rfl, rfl, rfl, rfl, rfl, ?_, hkk.then kk (fun _ _ h => h), HB.out.kept kk (fun h => h)⟩
        · rw [HT.out]; exact (consts_step k hlt n HN.out s0).symm
        · rw [hm, wrap_next n hn1]
      case measure => simp only [intOf]; rw [wrap_next n hn1]; omega
    · have h12 : k = 12 := by omega
      have ht' : t = s0.perm := by rw [ht, h12]; rfl
      have hn1 : U n < 75 := by omega
      have HP := hid ht'
      have c2 := fun i => hb.cell i
      have hf : ∀ i, wr.frozen? ⟨w.heap.size + 1, i, none⟩ = false := fun i => hb.free i
      clear ht hn h12 ht'
      go_wp2
      have hb2 := ((((hb.set 0 (.int .u64 (U t.a))).set 1 (.int .u64 (U t.b))).set 2 (.int .u64 (U t.c))).set 3 (.int .u64 (U t.d))).set 4 (.int .u64 (U t.e))
      have hk2 : Kept None w (((((wr.setCell ⟨w.heap.size + 1, 0, none⟩ (.int .u64 (U t.a))).setCell ⟨w.heap.size + 1, 1, none⟩ (.int .u64 (U t.b))).setCell ⟨w.heap.size + 1, 2, none⟩ (.int .u64 (U t.c))).setCell ⟨w.heap.size + 1, 3, none⟩ (.int .u64 (U t.d))).setCell ⟨w.heap.size + 1, 4, none⟩ (.int .u64 (U t.e))) := by
        exact ((((hkk.setNew (by omega) _ _).setNew (by omega) _ _).setNew (by omega) _ _).setNew (by omega) _ _).setNew (by omega) _ _
      clear hb hkk c2 hf
      generalize (((((wr.setCell ⟨w.heap.size + 1, 0, none⟩ (.int .u64 (U t.a))).setCell ⟨w.heap.size + 1, 1, none⟩ (.int .u64 (U t.b))).setCell ⟨w.heap.size + 1, 2, none⟩ (.int .u64 (U t.c))).setCell ⟨w.heap.size + 1, 3, none⟩ (.int .u64 (U t.d))).setCell ⟨w.heap.size + 1, 4, none⟩ (.int .u64 (U t.e))) = w2 at *
      have c0 := hb2.cell 0
      have c1 := hb2.cell 1
      have c2 := hb2.cell 2
      have c3 := hb2.cell 3
      have c4 := hb2.cell 4
      simp at c0 c1 c2 c3 c4
      rw [← HP.out]
      exact bodyPost_ret (v := sv t) (by simp [results, Try.results98, go_sem, c0, c1, c2, c3, c4]) rfl ⟨rfl, hk2⟩

set_option maxHeartbeats 400000 in
/-- sponge.word. -/
theorem word (v : Value) (lo hi : Nat) (l : List UInt8) (w : World) (hv : Bs w lo hi v l) (hl : l.length ≤ 8) :
    Calls Try.prog 99 #[v] w fun en w' => en = .returned (.int .u64 (leV l)) ∧ w = w' := by
  obtain ⟨a, cap, rfl, g1, g2, g3⟩ := hv.shape
  go_enter Try.func99, Try.ntmps99
  go_wp2
  go_loop [3, 8] (fun x i => ∃ k : Nat, k ≤ l.length ∧ i = .int .i64 k ∧ x = .int .u64 (leV (l.take k))) (fun _ i => l.length - (intOf i).toNat)
  case atStart => exact ⟨0, Nat.zero_le _, rfl, by rw [leV_zero]⟩
  case round =>
    obtain ⟨k, hk, rfl, rfl⟩ := hrel
    by_cases hlt : k < l.length
    · obtain ⟨b, o, rfl, q1, q2, q3, hc⟩ := Bs.ne hv (by omega)
      have hc' := hc k hlt
      have c0 := bAt_ge l k
      have c1 := bAt_lt l k
      have HS := hid (word_step l k (by omega))
      clear hc hv g3
      generalize bAt l k = c at *
      go_wp2
      go_round
      case rel => exact ⟨k + 1, by omega, by go_num, by rw [HS.out]⟩
      case measure => simp [intOf]; omega
    · have h1 : l.take k = l := List.take_of_length_le (by omega)
      rw [h1]
      clear h1 hv g3
      go_wp2
      go_ret
      exact ⟨rfl, rfl⟩
end Sp
end Go.Proofs.Ytbebpnanhkcngaa

/- sponge.squeeze, by its contract. -/
namespace Go.Proofs.Ytbebpnanhkcngaa
open Go.RowKit Go.Pm
namespace Sp

theorem aS : AggTy Try.prog 137 5 := ⟨⟨.array 5 39, by kernel_rfl, rfl⟩, by kernel_rfl⟩
theorem aH : AggTy Try.prog 121 32 := ⟨⟨.array 32 5, by kernel_rfl, rfl⟩, by kernel_rfl⟩
/-- A state's cells. -/
abbrev sc (s : S5) : Array Value := #[.int .u64 (U s.a), .int .u64 (U s.b), .int .u64 (U s.c), .int .u64 (U s.d), .int .u64 (U s.e)]
theorem sc_all (s : S5) : (sc s).all (·.oneCell') = true := by simp [Value.oneCell']
/-- What has been squeezed so far, noughts behind it. -/
def sofar (s : S5) (k : Nat) : List Value := (eights s k).map u8v ++ List.replicate (32 - 8 * k) (.int .u8 0)

theorem sofar_zero (s : S5) : (sofar s 0).toArray = #[.int .u8 0, .int .u8 0, .int .u8 0, .int .u8 0, .int .u8 0, .int .u8 0, .int .u8 0, .int .u8 0, .int .u8 0, .int .u8 0, .int .u8 0, .int .u8 0, .int .u8 0, .int .u8 0, .int .u8 0, .int .u8 0, .int .u8 0, .int .u8 0, .int .u8 0, .int .u8 0, .int .u8 0, .int .u8 0, .int .u8 0, .int .u8 0, .int .u8 0, .int .u8 0, .int .u8 0, .int .u8 0, .int .u8 0, .int .u8 0, .int .u8 0, .int .u8 0] := rfl
theorem sofar_four (s : S5) : sofar s 4 = (eights s 4).map u8v := by unfold sofar; simp
theorem sofar_len (s : S5) (k : Nat) (hk : k ≤ 4) : (sofar s k).length = 32 := by unfold sofar; simp [eights_len]; omega
theorem zeros : ∀ n : Nat, (List.replicate n (Value.int .u8 0)).toArray = Array.replicate n (.int .u8 0) := fun n => by simp

theorem tHash : Try.prog.underlying 121 = some (.array (Try.prog.arrayLen 121) (Try.prog.elem 121)) := by kernel_rfl
theorem lHash : Try.prog.arrayLen 121 = 32 := by kernel_rfl
theorem zHash : ∀ W, (sizeOf (Try.prog.elem 121)).run Try.prog W = .ok 1 W := fun _ => by kernel_rfl
theorem cutHash (h k : Nat) (hk : k < 4) (W : World) : (Instr.sliceAt 121 (.pointer (some ⟨h, 0, none⟩)) (some (.int .i64 (8 * (k : Int)))) none none).run Try.prog W = .ok (.slice (some ⟨h, 8 * k, none⟩) (32 - 8 * k) (32 - 8 * k)) W := by
  rw [run_sliceAt_array_l W 121 ⟨h, 0, none⟩ tHash .i64 (8 * (k : Int)) (by omega) (by rw [lHash]; omega), zHash, lHash]
  have e : ((8 : Int) * (k : Int)).toNat = 8 * k := by omega
  simp only [Result.andThen, slicedAt, e]
  rw [if_neg (by omega), Nat.mul_one, Addr.add_lit, Nat.zero_add]
/-- What is known in the region that lays eight bytes into the hash: the hash's block; the bytes (operation 4); the hash behind the copy (operation 5). -/
def planSq (h H0 : Nat) (cur new : List Value) (l : List UInt8) : List Fct :=
  [{ k := 100, uses := [], fact := fun _ W => Blk W h cur.toArray 121 },
   { k := 4, uses := [], fact := fun v W => Ob W H0 v l },
   { k := 5, uses := [4, 100], spends := [100], fact := fun _ W => Blk W h new.toArray 121 }]
theorem planSq_pure {h H0 : Nat} {cur new : List Value} {l : List UInt8} : ∀ f ∈ planSq h H0 cur new l, ∃ v, f.pure v := by
  intro f hf
  simp only [planSq, List.mem_cons, List.not_mem_nil, or_false] at hf
  rcases hf with rfl | rfl | rfl <;> exact ⟨undef, trivial⟩
theorem planSq_keeps4 {base : World → Prop} {h H0 : Nat} {cur new : List Value} {l : List UInt8} {W W' : World} (hk : Kept None W W') : (planOf base (planSq h H0 cur new l)).keeps 4 W W' := by
  refine keeps_of fun f hf _ _ _ u hfu => ?_
  simp only [planSq, List.mem_cons, List.not_mem_nil, or_false] at hf
  rcases hf with rfl | rfl | rfl
  · exact Blk.kept hfu hk (fun h => h)
  · exact Bo.kept hfu hk (fun _ _ h => h)
  · exact Blk.kept hfu hk (fun h => h)
theorem planSq_keeps5 {base : World → Prop} {h H0 : Nat} {cur new : List Value} {l : List UInt8} {W W' : World} (hk : Kept (Just h) W W') (hh : h < H0) : (planOf base (planSq h H0 cur new l)).keeps 5 W W' := by
  refine keeps_of fun f hf hs _ hne u hfu => ?_
  simp only [planSq, List.mem_cons, List.not_mem_nil, or_false] at hf
  rcases hf with rfl | rfl | rfl
  · exact absurd (List.Mem.head _) hs
  · exact Bo.kept hfu hk (fun k hk' (e : k = h) => by have := (Bo.own hfu k hk').1; omega)
  · exact absurd rfl hne
theorem sofar_splice (s : S5) (k : Nat) (hk : k < 4) : splice (sofar s k) (8 * k) ((leB (U (Go.Pm.squeeze s k).a)).map u8v) = sofar s (k + 1) := by
  unfold splice sofar
  rw [List.take_left' (by simp [eights_len])]
  rw [show 8 * k + ((leB (U (Go.Pm.squeeze s k).a)).map u8v).length = ((eights s k).map u8v).length + 8 by simp [eights_len, leB_length]]
  rw [List.drop_append, List.drop_of_length_le (by simp)]
  simp only [eights, List.map_append, List.append_assoc, List.drop_replicate]
  congr 3
  simp
  omega

set_option maxHeartbeats 1000000 in
theorem sqz (s : S5) (w : World) :
    Calls Try.prog 100 #[sv s] w fun e w' => e = .returned (hashV (eights s 4)) ∧ Kept None w w' := by
  generalize hs0 : s = s0
  have HS := hid hs0
  clear hs0
  go_enter Try.func100, Try.ntmps100
  go_wp2
  go_loopw [4] (fun i wr => ∃ k : Nat, k ≤ 4 ∧ i = .int .i64 ((8 * k : Nat) : Int) ∧ Kept None w wr ∧ Blk wr w.heap.size (sc (squeeze s0 (k - 1))) 137 ∧ (∃ z : Array Value, z.size = 32 ∧ Blk wr (w.heap.size + 1) z 121) ∧
      Blk wr (w.heap.size + 1 + 1) (sofar s0 k).toArray 121) (fun i _ => 32 - (intOf i).toNat)
  case atStart =>
    refine ⟨0, by omega, rfl, (((Kept.refl _ _).alloc _).alloc _).alloc _, ?_, ⟨Array.replicate 32 (.int .u8 0), by simp, ?_⟩, ?_⟩
    · rw [← HS.out]; exact ((Blk.new _ _ _).alloc _).alloc _
    · exact (Blk.new2 _ _ _ _).alloc _
    · exact sofar_zero s0 ▸ Blk.new3 _ _ _ _ _
  case round =>
    obtain ⟨k, hk, rfl, hkk, hS, ⟨z, hz, hR⟩, hH⟩ := hrel
    have hsz := hkk.size
    by_cases h4 : k < 4
    · have hlt := hH.lt
      rcases Nat.eq_zero_or_pos k with h0 | h0
      case' inl =>
        obtain ⟨wx, hwx⟩ : ∃ wx, wx = wr := ⟨_, rfl⟩
        have hkx : Kept None w wx := by rw [hwx]; exact hkk
        have hSx : Blk wx w.heap.size (sc (Go.Pm.squeeze s0 k)) 137 := by rw [hwx, h0]; rw [h0] at hS; exact hS
        have hRx : Blk wx (w.heap.size + 1) z 121 := by rw [hwx]; exact hR
        have hHx : Blk wx (w.heap.size + 1 + 1) (sofar s0 k).toArray 121 := by rw [hwx]; exact hH
        rw [← hwx]
        have h0' : ¬ 0 < 8 * k := by omega
        clear hkk hS hR hH hwx hlt h0 hsz
        go_wp2
      case' inr =>
        have h0' : 0 < 8 * k := by omega
        go_wp2_with (first | (refine wpList_load_blk rfl _ _ rfl rfl hS aS ?_) | fail)
        refine (perm _ wr).mono ?_
        rintro e1 w1 ⟨rfl, k1⟩
        rw [show (Go.Pm.squeeze s0 (k - 1)).perm = Go.Pm.squeeze s0 k by obtain ⟨j, rfl⟩ : ∃ j, k = j + 1 := ⟨k - 1, by omega⟩; rfl]
        have hS1 := hS.kept k1 (fun h => h)
        go_wp2_with (first | (refine wpList_store_blk rfl _ _ _ rfl rfl rfl hS1 aS rfl (sc_all _) ?_; intro wx hSx k2))
        have hkx : Kept None w wx := (hkk.then k1 (fun _ _ h => h)).then k2 (fun i hi (h : i = _) => by omega)
        have hRx := (hR.kept k1 (fun h => h)).kept k2 (fun (h : _ = _) => by omega)
        have hHx := (hH.kept k1 (fun h => h)).kept k2 (fun (h : _ = _) => by omega)
        clear hkk hS hR hH hlt hS1 k1 k2 h0 hsz
      all_goals
        have hlx := hHx.lt
        have hu := U_ge (Go.Pm.squeeze s0 k).a
        have hu2 := U_lt (Go.Pm.squeeze s0 k).a
        have HU := hid (And.intro hu hu2)
        clear hu hu2
        try simp only [Act.put]
        refine wp_region_plan (Kept (Just (w.heap.size + 1 + 1)) wx) (planSq (w.heap.size + 1 + 1) wx.heap.size (sofar s0 k) (sofar s0 (k + 1)) (leB (U (Go.Pm.squeeze s0 k).a))) [100] (by kernel_rfl) (by kernel_rfl) (by kernel_rfl) rfl planSq_pure (Kept.refl _ _).drew (fun j hj => by
          obtain rfl : j = 100 := by simpa using hj
          exact hHx.drew) ?_
        iterate 4 (refine wpPar_pure rfl (by rfl) _ (fun W hW => by
          have c0 : W.cell? ⟨w.heap.size, 0, none⟩ = some (.int .u64 (U (Go.Pm.squeeze s0 k).a)) := (hSx.kept hW (fun (h : _ = _) => by omega)).cell 0
          have h1 := cutHash (w.heap.size + 1 + 1) k h4 W
          go_simp
          exact rfl) ?_; simp only [Act.put, List.setIfInBounds_toArray, List.set_cons_zero, List.set_cons_succ])
        refine wpPar_adds rfl (by rfl) (fun W hW _ => ?_) (fun v _ => ?_)
        · unfold Gives
          go_simp
          refine gives_call (Bin.num _ W HU.out.1 HU.out.2) ?_
          rintro e w3 ⟨v3, rfl, k3, hb3⟩
          exact ⟨_, rfl, hW.then k3 (fun _ _ h => h.elim), trivial, hb3.base hW.size, planSq_keeps4 k3⟩
        simp only [Act.put, List.setIfInBounds_toArray, List.set_cons_zero, List.set_cons_succ]
        refine wpPar_adds rfl (by rfl) (fun W hW hd => ?_) (fun v' _ => ?_)
        · have hv4 : Ob W wx.heap.size v (leB (U (Go.Pm.squeeze s0 k).a)) := hd 4 (List.Mem.head _)
          have hB : Blk W (w.heap.size + 1 + 1) (sofar s0 k).toArray 121 := hd 100 (List.Mem.tail _ (List.Mem.head _))
          refine gives_copy (.tmp 14) (.tmp 17) 22 22 rfl 5 tBytes' (by kernel_rfl) rfl rfl (hv4.bs (Nat.le_refl _)) (by rw [leB_length]; decide) hB (by rw [leB_length]; omega) (by rw [sofar_len _ _ hk, leB_length]; omega) ?_
          intro w' b' k'
          rw [sofar_splice _ _ h4] at b'
          exact ⟨hW.then k' (fun _ _ h => h), trivial, b', planSq_keeps5 k' hlx⟩
        simp only [Act.put, List.setIfInBounds_toArray, List.set_cons_zero, List.set_cons_succ]
        refine wpPar_nil (fun W hW hG => ?_)
        have hHn : Blk W (w.heap.size + 1 + 1) (sofar s0 (k + 1)).toArray 121 := hG 5
        have hkn : Kept None w W := hkx.then hW (fun i hi (h : i = _) => by omega)
        have hSn := hSx.kept hW (fun (h : _ = _) => by omega)
        have hRn := hRx.kept hW (fun (h : _ = _) => by omega)
        clear hkx hSx hRx hHx hW hG HU
        go_wp2
        go_roundw
        case rel => exact ⟨k + 1, by omega, by go_num, hkn, hSn, ⟨z, hz, hRn⟩, hHn⟩
        case measure => simp [intOf]; omega
    · have hk4 : k = 4 := by omega
      subst hk4
      rw [sofar_four] at hH
      have e32 : ((eights s0 4).map u8v).toArray.size = 32 := by simp [eights_len]
      have aH' : AggTy Try.prog 121 ((eights s0 4).map u8v).toArray.size := by rw [e32]; exact aH
      have hz' := hz.trans e32.symm
      have E := hid (And.intro hz hz')
      clear e32 hz hz'
      go_wp2_with (first | (refine wpList_load_blk rfl _ _ rfl rfl hH aH' ?_) | (refine wpList_store_blk rfl _ _ _ rfl rfl rfl hR aH' E.out.2 (u8v_all _) ?_; intro w2 b2 k2))
      exact bodyPost_ret (v := hashV (eights s0 4)) (results_blk rfl _ rfl b2 aH') rfl ⟨rfl, hkk.then k2 (fun i hi (h : i = _) => by omega)⟩
end Sp
end Go.Proofs.Ytbebpnanhkcngaa

/- sponge.Sum, Text, Tag, by their contracts. -/
namespace Go.Proofs.Ytbebpnanhkcngaa
open Go.RowKit Go.Pm
namespace Sp

def lenOf : Value → Nat
  | .slice _ n _ => n
  | _ => 0
theorem perm_first (w : World) : Calls Try.prog 98 #[.agg #[.int .u64 8800401358850, .int .u64 0, .int .u64 0, .int .u64 0, .int .u64 0]] w fun e w' => e = .returned (sv first) ∧ Kept None w w' :=
  perm ⟨0x0000080100cc0002, 0, 0, 0, 0⟩ w
set_option maxRecDepth 100000 in
set_option maxHeartbeats 1000000 in
theorem sum (v : Value) (lo hi : Nat) (l : List UInt8) (w : World) (hv : Bs w lo hi v l) :
    Calls Try.prog 92 #[v] w fun e w' => e = .returned (hashV (sumB l)) ∧ Kept None w w' := by
  have pf := perm_first
  have key1 := absorb_step l first
  have key2 := soaked_last l
  have e32 : ((sumB l).map u8v).toArray.size = 32 := by simp [sumB_len]
  show Calls _ _ _ w fun e w' => e = .returned (hashV (eights (soaked l) 4)) ∧ Kept None w w'
  change ((eights (soaked l) 4).map u8v).toArray.size = 32 at e32
  have sq := fun w => sqz (soaked l) w
  -- an 'obtain' keeps each under its name in the proof's term too: what stands behind the names unfolds without end
  obtain ⟨res, hres⟩ : ∃ res, res = eights (soaked l) 4 := ⟨_, rfl⟩
  obtain ⟨so, hso⟩ : ∃ so, so = soaked l := ⟨_, rfl⟩
  obtain ⟨F, hF⟩ : ∃ F, F = first := ⟨_, rfl⟩
  rw [← hres] at e32 sq ⊢
  rw [← hso] at sq key2
  rw [← hF] at pf key1 key2
  have PF := hid pf
  have SQ := hid sq
  have K1 := hid key1
  have K2 := hid key2
  have K3 := hid e32
  clear key1 key2 e32 sq pf hres hso hF
  obtain ⟨a, cap, rfl, g1, g2, g3⟩ := hv.shape
  go_enter Try.func92, Try.ntmps92
  go_wp2_with fail
  refine (PF.out _).mono ?_
  rintro e1 w1 ⟨rfl, k1⟩
  have k1' : Kept None w w1 := ((Kept.refl _ _).alloc _).trans k1
  have hR := (Blk.new w _ _).kept k1 (fun h => h)
  obtain ⟨z, hz, hR'⟩ : ∃ z : Array Value, z.size = 32 ∧ Blk w1 w.heap.size z 121 := ⟨_, rfl, hR⟩
  have hs1 : w.heap.size < w1.heap.size := hR'.lt
  clear k1 hR
  go_wp2
  have hv0 := (Vs.lt hv).kept (k1'.alloc (.cells (sc F) 137)) (fun _ _ _ h => h)
  have hhi : min hi w.heap.size ≤ w1.heap.size := by omega
  generalize min hi w.heap.size = hi' at hv0 hhi
  go_loopw [0] (fun v wr => ∃ (k n : Nat) (a : Option Addr) (c : Nat), v = .slice a n c ∧ 8 * k + n = l.length ∧ Bs wr lo hi' (.slice a n c) (l.drop (8 * k)) ∧ Kept None w wr ∧ Blk wr w1.heap.size (sc (absorb (padded l) F k)) 137 ∧ Blk wr w.heap.size z 121) (fun v _ => lenOf v)
  case atStart => exact ⟨0, l.length, a, cap, rfl, by omega, hv0, k1'.alloc _, Blk.new _ _ _, hR'.alloc _⟩
  case round =>
    clear hv0 hR' hv g3
    obtain ⟨k, n, a, c, rfl, hn, hb, hk, hS, hR⟩ := hrel
    have hnc : n ≤ c ∧ c ≤ 9223372036854775807 := by
      obtain ⟨a', c', e, h1, h2, _⟩ := hb.shape
      injection e with e1 e2 e3
      omega
    obtain ⟨hnc1, hnc2⟩ := hnc
    have hlt := hS.lt
    by_cases h8 : 8 ≤ n
    · obtain ⟨a1, s1, p1⟩ := slice_to tBytes zBytes hb .i64 8 (by omega) (by omega)
      obtain ⟨a2, s2, p2⟩ := slice_from tBytes zBytes hb .i64 8 (by omega) (by omega)
      have c0 := hS.cell 0
      have f0 := hS.free 0
      simp at c0
      go_wp2
      clear c0 f0
      refine wp_tail 7 (by kernel_rfl) (by kernel_rfl) (fun wy ky => ?_)
      have hS' := hS.kept ky (fun h => h)
      have c0 := hS'.cell 0
      have f0 := hS'.free 0
      simp at c0
      simp only [List.take_succ_cons, List.take_zero, List.drop_succ_cons, List.drop_zero]
      repeat still_step
      have hb1 : Bs wy lo hi' (.slice a1 8 c) ((l.drop (8 * k)).take 8) := by
        have := Vs.kept p1 ky (fun _ _ _ h => h)
        rw [← List.map_take] at this
        exact this
      still_call (Calls.same (word (.slice a1 8 c) lo hi' _ wy hb1 (by simp; omega)))
      repeat still_step
      refine wpStill_nil ?_
      have hx := mixed_a (absorb (padded l) F k) (leV ((l.drop (8 * k)).take 8)) (leV_ge _) (leV_lt _)
      have HST := hid (K1.out k (by omega))
      generalize hx' : leV ((l.drop (8 * k)).take 8) = x at *
      clear hx'
      generalize hst : absorb (padded l) F k = st at *
      clear hst
      simp only [hx]
      have hS2 : Blk (wy.setCell ⟨w1.heap.size, 0, none⟩ (.int .u64 (U (st.mixed (W x)).a))) w1.heap.size (sc (st.mixed (W x))) 137 := hS'.set 0 _
      have ky2 := (Kept.one wy w1.heap.size 0 (.int .u64 (U (st.mixed (W x)).a)))
      have hb2 : Bs wy lo hi' (.slice a2 (n - 8) (c - 8)) (l.drop (8 * (k + 1))) := by
        have := Vs.kept p2 ky (fun _ _ _ h => h)
        rw [← List.map_drop, List.drop_drop] at this
        exact this
      have hR2 := hR.kept ky (fun h => h)
      have hk2 := hk.then ky (fun _ _ h => h)
      clear hR hk hx p1 p2 hb1 hS hb hS' ky
      go_wp2_with (first | (refine wpList_load_blk rfl _ _ rfl rfl hS2 aS ?_) | fail)
      refine (perm _ _).mono ?_
      rintro e1 w2 ⟨rfl, k1⟩
      rw [← HST.out]
      obtain ⟨st', hst'⟩ : ∃ st', st' = absorb (padded l) F (k + 1) := ⟨_, rfl⟩
      rw [← hst']
      have HN := hid hst'
      clear hst' HST
      have hS3 := hS2.kept k1 (fun h => h)
      have hk3 : Kept None w w2 := (hk2.then ky2 (fun i hi (h : i = w1.heap.size) => by omega)).then k1 (fun _ _ h => h)
      have hb3 := (hb2.kept ky2 (fun i h1 h2 (h : i = w1.heap.size) => by omega)).kept k1 (fun _ _ _ h => h)
      have hR3 := (hR2.kept ky2 (fun (h : w.heap.size = w1.heap.size) => by omega)).kept k1 (fun h => h)
      clear hS2 hk2 hb2 hR2 ky2 k1 c0 f0
      go_wp2_with (first | (refine wpList_store_blk rfl _ _ _ rfl rfl rfl hS3 aS rfl (sc_all _) ?_; intro w3 hS4 k4))
      exact ⟨⟨k + 1, n - 8, a2, c - 8, rfl, by omega, hb3.kept k4 (fun i h1 h2 (h : i = w1.heap.size) => by omega), hk3.then k4 (fun i hi (h : i = w1.heap.size) => by omega), HN.out ▸ hS4, hR3.kept k4 (fun (h : w.heap.size = w1.heap.size) => by omega)⟩, by simp only [lenOf]; omega⟩
    · go_wp2
      refine wp_tail 11 (by kernel_rfl) (by kernel_rfl) (fun wy ky => ?_)
      have hS' := hS.kept ky (fun h => h)
      have c0 := hS'.cell 0
      have f0 := hS'.free 0
      simp at c0
      have hb' := hb.kept ky (fun _ _ _ h => h)
      simp only [List.take_succ_cons, List.take_zero, List.drop_succ_cons, List.drop_zero]
      repeat still_step
      have hlen : (l.drop (8 * k)).length ≤ 8 := by simp; omega
      have e1 : IntKind.i64.wrap (8 * (n : Int)) = 8 * (n : Int) := by rw [IntKind.wrap_i64]; omega
      have e2 : (0 : Int) ≤ 8 * (n : Int) := by omega
      have e3 : ((8 : Int) * (n : Int)).toNat = 8 * n := by omega
      still_call (Calls.same (word _ lo hi' _ wy hb' hlen))
      repeat still_step
      refine wpStill_nil ?_
      rw [last_word l k n hn (by omega)]
      have hx := mixed_a (absorb (padded l) F k) (leV ((padded l).drop (8 * k))) (leV_ge _) (leV_lt _)
      have HST := hid (K2.out k n hn (by omega))
      generalize hx' : leV ((padded l).drop (8 * k)) = x at *
      clear hx'
      generalize hst : absorb (padded l) F k = st at *
      clear hst
      simp only [hx]
      have hS2 : Blk (wy.setCell ⟨w1.heap.size, 0, none⟩ (.int .u64 (U (st.mixed (W x)).a))) w1.heap.size (sc (st.mixed (W x))) 137 := hS'.set 0 _
      have ky2 := (Kept.one wy w1.heap.size 0 (.int .u64 (U (st.mixed (W x)).a)))
      have hR2 := hR.kept ky (fun h => h)
      have hk2 := hk.then ky (fun _ _ h => h)
      clear hR hk hx hS hb hS' ky hb' hlen e1 e2 e3
      go_wp2_with (first | (refine wpList_load_blk rfl _ _ rfl rfl hS2 aS ?_) | fail)
      refine (perm _ _).mono ?_
      rintro e1 w2 ⟨rfl, k1⟩
      rw [← HST.out]
      have hS3 := hS2.kept k1 (fun h => h)
      have hk3 : Kept None w w2 := (hk2.then ky2 (fun i hi (h : i = w1.heap.size) => by omega)).then k1 (fun _ _ h => h)
      have hR3 := (hR2.kept ky2 (fun (h : w.heap.size = w1.heap.size) => by omega)).kept k1 (fun h => h)
      clear hS2 hk2 hR2 ky2 k1 c0 f0
      go_wp2_with (first | (refine wpList_store_blk rfl _ _ _ rfl rfl rfl hS3 aS rfl (sc_all _) ?_; intro w3 hS4 k4) | (refine wpList_load_blk rfl _ _ rfl rfl hS4 aS ?_) | fail)
      have hk4 := hk3.then k4 (fun i hi (h : i = w1.heap.size) => by omega)
      have hR4 := hR3.kept k4 (fun (h : w.heap.size = w1.heap.size) => by omega)
      clear hS3 hk3 hR3 k4
      refine (SQ.out _).mono ?_
      rintro e2 w5 ⟨rfl, k5⟩
      have hR5 := hR4.kept k5 (fun h => h)
      have hk5 := hk4.then k5 (fun _ _ h => h)
      have e32 : (res.map u8v).toArray.size = 32 := K3.out
      have aH' : AggTy Try.prog 121 (res.map u8v).toArray.size := by rw [e32]; exact aH
      have hz' := hz.trans e32.symm
      have E := hid (And.intro hz hz')
      clear e32 hz hz' hR4 hk4 k5 hS4
      go_wp2_with (first | (refine wpList_store_blk rfl _ _ _ rfl rfl rfl hR5 aH' E.out.2 (u8v_all _) ?_; intro w6 hR6 k6) | fail)
      exact bodyPost_ret (v := hashV res) (results_blk rfl _ rfl hR6 aH') rfl ⟨rfl, hk5.then k6 (fun i hi (h : i = w.heap.size) => by omega)⟩
end Sp
end Go.Proofs.Ytbebpnanhkcngaa

/- sponge.Text, sponge.Tag, by their contracts. -/
namespace Go.Proofs.Ytbebpnanhkcngaa
open Go.RowKit Go.Pm

theorem tLists : Try.prog.underlying 26 = some (.slice 22) := by kernel_rfl
theorem infoBytes : (Try.prog.info? 22).map (fun i => (i.zero, i.size, i.bytes)) = some (some (.slice none 0 0), 1, 24) := by kernel_rfl
theorem rtLists : RowTy Try.prog 26 22 (.slice none 0 0) 24 := ⟨by kernel_rfl, info_parts infoBytes, rfl⟩
/-- A [][]byte of the call's own. -/
abbrev Obs (w : World) (base : Nat) (v : Value) (ls : List (List UInt8)) : Prop := Bos 22 w base v ls
namespace Sp
set_option maxRecDepth 100000 in
set_option maxHeartbeats 1000000 in
/-- sponge.Text. -/
theorem text (tag : Int) (v : Value) (lo hi lo' hi' : Nat) (ls : List (List UInt8)) (w : World) (ht0 : 0 ≤ tag) (ht1 : tag < 256) (hv : Bss w lo hi lo' hi' v ls) (hn : ls.length ≤ 1099511627776) (hl : total ls ≤ 1099511627776) :
    Calls Try.prog 93 #[.int .u8 tag, v] w fun e w' => ∃ v', e = .returned v' ∧ Kept None w w' ∧ Ob w' w.heap.size v' (textB tag ls) := by
  obtain ⟨a, cap, rfl, g1, g2, g3⟩ := hv.shape
  obtain ⟨i0, hi0, hz0, hz1, hz2⟩ := info_parts infoBytes
  go_enter Try.func93, Try.ntmps93
  go_wp2_with (at_make; refine wpList_make_own _ rfl _ _ 26 rfl w.heap.size 22 i0 (.slice none 0 0) 1 tLists hi0 hz0 hz1 .i64 .i64 ((ls.length : Int) + 1) (ls.length + 1) rfl rfl rfl ?h1 ?h2 ?h3 ?h4)
  case h1 => rw [hz2]; omega
  case h2 => unfold maxLen; omega
  case h3 => exact Nat.le_refl _
  case h4 =>
    intro w1 hown hgrow
    have hk1 : Kept None w w1 := Kept.grown (Kept.refl _ _) hgrow (fun _ h => by cases h)
    have hb1 : Obs w1 w.heap.size (.slice (some ⟨w.heap.size, 0, none⟩) 0 (ls.length + 1)) [] := ⟨[], hown, fun i x l h => by simp at h⟩
    have hs1 := (hb1.own w.heap.size rfl).2
    have hb2 := hb1.kept ((Kept.refl None w1).alloc (.cells #[.int .u8 tag] 5))
    have hk2 := hk1.alloc (.cells #[.int .u8 tag] 5)
    have hy : Bs (w1.alloc (.cells #[.int .u8 tag] 5)) 0 (w1.alloc (.cells #[.int .u8 tag] 5)).heap.size (.slice (some ⟨w1.heap.size, 0, none⟩) 1 1) [Go.Pm.byteOf tag] := by
      have := Bo.new w1 5 [Go.Pm.byteOf tag] #[.int .u8 tag] (by simp [u8v_byteOf' ht0 ht1]) 1 rfl (by decide)
      exact (this.bs (Nat.le_refl _)).all
    have E := hid (And.intro hz2 g3)
    clear hown hgrow hb1 hk1 hz0 hz1 hz2 hi0 g3
    go_wp2_with (at_builtin; refine wpList_append_item rfl _ _ 26 rfl rtLists rfl rfl ?k1 hb2 hy ?k2 ?k3 ?k4 ?k5)
    case k1 => simp
    case k2 =>
      intro _ k hk e
      have h1 : w1.heap.size = k := Option.some.inj hk
      have h2 : w.heap.size = k := Option.some.inj e
      omega
    case k3 => simp
    case k4 => simp; omega
    case k5 =>
      intro a2 n2 c2 w2 hb3 hk3 _
      have hk4 : Kept None w w2 := hk2.then hk3 (fun i hi (h : _ = some i) => by simp [Value.ownBlock] at h; omega)
      clear hb2 hy hk2 hk3
      go_wp2
      go_loopw [5, 19] (fun t i wr => ∃ k : Nat, k ≤ ls.length ∧ i = .int .i64 k ∧ (∃ a n c, t = .slice a n c) ∧ Obs wr w.heap.size t (partsB tag (ls.take k)) ∧ Kept None w wr) (fun _ i _ => ls.length - (intOf i).toNat)
      case atStart => exact ⟨0, Nat.zero_le _, rfl, ⟨_, _, _, rfl⟩, hb3, hk4⟩
      case round =>
        clear hb3 hk4
        obtain ⟨k, hk, rfl, ⟨a3, n3, c3, rfl⟩, hb, hkk⟩ := hrel
        have hsz := hkk.size
        by_cases hlt : k < ls.length
        · have hvr := hv.kept hkk (fun _ _ _ h => h) (fun _ _ _ h => h)
          obtain ⟨b, o, rfl, q1, q2, q3, hc⟩ := Bss.at hvr (by omega)
          obtain ⟨a', c', hc', hb'⟩ := hc k hlt
          have hlen := at_total ls k hlt
          have HP := hid (partsB_take tag ls k hlt)
          have hpl := partsB_len tag (ls.take k)
          have hpl' : (partsB tag (ls.take k)).length ≤ ls.length + 1 := by rw [hpl, List.length_take]; omega
          clear hpl hc hvr hv
          generalize ls[k] = x at *
          go_wp2_with fail
          refine (Bin.lump _ _ _ _ _ hb' (by omega)).mono ?_
          rintro e1 w4 ⟨v4, rfl, k4, b4⟩
          have hyl : (leB x.length ++ x).length = x.length + 8 := by simp [leB_length]; omega
          have HP' := HP.out
          generalize leB x.length ++ x = y at *
          have HP2 := hid HP'
          clear HP HP'
          have hb4 := hb.kept k4
          have hk5 := hkk.then k4 (fun _ _ h => h)
          have hne : 0 < y.length → ∀ j, v4.ownBlock = some j → (Value.slice a3 n3 c3).ownBlock ≠ some j := fun _ j h1 h2 => by
            have := (b4.own j h1).1
            have := (hb.own j h2).2
            omega
          have hs4 := k4.size
          have hb4' := (b4.bs (Nat.le_refl _)).all
          obtain ⟨a4, c4, rfl⟩ := b4.form
          have HY := hid hyl
          clear hyl hb hkk k4 b4 hb'
          go_wp2_with (at_builtin; refine wpList_append_item rfl _ _ 26 rfl rtLists rfl rfl rfl hb4 hb4' ?m0 ?m1 ?m2 ?m3)
          case m0 => exact hne
          case m1 => omega
          case m2 => omega
          case m3 =>
            intro a5 n5 c5 w5 hb5 hk6 _
            have hk7 : Kept None w w5 := hk5.then hk6 (fun i hi (h : _ = some i) => by have := (hb4.own i h).1; omega)
            rw [← HP2.out] at hb5
            clear hb4 hb4' hk5 hk6 HP2 hne
            go_wp2
            go_roundw
            case rel => exact ⟨k + 1, by omega, by go_num, ⟨_, _, _, rfl⟩, hb5, hk7⟩
            case measure => simp [intOf]; omega
        · have hb6 : Obs wr w.heap.size (.slice a3 n3 c3) (partsB tag ls) := by rw [List.take_of_length_le (by omega)] at hb; exact hb
          clear hb hv
          go_wp2_with fail
          refine (Bin.join _ _ _ _ _ _ _ hb6.bss (by show (textB tag ls).length ≤ _; rw [textB_length]; omega)).mono ?_
          rintro e1 w7 ⟨v7, rfl, k7, b7⟩
          have b8 := b7.base hsz
          have k8 := hkk.then k7 (fun _ _ h => h)
          clear b7 k7 hkk hb6
          go_wp2
          go_ret
          exact ⟨_, rfl, k8, b8⟩

set_option maxRecDepth 100000 in
set_option maxHeartbeats 400000 in
/-- sponge.Tag. -/
theorem tag (tg : Int) (v : Value) (lo hi lo' hi' : Nat) (ls : List (List UInt8)) (w : World) (ht0 : 0 ≤ tg) (ht1 : tg < 256) (hv : Bss w lo hi lo' hi' v ls) (hn : ls.length ≤ 1099511627776) (hl : total ls ≤ 1099511627776) :
    Calls Try.prog 80 #[.int .u8 tg, v] w fun e w' => e = .returned (hashV (sumB (textB tg ls))) ∧ Kept None w w' := by
  have hs := fun v lo hi w h => sum v lo hi (textB tg ls) w h
  have e32 := sumB_len (textB tg ls)
  obtain ⟨res, hres⟩ : ∃ res, res = sumB (textB tg ls) := ⟨_, rfl⟩
  rw [← hres] at hs e32 ⊢
  have HS := hid hs
  have H32 := hid e32
  clear hs e32 hres
  obtain ⟨a, cap, rfl, g1, g2, g3⟩ := hv.shape
  clear g3
  go_enter Try.func80, Try.ntmps80
  go_wp2_with fail
  have hv1 := hv.kept ((Kept.refl None w).alloc (.cells (Array.replicate 32 (.int .u8 0)) 121)) (fun _ _ _ h => h) (fun _ _ _ h => h)
  refine (text tg _ lo hi lo' hi' ls _ ht0 ht1 hv1 hn hl).mono ?_
  rintro e1 w1 ⟨v1, rfl, k1, b1⟩
  obtain ⟨z, hz, hR⟩ : ∃ z : Array Value, z.size = 32 ∧ Blk w1 w.heap.size z 121 := ⟨Array.replicate 32 (.int .u8 0), by simp, (Blk.new w _ _).kept k1 (fun h => h)⟩
  have k2 : Kept None w w1 := ((Kept.refl _ _).alloc _).trans k1
  clear hv hv1 k1
  go_wp2_with fail
  refine (HS.out _ _ _ _ (b1.bs (Nat.le_refl _))).mono ?_
  rintro e2 w2 ⟨rfl, k3⟩
  have hR2 := hR.kept k3 (fun h => h)
  have k4 := k2.then k3 (fun _ _ h => h)
  have e32 : (res.map u8v).toArray.size = 32 := by simpa using H32.out
  have aH' : AggTy Try.prog 121 (res.map u8v).toArray.size := by rw [e32]; exact aH
  have E := hid (hz.trans e32.symm)
  clear hR k3 k2 b1 e32 hz
  go_wp2_with (first | (refine wpList_store_blk rfl _ _ _ rfl rfl rfl hR2 aH' E.out (u8v_all _) ?_; intro w6 hR6 k6) | fail)
  exact bodyPost_ret (v := hashV res) (results_blk rfl _ rfl hR6 aH') rfl ⟨rfl, k4.then k6 (fun i hi (h : i = w.heap.size) => by omega)⟩
end Sp
end Go.Proofs.Ytbebpnanhkcngaa
/- postmarkref1.turn, round, Perm, by their contracts. -/
namespace Go.Proofs.Ytbebpnanhkcngaa
open Go.RowKit Go.Pm
namespace Ref

set_option maxRecDepth 100000 in
set_option maxHeartbeats 400000 in
theorem turn (x : U64) (n : Nat) (N : Int) (hN : N = n) (w : World) (h0 : 0 < n) (h1 : n < 64) :
    Calls Try.prog 103 #[.int .u64 (U x), .int .i64 N] w fun e w' => e = .returned (.int .u64 (U (rot x n))) ∧ Kept None w w' := by
  subst hN
  have g0 := U_ge x
  have g1 := U_lt x
  go_enter Try.func103, Try.ntmps103
  go_wp2
  go_quiet (fail)
  go_wp2
  go_ret
  have e1 := U_shr x n
  have e2 := U_shl x (64 - n)
  push_cast at e1 e2
  refine ⟨?_, Kept.toDrewN _ _ _⟩
  show Ending.returned (.int .u64 (bits .or .u64 (U x / 2 ^ n) (IntKind.u64.wrap (U x * 2 ^ (64 - n))))) = _
  rw [e1, e2, U_or]
  rfl

/-- The first k of t's words. -/
def tc (t : S5) : Nat → Array Value
  | 0 => #[.int .u64 0, .int .u64 0, .int .u64 0, .int .u64 0, .int .u64 0]
  | 1 => #[.int .u64 (U t.a), .int .u64 0, .int .u64 0, .int .u64 0, .int .u64 0]
  | 2 => #[.int .u64 (U t.a), .int .u64 (U t.b), .int .u64 0, .int .u64 0, .int .u64 0]
  | 3 => #[.int .u64 (U t.a), .int .u64 (U t.b), .int .u64 (U t.c), .int .u64 0, .int .u64 0]
  | 4 => #[.int .u64 (U t.a), .int .u64 (U t.b), .int .u64 (U t.c), .int .u64 (U t.d), .int .u64 0]
  | _ => #[.int .u64 (U t.a), .int .u64 (U t.b), .int .u64 (U t.c), .int .u64 (U t.d), .int .u64 (U t.e)]

theorem sgn : (if IntKind.u64.signed = true then (-1 : Int) else IntKind.u64.max) = IntKind.u64.max := rfl
theorem tc_size (t : S5) (k : Nat) : (tc t k).size = 5 := by unfold tc; split <;> rfl
theorem chi_a (s : S5) : bits .xor .u64 (U s.a) (bits .and .u64 (bits .xor .u64 IntKind.u64.max (U s.b)) (U s.c)) = U s.chi.a := by simp only [U_xor, U_and, U_not']; rfl
theorem chi_b (s : S5) : bits .xor .u64 (U s.b) (bits .and .u64 (bits .xor .u64 IntKind.u64.max (U s.c)) (U s.d)) = U s.chi.b := by simp only [U_xor, U_and, U_not']; rfl
theorem chi_c (s : S5) : bits .xor .u64 (U s.c) (bits .and .u64 (bits .xor .u64 IntKind.u64.max (U s.d)) (U s.e)) = U s.chi.c := by simp only [U_xor, U_and, U_not']; rfl
theorem chi_d (s : S5) : bits .xor .u64 (U s.d) (bits .and .u64 (bits .xor .u64 IntKind.u64.max (U s.e)) (U s.a)) = U s.chi.d := by simp only [U_xor, U_and, U_not']; rfl
theorem chi_e (s : S5) : bits .xor .u64 (U s.e) (bits .and .u64 (bits .xor .u64 IntKind.u64.max (U s.a)) (U s.b)) = U s.chi.e := by simp only [U_xor, U_and, U_not']; rfl

/-- What is known in a region that spreads a word: the state's block; the two turned words (operations 4, 8); the state's block behind the store (operation 11). -/
def planTurn (r : Nat) (cur new : Array Value) (x : U64) (n m : Nat) : List Fct :=
  [{ k := 100, uses := [], fact := fun _ W => Blk W r cur 137 },
   { k := 4, uses := [], pure := fun v => v = .int .u64 (U (rot x n)) },
   { k := 8, uses := [], pure := fun v => v = .int .u64 (U (rot x m)) },
   { k := 11, uses := [100], spends := [100], fact := fun _ W => Blk W r new 137 }]
theorem planTurn_pure {r : Nat} {cur new : Array Value} {x : U64} {n m : Nat} : ∀ f ∈ planTurn r cur new x n m, ∃ v, f.pure v := by
  intro f hf
  simp only [planTurn, List.mem_cons, List.not_mem_nil, or_false] at hf
  rcases hf with rfl | rfl | rfl | rfl
  · exact ⟨undef, trivial⟩
  · exact ⟨_, rfl⟩
  · exact ⟨_, rfl⟩
  · exact ⟨undef, trivial⟩
theorem planTurn_keeps {base : World → Prop} {r i : Nat} {cur new : Array Value} {x : U64} {n m : Nat} {W W' : World} (hk : Kept None W W') : (planOf base (planTurn r cur new x n m)).keeps i W W' := by
  refine keeps_of fun f hf _ _ _ u hfu => ?_
  simp only [planTurn, List.mem_cons, List.not_mem_nil, or_false] at hf
  rcases hf with rfl | rfl | rfl | rfl
  · exact Blk.kept hfu hk (fun h => h)
  · trivial
  · trivial
  · exact Blk.kept hfu hk (fun h => h)
theorem planTurn_keeps11 {base : World → Prop} {r : Nat} {cur new : Array Value} {x : U64} {n m : Nat} {W W' : World} : (planOf base (planTurn r cur new x n m)).keeps 11 W W' := by
  refine keeps_of fun f hf hs _ hne u hfu => ?_
  simp only [planTurn, List.mem_cons, List.not_mem_nil, or_false] at hf
  rcases hf with rfl | rfl | rfl | rfl
  · exact absurd (List.Mem.head _) hs
  · trivial
  · trivial
  · exact absurd rfl hne
theorem lin_xor (x : U64) (n m : Nat) : bits .xor .u64 (bits .xor .u64 (U x) (U (rot x n))) (U (rot x m)) = U (lin x n m) := by simp only [U_xor]; rfl

set_option maxRecDepth 100000 in
set_option maxHeartbeats 4000000 in
theorem round (s : S5) (c : U64) (w : World) :
    Calls Try.prog 101 #[Sp.sv s, .int .u64 (U c)] w fun e w' => e = .returned (Sp.sv (s.round c)) ∧ Kept None w w' := by
  obtain ⟨p, hp⟩ : ∃ p, p = s.add c := ⟨_, rfl⟩
  have ca := chi_a p
  have cb := chi_b p
  have cc := chi_c p
  have cd := chi_d p
  have ce := chi_e p
  show Calls _ _ _ w fun e w' => e = .returned (Sp.sv (((s.add c).chi).mix.spread)) ∧ Kept None w w'
  rw [← hp]
  have hp' : Sp.sc p = #[.int .u64 (bits .xor .u64 (U s.a) (U s.e)), .int .u64 (U s.b), .int .u64 (bits .xor .u64 (bits .xor .u64 (U s.c) (U c)) (U s.b)), .int .u64 (U s.d), .int .u64 (bits .xor .u64 (U s.e) (U s.d))] := by
    rw [hp]; simp only [U_xor]; rfl
  obtain ⟨q, hq⟩ : ∃ q, q = p.chi := ⟨_, rfl⟩
  rw [← hq] at ca cb cc cd ce ⊢
  obtain ⟨r, hr⟩ : ∃ r, r = q.mix.spread := ⟨_, rfl⟩
  rw [← hr]
  have HP := hid hp'
  have HR := hid hr
  have HC := hid (And.intro ca (And.intro cb (And.intro cc (And.intro cd ce))))
  clear ca cb cc cd ce hp hp' hq hr
  obtain ⟨a, b, x, d, e⟩ := s
  go_enter Try.func101, Try.ntmps101
  go_wp2
  go_loopw [6] (fun i wr => ∃ k : Nat, k ≤ 5 ∧ i = .int .i64 k ∧ Kept None w wr ∧ Blk wr w.heap.size (Sp.sc p) 137 ∧ (∃ z : Array Value, z.size = 5 ∧ Blk wr (w.heap.size + 1) z 137) ∧ Blk wr (w.heap.size + 1 + 1) (tc q k) 137) (fun i _ => 5 - (intOf i).toNat)
  case atStart =>
    refine ⟨0, by omega, rfl, (((Kept.refl _ _).alloc _).alloc _).alloc _, ?_, ⟨_, ?_, (Blk.new2 _ _ _ _).alloc _⟩, Blk.new3 _ _ _ _ _⟩
    · rw [HP.out]; exact ((Blk.new _ _ _).alloc _).alloc _
    · rfl
  case round =>
    obtain ⟨k, hk, rfl, hkk, hS, ⟨z, hz, hR⟩, hT⟩ := hrel
    by_cases h5 : k < 5
    · have hk5 : k = 0 ∨ k = 1 ∨ k = 2 ∨ k = 3 ∨ k = 4 := by omega
      clear hk h5
      rcases hk5 with rfl | rfl | rfl | rfl | rfl
      all_goals
        go_wp2
        refine wp_tail 18 (by kernel_rfl) (by kernel_rfl) (fun wy ky => ?_)
        have hS' := hS.kept ky (fun h => h)
        have hT' := hT.kept ky (fun h => h)
        have c0 := hS'.cell 0
        have c1 := hS'.cell 1
        have c2 := hS'.cell 2
        have c3 := hS'.cell 3
        have c4 := hS'.cell 4
        simp at c0 c1 c2 c3 c4
        have w1 : IntKind.i64.wrap 1 = 1 := by decide
        have w2 : IntKind.i64.wrap 2 = 2 := by decide
        have w3 : IntKind.i64.wrap 3 = 3 := by decide
        have w4 : IntKind.i64.wrap 4 = 4 := by decide
        have w5 : IntKind.i64.wrap 5 = 5 := by decide
        have w6 : IntKind.i64.wrap 6 = 6 := by decide
        have m1 : (1 : Int).tmod 5 = 1 := by decide
        have m2 : (2 : Int).tmod 5 = 2 := by decide
        have m3 : (3 : Int).tmod 5 = 3 := by decide
        have m4 : (4 : Int).tmod 5 = 4 := by decide
        have m5 : (5 : Int).tmod 5 = 0 := by decide
        have m6 : (6 : Int).tmod 5 = 1 := by decide
        simp only [List.take_succ_cons, List.take_zero, List.drop_succ_cons, List.drop_zero]
        repeat still_step
        refine wpStill_nil ?_
        try simp only [sgn]
        simp only [HC.out.1, HC.out.2.1, HC.out.2.2.1, HC.out.2.2.2.1, HC.out.2.2.2.2]
        clear w1 w2 w3 w4 w5 w6 m1 m2 m3 m4 m5 m6 c0 c1 c2 c3 c4 hS'
      · have f0 := hT'.free 0
        have t0 := hT'.cell 0
        have hT2 : Blk _ _ (tc q 1) _ := hT'.set 0 (.int .u64 (U q.a))
        have kT := Kept.one wy (w.heap.size + 1 + 1) 0 (.int .u64 (U q.a))
        simp [tc] at t0
        go_wp2
        exact ⟨⟨1, by omega, rfl, (hkk.then ky (fun _ _ h => h)).then kT (fun i hi (h : i = w.heap.size + 1 + 1) => by omega), (hS.kept ky (fun h => h)).kept kT (fun (h : w.heap.size = w.heap.size + 1 + 1) => by omega), ⟨z, hz, (hR.kept ky (fun h => h)).kept kT (fun (h : w.heap.size + 1 = w.heap.size + 1 + 1) => by omega)⟩, hT2⟩, by simp [intOf]⟩
      · have f0 := hT'.free 1
        have t0 := hT'.cell 1
        have hT2 : Blk _ _ (tc q 2) _ := hT'.set 1 (.int .u64 (U q.b))
        have kT := Kept.one wy (w.heap.size + 1 + 1) 1 (.int .u64 (U q.b))
        simp [tc] at t0
        go_wp2
        exact ⟨⟨2, by omega, rfl, (hkk.then ky (fun _ _ h => h)).then kT (fun i hi (h : i = w.heap.size + 1 + 1) => by omega), (hS.kept ky (fun h => h)).kept kT (fun (h : w.heap.size = w.heap.size + 1 + 1) => by omega), ⟨z, hz, (hR.kept ky (fun h => h)).kept kT (fun (h : w.heap.size + 1 = w.heap.size + 1 + 1) => by omega)⟩, hT2⟩, by simp [intOf]⟩
      · have f0 := hT'.free 2
        have t0 := hT'.cell 2
        have hT2 : Blk _ _ (tc q 3) _ := hT'.set 2 (.int .u64 (U q.c))
        have kT := Kept.one wy (w.heap.size + 1 + 1) 2 (.int .u64 (U q.c))
        simp [tc] at t0
        go_wp2
        exact ⟨⟨3, by omega, rfl, (hkk.then ky (fun _ _ h => h)).then kT (fun i hi (h : i = w.heap.size + 1 + 1) => by omega), (hS.kept ky (fun h => h)).kept kT (fun (h : w.heap.size = w.heap.size + 1 + 1) => by omega), ⟨z, hz, (hR.kept ky (fun h => h)).kept kT (fun (h : w.heap.size + 1 = w.heap.size + 1 + 1) => by omega)⟩, hT2⟩, by simp [intOf]⟩
      · have f0 := hT'.free 3
        have t0 := hT'.cell 3
        have hT2 : Blk _ _ (tc q 4) _ := hT'.set 3 (.int .u64 (U q.d))
        have kT := Kept.one wy (w.heap.size + 1 + 1) 3 (.int .u64 (U q.d))
        simp [tc] at t0
        go_wp2
        exact ⟨⟨4, by omega, rfl, (hkk.then ky (fun _ _ h => h)).then kT (fun i hi (h : i = w.heap.size + 1 + 1) => by omega), (hS.kept ky (fun h => h)).kept kT (fun (h : w.heap.size = w.heap.size + 1 + 1) => by omega), ⟨z, hz, (hR.kept ky (fun h => h)).kept kT (fun (h : w.heap.size + 1 = w.heap.size + 1 + 1) => by omega)⟩, hT2⟩, by simp [intOf]⟩
      · have f0 := hT'.free 4
        have t0 := hT'.cell 4
        have hT2 : Blk _ _ (tc q 5) _ := hT'.set 4 (.int .u64 (U q.e))
        have kT := Kept.one wy (w.heap.size + 1 + 1) 4 (.int .u64 (U q.e))
        simp [tc] at t0
        go_wp2
        exact ⟨⟨5, by omega, rfl, (hkk.then ky (fun _ _ h => h)).then kT (fun i hi (h : i = w.heap.size + 1 + 1) => by omega), (hS.kept ky (fun h => h)).kept kT (fun (h : w.heap.size = w.heap.size + 1 + 1) => by omega), ⟨z, hz, (hR.kept ky (fun h => h)).kept kT (fun (h : w.heap.size + 1 = w.heap.size + 1 + 1) => by omega)⟩, hT2⟩, by simp [intOf]⟩
    · have h5' : k = 5 := by omega
      subst h5'
      have hT0 : Blk wr (w.heap.size + 1 + 1) (Sp.sc q) 137 := hT
      have mb := U_xor q.b q.a
      have ma := U_xor q.a q.e
      have md := U_xor q.d q.c
      have mc := U_not' q.c
      change _ = U q.mix.b at mb
      change _ = U q.mix.a at ma
      change _ = U q.mix.d at md
      change _ = U q.mix.c at mc
      have me : U q.e = U q.mix.e := rfl
      obtain ⟨m, hm⟩ : ∃ m, m = q.mix := ⟨_, rfl⟩
      rw [← hm] at ma mb mc md me
      have HM := hid (And.intro ma (And.intro mb (And.intro mc (And.intro md me))))
      have hRm : r = m.spread := by rw [hm]; exact HR.out
      have HR2 := hid hRm
      clear ma mb mc md me hm HR hRm
      have c0 := hT0.cell 0
      have c1 := hT0.cell 1
      have c2 := hT0.cell 2
      have c3 := hT0.cell 3
      have c4 := hT0.cell 4
      have f0 := hT0.free 0
      have f1 := hT0.free 1
      have f2 := hT0.free 2
      have f3 := hT0.free 3
      simp at c0 c1 c2 c3 c4
      go_wp2
      simp only [HM.out.1, HM.out.2.1, HM.out.2.2.1, HM.out.2.2.2.1]
      have hT1 : Blk ((((wr.setCell ⟨w.heap.size + 1 + 1, 1, none⟩ (.int .u64 (U m.b))).setCell ⟨w.heap.size + 1 + 1, 0, none⟩ (.int .u64 (U m.a))).setCell ⟨w.heap.size + 1 + 1, 3, none⟩ (.int .u64 (U m.d))).setCell ⟨w.heap.size + 1 + 1, 2, none⟩ (.int .u64 (U m.c))) (w.heap.size + 1 + 1) (Sp.sc m) 137 := by
        have h1 := (((hT0.set 1 (.int .u64 (U m.b))).set 0 (.int .u64 (U m.a))).set 3 (.int .u64 (U m.d))).set 2 (.int .u64 (U m.c))
        rw [show Sp.sc m = #[.int .u64 (U m.a), .int .u64 (U m.b), .int .u64 (U m.c), .int .u64 (U m.d), .int .u64 (U q.e)] by rw [HM.out.2.2.2.2]]
        exact h1
      have kA : Kept (Just (w.heap.size + 1 + 1)) wr ((((wr.setCell ⟨w.heap.size + 1 + 1, 1, none⟩ (.int .u64 (U m.b))).setCell ⟨w.heap.size + 1 + 1, 0, none⟩ (.int .u64 (U m.a))).setCell ⟨w.heap.size + 1 + 1, 3, none⟩ (.int .u64 (U m.d))).setCell ⟨w.heap.size + 1 + 1, 2, none⟩ (.int .u64 (U m.c))) :=
        (((Kept.one wr _ 1 _).one' 0 _).one' 3 _).one' 2 _
      clear c0 c1 c2 c3 c4 f0 f1 f2 f3 hT0 hT
      obtain ⟨wA, hwA⟩ : ∃ wA, wA = ((((wr.setCell ⟨w.heap.size + 1 + 1, 1, none⟩ (.int .u64 (U m.b))).setCell ⟨w.heap.size + 1 + 1, 0, none⟩ (.int .u64 (U m.a))).setCell ⟨w.heap.size + 1 + 1, 3, none⟩ (.int .u64 (U m.d))).setCell ⟨w.heap.size + 1 + 1, 2, none⟩ (.int .u64 (U m.c))) := ⟨_, rfl⟩
      rw [← hwA] at hT1 kA ⊢
      have hk0 : Kept None w wA := hkk.then kA (fun i hi (h : i = w.heap.size + 1 + 1) => by omega)
      have hS0 := hS.kept kA (fun (h : w.heap.size = w.heap.size + 1 + 1) => by omega)
      have hR0 := hR.kept kA (fun (h : w.heap.size + 1 = w.heap.size + 1 + 1) => by omega)
      clear hwA kA hkk hS hR HC HP
      -- word 0
      refine wp_region_plan (Kept (Just w.heap.size) wA) (planTurn w.heap.size #[.int .u64 (U p.a), .int .u64 (U p.b), .int .u64 (U p.c), .int .u64 (U p.d), .int .u64 (U p.e)] #[.int .u64 (U (lin m.a 19 28)), .int .u64 (U p.b), .int .u64 (U p.c), .int .u64 (U p.d), .int .u64 (U p.e)] m.a 19 28) [100] (by kernel_rfl) (by kernel_rfl) (by kernel_rfl) rfl planTurn_pure (Kept.refl _ _).drew (fun j hj => by
          obtain rfl : j = 100 := by simpa using hj
          exact hS0.drew) ?_
      iterate 4 (refine wpPar_pure rfl (by rfl) _ (fun W hW => by
          have c0 : W.cell? ⟨w.heap.size + 1 + 1, 0, none⟩ = some (.int .u64 (U m.a)) := (hT1.kept hW (fun (h : w.heap.size + 1 + 1 = w.heap.size) => by omega)).cell 0
          go_simp
          exact rfl) ?_; simp only [Act.put, List.setIfInBounds_toArray, List.set_cons_zero, List.set_cons_succ])
      refine wpPar_adds rfl (by rfl) (fun W hW _ => ?_) (fun v hv' => ?_)
      · unfold Gives
        go_simp
        refine gives_call (turn _ 19 _ rfl W (by decide) (by decide)) ?_
        rintro e w3 ⟨rfl, k3⟩
        exact ⟨_, rfl, hW.then k3 (fun _ _ h => h.elim), rfl, trivial, planTurn_keeps k3⟩
      obtain rfl : v = .int .u64 (U (rot m.a 19)) := hv'
      simp only [Act.put, List.setIfInBounds_toArray, List.set_cons_zero, List.set_cons_succ]
      iterate 3 (refine wpPar_pure rfl (by rfl) _ (fun W hW => by
          have c0 : W.cell? ⟨w.heap.size + 1 + 1, 0, none⟩ = some (.int .u64 (U m.a)) := (hT1.kept hW (fun (h : w.heap.size + 1 + 1 = w.heap.size) => by omega)).cell 0
          go_simp
          exact rfl) ?_; simp only [Act.put, List.setIfInBounds_toArray, List.set_cons_zero, List.set_cons_succ])
      refine wpPar_adds rfl (by rfl) (fun W hW _ => ?_) (fun v hv' => ?_)
      · unfold Gives
        go_simp
        refine gives_call (turn _ 28 _ rfl W (by decide) (by decide)) ?_
        rintro e w3 ⟨rfl, k3⟩
        exact ⟨_, rfl, hW.then k3 (fun _ _ h => h.elim), rfl, trivial, planTurn_keeps k3⟩
      obtain rfl : v = .int .u64 (U (rot m.a 28)) := hv'
      simp only [Act.put, List.setIfInBounds_toArray, List.set_cons_zero, List.set_cons_succ]
      iterate 2 (refine wpPar_pure rfl (by rfl) _ (fun W hW => by
          go_simp
          exact rfl) ?_; simp only [Act.put, List.setIfInBounds_toArray, List.set_cons_zero, List.set_cons_succ])
      simp only [lin_xor]
      refine wpPar_adds rfl (by rfl) (fun W hW hd => ?_) (fun v' _ => ?_)
      · have hB : Blk W w.heap.size #[.int .u64 (U p.a), .int .u64 (U p.b), .int .u64 (U p.c), .int .u64 (U p.d), .int .u64 (U p.e)] 137 := hd 100 (List.Mem.head _)
        have c0 := hB.cell 0
        have f0 := hB.free 0
        simp at c0
        have hB2 : Blk _ _ #[.int .u64 (U (lin m.a 19 28)), .int .u64 (U p.b), .int .u64 (U p.c), .int .u64 (U p.d), .int .u64 (U p.e)] _ := hB.set 0 (.int .u64 (U (lin m.a 19 28)))
        unfold Gives
        go_simp
        exact ⟨hW.one' 0 _, trivial, hB2, planTurn_keeps11⟩
      simp only [Act.put]
      refine wpPar_nil (fun w1 hW hG => ?_)
      have hS1 : Blk w1 w.heap.size #[.int .u64 (U (lin m.a 19 28)), .int .u64 (U p.b), .int .u64 (U p.c), .int .u64 (U p.d), .int .u64 (U p.e)] 137 := hG 11
      have hk1 : Kept None w w1 := hk0.then hW (fun i hi (h : i = w.heap.size) => by omega)
      have hR1 := hR0.kept hW (fun (h : w.heap.size + 1 = w.heap.size) => by omega)
      have hT2 := hT1.kept hW (fun (h : w.heap.size + 1 + 1 = w.heap.size) => by omega)
      clear hG hS0 hk0 hR0 hT1 hW
      go_wp2
      -- word 1
      refine wp_region_plan (Kept (Just w.heap.size) w1) (planTurn w.heap.size #[.int .u64 (U (lin m.a 19 28)), .int .u64 (U p.b), .int .u64 (U p.c), .int .u64 (U p.d), .int .u64 (U p.e)] #[.int .u64 (U (lin m.a 19 28)), .int .u64 (U (lin m.b 61 39)), .int .u64 (U p.c), .int .u64 (U p.d), .int .u64 (U p.e)] m.b 61 39) [100] (by kernel_rfl) (by kernel_rfl) (by kernel_rfl) rfl planTurn_pure (Kept.refl _ _).drew (fun j hj => by
          obtain rfl : j = 100 := by simpa using hj
          exact hS1.drew) ?_
      iterate 4 (refine wpPar_pure rfl (by rfl) _ (fun W hW => by
          have c0 : W.cell? ⟨w.heap.size + 1 + 1, 1, none⟩ = some (.int .u64 (U m.b)) := (hT2.kept hW (fun (h : w.heap.size + 1 + 1 = w.heap.size) => by omega)).cell 1
          go_simp
          exact rfl) ?_; simp only [Act.put, List.setIfInBounds_toArray, List.set_cons_zero, List.set_cons_succ])
      refine wpPar_adds rfl (by rfl) (fun W hW _ => ?_) (fun v hv' => ?_)
      · unfold Gives
        go_simp
        refine gives_call (turn _ 61 _ rfl W (by decide) (by decide)) ?_
        rintro e w3 ⟨rfl, k3⟩
        exact ⟨_, rfl, hW.then k3 (fun _ _ h => h.elim), rfl, trivial, planTurn_keeps k3⟩
      obtain rfl : v = .int .u64 (U (rot m.b 61)) := hv'
      simp only [Act.put, List.setIfInBounds_toArray, List.set_cons_zero, List.set_cons_succ]
      iterate 3 (refine wpPar_pure rfl (by rfl) _ (fun W hW => by
          have c0 : W.cell? ⟨w.heap.size + 1 + 1, 1, none⟩ = some (.int .u64 (U m.b)) := (hT2.kept hW (fun (h : w.heap.size + 1 + 1 = w.heap.size) => by omega)).cell 1
          go_simp
          exact rfl) ?_; simp only [Act.put, List.setIfInBounds_toArray, List.set_cons_zero, List.set_cons_succ])
      refine wpPar_adds rfl (by rfl) (fun W hW _ => ?_) (fun v hv' => ?_)
      · unfold Gives
        go_simp
        refine gives_call (turn _ 39 _ rfl W (by decide) (by decide)) ?_
        rintro e w3 ⟨rfl, k3⟩
        exact ⟨_, rfl, hW.then k3 (fun _ _ h => h.elim), rfl, trivial, planTurn_keeps k3⟩
      obtain rfl : v = .int .u64 (U (rot m.b 39)) := hv'
      simp only [Act.put, List.setIfInBounds_toArray, List.set_cons_zero, List.set_cons_succ]
      iterate 2 (refine wpPar_pure rfl (by rfl) _ (fun W hW => by
          go_simp
          exact rfl) ?_; simp only [Act.put, List.setIfInBounds_toArray, List.set_cons_zero, List.set_cons_succ])
      simp only [lin_xor]
      refine wpPar_adds rfl (by rfl) (fun W hW hd => ?_) (fun v' _ => ?_)
      · have hB : Blk W w.heap.size #[.int .u64 (U (lin m.a 19 28)), .int .u64 (U p.b), .int .u64 (U p.c), .int .u64 (U p.d), .int .u64 (U p.e)] 137 := hd 100 (List.Mem.head _)
        have c0 := hB.cell 1
        have f0 := hB.free 1
        simp at c0
        have hB2 : Blk _ _ #[.int .u64 (U (lin m.a 19 28)), .int .u64 (U (lin m.b 61 39)), .int .u64 (U p.c), .int .u64 (U p.d), .int .u64 (U p.e)] _ := hB.set 1 (.int .u64 (U (lin m.b 61 39)))
        unfold Gives
        go_simp
        exact ⟨hW.one' 1 _, trivial, hB2, planTurn_keeps11⟩
      simp only [Act.put]
      refine wpPar_nil (fun w2 hW hG => ?_)
      have hS2 : Blk w2 w.heap.size #[.int .u64 (U (lin m.a 19 28)), .int .u64 (U (lin m.b 61 39)), .int .u64 (U p.c), .int .u64 (U p.d), .int .u64 (U p.e)] 137 := hG 11
      have hk2 : Kept None w w2 := hk1.then hW (fun i hi (h : i = w.heap.size) => by omega)
      have hR2 := hR1.kept hW (fun (h : w.heap.size + 1 = w.heap.size) => by omega)
      have hT3 := hT2.kept hW (fun (h : w.heap.size + 1 + 1 = w.heap.size) => by omega)
      clear hG hS1 hk1 hR1 hT2 hW
      go_wp2
      -- word 2
      refine wp_region_plan (Kept (Just w.heap.size) w2) (planTurn w.heap.size #[.int .u64 (U (lin m.a 19 28)), .int .u64 (U (lin m.b 61 39)), .int .u64 (U p.c), .int .u64 (U p.d), .int .u64 (U p.e)] #[.int .u64 (U (lin m.a 19 28)), .int .u64 (U (lin m.b 61 39)), .int .u64 (U (lin m.c 1 6)), .int .u64 (U p.d), .int .u64 (U p.e)] m.c 1 6) [100] (by kernel_rfl) (by kernel_rfl) (by kernel_rfl) rfl planTurn_pure (Kept.refl _ _).drew (fun j hj => by
          obtain rfl : j = 100 := by simpa using hj
          exact hS2.drew) ?_
      iterate 4 (refine wpPar_pure rfl (by rfl) _ (fun W hW => by
          have c0 : W.cell? ⟨w.heap.size + 1 + 1, 2, none⟩ = some (.int .u64 (U m.c)) := (hT3.kept hW (fun (h : w.heap.size + 1 + 1 = w.heap.size) => by omega)).cell 2
          go_simp
          exact rfl) ?_; simp only [Act.put, List.setIfInBounds_toArray, List.set_cons_zero, List.set_cons_succ])
      refine wpPar_adds rfl (by rfl) (fun W hW _ => ?_) (fun v hv' => ?_)
      · unfold Gives
        go_simp
        refine gives_call (turn _ 1 _ rfl W (by decide) (by decide)) ?_
        rintro e w3 ⟨rfl, k3⟩
        exact ⟨_, rfl, hW.then k3 (fun _ _ h => h.elim), rfl, trivial, planTurn_keeps k3⟩
      obtain rfl : v = .int .u64 (U (rot m.c 1)) := hv'
      simp only [Act.put, List.setIfInBounds_toArray, List.set_cons_zero, List.set_cons_succ]
      iterate 3 (refine wpPar_pure rfl (by rfl) _ (fun W hW => by
          have c0 : W.cell? ⟨w.heap.size + 1 + 1, 2, none⟩ = some (.int .u64 (U m.c)) := (hT3.kept hW (fun (h : w.heap.size + 1 + 1 = w.heap.size) => by omega)).cell 2
          go_simp
          exact rfl) ?_; simp only [Act.put, List.setIfInBounds_toArray, List.set_cons_zero, List.set_cons_succ])
      refine wpPar_adds rfl (by rfl) (fun W hW _ => ?_) (fun v hv' => ?_)
      · unfold Gives
        go_simp
        refine gives_call (turn _ 6 _ rfl W (by decide) (by decide)) ?_
        rintro e w3 ⟨rfl, k3⟩
        exact ⟨_, rfl, hW.then k3 (fun _ _ h => h.elim), rfl, trivial, planTurn_keeps k3⟩
      obtain rfl : v = .int .u64 (U (rot m.c 6)) := hv'
      simp only [Act.put, List.setIfInBounds_toArray, List.set_cons_zero, List.set_cons_succ]
      iterate 2 (refine wpPar_pure rfl (by rfl) _ (fun W hW => by
          go_simp
          exact rfl) ?_; simp only [Act.put, List.setIfInBounds_toArray, List.set_cons_zero, List.set_cons_succ])
      simp only [lin_xor]
      refine wpPar_adds rfl (by rfl) (fun W hW hd => ?_) (fun v' _ => ?_)
      · have hB : Blk W w.heap.size #[.int .u64 (U (lin m.a 19 28)), .int .u64 (U (lin m.b 61 39)), .int .u64 (U p.c), .int .u64 (U p.d), .int .u64 (U p.e)] 137 := hd 100 (List.Mem.head _)
        have c0 := hB.cell 2
        have f0 := hB.free 2
        simp at c0
        have hB2 : Blk _ _ #[.int .u64 (U (lin m.a 19 28)), .int .u64 (U (lin m.b 61 39)), .int .u64 (U (lin m.c 1 6)), .int .u64 (U p.d), .int .u64 (U p.e)] _ := hB.set 2 (.int .u64 (U (lin m.c 1 6)))
        unfold Gives
        go_simp
        exact ⟨hW.one' 2 _, trivial, hB2, planTurn_keeps11⟩
      simp only [Act.put]
      refine wpPar_nil (fun w3 hW hG => ?_)
      have hS3 : Blk w3 w.heap.size #[.int .u64 (U (lin m.a 19 28)), .int .u64 (U (lin m.b 61 39)), .int .u64 (U (lin m.c 1 6)), .int .u64 (U p.d), .int .u64 (U p.e)] 137 := hG 11
      have hk3 : Kept None w w3 := hk2.then hW (fun i hi (h : i = w.heap.size) => by omega)
      have hR3 := hR2.kept hW (fun (h : w.heap.size + 1 = w.heap.size) => by omega)
      have hT4 := hT3.kept hW (fun (h : w.heap.size + 1 + 1 = w.heap.size) => by omega)
      clear hG hS2 hk2 hR2 hT3 hW
      go_wp2
      -- word 3
      refine wp_region_plan (Kept (Just w.heap.size) w3) (planTurn w.heap.size #[.int .u64 (U (lin m.a 19 28)), .int .u64 (U (lin m.b 61 39)), .int .u64 (U (lin m.c 1 6)), .int .u64 (U p.d), .int .u64 (U p.e)] #[.int .u64 (U (lin m.a 19 28)), .int .u64 (U (lin m.b 61 39)), .int .u64 (U (lin m.c 1 6)), .int .u64 (U (lin m.d 10 17)), .int .u64 (U p.e)] m.d 10 17) [100] (by kernel_rfl) (by kernel_rfl) (by kernel_rfl) rfl planTurn_pure (Kept.refl _ _).drew (fun j hj => by
          obtain rfl : j = 100 := by simpa using hj
          exact hS3.drew) ?_
      iterate 4 (refine wpPar_pure rfl (by rfl) _ (fun W hW => by
          have c0 : W.cell? ⟨w.heap.size + 1 + 1, 3, none⟩ = some (.int .u64 (U m.d)) := (hT4.kept hW (fun (h : w.heap.size + 1 + 1 = w.heap.size) => by omega)).cell 3
          go_simp
          exact rfl) ?_; simp only [Act.put, List.setIfInBounds_toArray, List.set_cons_zero, List.set_cons_succ])
      refine wpPar_adds rfl (by rfl) (fun W hW _ => ?_) (fun v hv' => ?_)
      · unfold Gives
        go_simp
        refine gives_call (turn _ 10 _ rfl W (by decide) (by decide)) ?_
        rintro e w3 ⟨rfl, k3⟩
        exact ⟨_, rfl, hW.then k3 (fun _ _ h => h.elim), rfl, trivial, planTurn_keeps k3⟩
      obtain rfl : v = .int .u64 (U (rot m.d 10)) := hv'
      simp only [Act.put, List.setIfInBounds_toArray, List.set_cons_zero, List.set_cons_succ]
      iterate 3 (refine wpPar_pure rfl (by rfl) _ (fun W hW => by
          have c0 : W.cell? ⟨w.heap.size + 1 + 1, 3, none⟩ = some (.int .u64 (U m.d)) := (hT4.kept hW (fun (h : w.heap.size + 1 + 1 = w.heap.size) => by omega)).cell 3
          go_simp
          exact rfl) ?_; simp only [Act.put, List.setIfInBounds_toArray, List.set_cons_zero, List.set_cons_succ])
      refine wpPar_adds rfl (by rfl) (fun W hW _ => ?_) (fun v hv' => ?_)
      · unfold Gives
        go_simp
        refine gives_call (turn _ 17 _ rfl W (by decide) (by decide)) ?_
        rintro e w3 ⟨rfl, k3⟩
        exact ⟨_, rfl, hW.then k3 (fun _ _ h => h.elim), rfl, trivial, planTurn_keeps k3⟩
      obtain rfl : v = .int .u64 (U (rot m.d 17)) := hv'
      simp only [Act.put, List.setIfInBounds_toArray, List.set_cons_zero, List.set_cons_succ]
      iterate 2 (refine wpPar_pure rfl (by rfl) _ (fun W hW => by
          go_simp
          exact rfl) ?_; simp only [Act.put, List.setIfInBounds_toArray, List.set_cons_zero, List.set_cons_succ])
      simp only [lin_xor]
      refine wpPar_adds rfl (by rfl) (fun W hW hd => ?_) (fun v' _ => ?_)
      · have hB : Blk W w.heap.size #[.int .u64 (U (lin m.a 19 28)), .int .u64 (U (lin m.b 61 39)), .int .u64 (U (lin m.c 1 6)), .int .u64 (U p.d), .int .u64 (U p.e)] 137 := hd 100 (List.Mem.head _)
        have c0 := hB.cell 3
        have f0 := hB.free 3
        simp at c0
        have hB2 : Blk _ _ #[.int .u64 (U (lin m.a 19 28)), .int .u64 (U (lin m.b 61 39)), .int .u64 (U (lin m.c 1 6)), .int .u64 (U (lin m.d 10 17)), .int .u64 (U p.e)] _ := hB.set 3 (.int .u64 (U (lin m.d 10 17)))
        unfold Gives
        go_simp
        exact ⟨hW.one' 3 _, trivial, hB2, planTurn_keeps11⟩
      simp only [Act.put]
      refine wpPar_nil (fun w4 hW hG => ?_)
      have hS4 : Blk w4 w.heap.size #[.int .u64 (U (lin m.a 19 28)), .int .u64 (U (lin m.b 61 39)), .int .u64 (U (lin m.c 1 6)), .int .u64 (U (lin m.d 10 17)), .int .u64 (U p.e)] 137 := hG 11
      have hk4 : Kept None w w4 := hk3.then hW (fun i hi (h : i = w.heap.size) => by omega)
      have hR4 := hR3.kept hW (fun (h : w.heap.size + 1 = w.heap.size) => by omega)
      have hT5 := hT4.kept hW (fun (h : w.heap.size + 1 + 1 = w.heap.size) => by omega)
      clear hG hS3 hk3 hR3 hT4 hW
      go_wp2
      -- word 4
      refine wp_region_plan (Kept (Just w.heap.size) w4) (planTurn w.heap.size #[.int .u64 (U (lin m.a 19 28)), .int .u64 (U (lin m.b 61 39)), .int .u64 (U (lin m.c 1 6)), .int .u64 (U (lin m.d 10 17)), .int .u64 (U p.e)] #[.int .u64 (U (lin m.a 19 28)), .int .u64 (U (lin m.b 61 39)), .int .u64 (U (lin m.c 1 6)), .int .u64 (U (lin m.d 10 17)), .int .u64 (U (lin m.e 7 41))] m.e 7 41) [100] (by kernel_rfl) (by kernel_rfl) (by kernel_rfl) rfl planTurn_pure (Kept.refl _ _).drew (fun j hj => by
          obtain rfl : j = 100 := by simpa using hj
          exact hS4.drew) ?_
      iterate 4 (refine wpPar_pure rfl (by rfl) _ (fun W hW => by
          have c0 : W.cell? ⟨w.heap.size + 1 + 1, 4, none⟩ = some (.int .u64 (U m.e)) := (hT5.kept hW (fun (h : w.heap.size + 1 + 1 = w.heap.size) => by omega)).cell 4
          go_simp
          exact rfl) ?_; simp only [Act.put, List.setIfInBounds_toArray, List.set_cons_zero, List.set_cons_succ])
      refine wpPar_adds rfl (by rfl) (fun W hW _ => ?_) (fun v hv' => ?_)
      · unfold Gives
        go_simp
        refine gives_call (turn _ 7 _ rfl W (by decide) (by decide)) ?_
        rintro e w3 ⟨rfl, k3⟩
        exact ⟨_, rfl, hW.then k3 (fun _ _ h => h.elim), rfl, trivial, planTurn_keeps k3⟩
      obtain rfl : v = .int .u64 (U (rot m.e 7)) := hv'
      simp only [Act.put, List.setIfInBounds_toArray, List.set_cons_zero, List.set_cons_succ]
      iterate 3 (refine wpPar_pure rfl (by rfl) _ (fun W hW => by
          have c0 : W.cell? ⟨w.heap.size + 1 + 1, 4, none⟩ = some (.int .u64 (U m.e)) := (hT5.kept hW (fun (h : w.heap.size + 1 + 1 = w.heap.size) => by omega)).cell 4
          go_simp
          exact rfl) ?_; simp only [Act.put, List.setIfInBounds_toArray, List.set_cons_zero, List.set_cons_succ])
      refine wpPar_adds rfl (by rfl) (fun W hW _ => ?_) (fun v hv' => ?_)
      · unfold Gives
        go_simp
        refine gives_call (turn _ 41 _ rfl W (by decide) (by decide)) ?_
        rintro e w3 ⟨rfl, k3⟩
        exact ⟨_, rfl, hW.then k3 (fun _ _ h => h.elim), rfl, trivial, planTurn_keeps k3⟩
      obtain rfl : v = .int .u64 (U (rot m.e 41)) := hv'
      simp only [Act.put, List.setIfInBounds_toArray, List.set_cons_zero, List.set_cons_succ]
      iterate 2 (refine wpPar_pure rfl (by rfl) _ (fun W hW => by
          go_simp
          exact rfl) ?_; simp only [Act.put, List.setIfInBounds_toArray, List.set_cons_zero, List.set_cons_succ])
      simp only [lin_xor]
      refine wpPar_adds rfl (by rfl) (fun W hW hd => ?_) (fun v' _ => ?_)
      · have hB : Blk W w.heap.size #[.int .u64 (U (lin m.a 19 28)), .int .u64 (U (lin m.b 61 39)), .int .u64 (U (lin m.c 1 6)), .int .u64 (U (lin m.d 10 17)), .int .u64 (U p.e)] 137 := hd 100 (List.Mem.head _)
        have c0 := hB.cell 4
        have f0 := hB.free 4
        simp at c0
        have hB2 : Blk _ _ #[.int .u64 (U (lin m.a 19 28)), .int .u64 (U (lin m.b 61 39)), .int .u64 (U (lin m.c 1 6)), .int .u64 (U (lin m.d 10 17)), .int .u64 (U (lin m.e 7 41))] _ := hB.set 4 (.int .u64 (U (lin m.e 7 41)))
        unfold Gives
        go_simp
        exact ⟨hW.one' 4 _, trivial, hB2, planTurn_keeps11⟩
      simp only [Act.put]
      refine wpPar_nil (fun w5 hW hG => ?_)
      have hS5 : Blk w5 w.heap.size #[.int .u64 (U (lin m.a 19 28)), .int .u64 (U (lin m.b 61 39)), .int .u64 (U (lin m.c 1 6)), .int .u64 (U (lin m.d 10 17)), .int .u64 (U (lin m.e 7 41))] 137 := hG 11
      have hk5 : Kept None w w5 := hk4.then hW (fun i hi (h : i = w.heap.size) => by omega)
      have hR5 := hR4.kept hW (fun (h : w.heap.size + 1 = w.heap.size) => by omega)
      have hT6 := hT5.kept hW (fun (h : w.heap.size + 1 + 1 = w.heap.size) => by omega)
      clear hG hS4 hk4 hR4 hT5 hW
      have hS6 : Blk w5 w.heap.size (Sp.sc r) 137 := by rw [HR2.out]; exact hS5
      clear hS5 HR2 HM
      have E := hid hz
      clear hz
      go_wp2_with (first | (refine wpList_load_blk rfl _ _ rfl rfl hS6 Sp.aS ?_) | (refine wpList_store_blk rfl _ _ _ rfl rfl rfl hR5 Sp.aS E.out (Sp.sc_all _) ?_; intro w6 hR6 k6) | fail)
      exact bodyPost_ret (v := Sp.sv r) (results_blk rfl _ rfl hR6 Sp.aS) rfl ⟨rfl, hk5.then k6 (fun i hi (h : i = w.heap.size + 1) => by omega)⟩
end Ref
end Go.Proofs.Ytbebpnanhkcngaa

/- postmarkref1.Perm, by its contract. -/
namespace Go.Proofs.Ytbebpnanhkcngaa
open Go.RowKit Go.Pm
namespace Ref

/-- The rounds' numbers, as the reference has them. -/
abbrev constC : Array Value := #[.int .u64 240, .int .u64 225, .int .u64 210, .int .u64 195, .int .u64 180, .int .u64 165, .int .u64 150, .int .u64 135, .int .u64 120, .int .u64 105, .int .u64 90, .int .u64 75]
theorem constC_at : ∀ k : Nat, k < 12 → constC[k]? = some (.int .u64 (240 - 15 * k)) := by
  intro k hk
  match k, hk with
  | 0, _ => rfl
  | 1, _ => rfl
  | 2, _ => rfl
  | 3, _ => rfl
  | 4, _ => rfl
  | 5, _ => rfl
  | 6, _ => rfl
  | 7, _ => rfl
  | 8, _ => rfl
  | 9, _ => rfl
  | 10, _ => rfl
  | 11, _ => rfl

set_option maxRecDepth 100000 in
set_option maxHeartbeats 1000000 in
theorem perm (s : S5) (w : World) :
    Calls Try.prog 97 #[Sp.sv s] w fun e w' => e = .returned (Sp.sv s.perm) ∧ Kept None w w' := by
  obtain ⟨st, hst⟩ : ∃ st : Nat → S5, ∀ k, st k = (consts.take k).foldl S5.round s := ⟨_, fun _ => rfl⟩
  have h0 : st 0 = s := hst 0
  have hs : ∀ k : Nat, k < 12 → ∀ n : U64, U n = 240 - 15 * k → st (k + 1) = (st k).round n := fun k hk n hn => by rw [hst, hst]; exact consts_step k hk n hn s
  have he : s.perm = st 12 := by rw [hst]; rfl
  rw [he]
  have H0 := hid h0
  have HS := hid hs
  clear h0 hs he hst
  go_enter Try.func97, Try.ntmps97
  go_wp2
  go_loopw [4] (fun i wr => ∃ k : Nat, k ≤ 12 ∧ i = .int .i64 k ∧ Kept None w wr ∧ Blk wr w.heap.size (Sp.sc (st k)) 137 ∧ (∃ z : Array Value, z.size = 5 ∧ Blk wr (w.heap.size + 1) z 137) ∧ Blk wr (w.heap.size + 1 + 1) constC 140) (fun i _ => 12 - (intOf i).toNat)
  case atStart =>
    refine ⟨0, by omega, rfl, (((Kept.refl _ _).alloc _).alloc _).alloc _, ?_, ⟨_, ?_, (Blk.new2 _ _ _ _).alloc _⟩, Blk.new3 _ _ _ _ _⟩
    · rw [H0.out]; exact ((Blk.new _ _ _).alloc _).alloc _
    · rfl
  case round =>
    obtain ⟨k, hk, rfl, hkk, hS, ⟨z, hz, hR⟩, hC⟩ := hrel
    by_cases hlt : k < 12
    · obtain ⟨n, hn⟩ : ∃ n : U64, U n = 240 - 15 * k := ⟨W (240 - 15 * k), U_W _ (by omega) (by omega)⟩
      have hc := hC.cell k
      rw [constC_at k hlt, ← hn] at hc
      have HN := hid (HS.out k hlt n hn)
      clear hn
      go_wp2
      refine wp_tail 4 (by kernel_rfl) (by kernel_rfl) (fun wy ky => ?_)
      have hS' := hS.kept ky (fun h => h)
      have hR' := hR.kept ky (fun h => h)
      have hC' := hC.kept ky (fun h => h)
      have hk' := hkk.then ky (fun _ _ h => h)
      have hc' : wy.cell? ⟨w.heap.size + 1 + 1, k, none⟩ = some (.int .u64 (U n)) := by
        rw [← hc]; exact (hC'.cell k).trans (hC.cell k).symm
      have c0 := hS'.cell 0
      have c1 := hS'.cell 1
      have c2 := hS'.cell 2
      have c3 := hS'.cell 3
      have c4 := hS'.cell 4
      simp at c0 c1 c2 c3 c4
      clear hc ky hS hR hC hkk
      simp only [List.take_succ_cons, List.take_zero, List.drop_succ_cons, List.drop_zero]
      repeat still_step
      refine wpStill_nil ?_
      clear c0 c1 c2 c3 c4 hc'
      go_wp2_with fail
      refine (round (st k) n _).mono ?_
      rintro e1 w1 ⟨rfl, k1⟩
      rw [← HN.out]
      have hS1 := hS'.kept k1 (fun h => h)
      have hR1 := hR'.kept k1 (fun h => h)
      have hC1 := hC'.kept k1 (fun h => h)
      have hk1 := hk'.then k1 (fun _ _ h => h)
      clear hS' hR' hC' hk' k1 HN
      go_wp2_with (first | (refine wpList_store_blk rfl _ _ _ rfl rfl rfl hS1 Sp.aS rfl (Sp.sc_all _) ?_; intro w2 hS2 k2) | fail)
      have hC2 := hC1.kept k2 (fun (h : w.heap.size + 1 + 1 = w.heap.size) => by omega)
      have hR2 := hR1.kept k2 (fun (h : w.heap.size + 1 = w.heap.size) => by omega)
      have hk2 := hk1.then k2 (fun i hi (h : i = w.heap.size) => by omega)
      clear hS1 hR1 hC1 hk1 k2
      go_wp2
      go_roundw
      case rel => exact ⟨k + 1, by omega, by go_num, hk2, hS2, ⟨z, hz, hR2⟩, hC2⟩
      case measure => simp [intOf]; omega
    · have h12 : k = 12 := by omega
      subst h12
      have E := hid hz
      clear hz hC
      go_wp2_with (first | (refine wpList_load_blk rfl _ _ rfl rfl hS Sp.aS ?_) | (refine wpList_store_blk rfl _ _ _ rfl rfl rfl hR Sp.aS E.out (Sp.sc_all _) ?_; intro w6 hR6 k6) | fail)
      exact bodyPost_ret (v := Sp.sv (st 12)) (results_blk rfl _ rfl hR6 Sp.aS) rfl ⟨rfl, hkk.then k6 (fun i hi (h : i = w.heap.size + 1) => by omega)⟩
end Ref
end Go.Proofs.Ytbebpnanhkcngaa

/- postmarkref1.Sum, by its contract. -/
namespace Go.Proofs.Ytbebpnanhkcngaa
open Go.RowKit Go.Pm
namespace Ref

theorem perm_first (w : World) : Calls Try.prog 97 #[.agg #[.int .u64 8800401358850, .int .u64 0, .int .u64 0, .int .u64 0, .int .u64 0]] w fun e w' => e = .returned (Sp.sv first) ∧ Kept None w w' :=
  perm ⟨0x0000080100cc0002, 0, 0, 0, 0⟩ w

set_option maxRecDepth 100000 in
set_option maxHeartbeats 2000000 in
theorem sum (v : Value) (lo hi : Nat) (l : List UInt8) (w : World) (hv : Bs w lo hi v l) (hl : l.length ≤ 140737488355000) :
    Calls Try.prog 88 #[v] w fun e w' => e = .returned (hashV (sumB l)) ∧ Kept None w w' := by
  have pf := perm_first
  obtain ⟨ab, ab0, abS, abE⟩ := absorb_all l
  have e32 : ((eights (soaked l) 4).map u8v).toArray.size = 32 := by simp [eights_len]
  show Calls _ _ _ w fun e w' => e = .returned (hashV (eights (soaked l) 4)) ∧ Kept None w w'
  obtain ⟨so, hso⟩ : ∃ so, so = soaked l := ⟨_, rfl⟩
  rw [← ab0] at pf
  rw [← hso] at abE e32 ⊢
  have PF := hid pf
  have AS := hid abS
  have AE := hid abE
  have K3 := hid e32
  clear pf abS abE e32 hso ab0
  obtain ⟨a, cap, rfl, g1, g2, g3⟩ := hv.shape
  clear g3
  go_enter Try.func88, Try.ntmps88
  have hv0 := hv.kept ((Kept.refl None w).alloc (.cells (Array.replicate 32 (.int .u8 0)) 121)) (fun _ _ _ h => h)
  go_wp2_with (at_builtin; refine wpList_append_bo (l := []) (m := l) (base := w.heap.size + 1) (lo := lo) (hi := hi) rfl _ _ 22 rfl rtBytes rfl rfl ?h1 ?h2 ?h3 ?h4 ?h5)
  case h1 => exact Bo.nil _ _ _
  case h2 => exact hv0
  case h3 => simp; omega
  case h4 => simp
  intro a1 n1 c1 w1 b1 k1
  obtain ⟨z, hz, hR⟩ : ∃ z : Array Value, z.size = 32 ∧ Blk w1 w.heap.size z 121 := ⟨Array.replicate 32 (.int .u8 0), by simp, (Blk.new w _ _).kept k1 (fun h => by cases h)⟩
  have k2 : Kept None w w1 := ((Kept.refl _ _).alloc _).then k1 (fun i hi h => by cases h)
  have hs1 := k1.size
  simp only [World.size_alloc] at hs1
  have HZ := hid hz
  clear hv hv0 k1 hz
  go_wp2_with (at_builtin; refine wpList_append_byte rfl _ _ 22 rfl rtBytes rfl rfl b1 (by decide) (by decide) ?h1 ?h2 ?h3)
  case h1 => omega
  case h2 => exact hs1
  case h3 =>
  intro a2 n2 c2 w2 b2 k3
  have k4 : Kept None w w2 := k2.own k3 (fun k hk => by have := (b1.own k hk).1; omega)
  have hR2 : Blk w2 w.heap.size z 121 := hR.kept k3 (fun h => by have := (b1.own _ h).1; omega)
  have b3 : Ob w2 (w.heap.size + 1) (.slice a2 n2 c2) ((l ++ [1]) ++ List.replicate 0 0) := by
    rw [show Go.Pm.byteOf 1 = 1 from rfl] at b2
    simpa using b2
  clear b1 b2 k2 k3 hR
  go_wp2
  go_loopw [3] (fun x wr => ∃ j : Nat, j ≤ noughts l ∧ (∃ a n c, x = .slice a n c) ∧ Ob wr (w.heap.size + 1) x ((l ++ [1]) ++ List.replicate j 0) ∧ Kept None w wr ∧ Blk wr w.heap.size z 121) (fun x _ => l.length + 9 - Sp.lenOf x)
  case atStart => exact ⟨0, Nat.zero_le _, ⟨_, _, _, rfl⟩, b3, k4, hR2⟩
  case round =>
    clear b3 k4 hR2
    obtain ⟨j, hj, ⟨a3, n3, c3, rfl⟩, hb, hkk, hR⟩ := hrel
    have hn3 : n3 = l.length + 1 + j := by
      obtain ⟨_, _, hf⟩ := hb.form
      injection hf with _ h2 _
      rw [h2]; simp; omega
    have hn8 : noughts l < 8 := Nat.mod_lt _ (by decide)
    have hsz : w.heap.size + 1 ≤ wr.heap.size := hR.lt
    by_cases h8 : n3 % 8 = 0
    · have hj2 : j = noughts l := by unfold noughts at hj ⊢; omega
      have b5 : Ob wr (w.heap.size + 1) (.slice a3 n3 c3) (padded l) := by rw [padded_is, ← hj2]; exact hb
      have hpl := padded_len l
      have hn4 : n3 = 8 * (l.length / 8 + 1) := by
        obtain ⟨_, _, hf⟩ := b5.form
        injection hf with _ h2 _
        rw [h2, hpl]
      obtain ⟨M, hM⟩ : ∃ M, M = l.length / 8 + 1 := ⟨_, rfl⟩
      rw [← hM] at hn4 hpl AE
      have hM2 : M ≤ 17592186044500 := by omega
      have h8' : ((n3 : Int) % 8 != 0) = false := by simp; omega
      have HPL := hid hpl
      have HN := hid hn4
      clear hj hj2 hb hn3 hn8 hpl hM hn4
      go_wp2_with fail
      refine (PF.out _).mono ?_
      rintro e1 w3 ⟨rfl, k3⟩
      have hR3 := hR.kept k3 (fun h => h)
      have b6 := b5.kept k3 (fun _ _ h => h)
      have k4 := hkk.then k3 (fun _ _ h => h)
      have hs3 := k3.size
      have hz3 := hR3.lt
      clear hkk hR b5 k3
      go_wp2
      obtain ⟨wo, rfl⟩ : ∃ wo : World, wo = wr := ⟨_, rfl⟩
      go_loopw [5] (fun i wr => ∃ j : Nat, j ≤ M ∧ i = .int .i64 (8 * (j : Int)) ∧ Kept None w wr ∧ Blk wr w3.heap.size (Sp.sc (ab j)) 137 ∧ Blk wr w.heap.size z 121 ∧ Ob wr (w.heap.size + 1) (.slice a3 n3 c3) (padded l)) (fun i _ => 8 * M - (intOf i).toNat)
      case atStart => exact ⟨0, Nat.zero_le _, by simp, k4.alloc _, Blk.new _ _ _, hR3.alloc _, b6.alloc _⟩
      case round =>
        have hown : ∀ k, (Value.slice a3 n3 c3).ownBlock = some k → w.heap.size + 1 ≤ k ∧ k < w3.heap.size := b6.own
        clear k4 hR3 b6
        obtain ⟨j, hj, rfl, hkk, hS, hR, hb⟩ := hrel
        by_cases hlt : j < M
        · have hn3 := HN.out
          have hpl := HPL.out
          have hbs := hb.bs (Nat.le_refl _)
          obtain ⟨a', s1, p1⟩ := slice_mid tBytes zBytes hbs .i64 .i64 (8 * (j : Int)) (8 * (j : Int) + 8) (by omega) (by omega) (by omega)
          rw [show (8 * (j : Int)).toNat = 8 * j by omega, show (8 * (j : Int) + 8).toNat = 8 * j + 8 by omega, show 8 * j + 8 - 8 * j = 8 by omega] at s1 p1
          rw [← List.map_take, ← List.map_drop] at p1
          have hlr : leV (((padded l).take (8 * j + 8)).drop (8 * j)) = leV ((padded l).drop (8 * j)) := by
            rw [List.drop_take, show 8 * j + 8 - 8 * j = 8 by omega, leV_take]
          have hl8 : (((padded l).take (8 * j + 8)).drop (8 * j)).length = 8 := by rw [List.length_drop, List.length_take, hpl]; omega
          have hc3 : n3 ≤ c3 ∧ c3 ≤ 9223372036854775807 := by
            obtain ⟨_, _, e, h1, h2, _⟩ := hbs.shape
            injection e with e1 e2 e3
            omega
          have hlt2 : 8 * j < n3 := by omega
          have hlt3 : n3 ≤ 140737488356000 := by omega
          have hlts := hS.lt
          obtain ⟨hc31, hc32⟩ := hc3
          have ew : IntKind.i64.wrap (8 * (j : Int) + 8) = 8 * (j : Int) + 8 := by rw [IntKind.wrap_i64]; omega
          have hx := mixed_a (ab j) (leV ((padded l).drop (8 * j))) (leV_ge _) (leV_lt _)
          have HST := hid (AS.out j)
          have HX := hid (And.intro hlr (And.intro hl8 (And.intro hx ew)))
          clear hn3 hpl hlr hl8 hx ew hbs
          go_wp2
          refine wp_tail 10 (by kernel_rfl) (by kernel_rfl) (fun wy ky => ?_)
          have hS' := hS.kept ky (fun h => h)
          have hR' := hR.kept ky (fun h => h)
          have hb' := hb.kept ky (fun _ _ h => h)
          have hk' := hkk.then ky (fun _ _ h => h)
          have hv' := Vs.kept p1 ky (fun _ _ _ h => h)
          have c0 := hS'.cell 0
          have f0 := hS'.free 0
          simp at c0
          have ew := HX.out.2.2.2
          simp only [List.take_succ_cons, List.take_zero, List.drop_succ_cons, List.drop_zero]
          repeat still_step
          still_call (Calls.same (word _ _ _ _ wy hv' HX.out.2.1))
          repeat still_step
          refine wpStill_nil ?_
          clear ew
          rw [HX.out.1, HX.out.2.2.1]
          generalize hx' : leV ((padded l).drop (8 * j)) = x at *
          have hS2 : Blk (wy.setCell ⟨w3.heap.size, 0, none⟩ (.int .u64 (U ((ab j).mixed (W x)).a))) w3.heap.size (Sp.sc ((ab j).mixed (W x))) 137 := hS'.set 0 _
          have ky2 := (Kept.one wy w3.heap.size 0 (.int .u64 (U ((ab j).mixed (W x)).a)))
          have HX2 := hid hx'
          clear hx' HX hS hR hkk hb p1 hv' hS' ky
          go_wp2_with (first | (refine wpList_load_blk rfl _ _ rfl rfl hS2 Sp.aS ?_) | fail)
          refine (perm _ _).mono ?_
          rintro e1 w4 ⟨rfl, k1⟩
          rw [← HST.out]
          have hS3 := hS2.kept k1 (fun h => h)
          have hk3 : Kept None w w4 := (hk'.then ky2 (fun i hi (h : i = w3.heap.size) => by omega)).then k1 (fun _ _ h => h)
          have hb3 := (hb'.kept ky2 (fun i h1 (h : i = w3.heap.size) => by have := hown i h1; omega)).kept k1 (fun _ _ h => h)
          have hR3 := (hR'.kept ky2 (fun (h : w.heap.size = w3.heap.size) => by omega)).kept k1 (fun h => h)
          clear hS2 hk' hb' hR' ky2 k1 c0 f0
          go_wp2_with (first | (refine wpList_store_blk rfl _ _ _ rfl rfl rfl hS3 Sp.aS rfl (Sp.sc_all _) ?_; intro w5 hS4 k4) | fail)
          exact ⟨⟨j + 1, by omega, by go_num, hk3.then k4 (fun i hi (h : i = w3.heap.size) => by omega), hS4, hR3.kept k4 (fun (h : w.heap.size = w3.heap.size) => by omega), hb3.kept k4 (fun i h1 (h : i = w3.heap.size) => by have := hown i h1; omega)⟩, by simp only [intOf]; omega⟩
        · have hjM : j = M := by omega
          subst hjM
          rw [← AE.out] at hS
          have hn3 := HN.out
          have hge : n3 ≤ 8 * j := by omega
          have hlts := hS.lt
          clear hn3 hb hown
          go_wp2
          obtain ⟨wp, rfl⟩ : ∃ wp : World, wp = wr := ⟨_, rfl⟩
          go_loopw [7] (fun i wr => ∃ k : Nat, k ≤ 4 ∧ i = .int .i64 k ∧ Kept None w wr ∧ Blk wr w3.heap.size (Sp.sc (Go.Pm.squeeze so (k - 1))) 137 ∧ Blk wr w.heap.size z 121 ∧ Blk wr wp.heap.size (Sp.sofar so k).toArray 121) (fun i _ => 4 - (intOf i).toNat)
          case atStart => exact ⟨0, Nat.zero_le _, rfl, hkk.alloc _, hS.alloc _, hR.alloc _, Sp.sofar_zero so ▸ Blk.new _ _ _⟩
          case round =>
            clear hkk hS hR
            obtain ⟨k, hk, rfl, hkk, hS, hR, hH⟩ := hrel
            by_cases hlt : k < 4
            · have hwp := hH.lt
              rcases Nat.eq_zero_or_pos k with h0 | h0
              case' inl =>
                obtain ⟨wx, hwx⟩ : ∃ wx, wx = wr := ⟨_, rfl⟩
                have hkx : Kept None w wx := by rw [hwx]; exact hkk
                have hSx : Blk wx w3.heap.size (Sp.sc (Go.Pm.squeeze so k)) 137 := by rw [hwx, h0]; rw [h0] at hS; exact hS
                have hRx : Blk wx w.heap.size z 121 := by rw [hwx]; exact hR
                have hHx : Blk wx wp.heap.size (Sp.sofar so k).toArray 121 := by rw [hwx]; exact hH
                rw [← hwx]
                have h0' : ¬ 0 < k := by omega
                clear hkk hS hR hH hwx h0
                have c0 := hSx.cell 0
                simp at c0
                go_wp2_with fail
              case' inr =>
                have h0' : 0 < k := h0
                go_wp2_with (first | (refine wpList_load_blk rfl _ _ rfl rfl hS Sp.aS ?_) | fail)
                refine (perm _ _).mono ?_
                rintro e1 w4 ⟨rfl, k1⟩
                rw [show (Go.Pm.squeeze so (k - 1)).perm = Go.Pm.squeeze so k by obtain ⟨i, rfl⟩ : ∃ i, k = i + 1 := ⟨k - 1, by omega⟩; rfl]
                have hS1 := hS.kept k1 (fun h => h)
                go_wp2_with (first | (refine wpList_store_blk rfl _ _ _ rfl rfl rfl hS1 Sp.aS rfl (Sp.sc_all _) ?_; intro wx hSx k2; have c0 := hSx.cell 0; simp at c0) | fail)
                have hkx : Kept None w wx := (hkk.then k1 (fun _ _ h => h)).then k2 (fun i hi (h : i = w3.heap.size) => by omega)
                have hRx := (hR.kept k1 (fun h => h)).kept k2 (fun (h : w.heap.size = w3.heap.size) => by omega)
                have hHx := (hH.kept k1 (fun h => h)).kept k2 (fun (h : wp.heap.size = w3.heap.size) => by omega)
                clear hkk hS hR hH hS1 k1 k2 h0
              all_goals
                have hu := U_ge (Go.Pm.squeeze so k).a
                have hu2 := U_lt (Go.Pm.squeeze so k).a
                refine (num _ _ hu hu2).mono ?_
                rintro e2 w6 ⟨v6, rfl, k6, b6⟩
                obtain ⟨X, hX⟩ : ∃ X, X = leB (U (Go.Pm.squeeze so k).a) := ⟨_, rfl⟩
                rw [← hX] at b6
                have hX8 : X.length = 8 := by rw [hX]; rfl
                have hend := Sp.sofar_splice so k hlt
                rw [← hX] at hend
                have hfull := Sp.sofar_len so k hk
                have hS6 := hSx.kept k6 (fun h => h)
                have hR6 := hRx.kept k6 (fun h => h)
                have hH6 : Blk w6 wp.heap.size (splice (Sp.sofar so k) (8 * k) ((X.map u8v).take 0)).toArray 121 := by
                  have : splice (Sp.sofar so k) (8 * k) ((X.map u8v).take 0) = Sp.sofar so k := by simp [splice]
                  rw [this]; exact hHx.kept k6 (fun h => h)
                have hk6 := hkx.then k6 (fun _ _ h => h)
                have hwx := hHx.lt
                have hbo : ∀ i, v6.ownBlock = some i → wp.heap.size < i := fun i hi => by have := (b6.own i hi).1; omega
                obtain ⟨a6, c6, rfl⟩ := b6.form
                rw [hX8] at b6 hbo ⊢
                have HE := hid (And.intro hX8 (And.intro hend hfull))
                clear hu hu2 hX hX8 hend hfull hSx hRx hHx hkx k6 c0
                obtain ⟨wq, rfl⟩ : ∃ wq : World, wq = wx := ⟨_, rfl⟩
                go_wp2
                go_loopw [9] (fun q wr => ∃ m : Nat, m ≤ 8 ∧ q = .int .i64 m ∧ Kept None w wr ∧ Blk wr w3.heap.size (Sp.sc (Go.Pm.squeeze so k)) 137 ∧ Blk wr w.heap.size z 121 ∧ Blk wr wp.heap.size (splice (Sp.sofar so k) (8 * k) ((X.map u8v).take m)).toArray 121 ∧ Ob wr wq.heap.size (.slice a6 8 c6) X) (fun q _ => 8 - (intOf q).toNat)
                case atStart => exact ⟨0, Nat.zero_le _, rfl, hk6, hS6, hR6, hH6, b6⟩
                case round =>
                  clear hk6 hS6 hR6 hH6 b6
                  obtain ⟨m, hm, rfl, hkk, hS, hR, hH, hb⟩ := hrel
                  by_cases hm8 : m < 8
                  · obtain ⟨hX8, hend, hfull⟩ := HE.out
                    obtain ⟨b, o, rfl, q1, q2, q3, hcs⟩ := Bs.ne (hb.bs (Nat.le_refl _)) (by omega)
                    have hc := hcs m (by omega)
                    have hxm : (X.map u8v)[m]? = some (.int .u8 (bAt X m)) := by
                      rw [List.getElem?_map, List.getElem?_eq_getElem (by omega), Option.map_some, u8v_at X m (by omega)]
                    have hst := splice_step (Sp.sofar so k) (X.map u8v) (8 * k) m (by simp; omega) (by simp; omega) _ hxm
                    have hlen : (splice (Sp.sofar so k) (8 * k) ((X.map u8v).take m)).length = 32 := by
                      rw [length_splice _ _ _ (by simp; omega), hfull]
                    obtain ⟨y, hy⟩ : ∃ y, wr.cell? ⟨wp.heap.size, 8 * k + m, none⟩ = some y := ⟨_, (hH.cell (8 * k + m)).trans (by rw [List.getElem?_toArray, List.getElem?_eq_getElem (by omega)])⟩
                    have fy := hH.free (8 * k + m)
                    have hH2 : Blk (wr.setCell ⟨wp.heap.size, 8 * k + m, none⟩ (.int .u8 (bAt X m))) wp.heap.size (splice (Sp.sofar so k) (8 * k) ((X.map u8v).take (m + 1))).toArray 121 := by
                      have := hH.set (8 * k + m) (.int .u8 (bAt X m))
                      rw [List.setIfInBounds_toArray, hst] at this
                      exact this
                    have kH := Kept.one wr wp.heap.size (8 * k + m) (.int .u8 (bAt X m))
                    have b0 := bAt_ge X m
                    have b1 := bAt_lt X m
                    have et : (8 * (k : Int) + (m : Int)).toNat = 8 * k + m := by omega
                    have hbo' := hbo b rfl
                    have hS2 := hS.kept kH (fun (h : w3.heap.size = wp.heap.size) => by omega)
                    have hR2 := hR.kept kH (fun (h : w.heap.size = wp.heap.size) => by omega)
                    have hk2 := hkk.then kH (fun i hi (h : i = wp.heap.size) => by omega)
                    have hb2 := hb.kept kH (fun i hi (h : i = wp.heap.size) => by have := hbo i hi; omega)
                    clear hcs hxm hst hlen hX8 hend hfull hS hR hkk hb kH hH
                    generalize bAt X m = c at *
                    go_wp2
                    exact ⟨⟨m + 1, by omega, by go_num, hk2, hS2, hR2, hH2, hb2⟩, by simp only [intOf]; omega⟩
                  · have hm8' : m = 8 := by omega
                    have hH2 : Blk wr wp.heap.size (Sp.sofar so (k + 1)).toArray 121 := by
                      rw [← HE.out.2.1]
                      rw [hm8', List.take_of_length_le (by simp [HE.out.1])] at hH
                      exact hH
                    clear hm8' hH hb hbo
                    go_wp2
                    exact ⟨⟨k + 1, by omega, by go_num, hkk, hS, hR, hH2⟩, by simp only [intOf]; omega⟩
            · have hk4 : k = 4 := by omega
              subst hk4
              rw [Sp.sofar_four] at hH
              have aH' : AggTy Try.prog 121 ((eights so 4).map u8v).toArray.size := by rw [K3.out]; exact Sp.aH
              have E := hid (HZ.out.trans K3.out.symm)
              go_wp2_with (first | (refine wpList_load_blk rfl _ _ rfl rfl hH aH' ?_) | (refine wpList_store_blk rfl _ _ _ rfl rfl rfl hR aH' E.out (u8v_all _) ?_; intro w6 hR6 k6) | fail)
              exact bodyPost_ret (v := hashV (eights so 4)) (results_blk rfl _ rfl hR6 aH') rfl ⟨rfl, hkk.then k6 (fun i hi (h : i = w.heap.size) => by omega)⟩
    · have hj1 : j + 1 ≤ noughts l := by
        unfold noughts at hj ⊢
        omega
      have h8' : decide ((n3 : Int) % 8 = 0) = false := by simp; omega
      have h8'' : ((n3 : Int) % 8 != 0) = true := by simp; omega
      have H3 := hid hn3
      clear hn3
      go_wp2_with (at_builtin; refine wpList_append_byte rfl _ _ 22 rfl rtBytes rfl rfl hb (by decide) (by decide) ?m1 ?m2 ?m3)
      case m1 => simp; omega
      case m2 => exact hsz
      case m3 =>
        intro a4 n4 c4 w4 b4 k5
        have k6 : Kept None w w4 := hkk.own k5 (fun k hk => by have := (hb.own k hk).1; omega)
        have hR4 : Blk w4 w.heap.size z 121 := hR.kept k5 (fun h => by have := (hb.own _ h).1; omega)
        have b5 : Ob w4 (w.heap.size + 1) (.slice a4 n4 c4) ((l ++ [1]) ++ List.replicate (j + 1) 0) := by
          rw [show Go.Pm.byteOf 0 = 0 from rfl] at b4
          rw [replicate_one]
          simpa using b4
        have hn4 : n4 = l.length + 1 + (j + 1) := by
          obtain ⟨_, _, hf⟩ := b5.form
          injection hf with _ h2 _
          rw [h2]; simp; omega
        have hn3 := H3.out
        clear hb hkk hR b4 k5
        have H4 := hid (And.intro hn3 hn4)
        clear hn3 hn4
        go_wp2
        have hn3 := H4.out.1
        have hn4 := H4.out.2
        exact ⟨⟨j + 1, hj1, ⟨_, _, _, rfl⟩, b5, k6, hR4⟩, by simp only [Sp.lenOf]; omega⟩
end Ref
end Go.Proofs.Ytbebpnanhkcngaa

/- postmarkref1.Text, Tag, by their contracts. -/
namespace Go.Proofs.Ytbebpnanhkcngaa
open Go.RowKit Go.Pm
namespace Ref

set_option maxRecDepth 100000 in
set_option maxHeartbeats 1000000 in
/-- postmarkref1.Text. -/
theorem text (tag : Int) (v : Value) (lo hi lo' hi' : Nat) (ls : List (List UInt8)) (w : World) (ht0 : 0 ≤ tag) (ht1 : tag < 256) (hv : Bss w lo hi lo' hi' v ls) (hn : ls.length ≤ 1099511627776) (hl : total ls ≤ 1099511627776) :
    Calls Try.prog 89 #[.int .u8 tag, v] w fun e w' => ∃ v', e = .returned v' ∧ Kept None w w' ∧ Ob w' w.heap.size v' (textB tag ls) := by
  obtain ⟨a, cap, rfl, g1, g2, g3⟩ := hv.shape
  have b0 : Ob (w.alloc (.cells #[.int .u8 tag] 5)) w.heap.size (.slice (some ⟨w.heap.size, 0, none⟩) 1 1) (textB tag (ls.take 0)) := by
    have := Bo.new w 5 [Go.Pm.byteOf tag] #[.int .u8 tag] (by simp [u8v_byteOf' ht0 ht1]) 1 rfl (by decide)
    simpa [textB] using this
  have k0 : Kept None w (w.alloc (.cells #[.int .u8 tag] 5)) := (Kept.refl _ _).alloc _
  go_enter Try.func89, Try.ntmps89
  go_wp2
  go_loopw [5, 6] (fun t i wr => ∃ k : Nat, k ≤ ls.length ∧ i = .int .i64 k ∧ (∃ a n c, t = .slice a n c) ∧ Ob wr w.heap.size t (textB tag (ls.take k)) ∧ Kept None w wr) (fun _ i _ => ls.length - (intOf i).toNat)
  case atStart => exact ⟨0, Nat.zero_le _, rfl, ⟨_, _, _, rfl⟩, b0, k0⟩
  case round =>
    clear b0 k0
    obtain ⟨k, hk, rfl, ⟨a3, n3, c3, rfl⟩, hb, hkk⟩ := hrel
    have hsz := hkk.size
    by_cases hlt : k < ls.length
    · have hvr := hv.kept hkk (fun _ _ _ h => h) (fun _ _ _ h => h)
      obtain ⟨b, o, rfl, q1, q2, q3, hc⟩ := Bss.at hvr (by omega)
      obtain ⟨a', c', hc', hb'⟩ := hc k hlt
      have hlen := at_total ls k hlt
      have HP := hid (textB_take tag ls k hlt)
      have htl : (textB tag (ls.take k)).length ≤ 1 + 8 * ls.length + total ls := by
        rw [textB_length, List.length_take]
        have := total_take_le ls k
        omega
      clear hc hvr hv g3
      generalize ls[k] = x at *
      go_wp2_with fail
      refine (lump _ _ _ _ _ hb' (by omega)).mono ?_
      rintro e1 w4 ⟨v4, rfl, k4, b4⟩
      have hyl : (leB x.length ++ x).length = x.length + 8 := by simp [leB_length]; omega
      have HP' := HP.out
      generalize leB x.length ++ x = y at *
      have HP2 := hid HP'
      clear HP HP'
      have hb4 := hb.kept k4 (fun _ _ h => h)
      have hk5 := hkk.then k4 (fun _ _ h => h)
      have hs4 := k4.size
      have hb4' := b4.bs (Nat.le_refl _)
      obtain ⟨a4, c4, rfl⟩ := b4.form
      have HY := hid hyl
      clear hyl hb hkk k4 b4 hb'
      go_wp2_with (at_builtin; refine wpList_append_bo rfl _ _ 22 rfl rtBytes rfl rfl hb4 hb4' ?m1 ?m2 ?m3)
      case m1 => have := HY.out; omega
      case m2 => omega
      case m3 =>
        intro a5 n5 c5 w5 hb5 hk6
        have hk7 : Kept None w w5 := hk5.own hk6 (fun i h => by have := (hb4.own i h).1; omega)
        rw [← HP2.out] at hb5
        clear hb4 hb4' hk5 hk6 HP2
        go_wp2
        go_roundw
        case rel => exact ⟨k + 1, by omega, by go_num, ⟨_, _, _, rfl⟩, hb5, hk7⟩
        case measure => simp [intOf]; omega
    · have hb6 : Ob wr w.heap.size (.slice a3 n3 c3) (textB tag ls) := by rw [List.take_of_length_le (by omega)] at hb; exact hb
      clear hb hv g3
      go_wp2
      go_ret
      exact ⟨_, rfl, hkk, hb6⟩

set_option maxRecDepth 100000 in
set_option maxHeartbeats 400000 in
/-- postmarkref1.Tag. -/
theorem tag (tg : Int) (v : Value) (lo hi lo' hi' : Nat) (ls : List (List UInt8)) (w : World) (ht0 : 0 ≤ tg) (ht1 : tg < 256) (hv : Bss w lo hi lo' hi' v ls) (hn : ls.length ≤ 1099511627776) (hl : total ls ≤ 1099511627776) :
    Calls Try.prog 69 #[.int .u8 tg, v] w fun e w' => e = .returned (hashV (sumB (textB tg ls))) ∧ Kept None w w' := by
  have hs := fun v lo hi w h => sum v lo hi (textB tg ls) w h (by rw [textB_length]; omega)
  have e32 := sumB_len (textB tg ls)
  obtain ⟨res, hres⟩ : ∃ res, res = sumB (textB tg ls) := ⟨_, rfl⟩
  rw [← hres] at hs e32 ⊢
  have HS := hid hs
  have H32 := hid e32
  clear hs e32 hres
  obtain ⟨a, cap, rfl, g1, g2, g3⟩ := hv.shape
  clear g3
  go_enter Try.func69, Try.ntmps69
  go_wp2_with fail
  have hv1 := hv.kept ((Kept.refl None w).alloc (.cells (Array.replicate 32 (.int .u8 0)) 121)) (fun _ _ _ h => h) (fun _ _ _ h => h)
  refine (text tg _ lo hi lo' hi' ls _ ht0 ht1 hv1 hn hl).mono ?_
  rintro e1 w1 ⟨v1, rfl, k1, b1⟩
  obtain ⟨z, hz, hR⟩ : ∃ z : Array Value, z.size = 32 ∧ Blk w1 w.heap.size z 121 := ⟨Array.replicate 32 (.int .u8 0), by simp, (Blk.new w _ _).kept k1 (fun h => h)⟩
  have k2 : Kept None w w1 := ((Kept.refl _ _).alloc _).trans k1
  clear hv hv1 k1
  go_wp2_with fail
  refine (HS.out _ _ _ _ (b1.bs (Nat.le_refl _))).mono ?_
  rintro e2 w2 ⟨rfl, k3⟩
  have hR2 := hR.kept k3 (fun h => h)
  have k4 := k2.then k3 (fun _ _ h => h)
  have e32 : (res.map u8v).toArray.size = 32 := by simpa using H32.out
  have aH' : AggTy Try.prog 121 (res.map u8v).toArray.size := by rw [e32]; exact Sp.aH
  have E := hid (hz.trans e32.symm)
  clear hR k3 k2 b1 e32 hz
  go_wp2_with (first | (refine wpList_store_blk rfl _ _ _ rfl rfl rfl hR2 aH' E.out (u8v_all _) ?_; intro w6 hR6 k6) | fail)
  exact bodyPost_ret (v := hashV res) (results_blk rfl _ rfl hR6 aH') rfl ⟨rfl, k4.then k6 (fun i hi (h : i = w.heap.size) => by omega)⟩
end Ref
end Go.Proofs.Ytbebpnanhkcngaa
namespace Go.Proofs.Ytbebpnanhkcngaa
open Go.RowKit Go.Pm
namespace Ref
theorem box_bs (w : World) (h : List UInt8) (t : TypeId) (hl : h.length = 32) : Bs (w.alloc (.cells (h.map u8v).toArray t)) w.heap.size (w.heap.size + 1) (.slice (some ⟨w.heap.size, 0, none⟩) 8 32) (h.take 8) := by
  have h0 := Vs.new w (h.map u8v).toArray t 32 (by simp [hl]) (by decide)
  rw [show (h.map u8v).toArray.size = 32 by simp [hl]] at h0
  have h1 := h0.sliced 0 8 (by decide) (by decide)
  unfold Bs
  simpa [List.map_take, Addr.add_zero'] using h1

set_option maxRecDepth 100000 in
set_option maxHeartbeats 400000 in
theorem number (h : List UInt8) (hl : h.length = 32) (w : World) : Calls Try.prog 74 #[hashV h] w fun e w' => e = .returned (.int .u64 (numB h : Nat)) ∧ Kept None w w' := by
  have hb := box_bs w h 121 hl
  have k1 : Kept None w (w.alloc (.cells (h.map u8v).toArray 121)) := (Kept.refl _ _).alloc _
  have HE := hid (Sg.num_end h)
  have g0 := leV_ge (h.take 8)
  go_enter Try.func74, Try.ntmps74
  go_wp2_with fail
  refine (word _ _ _ (h.take 8) _ hb (by simp [hl])).mono ?_
  rintro e w1 ⟨rfl, rfl⟩
  go_wp2
  go_ret
  exact ⟨by rw [HE.out]; rfl, k1⟩

set_option maxRecDepth 100000 in
set_option maxHeartbeats 400000 in
theorem pub (x : Nat) (w : World) : Calls Try.prog 50 #[.int .u64 x] w fun e w' => e = .returned (.int .u64 (pubN x : Nat)) ∧ Kept None w w' := by
  have hp := fun w => pow 7 (x % order61) 2305843009213693951 w
  rw [show modOf 2305843009213693951 = prime61 by decide, show powm prime61 7 (x % order61) = pubN x from rfl, show ((x % order61 : Nat) : Int) = (x : Int) % 2305843009213693950 by rw [Int.natCast_emod]; rfl] at hp
  generalize pubN x = p at *
  have HP := hid hp
  clear hp
  go_enter Try.func50, Try.ntmps50
  go_wp2_with fail
  refine (HP.out _).mono ?_
  rintro e w1 ⟨rfl, k1⟩
  go_wp2
  go_ret
  exact ⟨rfl, k1⟩

set_option maxRecDepth 100000 in
set_option maxHeartbeats 1000000 in
theorem point (r y : Nat) (v : Value) (lo hi : Nat) (m : List UInt8) (w : World) (hr : r < 18446744073709551616) (hy : y < 18446744073709551616) (hv : Bs w lo hi v m) (hl : m.length ≤ 549755813888) :
    Calls Try.prog 75 #[.int .u64 r, .int .u64 y, v] w fun e w' => e = .returned (.int .u64 (chN r y m : Nat)) ∧ Kept None w w' := by
  have ht := fun v lo hi lo' hi' w hv => tag 101 v lo hi lo' hi' [leB r, leB y, m] w (by decide) (by decide) hv (by simp) (by simp [total, leB_length]; omega)
  have hn := fun w => number (sumB (textB 101 [leB r, leB y, m])) (sumB_len _) w
  rw [show numB (sumB (textB 101 [leB r, leB y, m])) = chN r y m from rfl] at hn
  obtain ⟨h, hh⟩ : ∃ h, h = sumB (textB 101 [leB r, leB y, m]) := ⟨_, rfl⟩
  obtain ⟨c, hc⟩ : ∃ c, c = chN r y m := ⟨_, rfl⟩
  rw [← hh] at ht hn
  rw [← hc] at hn ⊢
  have HT := hid ht
  have HN := hid hn
  clear ht hn hh hc
  obtain ⟨a, cap, rfl, g1, g2, g3⟩ := hv.shape
  clear g3
  go_enter Try.func75, Try.ntmps75
  go_wp2_with fail
  refine (num r _ (by omega) (by omega)).mono ?_
  rintro e w1 ⟨v1, rfl, k1, b1⟩
  have b1' := b1.bs (Nat.le_refl _)
  obtain ⟨a1, c1, rfl⟩ := b1.form
  rw [leB_length] at b1' ⊢
  clear b1
  go_wp2_with fail
  refine (num y _ (by omega) (by omega)).mono ?_
  rintro e w2 ⟨v2, rfl, k2, b2⟩
  have b2' := b2.bs (Nat.le_refl _)
  obtain ⟨a2, c2, rfl⟩ := b2.form
  rw [leB_length] at b2' ⊢
  have b1'' := b1'.kept k2 (fun _ _ _ h => h)
  have hv2 := (hv.kept k1 (fun _ _ _ h => h)).kept k2 (fun _ _ _ h => h)
  have k02 := k1.trans k2
  clear b2 hv b1' k1 k2
  go_wp2_with fail
  have hbs := Bss.new w2 #[.slice a1 8 c1, .slice a2 8 c2, .slice a m.length cap] 22 [leB r, leB y, m] 3 rfl (by decide) ⟨b1''.all, b2'.all, hv2.all, trivial⟩
  refine (HT.out _ _ _ _ _ _ hbs).mono ?_
  rintro e w3 ⟨rfl, k3⟩
  have k03 := (k02.alloc _).then k3 (fun _ _ h => h)
  clear hbs k02 k3 b1'' b2' hv2
  go_wp2_with fail
  refine (HN.out _).mono ?_
  rintro e w4 ⟨rfl, k4⟩
  have k04 := k03.then k4 (fun _ _ h => h)
  go_wp2
  go_ret
  exact ⟨rfl, k04⟩

set_option maxRecDepth 100000 in
set_option maxHeartbeats 1000000 in
theorem sign (x : Nat) (v : Value) (lo hi : Nat) (m : List UInt8) (w : World) (hv : Bs w lo hi v m) (hl : m.length ≤ 549755813888) :
    Calls Try.prog 51 #[.int .u64 x, v] w fun e w' => e = .returned (Sg.sigV (sigR x m) (sigS x m)) ∧ Kept None w w' := by
  have hx : ((x % order61 : Nat) : Int) = (x : Int) % 2305843009213693950 := by rw [Int.natCast_emod]; rfl
  have hx1 : x % order61 < 18446744073709551616 := Nat.lt_trans (Nat.mod_lt x (by decide)) (by decide)
  have hnum := fun w => num ((x % order61 : Nat) : Int) w (by omega) (by omega)
  have ht := fun v lo hi lo' hi' w hv => tag 107 v lo hi lo' hi' [leB ((x % order61 : Nat) : Int), m] w (by decide) (by decide) hv (by simp) (by simp [total, leB_length]; omega)
  have hn := fun w => number (sumB (textB 107 [leB ((x % order61 : Nat) : Int), m])) (sumB_len _) w
  rw [show numB (sumB (textB 107 [leB ((x % order61 : Nat) : Int), m])) = keyN (x % order61) m from rfl] at hn
  have h7 := fun w => pow 7 (keyN (x % order61) m) 2305843009213693951 w
  have hp := fun w => pub (x % order61) w
  have hc := fun w hv => point (sigR x m) (pubN x) v lo hi m w (Nat.lt_trans (sigR_lt x m) (by decide)) (Nat.lt_trans (pubN_lt x) (by decide)) hv hl
  have hm := fun w => mul (x % order61) (chN (sigR x m) (pubN x) m) 2305843009213693950 w
  have ha := fun w => add (keyN (x % order61) m) ((x % order61) * chN (sigR x m) (pubN x) m % order61) 2305843009213693950 w
  rw [show modOf 2305843009213693950 = order61 by decide] at hm ha
  rw [show modOf 2305843009213693951 = prime61 by decide] at h7
  rw [show (keyN (x % order61) m + (x % order61) * chN (sigR x m) (pubN x) m % order61) % order61 = sigS x m from rfl] at ha
  rw [show powm prime61 7 (keyN (x % order61) m) = sigR x m from rfl] at h7
  rw [pubN_mod] at hp
  obtain ⟨R, hR⟩ : ∃ R, R = sigR x m := ⟨_, rfl⟩
  obtain ⟨S, hS⟩ : ∃ S, S = sigS x m := ⟨_, rfl⟩
  obtain ⟨Y, hY⟩ : ∃ Y, Y = pubN x := ⟨_, rfl⟩
  rw [← hR] at h7 hc hm ha ⊢
  rw [← hS] at ha ⊢
  rw [← hY] at hp hc hm ha
  obtain ⟨K, hK⟩ : ∃ K, K = keyN (x % order61) m := ⟨_, rfl⟩
  obtain ⟨C, hC⟩ : ∃ C, C = chN R Y m := ⟨_, rfl⟩
  obtain ⟨h, hh⟩ : ∃ h, h = sumB (textB 107 [leB ((x % order61 : Nat) : Int), m]) := ⟨_, rfl⟩
  obtain ⟨B, hB⟩ : ∃ B, B = leB ((x % order61 : Nat) : Int) := ⟨_, rfl⟩
  have l8 : B.length = 8 := by rw [hB]; exact leB_length _
  rw [← hh] at ht hn
  rw [← hB] at ht hnum
  rw [← hK] at hn h7 ha
  rw [← hC] at hc hm ha
  obtain ⟨M, hM⟩ : ∃ M, M = x % order61 * C % order61 := ⟨_, rfl⟩
  rw [← hM] at hm ha
  rw [hx] at hp hm hnum
  have HU := hid hnum
  have HT := hid ht
  have HA := hid (And.intro hp (And.intro hc (And.intro hm (And.intro ha (And.intro hn h7)))))
  clear hp hc hm ha hn h7 ht hnum hR hS hY hK hC hM hh hB hx hx1
  obtain ⟨a, cap, rfl, g1, g2, g3⟩ := hv.shape
  clear g3
  go_enter Try.func51, Try.ntmps51
  go_wp2_with fail
  have hv1 := hv.kept ((Kept.refl None w).alloc (.cells #[.int .u64 0, .int .u64 0] 41)) (fun _ _ _ h => h)
  refine (HU.out _).mono ?_
  rintro e w1 ⟨v1, rfl, k1, b1⟩
  have b1' := b1.bs (Nat.le_refl _)
  obtain ⟨a1, c1, rfl⟩ := b1.form
  rw [l8] at b1' ⊢
  have hB1 : Blk w1 w.heap.size #[.int .u64 0, .int .u64 0] 41 := (Blk.new w _ _).kept k1 (fun h => h)
  have k01 : Kept None w w1 := ((Kept.refl None w).alloc _).trans k1
  have hv2 := hv1.kept k1 (fun _ _ _ h => h)
  clear hv hv1 k1 b1
  go_wp2_with fail
  have hbs := Bss.new w1 #[.slice a1 8 c1, .slice a m.length cap] 22 [B, m] 2 rfl (by decide) ⟨b1'.all, hv2.all, trivial⟩
  refine (HT.out _ _ _ _ _ _ hbs).mono ?_
  rintro e w2 ⟨rfl, k2⟩
  have kk := ((Kept.refl None w1).alloc _).trans k2
  have hB2 := hB1.kept kk (fun h => h)
  have k02 := k01.trans kk
  have hv3 := hv2.kept kk (fun _ _ _ h => h)
  clear hB1 k01 hv2 k2 kk hbs b1'
  go_wp2_with fail
  refine (HA.out.2.2.2.2.1 _).mono ?_
  rintro e w3 ⟨rfl, kk⟩
  have hB3 := hB2.kept kk (fun h => h)
  have k03 := k02.trans kk
  have hv4 := hv3.kept kk (fun _ _ _ h => h)
  clear hB2 k02 hv3 kk
  go_wp2_with fail
  refine (HA.out.2.2.2.2.2 _).mono ?_
  rintro e w4 ⟨rfl, kk⟩
  have hB4 := hB3.kept kk (fun h => h)
  have k04 := k03.trans kk
  have hv5 := hv4.kept kk (fun _ _ _ h => h)
  clear hB3 k03 hv4 kk
  go_wp2_with fail
  refine (HA.out.1 _).mono ?_
  rintro e w5 ⟨rfl, kk⟩
  have hB5 := hB4.kept kk (fun h => h)
  have k05 := k04.trans kk
  have hv6 := hv5.kept kk (fun _ _ _ h => h)
  clear hB4 k04 hv5 kk
  go_wp2_with fail
  refine (HA.out.2.1 _ hv6).mono ?_
  rintro e w6 ⟨rfl, kk⟩
  have hB6 := hB5.kept kk (fun h => h)
  have k06 := k05.trans kk
  clear hB5 k05 hv6 kk
  go_wp2_with fail
  refine (HA.out.2.2.1 _).mono ?_
  rintro e w7 ⟨rfl, kk⟩
  have hB7 := hB6.kept kk (fun h => h)
  have k07 := k06.trans kk
  clear hB6 k06 kk
  go_wp2_with fail
  refine (HA.out.2.2.2.1 _).mono ?_
  rintro e w8 ⟨rfl, kk⟩
  have hB8 := hB7.kept kk (fun h => h)
  have k08 := k07.trans kk
  clear hB7 k07 kk
  go_wp2_with (first | (refine wpList_store_blk rfl _ _ _ rfl rfl rfl hB8 Sg.aSig rfl (Sg.sig_all _ _) ?_; intro w9 hR9 k9) | fail)
  exact bodyPost_ret (v := Sg.sigV R S) (results_blk rfl _ rfl hR9 Sg.aSig) rfl ⟨rfl, k08.then k9 (fun i hi (h : i = w.heap.size) => by omega)⟩

set_option maxRecDepth 100000 in
set_option maxHeartbeats 1000000 in
theorem putSig (r s : Nat) (w : World) (hr : r < 18446744073709551616) (hs0 : s < 18446744073709551616) :
    Calls Try.prog 55 #[Sg.sigV r s] w fun e w' => ∃ v, e = .returned v ∧ Kept None w w' ∧ Ob w' w.heap.size v (Sg.sigB r s) := by
  go_enter Try.func55, Try.ntmps55
  go_wp2_with fail
  obtain ⟨w1, hw1⟩ : ∃ w1, w1 = w.alloc (.cells #[.int .u64 (r : Int), .int .u64 (s : Int)] 41) := ⟨_, rfl⟩
  have hB := Blk.new w #[.int .u64 (r : Int), .int .u64 (s : Int)] 41
  have k0 : Kept None w (w.alloc (.cells #[.int .u64 (r : Int), .int .u64 (s : Int)] 41)) := (Kept.refl _ _).alloc _
  rw [← hw1] at hB k0 ⊢
  clear hw1
  have hc0 : ∀ W, Kept None w1 W → W.cell? ⟨w.heap.size, 0, none⟩ = some (.int .u64 (r : Int)) := fun W hW => (hB.kept hW (fun h => h)).cell 0
  have hc1 : ∀ W, Kept None w1 W → W.cell? ⟨w.heap.size, 1, none⟩ = some (.int .u64 (s : Int)) := fun W hW => (hB.kept hW (fun h => h)).cell 1
  clear hB
  have hs : Steady [.own 5 2 (w1.heap.size) (leB r), .own 5 5 (w1.heap.size) (leB s), .own 5 6 (w1.heap.size) (Sg.sigB r s) [2, 5] [2, 5]] := Steady.own (Steady.own (Steady.own (Steady.nil)))
  refine wp_region_kn w1 _ hs (Kept.refl _ _) (by kernel_rfl) (by kernel_rfl) (by kernel_rfl) ?_
  iterate 2 (refine wpPar_pure rfl (by rfl) _ (fun W hW => by
      have c0 := hc0 W hW
      have c1 := hc1 W hW
      go_simp
      exact rfl) ?_; simp only [Act.put, List.setIfInBounds_toArray, List.set_cons_zero, List.set_cons_succ])
  refine wpKn_adds hs rfl (by rfl) (fun W hW hd => ?_) (fun v2 hv => ?_)
  · unfold Gives
    go_simp
    refine gives_call (Ref.num r W (by omega) (by omega)) ?_
    rintro e w3 ⟨u, rfl, k3, b3⟩
    exact ⟨_, rfl, k3, b3.form, b3.base hW.size⟩
  obtain ⟨a2, c2, rfl⟩ : ∃ a c, v2 = .slice a 8 c := hv
  simp only [Act.put, List.setIfInBounds_toArray, List.set_cons_zero, List.set_cons_succ]
  iterate 2 (refine wpPar_pure rfl (by rfl) _ (fun W hW => by
      have c0 := hc0 W hW
      have c1 := hc1 W hW
      go_simp
      exact rfl) ?_; simp only [Act.put, List.setIfInBounds_toArray, List.set_cons_zero, List.set_cons_succ])
  refine wpKn_adds hs rfl (by rfl) (fun W hW hd => ?_) (fun v5 hv => ?_)
  · unfold Gives
    go_simp
    refine gives_call (Ref.num s W (by omega) (by omega)) ?_
    rintro e w3 ⟨u, rfl, k3, b3⟩
    exact ⟨_, rfl, k3, b3.form, b3.base hW.size⟩
  obtain ⟨a5, c5, rfl⟩ : ∃ a c, v5 = .slice a 8 c := hv
  simp only [Act.put, List.setIfInBounds_toArray, List.set_cons_zero, List.set_cons_succ]
  refine wpPar_adds rfl (by rfl) (fun W hW hd => ?_) (fun v6 hv => ?_)
  · have h1 : Ob W w1.heap.size (.slice a2 8 c2) (leB r) := hd 2 (List.Mem.head _)
    have h2 : Ob W w1.heap.size (.slice a5 8 c5) (leB s) := hd 5 (List.Mem.tail _ (List.Mem.head _))
    refine gives_append_bo _ _ 22 rfl rtBytes rfl rfl h1 (h2.bs (Nat.le_refl _)) (by simp [leB_length]) hW.size ?_
    intro a' n' c' W' h3 h4 _
    refine ⟨Kept.own hW h4 (fun k hk => (h1.own k hk).1), h3.form, h3, keeps_of fun f hf hs _ hne u hfu => ?_⟩
    simp only [List.mem_cons, List.not_mem_nil, or_false] at hf
    rcases hf with rfl | rfl | rfl
    · exact absurd (List.Mem.head _) hs
    · exact absurd (List.Mem.tail _ (List.Mem.head _)) hs
    · exact absurd rfl hne
  obtain ⟨a6, c6, rfl⟩ : ∃ a c, v6 = .slice a (Sg.sigB r s).length c := hv
  simp only [Act.put, List.setIfInBounds_toArray, List.set_cons_zero, List.set_cons_succ]
  iterate 1 (refine wpPar_pure rfl (by rfl) _ (fun W hW => by
      go_simp
      exact rfl) ?_; simp only [Act.put, List.setIfInBounds_toArray, List.set_cons_zero, List.set_cons_succ])
  refine wpPar_nil (fun W hW hG => ?_)
  have hb : Ob W w1.heap.size (.slice a6 (Sg.sigB r s).length c6) (Sg.sigB r s) := hG 6
  have hb1 := hb.base k0.size
  have k01 := k0.then hW (fun _ _ h => h)
  clear hG hb hc0 hc1 hs k0 hW
  go_wp2
  go_ret
  exact ⟨_, rfl, k01, hb1⟩

end Ref
end Go.Proofs.Ytbebpnanhkcngaa
