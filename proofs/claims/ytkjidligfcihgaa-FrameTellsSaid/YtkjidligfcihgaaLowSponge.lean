/- Package sponge. -/
import Derived.Test.YtkjidligfcihgaaLowBin
import Derived.Test.YtkjidligfcihgaaLow
import Derived.Deep.QuietTactic
import Derived.BigQuiet
import Derived.StillTailTactics
import Derived.Outline
/- Package sponge: each function by its contract, over the plain functions of Spec2. So far: turn, spread, Perm. -/
namespace Go.Proofs.Ytkjidligfcihgaa
open Go.RowKit Go.Pm
namespace Sp

set_option maxHeartbeats 400000 in
theorem turn (x : U64) (n : Nat) (w : World) (h0 : 0 < n) (h1 : n < 64) :
    Calls Try.prog 40 #[.int .u64 (U x), .int .i64 n] w fun e w' => e = .returned (.int .u64 (U (rot x n))) ∧ ∃ m, w' = w.drewN m := by
  have g0 := U_ge x
  have g1 := U_lt x
  go_enter Try.func40, Try.ntmps40
  go_wp2
  go_quiet (fail)
  go_wp2
  go_ret
  have e1 := U_shr x n
  have e2 := U_shl x (64 - n)
  push_cast at e1 e2
  refine ⟨?_, nq, rfl⟩
  show Ending.returned (.int .u64 (bits .or .u64 (U x / 2 ^ n) (IntKind.u64.wrap (U x * 2 ^ (64 - n))))) = _
  rw [e1, e2, U_or]
  rfl

set_option maxHeartbeats 400000 in
theorem spread (x : U64) (n m : Nat) (N M : Int) (hN : N = n) (hM : M = m) (w : World) (h0 : 0 < n) (h1 : n < 64) (h2 : 0 < m) (h3 : m < 64) :
    Calls Try.prog 37 #[.int .u64 (U x), .int .i64 N, .int .i64 M] w fun e w' => e = .returned (.int .u64 (U (lin x n m))) ∧ Kept None w w' := by
  subst hN hM
  have g0 := U_ge x
  have g1 := U_lt x
  go_enter Try.func37, Try.ntmps37
  go_wp2_with fail
  refine (turn x n _ h0 h1).mono ?_
  rintro e1 w1 ⟨rfl, m1, hw1⟩
  have k1 : Kept None w w1 := by rw [hw1]; exact Kept.toDrewN _ _ _
  clear hw1
  go_wp2_with fail
  refine (turn x m _ h2 h3).mono ?_
  rintro e2 w2 ⟨rfl, m2, hw2⟩
  have k2 : Kept None w w2 := by rw [hw2]; exact k1.drewN _
  clear hw2
  go_wp2
  go_ret
  simp only [U_xor]
  exact ⟨rfl, k2⟩

/-- A state, as the program has it. -/
abbrev sv (s : S5) : Value := .agg #[.int .u64 (U s.a), .int .u64 (U s.b), .int .u64 (U s.c), .int .u64 (U s.d), .int .u64 (U s.e)]
set_option maxRecDepth 100000 in
set_option maxHeartbeats 1000000 in
theorem perm (s : S5) (w : World) :
    Calls Try.prog 30 #[sv s] w fun e w' => e = .returned (sv s.perm) ∧ Kept None w w' := by
  generalize hs0 : s = s0
  have HS := hid hs0
  clear hs0
  obtain ⟨a, b, c, d, e⟩ := s
  go_enter Try.func30, Try.ntmps30
  go_wp2
  go_quiet (fail)
  go_wp2
  go_loopw [3, 4, 5, 6, 7, 8] (fun v3 v4 v5 v6 v7 v8 wr => ∃ (k : Nat) (t : S5) (n : U64), k ≤ 12 ∧ U n = 240 - 15 * k ∧ t = (consts.take k).foldl S5.round s0 ∧ v3 = .int .u64 (U t.a) ∧ v4 = .int .u64 (U t.b) ∧ v5 = .int .u64 (U t.c) ∧ v6 = .int .u64 (U t.d) ∧ v7 = .int .u64 (U t.e) ∧
      v8 = .int .u64 (U n) ∧ Kept None w wr ∧ Blk wr (w.heap.size + 1) #[.int .u64 0, .int .u64 0, .int .u64 0, .int .u64 0, .int .u64 0] 60) (fun _ _ _ _ _ v8 _ => (intOf v8).toNat)
  case atStart =>
    refine ⟨0, _, 240, by omega, rfl, rfl, ?_, ?_, ?_, ?_, ?_, rfl, ((Kept.refl _ _).alloc _).alloc _ |>.drewN _, (Blk.new2 _ _ _ _).drewN _⟩
    all_goals rw [← HS.out]; rfl
  case round =>
    obtain ⟨k, t, n, hk, hn, ht, rfl, rfl, rfl, rfl, rfl, rfl, hkk, hb⟩ := hrel
    by_cases hlt : k < 12
    · have hn1 : 75 ≤ U n := by omega
      have HM := hid (U_next n hn1)
      have HN := hid hn
      have HT := hid ht
      have HB := hid hb
      clear hn ht hb HS
      go_wp2_with fail
      simp only [U_xor, U_and, U_not']
      refine (spread _ 19 28 _ _ rfl rfl _ (by decide) (by decide) (by decide) (by decide)).mono ?_
      rintro e1 w1 ⟨rfl, k1⟩
      go_wp2_with fail
      refine (spread _ 61 39 _ _ rfl rfl _ (by decide) (by decide) (by decide) (by decide)).mono ?_
      rintro e2 w2 ⟨rfl, k2⟩
      go_wp2_with fail
      refine (spread _ 1 6 _ _ rfl rfl _ (by decide) (by decide) (by decide) (by decide)).mono ?_
      rintro e3 w3 ⟨rfl, k3⟩
      go_wp2_with fail
      refine (spread _ 10 17 _ _ rfl rfl _ (by decide) (by decide) (by decide) (by decide)).mono ?_
      rintro e4 w4 ⟨rfl, k4⟩
      go_wp2_with fail
      refine (spread _ 7 41 _ _ rfl rfl _ (by decide) (by decide) (by decide) (by decide)).mono ?_
      rintro e5 w5 ⟨rfl, k5⟩
      have kk := (((k1.trans k2).trans k3).trans k4).trans k5
      clear k1 k2 k3 k4 k5
      go_wp2
      go_roundw
      case rel =>
        obtain ⟨m, hm⟩ := HM.out
        refine ⟨k + 1, t.round n, m, by omega, by have := HN.out; omega, ?_, rfl, rfl, rfl, rfl, rfl, ?_, hkk.then kk (fun _ _ h => h), HB.out.kept kk (fun h => h)⟩
        · rw [HT.out]; exact (consts_step k hlt n HN.out s0).symm
        · rw [hm, wrap_next n hn1]
      case measure => simp only [intOf]; rw [wrap_next n hn1]; omega
    · have h12 : k = 12 := by omega
      have ht' : t = s0.perm := by rw [ht, h12]; rfl
      have hn1 : U n < 75 := by omega
      have HP := hid ht'
      have c2 := fun i => hb.cell i
      have hf : ∀ i, wr.frozen? ⟨w.heap.size + 1, i, none⟩ = false := fun i => hb.free i
      clear ht hn h12 ht'
      go_wp2
      have hb2 := ((((hb.set 0 (.int .u64 (U t.a))).set 1 (.int .u64 (U t.b))).set 2 (.int .u64 (U t.c))).set 3 (.int .u64 (U t.d))).set 4 (.int .u64 (U t.e))
      have hk2 : Kept None w (((((wr.setCell ⟨w.heap.size + 1, 0, none⟩ (.int .u64 (U t.a))).setCell ⟨w.heap.size + 1, 1, none⟩ (.int .u64 (U t.b))).setCell ⟨w.heap.size + 1, 2, none⟩ (.int .u64 (U t.c))).setCell ⟨w.heap.size + 1, 3, none⟩ (.int .u64 (U t.d))).setCell ⟨w.heap.size + 1, 4, none⟩ (.int .u64 (U t.e))) := by
        exact ((((hkk.setNew (by omega) _ _).setNew (by omega) _ _).setNew (by omega) _ _).setNew (by omega) _ _).setNew (by omega) _ _
      clear hb hkk c2 hf
      generalize (((((wr.setCell ⟨w.heap.size + 1, 0, none⟩ (.int .u64 (U t.a))).setCell ⟨w.heap.size + 1, 1, none⟩ (.int .u64 (U t.b))).setCell ⟨w.heap.size + 1, 2, none⟩ (.int .u64 (U t.c))).setCell ⟨w.heap.size + 1, 3, none⟩ (.int .u64 (U t.d))).setCell ⟨w.heap.size + 1, 4, none⟩ (.int .u64 (U t.e))) = w2 at *
      have c0 := hb2.cell 0
      have c1 := hb2.cell 1
      have c2 := hb2.cell 2
      have c3 := hb2.cell 3
      have c4 := hb2.cell 4
      simp at c0 c1 c2 c3 c4
      rw [← HP.out]
      exact bodyPost_ret (v := sv t) (by simp [results, Try.results30, go_sem, c0, c1, c2, c3, c4]) rfl ⟨rfl, hk2⟩

set_option maxHeartbeats 400000 in
/-- sponge.word. -/
theorem word (v : Value) (lo hi : Nat) (l : List UInt8) (w : World) (hv : Bs w lo hi v l) (hl : l.length ≤ 8) :
    Calls Try.prog 31 #[v] w fun en w' => en = .returned (.int .u64 (leV l)) ∧ w = w' := by
  obtain ⟨a, cap, rfl, g1, g2, g3⟩ := hv.shape
  go_enter Try.func31, Try.ntmps31
  go_wp2
  go_loop [3, 8] (fun x i => ∃ k : Nat, k ≤ l.length ∧ i = .int .i64 k ∧ x = .int .u64 (leV (l.take k))) (fun _ i => l.length - (intOf i).toNat)
  case atStart => exact ⟨0, Nat.zero_le _, rfl, by rw [leV_zero]⟩
  case round =>
    obtain ⟨k, hk, rfl, rfl⟩ := hrel
    by_cases hlt : k < l.length
    · obtain ⟨b, o, rfl, q1, q2, q3, hc⟩ := Bs.ne hv (by omega)
      have hc' := hc k hlt
      have c0 := bAt_ge l k
      have c1 := bAt_lt l k
      have HS := hid (word_step l k (by omega))
      clear hc hv g3
      generalize bAt l k = c at *
      go_wp2
      go_round
      case rel => exact ⟨k + 1, by omega, by go_num, by rw [HS.out]⟩
      case measure => simp [intOf]; omega
    · have h1 : l.take k = l := List.take_of_length_le (by omega)
      rw [h1]
      clear h1 hv g3
      go_wp2
      go_ret
      exact ⟨rfl, rfl⟩
end Sp
end Go.Proofs.Ytkjidligfcihgaa

/- sponge.squeeze, by its contract. -/
namespace Go.Proofs.Ytkjidligfcihgaa
open Go.RowKit Go.Pm
namespace Sp

theorem aS : AggTy Try.prog 60 5 := ⟨⟨.array 5 42, by kernel_rfl, rfl⟩, by kernel_rfl⟩
theorem aH : AggTy Try.prog 53 32 := ⟨⟨.array 32 5, by kernel_rfl, rfl⟩, by kernel_rfl⟩
/-- A state's cells. -/
abbrev sc (s : S5) : Array Value := #[.int .u64 (U s.a), .int .u64 (U s.b), .int .u64 (U s.c), .int .u64 (U s.d), .int .u64 (U s.e)]
theorem sc_all (s : S5) : (sc s).all (·.oneCell') = true := by simp [Value.oneCell']
/-- What has been squeezed so far, noughts behind it. -/
def sofar (s : S5) (k : Nat) : List Value := (eights s k).map u8v ++ List.replicate (32 - 8 * k) (.int .u8 0)

theorem sofar_zero (s : S5) : (sofar s 0).toArray = #[.int .u8 0, .int .u8 0, .int .u8 0, .int .u8 0, .int .u8 0, .int .u8 0, .int .u8 0, .int .u8 0, .int .u8 0, .int .u8 0, .int .u8 0, .int .u8 0, .int .u8 0, .int .u8 0, .int .u8 0, .int .u8 0, .int .u8 0, .int .u8 0, .int .u8 0, .int .u8 0, .int .u8 0, .int .u8 0, .int .u8 0, .int .u8 0, .int .u8 0, .int .u8 0, .int .u8 0, .int .u8 0, .int .u8 0, .int .u8 0, .int .u8 0, .int .u8 0] := rfl
theorem sofar_four (s : S5) : sofar s 4 = (eights s 4).map u8v := by unfold sofar; simp
theorem sofar_len (s : S5) (k : Nat) (hk : k ≤ 4) : (sofar s k).length = 32 := by unfold sofar; simp [eights_len]; omega
theorem zeros : ∀ n : Nat, (List.replicate n (Value.int .u8 0)).toArray = Array.replicate n (.int .u8 0) := fun n => by simp

theorem tHash : Try.prog.underlying 53 = some (.array (Try.prog.arrayLen 53) (Try.prog.elem 53)) := by kernel_rfl
theorem lHash : Try.prog.arrayLen 53 = 32 := by kernel_rfl
theorem zHash : ∀ W, (sizeOf (Try.prog.elem 53)).run Try.prog W = .ok 1 W := fun _ => by kernel_rfl
theorem cutHash (h k : Nat) (hk : k < 4) (W : World) : (Instr.sliceAt 53 (.pointer (some ⟨h, 0, none⟩)) (some (.int .i64 (8 * (k : Int)))) none none).run Try.prog W = .ok (.slice (some ⟨h, 8 * k, none⟩) (32 - 8 * k) (32 - 8 * k)) W := by
  rw [run_sliceAt_array_l W 53 ⟨h, 0, none⟩ tHash .i64 (8 * (k : Int)) (by omega) (by rw [lHash]; omega), zHash, lHash]
  have e : ((8 : Int) * (k : Int)).toNat = 8 * k := by omega
  simp only [Result.andThen, slicedAt, e]
  rw [if_neg (by omega), Nat.mul_one, Addr.add_lit, Nat.zero_add]
/-- What is known in the region that lays eight bytes into the hash: the hash's block; the bytes (operation 4); the hash behind the copy (operation 5). -/
def planSq (h H0 : Nat) (cur new : List Value) (l : List UInt8) : List Fct :=
  [{ k := 100, uses := [], fact := fun _ W => Blk W h cur.toArray 53 },
   { k := 4, uses := [], fact := fun v W => Ob W H0 v l },
   { k := 5, uses := [4, 100], spends := [100], fact := fun _ W => Blk W h new.toArray 53 }]
theorem planSq_pure {h H0 : Nat} {cur new : List Value} {l : List UInt8} : ∀ f ∈ planSq h H0 cur new l, ∃ v, f.pure v := by
  intro f hf
  simp only [planSq, List.mem_cons, List.not_mem_nil, or_false] at hf
  rcases hf with rfl | rfl | rfl <;> exact ⟨undef, trivial⟩
theorem planSq_keeps4 {base : World → Prop} {h H0 : Nat} {cur new : List Value} {l : List UInt8} {W W' : World} (hk : Kept None W W') : (planOf base (planSq h H0 cur new l)).keeps 4 W W' := by
  refine keeps_of fun f hf _ _ _ u hfu => ?_
  simp only [planSq, List.mem_cons, List.not_mem_nil, or_false] at hf
  rcases hf with rfl | rfl | rfl
  · exact Blk.kept hfu hk (fun h => h)
  · exact Bo.kept hfu hk (fun _ _ h => h)
  · exact Blk.kept hfu hk (fun h => h)
theorem planSq_keeps5 {base : World → Prop} {h H0 : Nat} {cur new : List Value} {l : List UInt8} {W W' : World} (hk : Kept (Just h) W W') (hh : h < H0) : (planOf base (planSq h H0 cur new l)).keeps 5 W W' := by
  refine keeps_of fun f hf hs _ hne u hfu => ?_
  simp only [planSq, List.mem_cons, List.not_mem_nil, or_false] at hf
  rcases hf with rfl | rfl | rfl
  · exact absurd (List.Mem.head _) hs
  · exact Bo.kept hfu hk (fun k hk' (e : k = h) => by have := (Bo.own hfu k hk').1; omega)
  · exact absurd rfl hne
theorem sofar_splice (s : S5) (k : Nat) (hk : k < 4) : splice (sofar s k) (8 * k) ((leB (U (Go.Pm.squeeze s k).a)).map u8v) = sofar s (k + 1) := by
  unfold splice sofar
  rw [List.take_left' (by simp [eights_len])]
  rw [show 8 * k + ((leB (U (Go.Pm.squeeze s k).a)).map u8v).length = ((eights s k).map u8v).length + 8 by simp [eights_len, leB_length]]
  rw [List.drop_append, List.drop_of_length_le (by simp)]
  simp only [eights, List.map_append, List.append_assoc, List.drop_replicate]
  congr 3
  simp
  omega

set_option maxHeartbeats 1000000 in
theorem sqz (s : S5) (w : World) :
    Calls Try.prog 32 #[sv s] w fun e w' => e = .returned (hashV (eights s 4)) ∧ Kept None w w' := by
  generalize hs0 : s = s0
  have HS := hid hs0
  clear hs0
  go_enter Try.func32, Try.ntmps32
  go_wp2
  go_loopw [4] (fun i wr => ∃ k : Nat, k ≤ 4 ∧ i = .int .i64 ((8 * k : Nat) : Int) ∧ Kept None w wr ∧ Blk wr w.heap.size (sc (squeeze s0 (k - 1))) 60 ∧ (∃ z : Array Value, z.size = 32 ∧ Blk wr (w.heap.size + 1) z 53) ∧
      Blk wr (w.heap.size + 1 + 1) (sofar s0 k).toArray 53) (fun i _ => 32 - (intOf i).toNat)
  case atStart =>
    refine ⟨0, by omega, rfl, (((Kept.refl _ _).alloc _).alloc _).alloc _, ?_, ⟨Array.replicate 32 (.int .u8 0), by simp, ?_⟩, ?_⟩
    · rw [← HS.out]; exact ((Blk.new _ _ _).alloc _).alloc _
    · exact (Blk.new2 _ _ _ _).alloc _
    · exact sofar_zero s0 ▸ Blk.new3 _ _ _ _ _
  case round =>
    obtain ⟨k, hk, rfl, hkk, hS, ⟨z, hz, hR⟩, hH⟩ := hrel
    have hsz := hkk.size
    by_cases h4 : k < 4
    · have hlt := hH.lt
      rcases Nat.eq_zero_or_pos k with h0 | h0
      case' inl =>
        obtain ⟨wx, hwx⟩ : ∃ wx, wx = wr := ⟨_, rfl⟩
        have hkx : Kept None w wx := by rw [hwx]; exact hkk
        have hSx : Blk wx w.heap.size (sc (Go.Pm.squeeze s0 k)) 60 := by rw [hwx, h0]; rw [h0] at hS; exact hS
        have hRx : Blk wx (w.heap.size + 1) z 53 := by rw [hwx]; exact hR
        have hHx : Blk wx (w.heap.size + 1 + 1) (sofar s0 k).toArray 53 := by rw [hwx]; exact hH
        rw [← hwx]
        have h0' : ¬ 0 < 8 * k := by omega
        clear hkk hS hR hH hwx hlt h0 hsz
        go_wp2
      case' inr =>
        have h0' : 0 < 8 * k := by omega
        go_wp2_with (first | (refine wpList_load_blk rfl _ _ rfl rfl hS aS ?_) | fail)
        refine (perm _ wr).mono ?_
        rintro e1 w1 ⟨rfl, k1⟩
        rw [show (Go.Pm.squeeze s0 (k - 1)).perm = Go.Pm.squeeze s0 k by obtain ⟨j, rfl⟩ : ∃ j, k = j + 1 := ⟨k - 1, by omega⟩; rfl]
        have hS1 := hS.kept k1 (fun h => h)
        go_wp2_with (first | (refine wpList_store_blk rfl _ _ _ rfl rfl rfl hS1 aS rfl (sc_all _) ?_; intro wx hSx k2))
        have hkx : Kept None w wx := (hkk.then k1 (fun _ _ h => h)).then k2 (fun i hi (h : i = _) => by omega)
        have hRx := (hR.kept k1 (fun h => h)).kept k2 (fun (h : _ = _) => by omega)
        have hHx := (hH.kept k1 (fun h => h)).kept k2 (fun (h : _ = _) => by omega)
        clear hkk hS hR hH hlt hS1 k1 k2 h0 hsz
      all_goals
        have hlx := hHx.lt
        have hu := U_ge (Go.Pm.squeeze s0 k).a
        have hu2 := U_lt (Go.Pm.squeeze s0 k).a
        have HU := hid (And.intro hu hu2)
        clear hu hu2
        try simp only [Act.put]
        refine wp_region_plan (Kept (Just (w.heap.size + 1 + 1)) wx) (planSq (w.heap.size + 1 + 1) wx.heap.size (sofar s0 k) (sofar s0 (k + 1)) (leB (U (Go.Pm.squeeze s0 k).a))) [100] (by kernel_rfl) (by kernel_rfl) (by kernel_rfl) rfl planSq_pure (Kept.refl _ _).drew (fun j hj => by
          obtain rfl : j = 100 := by simpa using hj
          exact hHx.drew) ?_
        iterate 4 (refine wpPar_pure rfl (by rfl) _ (fun W hW => by
          have c0 : W.cell? ⟨w.heap.size, 0, none⟩ = some (.int .u64 (U (Go.Pm.squeeze s0 k).a)) := (hSx.kept hW (fun (h : _ = _) => by omega)).cell 0
          have h1 := cutHash (w.heap.size + 1 + 1) k h4 W
          go_simp
          exact rfl) ?_; simp only [Act.put, List.setIfInBounds_toArray, List.set_cons_zero, List.set_cons_succ])
        refine wpPar_adds rfl (by rfl) (fun W hW _ => ?_) (fun v _ => ?_)
        · unfold Gives
          go_simp
          refine gives_call (Bin.num _ W HU.out.1 HU.out.2) ?_
          rintro e w3 ⟨v3, rfl, k3, hb3⟩
          exact ⟨_, rfl, hW.then k3 (fun _ _ h => h.elim), trivial, hb3.base hW.size, planSq_keeps4 k3⟩
        simp only [Act.put, List.setIfInBounds_toArray, List.set_cons_zero, List.set_cons_succ]
        refine wpPar_adds rfl (by rfl) (fun W hW hd => ?_) (fun v' _ => ?_)
        · have hv4 : Ob W wx.heap.size v (leB (U (Go.Pm.squeeze s0 k).a)) := hd 4 (List.Mem.head _)
          have hB : Blk W (w.heap.size + 1 + 1) (sofar s0 k).toArray 53 := hd 100 (List.Mem.tail _ (List.Mem.head _))
          refine gives_copy (.tmp 14) (.tmp 17) 22 22 rfl 5 tBytes' (by kernel_rfl) rfl rfl (hv4.bs (Nat.le_refl _)) (by rw [leB_length]; decide) hB (by rw [leB_length]; omega) (by rw [sofar_len _ _ hk, leB_length]; omega) ?_
          intro w' b' k'
          rw [sofar_splice _ _ h4] at b'
          exact ⟨hW.then k' (fun _ _ h => h), trivial, b', planSq_keeps5 k' hlx⟩
        simp only [Act.put, List.setIfInBounds_toArray, List.set_cons_zero, List.set_cons_succ]
        refine wpPar_nil (fun W hW hG => ?_)
        have hHn : Blk W (w.heap.size + 1 + 1) (sofar s0 (k + 1)).toArray 53 := hG 5
        have hkn : Kept None w W := hkx.then hW (fun i hi (h : i = _) => by omega)
        have hSn := hSx.kept hW (fun (h : _ = _) => by omega)
        have hRn := hRx.kept hW (fun (h : _ = _) => by omega)
        clear hkx hSx hRx hHx hW hG HU
        go_wp2
        go_roundw
        case rel => exact ⟨k + 1, by omega, by go_num, hkn, hSn, ⟨z, hz, hRn⟩, hHn⟩
        case measure => simp [intOf]; omega
    · have hk4 : k = 4 := by omega
      subst hk4
      rw [sofar_four] at hH
      have e32 : ((eights s0 4).map u8v).toArray.size = 32 := by simp [eights_len]
      have aH' : AggTy Try.prog 53 ((eights s0 4).map u8v).toArray.size := by rw [e32]; exact aH
      have hz' := hz.trans e32.symm
      have E := hid (And.intro hz hz')
      clear e32 hz hz'
      go_wp2_with (first | (refine wpList_load_blk rfl _ _ rfl rfl hH aH' ?_) | (refine wpList_store_blk rfl _ _ _ rfl rfl rfl hR aH' E.out.2 (u8v_all _) ?_; intro w2 b2 k2))
      exact bodyPost_ret (v := hashV (eights s0 4)) (results_blk rfl _ rfl b2 aH') rfl ⟨rfl, hkk.then k2 (fun i hi (h : i = _) => by omega)⟩
end Sp
end Go.Proofs.Ytkjidligfcihgaa

/- sponge.Sum, Text, Tag, by their contracts. -/
namespace Go.Proofs.Ytkjidligfcihgaa
open Go.RowKit Go.Pm
namespace Sp

def lenOf : Value → Nat
  | .slice _ n _ => n
  | _ => 0
theorem perm_first (w : World) : Calls Try.prog 30 #[.agg #[.int .u64 8800401358850, .int .u64 0, .int .u64 0, .int .u64 0, .int .u64 0]] w fun e w' => e = .returned (sv first) ∧ Kept None w w' :=
  perm ⟨0x0000080100cc0002, 0, 0, 0, 0⟩ w
set_option maxRecDepth 100000 in
set_option maxHeartbeats 1000000 in
theorem sum (v : Value) (lo hi : Nat) (l : List UInt8) (w : World) (hv : Bs w lo hi v l) :
    Calls Try.prog 24 #[v] w fun e w' => e = .returned (hashV (sumB l)) ∧ Kept None w w' := by
  have pf := perm_first
  have key1 := absorb_step l first
  have key2 := soaked_last l
  have e32 : ((sumB l).map u8v).toArray.size = 32 := by simp [sumB_len]
  show Calls _ _ _ w fun e w' => e = .returned (hashV (eights (soaked l) 4)) ∧ Kept None w w'
  change ((eights (soaked l) 4).map u8v).toArray.size = 32 at e32
  have sq := fun w => sqz (soaked l) w
  -- an 'obtain' keeps each under its name in the proof's term too: what stands behind the names unfolds without end
  obtain ⟨res, hres⟩ : ∃ res, res = eights (soaked l) 4 := ⟨_, rfl⟩
  obtain ⟨so, hso⟩ : ∃ so, so = soaked l := ⟨_, rfl⟩
  obtain ⟨F, hF⟩ : ∃ F, F = first := ⟨_, rfl⟩
  rw [← hres] at e32 sq ⊢
  rw [← hso] at sq key2
  rw [← hF] at pf key1 key2
  have PF := hid pf
  have SQ := hid sq
  have K1 := hid key1
  have K2 := hid key2
  have K3 := hid e32
  clear key1 key2 e32 sq pf hres hso hF
  obtain ⟨a, cap, rfl, g1, g2, g3⟩ := hv.shape
  go_enter Try.func24, Try.ntmps24
  go_wp2_with fail
  refine (PF.out _).mono ?_
  rintro e1 w1 ⟨rfl, k1⟩
  have k1' : Kept None w w1 := ((Kept.refl _ _).alloc _).trans k1
  have hR := (Blk.new w _ _).kept k1 (fun h => h)
  obtain ⟨z, hz, hR'⟩ : ∃ z : Array Value, z.size = 32 ∧ Blk w1 w.heap.size z 53 := ⟨_, rfl, hR⟩
  have hs1 : w.heap.size < w1.heap.size := hR'.lt
  clear k1 hR
  go_wp2
  have hv0 := (Vs.lt hv).kept (k1'.alloc (.cells (sc F) 60)) (fun _ _ _ h => h)
  have hhi : min hi w.heap.size ≤ w1.heap.size := by omega
  generalize min hi w.heap.size = hi' at hv0 hhi
  go_loopw [0] (fun v wr => ∃ (k n : Nat) (a : Option Addr) (c : Nat), v = .slice a n c ∧ 8 * k + n = l.length ∧ Bs wr lo hi' (.slice a n c) (l.drop (8 * k)) ∧ Kept None w wr ∧ Blk wr w1.heap.size (sc (absorb (padded l) F k)) 60 ∧ Blk wr w.heap.size z 53) (fun v _ => lenOf v)
  case atStart => exact ⟨0, l.length, a, cap, rfl, by omega, hv0, k1'.alloc _, Blk.new _ _ _, hR'.alloc _⟩
  case round =>
    clear hv0 hR' hv g3
    obtain ⟨k, n, a, c, rfl, hn, hb, hk, hS, hR⟩ := hrel
    have hnc : n ≤ c ∧ c ≤ 9223372036854775807 := by
      obtain ⟨a', c', e, h1, h2, _⟩ := hb.shape
      injection e with e1 e2 e3
      omega
    obtain ⟨hnc1, hnc2⟩ := hnc
    have hlt := hS.lt
    by_cases h8 : 8 ≤ n
    · obtain ⟨a1, s1, p1⟩ := slice_to tBytes zBytes hb .i64 8 (by omega) (by omega)
      obtain ⟨a2, s2, p2⟩ := slice_from tBytes zBytes hb .i64 8 (by omega) (by omega)
      have c0 := hS.cell 0
      have f0 := hS.free 0
      simp at c0
      go_wp2
      clear c0 f0
      refine wp_tail 7 (by kernel_rfl) (by kernel_rfl) (fun wy ky => ?_)
      have hS' := hS.kept ky (fun h => h)
      have c0 := hS'.cell 0
      have f0 := hS'.free 0
      simp at c0
      simp only [List.take_succ_cons, List.take_zero, List.drop_succ_cons, List.drop_zero]
      repeat still_step
      have hb1 : Bs wy lo hi' (.slice a1 8 c) ((l.drop (8 * k)).take 8) := by
        have := Vs.kept p1 ky (fun _ _ _ h => h)
        rw [← List.map_take] at this
        exact this
      still_call (Calls.same (word (.slice a1 8 c) lo hi' _ wy hb1 (by simp; omega)))
      repeat still_step
      refine wpStill_nil ?_
      have hx := mixed_a (absorb (padded l) F k) (leV ((l.drop (8 * k)).take 8)) (leV_ge _) (leV_lt _)
      have HST := hid (K1.out k (by omega))
      generalize hx' : leV ((l.drop (8 * k)).take 8) = x at *
      clear hx'
      generalize hst : absorb (padded l) F k = st at *
      clear hst
      simp only [hx]
      have hS2 : Blk (wy.setCell ⟨w1.heap.size, 0, none⟩ (.int .u64 (U (st.mixed (W x)).a))) w1.heap.size (sc (st.mixed (W x))) 60 := hS'.set 0 _
      have ky2 := (Kept.one wy w1.heap.size 0 (.int .u64 (U (st.mixed (W x)).a)))
      have hb2 : Bs wy lo hi' (.slice a2 (n - 8) (c - 8)) (l.drop (8 * (k + 1))) := by
        have := Vs.kept p2 ky (fun _ _ _ h => h)
        rw [← List.map_drop, List.drop_drop] at this
        exact this
      have hR2 := hR.kept ky (fun h => h)
      have hk2 := hk.then ky (fun _ _ h => h)
      clear hR hk hx p1 p2 hb1 hS hb hS' ky
      go_wp2_with (first | (refine wpList_load_blk rfl _ _ rfl rfl hS2 aS ?_) | fail)
      refine (perm _ _).mono ?_
      rintro e1 w2 ⟨rfl, k1⟩
      rw [← HST.out]
      obtain ⟨st', hst'⟩ : ∃ st', st' = absorb (padded l) F (k + 1) := ⟨_, rfl⟩
      rw [← hst']
      have HN := hid hst'
      clear hst' HST
      have hS3 := hS2.kept k1 (fun h => h)
      have hk3 : Kept None w w2 := (hk2.then ky2 (fun i hi (h : i = w1.heap.size) => by omega)).then k1 (fun _ _ h => h)
      have hb3 := (hb2.kept ky2 (fun i h1 h2 (h : i = w1.heap.size) => by omega)).kept k1 (fun _ _ _ h => h)
      have hR3 := (hR2.kept ky2 (fun (h : w.heap.size = w1.heap.size) => by omega)).kept k1 (fun h => h)
      clear hS2 hk2 hb2 hR2 ky2 k1 c0 f0
      go_wp2_with (first | (refine wpList_store_blk rfl _ _ _ rfl rfl rfl hS3 aS rfl (sc_all _) ?_; intro w3 hS4 k4))
      exact ⟨⟨k + 1, n - 8, a2, c - 8, rfl, by omega, hb3.kept k4 (fun i h1 h2 (h : i = w1.heap.size) => by omega), hk3.then k4 (fun i hi (h : i = w1.heap.size) => by omega), HN.out ▸ hS4, hR3.kept k4 (fun (h : w.heap.size = w1.heap.size) => by omega)⟩, by simp only [lenOf]; omega⟩
    · go_wp2
      refine wp_tail 11 (by kernel_rfl) (by kernel_rfl) (fun wy ky => ?_)
      have hS' := hS.kept ky (fun h => h)
      have c0 := hS'.cell 0
      have f0 := hS'.free 0
      simp at c0
      have hb' := hb.kept ky (fun _ _ _ h => h)
      simp only [List.take_succ_cons, List.take_zero, List.drop_succ_cons, List.drop_zero]
      repeat still_step
      have hlen : (l.drop (8 * k)).length ≤ 8 := by simp; omega
      have e1 : IntKind.i64.wrap (8 * (n : Int)) = 8 * (n : Int) := by rw [IntKind.wrap_i64]; omega
      have e2 : (0 : Int) ≤ 8 * (n : Int) := by omega
      have e3 : ((8 : Int) * (n : Int)).toNat = 8 * n := by omega
      still_call (Calls.same (word _ lo hi' _ wy hb' hlen))
      repeat still_step
      refine wpStill_nil ?_
      rw [last_word l k n hn (by omega)]
      have hx := mixed_a (absorb (padded l) F k) (leV ((padded l).drop (8 * k))) (leV_ge _) (leV_lt _)
      have HST := hid (K2.out k n hn (by omega))
      generalize hx' : leV ((padded l).drop (8 * k)) = x at *
      clear hx'
      generalize hst : absorb (padded l) F k = st at *
      clear hst
      simp only [hx]
      have hS2 : Blk (wy.setCell ⟨w1.heap.size, 0, none⟩ (.int .u64 (U (st.mixed (W x)).a))) w1.heap.size (sc (st.mixed (W x))) 60 := hS'.set 0 _
      have ky2 := (Kept.one wy w1.heap.size 0 (.int .u64 (U (st.mixed (W x)).a)))
      have hR2 := hR.kept ky (fun h => h)
      have hk2 := hk.then ky (fun _ _ h => h)
      clear hR hk hx hS hb hS' ky hb' hlen e1 e2 e3
      go_wp2_with (first | (refine wpList_load_blk rfl _ _ rfl rfl hS2 aS ?_) | fail)
      refine (perm _ _).mono ?_
      rintro e1 w2 ⟨rfl, k1⟩
      rw [← HST.out]
      have hS3 := hS2.kept k1 (fun h => h)
      have hk3 : Kept None w w2 := (hk2.then ky2 (fun i hi (h : i = w1.heap.size) => by omega)).then k1 (fun _ _ h => h)
      have hR3 := (hR2.kept ky2 (fun (h : w.heap.size = w1.heap.size) => by omega)).kept k1 (fun h => h)
      clear hS2 hk2 hR2 ky2 k1 c0 f0
      go_wp2_with (first | (refine wpList_store_blk rfl _ _ _ rfl rfl rfl hS3 aS rfl (sc_all _) ?_; intro w3 hS4 k4) | (refine wpList_load_blk rfl _ _ rfl rfl hS4 aS ?_) | fail)
      have hk4 := hk3.then k4 (fun i hi (h : i = w1.heap.size) => by omega)
      have hR4 := hR3.kept k4 (fun (h : w.heap.size = w1.heap.size) => by omega)
      clear hS3 hk3 hR3 k4
      refine (SQ.out _).mono ?_
      rintro e2 w5 ⟨rfl, k5⟩
      have hR5 := hR4.kept k5 (fun h => h)
      have hk5 := hk4.then k5 (fun _ _ h => h)
      have e32 : (res.map u8v).toArray.size = 32 := K3.out
      have aH' : AggTy Try.prog 53 (res.map u8v).toArray.size := by rw [e32]; exact aH
      have hz' := hz.trans e32.symm
      have E := hid (And.intro hz hz')
      clear e32 hz hz' hR4 hk4 k5 hS4
      go_wp2_with (first | (refine wpList_store_blk rfl _ _ _ rfl rfl rfl hR5 aH' E.out.2 (u8v_all _) ?_; intro w6 hR6 k6) | fail)
      exact bodyPost_ret (v := hashV res) (results_blk rfl _ rfl hR6 aH') rfl ⟨rfl, hk5.then k6 (fun i hi (h : i = w.heap.size) => by omega)⟩
end Sp
end Go.Proofs.Ytkjidligfcihgaa

/- sponge.Text, sponge.Tag, by their contracts. -/
namespace Go.Proofs.Ytkjidligfcihgaa
open Go.RowKit Go.Pm

theorem tLists : Try.prog.underlying 32 = some (.slice 22) := by kernel_rfl
theorem infoBytes : (Try.prog.info? 22).map (fun i => (i.zero, i.size, i.bytes)) = some (some (.slice none 0 0), 1, 24) := by kernel_rfl
theorem rtLists : RowTy Try.prog 32 22 (.slice none 0 0) 24 := ⟨by kernel_rfl, info_parts infoBytes, rfl⟩
/-- A [][]byte of the call's own. -/
abbrev Obs (w : World) (base : Nat) (v : Value) (ls : List (List UInt8)) : Prop := Bos 22 w base v ls
namespace Sp
set_option maxRecDepth 100000 in
set_option maxHeartbeats 1000000 in
/-- sponge.Text. -/
theorem text (tag : Int) (v : Value) (lo hi lo' hi' : Nat) (ls : List (List UInt8)) (w : World) (ht0 : 0 ≤ tag) (ht1 : tag < 256) (hv : Bss w lo hi lo' hi' v ls) (hn : ls.length ≤ 1099511627776) (hl : total ls ≤ 1099511627776) :
    Calls Try.prog 25 #[.int .u8 tag, v] w fun e w' => ∃ v', e = .returned v' ∧ Kept None w w' ∧ Ob w' w.heap.size v' (textB tag ls) := by
  obtain ⟨a, cap, rfl, g1, g2, g3⟩ := hv.shape
  obtain ⟨i0, hi0, hz0, hz1, hz2⟩ := info_parts infoBytes
  go_enter Try.func25, Try.ntmps25
  go_wp2_with (at_make; refine wpList_make_own _ rfl _ _ 32 rfl w.heap.size 22 i0 (.slice none 0 0) 1 tLists hi0 hz0 hz1 .i64 .i64 ((ls.length : Int) + 1) (ls.length + 1) rfl rfl rfl ?h1 ?h2 ?h3 ?h4)
  case h1 => rw [hz2]; omega
  case h2 => unfold maxLen; omega
  case h3 => exact Nat.le_refl _
  case h4 =>
    intro w1 hown hgrow
    have hk1 : Kept None w w1 := Kept.grown (Kept.refl _ _) hgrow (fun _ h => by cases h)
    have hb1 : Obs w1 w.heap.size (.slice (some ⟨w.heap.size, 0, none⟩) 0 (ls.length + 1)) [] := ⟨[], hown, fun i x l h => by simp at h⟩
    have hs1 := (hb1.own w.heap.size rfl).2
    have hb2 := hb1.kept ((Kept.refl None w1).alloc (.cells #[.int .u8 tag] 5))
    have hk2 := hk1.alloc (.cells #[.int .u8 tag] 5)
    have hy : Bs (w1.alloc (.cells #[.int .u8 tag] 5)) 0 (w1.alloc (.cells #[.int .u8 tag] 5)).heap.size (.slice (some ⟨w1.heap.size, 0, none⟩) 1 1) [Go.Pm.byteOf tag] := by
      have := Bo.new w1 5 [Go.Pm.byteOf tag] #[.int .u8 tag] (by simp [u8v_byteOf' ht0 ht1]) 1 rfl (by decide)
      exact (this.bs (Nat.le_refl _)).all
    have E := hid (And.intro hz2 g3)
    clear hown hgrow hb1 hk1 hz0 hz1 hz2 hi0 g3
    go_wp2_with (at_builtin; refine wpList_append_item rfl _ _ 32 rfl rtLists rfl rfl ?k1 hb2 hy ?k2 ?k3 ?k4 ?k5)
    case k1 => simp
    case k2 =>
      intro _ k hk e
      have h1 : w1.heap.size = k := Option.some.inj hk
      have h2 : w.heap.size = k := Option.some.inj e
      omega
    case k3 => simp
    case k4 => simp; omega
    case k5 =>
      intro a2 n2 c2 w2 hb3 hk3 _
      have hk4 : Kept None w w2 := hk2.then hk3 (fun i hi (h : _ = some i) => by simp [Value.ownBlock] at h; omega)
      clear hb2 hy hk2 hk3
      go_wp2
      go_loopw [5, 19] (fun t i wr => ∃ k : Nat, k ≤ ls.length ∧ i = .int .i64 k ∧ (∃ a n c, t = .slice a n c) ∧ Obs wr w.heap.size t (partsB tag (ls.take k)) ∧ Kept None w wr) (fun _ i _ => ls.length - (intOf i).toNat)
      case atStart => exact ⟨0, Nat.zero_le _, rfl, ⟨_, _, _, rfl⟩, hb3, hk4⟩
      case round =>
        clear hb3 hk4
        obtain ⟨k, hk, rfl, ⟨a3, n3, c3, rfl⟩, hb, hkk⟩ := hrel
        have hsz := hkk.size
        by_cases hlt : k < ls.length
        · have hvr := hv.kept hkk (fun _ _ _ h => h) (fun _ _ _ h => h)
          obtain ⟨b, o, rfl, q1, q2, q3, hc⟩ := Bss.at hvr (by omega)
          obtain ⟨a', c', hc', hb'⟩ := hc k hlt
          have hlen := at_total ls k hlt
          have HP := hid (partsB_take tag ls k hlt)
          have hpl := partsB_len tag (ls.take k)
          have hpl' : (partsB tag (ls.take k)).length ≤ ls.length + 1 := by rw [hpl, List.length_take]; omega
          clear hpl hc hvr hv
          generalize ls[k] = x at *
          go_wp2_with fail
          refine (Bin.lump _ _ _ _ _ hb' (by omega)).mono ?_
          rintro e1 w4 ⟨v4, rfl, k4, b4⟩
          have hyl : (leB x.length ++ x).length = x.length + 8 := by simp [leB_length]; omega
          have HP' := HP.out
          generalize leB x.length ++ x = y at *
          have HP2 := hid HP'
          clear HP HP'
          have hb4 := hb.kept k4
          have hk5 := hkk.then k4 (fun _ _ h => h)
          have hne : 0 < y.length → ∀ j, v4.ownBlock = some j → (Value.slice a3 n3 c3).ownBlock ≠ some j := fun _ j h1 h2 => by
            have := (b4.own j h1).1
            have := (hb.own j h2).2
            omega
          have hs4 := k4.size
          have hb4' := (b4.bs (Nat.le_refl _)).all
          obtain ⟨a4, c4, rfl⟩ := b4.form
          have HY := hid hyl
          clear hyl hb hkk k4 b4 hb'
          go_wp2_with (at_builtin; refine wpList_append_item rfl _ _ 32 rfl rtLists rfl rfl rfl hb4 hb4' ?m0 ?m1 ?m2 ?m3)
          case m0 => exact hne
          case m1 => omega
          case m2 => omega
          case m3 =>
            intro a5 n5 c5 w5 hb5 hk6 _
            have hk7 : Kept None w w5 := hk5.then hk6 (fun i hi (h : _ = some i) => by have := (hb4.own i h).1; omega)
            rw [← HP2.out] at hb5
            clear hb4 hb4' hk5 hk6 HP2 hne
            go_wp2
            go_roundw
            case rel => exact ⟨k + 1, by omega, by go_num, ⟨_, _, _, rfl⟩, hb5, hk7⟩
            case measure => simp [intOf]; omega
        · have hb6 : Obs wr w.heap.size (.slice a3 n3 c3) (partsB tag ls) := by rw [List.take_of_length_le (by omega)] at hb; exact hb
          clear hb hv
          go_wp2_with fail
          refine (Bin.join _ _ _ _ _ _ _ hb6.bss (by show (textB tag ls).length ≤ _; rw [textB_length]; omega)).mono ?_
          rintro e1 w7 ⟨v7, rfl, k7, b7⟩
          have b8 := b7.base hsz
          have k8 := hkk.then k7 (fun _ _ h => h)
          clear b7 k7 hkk hb6
          go_wp2
          go_ret
          exact ⟨_, rfl, k8, b8⟩

set_option maxRecDepth 100000 in
set_option maxHeartbeats 400000 in
/-- sponge.Tag. -/
theorem tag (tg : Int) (v : Value) (lo hi lo' hi' : Nat) (ls : List (List UInt8)) (w : World) (ht0 : 0 ≤ tg) (ht1 : tg < 256) (hv : Bss w lo hi lo' hi' v ls) (hn : ls.length ≤ 1099511627776) (hl : total ls ≤ 1099511627776) :
    Calls Try.prog 21 #[.int .u8 tg, v] w fun e w' => e = .returned (hashV (sumB (textB tg ls))) ∧ Kept None w w' := by
  have hs := fun v lo hi w h => sum v lo hi (textB tg ls) w h
  have e32 := sumB_len (textB tg ls)
  obtain ⟨res, hres⟩ : ∃ res, res = sumB (textB tg ls) := ⟨_, rfl⟩
  rw [← hres] at hs e32 ⊢
  have HS := hid hs
  have H32 := hid e32
  clear hs e32 hres
  obtain ⟨a, cap, rfl, g1, g2, g3⟩ := hv.shape
  clear g3
  go_enter Try.func21, Try.ntmps21
  go_wp2_with fail
  have hv1 := hv.kept ((Kept.refl None w).alloc (.cells (Array.replicate 32 (.int .u8 0)) 53)) (fun _ _ _ h => h) (fun _ _ _ h => h)
  refine (text tg _ lo hi lo' hi' ls _ ht0 ht1 hv1 hn hl).mono ?_
  rintro e1 w1 ⟨v1, rfl, k1, b1⟩
  obtain ⟨z, hz, hR⟩ : ∃ z : Array Value, z.size = 32 ∧ Blk w1 w.heap.size z 53 := ⟨Array.replicate 32 (.int .u8 0), by simp, (Blk.new w _ _).kept k1 (fun h => h)⟩
  have k2 : Kept None w w1 := ((Kept.refl _ _).alloc _).trans k1
  clear hv hv1 k1
  go_wp2_with fail
  refine (HS.out _ _ _ _ (b1.bs (Nat.le_refl _))).mono ?_
  rintro e2 w2 ⟨rfl, k3⟩
  have hR2 := hR.kept k3 (fun h => h)
  have k4 := k2.then k3 (fun _ _ h => h)
  have e32 : (res.map u8v).toArray.size = 32 := by simpa using H32.out
  have aH' : AggTy Try.prog 53 (res.map u8v).toArray.size := by rw [e32]; exact aH
  have E := hid (hz.trans e32.symm)
  clear hR k3 k2 b1 e32 hz
  go_wp2_with (first | (refine wpList_store_blk rfl _ _ _ rfl rfl rfl hR2 aH' E.out (u8v_all _) ?_; intro w6 hR6 k6) | fail)
  exact bodyPost_ret (v := hashV res) (results_blk rfl _ rfl hR6 aH') rfl ⟨rfl, k4.then k6 (fun i hi (h : i = w.heap.size) => by omega)⟩
end Sp
end Go.Proofs.Ytkjidligfcihgaa
