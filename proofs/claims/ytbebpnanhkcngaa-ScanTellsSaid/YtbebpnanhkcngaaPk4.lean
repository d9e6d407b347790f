/- Texts joined: RUpPut, RRt14, RMark13, RPut13, RPutJ14, RBase14, Known15, Kn16, Prf7, Nm7, RLatest16, RNext16, RUpSgn. -/
import Derived.Test.YtbebpnanhkcngaaPk3
import Derived.Test.YtbebpnanhkcngaaPk2
import Derived.Deep.LoopGhost
import Derived.Deep.QuietTactic
import Derived.BigQuiet
import Derived.Deep.DeepCutAuto
namespace Go.Proofs.Ytbebpnanhkcngaa
open Go.RowKit Go.Pm
namespace RUp
set_option maxHeartbeats 1000000 in
/-- postmarkref5.Entry. -/
theorem entry (n : ByteArray) (v c : Int) (k r s : Nat) (w : World) : Calls Try.prog 53 #[updV n v k c r s] w fun e w' => e = .returned (entV n v k) ∧ Kept None w w' := by
  have k0 : Kept None w ((w.alloc (.cells #[.string n, .int .i64 v, .int .u64 (k : Int), .int .i64 c, .int .u64 (r : Int), .int .u64 (s : Int)] 43)).alloc (.cells #[.string ⟨#[]⟩, .int .i64 0, .int .u64 0] 94)) := ((Kept.refl _ _).alloc _).alloc _
  have hR := Blk.new2 w (.cells #[.string n, .int .i64 v, .int .u64 (k : Int), .int .i64 c, .int .u64 (r : Int), .int .u64 (s : Int)] 43) #[.string ⟨#[]⟩, .int .i64 0, .int .u64 0] 94
  go_enter Try.func53, Try.ntmps53
  go_wp2_with (first | (refine wpList_store_blk rfl _ _ _ rfl rfl rfl hR Up.aEnt rfl (Up.ent_all _ _ _) ?_; intro w6 hR6 k6) | fail)
  exact bodyPost_ret (v := entV n v k) (results_blk rfl _ rfl hR6 Up.aEnt) rfl ⟨rfl, k0.then k6 (fun i hi (h : i = w.heap.size + 1) => by omega)⟩

set_option maxRecDepth 100000 in
set_option maxHeartbeats 1000000 in
/-- postmarkref5.Right. -/
theorem right (n : ByteArray) (v c : Int) (k r s : Nat) (w : World) : Calls Try.prog 48 #[updV n v k c r s] w fun e w' => e = .returned (.bool (rightB n.size v k c)) ∧ Kept None w w' := by
  have he := fun w => entry n v c k r s w
  have hq := fun w => entryRight n v k w
  have e1 : rightB n.size v k c = (entR n.size v k && (c == 0 || c == 1)) := by
    unfold rightB
    rfl
  rw [e1]
  have hB0 := Blk.new w #[.string n, .int .i64 v, .int .u64 (k : Int), .int .i64 c, .int .u64 (r : Int), .int .u64 (s : Int)] 43
  have k0 : Kept None w (w.alloc (.cells #[.string n, .int .i64 v, .int .u64 (k : Int), .int .i64 c, .int .u64 (r : Int), .int .u64 (s : Int)] 43)) := (Kept.refl _ _).alloc _
  cases hb : entR n.size v k with
  | false =>
    rw [hb] at hq
    have H := hid (And.intro he hq)
    clear he hq hb e1
    go_enter Try.func48, Try.ntmps48
    go_wp2_with (first | (refine wpList_load_blk rfl _ _ rfl rfl hB0 Up.aUpd ?_) | fail)
    refine (H.out.1 _).mono ?_
    rintro e w1 ⟨rfl, k1⟩
    have k01 := k0.trans k1
    go_wp2_with fail
    refine (H.out.2 _).mono ?_
    rintro e w2 ⟨rfl, k2⟩
    have k02 := k01.trans k2
    go_wp2
    go_ret
    exact ⟨rfl, k02⟩
  | true =>
    rw [hb] at hq
    have H := hid (And.intro he hq)
    clear he hq hb e1
    go_enter Try.func48, Try.ntmps48
    go_wp2_with (first | (refine wpList_load_blk rfl _ _ rfl rfl hB0 Up.aUpd ?_) | fail)
    refine (H.out.1 _).mono ?_
    rintro e w1 ⟨rfl, k1⟩
    have k01 := k0.trans k1
    have hB1 := hB0.kept k1 (fun h => h)
    go_wp2_with fail
    refine (H.out.2 _).mono ?_
    rintro e w2 ⟨rfl, k2⟩
    have k02 := k01.trans k2
    have hB2 := hB1.kept k2 (fun h => h)
    have c3 : w2.cell? ⟨w.heap.size, 3, none⟩ = some (.int .i64 c) := hB2.cell 3
    clear hB0 hB1 k0 k1 k01 k2 H
    go_wp2
    all_goals
      go_ret
      first | exact ⟨rfl, k02⟩ | exact ⟨by simp; omega, k02⟩

set_option maxRecDepth 100000 in
set_option maxHeartbeats 4000000 in
theorem put_yes (n : ByteArray) (v c : Int) (k r s : Nat) (w : World) (hb : rightB n.size v k c = true) (hn : n.size ≤ 274877906944) (hk : k < 18446744073709551616) (hr : r < 18446744073709551616) (hs : s < 18446744073709551616) :
    Calls Try.prog 37 #[updV n v k c r s] w fun e w' => ∃ u, e = .returned (.tuple #[u, .int .i64 0]) ∧ Kept None w w' ∧ Ob w' w.heap.size u (putB n v k c r s) := by
  have hq := fun w => right n v c k r s w
  rw [hb] at hq
  have HQ := hid hq
  clear hq hb
  have he := fun w => entry n v c k r s w
  have hf := fun w => fields n v k w hn hk
  have hg := fun w => Ref.putSig r s w hr hs
  have hw2 : IntKind.u64.wrap c = U6 c := by rw [IntKind.wrap_u64]
  have HV0 := And.intro (U6_ge c) (U6_lt c)
  have hT : fieldsB n v k ++ leB (U6 c) ++ (leB (r : Int) ++ leB (s : Int)) = putB n v k c r s := rfl
  have hL : (fieldsB n v k).length ≤ 274877906968 ∧ (leB (r : Int) ++ leB (s : Int)).length = 16 := ⟨by rw [fieldsB_len]; omega, rfl⟩
  obtain ⟨C, hC⟩ : ∃ C, C = U6 c := ⟨_, rfl⟩
  rw [← hC] at hw2 HV0 hT
  rw [show Sg.sigB r s = leB r ++ leB s from rfl] at hg
  obtain ⟨G, hGG⟩ : ∃ G, G = leB (r : Int) ++ leB (s : Int) := ⟨_, rfl⟩
  rw [← hGG] at hg hT hL
  obtain ⟨F, hF⟩ : ∃ F, F = fieldsB n v k := ⟨_, rfl⟩
  rw [← hF] at hf hT hL
  obtain ⟨B, hB⟩ : ∃ B, B = putB n v k c r s := ⟨_, rfl⟩
  rw [← hB] at hT ⊢
  obtain ⟨FC, hFC⟩ : ∃ FC, FC = F ++ leB C := ⟨_, rfl⟩
  rw [← hFC] at hT
  have hFl : FC.length + 16 ≤ 140737488355328 := by rw [hFC, List.length_append, leB_length]; omega
  have HFC := hid (And.intro hFC hFl)
  have H := hid (And.intro he (And.intro hf (And.intro hg hT)))
  have HV := hid HV0
  have HL := hid hL
  clear he hf hg hT hL HV0 hC hGG hF hB hn hk hr hs hFC hFl
  have hB0 := Blk.new w #[.string n, .int .i64 v, .int .u64 (k : Int), .int .i64 c, .int .u64 (r : Int), .int .u64 (s : Int)] 43
  have k0 : Kept None w (w.alloc (.cells #[.string n, .int .i64 v, .int .u64 (k : Int), .int .i64 c, .int .u64 (r : Int), .int .u64 (s : Int)] 43)) := (Kept.refl _ _).alloc _
  go_enter Try.func37, Try.ntmps37
  go_wp2_with (first | (refine wpList_load_blk rfl _ _ rfl rfl hB0 Up.aUpd ?_) | fail)
  refine (HQ.out _).mono ?_
  rintro e w1 ⟨rfl, k1⟩
  have kw := k0.trans k1
  have hBw := hB0.kept k1 (fun h => h)
  clear hB0 k0 k1 HQ
  go_wp2_with fail
  have hc0 : ∀ W, Kept None w1 W → W.cell? ⟨w.heap.size, 0, none⟩ = some (.string n) := fun W hW => (hBw.kept hW (fun h => h)).cell 0
  have hc1 : ∀ W, Kept None w1 W → W.cell? ⟨w.heap.size, 1, none⟩ = some (.int .i64 v) := fun W hW => (hBw.kept hW (fun h => h)).cell 1
  have hc2 : ∀ W, Kept None w1 W → W.cell? ⟨w.heap.size, 2, none⟩ = some (.int .u64 (k : Int)) := fun W hW => (hBw.kept hW (fun h => h)).cell 2
  have hc3 : ∀ W, Kept None w1 W → W.cell? ⟨w.heap.size, 3, none⟩ = some (.int .i64 c) := fun W hW => (hBw.kept hW (fun h => h)).cell 3
  have hc4 : ∀ W, Kept None w1 W → W.cell? ⟨w.heap.size, 4, none⟩ = some (.int .u64 (r : Int)) := fun W hW => (hBw.kept hW (fun h => h)).cell 4
  have hc5 : ∀ W, Kept None w1 W → W.cell? ⟨w.heap.size, 5, none⟩ = some (.int .u64 (s : Int)) := fun W hW => (hBw.kept hW (fun h => h)).cell 5
  have hs : Steady [.val 1 (entV n v k), .own 5 2 (w1.heap.size) (F), .own 5 6 (w1.heap.size) (leB C), .own 5 7 (w1.heap.size) (FC) [2, 6] [2, 6]] := Steady.val (Steady.own (Steady.own (Steady.own (Steady.nil))))
  refine wp_region_kn w1 _ hs (Kept.refl _ _) (by kernel_rfl) (by kernel_rfl) (by kernel_rfl) ?_
  iterate 1 (refine wpPar_pure rfl (by rfl) _ (fun W hW => by
      have c0 := hc0 W hW
      have c1 := hc1 W hW
      have c2 := hc2 W hW
      have c3 := hc3 W hW
      have c4 := hc4 W hW
      have c5 := hc5 W hW
      go_simp
      exact rfl) ?_; simp only [Act.put, List.setIfInBounds_toArray, List.set_cons_zero, List.set_cons_succ])
  refine wpKn_adds hs rfl (by rfl) (fun W hW hd => ?_) (fun v1 hv => ?_)
  · unfold Gives
    go_simp
    refine gives_call (H.out.1 W) ?_
    rintro e w3 ⟨rfl, k3⟩
    exact ⟨_, rfl, k3, rfl, trivial⟩
  obtain rfl : v1 = entV n v k := hv
  simp only [Act.put, List.setIfInBounds_toArray, List.set_cons_zero, List.set_cons_succ]
  refine wpKn_adds hs rfl (by rfl) (fun W hW hd => ?_) (fun v2 hv => ?_)
  · unfold Gives
    go_simp
    refine gives_call (H.out.2.1 W) ?_
    rintro e w3 ⟨u, rfl, k3, b3⟩
    exact ⟨_, rfl, k3, b3.form, b3.base hW.size⟩
  obtain ⟨a2, c2, rfl⟩ : ∃ a c, v2 = .slice a F.length c := hv
  simp only [Act.put, List.setIfInBounds_toArray, List.set_cons_zero, List.set_cons_succ]
  iterate 3 (refine wpPar_pure rfl (by rfl) _ (fun W hW => by
      have c0 := hc0 W hW
      have c1 := hc1 W hW
      have c2 := hc2 W hW
      have c3 := hc3 W hW
      have c4 := hc4 W hW
      have c5 := hc5 W hW
      go_simp
      exact rfl) ?_; simp only [Act.put, List.setIfInBounds_toArray, List.set_cons_zero, List.set_cons_succ])
  refine wpKn_adds hs rfl (by rfl) (fun W hW hd => ?_) (fun v6 hv => ?_)
  · unfold Gives
    go_simp
    refine gives_call (Ref.num C W HV.out.1 HV.out.2) ?_
    rintro e w3 ⟨u, rfl, k3, b3⟩
    exact ⟨_, rfl, k3, b3.form, b3.base hW.size⟩
  obtain ⟨a6, c6, rfl⟩ : ∃ a c, v6 = .slice a 8 c := hv
  simp only [Act.put, List.setIfInBounds_toArray, List.set_cons_zero, List.set_cons_succ]
  refine wpPar_adds rfl (by rfl) (fun W hW hd => ?_) (fun v7 hv => ?_)
  · have h1 : Ob W w1.heap.size (.slice a2 F.length c2) F := hd 2 (List.Mem.head _)
    have h2 : Ob W w1.heap.size (.slice a6 8 c6) (leB C) := hd 6 (List.Mem.tail _ (List.Mem.head _))
    refine gives_append_bo _ _ 22 rfl rtBytes rfl rfl h1 (h2.bs (Nat.le_refl _)) (by have := HL.out; rw [leB_length]; omega) hW.size ?_
    intro a' n' c' W' h3 h4 _
    rw [← HFC.out.1] at h3
    refine ⟨Kept.own hW h4 (fun k hk => (h1.own k hk).1), h3.form, h3, keeps_of fun f hf hs _ hne u hfu => ?_⟩
    simp only [List.mem_cons, List.not_mem_nil, or_false] at hf
    rcases hf with rfl | rfl | rfl | rfl
    · exact hfu
    · exact absurd (List.Mem.head _) hs
    · exact absurd (List.Mem.tail _ (List.Mem.head _)) hs
    · exact absurd rfl hne
  obtain ⟨a7, c7, rfl⟩ : ∃ a c, v7 = .slice a FC.length c := hv
  simp only [Act.put, List.setIfInBounds_toArray, List.set_cons_zero, List.set_cons_succ]
  iterate 1 (refine wpPar_pure rfl (by rfl) _ (fun W hW => by
      go_simp
      exact rfl) ?_; simp only [Act.put, List.setIfInBounds_toArray, List.set_cons_zero, List.set_cons_succ])
  refine wpPar_nil (fun W hW hG => ?_)
  have hb : Ob W w1.heap.size (.slice a7 FC.length c7) FC := hG 7
  have kW := kw.trans hW
  have c4 := hc4 W hW
  have c5 := hc5 W hW
  have hbw : w.heap.size + 1 ≤ w1.heap.size := hBw.lt
  have hb1 := hb.base hbw
  have hBW := hBw.kept hW (fun h => h)
  clear hG hc0 hc1 hc2 hc3 hc4 hc5 hs hW hb hBw kw
  go_wp2_with fail
  refine (H.out.2.2.1 _).mono ?_
  rintro e w5 ⟨u5, rfl, k5, b5⟩
  have d5 := b5.bs (Nat.le_refl _)
  obtain ⟨a5, c5', rfl⟩ := b5.form
  have hb2 := hb1.kept k5 (fun _ _ h => h)
  have kW5 := kW.trans k5
  have hsW : w.heap.size + 1 ≤ w5.heap.size := (hBW.kept k5 (fun h => h)).lt
  clear b5 hb1 k5 kW hBW c4 c5
  go_wp2_with (first | (at_builtin; (refine wpList_append_bo (l := FC) (m := G) (base := w.heap.size + 1) rfl _ _ 22 rfl rtBytes rfl rfl hb2 d5 (by have := HL.out; have := HFC.out; omega) hsW ?k9)) | fail)
  case k9 =>
    intro a9 n9 c9 w9 b9 k9
    have k09 := Kept.own kW5 k9 (fun k hk => Nat.le_of_succ_le (hb2.own k hk).1)
    rw [H.out.2.2.2] at b9
    have b10 := b9.base (Nat.le_succ w.heap.size)
    clear hb2 kW5 k9 d5 b9
    go_wp2
    go_ret2
    exact ⟨_, rfl, k09, b10⟩

set_option maxRecDepth 100000 in
set_option maxHeartbeats 4000000 in
/-- postmarkref5.Put. -/
theorem put (n : ByteArray) (v c : Int) (k r s : Nat) (w : World) (hr : r < 18446744073709551616) (hs : s < 18446744073709551616) :
    Calls Try.prog 37 #[updV n v k c r s] w fun e w' => ∃ u, e = .returned (.tuple #[u, .int .i64 (putE n.size v k c)]) ∧ Kept None w w' ∧ Ob w' w.heap.size u (putL n v k c r s) := by
  cases hb : rightB n.size v k c with
  | true =>
    have hh := (rightB_iff _ _ _ _).1 hb
    have e1 : putE n.size v k c = 0 := by unfold putE; rw [hb]; rfl
    have e2 : putL n v k c r s = putB n v k c r s := by unfold putL; rw [hb]; rfl
    rw [e1, e2]
    exact put_yes n v c k r s w hb (by omega) (Nat.lt_trans hh.1.2.2.2.2.2 (by decide)) hr hs
  | false =>
    have hq := fun w => right n v c k r s w
    have hB0 := Blk.new w #[.string n, .int .i64 v, .int .u64 (k : Int), .int .i64 c, .int .u64 (r : Int), .int .u64 (s : Int)] 43
    have k0 : Kept None w (w.alloc (.cells #[.string n, .int .i64 v, .int .u64 (k : Int), .int .i64 c, .int .u64 (r : Int), .int .u64 (s : Int)] 43)) := (Kept.refl _ _).alloc _
    rw [hb] at hq
    have e1 : putE n.size v k c = 23 := by unfold putE; rw [hb]; rfl
    have e2 : putL n v k c r s = [] := by unfold putL; rw [hb]; rfl
    rw [e1, e2]
    have H := hid hq
    clear hq hb e1 e2
    go_enter Try.func37, Try.ntmps37
    go_wp2_with (first | (refine wpList_load_blk rfl _ _ rfl rfl hB0 Up.aUpd ?_) | fail)
    refine (H.out _).mono ?_
    rintro e w1 ⟨rfl, k1⟩
    have k01 := k0.trans k1
    go_wp2
    go_ret2
    exact ⟨_, rfl, k01, Bo.nil _ _ _⟩
end RUp
end Go.Proofs.Ytbebpnanhkcngaa
namespace Go.Proofs.Ytbebpnanhkcngaa
open Go.RowKit Go.Pm
namespace R12
theorem right1_is (s g c : Int) (n : ByteArray) (v cl t e : Int) (k rr ss : Nat) (hs : 0 ≤ s ∧ s ≤ 1152921504606846976) : rightJ (⟨1, s, g, c, ⟨n, v, k, cl, rr, ss⟩, t, e⟩ : Rec) = (recEq (⟨1, s, g, c, ⟨n, v, k, cl, rr, ss⟩, t, e⟩ : Rec) ⟨1, s, g, c, Req.none, 0, 0⟩ && (decide (0 ≤ g) && (decide (g ≤ 1152921504606846976) && (decide (0 ≤ c) && decide (c ≤ 32))))) := by
  rw [Bool.eq_iff_iff, rightJ_iff]
  simp only [Bool.and_eq_true, decide_eq_true_eq, recEq_iff, Req.right]
  constructor
  · rintro ⟨_, h | h | h⟩
    · exact h
    · exact absurd (congrArg Rec.kind h.1) (by simp)
    · exact absurd (congrArg Rec.kind h.1) (by simp)
  · intro h
    exact ⟨hs, .inl h⟩
set_option maxRecDepth 100000 in
set_option maxHeartbeats 4000000 in
theorem right1 (s g c : Int) (n : ByteArray) (v cl t e : Int) (k rr ss : Nat) (w : World) (hs : 0 ≤ s ∧ s ≤ 1152921504606846976) :
    Calls Try.prog 35 #[(⟨1, s, g, c, ⟨n, v, k, cl, rr, ss⟩, t, e⟩ : Rec).V] w fun e' w' => e' = .returned (.bool (rightJ (⟨1, s, g, c, ⟨n, v, k, cl, rr, ss⟩, t, e⟩ : Rec))) ∧ Kept None w w' := by
  rw [right1_is s g c n v cl t e k rr ss hs]
  have d1 : decide (s < 0) = false := by simp; omega
  have d2 : decide (1152921504606846976 < s) = false := by simp; omega
  have heq := fun W => Jq.eqRec (⟨1, s, g, c, ⟨n, v, k, cl, rr, ss⟩, t, e⟩ : Rec) ⟨1, s, g, c, Req.none, 0, 0⟩ W
  obtain ⟨X, hX⟩ : ∃ X, X = recEq (⟨1, s, g, c, ⟨n, v, k, cl, rr, ss⟩, t, e⟩ : Rec) ⟨1, s, g, c, Req.none, 0, 0⟩ := ⟨_, rfl⟩
  rw [← hX]
  have hq : ∀ W, (binOp .eql 45 (.agg #[.int .i64 1, .int .i64 s, .int .i64 g, .int .i64 c, .string n, .int .i64 v, .int .u64 (k : Int), .int .i64 cl, .int .u64 (rr : Int), .int .u64 (ss : Int), .int .i64 t, .int .i64 e]) (.agg #[.int .i64 1, .int .i64 s, .int .i64 g, .int .i64 c, .string ⟨#[]⟩, .int .i64 0, .int .u64 0, .int .i64 0, .int .u64 0, .int .u64 0, .int .i64 0, .int .i64 0])).run Try.prog W = .ok (.bool X) W := fun W => by
    rw [hX]
    exact heq W
  skip
  clear hs heq hX
  unfold Rec.V Rec.C
  go_enter Try.func35, Try.ntmps35
  go_upto_region 6 with fail
  go_region
  cases X with
  | false =>
    go_wp2
    go_ret
    exact ⟨by simp, (((Kept.refl _ _).alloc _).alloc _).drew⟩
  | true =>
    rcases Bool.eq_false_or_eq_true (decide (0 ≤ g)) with f0 | f0
    rotate_left
    · go_wp2
      go_ret
      exact ⟨by simp [f0], (((Kept.refl _ _).alloc _).alloc _).drew⟩
    rcases Bool.eq_false_or_eq_true (decide (g ≤ 1152921504606846976)) with f1 | f1
    rotate_left
    · go_wp2
      go_ret
      exact ⟨by simp [f0, f1], (((Kept.refl _ _).alloc _).alloc _).drew⟩
    rcases Bool.eq_false_or_eq_true (decide (0 ≤ c)) with f2 | f2
    rotate_left
    · go_wp2
      go_ret
      exact ⟨by simp [f0, f1, f2], (((Kept.refl _ _).alloc _).alloc _).drew⟩
    rcases Bool.eq_false_or_eq_true (decide (c ≤ 32)) with f3 | f3
    rotate_left
    · go_wp2
      go_ret
      exact ⟨by simp [f0, f1, f2, f3], (((Kept.refl _ _).alloc _).alloc _).drew⟩
    go_wp2
    go_ret
    exact ⟨by simp [f0, f1, f2, f3], (((Kept.refl _ _).alloc _).alloc _).drew⟩
theorem right2_is (s g c : Int) (n : ByteArray) (v cl t e : Int) (k rr ss : Nat) (hs : 0 ≤ s ∧ s ≤ 1152921504606846976) : rightJ (⟨2, s, g, c, ⟨n, v, k, cl, rr, ss⟩, t, e⟩ : Rec) = (recEq (⟨2, s, g, c, ⟨n, v, k, cl, rr, ss⟩, t, e⟩ : Rec) ⟨2, s, 0, 0, ⟨n, v, k, cl, rr, ss⟩, t, 0⟩ && (rightB n.size v k cl && (decide (0 ≤ t) && decide (t ≤ 1152921504606846976)))) := by
  rw [Bool.eq_iff_iff, rightJ_iff]
  simp only [Bool.and_eq_true, decide_eq_true_eq, recEq_iff, Req.right]
  constructor
  · rintro ⟨_, h | h | h⟩
    · exact absurd (congrArg Rec.kind h.1) (by simp)
    · exact h
    · exact absurd (congrArg Rec.kind h.1) (by simp)
  · intro h
    exact ⟨hs, .inr (.inl h)⟩
set_option maxRecDepth 100000 in
set_option maxHeartbeats 4000000 in
theorem right2 (s g c : Int) (n : ByteArray) (v cl t e : Int) (k rr ss : Nat) (w : World) (hs : 0 ≤ s ∧ s ≤ 1152921504606846976) :
    Calls Try.prog 35 #[(⟨2, s, g, c, ⟨n, v, k, cl, rr, ss⟩, t, e⟩ : Rec).V] w fun e' w' => e' = .returned (.bool (rightJ (⟨2, s, g, c, ⟨n, v, k, cl, rr, ss⟩, t, e⟩ : Rec))) ∧ Kept None w w' := by
  rw [right2_is s g c n v cl t e k rr ss hs]
  have d1 : decide (s < 0) = false := by simp; omega
  have d2 : decide (1152921504606846976 < s) = false := by simp; omega
  have heq := fun W => Jq.eqRec (⟨2, s, g, c, ⟨n, v, k, cl, rr, ss⟩, t, e⟩ : Rec) ⟨2, s, 0, 0, ⟨n, v, k, cl, rr, ss⟩, t, 0⟩ W
  obtain ⟨X, hX⟩ : ∃ X, X = recEq (⟨2, s, g, c, ⟨n, v, k, cl, rr, ss⟩, t, e⟩ : Rec) ⟨2, s, 0, 0, ⟨n, v, k, cl, rr, ss⟩, t, 0⟩ := ⟨_, rfl⟩
  rw [← hX]
  have hq : ∀ W, (binOp .eql 45 (.agg #[.int .i64 2, .int .i64 s, .int .i64 g, .int .i64 c, .string n, .int .i64 v, .int .u64 (k : Int), .int .i64 cl, .int .u64 (rr : Int), .int .u64 (ss : Int), .int .i64 t, .int .i64 e]) (.agg #[.int .i64 2, .int .i64 s, .int .i64 0, .int .i64 0, .string n, .int .i64 v, .int .u64 (k : Int), .int .i64 cl, .int .u64 (rr : Int), .int .u64 (ss : Int), .int .i64 t, .int .i64 0])).run Try.prog W = .ok (.bool X) W := fun W => by
    rw [hX]
    exact heq W
  have HR := hid (fun W => RUp.right n v cl k rr ss W)
  clear hs heq hX
  unfold Rec.V Rec.C
  go_enter Try.func35, Try.ntmps35
  go_upto_region 9 with fail
  go_region
  cases X with
  | false =>
    go_wp2
    go_ret
    exact ⟨by simp, (((Kept.refl _ _).alloc _).alloc _).drew⟩
  | true =>
    go_wp2_with fail
    refine (HR.out _).mono ?_
    rintro e1 w1 ⟨rfl, k1⟩
    have kk := ((((Kept.refl _ _).alloc _).alloc _).drew).trans k1
    have hc : w1.cell? ⟨w.heap.size, 10, none⟩ = some (.int .i64 t) := ((((Blk.new w #[.int .i64 2, .int .i64 s, .int .i64 g, .int .i64 c, .string n, .int .i64 v, .int .u64 (k : Int), .int .i64 cl, .int .u64 (rr : Int), .int .u64 (ss : Int), .int .i64 t, .int .i64 e] 45).alloc _).drew).kept k1 (fun h => h)).cell 10
    clear k1
    rcases Bool.eq_false_or_eq_true (rightB n.size v k cl) with f0 | f0
    rotate_left
    · go_wp2
      go_ret
      exact ⟨by simp [f0], kk⟩
    rcases Bool.eq_false_or_eq_true (decide (0 ≤ t)) with f1 | f1
    rotate_left
    · go_wp2
      go_ret
      exact ⟨by simp [f0, f1], kk⟩
    rcases Bool.eq_false_or_eq_true (decide (t ≤ 1152921504606846976)) with f2 | f2
    rotate_left
    · go_wp2
      go_ret
      exact ⟨by simp [f0, f1, f2], kk⟩
    go_wp2
    go_ret
    exact ⟨by simp [f0, f1, f2], kk⟩
theorem right3_is (s g c : Int) (n : ByteArray) (v cl t e : Int) (k rr ss : Nat) (hs : 0 ≤ s ∧ s ≤ 1152921504606846976) : rightJ (⟨3, s, g, c, ⟨n, v, k, cl, rr, ss⟩, t, e⟩ : Rec) = (recEq (⟨3, s, g, c, ⟨n, v, k, cl, rr, ss⟩, t, e⟩ : Rec) ⟨3, s, 0, 0, Req.none, 0, e⟩ && (decide (1 ≤ e) && decide (e ≤ 1073741824))) := by
  rw [Bool.eq_iff_iff, rightJ_iff]
  simp only [Bool.and_eq_true, decide_eq_true_eq, recEq_iff, Req.right]
  constructor
  · rintro ⟨_, h | h | h⟩
    · exact absurd (congrArg Rec.kind h.1) (by simp)
    · exact absurd (congrArg Rec.kind h.1) (by simp)
    · exact h
  · intro h
    exact ⟨hs, .inr (.inr h)⟩
set_option maxRecDepth 100000 in
set_option maxHeartbeats 4000000 in
theorem right3 (s g c : Int) (n : ByteArray) (v cl t e : Int) (k rr ss : Nat) (w : World) (hs : 0 ≤ s ∧ s ≤ 1152921504606846976) :
    Calls Try.prog 35 #[(⟨3, s, g, c, ⟨n, v, k, cl, rr, ss⟩, t, e⟩ : Rec).V] w fun e' w' => e' = .returned (.bool (rightJ (⟨3, s, g, c, ⟨n, v, k, cl, rr, ss⟩, t, e⟩ : Rec))) ∧ Kept None w w' := by
  rw [right3_is s g c n v cl t e k rr ss hs]
  have d1 : decide (s < 0) = false := by simp; omega
  have d2 : decide (1152921504606846976 < s) = false := by simp; omega
  have heq := fun W => Jq.eqRec (⟨3, s, g, c, ⟨n, v, k, cl, rr, ss⟩, t, e⟩ : Rec) ⟨3, s, 0, 0, Req.none, 0, e⟩ W
  obtain ⟨X, hX⟩ : ∃ X, X = recEq (⟨3, s, g, c, ⟨n, v, k, cl, rr, ss⟩, t, e⟩ : Rec) ⟨3, s, 0, 0, Req.none, 0, e⟩ := ⟨_, rfl⟩
  rw [← hX]
  have hq : ∀ W, (binOp .eql 45 (.agg #[.int .i64 3, .int .i64 s, .int .i64 g, .int .i64 c, .string n, .int .i64 v, .int .u64 (k : Int), .int .i64 cl, .int .u64 (rr : Int), .int .u64 (ss : Int), .int .i64 t, .int .i64 e]) (.agg #[.int .i64 3, .int .i64 s, .int .i64 0, .int .i64 0, .string ⟨#[]⟩, .int .i64 0, .int .u64 0, .int .i64 0, .int .u64 0, .int .u64 0, .int .i64 0, .int .i64 e])).run Try.prog W = .ok (.bool X) W := fun W => by
    rw [hX]
    exact heq W
  skip
  clear hs heq hX
  unfold Rec.V Rec.C
  go_enter Try.func35, Try.ntmps35
  cases X with
  | false =>
    go_wp2
    go_ret
    exact ⟨by simp, ((Kept.refl _ _).alloc _).alloc _⟩
  | true =>
    rcases Bool.eq_false_or_eq_true (decide (1 ≤ e)) with f0 | f0
    rotate_left
    · go_wp2
      go_ret
      exact ⟨by simp [f0], ((Kept.refl _ _).alloc _).alloc _⟩
    rcases Bool.eq_false_or_eq_true (decide (e ≤ 1073741824)) with f1 | f1
    rotate_left
    · go_wp2
      go_ret
      exact ⟨by simp [f0, f1], ((Kept.refl _ _).alloc _).alloc _⟩
    go_wp2
    go_ret
    exact ⟨by simp [f0, f1], ((Kept.refl _ _).alloc _).alloc _⟩
set_option maxRecDepth 100000 in
set_option maxHeartbeats 4000000 in
theorem right (r : Rec) (w : World) : Calls Try.prog 35 #[r.V] w fun e' w' => e' = .returned (.bool (rightJ r)) ∧ Kept None w w' := by
  obtain ⟨kd, s, g, c, ⟨n, v, k, cl, rr, ss⟩, t, e⟩ := r
  by_cases hs : 0 ≤ s ∧ s ≤ 1152921504606846976
  · by_cases h1 : kd = 1
    · subst h1; exact right1 s g c n v cl t e k rr ss w hs
    by_cases h2 : kd = 2
    · subst h2; exact right2 s g c n v cl t e k rr ss w hs
    by_cases h3 : kd = 3
    · subst h3; exact right3 s g c n v cl t e k rr ss w hs
    have hR : rightJ ⟨kd, s, g, c, ⟨n, v, k, cl, rr, ss⟩, t, e⟩ = false := by
      rw [← Bool.not_eq_true, rightJ_iff]
      rintro ⟨_, h | h | h⟩
      · exact h1 (congrArg Rec.kind h.1)
      · exact h2 (congrArg Rec.kind h.1)
      · exact h3 (congrArg Rec.kind h.1)
    rw [hR]
    have d1 : decide (s < 0) = false := by simp; omega
    have d2 : decide (1152921504606846976 < s) = false := by simp; omega
    have e1 : (kd == 1) = false := by simpa using h1
    have e2 : (kd == 2) = false := by simpa using h2
    have e3 : (kd == 3) = false := by simpa using h3
    clear hs h1 h2 h3 hR
    unfold Rec.V Rec.C
    go_enter Try.func35, Try.ntmps35
    go_wp2
    go_ret
    exact ⟨rfl, ((Kept.refl _ _).alloc _).alloc _⟩
  · have hR : rightJ ⟨kd, s, g, c, ⟨n, v, k, cl, rr, ss⟩, t, e⟩ = false := by
      rw [← Bool.not_eq_true, rightJ_iff]
      exact fun h => hs h.1
    rw [hR]
    by_cases h1 : s < 0
    · have d1 : decide (s < 0) = true := by simpa using h1
      clear hs h1 hR
      unfold Rec.V Rec.C
      go_enter Try.func35, Try.ntmps35
      go_wp2
      go_ret
      exact ⟨rfl, (Kept.refl _ _).alloc _⟩
    · have d1 : decide (s < 0) = false := by simpa using h1
      have d2 : decide (1152921504606846976 < s) = true := by simp; omega
      clear hs h1 hR
      unfold Rec.V Rec.C
      go_enter Try.func35, Try.ntmps35
      go_wp2
      go_ret
      exact ⟨rfl, (Kept.refl _ _).alloc _⟩
end R12
end Go.Proofs.Ytbebpnanhkcngaa
namespace Go.Proofs.Ytbebpnanhkcngaa
open Go.RowKit Go.Pm
namespace R12
set_option maxRecDepth 100000 in
set_option maxHeartbeats 2000000 in
theorem mark (k s : Int) (v : Value) (lo hi : Nat) (b : List UInt8) (w : World) (hv : Bs w lo hi v b) (k0 : 0 ≤ k) (k1 : k < 256) (s0 : 0 ≤ s) (s1 : s < 9223372036854775808) (hl : b.length ≤ 1099511627000) :
    Calls Try.prog 45 #[.int .i64 k, .int .i64 s, v] w fun e w' => ∃ a c, e = .returned (.slice a 8 c) ∧ Kept None w w' ∧ Bs w' w.heap.size w'.heap.size (.slice a 8 c) (markF k s b) := by
  have wk : IntKind.u8.wrap k = k := by rw [IntKind.wrap_u8]; omega
  have ws : IntKind.u64.wrap s = s := by rw [IntKind.wrap_u64]; omega
  obtain ⟨av, cv, rfl, _⟩ := hv.shape
  have hn := fun W => Ref.num s W s0 (by omega)
  have ht := fun W lo hi lo' hi' u h => Ref.tag 102 u lo hi lo' hi' [[Go.Pm.byteOf k], leB s, b] W (by decide) (by decide) h (by simp) (by simp [total, leB_length]; omega)
  have HN := hid hn
  have HT := hid ht
  have HV := hid hv.all
  have HK := hid (And.intro k0 k1)
  obtain ⟨H, hH⟩ : ∃ H, H = sumB (textB 102 [[Go.Pm.byteOf k], leB s, b]) := ⟨_, rfl⟩
  have h32 : H.length = 32 := by rw [hH]; exact sumB_len _
  have hM : markF k s b = H.take 8 := by rw [hH]; rfl
  obtain ⟨HA, hHA⟩ : ∃ A : Array Value, A = (H.map u8v).toArray := ⟨_, rfl⟩
  have aH : AggTy Try.prog 121 HA.size := by rw [hHA, show (H.map u8v).toArray.size = 32 by simpa using h32]; exact Sp.aH
  have HH := hid (And.intro hH (And.intro h32 (And.intro hM hHA)))
  clear hn ht hv k0 k1 s0 s1 hl hH h32 hM hHA
  go_enter Try.func45, Try.ntmps45
  go_wp2_with fail
  refine (HN.out _).mono ?_
  rintro e w2 ⟨v2, rfl, k2, b2⟩
  obtain ⟨a2, c2, rfl⟩ := b2.form
  have kx : Kept None w w2 := ((Kept.refl None w).alloc (.cells #[.int .u8 k] 5)).trans k2
  have hk1 : Bs w2 0 w2.heap.size (.slice (some ⟨w.heap.size, 0, none⟩) 1 1) [Go.Pm.byteOf k] := by
    have h0 : Bs (w.alloc (.cells #[.int .u8 k] 5)) w.heap.size (w.heap.size + 1) (.slice (some ⟨w.heap.size, 0, none⟩) 1 1) [Go.Pm.byteOf k] :=
      Bs.newMark w #[.int .u8 k] 5 (0, 0) 1 rfl (by decide) [Go.Pm.byteOf k] (by simp [u8v_byteOf' HK.out.1 HK.out.2])
    exact (h0.kept k2 (fun _ _ _ h => h)).all
  have hbs := Bss.new w2 #[.slice (some ⟨w.heap.size, 0, none⟩) 1 1, .slice a2 (leB s).length c2, .slice av b.length cv] 22 [[Go.Pm.byteOf k], leB s, b] 3 rfl (by decide) ⟨hk1, (b2.bs (Nat.le_refl _)).all, (HV.out.kept kx (fun _ _ _ h => h)).all, trivial⟩
  have HB := hid hbs
  have k3 : Kept None w (w2.alloc (.cells #[.slice (some ⟨w.heap.size, 0, none⟩) 1 1, .slice a2 (leB s).length c2, .slice av b.length cv] 22)) := kx.alloc _
  have K3 := hid k3
  clear hbs hk1 kx k2 b2 k3
  go_wp2_with fail
  refine (HT.out _ _ _ _ _ _ HB.out).mono ?_
  rintro e w4 ⟨rfl, k4⟩
  have K4 := hid (K3.out.trans k4)
  rw [← HH.out.1]
  show _
  unfold hashV
  rw [← HH.out.2.2.2]
  have z1 : Blk (w4.alloc (.cells #[.int .u8 0, .int .u8 0, .int .u8 0, .int .u8 0, .int .u8 0, .int .u8 0, .int .u8 0, .int .u8 0, .int .u8 0, .int .u8 0, .int .u8 0, .int .u8 0, .int .u8 0, .int .u8 0, .int .u8 0, .int .u8 0, .int .u8 0, .int .u8 0, .int .u8 0, .int .u8 0, .int .u8 0, .int .u8 0, .int .u8 0, .int .u8 0, .int .u8 0, .int .u8 0, .int .u8 0, .int .u8 0, .int .u8 0, .int .u8 0, .int .u8 0, .int .u8 0] 121)) w4.heap.size #[.int .u8 0, .int .u8 0, .int .u8 0, .int .u8 0, .int .u8 0, .int .u8 0, .int .u8 0, .int .u8 0, .int .u8 0, .int .u8 0, .int .u8 0, .int .u8 0, .int .u8 0, .int .u8 0, .int .u8 0, .int .u8 0, .int .u8 0, .int .u8 0, .int .u8 0, .int .u8 0, .int .u8 0, .int .u8 0, .int .u8 0, .int .u8 0, .int .u8 0, .int .u8 0, .int .u8 0, .int .u8 0, .int .u8 0, .int .u8 0, .int .u8 0, .int .u8 0] 121 := Blk.new _ _ _
  obtain ⟨z, hz, hZ⟩ := Blk.any (n := 32) z1 (by rfl)
  have hsz : HA.size = 32 := by rw [HH.out.2.2.2]; simpa using HH.out.2.1
  have hal : HA.all (·.oneCell') = true := by rw [HH.out.2.2.2]; exact u8v_all' _
  have E := hid (And.intro (hz.trans hsz.symm) hal)
  have kz : Kept None w (w4.alloc (.cells #[.int .u8 0, .int .u8 0, .int .u8 0, .int .u8 0, .int .u8 0, .int .u8 0, .int .u8 0, .int .u8 0, .int .u8 0, .int .u8 0, .int .u8 0, .int .u8 0, .int .u8 0, .int .u8 0, .int .u8 0, .int .u8 0, .int .u8 0, .int .u8 0, .int .u8 0, .int .u8 0, .int .u8 0, .int .u8 0, .int .u8 0, .int .u8 0, .int .u8 0, .int .u8 0, .int .u8 0, .int .u8 0, .int .u8 0, .int .u8 0, .int .u8 0, .int .u8 0] 121)) := K4.out.alloc _
  have KZ := hid kz
  have h4 := K4.out.size
  have H4 := hid h4
  clear k4 z1 hz hsz hal kz h4
  go_wp2_with (first | (refine wpList_store_blk rfl _ _ _ rfl rfl rfl hZ aH E.out.1 E.out.2 ?_; intro w9 hR9 k9) | fail)
  go_ret
  refine ⟨_, _, rfl, KZ.out.then k9 (fun i hi e => by have e : i = w4.heap.size := e; have := H4.out; omega), ?_⟩
  rw [HH.out.2.2.1]
  have hlt := hR9.lt
  refine ⟨some ⟨w4.heap.size, 0, none⟩, 32, by simp [HH.out.2.1], by simp [HH.out.2.1], by decide, (fun h => by cases h), fun ad had i x hx => ?_⟩
  obtain rfl := Option.some.inj had
  have hi : i < 8 := by
    have := (List.getElem?_eq_some_iff.1 hx).1
    simp [HH.out.2.1] at this
    omega
  refine ⟨H4.out, hlt, ?_⟩
  have ea : (⟨w4.heap.size, 0, none⟩ : Addr).add i = ⟨w4.heap.size, i, none⟩ := by unfold Addr.add; split <;> simp_all
  rw [ea, hR9.cell, HH.out.2.2.2]
  rw [List.map_take, List.getElem?_take_of_lt hi] at hx
  simpa using hx
end R12
end Go.Proofs.Ytbebpnanhkcngaa
namespace Go.Proofs.Ytbebpnanhkcngaa
open Go.RowKit Go.Pm
namespace R12
set_option maxRecDepth 100000 in
set_option maxHeartbeats 4000000 in
theorem put (k s : Int) (v : Value) (lo hi : Nat) (b : List UInt8) (w : World) (hv : Bs w lo hi v b) (s1 : s < 9223372036854775808) (hl : b.length ≤ 1099511627000) :
    Calls Try.prog 38 #[.int .i64 k, .int .i64 s, v] w fun e w' => ∃ u, e = .returned (.tuple #[u, .int .i64 (putFE k s b)]) ∧ Kept None w w' ∧ Ob w' w.heap.size u (putFL k s b) := by
  obtain ⟨av, cv, rfl, _⟩ := hv.shape
  have bad : ∀ E : Int, putFE k s b = E → E ≠ 0 → putFL k s b = [] := fun E h1 h2 => by unfold putFL; rw [if_neg (by rw [h1]; exact h2)]
  by_cases hk1 : k < 1
  · have e : putFE k s b = 23 := by unfold putFE; rw [if_pos (.inl hk1)]
    rw [e, bad 23 e (by decide)]
    have d1 : decide (k < 1) = true := by simpa using hk1
    clear bad e hk1 hv
    go_enter Try.func38, Try.ntmps38
    go_wp2
    go_ret2
    exact ⟨_, rfl, Kept.refl _ _, Bo.nil _ _ _⟩
  · by_cases hk2 : 255 < k
    · have e : putFE k s b = 23 := by unfold putFE; rw [if_pos (.inr (.inl hk2))]
      rw [e, bad 23 e (by decide)]
      have d1 : decide (k < 1) = false := by simpa using hk1
      have d2 : decide (255 < k) = true := by simpa using hk2
      clear bad e hk1 hk2 hv
      go_enter Try.func38, Try.ntmps38
      go_wp2
      go_ret2
      exact ⟨_, rfl, Kept.refl _ _, Bo.nil _ _ _⟩
    · by_cases hs0 : s < 0
      · have e : putFE k s b = 23 := by unfold putFE; rw [if_pos (.inr (.inr hs0))]
        rw [e, bad 23 e (by decide)]
        have d1 : decide (k < 1) = false := by simpa using hk1
        have d2 : decide (255 < k) = false := by simpa using hk2
        have d3 : decide (s < 0) = true := by simpa using hs0
        clear bad e hk1 hk2 hs0 hv
        go_enter Try.func38, Try.ntmps38
        go_wp2
        go_ret2
        exact ⟨_, rfl, Kept.refl _ _, Bo.nil _ _ _⟩
      · have d1 : decide (k < 1) = false := by simpa using hk1
        have d2 : decide (255 < k) = false := by simpa using hk2
        have d3 : decide (s < 0) = false := by simpa using hs0
        have hc : ¬ (k < 1 ∨ 255 < k ∨ s < 0) := by omega
        by_cases hlen : 4096 < b.length
        · have e : putFE k s b = 22 := by unfold putFE; rw [if_neg hc, if_pos hlen]
          rw [e, bad 22 e (by decide)]
          have d4 : decide ((4096 : Int) < (b.length : Int)) = true := by simp; omega
          have d5 : decide (4096 < b.length) = true := by simpa using hlen
          clear bad e hk1 hk2 hs0 hc hlen hv
          go_enter Try.func38, Try.ntmps38
          go_wp2
          go_ret2
          exact ⟨_, rfl, Kept.refl _ _, Bo.nil _ _ _⟩
        · have e : putFE k s b = 0 := by unfold putFE; rw [if_neg hc, if_neg hlen]
          have eL : putFL k s b = putF k s b := by unfold putFL; rw [if_pos e]
          rw [e, eL]
          have d4 : decide ((4096 : Int) < (b.length : Int)) = false := by simp; omega
          have d5 : decide (4096 < b.length) = false := by simpa using hlen
          obtain ⟨n, hn⟩ : ∃ n, n = b.length := ⟨_, rfl⟩
          have HN := hid (fun W => Ref.num s W (by omega) (by omega))
          have HM := hid (fun W lo hi v (h : Bs W lo hi v b) => mark k s v lo hi b W h (by omega) (by omega) (by omega) s1 (by omega))
          have HV := hid hv.all
          have HL := hid (show b.length ≤ 4096 by omega)
          have ws : IntKind.u64.wrap s = s := by rw [IntKind.wrap_u64]; omega
          have wk : IntKind.u8.wrap k = k := by rw [IntKind.wrap_u8]; omega
          have HK := hid (show 0 ≤ k ∧ k < 256 by omega)
          clear bad e eL hc hv hlen
          go_enter Try.func38, Try.ntmps38
          go_wp2_with fail
          have hb0 : Ob (w.alloc (.cells #[.int .u8 ((b.length : Int) % 256), .int .u8 ((b.length : Int) / 256 % 256), .int .u8 ((b.length : Int) / 65536 % 256), .int .u8 ((b.length : Int) / 16777216 % 256), .int .u8 k] 5)) w.heap.size (.slice (some ⟨w.heap.size, 0, none⟩) 5 5) (le4 b.length ++ [Go.Pm.byteOf k]) :=
            Bo.new w 5 (le4 b.length ++ [Go.Pm.byteOf k]) #[.int .u8 ((b.length : Int) % 256), .int .u8 ((b.length : Int) / 256 % 256), .int .u8 ((b.length : Int) / 65536 % 256), .int .u8 ((b.length : Int) / 16777216 % 256), .int .u8 k] (by simp [le4, u8v_byteOf, u8v_byteOf' HK.out.1 HK.out.2]) 5 rfl (by decide)
          have k0 : Kept None w (w.alloc (.cells #[.int .u8 ((b.length : Int) % 256), .int .u8 ((b.length : Int) / 256 % 256), .int .u8 ((b.length : Int) / 65536 % 256), .int .u8 ((b.length : Int) / 16777216 % 256), .int .u8 k] 5)) := (Kept.refl _ _).alloc _
          refine (HN.out _).mono ?_
          rintro e w2 ⟨v2, rfl, k2, b2⟩
          obtain ⟨a2, c2, rfl⟩ := b2.form
          have hb2 := hb0.kept k2 (fun _ _ h => h)
          have hu2 : Bs w2 0 w2.heap.size (.slice a2 (leB s).length c2) (leB s) := (b2.bs (Nat.le_refl _)).all
          have kk2 := k0.trans k2
          have hl2 : (le4 b.length ++ [Go.Pm.byteOf k]).length + (leB s).length ≤ 140737488355328 := by simp [le4, leB_length]
          have hz2 := kk2.size
          clear hb0 k0 k2 b2
          go_wp2_with (first | (refine wpList_append_bo rfl _ _ 22 rfl rtBytes rfl rfl hb2 hu2 hl2 hz2 ?_; intro a3 n3 c3 w3 hb3 hk3; have kk3 := Kept.own kk2 hk3 (fun g hg => (hb2.own g hg).1); have hu3 := HV.out.kept kk3 (fun _ _ _ h => h); have hl3 : ((le4 b.length ++ [Go.Pm.byteOf k]) ++ leB s).length + b.length ≤ 140737488355328 := (by have := HL.out; simp [le4, leB_length]; omega); have hz3 := kk3.size; clear hk3 hb2 hu2 hl2 hz2 kk2) | (refine wpList_append_bo rfl _ _ 22 rfl rtBytes rfl rfl hb3 hu3 hl3 hz3 ?_; intro a4 n4 c4 w4 hb4 hk4; have kk4 := Kept.own kk3 hk4 (fun g hg => (hb3.own g hg).1); have hu4 := HV.out.kept kk4 (fun _ _ _ h => h); clear hk4 hb3 hu3 hl3 hz3 kk3) | fail)
          refine (HM.out _ _ _ _ hu4).mono ?_
          rintro e w5 ⟨a5, c5, rfl, k5, b5⟩
          have hb5 := hb4.kept k5 (fun _ _ h => h)
          have kk5 := kk4.trans k5
          have hm8 : (markF k s b).length = 8 := by simp [markF, sumB_len]
          have hl5 : (((le4 b.length ++ [Go.Pm.byteOf k]) ++ leB s) ++ b).length + (markF k s b).length ≤ 140737488355328 := by have := HL.out; rw [hm8]; simp [le4, leB_length]; omega
          have hz5 := kk5.size
          clear hb4 kk4 k5 hu4 hm8
          go_wp2_with (first | (refine wpList_append_bo rfl _ _ 22 rfl rtBytes rfl rfl hb5 b5 hl5 hz5 ?_; intro a6 n6 c6 w6 hb6 hk6; have kk6 := Kept.own kk5 hk6 (fun g hg => (hb5.own g hg).1)) | fail)
          go_ret2
          exact ⟨_, rfl, kk6, hb6⟩
end R12
end Go.Proofs.Ytbebpnanhkcngaa
namespace Go.Proofs.Ytbebpnanhkcngaa
open Go.RowKit Go.Pm
namespace R12
theorem u64_in {x : Int} (h0 : 0 ≤ x) (h1 : x ≤ 1152921504606846976) : IntKind.u64.wrap x = x := by rw [IntKind.wrap_u64]; omega
set_option maxRecDepth 100000 in
set_option maxHeartbeats 4000000 in
theorem rput1 (s g cn : Int) (w : World) (h : rightJ ⟨1, s, g, cn, Req.none, 0, 0⟩ = true) :
    Calls Try.prog 23 #[(⟨1, s, g, cn, Req.none, 0, 0⟩ : Rec).V] w fun en w' => ∃ u, en = .returned (.tuple #[u, .int .i64 0]) ∧ Kept None w w' ∧ Ob w' w.heap.size u (putF 1 s (bodyJ ⟨1, s, g, cn, Req.none, 0, 0⟩)) := by
  have hl := bodyJ_len h
  have hs := ((rightJ_iff _).1 h).1
  obtain ⟨B, hB0⟩ : ∃ B, B = bodyJ ⟨1, s, g, cn, Req.none, 0, 0⟩ := ⟨_, rfl⟩
  have hBe : B = leB g ++ leB cn := hB0
  rw [← hB0] at hl ⊢
  have HP := hid (fun v lo hi W (hv : Bs W lo hi v B) => show Calls Try.prog 38 #[.int .i64 1, .int .i64 s, v] W fun e w' => ∃ u, e = .returned (.tuple #[u, .int .i64 0]) ∧ Kept None W w' ∧ Ob w' W.heap.size u (putF 1 s B) from by
    obtain ⟨e1, e2⟩ := Fm.putFL_ok (k := 1) (s := s) (b := B) (by decide) (by decide) hs.1 (by omega)
    have hp := put 1 s v lo hi B W hv (by have := hs.2; simp only at this; omega) (by omega)
    rw [e1, e2] at hp
    exact hp)
  obtain ⟨_, h1⟩ := (baseJ_iff _).1 (by unfold rightJ at h; simpa [pendJ, doneJ, seqJ, hs.1, hs.2] using h)
  have WG := hid (u64_in h1.1 h1.2.1)
  have WC := hid (u64_in h1.2.2.1 (Int.le_trans h1.2.2.2 (by decide)))
  have WG0 := hid (show 0 ≤ g ∧ g < 18446744073709551616 from ⟨h1.1, Int.lt_of_le_of_lt h1.2.1 (by decide)⟩)
  have WC0 := hid (show 0 ≤ cn ∧ cn < 18446744073709551616 from ⟨h1.2.2.1, Int.lt_of_le_of_lt h1.2.2.2 (by decide)⟩)
  clear h1
  have HBe := hid hBe
  clear hs hB0 hl hBe
  have HR := hid (fun W => right ⟨1, s, g, cn, Req.none, 0, 0⟩ W)
  rw [h] at HR
  have heq : (⟨1, s, g, cn, Req.none, 0, 0⟩ : Rec).V = .agg #[.int .i64 1, .int .i64 s, .int .i64 g, .int .i64 cn, .string ⟨#[]⟩, .int .i64 0, .int .u64 0, .int .i64 0, .int .u64 0, .int .u64 0, .int .i64 0, .int .i64 0] := rfl
  unfold Rec.V Rec.C at HR ⊢
  go_enter Try.func23, Try.ntmps23
  go_wp2_with fail
  refine (HR.out _).mono ?_
  rintro e1 w1 ⟨rfl, k1⟩
  have hB := ((Blk.new w #[.int .i64 1, .int .i64 s, .int .i64 g, .int .i64 cn, .string ⟨#[]⟩, .int .i64 0, .int .u64 0, .int .i64 0, .int .u64 0, .int .u64 0, .int .i64 0, .int .i64 0] 45)).kept k1 (fun h => h)
  have K1 := hid (show Kept None w w1 from ((Kept.refl _ _).alloc _).trans k1)
  have HC := hid (fun W (hW : Kept None w1 W) => (by
      have hb := hB.kept hW (fun h => h)
      exact ⟨hb.cell 0, hb.cell 1, hb.cell 2, hb.cell 3, hb.cell 4, hb.cell 5, hb.cell 6, hb.cell 7, hb.cell 8, hb.cell 9, hb.cell 10, hb.cell 11⟩ : W.cell? ⟨w.heap.size, 0, none⟩ = some (.int .i64 1) ∧ W.cell? ⟨w.heap.size, 1, none⟩ = some (.int .i64 s) ∧ W.cell? ⟨w.heap.size, 2, none⟩ = some (.int .i64 g) ∧ W.cell? ⟨w.heap.size, 3, none⟩ = some (.int .i64 cn) ∧ W.cell? ⟨w.heap.size, 4, none⟩ = some (.string ⟨#[]⟩) ∧ W.cell? ⟨w.heap.size, 5, none⟩ = some (.int .i64 0) ∧ W.cell? ⟨w.heap.size, 6, none⟩ = some (.int .u64 0) ∧ W.cell? ⟨w.heap.size, 7, none⟩ = some (.int .i64 0) ∧ W.cell? ⟨w.heap.size, 8, none⟩ = some (.int .u64 0) ∧ W.cell? ⟨w.heap.size, 9, none⟩ = some (.int .u64 0) ∧ W.cell? ⟨w.heap.size, 10, none⟩ = some (.int .i64 0) ∧ W.cell? ⟨w.heap.size, 11, none⟩ = some (.int .i64 0)))
  clear k1 hB heq HR
  obtain ⟨c0, c1, c2, c3, c4, c5, c6, c7, c8, c9, c10, c11⟩ := HC.out w1 (Kept.refl _ _)
  go_wp2_with fail
  clear c0 c1 c2 c3 c4 c5 c6 c7 c8 c9 c10 c11
  have hs : Steady [.own 5 3 (w1.heap.size) (leB g), .own 5 7 (w1.heap.size) (leB cn), .own 5 8 (w1.heap.size) B [3, 7] [3, 7]] := Steady.own (Steady.own (Steady.own (Steady.nil)))
  refine wp_region_kn w1 _ hs (Kept.refl _ _) (by kernel_rfl) (by kernel_rfl) (by kernel_rfl) ?_
  iterate 3 (refine wpPar_pure rfl (by rfl) _ (fun W hW => by
      obtain ⟨c0, c1, c2, c3, c4, c5, c6, c7, c8, c9, c10, c11⟩ := HC.out W hW
      go_simp
      exact rfl) ?_; simp only [Act.put, List.setIfInBounds_toArray, List.set_cons_zero, List.set_cons_succ])
  refine wpKn_adds hs rfl (by rfl) (fun W hW hd => ?_) (fun v3 hv => ?_)
  · unfold Gives
    go_simp
    rw [WG.out]
    refine gives_call (Ref.num g W WG0.out.1 WG0.out.2) ?_
    rintro e w3 ⟨u, rfl, k3, b3⟩
    exact ⟨_, rfl, k3, b3.form, b3.base hW.size⟩
  obtain ⟨a3, c3, rfl⟩ : ∃ a c, v3 = .slice a 8 c := hv
  simp only [Act.put, List.setIfInBounds_toArray, List.set_cons_zero, List.set_cons_succ]
  iterate 3 (refine wpPar_pure rfl (by rfl) _ (fun W hW => by
      obtain ⟨c0, c1, c2, c3, c4, c5, c6, c7, c8, c9, c10, c11⟩ := HC.out W hW
      go_simp
      exact rfl) ?_; simp only [Act.put, List.setIfInBounds_toArray, List.set_cons_zero, List.set_cons_succ])
  refine wpKn_adds hs rfl (by rfl) (fun W hW hd => ?_) (fun v7 hv => ?_)
  · unfold Gives
    go_simp
    rw [WC.out]
    refine gives_call (Ref.num cn W WC0.out.1 WC0.out.2) ?_
    rintro e w3 ⟨u, rfl, k3, b3⟩
    exact ⟨_, rfl, k3, b3.form, b3.base hW.size⟩
  obtain ⟨a7, c7, rfl⟩ : ∃ a c, v7 = .slice a 8 c := hv
  simp only [Act.put, List.setIfInBounds_toArray, List.set_cons_zero, List.set_cons_succ]
  refine wpPar_adds rfl (by rfl) (fun W hW hd => ?_) (fun v8 hv => ?_)
  · have h1 : Ob W w1.heap.size (.slice a3 8 c3) (leB g) := hd 3 (List.Mem.head _)
    have h2 : Ob W w1.heap.size (.slice a7 8 c7) (leB cn) := hd 7 (List.Mem.tail _ (List.Mem.head _))
    refine gives_append_bo _ _ 22 rfl rtBytes rfl rfl h1 (h2.bs (Nat.le_refl _)) (by simp [leB_length]) hW.size ?_
    intro a' n' c' W' h3 h4 _
    rw [← HBe.out] at h3
    refine ⟨Kept.own hW h4 (fun k hk => (h1.own k hk).1), h3.form, h3, keeps_of fun f hf hs _ hne u hfu => ?_⟩
    simp only [List.mem_cons, List.not_mem_nil, or_false] at hf
    rcases hf with rfl | rfl | rfl
    · exact absurd (List.Mem.head _) hs
    · exact absurd (List.Mem.tail _ (List.Mem.head _)) hs
    · exact absurd rfl hne
  obtain ⟨a8, c8, rfl⟩ : ∃ a c, v8 = .slice a B.length c := hv
  simp only [Act.put, List.setIfInBounds_toArray, List.set_cons_zero, List.set_cons_succ]
  iterate 1 (refine wpPar_pure rfl (by rfl) _ (fun W hW => by
      go_simp
      exact rfl) ?_; simp only [Act.put, List.setIfInBounds_toArray, List.set_cons_zero, List.set_cons_succ])
  refine wpPar_nil (fun W hW hG => ?_)
  have hb : Ob W w1.heap.size (.slice a8 B.length c8) B := hG 8
  have HB := hid (hb.bs (Nat.le_refl _))
  have KW := hid (K1.out.trans hW)
  have hW' : Kept None w1 W := hW
  obtain ⟨c0, c1, _⟩ := HC.out W hW'
  clear hG hs hW hb hW' HC
  go_wp2_with fail
  refine (HP.out _ _ _ _ HB.out).mono ?_
  rintro e2 w9 ⟨u9, rfl, k9, b9⟩
  have kk := KW.out.trans k9
  have hb9 := b9.base KW.out.size
  clear k9 b9
  go_wp2
  go_ret2
  exact ⟨_, rfl, kk, hb9⟩
set_option maxRecDepth 100000 in
set_option maxHeartbeats 4000000 in
theorem rput3 (s ep : Int) (w : World) (h : rightJ ⟨3, s, 0, 0, Req.none, 0, ep⟩ = true) :
    Calls Try.prog 23 #[(⟨3, s, 0, 0, Req.none, 0, ep⟩ : Rec).V] w fun en w' => ∃ u, en = .returned (.tuple #[u, .int .i64 0]) ∧ Kept None w w' ∧ Ob w' w.heap.size u (putF 3 s (bodyJ ⟨3, s, 0, 0, Req.none, 0, ep⟩)) := by
  have hl := bodyJ_len h
  have hs := ((rightJ_iff _).1 h).1
  obtain ⟨B, hB0⟩ : ∃ B, B = bodyJ ⟨3, s, 0, 0, Req.none, 0, ep⟩ := ⟨_, rfl⟩
  have hBe : B = leB ep := hB0
  rw [← hB0] at hl ⊢
  have HP := hid (fun v lo hi W (hv : Bs W lo hi v B) => show Calls Try.prog 38 #[.int .i64 3, .int .i64 s, v] W fun e w' => ∃ u, e = .returned (.tuple #[u, .int .i64 0]) ∧ Kept None W w' ∧ Ob w' W.heap.size u (putF 3 s B) from by
    obtain ⟨e1, e2⟩ := Fm.putFL_ok (k := 3) (s := s) (b := B) (by decide) (by decide) hs.1 (by omega)
    have hp := put 3 s v lo hi B W hv (by have := hs.2; simp only at this; omega) (by omega)
    rw [e1, e2] at hp
    exact hp)
  obtain ⟨_, h1⟩ := (doneJ_iff _).1 (by unfold rightJ at h; simpa [baseJ, pendJ, seqJ, hs.1, hs.2] using h)
  have we : IntKind.u64.wrap ep = ep := u64_in (Int.le_trans (by decide) h1.1) (Int.le_trans h1.2 (by decide))
  have HN := hid (fun W => Ref.num ep W (Int.le_trans (by decide) h1.1) (Int.lt_of_le_of_lt h1.2 (by decide)))
  rw [← hBe] at HN
  clear h1
  have HBe := hid hBe
  clear hs hB0 hl hBe
  have HR := hid (fun W => right ⟨3, s, 0, 0, Req.none, 0, ep⟩ W)
  rw [h] at HR
  have heq : (⟨3, s, 0, 0, Req.none, 0, ep⟩ : Rec).V = .agg #[.int .i64 3, .int .i64 s, .int .i64 0, .int .i64 0, .string ⟨#[]⟩, .int .i64 0, .int .u64 0, .int .i64 0, .int .u64 0, .int .u64 0, .int .i64 0, .int .i64 ep] := rfl
  unfold Rec.V Rec.C at HR ⊢
  go_enter Try.func23, Try.ntmps23
  go_wp2_with fail
  refine (HR.out _).mono ?_
  rintro e1 w1 ⟨rfl, k1⟩
  have hB := ((Blk.new w #[.int .i64 3, .int .i64 s, .int .i64 0, .int .i64 0, .string ⟨#[]⟩, .int .i64 0, .int .u64 0, .int .i64 0, .int .u64 0, .int .u64 0, .int .i64 0, .int .i64 ep] 45)).kept k1 (fun h => h)
  have K1 := hid (show Kept None w w1 from ((Kept.refl _ _).alloc _).trans k1)
  have HC := hid (fun W (hW : Kept None w1 W) => (by
      have hb := hB.kept hW (fun h => h)
      exact ⟨hb.cell 0, hb.cell 1, hb.cell 2, hb.cell 3, hb.cell 4, hb.cell 5, hb.cell 6, hb.cell 7, hb.cell 8, hb.cell 9, hb.cell 10, hb.cell 11⟩ : W.cell? ⟨w.heap.size, 0, none⟩ = some (.int .i64 3) ∧ W.cell? ⟨w.heap.size, 1, none⟩ = some (.int .i64 s) ∧ W.cell? ⟨w.heap.size, 2, none⟩ = some (.int .i64 0) ∧ W.cell? ⟨w.heap.size, 3, none⟩ = some (.int .i64 0) ∧ W.cell? ⟨w.heap.size, 4, none⟩ = some (.string ⟨#[]⟩) ∧ W.cell? ⟨w.heap.size, 5, none⟩ = some (.int .i64 0) ∧ W.cell? ⟨w.heap.size, 6, none⟩ = some (.int .u64 0) ∧ W.cell? ⟨w.heap.size, 7, none⟩ = some (.int .i64 0) ∧ W.cell? ⟨w.heap.size, 8, none⟩ = some (.int .u64 0) ∧ W.cell? ⟨w.heap.size, 9, none⟩ = some (.int .u64 0) ∧ W.cell? ⟨w.heap.size, 10, none⟩ = some (.int .i64 0) ∧ W.cell? ⟨w.heap.size, 11, none⟩ = some (.int .i64 ep)))
  clear k1 hB heq HR
  obtain ⟨c0, c1, c2, c3, c4, c5, c6, c7, c8, c9, c10, c11⟩ := HC.out w1 (Kept.refl _ _)
  go_wp2_with fail
  clear c0 c1 c2 c3 c4 c5 c6 c7 c8 c9 c10 c11
  refine (HN.out _).mono ?_
  rintro e1 w2 ⟨v2, rfl, k2, b2⟩
  obtain ⟨a2, c2, rfl⟩ := b2.form
  have KW := hid (K1.out.trans k2)
  have HB := hid (b2.bs (Nat.le_refl _))
  obtain ⟨c0, c1, _⟩ := HC.out w2 k2
  clear k2 b2 HC
  go_wp2_with fail
  refine (HP.out _ _ _ _ HB.out).mono ?_
  rintro e2 w9 ⟨u9, rfl, k9, b9⟩
  have kk := KW.out.trans k9
  have hb9 := b9.base KW.out.size
  clear k9 b9
  go_wp2
  go_ret2
  exact ⟨_, rfl, kk, hb9⟩
set_option maxRecDepth 100000 in
set_option maxHeartbeats 4000000 in
theorem rput2 (s t : Int) (n : ByteArray) (v cl : Int) (k rr ss : Nat) (hrr : rr < 18446744073709551616) (hss : ss < 18446744073709551616) (w : World) (h : rightJ ⟨2, s, 0, 0, ⟨n, v, k, cl, rr, ss⟩, t, 0⟩ = true) :
    Calls Try.prog 23 #[(⟨2, s, 0, 0, ⟨n, v, k, cl, rr, ss⟩, t, 0⟩ : Rec).V] w fun en w' => ∃ u, en = .returned (.tuple #[u, .int .i64 0]) ∧ Kept None w w' ∧ Ob w' w.heap.size u (putF 2 s (bodyJ ⟨2, s, 0, 0, ⟨n, v, k, cl, rr, ss⟩, t, 0⟩)) := by
  have hl := bodyJ_len h
  have hs := ((rightJ_iff _).1 h).1
  obtain ⟨B, hB0⟩ : ∃ B, B = bodyJ ⟨2, s, 0, 0, ⟨n, v, k, cl, rr, ss⟩, t, 0⟩ := ⟨_, rfl⟩
  have hBe : B = leB t ++ putB n v k cl rr ss := hB0
  rw [← hB0] at hl ⊢
  have HP := hid (fun v lo hi W (hv : Bs W lo hi v B) => show Calls Try.prog 38 #[.int .i64 2, .int .i64 s, v] W fun e w' => ∃ u, e = .returned (.tuple #[u, .int .i64 0]) ∧ Kept None W w' ∧ Ob w' W.heap.size u (putF 2 s B) from by
    obtain ⟨e1, e2⟩ := Fm.putFL_ok (k := 2) (s := s) (b := B) (by decide) (by decide) hs.1 (by omega)
    have hp := put 2 s v lo hi B W hv (by have := hs.2; simp only at this; omega) (by omega)
    rw [e1, e2] at hp
    exact hp)
  obtain ⟨_, h1⟩ := (pendJ_iff _).1 (by unfold rightJ at h; simpa [baseJ, doneJ, seqJ, hs.1, hs.2] using h)
  have hr : rightB n.size v k cl = true := h1.1
  have hi := ((rightB_iff _ _ _ _).1 hr).1
  have wt : IntKind.u64.wrap t = t := u64_in h1.2.1 h1.2.2
  have HN := hid (fun W => Ref.num t W h1.2.1 (Int.lt_of_le_of_lt h1.2.2 (by decide)))
  have HU := hid (fun W => RUp.put_yes n v cl k rr ss W hr (by omega) (Nat.lt_trans hi.2.2.2.2.2 (by decide)) hrr hss)
  have hul : (putB n v k cl rr ss).length = 48 + n.size := putB_len _ _ _ _ _ _
  have HUL := hid (show (putB n v k cl rr ss).length ≤ 80 by omega)
  obtain ⟨UB, hUB⟩ : ∃ UB, UB = putB n v k cl rr ss := ⟨_, rfl⟩
  rw [← hUB] at HU HUL hBe
  clear h1 hr hi hrr hss hul hUB
  have HBe := hid hBe
  clear hs hB0 hl hBe
  have HR := hid (fun W => right ⟨2, s, 0, 0, ⟨n, v, k, cl, rr, ss⟩, t, 0⟩ W)
  rw [h] at HR
  have heq : (⟨2, s, 0, 0, ⟨n, v, k, cl, rr, ss⟩, t, 0⟩ : Rec).V = .agg #[.int .i64 2, .int .i64 s, .int .i64 0, .int .i64 0, .string n, .int .i64 v, .int .u64 (k : Int), .int .i64 cl, .int .u64 (rr : Int), .int .u64 (ss : Int), .int .i64 t, .int .i64 0] := rfl
  unfold Rec.V Rec.C at HR ⊢
  go_enter Try.func23, Try.ntmps23
  go_wp2_with fail
  refine (HR.out _).mono ?_
  rintro e1 w1 ⟨rfl, k1⟩
  have hB := ((Blk.new w #[.int .i64 2, .int .i64 s, .int .i64 0, .int .i64 0, .string n, .int .i64 v, .int .u64 (k : Int), .int .i64 cl, .int .u64 (rr : Int), .int .u64 (ss : Int), .int .i64 t, .int .i64 0] 45)).kept k1 (fun h => h)
  have K1 := hid (show Kept None w w1 from ((Kept.refl _ _).alloc _).trans k1)
  have HC := hid (fun W (hW : Kept None w1 W) => (by
      have hb := hB.kept hW (fun h => h)
      exact ⟨hb.cell 0, hb.cell 1, hb.cell 2, hb.cell 3, hb.cell 4, hb.cell 5, hb.cell 6, hb.cell 7, hb.cell 8, hb.cell 9, hb.cell 10, hb.cell 11⟩ : W.cell? ⟨w.heap.size, 0, none⟩ = some (.int .i64 2) ∧ W.cell? ⟨w.heap.size, 1, none⟩ = some (.int .i64 s) ∧ W.cell? ⟨w.heap.size, 2, none⟩ = some (.int .i64 0) ∧ W.cell? ⟨w.heap.size, 3, none⟩ = some (.int .i64 0) ∧ W.cell? ⟨w.heap.size, 4, none⟩ = some (.string n) ∧ W.cell? ⟨w.heap.size, 5, none⟩ = some (.int .i64 v) ∧ W.cell? ⟨w.heap.size, 6, none⟩ = some (.int .u64 (k : Int)) ∧ W.cell? ⟨w.heap.size, 7, none⟩ = some (.int .i64 cl) ∧ W.cell? ⟨w.heap.size, 8, none⟩ = some (.int .u64 (rr : Int)) ∧ W.cell? ⟨w.heap.size, 9, none⟩ = some (.int .u64 (ss : Int)) ∧ W.cell? ⟨w.heap.size, 10, none⟩ = some (.int .i64 t) ∧ W.cell? ⟨w.heap.size, 11, none⟩ = some (.int .i64 0)))
  clear k1 hB heq HR
  obtain ⟨c0, c1, c2, c3, c4, c5, c6, c7, c8, c9, c10, c11⟩ := HC.out w1 (Kept.refl _ _)
  go_wp2_with fail
  clear c0 c1 c2 c3 c4 c5 c6 c7 c8 c9 c10 c11
  refine (HU.out _).mono ?_
  rintro e1 w2 ⟨v2, rfl, k2, b2⟩
  obtain ⟨a2, c2, rfl⟩ := b2.form
  have K2 := hid k2
  have B2 := hid (b2.bs (Nat.le_refl _)).all
  have c10 := (HC.out w2 k2).2.2.2.2.2.2.2.2.2.2.1
  clear k2 b2
  go_wp2_with fail
  clear c10
  refine (HN.out _).mono ?_
  rintro e1 w3 ⟨v3, rfl, k3, b3⟩
  obtain ⟨a3, c3, rfl⟩ := b3.form
  have K3 := hid (K2.out.trans k3)
  have hu := (B2.out.kept k3 (fun _ _ _ h => h)).all
  have hln : (leB t).length + UB.length ≤ 140737488355328 := by have := HUL.out; rw [leB_length]; omega
  have hsz := k3.size
  clear k3
  obtain ⟨c0, c1, _⟩ := HC.out w3 K3.out
  go_upto_region 11 with (first | (refine wpList_append_bo rfl _ _ 22 rfl rtBytes rfl rfl b3 hu hln hsz ?_; intro a4 n4 c4 w4 hB4 hK4) | fail)
  have k4 := K3.out.then hK4 (fun q hq h => Nat.lt_irrefl _ (Nat.lt_of_lt_of_le hq (Nat.le_trans K2.out.size (b3.own q h).1)))
  have KW := hid (K1.out.trans k4)
  rw [← HBe.out] at hB4
  have HB := hid (hB4.bs (Nat.le_refl _))
  obtain ⟨_, _, hfm⟩ := hB4.form
  obtain rfl : n4 = B.length := by injection hfm
  obtain ⟨d0, d1, _⟩ := HC.out w4 k4
  clear hB4 hK4 k4 b3 hu hln hsz c0 c1 HC hfm
  go_wp2_with fail
  refine (HP.out _ _ _ _ HB.out).mono ?_
  rintro e2 w9 ⟨u9, rfl, k9, b9⟩
  have kk := KW.out.trans k9
  have hb9 := b9.base KW.out.size
  clear k9 b9
  go_wp2
  go_ret2
  exact ⟨_, rfl, kk, hb9⟩
set_option maxRecDepth 100000 in
set_option maxHeartbeats 4000000 in
theorem rput (r : Rec) (w : World) (hf : r.u.r < 18446744073709551616 ∧ r.u.s < 18446744073709551616) :
    Calls Try.prog 23 #[r.V] w fun e w' => ∃ u, e = .returned (.tuple #[u, .int .i64 (putJE r)]) ∧ Kept None w w' ∧ Ob w' w.heap.size u (putJL r) := by
  by_cases h : rightJ r = true
  · have e1 : putJE r = 0 := by unfold putJE; rw [if_pos h]
    have e2 : putJL r = putF r.kind r.seq (bodyJ r) := by unfold putJL; rw [if_pos h]
    rw [e1, e2]
    obtain ⟨kd, s, g, c, ⟨n, v, k, cl, rr, ss⟩, t, e⟩ := r
    rcases ((rightJ_iff _).1 h).2 with ⟨h1, _⟩ | ⟨h1, _⟩ | ⟨h1, _⟩
    · simp only [Rec.mk.injEq] at h1
      obtain ⟨rfl, _, _, _, h2, rfl, rfl⟩ := h1
      rw [h2] at h ⊢
      exact rput1 s g c w h
    · simp only [Rec.mk.injEq] at h1
      obtain ⟨rfl, _, rfl, rfl, _, _, rfl⟩ := h1
      exact rput2 s t n v cl k rr ss hf.1 hf.2 w h
    · simp only [Rec.mk.injEq] at h1
      obtain ⟨rfl, _, rfl, rfl, h2, rfl, _⟩ := h1
      rw [h2] at h ⊢
      exact rput3 s e w h
  · have h : rightJ r = false := by simpa using h
    have e1 : putJE r = 23 := by unfold putJE; rw [h]; rfl
    have e2 : putJL r = [] := by unfold putJL; rw [h]; rfl
    rw [e1, e2]
    obtain ⟨kd, s, g, c, ⟨n, v, k, cl, rr, ss⟩, t, e⟩ := r
    have HR := hid (fun W => right ⟨kd, s, g, c, ⟨n, v, k, cl, rr, ss⟩, t, e⟩ W)
    rw [h] at HR
    unfold Rec.V Rec.C at HR ⊢
    clear h e1 e2 hf
    go_enter Try.func23, Try.ntmps23
    go_wp2_with fail
    refine (HR.out _).mono ?_
    rintro e1 w1 ⟨rfl, k1⟩
    have kk : Kept None w w1 := ((Kept.refl _ _).alloc _).trans k1
    clear k1
    go_wp2
    go_ret2
    exact ⟨_, rfl, kk, Bo.nil _ _ _⟩
end R12
end Go.Proofs.Ytbebpnanhkcngaa
namespace Go.Pm
open Go Go.RowKit
/-- What a Put tells: a row and a number. -/
abbrev Fct.putE (k : Nat) (l : List UInt8) (E : Int) (uses : List Nat := []) : Fct := { k := k, uses := uses, pure := fun u => ∃ a c, u = .tuple #[.slice a l.length c, .int .i64 E], fact := fun u W => ∃ a c, u = .tuple #[.slice a l.length c, .int .i64 E] ∧ ∃ lo hi, Bs W lo hi (.slice a l.length c) l }
theorem Steady.putE {l : List Fct} {k : Nat} {us : List Nat} {m : List UInt8} {E : Int} (h : Steady l) : Steady (.putE k m E us :: l) := .cons ⟨_, none, 0, rfl⟩ (fun _ _ _ hk ⟨a, c, h1, lo, hi, h2⟩ => ⟨a, c, h1, lo, hi, h2.kept hk (fun _ _ _ h => h)⟩) h
theorem wrapS {s : Int} {i : Nat} (h0 : 0 ≤ s) (h1 : s ≤ 1152921504606846976) (hi : i ≤ 1000) : IntKind.i64.wrap (s + 1) = s + 1 ∧ IntKind.i64.wrap (s + 1 + (i : Int)) = s + 1 + (i : Int) := by
  rw [IntKind.wrap_i64, IntKind.wrap_i64]
  omega
end Go.Pm
namespace Go.Proofs.Ytbebpnanhkcngaa
open Go.RowKit Go.Pm
namespace R12
set_option maxRecDepth 100000 in
set_option maxHeartbeats 8000000 in
theorem base (gen s : Int) (v : Value) (lo hi : Nat) (l : List Pn) (w : World) (hv : Ps 9 w lo hi v (pensC l)) (hf : PnFits l) :
    Calls Try.prog 19 #[.int .i64 gen, .int .i64 s, v] w fun en w' => ∃ u, en = .returned u ∧ Kept None w w' ∧ Ob w' w.heap.size u (baseF gen s l) := by
  obtain ⟨av, nv, cv, rfl, hnv⟩ : ∃ a n c, v = .slice a n c ∧ n = l.length := by
    obtain ⟨a, c, h, _⟩ := hv.form
    rw [pensC_len] at h
    exact ⟨a, _, c, h, rfl⟩
  subst hnv
  have HP0 := hid (fun W => rput (recB gen s l.length) W (by show (0 : Nat) < 18446744073709551616 ∧ (0 : Nat) < 18446744073709551616; decide))
  have HV := hid hv
  clear hv
  by_cases hr : rightJ (recB gen s l.length) = true
  · have hb := recB_right hr
    have e0 : putJE (recB gen s l.length) = 0 := by unfold putJE; rw [if_pos hr]
    have hl0 := putJL_len (recB gen s l.length)
    rw [e0] at HP0
    obtain ⟨T0, hT0⟩ : ∃ T0, T0 = putJL (recB gen s l.length) := ⟨_, rfl⟩
    rw [← hT0] at HP0 hl0
    have HB := hid hb
    have HR := hid (And.intro hr hT0)
    have HL0 := hid hl0
    unfold recB Rec.V Rec.C at HP0
    clear hr hb e0 hl0 hT0
    go_enter Try.func19, Try.ntmps19
    go_wp2_with fail
    refine (HP0.out _).mono ?_
    rintro e1 w1 ⟨u1, rfl, k1, b1⟩
    obtain ⟨a1, c1, rfl⟩ := b1.form
    have K1 := hid k1
    have B1 := hid b1
    clear k1 b1 HP0
    go_wp2_with fail
    go_loopg [7, 9] l.length (fun kx s7 s9 wr => ∃ (i : Nat) (a7 : Option Addr) (n7 c7 : Nat), s7 = .slice a7 n7 c7 ∧ s9 = .int .i64 (i : Int) ∧ i ≤ l.length ∧ l.length - i ≤ kx ∧ Hid (allR (recsP s 0 (l.take i)) = true) ∧ Hid (Kept None w wr) ∧ Hid (Ob wr w.heap.size (.slice a7 n7 c7) (T0 ++ joinR (recsP s 0 (l.take i)))))
    case atStart => exact ⟨0, a1, _, c1, rfl, rfl, Nat.zero_le _, Nat.le_refl _, hid rfl, K1, hid (by simpa [recsP, joinR] using B1.out)⟩
    case round =>
    obtain ⟨i, a7, n7, c7, rfl, rfl, hi, hix, HAl, HS, HO⟩ := hrel
    by_cases hlt : i < l.length
    · have hlt' : decide ((i : Int) < (l.length : Int)) = true := by simpa using hlt
      obtain ⟨b, o, rfl, hbs, hcell⟩ := (HV.out.kept HS.out (fun _ _ _ h => h)).pen (by omega)
      obtain ⟨_, h1, h2, _, _⟩ := hcell i hlt
      have hlb : (i : Int) < (l.length : Int) := Int.ofNat_lt.mpr hlt
      obtain ⟨x, hx⟩ : ∃ x, x = l[i] := ⟨_, rfl⟩
      rw [← hx] at h1 h2
      have HC1 := hid (fun W (hW : Kept None wr W) => rangeAt_kept h1 hW)
      have HC2 := hid (fun W (hW : Kept None wr W) => show W.cell? ⟨b, o + i * 9 + 6, none⟩ = some (.int .i64 x.tick) from (hW.cell (p := ⟨b, o + i * 9 + 6, none⟩) hbs (fun h => h)).trans h2)
      have HQ := hid (wrapS (s := s) (i := i) HB.out.1 HB.out.2.1 (by have := HB.out.2.2; omega))
      have hfx := hf x (by rw [hx]; exact List.getElem_mem _)
      have HP := hid (fun W => rput (recP s i x) W hfx)
      obtain ⟨T, hT⟩ : ∃ T, T = putJL (recP s i x) := ⟨_, rfl⟩
      obtain ⟨E, hE⟩ : ∃ E, E = putJE (recP s i x) := ⟨_, rfl⟩
      have hTl := putJL_len (recP s i x)
      rw [← hT] at HP hTl
      rw [← hE] at HP
      have HT := hid (And.intro hT hTl)
      have HX := hid hx
      have HE := hid hE
      clear hcell h1 h2 hx hT hTl hfx hE hbs
      go_wp2_with fail
      have hs : Steady [.putE 15 T E] := Go.Pm.Steady.putE (Go.Pm.Steady.nil)
      refine wp_region_kn wr _ hs (Kept.refl _ _) (by kernel_rfl) (by kernel_rfl) (by kernel_rfl) ?_
      iterate 15 (refine wpPar_pure rfl (by rfl) _ (fun W hW => by
          have ct := HC2.out W hW
          have q1 := HQ.out.1
          have q2 := HQ.out.2
          first | exact exec_load_at rfl rfl (HC1.out W hW) Up.aUpd | (go_simp; exact rfl)) ?_; simp only [Act.put, List.setIfInBounds_toArray, List.set_cons_zero, List.set_cons_succ])
      refine wpKn_adds hs rfl (by rfl) (fun W hW hd => ?_) (fun v15 hv => ?_)
      · unfold Gives
        go_simp
        refine gives_call (HP.out W) ?_
        rintro e w3 ⟨u, rfl, k3, b3⟩
        obtain ⟨a, c, rfl⟩ := b3.form
        exact ⟨_, rfl, k3, ⟨a, c, rfl⟩, a, c, rfl, _, _, b3.bs (Nat.le_refl _)⟩
      obtain ⟨a9, c9, rfl⟩ : ∃ a c, v15 = .tuple #[.slice a T.length c, .int .i64 E] := hv
      simp only [Act.put, List.setIfInBounds_toArray, List.set_cons_zero, List.set_cons_succ]
      iterate 5 (refine wpPar_pure rfl (by rfl) _ (fun W hW => by
          have ct := HC2.out W hW
          have q1 := HQ.out.1
          have q2 := HQ.out.2
          first | exact exec_load_at rfl rfl (HC1.out W hW) Up.aUpd | (go_simp; exact rfl)) ?_; simp only [Act.put, List.setIfInBounds_toArray, List.set_cons_zero, List.set_cons_succ])
      refine wpPar_nil (fun W2 hW2 hGG => ?_)
      obtain ⟨a, c, he, lu, hu', hu⟩ : ∃ a c, Value.tuple #[.slice a9 T.length c9, .int .i64 E] = .tuple #[.slice a T.length c, .int .i64 E] ∧ ∃ lo hi, Bs W2 lo hi (.slice a T.length c) T := hGG 15
      obtain ⟨rfl, rfl⟩ : a9 = a ∧ c9 = c := by simpa using he
      have hW2' : Kept None wr W2 := hW2
      have K2 := hid (HS.out.trans hW2')
      have HU := hid hu.all
      have HO2 := hid (HO.out.kept hW2' (fun _ _ h => h))
      clear hGG he hs hW2 hW2' hu
      by_cases hrx : rightJ (recP s i x) = true
      · have eE : E = 0 := by rw [HE.out]; unfold putJE; rw [if_pos hrx]
        subst eE
        have HRX := hid hrx
        have hb := HO2.out
        have hu := HU.out
        have hln : (T0 ++ joinR (recsP s 0 (l.take i))).length + T.length ≤ 140737488355328 := by
          have h1 := joinR_len (recsP s 0 (l.take i))
          rw [recsP_len, List.length_take] at h1
          have h2 := HL0.out
          have h3 := HT.out.2
          have h4 := HB.out.2.2
          rw [List.length_append]
          omega
        have hsz := K2.out.size
        clear hrx
        go_wp2_with (first | (refine wpList_append_bo rfl _ _ 22 rfl rtBytes rfl rfl hb hu hln hsz ?_; intro a8 n8 c8 w8 hB8 hK8) | fail)
        have HK8 := hid (K2.out.then hK8 (fun q hq h => Nat.lt_irrefl _ (Nat.lt_of_lt_of_le hq (hb.own q h).1)))
        have hB9 : Ob w8 w.heap.size (.slice a8 n8 c8) (T0 ++ joinR (recsP s 0 (l.take (i + 1)))) := by
          rw [recsP_take s l i hlt, joinR_app, ← List.append_assoc, ← HX.out]
          have e : joinR [recP s i x] = T := by rw [HT.out.1]; simp [joinR]
          rw [e]
          exact hB8
        have HB9 := hid hB9
        have HA9 : Hid (allR (recsP s 0 (l.take (i + 1))) = true) := hid (by
          rw [recsP_take s l i hlt, allR_app, HAl.out, ← HX.out]
          simp [allR, HRX.out])
        clear hb hu hln hsz hB8 hK8 hB9
        go_wp2
        go_roundg (l.length - (i + 1))
        case measure => omega
        case rel => exact ⟨i + 1, a8, n8, c8, rfl, by rw [show wrap64 ((i : Int) + 1) = ((i + 1 : Nat) : Int) by have := HB.out.2.2; unfold wrap64; omega], hlt, Nat.le_refl _, HA9, HK8, HB9⟩
      · have eE : E = 23 := by rw [HE.out]; unfold putJE; rw [if_neg hrx]
        subst eE
        have hfin : baseF gen s l = [] := by
          unfold baseF
          rw [allR_take hlt (by rw [← HX.out]; simpa using hrx), Bool.and_false]
          rfl
        have HFin := hid hfin
        clear hrx hfin
        go_wp2
        go_ret
        rw [HFin.out]
        exact ⟨_, rfl, K2.out, Bo.nil _ _ _⟩
    · have hlt' : decide ((i : Int) < (l.length : Int)) = false := by simpa using hlt
      obtain rfl : i = l.length := by omega
      have hfin : baseF gen s l = T0 ++ joinR (recsP s 0 l) := by
        have h := HAl.out
        rw [List.take_length] at h
        unfold baseF
        rw [HR.out.1, h, HR.out.2]
        rfl
      have ho := HO.out
      rw [List.take_length, ← hfin] at ho
      have HO2 := hid ho
      clear hlt hi hix hfin ho HO
      go_wp2
      go_ret
      exact ⟨_, rfl, HS.out, HO2.out⟩
  · have e0 : putJE (recB gen s l.length) = 23 := by unfold putJE; rw [if_neg hr]
    have e1 : baseF gen s l = [] := by
      unfold baseF
      rw [show rightJ (recB gen s l.length) = false by simpa using hr]
      rfl
    rw [e0] at HP0
    rw [e1]
    unfold recB Rec.V Rec.C at HP0
    clear hr e0 e1
    go_enter Try.func19, Try.ntmps19
    go_wp2_with fail
    refine (HP0.out _).mono ?_
    rintro e1 w1 ⟨u1, rfl, k1, b1⟩
    obtain ⟨a1, c1, rfl⟩ := b1.form
    clear b1 HP0
    go_wp2
    go_ret
    exact ⟨_, rfl, k1, Bo.nil _ _ _⟩
end R12
end Go.Proofs.Ytbebpnanhkcngaa
namespace Go.Proofs.Ytbebpnanhkcngaa
open Go.RowKit Go.Pm
namespace P15
open Sn
theorem tInt15 : Try.prog.underlying 3 = some (.int .i64) := by kernel_rfl
set_option maxRecDepth 100000 in
set_option maxHeartbeats 4000000 in
theorem known (hR : RecordsC) (hW : WholeC) (hC : ChooseC) (w : World) : Calls Try.prog 8 #[] w fun e w' => e = .returned (.bool true) ∧ Kept None w w' := by
  have e0 : rightJ (recB 3 5 ([] : List Pn).length) = true := by decide
  have e1 : allR (recsP 5 0 []) = true := rfl
  have hf0 : PnFits [] := fun x hx => by cases hx
  have hlen : (baseF 3 5 []).length = 37 := by
    rw [baseF_yes e0 e1, List.length_append, putJ_len e0]
    rfl
  have hb1 := R12.base 3 5 (.slice none 0 0) 0 0 [] w (Ps.nil _ _ _ _) hf0
  have hz : bAt (zerosB 50) 4 = 0 := rfl
  have hs := scan_base2 (zerosB 50) e0 e1 hf0
  rw [(scan_zero hz).1, (scan_zero hz).2, hlen] at hs
  have hs1 : scanR none (baseF 3 5 [] ++ zerosB 50) = [recB 3 5 0] := hs.1
  have hs2 : scanC none (baseF 3 5 [] ++ zerosB 50) = 37 := hs.2
  have hwh : wholeF [recB 3 5 0] = ⟨3, [], true⟩ := by rw [wholeF_cons, if_pos (by decide)]; rfl
  have hn : (wholeF (scanR none [])).ok = false := by rw [(scan_nil none).1]; rfl
  have hy := whole_base0 e0 e1 hf0
  have hc1 := choose_no hn hy.1
  have hc2 := choose_none hn hn
  have hfit : ∀ r ∈ [recB 3 5 0], r.Fits := fun r hr => by
    rw [List.mem_singleton.1 hr]
    exact right_fits e0 ⟨by show (0 : Nat) < _; decide, by show (0 : Nat) < _; decide⟩
  obtain ⟨B, hB⟩ : ∃ b, b = baseF 3 5 [] := ⟨_, rfl⟩
  rw [← hB] at hb1 hs1 hs2 hc1 hlen
  have HR := hid (fun (W : World) (v : Value) (lo hi : Nat) (h : Bs W lo hi v (B ++ zerosB 50)) => show Calls Try.prog 10 #[v] W fun e w' => ∃ u, e = .returned (.tuple #[u, .int .i64 37]) ∧ Kept None W w' ∧ Ps 12 w' 0 w'.heap.size u (recsC [recB 3 5 0]) from by
    have h1 := hR v lo hi _ W h (by rw [List.length_append, hlen]; show 37 + 50 ≤ _; decide)
    rw [hs1, hs2] at h1
    exact h1)
  have HW := hid (fun (W : World) (v : Value) (lo hi : Nat) (h : Ps 12 W lo hi v (recsC [recB 3 5 0])) => show Calls Try.prog 13 #[v] W fun e w' => ∃ u, e = .returned (.tuple #[.int .i64 3, u, .bool true]) ∧ Kept None W w' ∧ Ps 9 w' 0 w'.heap.size u (pensC []) from by
    have h1 := hW v lo hi _ W h hfit (by decide)
    rw [hwh] at h1
    exact h1)
  have HC1 := hid (fun (W : World) (v : Value) (lo hi : Nat) (h : Bs W lo hi v B) => show Calls Try.prog 16 #[.slice none 0 0, v] W fun e w' => e = .returned (.tuple #[.int .i64 1, .bool true]) ∧ Kept None W w' from by
    have h1 := hC (.slice none 0 0) v 0 0 lo hi [] B W (Bs.nil _ _ _) h (by decide) (by rw [hlen]; decide)
    rw [hc1] at h1
    exact h1)
  have HC2 := hid (fun (W : World) => show Calls Try.prog 16 #[.slice none 0 0, .slice none 0 0] W fun e w' => e = .returned (.tuple #[.int .i64 0, .bool false]) ∧ Kept None W w' from by
    have h1 := hC (.slice none 0 0) (.slice none 0 0) 0 0 0 0 [] [] W (Bs.nil _ _ _) (Bs.nil _ _ _) (by decide) (by decide)
    rw [hc2] at h1
    exact h1)
  have HB1 := hid hb1
  have HLN := hid hlen
  clear e0 e1 hf0 hb1 hz hs hs1 hs2 hwh hn hy hc1 hc2 hfit hB hlen hR hW hC
  go_enter Try.func8, Try.ntmps8
  go_wp2_with fail
  refine HB1.out.mono ?_
  rintro e w1 ⟨u1, rfl, k1, b1⟩
  obtain ⟨a1, c1, rfl⟩ := b1.form
  have K1 := hid k1
  have BB := hid (b1.bs (Nat.le_refl _)).all
  clear k1 b1 HB1
  have hn : Ob w1 w1.heap.size (.slice none 0 0) [] := Bo.nil _ _ _
  have hu : Bs w1 0 w1.heap.size (.slice a1 B.length c1) B := BB.out
  have hln : ([] : List UInt8).length + B.length ≤ 140737488355328 := by rw [HLN.out]; decide
  go_wp2_with (first | (at_builtin; refine wpList_append_zeros (P := Try.prog) (w := w2) (kq := .i64) (kn := .i64) (e := 5) (v := .slice a2 n2 c2) (l := [] ++ B) (base := w1.heap.size) rfl (.tmp 14) (.const (.int .i64 50)) 22 3 rfl rtBytes tInt15 rfl hB2 hl2 50 rfl (by decide) hz2 hs2 ?_; intro a3 n3 c3 w3 hB3 hK3) | (refine wpList_append_bo rfl _ _ 22 rfl rtBytes rfl rfl hn hu hln (Nat.le_refl _) ?_; intro a2 n2 c2 w2 hB2 hK2; have hl2 : 0 < (([] : List UInt8) ++ B).length := (by rw [List.nil_append, HLN.out]; decide); have hz2 : (([] : List UInt8) ++ B).length + 50 ≤ 140737488355328 := (by rw [List.nil_append, HLN.out]; decide); have hs2 := hK2.size) | fail)
  rw [List.nil_append] at hB3
  have k13 : Kept None w1 w3 := (hK2.mono (fun k _ h => by cases h)).then hK3 (fun k hk h => by have := (hB2.own k h).1; omega)
  have HU3 := hid (hB3.bs (Nat.le_refl _))
  have K3 := hid (K1.out.trans k13)
  have BB3 := hid (BB.out.kept k13 (fun _ _ _ h => h))
  clear hn hu hln hB2 hK2 hl2 hz2 hs2 hB3 hK3 k13 BB K1
  refine (HR.out _ _ _ _ HU3.out).mono ?_
  rintro e w4 ⟨u4, rfl, k4, p4⟩
  obtain ⟨a4, c4, hu4, _⟩ := p4.form
  have hu4 : u4 = .slice a4 1 c4 := hu4
  subst hu4
  have K4 := hid (K3.out.trans k4)
  have P4 := hid p4
  have BB4 := hid (BB3.out.kept k4 (fun _ _ _ h => h))
  clear k4 p4 HR HU3 K3 BB3
  go_wp2_with fail
  refine (HW.out _ _ _ _ P4.out).mono ?_
  rintro e w5 ⟨u5, rfl, k5, p5⟩
  obtain ⟨a5, c5, hu5, _⟩ := p5.form
  have hu5 : u5 = .slice a5 0 c5 := hu5
  subst hu5
  have K5 := hid (K4.out.trans k5)
  have BB5 := hid (BB4.out.kept k5 (fun _ _ _ h => h))
  clear k5 p5 HW P4 K4 BB4
  go_wp2_with fail
  refine (HC1.out _ _ _ _ BB5.out).mono ?_
  rintro e w6 ⟨rfl, k6⟩
  have K6 := hid (K5.out.trans k6)
  clear k6 HC1 K5 BB5
  go_wp2_with fail
  refine (HC2.out _).mono ?_
  rintro e w7 ⟨rfl, k7⟩
  have K7 := hid (K6.out.trans k7)
  have d1 : ((37 : Int) == (B.length : Int)) = true := by rw [HLN.out]; rfl
  have d2 : (37 == B.length) = true := by rw [HLN.out]; rfl
  have d3 := HLN.out
  clear k7 HC2 K6
  go_wp2_with (first | go_skip | fail)
  go_ret
  exact ⟨rfl, K7.out⟩
end P15
end Go.Proofs.Ytbebpnanhkcngaa
namespace Go.Pm
open Go Go.RowKit

structure Ent where
  n : ByteArray
  v : Int
  k : Nat
def Ent.none : Ent := ⟨⟨#[]⟩, 0, 0⟩
structure Kno where
  e : Ent
  p : Int
def Kno.none : Kno := ⟨Ent.none, 0⟩
abbrev entC (x : Ent) : List Value := [.string x.n, .int .i64 x.v, .int .u64 (x.k : Int)]
abbrev knoC (x : Kno) : List Value := [.string x.e.n, .int .i64 x.e.v, .int .u64 (x.e.k : Int), .int .i64 x.p]
abbrev Ent.V (x : Ent) : Value := .agg (entC x).toArray
abbrev Kno.V (x : Kno) : Value := .agg (knoC x).toArray
def entsC (l : List Ent) : List (List Value) := l.map entC
def knosC (l : List Kno) : List (List Value) := l.map knoC
/-- Its name is a string that a machine may have, its key a word. -/
def Ent.Ok (x : Ent) : Prop := x.n.size ≤ 274877906944 ∧ x.k < 18446744073709551616
def EOk (l : List Ent) : Prop := ∀ x ∈ l, x.Ok
def KOk (l : List Kno) : Prop := ∀ x ∈ l, x.e.Ok
theorem entsC_each (l : List Ent) : Each 3 (entsC l) := fun x hx => by
  obtain ⟨y, _, rfl⟩ := List.mem_map.1 hx
  rfl
theorem knosC_each (l : List Kno) : Each 4 (knosC l) := fun x hx => by
  obtain ⟨y, _, rfl⟩ := List.mem_map.1 hx
  rfl
theorem entC_one (x : Ent) : ∀ c ∈ entC x, c.oneCell' = true := by
  intro c hc
  simp only [entC, List.mem_cons, List.not_mem_nil, or_false] at hc
  rcases hc with rfl | rfl | rfl <;> rfl
theorem knoC_one (x : Kno) : ∀ c ∈ knoC x, c.oneCell' = true := by
  intro c hc
  simp only [knoC, List.mem_cons, List.not_mem_nil, or_false] at hc
  rcases hc with rfl | rfl | rfl | rfl <;> rfl
theorem entsC_one (l : List Ent) : ∀ x ∈ entsC l, ∀ c ∈ x, c.oneCell' = true := fun x hx => by
  obtain ⟨y, _, rfl⟩ := List.mem_map.1 hx
  exact entC_one y
theorem knosC_one (l : List Kno) : ∀ x ∈ knosC l, ∀ c ∈ x, c.oneCell' = true := fun x hx => by
  obtain ⟨y, _, rfl⟩ := List.mem_map.1 hx
  exact knoC_one y
theorem entsC_len (l : List Ent) : (entsC l).length = l.length := List.length_map _
theorem knosC_len (l : List Kno) : (knosC l).length = l.length := List.length_map _
theorem entsC_app (a b : List Ent) : entsC (a ++ b) = entsC a ++ entsC b := List.map_append
theorem knosC_app (a b : List Kno) : knosC (a ++ b) = knosC a ++ knosC b := List.map_append
theorem entsC_at (l : List Ent) (i : Nat) (h : i < l.length) : (entsC l)[i]? = some (entC l[i]) := by
  unfold entsC
  rw [List.getElem?_map, List.getElem?_eq_getElem h]
  rfl
theorem knosC_at (l : List Kno) (i : Nat) (h : i < l.length) : (knosC l)[i]? = some (knoC l[i]) := by
  unfold knosC
  rw [List.getElem?_map, List.getElem?_eq_getElem h]
  rfl
/-- The cells of entry i, of what is known i. -/
theorem Ps.ent {w : World} {lo hi : Nat} {a : Option Addr} {n cap : Nat} {l : List Ent} (h : Ps 3 w lo hi (.slice a n cap) (entsC l)) (hn : 0 < l.length) :
    ∃ b o, a = some ⟨b, o, none⟩ ∧ ∀ i (hi : i < l.length), w.cell? ⟨b, o + i * 3, none⟩ = some (.string l[i].n) ∧ w.cell? ⟨b, o + i * 3 + 1, none⟩ = some (.int .i64 l[i].v) ∧ w.cell? ⟨b, o + i * 3 + 2, none⟩ = some (.int .u64 (l[i].k : Int)) ∧ w.rangeAt b (o + i * 3) (entC l[i]) := by
  obtain ⟨b, o, rfl, _, _, _, hr⟩ := h.ne (by decide) (by rw [entsC_len]; exact hn)
  refine ⟨b, o, rfl, fun i hi => ?_⟩
  have h1 := hr i _ (entsC_at l i hi)
  exact ⟨h1 0 _ rfl, h1 1 _ rfl, h1 2 _ rfl, h1⟩
theorem Ps.kno {w : World} {lo hi : Nat} {a : Option Addr} {n cap : Nat} {l : List Kno} (h : Ps 4 w lo hi (.slice a n cap) (knosC l)) (hn : 0 < l.length) :
    ∃ b o, a = some ⟨b, o, none⟩ ∧ ∀ i (hi : i < l.length), w.cell? ⟨b, o + i * 4, none⟩ = some (.string l[i].e.n) ∧ w.cell? ⟨b, o + i * 4 + 1, none⟩ = some (.int .i64 l[i].e.v) ∧ w.cell? ⟨b, o + i * 4 + 2, none⟩ = some (.int .u64 (l[i].e.k : Int)) ∧ w.cell? ⟨b, o + i * 4 + 3, none⟩ = some (.int .i64 l[i].p) ∧ w.rangeAt b (o + i * 4) (knoC l[i]) ∧ w.rangeAt b (o + i * 4) (entC l[i].e) := by
  obtain ⟨b, o, rfl, _, _, _, hr⟩ := h.ne (by decide) (by rw [knosC_len]; exact hn)
  refine ⟨b, o, rfl, fun i hi => ?_⟩
  have h1 := hr i _ (knosC_at l i hi)
  refine ⟨h1 0 _ rfl, h1 1 _ rfl, h1 2 _ rfl, h1 3 _ rfl, h1, fun j v hj => h1 j v ?_⟩
  match j, hj with
  | 0, hj => exact hj
  | 1, hj => exact hj
  | 2, hj => exact hj
  | j + 3, hj => simp at hj

/-- 's[:i]', 's[i:]' of pieces. -/
theorem ps_to {P : Program} {t : TypeId} {k : Nat} (ht : P.underlying t = some (.slice (P.elem t))) (hz : ∀ W, (sizeOf (P.elem t)).run P W = .ok k W) {w : World} {lo hi : Nat} {a : Option Addr} {n cap : Nat} {xs : List (List Value)} (h : Ps k w lo hi (.slice a n cap) xs) (kd : IntKind) (i : Nat) (h1 : i ≤ n) :
    ∃ a', (∀ W, (Instr.slice t (.slice a n cap) none (some (.int kd i)) none).run P W = .ok (.slice a' i cap) W) ∧ Ps k w lo hi (.slice a' i cap) (xs.take i) := by
  have hc : n ≤ cap := by obtain ⟨a', cap', hv, hc, _⟩ := h.form; injection hv; omega
  refine ⟨if cap = 0 then a else a.map (·.add 0), fun W => ?_, ?_⟩
  · rw [run_slice_h (P := P) W t a n cap ht kd i (by omega) (by omega), hz]
    simp [Go.sliced]
  · have := Ps.sliced h 0 i (by omega) (by omega)
    simpa using this
theorem ps_from {P : Program} {t : TypeId} {k : Nat} (ht : P.underlying t = some (.slice (P.elem t))) (hz : ∀ W, (sizeOf (P.elem t)).run P W = .ok k W) {w : World} {lo hi : Nat} {a : Option Addr} {n cap : Nat} {xs : List (List Value)} (h : Ps k w lo hi (.slice a n cap) xs) (kd : IntKind) (i : Nat) (h1 : i ≤ n) :
    ∃ a', (∀ W, (Instr.slice t (.slice a n cap) (some (.int kd i)) none none).run P W = .ok (.slice a' (n - i) (cap - i)) W) ∧ Ps k w lo hi (.slice a' (n - i) (cap - i)) (xs.drop i) := by
  refine ⟨if cap = i then a else a.map (·.add (i * k)), fun W => ?_, ?_⟩
  · rw [run_slice_l (P := P) W t a n cap ht kd i (by omega) (by omega), hz]
    simp [Go.sliced]
  · have hn : n = xs.length := by obtain ⟨a', cap', hv, _⟩ := h.form; injection hv
    have := Ps.sliced h i n (by omega) (Nat.le_refl _)
    rw [List.take_of_length_le (by omega)] at this
    exact this
theorem knosC_take (l : List Kno) (i : Nat) : knosC (l.take i) = (knosC l).take i := List.map_take
theorem knosC_drop (l : List Kno) (i : Nat) : knosC (l.drop i) = (knosC l).drop i := List.map_drop
theorem entsC_take (l : List Ent) (i : Nat) : entsC (l.take i) = (entsC l).take i := List.map_take
theorem entsC_drop (l : List Ent) (i : Nat) : entsC (l.drop i) = (entsC l).drop i := List.map_drop

/-- Where a row of pieces lies: within [lo, hi), or in memory that is newer than world w. -/
def Off (k : Nat) (w : World) (lo hi : Nat) (w' : World) (r : Value) (xs : List (List Value)) : Prop := ∃ lo2 hi2, Ps k w' lo2 hi2 r xs ∧ ((lo ≤ lo2 ∧ hi2 ≤ hi) ∨ w.heap.size ≤ lo2)
theorem Off.kept {k : Nat} {S : Nat → Prop} {w w' w2 : World} {lo hi : Nat} {r : Value} {xs : List (List Value)} (h : Off k w lo hi w' r xs) (hk : Kept S w' w2) (h1 : ∀ b, lo ≤ b → b < hi → ¬ S b) (h2 : ∀ b, w.heap.size ≤ b → ¬ S b) : Off k w lo hi w2 r xs := by
  obtain ⟨lo2, hi2, hp, hq⟩ := h
  refine ⟨lo2, hi2, hp.kept hk (fun b q1 q2 => ?_), hq⟩
  rcases hq with ⟨p1, p2⟩ | p1
  · exact h1 b (by omega) (by omega)
  · exact h2 b (by omega)
theorem Off.ps {k : Nat} {w w' : World} {lo hi : Nat} {r : Value} {xs : List (List Value)} (h : Off k w lo hi w' r xs) : Ps k w' 0 w'.heap.size r xs := by
  obtain ⟨lo2, hi2, hp, _⟩ := h
  exact hp.lt.wider (Nat.zero_le _) (Nat.min_le_right _ _)
theorem Off.base {k : Nat} {w w0 w' : World} {lo hi : Nat} {r : Value} {xs : List (List Value)} (h : Off k w lo hi w' r xs) (hb : w0.heap.size ≤ w.heap.size) : Off k w0 lo hi w' r xs := by
  obtain ⟨lo2, hi2, hp, hq⟩ := h
  exact ⟨lo2, hi2, hp, hq.elim .inl (fun p => .inr (by omega))⟩
theorem Off.of {k : Nat} {w : World} {lo hi : Nat} {r : Value} {xs : List (List Value)} (w0 : World) (h : Ps k w lo hi r xs) : Off k w0 lo hi w r xs := ⟨lo, hi, h, .inl ⟨Nat.le_refl _, Nat.le_refl _⟩⟩

/-! ### The document's directory -/
/-- Names are alike; one is ahead of another one. -/
def eqN (a b : ByteArray) : Bool := a.toList == b.toList
def ltN (a b : ByteArray) : Bool := Go.Op.bytesLess a.toList b.toList
/-- One step of Latest. -/
def latS (nm : ByteArray) (s : Kno × Bool) (x : Kno) : Kno × Bool := if eqN x.e.n nm && (!s.2 || decide (s.1.e.v < x.e.v)) then (x, true) else s
def latF (l : List Kno) (nm : ByteArray) : Kno × Bool := l.foldl (latS nm) (Kno.none, false)
theorem latF_take (l : List Kno) (nm : ByteArray) (i : Nat) (h : i < l.length) : (l.take (i + 1)).foldl (latS nm) (Kno.none, false) = latS nm ((l.take i).foldl (latS nm) (Kno.none, false)) l[i] := by
  rw [List.take_succ_eq_append_getElem h, List.foldl_append]
  rfl
theorem latF_all (l : List Kno) (nm : ByteArray) : (l.take l.length).foldl (latS nm) (Kno.none, false) = latF l nm := by rw [List.take_length]; rfl
theorem latS_ok {nm : ByteArray} {s : Kno × Bool} {x : Kno} (hs : s.1.e.Ok) (hx : x.e.Ok) : (latS nm s x).1.e.Ok := by
  unfold latS
  split
  · exact hx
  · exact hs
theorem latF_Ok : ∀ (l : List Kno) (nm : ByteArray), KOk l → (latF l nm).1.e.Ok := by
  intro l nm h
  have g : ∀ (l : List Kno) (s : Kno × Bool), KOk l → s.1.e.Ok → (l.foldl (latS nm) s).1.e.Ok := by
    intro l
    induction l with
    | nil => intro s _ hs; exact hs
    | cons x l ih =>
      intro s hl hs
      exact ih _ (fun y hy => hl y (List.mem_cons_of_mem _ hy)) (latS_ok hs (hl x (List.mem_cons_self ..)))
  exact g l _ h ⟨by decide, by decide⟩
/-- Ahead of an entry, in the order by names and versions. -/
def aheadK (y : Kno) (e : Ent) : Bool := ltN y.e.n e.n || (eqN y.e.n e.n && decide (y.e.v < e.v))
/-- How many stand ahead: the first so many. -/
def place (l : List Kno) (e : Ent) : Nat := (l.takeWhile (fun y => aheadK y e)).length
def insK (l : List Kno) (x : Kno) : List Kno := l.take (place l x.e) ++ x :: l.drop (place l x.e)
theorem place_le (l : List Kno) (e : Ent) : place l e ≤ l.length := by
  unfold place
  exact (List.takeWhile_sublist _).length_le
theorem place_lt {l : List Kno} {e : Ent} {i : Nat} (h : i < place l e) (hl : i < l.length) : aheadK l[i] e = true := by
  induction l generalizing i with
  | nil => simp at hl
  | cons y l ih =>
    unfold place at h
    rw [List.takeWhile_cons] at h
    split at h
    · rename_i hy
      cases i with
      | zero => exact hy
      | succ i => exact ih (by simpa [place] using h) (by simpa using hl)
    · simp at h
theorem place_at {l : List Kno} {e : Ent} (hl : place l e < l.length) : aheadK l[place l e] e = false := by
  induction l with
  | nil => simp at hl
  | cons y l ih =>
    cases hy : aheadK y e with
    | false =>
      have : place (y :: l) e = 0 := by simp [place, hy]
      simp only [this, List.getElem_cons_zero, hy]
    | true =>
      have e1 : place (y :: l) e = place l e + 1 := by simp [place, hy]
      have hl' : place l e < l.length := by rw [e1] at hl; simpa using hl
      have := ih hl'
      simp only [e1, List.getElem_cons_succ]
      exact this
/-- May entry e of a batch come at this epoch; ahead of it in the batch: b. -/
def mayE (l : List Kno) (b : List Ent) (e : Ent) : Bool := (entR e.n.size e.v e.k && decide (e.v = IntKind.i64.wrap ((latF l e.n).1.e.v + 1))) && !(b.any (fun y => eqN y.n e.n))
/-- The directory behind the first i of a batch; none: one of them may not be. -/
def addN (l : List Kno) (p : Int) (b : List Ent) : Nat → Option (List Kno)
  | 0 => some l
  | i + 1 => match addN l p b i with
    | Option.none => Option.none
    | some out => match b[i]? with
      | Option.none => some out
      | some e => if mayE l (b.take i) e then some (insK out ⟨e, p⟩) else Option.none
def addR (l : List Kno) : Option (List Kno) → List Kno × Bool
  | Option.none => (l, false)
  | some out => (out, true)
def addF (l : List Kno) (p : Int) (b : List Ent) : List Kno × Bool :=
  if p < 1 then (l, false) else if l.any (fun y => decide (p ≤ y.p)) then (l, false) else addR l (addN l p b b.length)
theorem addN_none {l : List Kno} {p : Int} {b : List Ent} {i : Nat} (h : addN l p b i = Option.none) : ∀ j, addN l p b (i + j) = Option.none
  | 0 => h
  | j + 1 => by
    show addN l p b (i + j + 1) = _
    unfold addN
    rw [addN_none h j]
theorem addN_stop {l : List Kno} {p : Int} {b : List Ent} {i : Nat} (h : addN l p b i = Option.none) (hi : i ≤ b.length) : addN l p b b.length = Option.none := by
  have := addN_none h (b.length - i)
  rwa [Nat.add_sub_cancel' hi] at this
theorem addN_bad {l out : List Kno} {p : Int} {b : List Ent} {i : Nat} (h : addN l p b i = some out) (hi : i < b.length) (hm : mayE l (b.take i) b[i] = false) : addN l p b (i + 1) = Option.none := by
  unfold addN
  rw [h, List.getElem?_eq_getElem hi]
  simp only [hm]
  rfl
theorem addN_good {l out : List Kno} {p : Int} {b : List Ent} {i : Nat} (h : addN l p b i = some out) (hi : i < b.length) (hm : mayE l (b.take i) b[i] = true) : addN l p b (i + 1) = some (insK out ⟨b[i], p⟩) := by
  unfold addN
  rw [h, List.getElem?_eq_getElem hi]
  simp only [hm, if_true]
theorem insK_len (l : List Kno) (x : Kno) : (insK l x).length = l.length + 1 := by
  unfold insK
  have := place_le l x.e
  simp
  omega
theorem insK_ok {l : List Kno} {x : Kno} (hl : KOk l) (hx : x.e.Ok) : KOk (insK l x) := fun y hy => by
  unfold insK at hy
  rcases List.mem_append.1 hy with h | h
  · exact hl y (List.mem_of_mem_take h)
  · rcases List.mem_cons.1 h with h | h
    · rw [h]; exact hx
    · exact hl y (List.mem_of_mem_drop h)
theorem addN_ok {l : List Kno} {p : Int} {b : List Ent} (hl : KOk l) (hb : EOk b) : ∀ (i : Nat) (out : List Kno), addN l p b i = some out → KOk out ∧ out.length ≤ l.length + i
  | 0, out, h => by
    obtain rfl := Option.some.inj h
    exact ⟨hl, Nat.le_refl _⟩
  | i + 1, out, h => by
    unfold addN at h
    cases h0 : addN l p b i with
    | none => rw [h0] at h; cases h
    | some o =>
      obtain ⟨q1, q2⟩ := addN_ok hl hb i o h0
      rw [h0] at h
      cases h1 : b[i]? with
      | none =>
        rw [h1] at h
        obtain rfl := Option.some.inj h
        exact ⟨q1, by omega⟩
      | some e =>
        rw [h1] at h
        simp only at h
        split at h
        · obtain rfl := Option.some.inj h
          exact ⟨insK_ok q1 (hb e (List.mem_of_getElem? h1)), by rw [insK_len]; omega⟩
        · cases h
theorem addF_ok {l : List Kno} {p : Int} {b : List Ent} (hl : KOk l) (hb : EOk b) : KOk (addF l p b).1 ∧ (addF l p b).1.length ≤ l.length + b.length := by
  unfold addF
  split
  · exact ⟨hl, Nat.le_add_right _ _⟩
  · split
    · exact ⟨hl, Nat.le_add_right _ _⟩
    · cases h : addN l p b b.length with
      | none => exact ⟨hl, Nat.le_add_right _ _⟩
      | some out => exact addN_ok hl hb _ _ h
end Go.Pm
namespace Go.Pm
open Go Go.RowKit

structure Pf where
  path : List (List UInt8)
  e : Int
  x : It
  deriving DecidableEq
def zero32 : List UInt8 := List.replicate 32 0
def zeroIt : It := ⟨zero32, zero32⟩
def zeroPf : Pf := ⟨[], 0, zeroIt⟩
/-- Its hashes have 32 bytes. -/
def Pf.Ok (p : Pf) : Prop := H32 p.path ∧ p.x.i.length = 32 ∧ p.x.v.length = 32
theorem zero32_len : zero32.length = 32 := rfl
theorem zeroPf_ok : zeroPf.Ok := ⟨H32.nil, rfl, rfl⟩

/-! ### The way down -/
/-- The other sides' roots on the way of an index, and what is left at its end. -/
def downI : Nat → List It → List UInt8 → Nat → List (List UInt8) × List It
  | 0, l, _, _ => ([], l)
  | f + 1, l, i, j => if l.length < 2 then ([], l) else (rootI f (half l j (1 - bitI i j)) (j + 1) :: (downI f (half l j (bitI i j)) i (j + 1)).1, (downI f (half l j (bitI i j)) i (j + 1)).2)
theorem downI_few (f : Nat) {l : List It} (i : List UInt8) (j : Nat) (h : l.length < 2) : downI f l i j = ([], l) := by
  cases f
  · rfl
  · unfold downI; rw [if_pos h]
theorem downI_more (f : Nat) {l : List It} (i : List UInt8) (j : Nat) (h : 2 ≤ l.length) : downI (f + 1) l i j = (rootI f (half l j (1 - bitI i j)) (j + 1) :: (downI f (half l j (bitI i j)) i (j + 1)).1, (downI f (half l j (bitI i j)) i (j + 1)).2) := by
  conv => lhs; unfold downI
  rw [if_neg (by omega)]
/-- The proof of a way and what is left at its end. -/
def endI (p : List (List UInt8)) (r : List It) (i : List UInt8) : Pf :=
  match r with
  | [] => ⟨p, 1, zeroIt⟩
  | x :: _ => if x.i = i then ⟨p, 0, x⟩ else ⟨p, 2, x⟩
theorem endI_path (p : List (List UInt8)) (r : List It) (i : List UInt8) : (endI p r i).path = p := by
  unfold endI
  split
  · rfl
  · split <;> rfl
/-- Make. -/
def makeP (l : List It) (i : List UInt8) : Pf := endI (downI 256 (setI l) i 0).1 (downI 256 (setI l) i 0).2 i
theorem rootI_len' (f : Nat) (l : List It) (j : Nat) (h : Srt l) (hl : Len l) (ha : Agree l j) (hf : 256 ≤ f + j) : (rootI f l j).length = 32 := by
  match f, l with
  | 0, [] => exact sumB_len _
  | _ + 1, [] => exact sumB_len _
  | 0, [x] => exact sumB_len _
  | _ + 1, [x] => exact sumB_len _
  | 0, x :: y :: l => have := agree_lt h hl ha (by simp); omega
  | f + 1, x :: y :: l => exact sumB_len _
theorem half_len' (l : List It) (j b : Nat) : (half l j b).length ≤ l.length := List.length_filter_le _ _
theorem downI_h32 : ∀ (f : Nat) (l : List It) (i : List UInt8) (j : Nat), Srt l → Len l → Agree l j → 256 ≤ f + j → H32 (downI f l i j).1
  | 0, l, i, j, _, _, _, _ => H32.nil
  | f + 1, l, i, j, hs, hl, ha, hf => by
    by_cases h : l.length < 2
    · rw [downI_few _ _ _ h]; exact H32.nil
    · rw [downI_more f i j (by omega)]
      exact H32.cons (rootI_len' f _ _ (srt_half hs _ _) (len_half hl _ _) (agree_half ha _) (by omega)) (downI_h32 f _ i (j + 1) (srt_half hs _ _) (len_half hl _ _) (agree_half ha _) (by omega))
theorem downI_rest : ∀ (f : Nat) (l : List It) (i : List UInt8) (j : Nat), ∀ x ∈ (downI f l i j).2, x ∈ l ∧ ∀ k, k < (downI f l i j).1.length → bitI x.i (j + k) = bitI i (j + k)
  | 0, l, i, j => fun x hx => ⟨hx, fun k hk => by simp [downI] at hk⟩
  | f + 1, l, i, j => by
    by_cases h : l.length < 2
    · rw [downI_few _ _ _ h]; exact fun x hx => ⟨hx, fun k hk => by simp at hk⟩
    · rw [downI_more f i j (by omega)]
      intro x hx
      obtain ⟨h1, h2⟩ := downI_rest f _ i (j + 1) x hx
      obtain ⟨h3, h4⟩ := mem_half.1 h1
      refine ⟨h3, fun k hk => ?_⟩
      cases k with
      | zero => exact h4
      | succ k =>
        have := h2 k (by simpa using hk)
        rwa [show j + 1 + k = j + (k + 1) by omega] at this
theorem downI_few_left : ∀ (f : Nat) (l : List It) (i : List UInt8) (j : Nat), Srt l → Len l → Agree l j → 256 ≤ f + j → (downI f l i j).2.length < 2
  | 0, l, i, j, hs, hl, ha, hf => by
    show l.length < 2
    rcases Nat.lt_or_ge l.length 2 with h | h
    · exact h
    · have := agree_lt hs hl ha h; omega
  | f + 1, l, i, j, hs, hl, ha, hf => by
    by_cases h : l.length < 2
    · rw [downI_few _ _ _ h]; exact h
    · rw [downI_more f i j (by omega)]
      exact downI_few_left f _ i (j + 1) (srt_half hs _ _) (len_half hl _ _) (agree_half ha _) (by omega)
theorem downI_len : ∀ (f : Nat) (l : List It) (i : List UInt8) (j : Nat), (downI f l i j).1.length ≤ f
  | 0, l, i, j => Nat.le_refl _
  | f + 1, l, i, j => by
    by_cases h : l.length < 2
    · rw [downI_few _ _ _ h]; exact Nat.zero_le _
    · rw [downI_more f i j (by omega)]
      have := downI_len f (half l j (bitI i j)) i (j + 1)
      simp only [List.length_cons]
      omega
/-- Who has the index is left. -/
theorem downI_has : ∀ (f : Nat) (l : List It) (i : List UInt8) (j : Nat), ∀ x ∈ l, x.i = i → x ∈ (downI f l i j).2
  | 0, l, i, j => fun x hx _ => hx
  | f + 1, l, i, j => by
    by_cases h : l.length < 2
    · rw [downI_few _ _ _ h]; exact fun x hx _ => hx
    · rw [downI_more f i j (by omega)]
      exact fun x hx hi => downI_has f _ i (j + 1) x (mem_half.2 ⟨hx, by rw [hi]⟩) hi

/-! ### The way up -/
/-- The text of a proof's end. -/
def footB (p : Pf) : List UInt8 := if p.e = 1 then textB 122 [] else textB 108 [p.x.i, p.x.v]
/-- The texts from a place on. -/
def climbB (i foot : List UInt8) : List (List UInt8) → Nat → List (List UInt8)
  | [], _ => [foot]
  | r :: rs, j => (if bitI i j = 1 then textB 110 [r, sumB ((climbB i foot rs (j + 1)).headD [])] else textB 110 [sumB ((climbB i foot rs (j + 1)).headD []), r]) :: climbB i foot rs (j + 1)
theorem climbB_len (i foot : List UInt8) : ∀ (rs : List (List UInt8)) (j : Nat), (climbB i foot rs j).length = rs.length + 1
  | [], _ => rfl
  | r :: rs, j => by simp [climbB, climbB_len i foot rs (j + 1)]
/-- What they come to. -/
def climbH (i foot : List UInt8) (rs : List (List UInt8)) (j : Nat) : List UInt8 := sumB ((climbB i foot rs j).headD [])
theorem climbH_len (i foot : List UInt8) (rs : List (List UInt8)) (j : Nat) : (climbH i foot rs j).length = 32 := sumB_len _
theorem climbH_nil (i foot : List UInt8) (j : Nat) : climbH i foot [] j = sumB foot := rfl
theorem climbH_cons (i foot r : List UInt8) (rs : List (List UInt8)) (j : Nat) : climbH i foot (r :: rs) j = if bitI i j = 1 then nodeH r (climbH i foot rs (j + 1)) else nodeH (climbH i foot rs (j + 1)) r := by
  unfold climbH
  rw [climbB]
  split <;> rfl
def textsP (i : List UInt8) (p : Pf) : List (List UInt8) := climbB i (footB p) p.path 0
def rootP (i : List UInt8) (p : Pf) : List UInt8 := climbH i (footB p) p.path 0
theorem foot_end (p : List (List UInt8)) (r : List It) (i : List UInt8) (f j : Nat) (h : r.length < 2) : sumB (footB (endI p r i)) = rootI f r j := by
  match r, h with
  | [], _ => cases f <;> rfl
  | [x], _ =>
    have e : rootI f [x] j = leafH x := by cases f <;> rfl
    rw [e]
    unfold endI footB
    dsimp only
    split <;> rfl
theorem foot_of (p q : List (List UInt8)) (r : List It) (i : List UInt8) : footB (endI p r i) = footB (endI q r i) := by
  unfold endI footB
  cases r with
  | nil => rfl
  | cons x r => dsimp only; split <;> rfl
theorem rootI_of (f j : Nat) {l : List It} (h : 2 ≤ l.length) : rootI (f + 1) l j = nodeH (rootI f (half l j 0) (j + 1)) (rootI f (half l j 1) (j + 1)) := by
  match l, h with
  | x :: y :: l, _ => rfl
theorem climb_down : ∀ (f : Nat) (l : List It) (i : List UInt8) (j : Nat) (q : List (List UInt8)), Srt l → Len l → Agree l j → 256 ≤ f + j → climbH i (footB (endI q (downI f l i j).2 i)) (downI f l i j).1 j = rootI f l j
  | 0, l, i, j, q, hs, hl, ha, hf => by
    have h : l.length < 2 := downI_few_left 0 l i j hs hl ha hf
    rw [downI_few _ _ _ h, climbH_nil]
    exact foot_end q l i 0 j h
  | f + 1, l, i, j, q, hs, hl, ha, hf => by
    by_cases h : l.length < 2
    · rw [downI_few _ _ _ h, climbH_nil]
      exact foot_end q l i (f + 1) j h
    · have ih := climb_down f (half l j (bitI i j)) i (j + 1) q (srt_half hs _ _) (len_half hl _ _) (agree_half ha _) (by omega)
      rw [downI_more f i j (by omega), climbH_cons, rootI_of f j (by omega)]
      dsimp only
      rw [ih]
      rcases bitI_two i j with hb | hb <;> rw [hb]
      · simp
      · simp
/-- What is made comes to the root. -/
theorem root_make (l : List It) (hl : Len l) (i : List UInt8) : rootP i (makeP l i) = rootOf l := by
  have hL : Len (setI l) := fun x hx => hl x (find_some ((mem_setI x l).1 hx)).1
  unfold rootP makeP
  rw [endI_path]
  exact climb_down 256 (setI l) i 0 _ (srt_setI l) hL (fun _ _ _ _ k hk => by omega) (by omega)

/-! ### Which ones may be, and what they say -/
/-- The first n bits are alike. -/
def alikeB (a b : List UInt8) (n : Nat) : Bool := decide (∀ k, k < n → bitI a k = bitI b k)
/-- Right. -/
def rightP (i : List UInt8) (p : Pf) : Bool :=
  decide (p.path.length ≤ 256) && (if p.e = 0 then p.x.i == i else if p.e = 1 then p.x == zeroIt else if p.e = 2 then !(p.x.i == i) && alikeB p.x.i i p.path.length else false)
theorem rightP_len {i : List UInt8} {p : Pf} (h : rightP i p = true) : p.path.length ≤ 256 := by
  unfold rightP at h
  simp at h
  exact h.1
theorem right_make (l : List It) (hl : Len l) (i : List UInt8) : rightP i (makeP l i) = true := by
  have hL : Len (setI l) := fun x hx => hl x (find_some ((mem_setI x l).1 hx)).1
  have h1 := downI_len 256 (setI l) i 0
  have h2 := downI_rest 256 (setI l) i 0
  unfold rightP makeP
  rw [endI_path]
  generalize downI 256 (setI l) i 0 = d at *
  unfold endI
  cases hd : d.2 with
  | nil => simp [h1]
  | cons x r =>
    dsimp only
    by_cases hx : x.i = i
    · simp [h1, hx]
    · have h3 := (h2 x (by rw [hd]; exact List.mem_cons_self ..)).2
      simp only [Nat.zero_add] at h3
      simp [h1, hx, alikeB]
      exact h3
theorem ok_make (l : List It) (hl : Len l) (i : List UInt8) : (makeP l i).Ok := by
  have hL : Len (setI l) := fun x hx => hl x (find_some ((mem_setI x l).1 hx)).1
  have h1 := downI_h32 256 (setI l) i 0 (srt_setI l) hL (fun _ _ _ _ k hk => by omega) (by omega)
  have h2 := downI_rest 256 (setI l) i 0
  unfold makeP Pf.Ok
  rw [endI_path]
  refine ⟨h1, ?_⟩
  generalize downI 256 (setI l) i 0 = d at *
  unfold endI
  cases hd : d.2 with
  | nil => exact ⟨rfl, rfl⟩
  | cons x r =>
    have h3 := hL x (h2 x (by rw [hd]; exact List.mem_cons_self ..)).1
    dsimp only
    split <;> exact h3
/-- It says 'Here' just of who is there. -/
theorem here_make (l : List It) (i : List UInt8) (hl : Len l) : (makeP l i).e = 0 ↔ ∃ x ∈ l, x.i = i := by
  have hL : Len (setI l) := fun x hx => hl x (find_some ((mem_setI x l).1 hx)).1
  have h2 := downI_rest 256 (setI l) i 0
  have h3 := downI_has 256 (setI l) i 0
  have h4 := downI_few_left 256 (setI l) i 0 (srt_setI l) hL (fun _ _ _ _ k hk => by omega) (by omega)
  unfold makeP
  constructor
  · intro h
    unfold endI at h
    cases hd : (downI 256 (setI l) i 0).2 with
    | nil => rw [hd] at h; cases h
    | cons x r =>
      rw [hd] at h
      dsimp only at h
      by_cases hx : x.i = i
      · have hm := (h2 x (by rw [hd]; exact List.mem_cons_self ..)).1
        exact ⟨x, (find_some ((mem_setI x l).1 hm)).1, hx⟩
      · rw [if_neg hx] at h; cases h
  · rintro ⟨x, hx, hi⟩
    obtain ⟨z, hz, hzi⟩ : ∃ z ∈ setI l, z.i = i := by
      cases hf : lastI l i with
      | none =>
        unfold lastI at hf
        have := List.find?_eq_none.1 hf x (List.mem_reverse.2 hx)
        simp [hi] at this
      | some z =>
        have hzi := (find_some hf).2
        exact ⟨z, (mem_setI z l).2 (by rw [hzi]; exact hf), hzi⟩
    have hm := h3 z hz hzi
    match hd : (downI 256 (setI l) i 0).2, hm, h4 with
    | [y], hm, _ =>
      obtain rfl : z = y := by simpa [hd] using hm
      unfold endI
      dsimp only
      rw [if_pos hzi]
/-- Of who is there it says the item. -/
theorem item_make (l : List It) (hl : Len l) (hs : Srt l) {x : It} (hx : x ∈ l) : (makeP l x.i).e = 0 ∧ (makeP l x.i).x = x := by
  have e : setI l = l := set_srt hs
  have h3 := downI_has 256 l x.i 0 x hx rfl
  have h4 := downI_few_left 256 l x.i 0 hs hl (fun _ _ _ _ k hk => by omega) (by omega)
  unfold makeP
  rw [e]
  match hd : (downI 256 l x.i 0).2, h3, h4 with
  | [y], hm, _ =>
    obtain rfl : x = y := by simpa [hd] using hm
    unfold endI
    dsimp only
    rw [if_pos rfl]
    exact ⟨rfl, rfl⟩
/-- What a proof says. -/
def saysV (p : Pf) : List UInt8 := if p.e = 0 then p.x.v else zero32
def saysH (p : Pf) : Bool := decide (p.e = 0)
/-- Check. -/
def okP (root i : List UInt8) (p : Pf) : Bool := rightP i p && (rootP i p == root)
def checkV (root i : List UInt8) (p : Pf) : List UInt8 := if okP root i p then saysV p else zero32
def checkH (root i : List UInt8) (p : Pf) : Bool := okP root i p && saysH p
theorem saysV_len {p : Pf} (h : p.Ok) : (saysV p).length = 32 := by unfold saysV; split; exact h.2.2; rfl
theorem checkV_len {root i : List UInt8} {p : Pf} (h : p.Ok) : (checkV root i p).length = 32 := by unfold checkV; split; exact saysV_len h; rfl

/-! ### Clashes -/
def sameP (p q : Pf) : Bool := (saysV p == saysV q) && (saysH p == saysH q)
/-- Where two lists of texts part first. -/
def partB : List (List UInt8) → List (List UInt8) → Option (List UInt8 × List UInt8)
  | a :: l, b :: m => if a = b then partB l m else some (a, b)
  | _, _ => none
def clashP (i : List UInt8) (p q : Pf) : Option (List UInt8 × List UInt8) :=
  if rightP i p && rightP i q && !(sameP p q) && (rootP i p == rootP i q) then partB (textsP i p) (textsP i q) else none
theorem foot_tag (p : Pf) (a b : List UInt8) : footB p ≠ textB 110 [a, b] := fun e => by
  unfold footB at e
  split at e
  · have h : byteOf 122 = byteOf 110 := (List.cons.inj (show byteOf 122 :: _ = byteOf 110 :: _ from e)).1
    revert h; decide
  · have h : byteOf 108 = byteOf 110 := (List.cons.inj (by unfold textB at e; exact e)).1
    revert h; decide
theorem text_two {a b c d : List UInt8} (ha : a.length = 32) (hc : c.length = 32) (hb : b.length = 32) (hd : d.length = 32) (h : textB 110 [a, b] = textB 110 [c, d]) : a = c ∧ b = d := by
  unfold textB at h
  have h := (List.cons.inj h).2
  simp only [List.map_cons, List.map_nil, List.flatten_cons, List.flatten_nil, List.append_nil, lumpB, ha, hb, hc, hd] at h
  have h1 := List.append_inj h (by simp [ha, hc])
  exact ⟨(List.append_inj h1.1 rfl).2, (List.append_inj h1.2 rfl).2⟩
theorem partB_cons (a b : List UInt8) (l m : List (List UInt8)) : partB (a :: l) (b :: m) = if a = b then partB l m else some (a, b) := rfl
theorem climb_head (i foot r : List UInt8) (rs : List (List UInt8)) (j : Nat) : ∃ c d, climbB i foot (r :: rs) j = textB 110 [c, d] :: climbB i foot rs (j + 1) := by
  rw [climbB]
  split
  · exact ⟨_, _, rfl⟩
  · exact ⟨_, _, rfl⟩
theorem part_climb (i : List UInt8) (P Q : Pf) : ∀ (rs qs : List (List UInt8)) (j : Nat) (a b : List UInt8), H32 rs → H32 qs → climbH i (footB P) rs j = climbH i (footB Q) qs j → partB (climbB i (footB P) rs j) (climbB i (footB Q) qs j) = some (a, b) → a ≠ b ∧ sumB a = sumB b
  | [], [], j, a, b, _, _, hh, hp => by
    rw [climbB, climbB, partB_cons] at hp
    by_cases he : footB P = footB Q
    · rw [if_pos he] at hp; cases hp
    · rw [if_neg he] at hp
      simp only [Option.some.injEq, Prod.mk.injEq] at hp
      rw [← hp.1, ← hp.2]
      exact ⟨he, hh⟩
  | [], q :: qs, j, a, b, _, _, hh, hp => by
    obtain ⟨c, d, hc⟩ := climb_head i (footB Q) q qs j
    unfold climbH at hh
    rw [hc, climbB] at hh
    rw [hc, climbB, partB_cons, if_neg (foot_tag P c d)] at hp
    simp only [Option.some.injEq, Prod.mk.injEq] at hp
    rw [← hp.1, ← hp.2]
    exact ⟨foot_tag P c d, hh⟩
  | r :: rs, [], j, a, b, _, _, hh, hp => by
    obtain ⟨c, d, hc⟩ := climb_head i (footB P) r rs j
    unfold climbH at hh
    rw [hc, climbB] at hh
    rw [hc, climbB, partB_cons, if_neg (fun e => foot_tag Q c d e.symm)] at hp
    simp only [Option.some.injEq, Prod.mk.injEq] at hp
    rw [← hp.1, ← hp.2]
    exact ⟨fun e => foot_tag Q c d e.symm, hh⟩
  | r :: rs, q :: qs, j, a, b, h1, h2, hh, hp => by
    by_cases hb : bitI i j = 1
    · unfold climbH at hh
      rw [climbB, climbB, if_pos hb, if_pos hb] at hh
      rw [climbB, climbB, if_pos hb, if_pos hb, partB_cons] at hp
      split at hp
      · rename_i he
        exact part_climb i P Q rs qs (j + 1) a b h1.tail h2.tail (text_two h1.head h2.head (sumB_len _) (sumB_len _) he).2 hp
      · rename_i he
        simp only [Option.some.injEq, Prod.mk.injEq] at hp
        rw [← hp.1, ← hp.2]
        exact ⟨he, hh⟩
    · unfold climbH at hh
      rw [climbB, climbB, if_neg hb, if_neg hb] at hh
      rw [climbB, climbB, if_neg hb, if_neg hb, partB_cons] at hp
      split at hp
      · rename_i he
        exact part_climb i P Q rs qs (j + 1) a b h1.tail h2.tail (text_two (sumB_len _) (sumB_len _) h1.head h2.head he).1 hp
      · rename_i he
        simp only [Option.some.injEq, Prod.mk.injEq] at hp
        rw [← hp.1, ← hp.2]
        exact ⟨he, hh⟩
/-- Two texts that are unlike, with one sum. -/
theorem clash_is {i : List UInt8} {p q : Pf} (hp : p.Ok) (hq : q.Ok) {a b : List UInt8} (h : clashP i p q = some (a, b)) : a ≠ b ∧ sumB a = sumB b := by
  unfold clashP at h
  split at h
  · rename_i hc
    simp only [Bool.and_eq_true, beq_iff_eq] at hc
    exact part_climb i p q p.path q.path 0 a b hp.1 hq.1 hc.2 h
  · cases h
end Go.Pm

namespace Go.Proofs.Ytbebpnanhkcngaa
open Go.RowKit Go.Pm
namespace R16
theorem aKno : AggTy Try.prog 99 4 := Sg.AggTy.of (by kernel_rfl) (by kernel_rfl)
theorem res_ct {P : Program} {fn : Func} {p q : Tmp} {ty : TypeId} (h : fn.results = #[.cell p ty, .tmp q]) (tmps : Array Value) {w : World} {g : Nat} {t : TypeId} {cs : Array Value} (hp : tmps.getD p undef = .pointer (some ⟨g, 0, none⟩)) {x : Value} (hq : tmps.getD q undef = x) (hb : Blk w g cs t)
    (hT : AggTy P ty cs.size) : (results fn tmps).run P w = .ok (.tuple #[.agg cs, x]) w := by
  obtain ⟨d, hu, hd⟩ := hT.ag
  have hp' : tmps[p]?.getD undef = .pointer (some ⟨g, 0, none⟩) := by simpa using hp
  have hq' : tmps[q]?.getD undef = x := by simpa using hq
  have hl := run_loadVar_row w g t ty cs (0, 0) d hb hu (by cases d <;> first | rfl | exact hd) hT.size
  simp [results, h, hp', hq', asAddr, hl]
theorem kno_all (x : Kno) : (knoC x).toArray.all (·.oneCell') = true := all_oneCell_toArray (knoC_one x)
set_option maxRecDepth 100000 in
set_option maxHeartbeats 8000000 in
/-- Latest. -/
theorem latest (v : Value) (lo hi : Nat) (l : List Kno) (nm : ByteArray) (w : World) (hv : Ps 4 w lo hi v (knosC l)) (hlen : l.length ≤ 1099511627776) :
    Calls Try.prog 49 #[v, .string nm] w fun e w' => e = .returned (.tuple #[(latF l nm).1.V, .bool (latF l nm).2]) ∧ Kept None w w' := by
  obtain ⟨a, cap, rfl, g1, g2, g3⟩ := hv.form
  rw [knosC_len] at g1 hv ⊢
  have hall := latF_all l nm
  obtain ⟨RS, hRS⟩ : ∃ r, r = latF l nm := ⟨_, rfl⟩
  rw [← hRS] at hall ⊢
  obtain ⟨n, hn⟩ : ∃ n, n = l.length := ⟨_, rfl⟩
  rw [← hn] at g1 hlen hv hall ⊢
  have k0 : Kept None w ((w.alloc (.cells #[.string ⟨#[]⟩, .int .i64 0, .int .u64 0, .int .i64 0] 99)).alloc (.cells #[.string ⟨#[]⟩, .int .i64 0, .int .u64 0, .int .i64 0] 99)) := ((Kept.refl _ _).alloc _).alloc _
  have y0 : Blk ((w.alloc (.cells #[.string ⟨#[]⟩, .int .i64 0, .int .u64 0, .int .i64 0] 99)).alloc (.cells #[.string ⟨#[]⟩, .int .i64 0, .int .u64 0, .int .i64 0] 99)) (w.heap.size + 1) (knoC Kno.none).toArray 99 := Blk.new2 w _ _ _
  have z0 : Blk ((w.alloc (.cells #[.string ⟨#[]⟩, .int .i64 0, .int .u64 0, .int .i64 0] 99)).alloc (.cells #[.string ⟨#[]⟩, .int .i64 0, .int .u64 0, .int .i64 0] 99)) w.heap.size #[.string ⟨#[]⟩, .int .i64 0, .int .u64 0, .int .i64 0] 99 := (Blk.new w _ _).alloc _
  have HV := hid hv
  have HN := hid (And.intro hn hlen)
  have HA := hid (And.intro hall hRS)
  clear hv hn hall hRS g3
  have K0 := hid k0
  have Y0 := hid y0
  have Z0 := hid z0
  clear k0 y0 z0
  go_enter Try.func49, Try.ntmps49
  go_wp2
  go_loopg [7, 8] n (fun kx s7 s8 wr => ∃ (k : Nat) (X : Kno) (b : Bool), s8 = .int .i64 k ∧ s7 = .bool b ∧ k ≤ n ∧ n - k ≤ kx ∧ Hid (Kept None w wr) ∧ Hid (Blk wr (w.heap.size + 1) (knoC X).toArray 99) ∧ Hid (Blk wr w.heap.size #[.string ⟨#[]⟩, .int .i64 0, .int .u64 0, .int .i64 0] 99) ∧ Hid ((l.take k).foldl (latS nm) (Kno.none, false) = (X, b)))
  case atStart => exact ⟨0, Kno.none, false, rfl, rfl, Nat.zero_le _, Nat.le_refl _, K0, Y0, Z0, hid rfl⟩
  case round =>
    obtain ⟨k, X, b, rfl, rfl, hk, hkx, HK, HY, HZ, HT⟩ := hrel
    by_cases hlt : k < n
    · have hz : (k : Int) < (n : Int) := by omega
      have wk : IntKind.i64.wrap ((k : Int) + 1) = (k : Int) + 1 := by rw [IntKind.wrap_i64]; have := HN.out.2; omega
      have kl : k < l.length := by have := HN.out.1; omega
      obtain ⟨bb, o, q1, hc⟩ := (HV.out.kept HK.out (fun _ _ _ h => h)).kno (by omega)
      obtain rfl := q1
      obtain ⟨c0, c1, _, _, rx, _⟩ := hc k kl
      have hS := latF_take l nm k kl
      rw [HT.out] at hS
      have HS := hid hS
      have HR := hid rx
      obtain ⟨E, hE⟩ : ∃ E, E = eqN l[k].e.n nm := ⟨_, rfl⟩
      obtain ⟨G, hG⟩ : ∃ G, G = decide (X.e.v < l[k].e.v) := ⟨_, rfl⟩
      obtain ⟨x0, hx0⟩ : ∃ x, x = l[k].e.n := ⟨_, rfl⟩
      obtain ⟨x1, hx1⟩ : ∃ x, x = l[k].e.v := ⟨_, rfl⟩
      obtain ⟨t1, ht1⟩ : ∃ x, x = X.e.v := ⟨_, rfl⟩
      rw [← hx0] at c0
      rw [← hx1] at c1
      have hE' : (x0.toList == nm.toList) = E := by rw [hx0, hE]; rfl
      have hG' : decide (t1 < x1) = G := by rw [ht1, hx1, hG]
      have d1 : wr.cell? ⟨w.heap.size + 1, 1, none⟩ = some (.int .i64 t1) := by rw [ht1]; exact HY.out.cell 1
      have HX := hid (And.intro hE.symm (And.intro hG.symm True.intro))
      clear rx hc hS hE hG hx0 hx1 ht1
      cases E with
      | false =>
        go_wp2_with fail
        go_quiet (fail)
        obtain ⟨w6, hw6⟩ : ∃ w6, w6 = wr.drewN nq := ⟨_, rfl⟩
        have hW : Kept None wr w6 := hw6 ▸ Kept.toDrewN _ _ _
        rw [← hw6]
        clear hw6 c0 c1 d1
        have HW := hid (HK.out.trans hW)
        have y6 := HY.out.kept hW (fun h => h)
        have z6 := HZ.out.kept hW (fun h => h)
        have HY6 := hid y6
        have HZ6 := hid z6
        have HT2 : Hid ((l.take (k + 1)).foldl (latS nm) (Kno.none, false) = (X, b)) := hid (by rw [HS.out, latS, if_neg (by rw [HX.out.1]; simp)])
        clear HK hW y6 z6
        go_wp2
        go_roundg (n - (k + 1))
        case measure => omega
        case rel => exact ⟨k + 1, X, b, by go_num, rfl, by omega, Nat.le_refl _, HW, HY6, HZ6, HT2⟩
      | true =>
        cases b with
        | false =>
          go_wp2_with fail
          go_quiet (fail)
          obtain ⟨w6, hw6⟩ : ∃ w6, w6 = wr.drewN nq := ⟨_, rfl⟩
          have hW : Kept None wr w6 := hw6 ▸ Kept.toDrewN _ _ _
          rw [← hw6]
          clear hw6 c0 c1 d1
          have HW := hid (HK.out.trans hW)
          have y6 := HY.out.kept hW (fun h => h)
          have z6 := HZ.out.kept hW (fun h => h)
          have rx := rangeAt_kept HR.out hW
          have HT2 : Hid ((l.take (k + 1)).foldl (latS nm) (Kno.none, false) = (l[k]'(by have := HN.out; omega), true)) := hid (by rw [HS.out, latS, if_pos (by rw [HX.out.1, HX.out.2.1]; rfl)])
          clear HK
          go_wp2_with (first | (refine wpList_load_at (.refl _) _ _ rfl rfl rx aKno ?_) | (refine wpList_store_blk (.refl _) _ _ _ rfl rfl rfl y6 aKno rfl (kno_all _) ?_; intro w7 y7 k7) | fail)
          have HW7 : Hid (Kept None w w7) := hid (HW.out.then k7 (fun i hi (h : i = w.heap.size + 1) => by omega))
          have HY7 := hid y7
          have HZ7 := hid (z6.kept k7 (fun (h : w.heap.size = w.heap.size + 1) => by omega))
          clear y6 z6 y7 k7 HW hW rx
          go_roundg (n - (k + 1))
          case measure => omega
          case rel => exact ⟨k + 1, l[k]'(by have := HN.out; omega), true, by go_num, rfl, by omega, Nat.le_refl _, HW7, HY7, HZ7, HT2⟩
        | true =>
          cases G with
          | true =>
            go_wp2_with fail
            go_quiet (fail)
            obtain ⟨w6, hw6⟩ : ∃ w6, w6 = wr.drewN nq := ⟨_, rfl⟩
            have hW : Kept None wr w6 := hw6 ▸ Kept.toDrewN _ _ _
            rw [← hw6]
            clear hw6 c0 c1 d1
            have HW := hid (HK.out.trans hW)
            have y6 := HY.out.kept hW (fun h => h)
            have z6 := HZ.out.kept hW (fun h => h)
            have rx := rangeAt_kept HR.out hW
            have HT2 : Hid ((l.take (k + 1)).foldl (latS nm) (Kno.none, false) = (l[k]'(by have := HN.out; omega), true)) := hid (by rw [HS.out, latS, if_pos (by rw [HX.out.1, HX.out.2.1]; rfl)])
            clear HK
            go_wp2_with (first | (refine wpList_load_at (.refl _) _ _ rfl rfl rx aKno ?_) | (refine wpList_store_blk (.refl _) _ _ _ rfl rfl rfl y6 aKno rfl (kno_all _) ?_; intro w7 y7 k7) | fail)
            have HW7 : Hid (Kept None w w7) := hid (HW.out.then k7 (fun i hi (h : i = w.heap.size + 1) => by omega))
            have HY7 := hid y7
            have HZ7 := hid (z6.kept k7 (fun (h : w.heap.size = w.heap.size + 1) => by omega))
            clear y6 z6 y7 k7 HW hW rx
            go_roundg (n - (k + 1))
            case measure => omega
            case rel => exact ⟨k + 1, l[k]'(by have := HN.out; omega), true, by go_num, rfl, by omega, Nat.le_refl _, HW7, HY7, HZ7, HT2⟩
          | false =>
            go_wp2_with fail
            go_quiet (fail)
            obtain ⟨w6, hw6⟩ : ∃ w6, w6 = wr.drewN nq := ⟨_, rfl⟩
            have hW : Kept None wr w6 := hw6 ▸ Kept.toDrewN _ _ _
            rw [← hw6]
            clear hw6 c0 c1 d1
            have HW := hid (HK.out.trans hW)
            have y6 := HY.out.kept hW (fun h => h)
            have z6 := HZ.out.kept hW (fun h => h)
            have HY6 := hid y6
            have HZ6 := hid z6
            have HT2 : Hid ((l.take (k + 1)).foldl (latS nm) (Kno.none, false) = (X, true)) := hid (by rw [HS.out, latS, if_neg (by rw [HX.out.1, HX.out.2.1]; simp)])
            clear HK hW y6 z6
            go_wp2
            go_roundg (n - (k + 1))
            case measure => omega
            case rel => exact ⟨k + 1, X, true, by go_num, rfl, by omega, Nat.le_refl _, HW, HY6, HZ6, HT2⟩
    · have hz : ¬ (k : Int) < (n : Int) := by omega
      obtain rfl : k = n := by omega
      have hf : RS = (X, b) := by
        have h1 := HT.out
        rw [HA.out.1] at h1
        exact h1
      have HF := hid hf
      have y6 := HY.out
      have z6 := HZ.out
      clear HT hf
      go_wp2_with (first | (refine wpList_load_blk rfl _ _ rfl rfl y6 aKno ?_) | (refine wpList_store_blk rfl _ _ _ rfl rfl rfl z6 aKno rfl (kno_all _) ?_; intro w7 z7 k7) | fail)
      exact bodyPost_ret (v := .tuple #[X.V, .bool b]) (res_ct rfl _ rfl rfl z7 aKno) rfl ⟨by rw [HF.out], HK.out.then k7 (fun i hi (h : i = w.heap.size) => by omega)⟩
end R16
end Go.Proofs.Ytbebpnanhkcngaa
namespace Go.Pm
open Go Go.RowKit
/-- One step of Next. -/
def nxS (nm : ByteArray) (s : Int × Nat) (x : Pn) : Int × Nat := if eqN x.u.n nm && decide (s.1 < x.u.v) then (x.u.v, x.u.k) else s
def nxF (s : Int × Nat) (l : List Pn) (nm : ByteArray) : Int × Nat := l.foldl (nxS nm) s
theorem nxF_take (s : Int × Nat) (l : List Pn) (nm : ByteArray) (i : Nat) (h : i < l.length) : nxF s (l.take (i + 1)) nm = nxS nm (nxF s (l.take i) nm) l[i] := by
  unfold nxF
  rw [take_snoc l i h, List.foldl_append]
  rfl
end Go.Pm
namespace Go.Proofs.Ytbebpnanhkcngaa
open Go.RowKit Go.Pm
namespace R16
set_option maxRecDepth 100000 in
set_option maxHeartbeats 4000000 in
theorem next (v v' : Value) (lo hi lo' hi' : Nat) (l : List Kno) (p : List Pn) (nm : ByteArray) (w : World) (hv : Ps 4 w lo hi v (knosC l)) (hv' : Ps 9 w lo' hi' v' (pensC p)) (hlen : l.length ≤ 1099511627776) (hpl : p.length ≤ 1099511627776) :
    Calls Try.prog 31 #[v, v', .string nm] w fun en w' => en = .returned (.tuple #[.int .i64 (wrap64 ((nxF ((latF l nm).1.e.v, (latF l nm).1.e.k) p nm).1 + 1)), .int .u64 ((nxF ((latF l nm).1.e.v, (latF l nm).1.e.k) p nm).2 : Int)]) ∧ Kept None w w' := by
  obtain ⟨ap, np, cp, rfl, hnp⟩ : ∃ a n c, v' = .slice a n c ∧ n = p.length := by
    obtain ⟨a, c, h, _⟩ := hv'.form
    rw [pensC_len] at h
    exact ⟨a, _, c, h, rfl⟩
  subst hnp
  have HL := hid (latest v lo hi l nm w hv hlen)
  have HV := hid hv'
  have HN := hid hpl
  obtain ⟨k0, hk0⟩ : ∃ k, k = (latF l nm).1 := ⟨_, rfl⟩
  obtain ⟨f0, hf0⟩ : ∃ f, f = (latF l nm).2 := ⟨_, rfl⟩
  rw [← hk0, ← hf0] at HL
  rw [← hk0]
  obtain ⟨nn, hnn⟩ : ∃ x, x = k0.e.n := ⟨_, rfl⟩
  obtain ⟨v0, hv0⟩ : ∃ x, x = k0.e.v := ⟨_, rfl⟩
  obtain ⟨y0, hy0⟩ : ∃ x, x = k0.e.k := ⟨_, rfl⟩
  obtain ⟨p0, hp0⟩ : ∃ x, x = k0.p := ⟨_, rfl⟩
  unfold Kno.V knoC at HL
  rw [← hnn, ← hv0, ← hy0, ← hp0] at HL
  rw [← hv0, ← hy0]
  clear hv hv' hlen hpl hk0 hf0 hnn hv0 hy0 hp0
  go_enter Try.func31, Try.ntmps31
  go_wp2_with fail
  refine HL.out.mono ?_
  rintro e1 w1 ⟨rfl, k1⟩
  have K1 := hid k1
  clear k1 HL
  go_upto_region 2 with fail
  go_region
  obtain ⟨w2, hw2⟩ : ∃ w2, w2 = (w1.alloc (.cells #[.string nn, .int .i64 v0, .int .u64 (y0 : Int), .int .i64 p0] 99)).drew := ⟨_, rfl⟩
  have k2 : Kept None w w2 := by
    rw [hw2]
    exact (K1.out.alloc _).drew
  rw [← hw2]
  have K2 := hid k2
  clear k2 hw2 K1
  go_wp2_with fail
  go_loopg [10, 11, 12] p.length (fun kx s10 s11 s12 wr => ∃ (i : Nat) (V : Int) (Y : Nat), s12 = .int .i64 (i : Int) ∧ s10 = .int .i64 V ∧ s11 = .int .u64 (Y : Int) ∧ i ≤ p.length ∧ p.length - i ≤ kx ∧ Hid (nxF (v0, y0) (p.take i) nm = (V, Y)) ∧ Hid (Kept None w wr))
  case atStart => exact ⟨0, v0, y0, rfl, rfl, rfl, Nat.zero_le _, Nat.le_refl _, hid rfl, K2⟩
  case round =>
  obtain ⟨i, V, Y, rfl, rfl, rfl, hi, hix, HF, HS⟩ := hrel
  by_cases hlt : i < p.length
  · have hlt' : decide ((i : Int) < (p.length : Int)) = true := by simpa using hlt
    have hlb : (i : Int) < (p.length : Int) := Int.ofNat_lt.mpr hlt
    obtain ⟨b, o, rfl, hbs, hcell⟩ := (HV.out.kept HS.out (fun _ _ _ h => h)).pen (by omega)
    obtain ⟨_, rx, _, _, _⟩ := hcell i hlt
    have hS := nxF_take (v0, y0) p nm i hlt
    rw [HF.out] at hS
    obtain ⟨x, hx⟩ : ∃ x, x = p[i] := ⟨_, rfl⟩
    rw [← hx] at rx hS
    obtain ⟨⟨xn, xv, xk, xc, xr, xs⟩, xt, xq, xb⟩ := x
    simp only [nxS] at hS
    simp only [reqC] at rx
    obtain ⟨E, hE⟩ : ∃ E, E = eqN xn nm := ⟨_, rfl⟩
    have hE' : (xn.toList == nm.toList) = E := by rw [hE]; rfl
    obtain ⟨G, hG⟩ : ∃ G, G = decide (V < xv) := ⟨_, rfl⟩
    have hG' := hG.symm
    rw [← hE, ← hG] at hS
    have HSS := hid hS
    have hw : wrap64 ((i : Int) + 1) = ((i + 1 : Nat) : Int) := by have := HN.out; unfold wrap64; omega
    have HW := hid hw
    clear hcell hx hE hG hS hbs hw
    cases E with
    | false =>
      go_wp2_with (first | (refine wpList_load_at (.refl _) _ _ rfl rfl rx Up.aUpd ?_) | fail)
      have HF2 : Hid (nxF (v0, y0) (p.take (i + 1)) nm = (V, Y)) := hid (by rw [HSS.out]; simp)
      go_roundg (p.length - (i + 1))
      case measure => omega
      case rel => exact ⟨i + 1, V, Y, by rw [HW.out], rfl, rfl, hlt, Nat.le_refl _, HF2, hid (HS.out.alloc _)⟩
    | true =>
      cases G with
      | false =>
        go_wp2_with (first | (refine wpList_load_at (.refl _) _ _ rfl rfl rx Up.aUpd ?_) | fail)
        have HF2 : Hid (nxF (v0, y0) (p.take (i + 1)) nm = (V, Y)) := hid (by rw [HSS.out]; simp)
        go_roundg (p.length - (i + 1))
        case measure => omega
        case rel => exact ⟨i + 1, V, Y, by rw [HW.out], rfl, rfl, hlt, Nat.le_refl _, HF2, hid (HS.out.alloc _)⟩
      | true =>
        go_upto_region 8 with (first | (refine wpList_load_at (.refl _) _ _ rfl rfl rx Up.aUpd ?_) | fail)
        go_region
        go_wp2
        have HF2 : Hid (nxF (v0, y0) (p.take (i + 1)) nm = (xv, xk)) := hid (by rw [HSS.out]; simp)
        go_roundg (p.length - (i + 1))
        case measure => omega
        case rel => exact ⟨i + 1, xv, xk, by rw [HW.out], rfl, rfl, hlt, Nat.le_refl _, HF2, hid ((HS.out.alloc _).drew)⟩
  · have hlt' : decide ((i : Int) < (p.length : Int)) = false := by simpa using hlt
    obtain rfl : i = p.length := by omega
    have hF := HF.out
    rw [List.take_length] at hF
    have HF2 := hid hF
    clear hlt hi hix hF
    go_wp2
    go_ret2
    rw [HF2.out]
    exact ⟨rfl, HS.out⟩
end R16
end Go.Proofs.Ytbebpnanhkcngaa
namespace Go.Proofs.Ytbebpnanhkcngaa
open Go.RowKit Go.Pm
namespace RUp
set_option maxRecDepth 100000 in
set_option maxHeartbeats 4000000 in
/-- postmarkref5.Message. -/
theorem message (n : ByteArray) (v : Int) (k : Nat) (w : World) (hn : n.size ≤ 274877906944) (hk : k < 18446744073709551616) : Calls Try.prog 52 #[entV n v k] w fun e w' => ∃ u, e = .returned u ∧ Kept None w w' ∧ Ob w' w.heap.size u (msgB n v k) := by
  have hf := fun w => fields n v k w hn hk
  have hl := fieldsB_len n v k
  have he : 85 :: fieldsB n v k = msgB n v k := rfl
  obtain ⟨F, hF⟩ : ∃ F, F = fieldsB n v k := ⟨_, rfl⟩
  obtain ⟨M, hM⟩ : ∃ M, M = msgB n v k := ⟨_, rfl⟩
  rw [← hF] at hf hl he
  rw [← hM] at he ⊢
  have H := hid (And.intro hf (And.intro hl (And.intro hn he)))
  clear hf hl he hF hM hn hk
  have hB0 : Blk ((w.alloc (.cells #[.string n, .int .i64 v, .int .u64 (k : Int)] 94)).alloc (.cells #[.int .u8 85] 5)) w.heap.size #[.string n, .int .i64 v, .int .u64 (k : Int)] 94 := (Blk.new w _ _).alloc _
  have k0 : Kept None w ((w.alloc (.cells #[.string n, .int .i64 v, .int .u64 (k : Int)] 94)).alloc (.cells #[.int .u8 85] 5)) := ((Kept.refl _ _).alloc _).alloc _
  have b0 : Ob ((w.alloc (.cells #[.string n, .int .i64 v, .int .u64 (k : Int)] 94)).alloc (.cells #[.int .u8 85] 5)) (w.heap.size + 1) (.slice (some ⟨w.heap.size + 1, 0, none⟩) 1 1) [85] := by
    have h := Bo.new (w.alloc (.cells #[.string n, .int .i64 v, .int .u64 (k : Int)] 94)) 5 [85] #[.int .u8 85] (by rfl) 1 rfl (by decide)
    simpa using h
  go_enter Try.func52, Try.ntmps52
  go_wp2_with (first | (refine wpList_load_blk rfl _ _ rfl rfl hB0 Up.aEnt ?_) | fail)
  refine (H.out.1 _).mono ?_
  rintro e w1 ⟨u, rfl, k1, b1⟩
  have k01 := k0.trans k1
  have b01 := b0.kept k1 (fun _ _ h => h)
  have d1 := b1.bs (Nat.le_refl _)
  have hs1 : w.heap.size + 1 ≤ w1.heap.size := (hB0.kept k1 (fun h => h)).lt
  obtain ⟨a1, c1, rfl⟩ := b1.form
  clear hB0 k0 b0 k1 b1
  go_wp2_with (first | (at_builtin; refine wpList_append_bo (l := [85]) (m := F) (base := w.heap.size + 1) rfl _ _ 22 rfl rtBytes rfl rfl b01 d1 (by have := H.out; simp; omega) hs1 ?k5) | fail)
  case k5 =>
    intro a5 n5 c5 w5 b5 k5
    have k05 := Kept.own k01 k5 (fun k hk => Nat.le_of_succ_le (b01.own k hk).1)
    rw [H.out.2.2.2] at b5
    have b6 := b5.base (Nat.le_succ w.heap.size)
    clear b01 k01 k5 d1 b5
    go_wp2
    go_ret
    exact ⟨_, rfl, k05, b6⟩

set_option maxRecDepth 100000 in
set_option maxHeartbeats 4000000 in
/-- postmarkref5.Sign. -/
theorem sign (x : Nat) (n : ByteArray) (v c : Int) (k r s : Nat) (w : World) (hn : n.size ≤ 274877906944) (hk : k < 18446744073709551616) :
    Calls Try.prog 34 #[.int .u64 x, updV n v k c r s] w fun e w' => e = .returned (updV n v k c (sigR x (msgB n v k)) (sigS x (msgB n v k))) ∧ Kept None w w' := by
  have hs := fun v' lo hi w h => Ref.sign x v' lo hi (msgB n v k) w h (by rw [msgB_len]; omega)
  have hm := fun w => message n v k w hn hk
  have he := fun w => entry n v c k r s w
  obtain ⟨R, hR⟩ : ∃ R, R = sigR x (msgB n v k) := ⟨_, rfl⟩
  obtain ⟨S, hS⟩ : ∃ S, S = sigS x (msgB n v k) := ⟨_, rfl⟩
  obtain ⟨M, hM⟩ : ∃ M, M = msgB n v k := ⟨_, rfl⟩
  rw [← hR, ← hS] at hs ⊢
  rw [← hM] at hs hm
  have H := hid (And.intro hs (And.intro hm he))
  clear hs hm he hR hS hM hn hk
  go_enter Try.func34, Try.ntmps34
  have hB0 : Blk ((w.alloc (.cells #[.string n, .int .i64 v, .int .u64 (k : Int), .int .i64 c, .int .u64 (r : Int), .int .u64 (s : Int)] 43)).alloc (.cells #[.string ⟨#[]⟩, .int .i64 0, .int .u64 0, .int .i64 0, .int .u64 0, .int .u64 0] 43)) w.heap.size #[.string n, .int .i64 v, .int .u64 (k : Int), .int .i64 c, .int .u64 (r : Int), .int .u64 (s : Int)] 43 := (Blk.new w _ _).alloc _
  have hR0 := Blk.new2 w (.cells #[.string n, .int .i64 v, .int .u64 (k : Int), .int .i64 c, .int .u64 (r : Int), .int .u64 (s : Int)] 43) #[.string ⟨#[]⟩, .int .i64 0, .int .u64 0, .int .i64 0, .int .u64 0, .int .u64 0] 43
  have k0 : Kept None w ((w.alloc (.cells #[.string n, .int .i64 v, .int .u64 (k : Int), .int .i64 c, .int .u64 (r : Int), .int .u64 (s : Int)] 43)).alloc (.cells #[.string ⟨#[]⟩, .int .i64 0, .int .u64 0, .int .i64 0, .int .u64 0, .int .u64 0] 43)) := ((Kept.refl _ _).alloc _).alloc _
  go_wp2_with (first | (refine wpList_load_blk rfl _ _ rfl rfl hB0 Up.aUpd ?_) | fail)
  refine (H.out.2.2 _).mono ?_
  rintro e w1 ⟨rfl, k1⟩
  have hB1 := hB0.kept k1 (fun h => h)
  have hR1 := hR0.kept k1 (fun h => h)
  have k01 := k0.trans k1
  clear hB0 hR0 k0 k1
  go_wp2_with fail
  refine (H.out.2.1 _).mono ?_
  rintro e w2 ⟨u, rfl, k2, b2⟩
  have hB2 := hB1.kept k2 (fun h => h)
  have hR2 := hR1.kept k2 (fun h => h)
  have k02 := k01.trans k2
  have b2' := b2.bs (Nat.le_refl _)
  clear hB1 hR1 k01 k2 b2
  obtain ⟨a2, c2, rfl, g1, g2, g3⟩ := b2'.shape
  clear g3
  go_wp2_with fail
  refine (H.out.1 _ _ _ _ b2').mono ?_
  rintro e w3 ⟨rfl, k3⟩
  have hB3 := hB2.kept k3 (fun h => h)
  have hR3 := hR2.kept k3 (fun h => h)
  have k03 := k02.trans k3
  clear hB2 hR2 k02 k3 b2' H
  have c4 : w3.cell? ⟨w.heap.size, 4, none⟩ = some (.int .u64 (r : Int)) := hB3.cell 4
  have c5 : w3.cell? ⟨w.heap.size, 5, none⟩ = some (.int .u64 (s : Int)) := hB3.cell 5
  have f4 := hB3.free 4
  have f5 := hB3.free 5
  have hB4 : Blk ((w3.setCell ⟨w.heap.size, 4, none⟩ (.int .u64 (R : Int))).setCell ⟨w.heap.size, 5, none⟩ (.int .u64 (S : Int))) w.heap.size #[.string n, .int .i64 v, .int .u64 (k : Int), .int .i64 c, .int .u64 (R : Int), .int .u64 (S : Int)] 43 := (hB3.set 4 _).set 5 _
  have hR4 := (hR3.setOther (a := ⟨w.heap.size, 4, none⟩) (by show w.heap.size + 1 ≠ w.heap.size; omega) (.int .u64 (R : Int))).setOther (a := ⟨w.heap.size, 5, none⟩) (by show w.heap.size + 1 ≠ w.heap.size; omega) (.int .u64 (S : Int))
  have k04 := (k03.setNew (Nat.le_refl _) 4 (.int .u64 (R : Int))).setNew (Nat.le_refl _) 5 (.int .u64 (S : Int))
  clear hB3 hR3 k03
  go_wp2_with (first | (refine wpList_load_blk rfl _ _ rfl rfl hB4 Up.aUpd ?_) | (refine wpList_store_blk rfl _ _ _ rfl rfl rfl hR4 Up.aUpd rfl (Up.upd_all _ _ _ _ _ _) ?_; intro w6 hR6 k6) | fail)
  exact bodyPost_ret (v := updV n v k c R S) (results_blk rfl _ rfl hR6 Up.aUpd) rfl ⟨rfl, k04.then k6 (fun i hi (h : i = w.heap.size + 1) => by omega)⟩

end RUp
end Go.Proofs.Ytbebpnanhkcngaa
