/- Package update, what asks and writes. -/
import Derived.Test.YtbckjkfdkgomiaaLowSigs
import Derived.Test.YtbckjkfdkgomiaaLow
/- Package update, what asks and writes: each function by its contract, over the plain functions of Req5. -/
namespace Go.Proofs.Ytbckjkfdkgomiaa
open Go.RowKit Go.Pm
namespace Up

theorem aEnt : AggTy Try.prog 39 3 := Sg.AggTy.of (by kernel_rfl) (by kernel_rfl)
theorem aUpd : AggTy Try.prog 26 6 := Sg.AggTy.of (by kernel_rfl) (by kernel_rfl)
theorem ent_all (n : ByteArray) (v : Int) (k : Nat) : (#[.string n, .int .i64 v, .int .u64 (k : Int)] : Array Value).all (·.oneCell') = true := by simp [Value.oneCell']
theorem upd_all (n : ByteArray) (v c : Int) (k r s : Nat) : (#[.string n, .int .i64 v, .int .u64 (k : Int), .int .i64 c, .int .u64 (r : Int), .int .u64 (s : Int)] : Array Value).all (·.oneCell') = true := by simp [Value.oneCell']

theorem prime_ge (s : Nat) (b : Bool) (h : decide (prime61 ≤ s) = b) : ∀ z, z = s → decide ((2305843009213693951 : Int) ≤ (z : Int)) = b := by
  rintro z rfl
  rw [← h, decide_eq_decide]
  unfold prime61
  omega

set_option maxRecDepth 100000 in
set_option maxHeartbeats 1000000 in
/-- update.Right. -/
theorem right (n : ByteArray) (v c : Int) (k r s : Nat) (w : World) : Calls Try.prog 14 #[updV n v k c r s] w fun e w' => e = .returned (.bool (rightB n.size v k c)) ∧ Kept None w w' := by
  have k0 : Kept None w (w.alloc (.cells #[.string n, .int .i64 v, .int .u64 (k : Int), .int .i64 c, .int .u64 (r : Int), .int .u64 (s : Int)] 26)) := (Kept.refl _ _).alloc _
  by_cases h1 : n.size < 1
  · rw [rightB_no (by omega)]
    go_enter Try.func14, Try.ntmps14
    go_wp2
    go_ret
    exact ⟨rfl, k0⟩
  by_cases h2 : 32 < n.size
  · rw [rightB_no (by omega)]
    go_enter Try.func14, Try.ntmps14
    go_wp2
    go_ret
    exact ⟨rfl, k0⟩
  by_cases h3 : v < 1
  · rw [rightB_no (by omega)]
    go_enter Try.func14, Try.ntmps14
    go_wp2
    go_ret
    exact ⟨rfl, k0⟩
  by_cases h4 : 1073741824 < v
  · rw [rightB_no (by omega)]
    go_enter Try.func14, Try.ntmps14
    go_wp2
    go_ret
    exact ⟨rfl, k0⟩
  by_cases h5 : k < 1
  · rw [rightB_no (by omega)]
    go_enter Try.func14, Try.ntmps14
    go_wp2
    go_ret
    exact ⟨rfl, k0⟩
  by_cases h6 : prime61 ≤ k
  · rw [rightB_no (by omega)]
    have hb := prime_ge k true (decide_eq_true h6)
    clear h6
    go_enter Try.func14, Try.ntmps14
    go_wp2
    go_ret
    exact ⟨rfl, k0⟩
  have hb := prime_ge k false (decide_eq_false h6)
  have e1 : rightB n.size v k c = (c == 0 || c == 1) := by
    rw [Bool.eq_iff_iff, rightB_iff]
    simp only [Bool.or_eq_true, beq_iff_eq]
    omega
  rw [e1]
  clear h6 e1 k0
  go_enter Try.func14, Try.ntmps14
  go_wp2
  all_goals
    go_ret
    exact ⟨rfl, (Kept.refl _ _).alloc _⟩

set_option maxHeartbeats 1000000 in
/-- update.Entry. -/
theorem entry (n : ByteArray) (v c : Int) (k r s : Nat) (w : World) : Calls Try.prog 16 #[updV n v k c r s] w fun e w' => e = .returned (entV n v k) ∧ Kept None w w' := by
  have k0 : Kept None w ((w.alloc (.cells #[.string n, .int .i64 v, .int .u64 (k : Int), .int .i64 c, .int .u64 (r : Int), .int .u64 (s : Int)] 26)).alloc (.cells #[.string ⟨#[]⟩, .int .i64 0, .int .u64 0] 39)) := ((Kept.refl _ _).alloc _).alloc _
  have hR := Blk.new2 w (.cells #[.string n, .int .i64 v, .int .u64 (k : Int), .int .i64 c, .int .u64 (r : Int), .int .u64 (s : Int)] 26) #[.string ⟨#[]⟩, .int .i64 0, .int .u64 0] 39
  go_enter Try.func16, Try.ntmps16
  go_wp2_with (first | (refine wpList_store_blk rfl _ _ _ rfl rfl rfl hR aEnt rfl (ent_all _ _ _) ?_; intro w6 hR6 k6) | fail)
  exact bodyPost_ret (v := entV n v k) (results_blk rfl _ rfl hR6 aEnt) rfl ⟨rfl, k0.then k6 (fun i hi (h : i = w.heap.size + 1) => by omega)⟩

theorem msg_flat (n : ByteArray) (v : Int) (k : Nat) : [[85], lumpB (strB n), leB (U6 v), leB (k : Int)].flatten = msgB n v k := by simp [msgB, fieldsB]

set_option maxRecDepth 100000 in
set_option maxHeartbeats 4000000 in
/-- update.Message. -/
theorem message (n : ByteArray) (v : Int) (k : Nat) (w : World) (hn : n.size ≤ 274877906944) (hk : k < 18446744073709551616) : Calls Try.prog 17 #[entV n v k] w fun e w' => ∃ u, e = .returned u ∧ Kept None w w' ∧ Ob w' w.heap.size u (msgB n v k) := by
  have hsn := strB_len n
  have hv0 := U6_ge v
  have hv1 := U6_lt v
  obtain ⟨V, hV⟩ : ∃ V, V = U6 v := ⟨_, rfl⟩
  have hw : IntKind.u64.wrap v = V := by rw [IntKind.wrap_u64, hV]
  have hf := msg_flat n v k
  rw [← hV] at hv0 hv1 hf
  have HF := hid hf
  clear hV hf
  obtain ⟨L, hL⟩ : ∃ L, L = lumpB (strB n) := ⟨_, rfl⟩
  have hLl : L.length = 8 + n.size := by rw [hL, lumpB_len, hsn]
  have hj : ∀ v lo hi W, Bs W lo hi v (strB n) → Calls Try.prog 29 #[v] W fun en w' => ∃ v', en = .returned v' ∧ Kept None W w' ∧ Ob w' W.heap.size v' L := by
    intro v lo hi W h
    rw [hL]
    exact Bin.lump v lo hi (strB n) W h (by omega)
  rw [← hL] at HF
  have HJ := hid hj
  have HL := hid hLl
  clear hj hL hLl
  go_enter Try.func17, Try.ntmps17
  go_wp2_with fail
  obtain ⟨w1, hw1⟩ : ∃ w1, w1 = w.alloc (.cells #[.string n, .int .i64 v, .int .u64 (k : Int)] 39) := ⟨_, rfl⟩
  have hB := Blk.new w #[.string n, .int .i64 v, .int .u64 (k : Int)] 39
  have k0 : Kept None w (w.alloc (.cells #[.string n, .int .i64 v, .int .u64 (k : Int)] 39)) := (Kept.refl _ _).alloc _
  rw [← hw1] at hB k0 ⊢
  clear hw1
  have hc0 : ∀ W, Kept None w1 W → W.cell? ⟨w.heap.size, 0, none⟩ = some (.string n) := fun W hW => (hB.kept hW (fun h => h)).cell 0
  have hc1 : ∀ W, Kept None w1 W → W.cell? ⟨w.heap.size, 1, none⟩ = some (.int .i64 v) := fun W hW => (hB.kept hW (fun h => h)).cell 1
  have hc2 : ∀ W, Kept None w1 W → W.cell? ⟨w.heap.size, 2, none⟩ = some (.int .u64 (k : Int)) := fun W hW => (hB.kept hW (fun h => h)).cell 2
  clear hB
  have hs : Steady [.bytes 0 ([85]), .bytes 3 (strB n), .bytes 4 (L) [3], .bytes 8 (leB V), .bytes 11 (leB k), .lists 12 ([[85], L, leB V, leB k]) [0, 4, 8, 11], .own 5 13 (w1.heap.size) (msgB n v k) [12]] := Steady.bytes (Steady.bytes (Steady.bytes (Steady.bytes (Steady.bytes (Steady.lists (Steady.own (Steady.nil)))))))
  refine wp_region_kn w1 _ hs (Kept.refl _ _) (by kernel_rfl) (by kernel_rfl) (by kernel_rfl) ?_
  refine wpKn_adds hs rfl (by rfl) (fun W hW hd => ?_) (fun v0 hv => ?_)
  · unfold Gives
    go_simp
    exact ⟨(Kept.refl None W).alloc _, ⟨_, _, rfl⟩, _, _, Vs.new W #[.int .u8 85] 5 1 (by decide) (by decide)⟩
  obtain ⟨a0, c0, rfl⟩ : ∃ a c, v0 = .slice a 1 c := hv
  simp only [Act.put, List.setIfInBounds_toArray, List.set_cons_zero, List.set_cons_succ]
  iterate 2 (refine wpPar_pure rfl (by rfl) _ (fun W hW => by
      have c0 := hc0 W hW
      have c1 := hc1 W hW
      have c2 := hc2 W hW
      go_simp
      exact rfl) ?_; simp only [Act.put, List.setIfInBounds_toArray, List.set_cons_zero, List.set_cons_succ])
  refine wpKn_adds hs rfl (by rfl) (fun W hW hd => ?_) (fun v3 hv => ?_)
  · refine gives_bytes 9 32 5 _ rfl tString tBytes' tByte rfl (by omega) fun c w' k1 b1 => ?_
    exact ⟨k1, by rw [← hsn]; exact ⟨_, _, rfl⟩, _, _, b1⟩
  obtain ⟨a3, c3, rfl⟩ : ∃ a c, v3 = .slice a (strB n).length c := hv
  simp only [Act.put, List.setIfInBounds_toArray, List.set_cons_zero, List.set_cons_succ]
  refine wpKn_adds hs rfl (by rfl) (fun W hW hd => ?_) (fun v4 hv => ?_)
  · unfold Gives
    obtain ⟨lo1, hi1, h1⟩ : ∃ lo hi, Bs W lo hi (.slice a3 (strB n).length c3) (strB n) := hd 3 (List.Mem.head _)
    go_simp
    refine gives_call (HJ.out _ _ _ W h1) ?_
    rintro e w3 ⟨u, rfl, k3, b3⟩
    exact ⟨_, rfl, k3, b3.form, _, _, b3.bs (Nat.le_refl _)⟩
  obtain ⟨a4, c4, rfl⟩ : ∃ a c, v4 = .slice a L.length c := hv
  simp only [Act.put, List.setIfInBounds_toArray, List.set_cons_zero, List.set_cons_succ]
  iterate 3 (refine wpPar_pure rfl (by rfl) _ (fun W hW => by
      have c0 := hc0 W hW
      have c1 := hc1 W hW
      have c2 := hc2 W hW
      go_simp
      exact rfl) ?_; simp only [Act.put, List.setIfInBounds_toArray, List.set_cons_zero, List.set_cons_succ])
  refine wpKn_adds hs rfl (by rfl) (fun W hW hd => ?_) (fun v8 hv => ?_)
  · unfold Gives
    go_simp
    refine gives_call (Bin.num V W hv0 hv1) ?_
    rintro e w3 ⟨u, rfl, k3, b3⟩
    exact ⟨_, rfl, k3, b3.form, _, _, b3.bs (Nat.le_refl _)⟩
  obtain ⟨a8, c8, rfl⟩ : ∃ a c, v8 = .slice a 8 c := hv
  simp only [Act.put, List.setIfInBounds_toArray, List.set_cons_zero, List.set_cons_succ]
  iterate 2 (refine wpPar_pure rfl (by rfl) _ (fun W hW => by
      have c0 := hc0 W hW
      have c1 := hc1 W hW
      have c2 := hc2 W hW
      go_simp
      exact rfl) ?_; simp only [Act.put, List.setIfInBounds_toArray, List.set_cons_zero, List.set_cons_succ])
  refine wpKn_adds hs rfl (by rfl) (fun W hW hd => ?_) (fun v11 hv => ?_)
  · unfold Gives
    go_simp
    refine gives_call (Bin.num k W (by omega) (by omega)) ?_
    rintro e w3 ⟨u, rfl, k3, b3⟩
    exact ⟨_, rfl, k3, b3.form, _, _, b3.bs (Nat.le_refl _)⟩
  obtain ⟨a11, c11, rfl⟩ : ∃ a c, v11 = .slice a 8 c := hv
  simp only [Act.put, List.setIfInBounds_toArray, List.set_cons_zero, List.set_cons_succ]
  refine wpKn_adds hs rfl (by rfl) (fun W hW hd => ?_) (fun v12 hv => ?_)
  · unfold Gives
    obtain ⟨lo1, hi1, h1⟩ : ∃ lo hi, Bs W lo hi (.slice a0 1 c0) [85] := hd 0 (List.Mem.head _)
    obtain ⟨lo2, hi2, h2⟩ : ∃ lo hi, Bs W lo hi (.slice a4 L.length c4) L := hd 4 (List.Mem.tail _ (List.Mem.head _))
    obtain ⟨lo3, hi3, h3⟩ : ∃ lo hi, Bs W lo hi (.slice a8 8 c8) (leB V) := hd 8 (List.Mem.tail _ (List.Mem.tail _ (List.Mem.head _)))
    obtain ⟨lo4, hi4, h4⟩ : ∃ lo hi, Bs W lo hi (.slice a11 8 c11) (leB k) := hd 11 (List.Mem.tail _ (List.Mem.tail _ (List.Mem.tail _ (List.Mem.head _))))
    go_simp
    exact ⟨(Kept.refl None W).alloc _, ⟨_, _, rfl⟩, _, _, _, _, Bss.new W #[.slice a0 1 c0, .slice a4 L.length c4, .slice a8 8 c8, .slice a11 8 c11] 32 [[85], L, leB V, leB k] 4 rfl (by decide) ⟨h1.all, h2.all, h3.all, h4.all, trivial⟩⟩
  obtain ⟨a12, c12, rfl⟩ : ∃ a c, v12 = .slice a 4 c := hv
  simp only [Act.put, List.setIfInBounds_toArray, List.set_cons_zero, List.set_cons_succ]
  refine wpKn_adds hs rfl (by rfl) (fun W hW hd => ?_) (fun v13 hv => ?_)
  · unfold Gives
    obtain ⟨lo1, hi1, lo2, hi2, h1⟩ : ∃ lo hi lo' hi', Bss W lo hi lo' hi' (.slice a12 4 c12) [[85], L, leB V, leB k] := hd 12 (List.Mem.head _)
    go_simp
    refine gives_call (Bin.join _ _ _ _ _ _ W h1 (by have := HL.out; simp [total, leB_length]; omega)) ?_
    rintro e w3 ⟨u, rfl, k3, b3⟩
    have b4 := b3.base hW.size
    rw [HF.out] at b4
    exact ⟨_, rfl, k3, b4.form, b4⟩
  obtain ⟨a13, c13, rfl⟩ : ∃ a c, v13 = .slice a (msgB n v k).length c := hv
  simp only [Act.put, List.setIfInBounds_toArray, List.set_cons_zero, List.set_cons_succ]
  iterate 1 (refine wpPar_pure rfl (by rfl) _ (fun W hW => by
      go_simp
      exact rfl) ?_; simp only [Act.put, List.setIfInBounds_toArray, List.set_cons_zero, List.set_cons_succ])
  refine wpPar_nil (fun W hW hG => ?_)
  have hb : Ob W w1.heap.size (.slice a13 (msgB n v k).length c13) (msgB n v k) := hG 13
  have hb1 := hb.base k0.size
  have k01 := k0.then hW (fun _ _ h => h)
  clear hG hb hc0 hc1 hc2 hs k0 hW
  go_wp2
  go_ret
  exact ⟨_, rfl, k01, hb1⟩
end Up
end Go.Proofs.Ytbckjkfdkgomiaa

/- update.Sign, update.Check, by contract. -/
namespace Go.Proofs.Ytbckjkfdkgomiaa
open Go.RowKit Go.Pm
namespace Up

set_option maxRecDepth 100000 in
set_option maxHeartbeats 4000000 in
/-- update.Sign. -/
theorem sign (x : Nat) (n : ByteArray) (v c : Int) (k r s : Nat) (w : World) (hn : n.size ≤ 274877906944) (hk : k < 18446744073709551616) :
    Calls Try.prog 19 #[.int .u64 x, updV n v k c r s] w fun e w' => e = .returned (updV n v k c (sigR x (msgB n v k)) (sigS x (msgB n v k))) ∧ Kept None w w' := by
  have hs := fun v' lo hi w h => Sg.sign x v' lo hi (msgB n v k) w h (by rw [msgB_len]; omega)
  have hm := fun w => message n v k w hn hk
  have he := fun w => entry n v c k r s w
  obtain ⟨R, hR⟩ : ∃ R, R = sigR x (msgB n v k) := ⟨_, rfl⟩
  obtain ⟨S, hS⟩ : ∃ S, S = sigS x (msgB n v k) := ⟨_, rfl⟩
  obtain ⟨M, hM⟩ : ∃ M, M = msgB n v k := ⟨_, rfl⟩
  rw [← hR, ← hS] at hs ⊢
  rw [← hM] at hs hm
  have H := hid (And.intro hs (And.intro hm he))
  clear hs hm he hR hS hM hn hk
  go_enter Try.func19, Try.ntmps19
  have hB0 : Blk ((w.alloc (.cells #[.string n, .int .i64 v, .int .u64 (k : Int), .int .i64 c, .int .u64 (r : Int), .int .u64 (s : Int)] 26)).alloc (.cells #[.string ⟨#[]⟩, .int .i64 0, .int .u64 0, .int .i64 0, .int .u64 0, .int .u64 0] 26)) w.heap.size #[.string n, .int .i64 v, .int .u64 (k : Int), .int .i64 c, .int .u64 (r : Int), .int .u64 (s : Int)] 26 := (Blk.new w _ _).alloc _
  have hR0 := Blk.new2 w (.cells #[.string n, .int .i64 v, .int .u64 (k : Int), .int .i64 c, .int .u64 (r : Int), .int .u64 (s : Int)] 26) #[.string ⟨#[]⟩, .int .i64 0, .int .u64 0, .int .i64 0, .int .u64 0, .int .u64 0] 26
  have k0 : Kept None w ((w.alloc (.cells #[.string n, .int .i64 v, .int .u64 (k : Int), .int .i64 c, .int .u64 (r : Int), .int .u64 (s : Int)] 26)).alloc (.cells #[.string ⟨#[]⟩, .int .i64 0, .int .u64 0, .int .i64 0, .int .u64 0, .int .u64 0] 26)) := ((Kept.refl _ _).alloc _).alloc _
  go_wp2_with (first | (refine wpList_load_blk rfl _ _ rfl rfl hB0 aUpd ?_) | fail)
  refine (H.out.2.2 _).mono ?_
  rintro e w1 ⟨rfl, k1⟩
  have hB1 := hB0.kept k1 (fun h => h)
  have hR1 := hR0.kept k1 (fun h => h)
  have k01 := k0.trans k1
  clear hB0 hR0 k0 k1
  go_wp2_with fail
  refine (H.out.2.1 _).mono ?_
  rintro e w2 ⟨u, rfl, k2, b2⟩
  have hB2 := hB1.kept k2 (fun h => h)
  have hR2 := hR1.kept k2 (fun h => h)
  have k02 := k01.trans k2
  have b2' := b2.bs (Nat.le_refl _)
  clear hB1 hR1 k01 k2 b2
  obtain ⟨a2, c2, rfl, g1, g2, g3⟩ := b2'.shape
  clear g3
  go_wp2_with fail
  refine (H.out.1 _ _ _ _ b2').mono ?_
  rintro e w3 ⟨rfl, k3⟩
  have hB3 := hB2.kept k3 (fun h => h)
  have hR3 := hR2.kept k3 (fun h => h)
  have k03 := k02.trans k3
  clear hB2 hR2 k02 k3 b2' H
  have c4 : w3.cell? ⟨w.heap.size, 4, none⟩ = some (.int .u64 (r : Int)) := hB3.cell 4
  have c5 : w3.cell? ⟨w.heap.size, 5, none⟩ = some (.int .u64 (s : Int)) := hB3.cell 5
  have f4 := hB3.free 4
  have f5 := hB3.free 5
  have hB4 : Blk ((w3.setCell ⟨w.heap.size, 4, none⟩ (.int .u64 (R : Int))).setCell ⟨w.heap.size, 5, none⟩ (.int .u64 (S : Int))) w.heap.size #[.string n, .int .i64 v, .int .u64 (k : Int), .int .i64 c, .int .u64 (R : Int), .int .u64 (S : Int)] 26 := (hB3.set 4 _).set 5 _
  have hR4 := (hR3.setOther (a := ⟨w.heap.size, 4, none⟩) (by show w.heap.size + 1 ≠ w.heap.size; omega) (.int .u64 (R : Int))).setOther (a := ⟨w.heap.size, 5, none⟩) (by show w.heap.size + 1 ≠ w.heap.size; omega) (.int .u64 (S : Int))
  have k04 := (k03.setNew (Nat.le_refl _) 4 (.int .u64 (R : Int))).setNew (Nat.le_refl _) 5 (.int .u64 (S : Int))
  clear hB3 hR3 k03
  go_wp2_with (first | (refine wpList_load_blk rfl _ _ rfl rfl hB4 aUpd ?_) | (refine wpList_store_blk rfl _ _ _ rfl rfl rfl hR4 aUpd rfl (upd_all _ _ _ _ _ _) ?_; intro w6 hR6 k6) | fail)
  exact bodyPost_ret (v := updV n v k c R S) (results_blk rfl _ rfl hR6 aUpd) rfl ⟨rfl, k04.then k6 (fun i hi (h : i = w.heap.size + 1) => by omega)⟩

set_option maxRecDepth 100000 in
set_option maxHeartbeats 4000000 in
/-- update.Check. -/
theorem check (n : ByteArray) (v c : Int) (k r s y : Nat) (w : World) (hn : n.size ≤ 274877906944) (hk : k < 18446744073709551616) :
    Calls Try.prog 22 #[updV n v k c r s, .int .u64 y] w fun e w' => e = .returned (.bool (checkN y (msgB n v k) r s)) ∧ Kept None w w' := by
  have hs := fun v' lo hi w h => Sg.check y r s v' lo hi (msgB n v k) w h (by rw [msgB_len]; omega)
  have hm := fun w => message n v k w hn hk
  have he := fun w => entry n v c k r s w
  obtain ⟨M, hM⟩ : ∃ M, M = msgB n v k := ⟨_, rfl⟩
  rw [← hM] at hs hm ⊢
  obtain ⟨q, hq⟩ : ∃ q, q = checkN y M r s := ⟨_, rfl⟩
  rw [← hq] at hs ⊢
  have H := hid (And.intro hs (And.intro hm he))
  clear hs hm he hM hq hn hk
  go_enter Try.func22, Try.ntmps22
  go_wp2_with fail
  obtain ⟨w1, hw1⟩ : ∃ w1, w1 = w.alloc (.cells #[.string n, .int .i64 v, .int .u64 (k : Int), .int .i64 c, .int .u64 (r : Int), .int .u64 (s : Int)] 26) := ⟨_, rfl⟩
  have hB := Blk.new w #[.string n, .int .i64 v, .int .u64 (k : Int), .int .i64 c, .int .u64 (r : Int), .int .u64 (s : Int)] 26
  have k0 : Kept None w (w.alloc (.cells #[.string n, .int .i64 v, .int .u64 (k : Int), .int .i64 c, .int .u64 (r : Int), .int .u64 (s : Int)] 26)) := (Kept.refl _ _).alloc _
  rw [← hw1] at hB k0 ⊢
  clear hw1
  have hc0 : ∀ W, Kept None w1 W → W.cell? ⟨w.heap.size, 0, none⟩ = some (.string n) := fun W hW => (hB.kept hW (fun h => h)).cell 0
  have hc1 : ∀ W, Kept None w1 W → W.cell? ⟨w.heap.size, 1, none⟩ = some (.int .i64 v) := fun W hW => (hB.kept hW (fun h => h)).cell 1
  have hc2 : ∀ W, Kept None w1 W → W.cell? ⟨w.heap.size, 2, none⟩ = some (.int .u64 (k : Int)) := fun W hW => (hB.kept hW (fun h => h)).cell 2
  have hc3 : ∀ W, Kept None w1 W → W.cell? ⟨w.heap.size, 3, none⟩ = some (.int .i64 c) := fun W hW => (hB.kept hW (fun h => h)).cell 3
  have hc4 : ∀ W, Kept None w1 W → W.cell? ⟨w.heap.size, 4, none⟩ = some (.int .u64 (r : Int)) := fun W hW => (hB.kept hW (fun h => h)).cell 4
  have hc5 : ∀ W, Kept None w1 W → W.cell? ⟨w.heap.size, 5, none⟩ = some (.int .u64 (s : Int)) := fun W hW => (hB.kept hW (fun h => h)).cell 5
  clear hB
  have hs : Steady [.val 2 (entV n v k), .bytes 3 (M), .val 6 (.bool q) [3]] := Steady.val (Steady.bytes (Steady.val (Steady.nil)))
  refine wp_region_kn w1 _ hs (Kept.refl _ _) (by kernel_rfl) (by kernel_rfl) (by kernel_rfl) ?_
  iterate 2 (refine wpPar_pure rfl (by rfl) _ (fun W hW => by
      have c0 := hc0 W hW
      have c1 := hc1 W hW
      have c2 := hc2 W hW
      have c3 := hc3 W hW
      have c4 := hc4 W hW
      have c5 := hc5 W hW
      go_simp
      exact rfl) ?_; simp only [Act.put, List.setIfInBounds_toArray, List.set_cons_zero, List.set_cons_succ])
  refine wpKn_adds hs rfl (by rfl) (fun W hW hd => ?_) (fun v2 hv => ?_)
  · unfold Gives
    go_simp
    refine gives_call (H.out.2.2 W) ?_
    rintro e w3 ⟨rfl, k3⟩
    exact ⟨_, rfl, k3, rfl, trivial⟩
  obtain rfl : v2 = entV n v k := hv
  simp only [Act.put, List.setIfInBounds_toArray, List.set_cons_zero, List.set_cons_succ]
  refine wpKn_adds hs rfl (by rfl) (fun W hW hd => ?_) (fun v3 hv => ?_)
  · unfold Gives
    go_simp
    refine gives_call (H.out.2.1 W) ?_
    rintro e w3 ⟨u, rfl, k3, b3⟩
    exact ⟨_, rfl, k3, b3.form, _, _, b3.bs (Nat.le_refl _)⟩
  obtain ⟨a3, c3, rfl⟩ : ∃ a c, v3 = .slice a M.length c := hv
  simp only [Act.put, List.setIfInBounds_toArray, List.set_cons_zero, List.set_cons_succ]
  iterate 2 (refine wpPar_pure rfl (by rfl) _ (fun W hW => by
      have c0 := hc0 W hW
      have c1 := hc1 W hW
      have c2 := hc2 W hW
      have c3 := hc3 W hW
      have c4 := hc4 W hW
      have c5 := hc5 W hW
      go_simp
      exact rfl) ?_; simp only [Act.put, List.setIfInBounds_toArray, List.set_cons_zero, List.set_cons_succ])
  refine wpKn_adds hs rfl (by rfl) (fun W hW hd => ?_) (fun v6 hv => ?_)
  · unfold Gives
    obtain ⟨lo1, hi1, h1⟩ : ∃ lo hi, Bs W lo hi (.slice a3 M.length c3) M := hd 3 (List.Mem.head _)
    go_simp
    refine gives_call (H.out.1 _ _ _ W h1) ?_
    rintro e w3 ⟨rfl, k3⟩
    exact ⟨_, rfl, k3, rfl, trivial⟩
  obtain rfl : v6 = .bool q := hv
  simp only [Act.put, List.setIfInBounds_toArray, List.set_cons_zero, List.set_cons_succ]
  iterate 1 (refine wpPar_pure rfl (by rfl) _ (fun W hW => by
      go_simp
      exact rfl) ?_; simp only [Act.put, List.setIfInBounds_toArray, List.set_cons_zero, List.set_cons_succ])
  refine wpPar_nil (fun W hW hG => ?_)
  have k01 := k0.then hW (fun _ _ h => h)
  clear hG hc0 hc1 hc2 hc3 hc4 hc5 hs k0 hW
  go_wp2
  go_ret
  exact ⟨rfl, k01⟩
end Up
end Go.Proofs.Ytbckjkfdkgomiaa

/- update.Put, by contract. -/
namespace Go.Proofs.Ytbckjkfdkgomiaa
open Go.RowKit Go.Pm
namespace Up

theorem put_flat (n : ByteArray) (v c : Int) (k r s : Nat) : [lumpB (strB n), leB (U6 v), leB (k : Int), leB (U6 c), leB (r : Int) ++ leB (s : Int)].flatten = putB n v k c r s := by simp [putB, fieldsB]

set_option maxRecDepth 100000 in
set_option maxHeartbeats 4000000 in
/-- update.Put. -/
theorem put (n : ByteArray) (v c : Int) (k r s : Nat) (w : World) (hr : r < 18446744073709551616) (hs : s < 18446744073709551616) :
    Calls Try.prog 11 #[updV n v k c r s] w fun e w' => ∃ u, e = .returned (.tuple #[u, .int .i64 (putE n.size v k c)]) ∧ Kept None w w' ∧ Ob w' w.heap.size u (putL n v k c r s) := by
  have hq := fun w => right n v c k r s w
  have hB0 := Blk.new w #[.string n, .int .i64 v, .int .u64 (k : Int), .int .i64 c, .int .u64 (r : Int), .int .u64 (s : Int)] 26
  have k0 : Kept None w (w.alloc (.cells #[.string n, .int .i64 v, .int .u64 (k : Int), .int .i64 c, .int .u64 (r : Int), .int .u64 (s : Int)] 26)) := (Kept.refl _ _).alloc _
  cases hb : rightB n.size v k c with
  | false =>
    rw [hb] at hq
    have e1 : putE n.size v k c = 23 := by unfold putE; rw [hb]; rfl
    have e2 : putL n v k c r s = [] := by unfold putL; rw [hb]; rfl
    rw [e1, e2]
    have H := hid hq
    clear hq hb e1 e2
    go_enter Try.func11, Try.ntmps11
    go_wp2_with (first | (refine wpList_load_blk rfl _ _ rfl rfl hB0 aUpd ?_) | fail)
    refine (H.out _).mono ?_
    rintro e w1 ⟨rfl, k1⟩
    have k01 := k0.trans k1
    go_wp2
    go_ret2
    exact ⟨_, rfl, k01, Bo.nil _ _ _⟩
  | true =>
    have e1 : putE n.size v k c = 0 := by unfold putE; rw [hb]; rfl
    have e2 : putL n v k c r s = putB n v k c r s := by unfold putL; rw [hb]; rfl
    have hh := (rightB_iff _ _ _ _).1 hb
    have hk : k < 18446744073709551616 := Nat.lt_trans hh.1.2.2.2.2.2 (by decide)
    have hn : n.size ≤ 32 := hh.1.2.1
    rw [e1, e2]
    rw [hb] at hq
    have hg := fun w => Sg.put r s w hr hs
    have hsn := strB_len n
    have hw1 : IntKind.u64.wrap v = U6 v := by rw [IntKind.wrap_u64]
    have hw2 : IntKind.u64.wrap c = U6 c := by rw [IntKind.wrap_u64]
    have hf := put_flat n v c k r s
    have HV0 := And.intro (U6_ge v) (And.intro (U6_lt v) (And.intro (U6_ge c) (And.intro (U6_lt c) hk)))
    have hG2 : (leB (r : Int) ++ leB (s : Int)).length = 16 := rfl
    obtain ⟨V, hV⟩ : ∃ V, V = U6 v := ⟨_, rfl⟩
    obtain ⟨C, hC⟩ : ∃ C, C = U6 c := ⟨_, rfl⟩
    rw [← hV] at hw1 hf HV0
    rw [← hC] at hw2 hf HV0
    rw [show Sg.sigB r s = leB r ++ leB s from rfl] at hg
    obtain ⟨G, hGG⟩ : ∃ G, G = leB (r : Int) ++ leB (s : Int) := ⟨_, rfl⟩
    rw [← hGG] at hg hf hG2
    obtain ⟨T, hTT⟩ : ∃ T, T = putB n v k c r s := ⟨_, rfl⟩
    rw [← hTT] at hf ⊢
    obtain ⟨L, hL⟩ : ∃ L, L = lumpB (strB n) := ⟨_, rfl⟩
    have hLl : L.length ≤ 40 ∧ G.length = 16 := ⟨by rw [hL, lumpB_len, hsn]; omega, hG2⟩
    have hj : ∀ v lo hi W, Bs W lo hi v (strB n) → Calls Try.prog 29 #[v] W fun en w' => ∃ v', en = .returned v' ∧ Kept None W w' ∧ Ob w' W.heap.size v' L := by
      intro v lo hi W h
      rw [hL]
      exact Bin.lump v lo hi (strB n) W h (by omega)
    rw [← hL] at hf
    have HJ := hid hj
    have HT := hid hf
    have HV := hid HV0
    have HQ := hid hq
    have HG := hid hg
    have HL := hid hLl
    have HN := hid hn
    clear hj hf HV0 hq hg hLl hL hTT hGG hC hV hG2 hh hb e1 e2 hn hk hr hs
    go_enter Try.func11, Try.ntmps11
    go_wp2_with (first | (refine wpList_load_blk rfl _ _ rfl rfl hB0 aUpd ?_) | fail)
    refine (HQ.out _).mono ?_
    rintro e w1 ⟨rfl, k1⟩
    have k01 := k0.trans k1
    have hB1 := hB0.kept k1 (fun h => h)
    have c0 : w1.cell? ⟨w.heap.size, 0, none⟩ = some (.string n) := hB1.cell 0
    clear k0 k1 hB0
    go_wp2_with (first | (refine wpList_bytes rfl 9 32 5 _ rfl tString tBytes' tByte rfl (by have := HN.out; omega) ?_; intro gB cB w2 hgB kB bB) | fail)
    refine (HJ.out _ _ _ _ bB).mono ?_
    rintro e w3 ⟨u, rfl, k3, b3⟩
    have kk := kB.trans k3
    have hB3 := hB1.kept kk (fun h => h)
    have k03 := k01.trans kk
    have hbL := b3.bs (Nat.le_refl _)
    obtain ⟨aL, cL, rfl⟩ := b3.form
    clear hB1 k01 kB bB k3 kk b3 c0
    obtain ⟨w2, rfl⟩ : ∃ w2, w2 = w3 := ⟨_, rfl⟩
    go_wp2_with fail
    have hc0 : ∀ W, Kept None w2 W → W.cell? ⟨w.heap.size, 0, none⟩ = some (.string n) := fun W hW => (hB3.kept hW (fun h => h)).cell 0
    have hc1 : ∀ W, Kept None w2 W → W.cell? ⟨w.heap.size, 1, none⟩ = some (.int .i64 v) := fun W hW => (hB3.kept hW (fun h => h)).cell 1
    have hc2 : ∀ W, Kept None w2 W → W.cell? ⟨w.heap.size, 2, none⟩ = some (.int .u64 (k : Int)) := fun W hW => (hB3.kept hW (fun h => h)).cell 2
    have hc3 : ∀ W, Kept None w2 W → W.cell? ⟨w.heap.size, 3, none⟩ = some (.int .i64 c) := fun W hW => (hB3.kept hW (fun h => h)).cell 3
    have hc4 : ∀ W, Kept None w2 W → W.cell? ⟨w.heap.size, 4, none⟩ = some (.int .u64 (r : Int)) := fun W hW => (hB3.kept hW (fun h => h)).cell 4
    have hc5 : ∀ W, Kept None w2 W → W.cell? ⟨w.heap.size, 5, none⟩ = some (.int .u64 (s : Int)) := fun W hW => (hB3.kept hW (fun h => h)).cell 5
    clear hB3
    have hs : Steady [.bytes 4 (leB V), .bytes 7 (leB k), .bytes 11 (leB C), .bytes 14 (G), .lists 15 ([L, leB V, leB k, leB C, G]) [4, 7, 11, 14], .own 5 16 (w2.heap.size) (T) [15]] := Steady.bytes (Steady.bytes (Steady.bytes (Steady.bytes (Steady.lists (Steady.own (Steady.nil))))))
    refine wp_region_kn w2 _ hs (Kept.refl _ _) (by kernel_rfl) (by kernel_rfl) (by kernel_rfl) ?_
    iterate 4 (refine wpPar_pure rfl (by rfl) _ (fun W hW => by
        have c1 := hc1 W hW
        have c2 := hc2 W hW
        have c3 := hc3 W hW
        have c4 := hc4 W hW
        have c5 := hc5 W hW
        go_simp
        exact rfl) ?_; simp only [Act.put, List.setIfInBounds_toArray, List.set_cons_zero, List.set_cons_succ])
    refine wpKn_adds hs rfl (by rfl) (fun W hW hd => ?_) (fun v4 hv => ?_)
    · unfold Gives
      go_simp
      refine gives_call (Bin.num V W HV.out.1 HV.out.2.1) ?_
      rintro e w3 ⟨u, rfl, k3, b3⟩
      exact ⟨_, rfl, k3, b3.form, _, _, b3.bs (Nat.le_refl _)⟩
    obtain ⟨a4, c4, rfl⟩ : ∃ a c, v4 = .slice a 8 c := hv
    simp only [Act.put, List.setIfInBounds_toArray, List.set_cons_zero, List.set_cons_succ]
    iterate 2 (refine wpPar_pure rfl (by rfl) _ (fun W hW => by
        have c1 := hc1 W hW
        have c2 := hc2 W hW
        have c3 := hc3 W hW
        have c4 := hc4 W hW
        have c5 := hc5 W hW
        go_simp
        exact rfl) ?_; simp only [Act.put, List.setIfInBounds_toArray, List.set_cons_zero, List.set_cons_succ])
    refine wpKn_adds hs rfl (by rfl) (fun W hW hd => ?_) (fun v7 hv => ?_)
    · unfold Gives
      go_simp
      refine gives_call (Bin.num k W (by omega) (by have := HV.out; omega)) ?_
      rintro e w3 ⟨u, rfl, k3, b3⟩
      exact ⟨_, rfl, k3, b3.form, _, _, b3.bs (Nat.le_refl _)⟩
    obtain ⟨a7, c7, rfl⟩ : ∃ a c, v7 = .slice a 8 c := hv
    simp only [Act.put, List.setIfInBounds_toArray, List.set_cons_zero, List.set_cons_succ]
    iterate 3 (refine wpPar_pure rfl (by rfl) _ (fun W hW => by
        have c1 := hc1 W hW
        have c2 := hc2 W hW
        have c3 := hc3 W hW
        have c4 := hc4 W hW
        have c5 := hc5 W hW
        go_simp
        exact rfl) ?_; simp only [Act.put, List.setIfInBounds_toArray, List.set_cons_zero, List.set_cons_succ])
    refine wpKn_adds hs rfl (by rfl) (fun W hW hd => ?_) (fun v11 hv => ?_)
    · unfold Gives
      go_simp
      refine gives_call (Bin.num C W HV.out.2.2.1 HV.out.2.2.2.1) ?_
      rintro e w3 ⟨u, rfl, k3, b3⟩
      exact ⟨_, rfl, k3, b3.form, _, _, b3.bs (Nat.le_refl _)⟩
    obtain ⟨a11, c11, rfl⟩ : ∃ a c, v11 = .slice a 8 c := hv
    simp only [Act.put, List.setIfInBounds_toArray, List.set_cons_zero, List.set_cons_succ]
    iterate 2 (refine wpPar_pure rfl (by rfl) _ (fun W hW => by
        have c1 := hc1 W hW
        have c2 := hc2 W hW
        have c3 := hc3 W hW
        have c4 := hc4 W hW
        have c5 := hc5 W hW
        go_simp
        exact rfl) ?_; simp only [Act.put, List.setIfInBounds_toArray, List.set_cons_zero, List.set_cons_succ])
    refine wpKn_adds hs rfl (by rfl) (fun W hW hd => ?_) (fun v14 hv => ?_)
    · unfold Gives
      go_simp
      refine gives_call (HG.out W) ?_
      rintro e w3 ⟨u, rfl, k3, b3⟩
      exact ⟨_, rfl, k3, b3.form, _, _, b3.bs (Nat.le_refl _)⟩
    obtain ⟨a14, c14, rfl⟩ : ∃ a c, v14 = .slice a G.length c := hv
    simp only [Act.put, List.setIfInBounds_toArray, List.set_cons_zero, List.set_cons_succ]
    refine wpKn_adds hs rfl (by rfl) (fun W hW hd => ?_) (fun v15 hv => ?_)
    · unfold Gives
      have h0 := hbL.kept hW (fun _ _ _ h => h)
      obtain ⟨lo2, hi2, h2⟩ : ∃ lo hi, Bs W lo hi (.slice a4 8 c4) (leB V) := hd 4 (List.Mem.head _)
      obtain ⟨lo3, hi3, h3⟩ : ∃ lo hi, Bs W lo hi (.slice a7 8 c7) (leB k) := hd 7 (List.Mem.tail _ (List.Mem.head _))
      obtain ⟨lo4, hi4, h4⟩ : ∃ lo hi, Bs W lo hi (.slice a11 8 c11) (leB C) := hd 11 (List.Mem.tail _ (List.Mem.tail _ (List.Mem.head _)))
      obtain ⟨lo5, hi5, h5⟩ : ∃ lo hi, Bs W lo hi (.slice a14 G.length c14) G := hd 14 (List.Mem.tail _ (List.Mem.tail _ (List.Mem.tail _ (List.Mem.head _))))
      go_simp
      exact ⟨(Kept.refl None W).alloc _, ⟨_, _, rfl⟩, _, _, _, _, Bss.new W #[.slice aL L.length cL, .slice a4 8 c4, .slice a7 8 c7, .slice a11 8 c11, .slice a14 G.length c14] 32 [L, leB V, leB k, leB C, G] 5 rfl (by decide) ⟨h0.all, h2.all, h3.all, h4.all, h5.all, trivial⟩⟩
    obtain ⟨a15, c15, rfl⟩ : ∃ a c, v15 = .slice a 5 c := hv
    simp only [Act.put, List.setIfInBounds_toArray, List.set_cons_zero, List.set_cons_succ]
    refine wpKn_adds hs rfl (by rfl) (fun W hW hd => ?_) (fun v16 hv => ?_)
    · unfold Gives
      obtain ⟨lo1, hi1, lo2, hi2, h1⟩ : ∃ lo hi lo' hi', Bss W lo hi lo' hi' (.slice a15 5 c15) [L, leB V, leB k, leB C, G] := hd 15 (List.Mem.head _)
      go_simp
      refine gives_call (Bin.join _ _ _ _ _ _ W h1 (by have := HL.out; simp [total, leB_length]; omega)) ?_
      rintro e w3 ⟨u, rfl, k3, b3⟩
      have b4 := b3.base hW.size
      rw [HT.out] at b4
      exact ⟨_, rfl, k3, b4.form, b4⟩
    obtain ⟨a16, c16, rfl⟩ : ∃ a c, v16 = .slice a T.length c := hv
    simp only [Act.put, List.setIfInBounds_toArray, List.set_cons_zero, List.set_cons_succ]
    iterate 2 (refine wpPar_pure rfl (by rfl) _ (fun W hW => by
        go_simp
        exact rfl) ?_; simp only [Act.put, List.setIfInBounds_toArray, List.set_cons_zero, List.set_cons_succ])
    refine wpPar_nil (fun W hW hG => ?_)
    have hb : Ob W w2.heap.size (.slice a16 T.length c16) T := hG 16
    have hb1 := hb.base k03.size
    have k04 := k03.then hW (fun _ _ h => h)
    clear hG hb hc0 hc1 hc2 hc3 hc4 hc5 hs k03 hW hbL
    go_wp2
    go_ret2
    exact ⟨_, rfl, k04, hb1⟩
end Up
end Go.Proofs.Ytbckjkfdkgomiaa
