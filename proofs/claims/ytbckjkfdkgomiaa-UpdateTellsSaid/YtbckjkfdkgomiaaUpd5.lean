/- Package update, what asks and writes: each function by its contract, over the plain functions of Req5. -/
import Derived.Test.YtbckjkfdkgomiaaCheck4
import Derived.Test.YtbckjkfdkgomiaaPut4
import Derived.Test.YtbckjkfdkgomiaaStr5
namespace Go.Proofs.Ytbckjkfdkgomiaa
open Go.RowKit Go.Pm
namespace Up

theorem aEnt : AggTy Try.prog 39 3 := Sg.AggTy.of (by kernel_rfl) (by kernel_rfl)
theorem aUpd : AggTy Try.prog 26 6 := Sg.AggTy.of (by kernel_rfl) (by kernel_rfl)
theorem ent_all (n : ByteArray) (v : Int) (k : Nat) : (#[.string n, .int .i64 v, .int .u64 (k : Int)] : Array Value).all (·.oneCell') = true := by simp [Value.oneCell']
theorem upd_all (n : ByteArray) (v c : Int) (k r s : Nat) : (#[.string n, .int .i64 v, .int .u64 (k : Int), .int .i64 c, .int .u64 (r : Int), .int .u64 (s : Int)] : Array Value).all (·.oneCell') = true := by simp [Value.oneCell']

theorem prime_ge (s : Nat) (b : Bool) (h : decide (prime61 ≤ s) = b) : ∀ z, z = s → decide ((2305843009213693951 : Int) ≤ (z : Int)) = b := by
  rintro z rfl
  rw [← h, decide_eq_decide]
  unfold prime61
  omega

set_option maxRecDepth 100000 in
set_option maxHeartbeats 1000000 in
/-- update.Right. -/
theorem right (n : ByteArray) (v c : Int) (k r s : Nat) (w : World) : Calls Try.prog 14 #[updV n v k c r s] w fun e w' => e = .returned (.bool (rightB n.size v k c)) ∧ Kept None w w' := by
  have k0 : Kept None w (w.alloc (.cells #[.string n, .int .i64 v, .int .u64 (k : Int), .int .i64 c, .int .u64 (r : Int), .int .u64 (s : Int)] 26)) := (Kept.refl _ _).alloc _
  by_cases h1 : n.size < 1
  · rw [rightB_no (by omega)]
    go_enter Try.func14, Try.ntmps14
    go_wp2
    go_ret
    exact ⟨rfl, k0⟩
  by_cases h2 : 32 < n.size
  · rw [rightB_no (by omega)]
    go_enter Try.func14, Try.ntmps14
    go_wp2
    go_ret
    exact ⟨rfl, k0⟩
  by_cases h3 : v < 1
  · rw [rightB_no (by omega)]
    go_enter Try.func14, Try.ntmps14
    go_wp2
    go_ret
    exact ⟨rfl, k0⟩
  by_cases h4 : 1073741824 < v
  · rw [rightB_no (by omega)]
    go_enter Try.func14, Try.ntmps14
    go_wp2
    go_ret
    exact ⟨rfl, k0⟩
  by_cases h5 : k < 1
  · rw [rightB_no (by omega)]
    go_enter Try.func14, Try.ntmps14
    go_wp2
    go_ret
    exact ⟨rfl, k0⟩
  by_cases h6 : prime61 ≤ k
  · rw [rightB_no (by omega)]
    have hb := prime_ge k true (decide_eq_true h6)
    clear h6
    go_enter Try.func14, Try.ntmps14
    go_wp2
    go_ret
    exact ⟨rfl, k0⟩
  have hb := prime_ge k false (decide_eq_false h6)
  have e1 : rightB n.size v k c = (c == 0 || c == 1) := by
    rw [Bool.eq_iff_iff, rightB_iff]
    simp only [Bool.or_eq_true, beq_iff_eq]
    omega
  rw [e1]
  clear h6 e1 k0
  go_enter Try.func14, Try.ntmps14
  go_wp2
  all_goals
    go_ret
    exact ⟨rfl, (Kept.refl _ _).alloc _⟩

set_option maxHeartbeats 1000000 in
/-- update.Entry. -/
theorem entry (n : ByteArray) (v c : Int) (k r s : Nat) (w : World) : Calls Try.prog 16 #[updV n v k c r s] w fun e w' => e = .returned (entV n v k) ∧ Kept None w w' := by
  have k0 : Kept None w ((w.alloc (.cells #[.string n, .int .i64 v, .int .u64 (k : Int), .int .i64 c, .int .u64 (r : Int), .int .u64 (s : Int)] 26)).alloc (.cells #[.string ⟨#[]⟩, .int .i64 0, .int .u64 0] 39)) := ((Kept.refl _ _).alloc _).alloc _
  have hR := Blk.new2 w (.cells #[.string n, .int .i64 v, .int .u64 (k : Int), .int .i64 c, .int .u64 (r : Int), .int .u64 (s : Int)] 26) #[.string ⟨#[]⟩, .int .i64 0, .int .u64 0] 39
  go_enter Try.func16, Try.ntmps16
  go_wp2_with (first | (refine wpList_store_blk rfl _ _ _ rfl rfl rfl hR aEnt rfl (ent_all _ _ _) ?_; intro w6 hR6 k6) | fail)
  exact bodyPost_ret (v := entV n v k) (results_blk rfl _ rfl hR6 aEnt) rfl ⟨rfl, k0.then k6 (fun i hi (h : i = w.heap.size + 1) => by omega)⟩

theorem msg_flat (n : ByteArray) (v : Int) (k : Nat) : [[85], lumpB (strB n), leB (U6 v), leB (k : Int)].flatten = msgB n v k := by simp [msgB, fieldsB]

set_option maxRecDepth 100000 in
set_option maxHeartbeats 4000000 in
/-- update.Message. -/
theorem message (n : ByteArray) (v : Int) (k : Nat) (w : World) (hn : n.size ≤ 274877906944) (hk : k < 18446744073709551616) : Calls Try.prog 17 #[entV n v k] w fun e w' => ∃ u, e = .returned u ∧ Kept None w w' ∧ Ob w' w.heap.size u (msgB n v k) := by
  have hsn := strB_len n
  have hv0 := U6_ge v
  have hv1 := U6_lt v
  obtain ⟨V, hV⟩ : ∃ V, V = U6 v := ⟨_, rfl⟩
  have hw : IntKind.u64.wrap v = V := by rw [IntKind.wrap_u64, hV]
  have hf := msg_flat n v k
  rw [← hV] at hv0 hv1 hf
  have HF := hid hf
  clear hV hf
  obtain ⟨L, hL⟩ : ∃ L, L = lumpB (strB n) := ⟨_, rfl⟩
  have hLl : L.length = 8 + n.size := by rw [hL, lumpB_len, hsn]
  have hj : ∀ v lo hi W, Bs W lo hi v (strB n) → Calls Try.prog 29 #[v] W fun en w' => ∃ v', en = .returned v' ∧ Kept None W w' ∧ Ob w' W.heap.size v' L := by
    intro v lo hi W h
    rw [hL]
    exact Bin.lump v lo hi (strB n) W h (by omega)
  rw [← hL] at HF
  have HJ := hid hj
  have HL := hid hLl
  clear hj hL hLl
  go_enter Try.func17, Try.ntmps17
  go_wp2_with fail
  obtain ⟨w1, hw1⟩ : ∃ w1, w1 = w.alloc (.cells #[.string n, .int .i64 v, .int .u64 (k : Int)] 39) := ⟨_, rfl⟩
  have hB := Blk.new w #[.string n, .int .i64 v, .int .u64 (k : Int)] 39
  have k0 : Kept None w (w.alloc (.cells #[.string n, .int .i64 v, .int .u64 (k : Int)] 39)) := (Kept.refl _ _).alloc _
  rw [← hw1] at hB k0 ⊢
  clear hw1
  have hc0 : ∀ W, Kept None w1 W → W.cell? ⟨w.heap.size, 0, none⟩ = some (.string n) := fun W hW => (hB.kept hW (fun h => h)).cell 0
  have hc1 : ∀ W, Kept None w1 W → W.cell? ⟨w.heap.size, 1, none⟩ = some (.int .i64 v) := fun W hW => (hB.kept hW (fun h => h)).cell 1
  have hc2 : ∀ W, Kept None w1 W → W.cell? ⟨w.heap.size, 2, none⟩ = some (.int .u64 (k : Int)) := fun W hW => (hB.kept hW (fun h => h)).cell 2
  clear hB
  have hs : Steady [.bytes 0 ([85]), .bytes 3 (strB n), .bytes 4 (L) [3], .bytes 8 (leB V), .bytes 11 (leB k), .lists 12 ([[85], L, leB V, leB k]) [0, 4, 8, 11], .own 5 13 (w1.heap.size) (msgB n v k) [12]] := Steady.bytes (Steady.bytes (Steady.bytes (Steady.bytes (Steady.bytes (Steady.lists (Steady.own (Steady.nil)))))))
  refine wp_region_kn w1 _ hs (Kept.refl _ _) (by kernel_rfl) (by kernel_rfl) (by kernel_rfl) ?_
  refine wpKn_adds hs rfl (by rfl) (fun W hW hd => ?_) (fun v0 hv => ?_)
  · unfold Gives
    go_simp
    exact ⟨(Kept.refl None W).alloc _, ⟨_, _, rfl⟩, _, _, Vs.new W #[.int .u8 85] 5 1 (by decide) (by decide)⟩
  obtain ⟨a0, c0, rfl⟩ : ∃ a c, v0 = .slice a 1 c := hv
  simp only [Act.put, List.setIfInBounds_toArray, List.set_cons_zero, List.set_cons_succ]
  iterate 2 (refine wpPar_pure rfl (by rfl) _ (fun W hW => by
      have c0 := hc0 W hW
      have c1 := hc1 W hW
      have c2 := hc2 W hW
      go_simp
      exact rfl) ?_; simp only [Act.put, List.setIfInBounds_toArray, List.set_cons_zero, List.set_cons_succ])
  refine wpKn_adds hs rfl (by rfl) (fun W hW hd => ?_) (fun v3 hv => ?_)
  · refine gives_bytes 9 32 5 _ rfl tString tBytes' tByte rfl (by omega) fun c w' k1 b1 => ?_
    exact ⟨k1, by rw [← hsn]; exact ⟨_, _, rfl⟩, _, _, b1⟩
  obtain ⟨a3, c3, rfl⟩ : ∃ a c, v3 = .slice a (strB n).length c := hv
  simp only [Act.put, List.setIfInBounds_toArray, List.set_cons_zero, List.set_cons_succ]
  refine wpKn_adds hs rfl (by rfl) (fun W hW hd => ?_) (fun v4 hv => ?_)
  · unfold Gives
    obtain ⟨lo1, hi1, h1⟩ : ∃ lo hi, Bs W lo hi (.slice a3 (strB n).length c3) (strB n) := hd 3 (List.Mem.head _)
    go_simp
    refine gives_call (HJ.out _ _ _ W h1) ?_
    rintro e w3 ⟨u, rfl, k3, b3⟩
    exact ⟨_, rfl, k3, b3.form, _, _, b3.bs (Nat.le_refl _)⟩
  obtain ⟨a4, c4, rfl⟩ : ∃ a c, v4 = .slice a L.length c := hv
  simp only [Act.put, List.setIfInBounds_toArray, List.set_cons_zero, List.set_cons_succ]
  iterate 3 (refine wpPar_pure rfl (by rfl) _ (fun W hW => by
      have c0 := hc0 W hW
      have c1 := hc1 W hW
      have c2 := hc2 W hW
      go_simp
      exact rfl) ?_; simp only [Act.put, List.setIfInBounds_toArray, List.set_cons_zero, List.set_cons_succ])
  refine wpKn_adds hs rfl (by rfl) (fun W hW hd => ?_) (fun v8 hv => ?_)
  · unfold Gives
    go_simp
    refine gives_call (Bin.num V W hv0 hv1) ?_
    rintro e w3 ⟨u, rfl, k3, b3⟩
    exact ⟨_, rfl, k3, b3.form, _, _, b3.bs (Nat.le_refl _)⟩
  obtain ⟨a8, c8, rfl⟩ : ∃ a c, v8 = .slice a 8 c := hv
  simp only [Act.put, List.setIfInBounds_toArray, List.set_cons_zero, List.set_cons_succ]
  iterate 2 (refine wpPar_pure rfl (by rfl) _ (fun W hW => by
      have c0 := hc0 W hW
      have c1 := hc1 W hW
      have c2 := hc2 W hW
      go_simp
      exact rfl) ?_; simp only [Act.put, List.setIfInBounds_toArray, List.set_cons_zero, List.set_cons_succ])
  refine wpKn_adds hs rfl (by rfl) (fun W hW hd => ?_) (fun v11 hv => ?_)
  · unfold Gives
    go_simp
    refine gives_call (Bin.num k W (by omega) (by omega)) ?_
    rintro e w3 ⟨u, rfl, k3, b3⟩
    exact ⟨_, rfl, k3, b3.form, _, _, b3.bs (Nat.le_refl _)⟩
  obtain ⟨a11, c11, rfl⟩ : ∃ a c, v11 = .slice a 8 c := hv
  simp only [Act.put, List.setIfInBounds_toArray, List.set_cons_zero, List.set_cons_succ]
  refine wpKn_adds hs rfl (by rfl) (fun W hW hd => ?_) (fun v12 hv => ?_)
  · unfold Gives
    obtain ⟨lo1, hi1, h1⟩ : ∃ lo hi, Bs W lo hi (.slice a0 1 c0) [85] := hd 0 (List.Mem.head _)
    obtain ⟨lo2, hi2, h2⟩ : ∃ lo hi, Bs W lo hi (.slice a4 L.length c4) L := hd 4 (List.Mem.tail _ (List.Mem.head _))
    obtain ⟨lo3, hi3, h3⟩ : ∃ lo hi, Bs W lo hi (.slice a8 8 c8) (leB V) := hd 8 (List.Mem.tail _ (List.Mem.tail _ (List.Mem.head _)))
    obtain ⟨lo4, hi4, h4⟩ : ∃ lo hi, Bs W lo hi (.slice a11 8 c11) (leB k) := hd 11 (List.Mem.tail _ (List.Mem.tail _ (List.Mem.tail _ (List.Mem.head _))))
    go_simp
    exact ⟨(Kept.refl None W).alloc _, ⟨_, _, rfl⟩, _, _, _, _, Bss.new W #[.slice a0 1 c0, .slice a4 L.length c4, .slice a8 8 c8, .slice a11 8 c11] 32 [[85], L, leB V, leB k] 4 rfl (by decide) ⟨h1.all, h2.all, h3.all, h4.all, trivial⟩⟩
  obtain ⟨a12, c12, rfl⟩ : ∃ a c, v12 = .slice a 4 c := hv
  simp only [Act.put, List.setIfInBounds_toArray, List.set_cons_zero, List.set_cons_succ]
  refine wpKn_adds hs rfl (by rfl) (fun W hW hd => ?_) (fun v13 hv => ?_)
  · unfold Gives
    obtain ⟨lo1, hi1, lo2, hi2, h1⟩ : ∃ lo hi lo' hi', Bss W lo hi lo' hi' (.slice a12 4 c12) [[85], L, leB V, leB k] := hd 12 (List.Mem.head _)
    go_simp
    refine gives_call (Bin.join _ _ _ _ _ _ W h1 (by have := HL.out; simp [total, leB_length]; omega)) ?_
    rintro e w3 ⟨u, rfl, k3, b3⟩
    have b4 := b3.base hW.size
    rw [HF.out] at b4
    exact ⟨_, rfl, k3, b4.form, b4⟩
  obtain ⟨a13, c13, rfl⟩ : ∃ a c, v13 = .slice a (msgB n v k).length c := hv
  simp only [Act.put, List.setIfInBounds_toArray, List.set_cons_zero, List.set_cons_succ]
  iterate 1 (refine wpPar_pure rfl (by rfl) _ (fun W hW => by
      go_simp
      exact rfl) ?_; simp only [Act.put, List.setIfInBounds_toArray, List.set_cons_zero, List.set_cons_succ])
  refine wpPar_nil (fun W hW hG => ?_)
  have hb : Ob W w1.heap.size (.slice a13 (msgB n v k).length c13) (msgB n v k) := hG 13
  have hb1 := hb.base k0.size
  have k01 := k0.then hW (fun _ _ h => h)
  clear hG hb hc0 hc1 hc2 hs k0 hW
  go_wp2
  go_ret
  exact ⟨_, rfl, k01, hb1⟩
end Up
end Go.Proofs.Ytbckjkfdkgomiaa
