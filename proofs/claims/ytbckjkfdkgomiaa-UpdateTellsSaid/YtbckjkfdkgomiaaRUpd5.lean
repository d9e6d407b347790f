/- Package postmarkref5, requests: what asks, signs, writes; each function by its contract, over the same plain functions as package update. -/
import Derived.Test.YtbckjkfdkgomiaaUpdP5
import Derived.Test.YtbckjkfdkgomiaaRefSigs4
namespace Go.Proofs.Ytbckjkfdkgomiaa
open Go.RowKit Go.Pm
namespace RUp

theorem prime_lt (s : Nat) (b : Bool) (h : decide (s < prime61) = b) : ∀ z, z = s → decide ((z : Int) < (2305843009213693951 : Int)) = b := by
  rintro z rfl
  rw [← h, decide_eq_decide]
  unfold prime61
  omega
theorem entR_no {m : Nat} {v : Int} {k : Nat} (h : ¬ (1 ≤ m ∧ m ≤ 32 ∧ 1 ≤ v ∧ v ≤ 1073741824 ∧ 1 ≤ k ∧ k < prime61)) : entR m v k = false := by
  cases hb : entR m v k with
  | false => rfl
  | true =>
    unfold entR at hb
    simp only [Bool.and_eq_true, decide_eq_true_eq, and_assoc] at hb
    exact absurd hb h
theorem entR_yes {m : Nat} {v : Int} {k : Nat} (h : 1 ≤ m ∧ m ≤ 32 ∧ 1 ≤ v ∧ v ≤ 1073741824 ∧ 1 ≤ k ∧ k < prime61) : entR m v k = true := by
  unfold entR
  simp only [Bool.and_eq_true, decide_eq_true_eq, and_assoc]
  exact h

set_option maxRecDepth 100000 in
set_option maxHeartbeats 1000000 in
/-- postmarkref5.EntryRight. -/
theorem entryRight (n : ByteArray) (v : Int) (k : Nat) (w : World) : Calls Try.prog 36 #[entV n v k] w fun e w' => e = .returned (.bool (entR n.size v k)) ∧ Kept None w w' := by
  have k0 : Kept None w (w.alloc (.cells #[.string n, .int .i64 v, .int .u64 (k : Int)] 39)) := (Kept.refl _ _).alloc _
  by_cases h1 : n.size < 1
  · rw [entR_no (by omega)]
    go_enter Try.func36, Try.ntmps36
    go_wp2
    go_ret
    exact ⟨rfl, k0⟩
  by_cases h2 : 32 < n.size
  · rw [entR_no (by omega)]
    go_enter Try.func36, Try.ntmps36
    go_wp2
    go_ret
    exact ⟨rfl, k0⟩
  by_cases h3 : v < 1
  · rw [entR_no (by omega)]
    go_enter Try.func36, Try.ntmps36
    go_wp2
    go_ret
    exact ⟨rfl, k0⟩
  by_cases h4 : 1073741824 < v
  · rw [entR_no (by omega)]
    go_enter Try.func36, Try.ntmps36
    go_wp2
    go_ret
    exact ⟨rfl, k0⟩
  by_cases h5 : k < 1
  · rw [entR_no (by omega)]
    go_enter Try.func36, Try.ntmps36
    go_wp2
    go_ret
    exact ⟨rfl, k0⟩
  by_cases h6 : k < prime61
  · rw [entR_yes (by omega)]
    have hb := prime_lt k true (decide_eq_true h6)
    clear h6
    go_enter Try.func36, Try.ntmps36
    go_wp2
    go_ret
    exact ⟨rfl, k0⟩
  · rw [entR_no (by omega)]
    have hb := prime_lt k false (decide_eq_false h6)
    clear h6
    go_enter Try.func36, Try.ntmps36
    go_wp2
    go_ret
    exact ⟨rfl, k0⟩

set_option maxHeartbeats 1000000 in
/-- postmarkref5.Entry. -/
theorem entry (n : ByteArray) (v c : Int) (k r s : Nat) (w : World) : Calls Try.prog 13 #[updV n v k c r s] w fun e w' => e = .returned (entV n v k) ∧ Kept None w w' := by
  have k0 : Kept None w ((w.alloc (.cells #[.string n, .int .i64 v, .int .u64 (k : Int), .int .i64 c, .int .u64 (r : Int), .int .u64 (s : Int)] 26)).alloc (.cells #[.string ⟨#[]⟩, .int .i64 0, .int .u64 0] 39)) := ((Kept.refl _ _).alloc _).alloc _
  have hR := Blk.new2 w (.cells #[.string n, .int .i64 v, .int .u64 (k : Int), .int .i64 c, .int .u64 (r : Int), .int .u64 (s : Int)] 26) #[.string ⟨#[]⟩, .int .i64 0, .int .u64 0] 39
  go_enter Try.func13, Try.ntmps13
  go_wp2_with (first | (refine wpList_store_blk rfl _ _ _ rfl rfl rfl hR Up.aEnt rfl (Up.ent_all _ _ _) ?_; intro w6 hR6 k6) | fail)
  exact bodyPost_ret (v := entV n v k) (results_blk rfl _ rfl hR6 Up.aEnt) rfl ⟨rfl, k0.then k6 (fun i hi (h : i = w.heap.size + 1) => by omega)⟩

set_option maxRecDepth 100000 in
set_option maxHeartbeats 1000000 in
/-- postmarkref5.Right. -/
theorem right (n : ByteArray) (v c : Int) (k r s : Nat) (w : World) : Calls Try.prog 15 #[updV n v k c r s] w fun e w' => e = .returned (.bool (rightB n.size v k c)) ∧ Kept None w w' := by
  have he := fun w => entry n v c k r s w
  have hq := fun w => entryRight n v k w
  have e1 : rightB n.size v k c = (entR n.size v k && (c == 0 || c == 1)) := by
    unfold rightB
    rfl
  rw [e1]
  have hB0 := Blk.new w #[.string n, .int .i64 v, .int .u64 (k : Int), .int .i64 c, .int .u64 (r : Int), .int .u64 (s : Int)] 26
  have k0 : Kept None w (w.alloc (.cells #[.string n, .int .i64 v, .int .u64 (k : Int), .int .i64 c, .int .u64 (r : Int), .int .u64 (s : Int)] 26)) := (Kept.refl _ _).alloc _
  cases hb : entR n.size v k with
  | false =>
    rw [hb] at hq
    have H := hid (And.intro he hq)
    clear he hq hb e1
    go_enter Try.func15, Try.ntmps15
    go_wp2_with (first | (refine wpList_load_blk rfl _ _ rfl rfl hB0 Up.aUpd ?_) | fail)
    refine (H.out.1 _).mono ?_
    rintro e w1 ⟨rfl, k1⟩
    have k01 := k0.trans k1
    go_wp2_with fail
    refine (H.out.2 _).mono ?_
    rintro e w2 ⟨rfl, k2⟩
    have k02 := k01.trans k2
    go_wp2
    go_ret
    exact ⟨rfl, k02⟩
  | true =>
    rw [hb] at hq
    have H := hid (And.intro he hq)
    clear he hq hb e1
    go_enter Try.func15, Try.ntmps15
    go_wp2_with (first | (refine wpList_load_blk rfl _ _ rfl rfl hB0 Up.aUpd ?_) | fail)
    refine (H.out.1 _).mono ?_
    rintro e w1 ⟨rfl, k1⟩
    have k01 := k0.trans k1
    have hB1 := hB0.kept k1 (fun h => h)
    go_wp2_with fail
    refine (H.out.2 _).mono ?_
    rintro e w2 ⟨rfl, k2⟩
    have k02 := k01.trans k2
    have hB2 := hB1.kept k2 (fun h => h)
    have c3 : w2.cell? ⟨w.heap.size, 3, none⟩ = some (.int .i64 c) := hB2.cell 3
    clear hB0 hB1 k0 k1 k01 k2 H
    go_wp2
    all_goals
      go_ret
      first | exact ⟨rfl, k02⟩ | exact ⟨by simp; omega, k02⟩

theorem fields_flat (n : ByteArray) (v : Int) (k : Nat) : lumpB (strB n) ++ leB (U6 v) ++ leB (k : Int) = fieldsB n v k := rfl
set_option maxRecDepth 100000 in
set_option maxHeartbeats 4000000 in
/-- postmarkref5.Fields. -/
theorem fields (n : ByteArray) (v : Int) (k : Nat) (w : World) (hn : n.size ≤ 274877906944) (hk : k < 18446744073709551616) : Calls Try.prog 33 #[entV n v k] w fun e w' => ∃ u, e = .returned u ∧ Kept None w w' ∧ Ob w' w.heap.size u (fieldsB n v k) := by
  have hsn := strB_len n
  have hv0 := U6_ge v
  have hv1 := U6_lt v
  have hw : IntKind.u64.wrap v = U6 v := by rw [IntKind.wrap_u64]
  have hf := fields_flat n v k
  obtain ⟨V, hV⟩ : ∃ V, V = U6 v := ⟨_, rfl⟩
  rw [← hV] at hv0 hv1 hw hf
  obtain ⟨L, hL⟩ : ∃ L, L = lumpB (strB n) := ⟨_, rfl⟩
  have hLl : L.length = 8 + n.size := by rw [hL, lumpB_len, hsn]
  have hj : ∀ v lo hi W, Bs W lo hi v (strB n) → Calls Try.prog 49 #[v] W fun en w' => ∃ v', en = .returned v' ∧ Kept None W w' ∧ Ob w' W.heap.size v' L := by
    intro v lo hi W h
    rw [hL]
    exact Ref.lump v lo hi (strB n) W h (by omega)
  rw [← hL] at hf
  obtain ⟨F, hF⟩ : ∃ F, F = fieldsB n v k := ⟨_, rfl⟩
  rw [← hF] at hf ⊢
  have H := hid (And.intro hj (And.intro hf (And.intro hLl (And.intro hn (And.intro hk (And.intro hv0 hv1))))))
  have B0 := Blk.new w #[.string n, .int .i64 v, .int .u64 (k : Int)] 39
  have k0 : Kept None w (w.alloc (.cells #[.string n, .int .i64 v, .int .u64 (k : Int)] 39)) := (Kept.refl _ _).alloc _
  clear hj hf hLl hF hL hV hn hk hv0 hv1
  go_enter Try.func33, Try.ntmps33
  have c0 := World.cell?_alloc_new w #[.string n, .int .i64 v, .int .u64 (k : Int)] 39
  clear c0
  go_wp2_with (first | (refine wpList_bytes rfl 9 32 5 _ rfl tString tBytes' tByte rfl (by have := H.out; omega) ?_; intro gB cB w2 hgB kB bB) | fail)
  refine (H.out.1 _ _ _ _ bB).mono ?_
  rintro e w3 ⟨u, rfl, k3, b3⟩
  have kk := kB.trans k3
  have B3 := B0.kept kk (fun h => h)
  have k03 := k0.trans kk
  have hs3 := k03.size
  have b3' := b3.base (base' := w.heap.size + 1) (B0.kept kB (fun h => h)).lt
  obtain ⟨aL, cL, rfl⟩ := b3.form
  have c1 : w3.cell? ⟨w.heap.size, 1, none⟩ = some (.int .i64 v) := B3.cell 1
  clear B0 k0 kB bB k3 kk b3
  go_wp2_with fail
  refine (Ref.num V _ H.out.2.2.2.2.2.1 H.out.2.2.2.2.2.2).mono ?_
  rintro e w4 ⟨u4, rfl, k4, b4⟩
  have B4 := B3.kept k4 (fun h => h)
  have k04 := k03.trans k4
  have hs4 : w.heap.size + 1 ≤ w4.heap.size := B4.lt
  have d4 := b4.bs (Nat.le_refl _)
  obtain ⟨a4, c4, rfl⟩ := b4.form
  have b3'' := b3'.kept k4 (fun _ _ h => h)
  clear B3 k03 k4 b4 b3' c1 hs3
  go_wp2_with (first | (at_builtin; refine wpList_append_bo (l := L) (m := leB V) (base := w.heap.size + 1) rfl _ _ 32 rfl rtBytes rfl rfl b3'' d4 (by have := H.out; rw [leB_length]; omega) hs4 ?k5) | fail)
  case k5 =>
    intro a5 n5 c5 w5 b5 k5
    have hne : ∀ k, (Value.slice aL L.length cL).ownBlock = some k → w.heap.size + 1 ≤ k := fun k hk => (b3''.own k hk).1
    have k05 := Kept.own k04 k5 (fun k hk => Nat.le_of_succ_le (hne k hk))
    have B5 := B4.kept k5 (fun h => absurd (hne _ h) (by omega))
    have c2 : w5.cell? ⟨w.heap.size, 2, none⟩ = some (.int .u64 (k : Int)) := B5.cell 2
    clear b3'' B4 k04 k5 hne d4 hs4
    go_wp2_with fail
    refine (Ref.num k _ (by omega) (by have := H.out; omega)).mono ?_
    rintro e w6 ⟨u6, rfl, k6, b6⟩
    have k06 := k05.trans k6
    have d6 := b6.bs (Nat.le_refl _)
    have hs6 : w.heap.size + 1 ≤ w6.heap.size := (B5.kept k6 (fun h => h)).lt
    obtain ⟨a6, c6, rfl⟩ := b6.form
    have b5' := b5.kept k6 (fun _ _ h => h)
    clear B5 k05 k6 b6 b5 c2
    go_wp2_with (first | (at_builtin; refine wpList_append_bo (l := L ++ leB V) (m := leB k) (base := w.heap.size + 1) rfl _ _ 32 rfl rtBytes rfl rfl b5' d6 (by have := H.out; rw [List.length_append, leB_length, leB_length]; omega) hs6 ?k7) | fail)
    case k7 =>
      intro a7 n7 c7 w7 b7 k7
      have k07 := Kept.own k06 k7 (fun k hk => Nat.le_of_succ_le (b5'.own k hk).1)
      rw [← List.append_assoc, H.out.2.1] at b7
      have b8 := b7.base (Nat.le_succ w.heap.size)
      clear b5' k06 k7 d6 b7
      go_wp2
      go_ret
      exact ⟨_, rfl, k07, b8⟩

set_option maxRecDepth 100000 in
set_option maxHeartbeats 4000000 in
/-- postmarkref5.Message. -/
theorem message (n : ByteArray) (v : Int) (k : Nat) (w : World) (hn : n.size ≤ 274877906944) (hk : k < 18446744073709551616) : Calls Try.prog 18 #[entV n v k] w fun e w' => ∃ u, e = .returned u ∧ Kept None w w' ∧ Ob w' w.heap.size u (msgB n v k) := by
  have hf := fun w => fields n v k w hn hk
  have hl := fieldsB_len n v k
  have he : 85 :: fieldsB n v k = msgB n v k := rfl
  obtain ⟨F, hF⟩ : ∃ F, F = fieldsB n v k := ⟨_, rfl⟩
  obtain ⟨M, hM⟩ : ∃ M, M = msgB n v k := ⟨_, rfl⟩
  rw [← hF] at hf hl he
  rw [← hM] at he ⊢
  have H := hid (And.intro hf (And.intro hl (And.intro hn he)))
  clear hf hl he hF hM hn hk
  have hB0 : Blk ((w.alloc (.cells #[.string n, .int .i64 v, .int .u64 (k : Int)] 39)).alloc (.cells #[.int .u8 85] 5)) w.heap.size #[.string n, .int .i64 v, .int .u64 (k : Int)] 39 := (Blk.new w _ _).alloc _
  have k0 : Kept None w ((w.alloc (.cells #[.string n, .int .i64 v, .int .u64 (k : Int)] 39)).alloc (.cells #[.int .u8 85] 5)) := ((Kept.refl _ _).alloc _).alloc _
  have b0 : Ob ((w.alloc (.cells #[.string n, .int .i64 v, .int .u64 (k : Int)] 39)).alloc (.cells #[.int .u8 85] 5)) (w.heap.size + 1) (.slice (some ⟨w.heap.size + 1, 0, none⟩) 1 1) [85] := by
    have h := Bo.new (w.alloc (.cells #[.string n, .int .i64 v, .int .u64 (k : Int)] 39)) 5 [85] #[.int .u8 85] (by rfl) 1 rfl (by decide)
    simpa using h
  go_enter Try.func18, Try.ntmps18
  go_wp2_with (first | (refine wpList_load_blk rfl _ _ rfl rfl hB0 Up.aEnt ?_) | fail)
  refine (H.out.1 _).mono ?_
  rintro e w1 ⟨u, rfl, k1, b1⟩
  have k01 := k0.trans k1
  have b01 := b0.kept k1 (fun _ _ h => h)
  have d1 := b1.bs (Nat.le_refl _)
  have hs1 : w.heap.size + 1 ≤ w1.heap.size := (hB0.kept k1 (fun h => h)).lt
  obtain ⟨a1, c1, rfl⟩ := b1.form
  clear hB0 k0 b0 k1 b1
  go_wp2_with (first | (at_builtin; refine wpList_append_bo (l := [85]) (m := F) (base := w.heap.size + 1) rfl _ _ 32 rfl rtBytes rfl rfl b01 d1 (by have := H.out; simp; omega) hs1 ?k5) | fail)
  case k5 =>
    intro a5 n5 c5 w5 b5 k5
    have k05 := Kept.own k01 k5 (fun k hk => Nat.le_of_succ_le (b01.own k hk).1)
    rw [H.out.2.2.2] at b5
    have b6 := b5.base (Nat.le_succ w.heap.size)
    clear b01 k01 k5 d1 b5
    go_wp2
    go_ret
    exact ⟨_, rfl, k05, b6⟩

set_option maxRecDepth 100000 in
set_option maxHeartbeats 4000000 in
/-- postmarkref5.Sign. -/
theorem sign (x : Nat) (n : ByteArray) (v c : Int) (k r s : Nat) (w : World) (hn : n.size ≤ 274877906944) (hk : k < 18446744073709551616) :
    Calls Try.prog 20 #[.int .u64 x, updV n v k c r s] w fun e w' => e = .returned (updV n v k c (sigR x (msgB n v k)) (sigS x (msgB n v k))) ∧ Kept None w w' := by
  have hs := fun v' lo hi w h => Ref.sign x v' lo hi (msgB n v k) w h (by rw [msgB_len]; omega)
  have hm := fun w => message n v k w hn hk
  have he := fun w => entry n v c k r s w
  obtain ⟨R, hR⟩ : ∃ R, R = sigR x (msgB n v k) := ⟨_, rfl⟩
  obtain ⟨S, hS⟩ : ∃ S, S = sigS x (msgB n v k) := ⟨_, rfl⟩
  obtain ⟨M, hM⟩ : ∃ M, M = msgB n v k := ⟨_, rfl⟩
  rw [← hR, ← hS] at hs ⊢
  rw [← hM] at hs hm
  have H := hid (And.intro hs (And.intro hm he))
  clear hs hm he hR hS hM hn hk
  go_enter Try.func20, Try.ntmps20
  have hB0 : Blk ((w.alloc (.cells #[.string n, .int .i64 v, .int .u64 (k : Int), .int .i64 c, .int .u64 (r : Int), .int .u64 (s : Int)] 26)).alloc (.cells #[.string ⟨#[]⟩, .int .i64 0, .int .u64 0, .int .i64 0, .int .u64 0, .int .u64 0] 26)) w.heap.size #[.string n, .int .i64 v, .int .u64 (k : Int), .int .i64 c, .int .u64 (r : Int), .int .u64 (s : Int)] 26 := (Blk.new w _ _).alloc _
  have hR0 := Blk.new2 w (.cells #[.string n, .int .i64 v, .int .u64 (k : Int), .int .i64 c, .int .u64 (r : Int), .int .u64 (s : Int)] 26) #[.string ⟨#[]⟩, .int .i64 0, .int .u64 0, .int .i64 0, .int .u64 0, .int .u64 0] 26
  have k0 : Kept None w ((w.alloc (.cells #[.string n, .int .i64 v, .int .u64 (k : Int), .int .i64 c, .int .u64 (r : Int), .int .u64 (s : Int)] 26)).alloc (.cells #[.string ⟨#[]⟩, .int .i64 0, .int .u64 0, .int .i64 0, .int .u64 0, .int .u64 0] 26)) := ((Kept.refl _ _).alloc _).alloc _
  go_wp2_with (first | (refine wpList_load_blk rfl _ _ rfl rfl hB0 Up.aUpd ?_) | fail)
  refine (H.out.2.2 _).mono ?_
  rintro e w1 ⟨rfl, k1⟩
  have hB1 := hB0.kept k1 (fun h => h)
  have hR1 := hR0.kept k1 (fun h => h)
  have k01 := k0.trans k1
  clear hB0 hR0 k0 k1
  go_wp2_with fail
  refine (H.out.2.1 _).mono ?_
  rintro e w2 ⟨u, rfl, k2, b2⟩
  have hB2 := hB1.kept k2 (fun h => h)
  have hR2 := hR1.kept k2 (fun h => h)
  have k02 := k01.trans k2
  have b2' := b2.bs (Nat.le_refl _)
  clear hB1 hR1 k01 k2 b2
  obtain ⟨a2, c2, rfl, g1, g2, g3⟩ := b2'.shape
  clear g3
  go_wp2_with fail
  refine (H.out.1 _ _ _ _ b2').mono ?_
  rintro e w3 ⟨rfl, k3⟩
  have hB3 := hB2.kept k3 (fun h => h)
  have hR3 := hR2.kept k3 (fun h => h)
  have k03 := k02.trans k3
  clear hB2 hR2 k02 k3 b2' H
  have c4 : w3.cell? ⟨w.heap.size, 4, none⟩ = some (.int .u64 (r : Int)) := hB3.cell 4
  have c5 : w3.cell? ⟨w.heap.size, 5, none⟩ = some (.int .u64 (s : Int)) := hB3.cell 5
  have f4 := hB3.free 4
  have f5 := hB3.free 5
  have hB4 : Blk ((w3.setCell ⟨w.heap.size, 4, none⟩ (.int .u64 (R : Int))).setCell ⟨w.heap.size, 5, none⟩ (.int .u64 (S : Int))) w.heap.size #[.string n, .int .i64 v, .int .u64 (k : Int), .int .i64 c, .int .u64 (R : Int), .int .u64 (S : Int)] 26 := (hB3.set 4 _).set 5 _
  have hR4 := (hR3.setOther (a := ⟨w.heap.size, 4, none⟩) (by show w.heap.size + 1 ≠ w.heap.size; omega) (.int .u64 (R : Int))).setOther (a := ⟨w.heap.size, 5, none⟩) (by show w.heap.size + 1 ≠ w.heap.size; omega) (.int .u64 (S : Int))
  have k04 := (k03.setNew (Nat.le_refl _) 4 (.int .u64 (R : Int))).setNew (Nat.le_refl _) 5 (.int .u64 (S : Int))
  clear hB3 hR3 k03
  go_wp2_with (first | (refine wpList_load_blk rfl _ _ rfl rfl hB4 Up.aUpd ?_) | (refine wpList_store_blk rfl _ _ _ rfl rfl rfl hR4 Up.aUpd rfl (Up.upd_all _ _ _ _ _ _) ?_; intro w6 hR6 k6) | fail)
  exact bodyPost_ret (v := updV n v k c R S) (results_blk rfl _ rfl hR6 Up.aUpd) rfl ⟨rfl, k04.then k6 (fun i hi (h : i = w.heap.size + 1) => by omega)⟩

set_option maxRecDepth 100000 in
set_option maxHeartbeats 4000000 in
/-- postmarkref5.Check. -/
theorem check (n : ByteArray) (v c : Int) (k r s y : Nat) (w : World) (hn : n.size ≤ 274877906944) (hk : k < 18446744073709551616) :
    Calls Try.prog 23 #[updV n v k c r s, .int .u64 y] w fun e w' => e = .returned (.bool (checkN y (msgB n v k) r s)) ∧ Kept None w w' := by
  have hs := fun v' lo hi w h => Ref.check y r s v' lo hi (msgB n v k) w h (by rw [msgB_len]; omega)
  have hm := fun w => message n v k w hn hk
  have he := fun w => entry n v c k r s w
  obtain ⟨M, hM⟩ : ∃ M, M = msgB n v k := ⟨_, rfl⟩
  rw [← hM] at hs hm ⊢
  obtain ⟨q, hq⟩ : ∃ q, q = checkN y M r s := ⟨_, rfl⟩
  rw [← hq] at hs ⊢
  have H := hid (And.intro hs (And.intro hm he))
  clear hs hm he hM hq hn hk
  go_enter Try.func23, Try.ntmps23
  go_wp2_with fail
  obtain ⟨w1, hw1⟩ : ∃ w1, w1 = w.alloc (.cells #[.string n, .int .i64 v, .int .u64 (k : Int), .int .i64 c, .int .u64 (r : Int), .int .u64 (s : Int)] 26) := ⟨_, rfl⟩
  have hB := Blk.new w #[.string n, .int .i64 v, .int .u64 (k : Int), .int .i64 c, .int .u64 (r : Int), .int .u64 (s : Int)] 26
  have k0 : Kept None w (w.alloc (.cells #[.string n, .int .i64 v, .int .u64 (k : Int), .int .i64 c, .int .u64 (r : Int), .int .u64 (s : Int)] 26)) := (Kept.refl _ _).alloc _
  rw [← hw1] at hB k0 ⊢
  clear hw1
  have hc0 : ∀ W, Kept None w1 W → W.cell? ⟨w.heap.size, 0, none⟩ = some (.string n) := fun W hW => (hB.kept hW (fun h => h)).cell 0
  have hc1 : ∀ W, Kept None w1 W → W.cell? ⟨w.heap.size, 1, none⟩ = some (.int .i64 v) := fun W hW => (hB.kept hW (fun h => h)).cell 1
  have hc2 : ∀ W, Kept None w1 W → W.cell? ⟨w.heap.size, 2, none⟩ = some (.int .u64 (k : Int)) := fun W hW => (hB.kept hW (fun h => h)).cell 2
  have hc3 : ∀ W, Kept None w1 W → W.cell? ⟨w.heap.size, 3, none⟩ = some (.int .i64 c) := fun W hW => (hB.kept hW (fun h => h)).cell 3
  have hc4 : ∀ W, Kept None w1 W → W.cell? ⟨w.heap.size, 4, none⟩ = some (.int .u64 (r : Int)) := fun W hW => (hB.kept hW (fun h => h)).cell 4
  have hc5 : ∀ W, Kept None w1 W → W.cell? ⟨w.heap.size, 5, none⟩ = some (.int .u64 (s : Int)) := fun W hW => (hB.kept hW (fun h => h)).cell 5
  clear hB
  have hs : Steady [.val 2 (entV n v k), .bytes 3 (M), .val 6 (.bool q) [3]] := Steady.val (Steady.bytes (Steady.val (Steady.nil)))
  refine wp_region_kn w1 _ hs (Kept.refl _ _) (by kernel_rfl) (by kernel_rfl) (by kernel_rfl) ?_
  iterate 2 (refine wpPar_pure rfl (by rfl) _ (fun W hW => by
      have c0 := hc0 W hW
      have c1 := hc1 W hW
      have c2 := hc2 W hW
      have c3 := hc3 W hW
      have c4 := hc4 W hW
      have c5 := hc5 W hW
      go_simp
      exact rfl) ?_; simp only [Act.put, List.setIfInBounds_toArray, List.set_cons_zero, List.set_cons_succ])
  refine wpKn_adds hs rfl (by rfl) (fun W hW hd => ?_) (fun v2 hv => ?_)
  · unfold Gives
    go_simp
    refine gives_call (H.out.2.2 W) ?_
    rintro e w3 ⟨rfl, k3⟩
    exact ⟨_, rfl, k3, rfl, trivial⟩
  obtain rfl : v2 = entV n v k := hv
  simp only [Act.put, List.setIfInBounds_toArray, List.set_cons_zero, List.set_cons_succ]
  refine wpKn_adds hs rfl (by rfl) (fun W hW hd => ?_) (fun v3 hv => ?_)
  · unfold Gives
    go_simp
    refine gives_call (H.out.2.1 W) ?_
    rintro e w3 ⟨u, rfl, k3, b3⟩
    exact ⟨_, rfl, k3, b3.form, _, _, b3.bs (Nat.le_refl _)⟩
  obtain ⟨a3, c3, rfl⟩ : ∃ a c, v3 = .slice a M.length c := hv
  simp only [Act.put, List.setIfInBounds_toArray, List.set_cons_zero, List.set_cons_succ]
  iterate 2 (refine wpPar_pure rfl (by rfl) _ (fun W hW => by
      have c0 := hc0 W hW
      have c1 := hc1 W hW
      have c2 := hc2 W hW
      have c3 := hc3 W hW
      have c4 := hc4 W hW
      have c5 := hc5 W hW
      go_simp
      exact rfl) ?_; simp only [Act.put, List.setIfInBounds_toArray, List.set_cons_zero, List.set_cons_succ])
  refine wpKn_adds hs rfl (by rfl) (fun W hW hd => ?_) (fun v6 hv => ?_)
  · unfold Gives
    obtain ⟨lo1, hi1, h1⟩ : ∃ lo hi, Bs W lo hi (.slice a3 M.length c3) M := hd 3 (List.Mem.head _)
    go_simp
    refine gives_call (H.out.1 _ _ _ W h1) ?_
    rintro e w3 ⟨rfl, k3⟩
    exact ⟨_, rfl, k3, rfl, trivial⟩
  obtain rfl : v6 = .bool q := hv
  simp only [Act.put, List.setIfInBounds_toArray, List.set_cons_zero, List.set_cons_succ]
  iterate 1 (refine wpPar_pure rfl (by rfl) _ (fun W hW => by
      go_simp
      exact rfl) ?_; simp only [Act.put, List.setIfInBounds_toArray, List.set_cons_zero, List.set_cons_succ])
  refine wpPar_nil (fun W hW hG => ?_)
  have k01 := k0.then hW (fun _ _ h => h)
  clear hG hc0 hc1 hc2 hc3 hc4 hc5 hs k0 hW
  go_wp2
  go_ret
  exact ⟨rfl, k01⟩

set_option maxRecDepth 100000 in
set_option maxHeartbeats 4000000 in
/-- postmarkseat.Bytes. -/
theorem bytes (n : ByteArray) (v c : Int) (k r s : Nat) (w : World) (hn : n.size ≤ 274877906944) (hk : k < 18446744073709551616) (hr : r < 18446744073709551616) (hs : s < 18446744073709551616) :
    Calls Try.prog 25 #[updV n v k c r s] w fun e w' => ∃ u, e = .returned u ∧ Kept None w w' ∧ Ob w' w.heap.size u (putB n v k c r s) := by
  have he := fun w => entry n v c k r s w
  have hf := fun w => fields n v k w hn hk
  have hg := fun w => Ref.putSig r s w hr hs
  have hw2 : IntKind.u64.wrap c = U6 c := by rw [IntKind.wrap_u64]
  have HV0 := And.intro (U6_ge c) (U6_lt c)
  have hT : fieldsB n v k ++ leB (U6 c) ++ (leB (r : Int) ++ leB (s : Int)) = putB n v k c r s := rfl
  have hL : (fieldsB n v k).length ≤ 274877906968 ∧ (leB (r : Int) ++ leB (s : Int)).length = 16 := ⟨by rw [fieldsB_len]; omega, rfl⟩
  obtain ⟨C, hC⟩ : ∃ C, C = U6 c := ⟨_, rfl⟩
  rw [← hC] at hw2 HV0 hT
  rw [show Sg.sigB r s = leB r ++ leB s from rfl] at hg
  obtain ⟨G, hGG⟩ : ∃ G, G = leB (r : Int) ++ leB (s : Int) := ⟨_, rfl⟩
  rw [← hGG] at hg hT hL
  obtain ⟨F, hF⟩ : ∃ F, F = fieldsB n v k := ⟨_, rfl⟩
  rw [← hF] at hf hT hL
  obtain ⟨B, hB⟩ : ∃ B, B = putB n v k c r s := ⟨_, rfl⟩
  rw [← hB] at hT ⊢
  obtain ⟨FC, hFC⟩ : ∃ FC, FC = F ++ leB C := ⟨_, rfl⟩
  rw [← hFC] at hT
  have hFl : FC.length + 16 ≤ 140737488355328 := by rw [hFC, List.length_append, leB_length]; omega
  have HFC := hid (And.intro hFC hFl)
  have H := hid (And.intro he (And.intro hf (And.intro hg hT)))
  have HV := hid HV0
  have HL := hid hL
  clear he hf hg hT hL HV0 hC hGG hF hB hn hk hr hs hFC hFl
  go_enter Try.func25, Try.ntmps25
  go_wp2_with fail
  obtain ⟨w1, hw1⟩ : ∃ w1, w1 = w.alloc (.cells #[.string n, .int .i64 v, .int .u64 (k : Int), .int .i64 c, .int .u64 (r : Int), .int .u64 (s : Int)] 26) := ⟨_, rfl⟩
  have hBw := Blk.new w #[.string n, .int .i64 v, .int .u64 (k : Int), .int .i64 c, .int .u64 (r : Int), .int .u64 (s : Int)] 26
  have kw : Kept None w (w.alloc (.cells #[.string n, .int .i64 v, .int .u64 (k : Int), .int .i64 c, .int .u64 (r : Int), .int .u64 (s : Int)] 26)) := (Kept.refl _ _).alloc _
  rw [← hw1] at hBw kw ⊢
  clear hw1
  have hc0 : ∀ W, Kept None w1 W → W.cell? ⟨w.heap.size, 0, none⟩ = some (.string n) := fun W hW => (hBw.kept hW (fun h => h)).cell 0
  have hc1 : ∀ W, Kept None w1 W → W.cell? ⟨w.heap.size, 1, none⟩ = some (.int .i64 v) := fun W hW => (hBw.kept hW (fun h => h)).cell 1
  have hc2 : ∀ W, Kept None w1 W → W.cell? ⟨w.heap.size, 2, none⟩ = some (.int .u64 (k : Int)) := fun W hW => (hBw.kept hW (fun h => h)).cell 2
  have hc3 : ∀ W, Kept None w1 W → W.cell? ⟨w.heap.size, 3, none⟩ = some (.int .i64 c) := fun W hW => (hBw.kept hW (fun h => h)).cell 3
  have hc4 : ∀ W, Kept None w1 W → W.cell? ⟨w.heap.size, 4, none⟩ = some (.int .u64 (r : Int)) := fun W hW => (hBw.kept hW (fun h => h)).cell 4
  have hc5 : ∀ W, Kept None w1 W → W.cell? ⟨w.heap.size, 5, none⟩ = some (.int .u64 (s : Int)) := fun W hW => (hBw.kept hW (fun h => h)).cell 5
  have hs : Steady [.val 1 (entV n v k), .own 5 2 (w1.heap.size) (F), .own 5 6 (w1.heap.size) (leB C), .own 5 7 (w1.heap.size) (FC) [2, 6] [2, 6]] := Steady.val (Steady.own (Steady.own (Steady.own (Steady.nil))))
  refine wp_region_kn w1 _ hs (Kept.refl _ _) (by kernel_rfl) (by kernel_rfl) (by kernel_rfl) ?_
  iterate 1 (refine wpPar_pure rfl (by rfl) _ (fun W hW => by
      have c0 := hc0 W hW
      have c1 := hc1 W hW
      have c2 := hc2 W hW
      have c3 := hc3 W hW
      have c4 := hc4 W hW
      have c5 := hc5 W hW
      go_simp
      exact rfl) ?_; simp only [Act.put, List.setIfInBounds_toArray, List.set_cons_zero, List.set_cons_succ])
  refine wpKn_adds hs rfl (by rfl) (fun W hW hd => ?_) (fun v1 hv => ?_)
  · unfold Gives
    go_simp
    refine gives_call (H.out.1 W) ?_
    rintro e w3 ⟨rfl, k3⟩
    exact ⟨_, rfl, k3, rfl, trivial⟩
  obtain rfl : v1 = entV n v k := hv
  simp only [Act.put, List.setIfInBounds_toArray, List.set_cons_zero, List.set_cons_succ]
  refine wpKn_adds hs rfl (by rfl) (fun W hW hd => ?_) (fun v2 hv => ?_)
  · unfold Gives
    go_simp
    refine gives_call (H.out.2.1 W) ?_
    rintro e w3 ⟨u, rfl, k3, b3⟩
    exact ⟨_, rfl, k3, b3.form, b3.base hW.size⟩
  obtain ⟨a2, c2, rfl⟩ : ∃ a c, v2 = .slice a F.length c := hv
  simp only [Act.put, List.setIfInBounds_toArray, List.set_cons_zero, List.set_cons_succ]
  iterate 3 (refine wpPar_pure rfl (by rfl) _ (fun W hW => by
      have c0 := hc0 W hW
      have c1 := hc1 W hW
      have c2 := hc2 W hW
      have c3 := hc3 W hW
      have c4 := hc4 W hW
      have c5 := hc5 W hW
      go_simp
      exact rfl) ?_; simp only [Act.put, List.setIfInBounds_toArray, List.set_cons_zero, List.set_cons_succ])
  refine wpKn_adds hs rfl (by rfl) (fun W hW hd => ?_) (fun v6 hv => ?_)
  · unfold Gives
    go_simp
    refine gives_call (Ref.num C W HV.out.1 HV.out.2) ?_
    rintro e w3 ⟨u, rfl, k3, b3⟩
    exact ⟨_, rfl, k3, b3.form, b3.base hW.size⟩
  obtain ⟨a6, c6, rfl⟩ : ∃ a c, v6 = .slice a 8 c := hv
  simp only [Act.put, List.setIfInBounds_toArray, List.set_cons_zero, List.set_cons_succ]
  refine wpPar_adds rfl (by rfl) (fun W hW hd => ?_) (fun v7 hv => ?_)
  · have h1 : Ob W w1.heap.size (.slice a2 F.length c2) F := hd 2 (List.Mem.head _)
    have h2 : Ob W w1.heap.size (.slice a6 8 c6) (leB C) := hd 6 (List.Mem.tail _ (List.Mem.head _))
    refine gives_append_bo _ _ 32 rfl rtBytes rfl rfl h1 (h2.bs (Nat.le_refl _)) (by have := HL.out; rw [leB_length]; omega) hW.size ?_
    intro a' n' c' W' h3 h4 _
    rw [← HFC.out.1] at h3
    refine ⟨Kept.own hW h4 (fun k hk => (h1.own k hk).1), h3.form, h3, keeps_of fun f hf hs _ hne u hfu => ?_⟩
    simp only [List.mem_cons, List.not_mem_nil, or_false] at hf
    rcases hf with rfl | rfl | rfl | rfl
    · exact hfu
    · exact absurd (List.Mem.head _) hs
    · exact absurd (List.Mem.tail _ (List.Mem.head _)) hs
    · exact absurd rfl hne
  obtain ⟨a7, c7, rfl⟩ : ∃ a c, v7 = .slice a FC.length c := hv
  simp only [Act.put, List.setIfInBounds_toArray, List.set_cons_zero, List.set_cons_succ]
  iterate 1 (refine wpPar_pure rfl (by rfl) _ (fun W hW => by
      go_simp
      exact rfl) ?_; simp only [Act.put, List.setIfInBounds_toArray, List.set_cons_zero, List.set_cons_succ])
  refine wpPar_nil (fun W hW hG => ?_)
  have hb : Ob W w1.heap.size (.slice a7 FC.length c7) FC := hG 7
  have kW := kw.trans hW
  have c4 := hc4 W hW
  have c5 := hc5 W hW
  have hbw : w.heap.size + 1 ≤ w1.heap.size := hBw.lt
  have hb1 := hb.base hbw
  have hBW := hBw.kept hW (fun h => h)
  clear hG hc0 hc1 hc2 hc3 hc4 hc5 hs hW hb hBw kw
  go_wp2_with fail
  refine (H.out.2.2.1 _).mono ?_
  rintro e w5 ⟨u5, rfl, k5, b5⟩
  have d5 := b5.bs (Nat.le_refl _)
  obtain ⟨a5, c5', rfl⟩ := b5.form
  have hb2 := hb1.kept k5 (fun _ _ h => h)
  have kW5 := kW.trans k5
  have hsW : w.heap.size + 1 ≤ w5.heap.size := (hBW.kept k5 (fun h => h)).lt
  clear b5 hb1 k5 kW hBW c4 c5
  go_wp2_with (first | (at_builtin; (refine wpList_append_bo (l := FC) (m := G) (base := w.heap.size + 1) rfl _ _ 32 rfl rtBytes rfl rfl hb2 d5 (by have := HL.out; have := HFC.out; omega) hsW ?k9)) | fail)
  case k9 =>
    intro a9 n9 c9 w9 b9 k9
    have k09 := Kept.own kW5 k9 (fun k hk => Nat.le_of_succ_le (hb2.own k hk).1)
    rw [H.out.2.2.2] at b9
    have b10 := b9.base (Nat.le_succ w.heap.size)
    clear hb2 kW5 k9 d5 b9
    go_wp2
    go_ret
    exact ⟨_, rfl, k09, b10⟩

set_option maxRecDepth 100000 in
set_option maxHeartbeats 4000000 in
theorem put_yes (n : ByteArray) (v c : Int) (k r s : Nat) (w : World) (hb : rightB n.size v k c = true) (hn : n.size ≤ 274877906944) (hk : k < 18446744073709551616) (hr : r < 18446744073709551616) (hs : s < 18446744073709551616) :
    Calls Try.prog 12 #[updV n v k c r s] w fun e w' => ∃ u, e = .returned (.tuple #[u, .int .i64 0]) ∧ Kept None w w' ∧ Ob w' w.heap.size u (putB n v k c r s) := by
  have hq := fun w => right n v c k r s w
  rw [hb] at hq
  have HQ := hid hq
  clear hq hb
  have he := fun w => entry n v c k r s w
  have hf := fun w => fields n v k w hn hk
  have hg := fun w => Ref.putSig r s w hr hs
  have hw2 : IntKind.u64.wrap c = U6 c := by rw [IntKind.wrap_u64]
  have HV0 := And.intro (U6_ge c) (U6_lt c)
  have hT : fieldsB n v k ++ leB (U6 c) ++ (leB (r : Int) ++ leB (s : Int)) = putB n v k c r s := rfl
  have hL : (fieldsB n v k).length ≤ 274877906968 ∧ (leB (r : Int) ++ leB (s : Int)).length = 16 := ⟨by rw [fieldsB_len]; omega, rfl⟩
  obtain ⟨C, hC⟩ : ∃ C, C = U6 c := ⟨_, rfl⟩
  rw [← hC] at hw2 HV0 hT
  rw [show Sg.sigB r s = leB r ++ leB s from rfl] at hg
  obtain ⟨G, hGG⟩ : ∃ G, G = leB (r : Int) ++ leB (s : Int) := ⟨_, rfl⟩
  rw [← hGG] at hg hT hL
  obtain ⟨F, hF⟩ : ∃ F, F = fieldsB n v k := ⟨_, rfl⟩
  rw [← hF] at hf hT hL
  obtain ⟨B, hB⟩ : ∃ B, B = putB n v k c r s := ⟨_, rfl⟩
  rw [← hB] at hT ⊢
  obtain ⟨FC, hFC⟩ : ∃ FC, FC = F ++ leB C := ⟨_, rfl⟩
  rw [← hFC] at hT
  have hFl : FC.length + 16 ≤ 140737488355328 := by rw [hFC, List.length_append, leB_length]; omega
  have HFC := hid (And.intro hFC hFl)
  have H := hid (And.intro he (And.intro hf (And.intro hg hT)))
  have HV := hid HV0
  have HL := hid hL
  clear he hf hg hT hL HV0 hC hGG hF hB hn hk hr hs hFC hFl
  have hB0 := Blk.new w #[.string n, .int .i64 v, .int .u64 (k : Int), .int .i64 c, .int .u64 (r : Int), .int .u64 (s : Int)] 26
  have k0 : Kept None w (w.alloc (.cells #[.string n, .int .i64 v, .int .u64 (k : Int), .int .i64 c, .int .u64 (r : Int), .int .u64 (s : Int)] 26)) := (Kept.refl _ _).alloc _
  go_enter Try.func12, Try.ntmps12
  go_wp2_with (first | (refine wpList_load_blk rfl _ _ rfl rfl hB0 Up.aUpd ?_) | fail)
  refine (HQ.out _).mono ?_
  rintro e w1 ⟨rfl, k1⟩
  have kw := k0.trans k1
  have hBw := hB0.kept k1 (fun h => h)
  clear hB0 k0 k1 HQ
  go_wp2_with fail
  have hc0 : ∀ W, Kept None w1 W → W.cell? ⟨w.heap.size, 0, none⟩ = some (.string n) := fun W hW => (hBw.kept hW (fun h => h)).cell 0
  have hc1 : ∀ W, Kept None w1 W → W.cell? ⟨w.heap.size, 1, none⟩ = some (.int .i64 v) := fun W hW => (hBw.kept hW (fun h => h)).cell 1
  have hc2 : ∀ W, Kept None w1 W → W.cell? ⟨w.heap.size, 2, none⟩ = some (.int .u64 (k : Int)) := fun W hW => (hBw.kept hW (fun h => h)).cell 2
  have hc3 : ∀ W, Kept None w1 W → W.cell? ⟨w.heap.size, 3, none⟩ = some (.int .i64 c) := fun W hW => (hBw.kept hW (fun h => h)).cell 3
  have hc4 : ∀ W, Kept None w1 W → W.cell? ⟨w.heap.size, 4, none⟩ = some (.int .u64 (r : Int)) := fun W hW => (hBw.kept hW (fun h => h)).cell 4
  have hc5 : ∀ W, Kept None w1 W → W.cell? ⟨w.heap.size, 5, none⟩ = some (.int .u64 (s : Int)) := fun W hW => (hBw.kept hW (fun h => h)).cell 5
  have hs : Steady [.val 1 (entV n v k), .own 5 2 (w1.heap.size) (F), .own 5 6 (w1.heap.size) (leB C), .own 5 7 (w1.heap.size) (FC) [2, 6] [2, 6]] := Steady.val (Steady.own (Steady.own (Steady.own (Steady.nil))))
  refine wp_region_kn w1 _ hs (Kept.refl _ _) (by kernel_rfl) (by kernel_rfl) (by kernel_rfl) ?_
  iterate 1 (refine wpPar_pure rfl (by rfl) _ (fun W hW => by
      have c0 := hc0 W hW
      have c1 := hc1 W hW
      have c2 := hc2 W hW
      have c3 := hc3 W hW
      have c4 := hc4 W hW
      have c5 := hc5 W hW
      go_simp
      exact rfl) ?_; simp only [Act.put, List.setIfInBounds_toArray, List.set_cons_zero, List.set_cons_succ])
  refine wpKn_adds hs rfl (by rfl) (fun W hW hd => ?_) (fun v1 hv => ?_)
  · unfold Gives
    go_simp
    refine gives_call (H.out.1 W) ?_
    rintro e w3 ⟨rfl, k3⟩
    exact ⟨_, rfl, k3, rfl, trivial⟩
  obtain rfl : v1 = entV n v k := hv
  simp only [Act.put, List.setIfInBounds_toArray, List.set_cons_zero, List.set_cons_succ]
  refine wpKn_adds hs rfl (by rfl) (fun W hW hd => ?_) (fun v2 hv => ?_)
  · unfold Gives
    go_simp
    refine gives_call (H.out.2.1 W) ?_
    rintro e w3 ⟨u, rfl, k3, b3⟩
    exact ⟨_, rfl, k3, b3.form, b3.base hW.size⟩
  obtain ⟨a2, c2, rfl⟩ : ∃ a c, v2 = .slice a F.length c := hv
  simp only [Act.put, List.setIfInBounds_toArray, List.set_cons_zero, List.set_cons_succ]
  iterate 3 (refine wpPar_pure rfl (by rfl) _ (fun W hW => by
      have c0 := hc0 W hW
      have c1 := hc1 W hW
      have c2 := hc2 W hW
      have c3 := hc3 W hW
      have c4 := hc4 W hW
      have c5 := hc5 W hW
      go_simp
      exact rfl) ?_; simp only [Act.put, List.setIfInBounds_toArray, List.set_cons_zero, List.set_cons_succ])
  refine wpKn_adds hs rfl (by rfl) (fun W hW hd => ?_) (fun v6 hv => ?_)
  · unfold Gives
    go_simp
    refine gives_call (Ref.num C W HV.out.1 HV.out.2) ?_
    rintro e w3 ⟨u, rfl, k3, b3⟩
    exact ⟨_, rfl, k3, b3.form, b3.base hW.size⟩
  obtain ⟨a6, c6, rfl⟩ : ∃ a c, v6 = .slice a 8 c := hv
  simp only [Act.put, List.setIfInBounds_toArray, List.set_cons_zero, List.set_cons_succ]
  refine wpPar_adds rfl (by rfl) (fun W hW hd => ?_) (fun v7 hv => ?_)
  · have h1 : Ob W w1.heap.size (.slice a2 F.length c2) F := hd 2 (List.Mem.head _)
    have h2 : Ob W w1.heap.size (.slice a6 8 c6) (leB C) := hd 6 (List.Mem.tail _ (List.Mem.head _))
    refine gives_append_bo _ _ 32 rfl rtBytes rfl rfl h1 (h2.bs (Nat.le_refl _)) (by have := HL.out; rw [leB_length]; omega) hW.size ?_
    intro a' n' c' W' h3 h4 _
    rw [← HFC.out.1] at h3
    refine ⟨Kept.own hW h4 (fun k hk => (h1.own k hk).1), h3.form, h3, keeps_of fun f hf hs _ hne u hfu => ?_⟩
    simp only [List.mem_cons, List.not_mem_nil, or_false] at hf
    rcases hf with rfl | rfl | rfl | rfl
    · exact hfu
    · exact absurd (List.Mem.head _) hs
    · exact absurd (List.Mem.tail _ (List.Mem.head _)) hs
    · exact absurd rfl hne
  obtain ⟨a7, c7, rfl⟩ : ∃ a c, v7 = .slice a FC.length c := hv
  simp only [Act.put, List.setIfInBounds_toArray, List.set_cons_zero, List.set_cons_succ]
  iterate 1 (refine wpPar_pure rfl (by rfl) _ (fun W hW => by
      go_simp
      exact rfl) ?_; simp only [Act.put, List.setIfInBounds_toArray, List.set_cons_zero, List.set_cons_succ])
  refine wpPar_nil (fun W hW hG => ?_)
  have hb : Ob W w1.heap.size (.slice a7 FC.length c7) FC := hG 7
  have kW := kw.trans hW
  have c4 := hc4 W hW
  have c5 := hc5 W hW
  have hbw : w.heap.size + 1 ≤ w1.heap.size := hBw.lt
  have hb1 := hb.base hbw
  have hBW := hBw.kept hW (fun h => h)
  clear hG hc0 hc1 hc2 hc3 hc4 hc5 hs hW hb hBw kw
  go_wp2_with fail
  refine (H.out.2.2.1 _).mono ?_
  rintro e w5 ⟨u5, rfl, k5, b5⟩
  have d5 := b5.bs (Nat.le_refl _)
  obtain ⟨a5, c5', rfl⟩ := b5.form
  have hb2 := hb1.kept k5 (fun _ _ h => h)
  have kW5 := kW.trans k5
  have hsW : w.heap.size + 1 ≤ w5.heap.size := (hBW.kept k5 (fun h => h)).lt
  clear b5 hb1 k5 kW hBW c4 c5
  go_wp2_with (first | (at_builtin; (refine wpList_append_bo (l := FC) (m := G) (base := w.heap.size + 1) rfl _ _ 32 rfl rtBytes rfl rfl hb2 d5 (by have := HL.out; have := HFC.out; omega) hsW ?k9)) | fail)
  case k9 =>
    intro a9 n9 c9 w9 b9 k9
    have k09 := Kept.own kW5 k9 (fun k hk => Nat.le_of_succ_le (hb2.own k hk).1)
    rw [H.out.2.2.2] at b9
    have b10 := b9.base (Nat.le_succ w.heap.size)
    clear hb2 kW5 k9 d5 b9
    go_wp2
    go_ret2
    exact ⟨_, rfl, k09, b10⟩

set_option maxRecDepth 100000 in
set_option maxHeartbeats 4000000 in
/-- postmarkref5.Put. -/
theorem put (n : ByteArray) (v c : Int) (k r s : Nat) (w : World) (hr : r < 18446744073709551616) (hs : s < 18446744073709551616) :
    Calls Try.prog 12 #[updV n v k c r s] w fun e w' => ∃ u, e = .returned (.tuple #[u, .int .i64 (putE n.size v k c)]) ∧ Kept None w w' ∧ Ob w' w.heap.size u (putL n v k c r s) := by
  cases hb : rightB n.size v k c with
  | true =>
    have hh := (rightB_iff _ _ _ _).1 hb
    have e1 : putE n.size v k c = 0 := by unfold putE; rw [hb]; rfl
    have e2 : putL n v k c r s = putB n v k c r s := by unfold putL; rw [hb]; rfl
    rw [e1, e2]
    exact put_yes n v c k r s w hb (by omega) (Nat.lt_trans hh.1.2.2.2.2.2 (by decide)) hr hs
  | false =>
    have hq := fun w => right n v c k r s w
    have hB0 := Blk.new w #[.string n, .int .i64 v, .int .u64 (k : Int), .int .i64 c, .int .u64 (r : Int), .int .u64 (s : Int)] 26
    have k0 : Kept None w (w.alloc (.cells #[.string n, .int .i64 v, .int .u64 (k : Int), .int .i64 c, .int .u64 (r : Int), .int .u64 (s : Int)] 26)) := (Kept.refl _ _).alloc _
    rw [hb] at hq
    have e1 : putE n.size v k c = 23 := by unfold putE; rw [hb]; rfl
    have e2 : putL n v k c r s = [] := by unfold putL; rw [hb]; rfl
    rw [e1, e2]
    have H := hid hq
    clear hq hb e1 e2
    go_enter Try.func12, Try.ntmps12
    go_wp2_with (first | (refine wpList_load_blk rfl _ _ rfl rfl hB0 Up.aUpd ?_) | fail)
    refine (H.out _).mono ?_
    rintro e w1 ⟨rfl, k1⟩
    have k01 := k0.trans k1
    go_wp2
    go_ret2
    exact ⟨_, rfl, k01, Bo.nil _ _ _⟩
end RUp
end Go.Proofs.Ytbckjkfdkgomiaa
