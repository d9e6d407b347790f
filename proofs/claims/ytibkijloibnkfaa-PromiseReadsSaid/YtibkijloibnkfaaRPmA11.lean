/- Package postmarkref8, promises: PromiseRight, PromiseMessage, Make, PromisePut, by contract. -/
import Derived.Test.YtibkijloibnkfaaPmA11
import Derived.Test.YtibkijloibnkfaaEntRight
import Derived.Test.YtibkijloibnkfaaEntFields
import Derived.Test.YtibkijloibnkfaaNm7
import Derived.Test.YtibkijloibnkfaaApp7
import Derived.Lib.Walk
namespace Go.Proofs.Ytibkijloibnkfaa
open Go.RowKit Go.Pm
namespace RPp
theorem tick_gt (t : Int) (b : Bool) (h : decide (1152921504606846976 < t) = b) : ∀ z, z = t → decide ((1152921504606846976 : Int) < z) = b := by
  rintro z rfl
  exact h
theorem last_le (t : Int) (b : Bool) (h : decide (t ≤ 1152921504606846936) = b) : ∀ z, z = t → decide (z ≤ (1152921504606846936 : Int)) = b := by
  rintro z rfl
  exact h
theorem last_gt (t : Int) (b : Bool) (h : decide (1152921504606846936 < t) = b) : ∀ z, z = t → decide ((1152921504606846936 : Int) < z) = b := by
  rintro z rfl
  exact h

theorem ent_at {w1 : World} {g : Nat} {n : ByteArray} {v : Int} {k : Nat} {t d : Int} {r s : Nat} {ty : TypeId} (b1 : Blk w1 g #[.string n, .int .i64 v, .int .u64 (k : Int), .int .i64 t, .int .i64 d, .int .u64 (r : Int), .int .u64 (s : Int)] ty) : w1.rangeAt g 0 [.string n, .int .i64 v, .int .u64 (k : Int)] := fun j v hj => by
  rw [Nat.zero_add, b1.cell]
  match j, hj with
  | 0, hj => exact hj
  | 1, hj => exact hj
  | 2, hj => exact hj
  | j + 3, hj => simp at hj
theorem sig_at {w1 : World} {g : Nat} {n : ByteArray} {v : Int} {k : Nat} {t d : Int} {r s : Nat} {ty : TypeId} (b1 : Blk w1 g #[.string n, .int .i64 v, .int .u64 (k : Int), .int .i64 t, .int .i64 d, .int .u64 (r : Int), .int .u64 (s : Int)] ty) : w1.rangeAt g 5 [.int .u64 (r : Int), .int .u64 (s : Int)] := fun j v hj => by
  rw [b1.cell]
  match j, hj with
  | 0, hj => exact hj
  | 1, hj => exact hj
  | j + 2, hj => simp at hj
set_option maxRecDepth 100000 in
set_option maxHeartbeats 4000000 in
/-- PromiseRight. -/
theorem right (n : ByteArray) (v : Int) (k : Nat) (t d : Int) (r s : Nat) (w : World) : Calls Try.prog 47 #[prV n v k t d r s] w fun e w' => e = .returned (.bool (rightPr n.size v k t d)) ∧ Kept None w w' := by
  have hf := fun W => RUp.entryRight n v k W
  have hq : rightPr n.size v k t d = (entR n.size v k && (decide (0 ≤ t) && decide (t ≤ 1152921504606846936) && decide (d = t + 40))) := rfl
  obtain ⟨E, hE⟩ : ∃ E, E = entR n.size v k := ⟨_, rfl⟩
  rw [← hE] at hf hq
  rw [hq]
  have H := hid hf
  clear hf hq hE
  have k1 : Kept None w (w.alloc (.cells #[.string n, .int .i64 v, .int .u64 (k : Int), .int .i64 t, .int .i64 d, .int .u64 (r : Int), .int .u64 (s : Int)] 55)) := (Kept.refl _ _).alloc _
  have b1 : Blk (w.alloc (.cells #[.string n, .int .i64 v, .int .u64 (k : Int), .int .i64 t, .int .i64 d, .int .u64 (r : Int), .int .u64 (s : Int)] 55)) w.heap.size #[.string n, .int .i64 v, .int .u64 (k : Int), .int .i64 t, .int .i64 d, .int .u64 (r : Int), .int .u64 (s : Int)] 55 := Blk.new w _ _
  cases E with
  | false =>
    go_enter Try.func47, Try.ntmps47
    go_wp2_with fail
    refine (H.out _).mono ?_
    rintro e w2 ⟨rfl, kn⟩
    have kW := k1.trans kn
    have b2 := b1.kept kn (fun h => h)
    have c3 : w2.cell? ⟨w.heap.size, 3, none⟩ = some (.int .i64 t) := b2.cell 3
    have c4 : w2.cell? ⟨w.heap.size, 4, none⟩ = some (.int .i64 d) := b2.cell 4
    clear b1 b2 k1 kn
    go_wp2_with (first | go_skip | fail)
    go_ret
    exact ⟨rfl, kW⟩
  | true =>
    by_cases h0 : 0 ≤ t
    · by_cases h1 : t ≤ 1152921504606846936
      · have hw : IntKind.i64.wrap (t + 40) = t + 40 := by rw [IntKind.wrap_i64]; omega
        have l1 := last_le t true (decide_eq_true h1)
        rw [decide_eq_true h0, decide_eq_true h1]
        obtain ⟨t4, ht4⟩ : ∃ x, x = t + 40 := ⟨_, rfl⟩
        rw [← ht4] at hw ⊢
        have h4 := ht4.symm
        clear h1 ht4
        go_enter Try.func47, Try.ntmps47
        go_wp2_with fail
        refine (H.out _).mono ?_
        rintro e w2 ⟨rfl, kn⟩
        have kW := k1.trans kn
        have b2 := b1.kept kn (fun h => h)
        have c3 : w2.cell? ⟨w.heap.size, 3, none⟩ = some (.int .i64 t) := b2.cell 3
        have c4 : w2.cell? ⟨w.heap.size, 4, none⟩ = some (.int .i64 d) := b2.cell 4
        clear b1 b2 k1 kn
        go_wp2_with (first | go_skip | fail)
        go_ret
        exact ⟨by simp only [Bool.true_and]; rfl, kW⟩
      · have l1 := last_le t false (decide_eq_false h1)
        rw [decide_eq_true h0, decide_eq_false h1]
        clear h1
        go_enter Try.func47, Try.ntmps47
        go_wp2_with fail
        refine (H.out _).mono ?_
        rintro e w2 ⟨rfl, kn⟩
        have kW := k1.trans kn
        have b2 := b1.kept kn (fun h => h)
        have c3 : w2.cell? ⟨w.heap.size, 3, none⟩ = some (.int .i64 t) := b2.cell 3
        have c4 : w2.cell? ⟨w.heap.size, 4, none⟩ = some (.int .i64 d) := b2.cell 4
        clear b1 b2 k1 kn
        go_wp2_with (first | go_skip | fail)
        go_ret
        exact ⟨rfl, kW⟩
    · have h0' : decide (0 ≤ t) = false := decide_eq_false h0
      rw [h0']
      go_enter Try.func47, Try.ntmps47
      go_wp2_with fail
      refine (H.out _).mono ?_
      rintro e w2 ⟨rfl, kn⟩
      have kW := k1.trans kn
      have b2 := b1.kept kn (fun h => h)
      have c3 : w2.cell? ⟨w.heap.size, 3, none⟩ = some (.int .i64 t) := b2.cell 3
      have c4 : w2.cell? ⟨w.heap.size, 4, none⟩ = some (.int .i64 d) := b2.cell 4
      clear b1 b2 k1 kn
      go_wp2_with (first | go_skip | fail)
      go_ret
      exact ⟨rfl, kW⟩

set_option maxRecDepth 100000 in
set_option maxHeartbeats 4000000 in
/-- PromiseMessage. -/
theorem message (n : ByteArray) (v : Int) (k : Nat) (t d : Int) (r s : Nat) (w : World) (hn : n.size ≤ 274877906944) (hk : k < 18446744073709551616) : Calls Try.prog 46 #[prV n v k t d r s] w fun e w' => ∃ u, e = .returned u ∧ Kept None w w' ∧ Ob w' w.heap.size u (msgPr n v k t d) := by
  have hwt : IntKind.u64.wrap t = U6 t := by rw [IntKind.wrap_u64]
  have hwd : IntKind.u64.wrap d = U6 d := by rw [IntKind.wrap_u64]
  have hN : (0 ≤ U6 t ∧ U6 t < 18446744073709551616) ∧ 0 ≤ U6 d ∧ U6 d < 18446744073709551616 := ⟨⟨U6_ge _, U6_lt _⟩, U6_ge _, U6_lt _⟩
  have hM : 80 :: (fieldsB n v k ++ leB (U6 t) ++ leB (U6 d)) = msgPr n v k t d := rfl
  have hF := fun W => RUp.fields n v k W hn hk
  have lF := fieldsB_len n v k
  obtain ⟨T, hT⟩ : ∃ T, T = U6 t := ⟨_, rfl⟩
  obtain ⟨D, hD⟩ : ∃ D, D = U6 d := ⟨_, rfl⟩
  rw [← hT] at hwt hN hM
  rw [← hD] at hwd hN hM
  obtain ⟨F, hFF⟩ : ∃ F, F = fieldsB n v k := ⟨_, rfl⟩
  rw [← hFF] at hF lF hM
  obtain ⟨M, hMM⟩ : ∃ M, M = msgPr n v k t d := ⟨_, rfl⟩
  rw [← hMM] at hM ⊢
  obtain ⟨L1, h1⟩ : ∃ L, L = 80 :: F := ⟨_, rfl⟩
  obtain ⟨L2, h2⟩ : ∃ L, L = L1 ++ leB T := ⟨_, rfl⟩
  have h3 : L2 ++ leB D = M := by rw [h2, h1]; exact hM
  have l1 : L1.length = 25 + n.size := by rw [h1, List.length_cons, lF]; omega
  have l2 : L2.length = 33 + n.size := by rw [h2, List.length_append, l1, leB_length]; omega
  have HN := hid hN
  have HE := hid (And.intro h1 (And.intro h2 h3))
  have HL := hid (And.intro l1 (And.intro l2 (And.intro lF hn)))
  have HF := hid hF
  have k1 : Kept None w ((w.alloc (.cells #[.string n, .int .i64 v, .int .u64 (k : Int), .int .i64 t, .int .i64 d, .int .u64 (r : Int), .int .u64 (s : Int)] 55)).alloc (.cells #[.int .u8 80] 5)) := ((Kept.refl _ _).alloc _).alloc _
  have x1 : Blk ((w.alloc (.cells #[.string n, .int .i64 v, .int .u64 (k : Int), .int .i64 t, .int .i64 d, .int .u64 (r : Int), .int .u64 (s : Int)] 55)).alloc (.cells #[.int .u8 80] 5)) w.heap.size #[.string n, .int .i64 v, .int .u64 (k : Int), .int .i64 t, .int .i64 d, .int .u64 (r : Int), .int .u64 (s : Int)] 55 := (Blk.new w _ _).alloc _
  have b1 : Ob ((w.alloc (.cells #[.string n, .int .i64 v, .int .u64 (k : Int), .int .i64 t, .int .i64 d, .int .u64 (r : Int), .int .u64 (s : Int)] 55)).alloc (.cells #[.int .u8 80] 5)) (w.heap.size + 1) (.slice (some ⟨w.heap.size + 1, 0, none⟩) 1 1) [80] := by
    have h := Bo.new (w.alloc (.cells #[.string n, .int .i64 v, .int .u64 (k : Int), .int .i64 t, .int .i64 d, .int .u64 (r : Int), .int .u64 (s : Int)] 55)) 5 [80] #[.int .u8 80] (by rfl) 1 rfl (by decide)
    simpa using h
  clear hN hM hF lF hT hD hFF hMM h1 h2 h3 l1 l2 hn hk
  go_enter Try.func46, Try.ntmps46
  go_wp2_with fail
  refine Calls.nm ?_
  intro w1 e1
  rw [← e1] at k1 x1 b1
  clear e1
  refine (HF.out w1).mono ?_
  rintro e w2 ⟨u, rfl, kn, bn⟩
  have k2 := k1.trans kn
  have x2 := x1.kept kn (fun h => h)
  have b2 := b1.kept kn (fun _ _ h => h)
  have d2 := bn.bs (Nat.le_refl _)
  have s2 : w.heap.size + 1 ≤ w2.heap.size := x2.lt
  obtain ⟨an, cn, rfl⟩ := bn.form
  clear kn bn k1 x1 b1
  go_wp2_with (first | (at_builtin; refine wpList_append_bo (l := [80]) (m := F) (base := w.heap.size + 1) rfl _ _ 29 rfl rtBytes rfl rfl b2 d2 (by have := HL.out; simp only [List.length_cons, List.length_nil]; omega) s2 ?q2) | fail)
  case q2 =>
    intro a3 n3 m3 w3 b3 kn
    have k3 := Kept.own k2 kn (fun k hk => Nat.le_of_succ_le (b2.own k hk).1)
    have x3 := x2.kept kn (fun h => absurd (b2.own _ h).1 (by omega))
    rw [← HE.out.1] at b3
    clear kn k2 x2 b2 d2 s2
    go_wp2_with fail
    have X3 := hid x3
    have B3 := hid b3
    have K3 := hid k3
    have O3 := hid b3.own
    have s3 : w.heap.size + 1 ≤ w3.heap.size := x3.lt
    have S3 := hid s3
    have HC1 : Hid (∀ W, Kept (fun q => w.heap.size + 1 ≤ q) w3 W → W.cell? ⟨w.heap.size, 3, none⟩ = some (.int .i64 t)) := hid (fun W hW => (X3.out.kept hW (by omega)).cell 3)
    have HC2 : Hid (∀ W, Kept (fun q => w.heap.size + 1 ≤ q) w3 W → W.cell? ⟨w.heap.size, 4, none⟩ = some (.int .i64 d)) := hid (fun W hW => (X3.out.kept hW (by omega)).cell 4)
    clear x3 b3 k3 s3
    refine wp_region_plan (Kept (fun q => w.heap.size + 1 ≤ q) w3) [{ k := 4, uses := [], pure := fun u => ∃ a c, u = .slice a (leB T).length c, fact := fun u W => Ob W w3.heap.size u (leB T) }, { k := 5, uses := [4, 100], spends := [4, 100], later := [10], pure := fun u => ∃ a n c, u = .slice a n c, fact := fun u W => Ob W (w.heap.size + 1) u L2 }, { k := 9, uses := [], pure := fun u => ∃ a c, u = .slice a (leB D).length c, fact := fun u W => Ob W w3.heap.size u (leB D) }, { k := 10, uses := [5, 9, 4, 100], spends := [5, 9, 4, 100], pure := fun u => ∃ a n c, u = .slice a n c, fact := fun u W => Ob W (w.heap.size + 1) u M }, { k := 100, uses := [], fact := fun u W => Ob W (w.heap.size + 1) (.slice a3 n3 m3) L1 }] [100] (by kernel_rfl) (by kernel_rfl) (by kernel_rfl) (by rfl) ?pures ((Kept.refl _ w3).drew) ?starts ?walk
    case pures =>
      intro f hf
      simp only [List.mem_cons, List.not_mem_nil, or_false] at hf
      rcases hf with rfl | rfl | rfl | rfl | rfl
      · exact ⟨_, none, 0, rfl⟩
      · exact ⟨_, none, 0, 0, rfl⟩
      · exact ⟨_, none, 0, rfl⟩
      · exact ⟨_, none, 0, 0, rfl⟩
      · exact ⟨undef, trivial⟩
    case starts =>
      intro k hk
      have hk : k = 100 := by simpa using hk
      subst hk
      exact B3.out.kept ((Kept.refl None w3).drew) (fun _ _ h => h)
    iterate 4 (refine wpPar_pure rfl (by rfl) _ (fun W hW => by
        have c1 := HC1.out W hW
        have c2 := HC2.out W hW
        go_simp
        exact rfl) ?_; simp only [Act.put, List.setIfInBounds_toArray, List.set_cons_zero, List.set_cons_succ])
    refine wpPar_adds rfl (by rfl) (fun W hW hd => ?_) (fun v4 hv => ?_)
    · unfold Gives
      go_simp
      refine gives_call (Ref.num T W HN.out.1.1 HN.out.1.2) ?_
      rintro e w4 ⟨u, rfl, k4, b4⟩
      refine ⟨_, rfl, hW.then k4 (fun _ _ h => h.elim), b4.form, b4.base hW.size, keeps_of fun f hf hs hl hne u hfu => ?_⟩
      simp only [List.mem_cons, List.not_mem_nil, or_false] at hf
      rcases hf with rfl | rfl | rfl | rfl | rfl
      · exact absurd rfl hne
      · exact Bo.kept hfu k4 (fun _ _ h => h.elim)
      · exact Bo.kept hfu k4 (fun _ _ h => h.elim)
      · exact Bo.kept hfu k4 (fun _ _ h => h.elim)
      · exact Bo.kept hfu k4 (fun _ _ h => h.elim)
    obtain ⟨a4, c4, rfl⟩ : ∃ a c, v4 = .slice a (leB T).length c := hv
    simp only [Act.put, List.setIfInBounds_toArray, List.set_cons_zero, List.set_cons_succ]
    refine wpPar_adds rfl (by rfl) (fun W hW hd => ?_) (fun v5 hv => ?_)
    · have h1 : Ob W (w.heap.size + 1) (.slice a3 n3 m3) L1 := hd 100 (List.Mem.tail _ (List.Mem.head _))
      have h2 : Ob W w3.heap.size (.slice a4 (leB T).length c4) (leB T) := hd 4 (List.Mem.head _)
      refine gives_append_bo _ _ 29 rfl rtBytes rfl rfl h1 (h2.bs (Nat.le_refl _)) (by have := HL.out; rw [leB_length]; omega) (Nat.le_trans S3.out hW.size) ?_
      intro a' n' c' W' h3 h4 _
      rw [← HE.out.2.1] at h3
      refine ⟨hW.trans (h4.mono (fun q _ h => (h1.own q h).1)), ⟨_, _, _, rfl⟩, h3, keeps_of fun f hf hs hl hne u hfu => ?_⟩
      simp only [List.mem_cons, List.not_mem_nil, or_false] at hf
      rcases hf with rfl | rfl | rfl | rfl | rfl
      · exact absurd (List.Mem.head _) hs
      · exact absurd rfl hne
      · exact Bo.kept hfu h4 (fun k hk h => by have h1 := (Bo.own hfu k hk).1; have h2 := (O3.out k h).2; omega)
      · exact absurd (List.Mem.head _) hl
      · exact absurd (List.Mem.tail _ (List.Mem.head _)) hs
    obtain ⟨a5, n5, c5, rfl⟩ : ∃ a n c, v5 = .slice a n c := hv
    simp only [Act.put, List.setIfInBounds_toArray, List.set_cons_zero, List.set_cons_succ]
    iterate 3 (refine wpPar_pure rfl (by rfl) _ (fun W hW => by
        have c1 := HC1.out W hW
        have c2 := HC2.out W hW
        go_simp
        exact rfl) ?_; simp only [Act.put, List.setIfInBounds_toArray, List.set_cons_zero, List.set_cons_succ])
    refine wpPar_adds rfl (by rfl) (fun W hW hd => ?_) (fun v9 hv => ?_)
    · unfold Gives
      go_simp
      refine gives_call (Ref.num D W HN.out.2.1 HN.out.2.2) ?_
      rintro e w4 ⟨u, rfl, k4, b4⟩
      refine ⟨_, rfl, hW.then k4 (fun _ _ h => h.elim), b4.form, b4.base hW.size, keeps_of fun f hf hs hl hne u hfu => ?_⟩
      simp only [List.mem_cons, List.not_mem_nil, or_false] at hf
      rcases hf with rfl | rfl | rfl | rfl | rfl
      · exact Bo.kept hfu k4 (fun _ _ h => h.elim)
      · exact Bo.kept hfu k4 (fun _ _ h => h.elim)
      · exact absurd rfl hne
      · exact Bo.kept hfu k4 (fun _ _ h => h.elim)
      · exact Bo.kept hfu k4 (fun _ _ h => h.elim)
    obtain ⟨a9, c9, rfl⟩ : ∃ a c, v9 = .slice a (leB D).length c := hv
    simp only [Act.put, List.setIfInBounds_toArray, List.set_cons_zero, List.set_cons_succ]
    refine wpPar_adds rfl (by rfl) (fun W hW hd => ?_) (fun v10 hv => ?_)
    · have h1 : Ob W (w.heap.size + 1) (.slice a5 n5 c5) L2 := hd 5 (List.Mem.head _)
      have h2 : Ob W w3.heap.size (.slice a9 (leB D).length c9) (leB D) := hd 9 (List.Mem.tail _ (List.Mem.head _))
      refine gives_append_bo _ _ 29 rfl rtBytes rfl rfl h1 (h2.bs (Nat.le_refl _)) (by have := HL.out; rw [leB_length]; omega) (Nat.le_trans S3.out hW.size) ?_
      intro a' n' c' W' h3 h4 _
      rw [HE.out.2.2] at h3
      refine ⟨hW.trans (h4.mono (fun q _ h => (h1.own q h).1)), ⟨_, _, _, rfl⟩, h3, keeps_of fun f hf hs hl hne u hfu => ?_⟩
      simp only [List.mem_cons, List.not_mem_nil, or_false] at hf
      rcases hf with rfl | rfl | rfl | rfl | rfl
      · exact absurd (List.Mem.tail _ (List.Mem.tail _ (List.Mem.head _))) hs
      · exact absurd (List.Mem.head _) hs
      · exact absurd (List.Mem.tail _ (List.Mem.head _)) hs
      · exact absurd rfl hne
      · exact absurd (List.Mem.tail _ (List.Mem.tail _ (List.Mem.tail _ (List.Mem.head _)))) hs
    obtain ⟨a10, n10, c10, rfl⟩ : ∃ a n c, v10 = .slice a n c := hv
    simp only [Act.put, List.setIfInBounds_toArray, List.set_cons_zero, List.set_cons_succ]
    iterate 1 (refine wpPar_pure rfl (by rfl) _ (fun W hW => by
        have c1 := HC1.out W hW
        have c2 := HC2.out W hW
        go_simp
        exact rfl) ?_; simp only [Act.put, List.setIfInBounds_toArray, List.set_cons_zero, List.set_cons_succ])
    refine wpPar_nil (fun W hW hG => ?_)
    have b5 : Ob W (w.heap.size + 1) (.slice a10 n10 c10) M := hG 10
    have k5 : Kept None w W := K3.out.then hW (fun i hi h => by omega)
    have bz := b5.base (Nat.le_succ w.heap.size)
    clear hG hW HC1 HC2 O3 S3 K3 B3 X3 b5
    go_wp2
    go_ret
    exact ⟨_, rfl, k5, bz⟩

set_option maxRecDepth 100000 in
set_option maxHeartbeats 4000000 in
/-- Make. -/
theorem make (x : Nat) (n : ByteArray) (v : Int) (k : Nat) (t : Int) (w : World) (hn : n.size ≤ 274877906944) (hk : k < 18446744073709551616) : Calls Try.prog 22 #[.int .u64 x, entV n v k, .int .i64 t] w fun e w' => e = .returned (.tuple #[(makePr x n v k t).V, .int .i64 (makePrE n.size v k t)]) ∧ Kept None w w' := by
  have hf := fun W => RUp.entryRight n v k W
  have K0 : Kept None w ((w.alloc (.cells #[.string n, .int .i64 v, .int .u64 (k : Int)] 53)).alloc (.cells #[.string ⟨#[]⟩, .int .i64 0, .int .u64 0, .int .i64 0, .int .i64 0, .int .u64 0, .int .u64 0] 55)) := ((Kept.refl _ _).alloc _).alloc _
  have B0 : Blk ((w.alloc (.cells #[.string n, .int .i64 v, .int .u64 (k : Int)] 53)).alloc (.cells #[.string ⟨#[]⟩, .int .i64 0, .int .u64 0, .int .i64 0, .int .i64 0, .int .u64 0, .int .u64 0] 55)) w.heap.size #[.string n, .int .i64 v, .int .u64 (k : Int)] 53 := (Blk.new w _ _).alloc _
  have Z0 : Blk ((w.alloc (.cells #[.string n, .int .i64 v, .int .u64 (k : Int)] 53)).alloc (.cells #[.string ⟨#[]⟩, .int .i64 0, .int .u64 0, .int .i64 0, .int .i64 0, .int .u64 0, .int .u64 0] 55)) (w.heap.size + 1) #[.string ⟨#[]⟩, .int .i64 0, .int .u64 0, .int .i64 0, .int .i64 0, .int .u64 0, .int .u64 0] 55 := Blk.new2 w _ _ _
  by_cases h1 : entR n.size v k = true
  · by_cases h0 : t < 0
    · have hE := mkPr_form (m := n.size) (v := v) (k := k) (t := t) (fun h => by omega)
      rw [hE, makePr_none hE (by decide)]
      rw [h1] at hf
      have H := hid (And.intro hf hn)
      clear hf h1 hE
      go_enter Try.func22, Try.ntmps22
      go_wp2_with fail
      refine (H.out.1 _).mono ?_
      rintro e w1 ⟨rfl, kn⟩
      have k1 := K0.trans kn
      have b1 := B0.kept kn (fun h => h)
      have z1 := Z0.kept kn (fun h => h)
      clear kn K0 B0 Z0
      go_wp2_with (first | go_skip | (refine wpList_store_blk rfl _ _ _ rfl rfl rfl z1 Pp.aPr rfl Pp.zero_all ?_; intro wz hz kz) | fail)
      exact bodyPost_ret (v := .tuple #[.agg #[.string ⟨#[]⟩, .int .i64 0, .int .u64 0, .int .i64 0, .int .i64 0, .int .u64 0, .int .u64 0], .int .i64 23]) (Pp.res_ct rfl _ rfl rfl hz Pp.aPr) rfl ⟨rfl, k1.then kz (fun i hi (h : i = w.heap.size + 1) => by omega)⟩
    · by_cases h2 : 1152921504606846976 < t
      · have hE := mkPr_form (m := n.size) (v := v) (k := k) (t := t) (fun h => by omega)
        rw [hE, makePr_none hE (by decide)]
        rw [h1] at hf
        have l2 := tick_gt t true (decide_eq_true h2)
        have H := hid (And.intro hf hn)
        clear hf h1 hE h2
        go_enter Try.func22, Try.ntmps22
        go_wp2_with fail
        refine (H.out.1 _).mono ?_
        rintro e w1 ⟨rfl, kn⟩
        have k1 := K0.trans kn
        have b1 := B0.kept kn (fun h => h)
        have z1 := Z0.kept kn (fun h => h)
        clear kn K0 B0 Z0
        go_wp2_with (first | go_skip | (refine wpList_store_blk rfl _ _ _ rfl rfl rfl z1 Pp.aPr rfl Pp.zero_all ?_; intro wz hz kz) | fail)
        exact bodyPost_ret (v := .tuple #[.agg #[.string ⟨#[]⟩, .int .i64 0, .int .u64 0, .int .i64 0, .int .i64 0, .int .u64 0, .int .u64 0], .int .i64 23]) (Pp.res_ct rfl _ rfl rfl hz Pp.aPr) rfl ⟨rfl, k1.then kz (fun i hi (h : i = w.heap.size + 1) => by omega)⟩
      · have l2 := tick_gt t false (decide_eq_false h2)
        by_cases h3 : t ≤ 1152921504606846936
        · have l3 := last_gt t false (decide_eq_false (by omega))
          have hE := mkPr_ok h1 (by omega) h3
          rw [hE, makePr_ok hE]
          rw [h1] at hf
          have hw : IntKind.i64.wrap (t + 40) = t + 40 := by rw [IntKind.wrap_i64]; omega
          have hm := fun W => message n v k t (t + 40) 0 0 W hn hk
          have hs := fun v' lo hi W h => Ref.sign x v' lo hi (msgPr n v k t (t + 40)) W h (by rw [msgPr_len]; omega)
          unfold signPr
          show Calls _ _ _ w fun e w' => e = .returned (.tuple #[prV n v k t (t + 40) (sigR x (msgPr n v k t (t + 40))) (sigS x (msgPr n v k t (t + 40))), .int .i64 0]) ∧ Kept None w w'
          obtain ⟨R, hR⟩ : ∃ R, R = sigR x (msgPr n v k t (t + 40)) := ⟨_, rfl⟩
          obtain ⟨S, hS⟩ : ∃ S, S = sigS x (msgPr n v k t (t + 40)) := ⟨_, rfl⟩
          obtain ⟨M, hM⟩ : ∃ M, M = msgPr n v k t (t + 40) := ⟨_, rfl⟩
          rw [← hR, ← hS] at hs ⊢
          rw [← hM] at hs hm
          obtain ⟨D, hD⟩ : ∃ D, D = t + 40 := ⟨_, rfl⟩
          rw [← hD] at hm hw ⊢
          have h4 := hD.symm
          have H := hid (And.intro hf (And.intro hm hs))
          clear hf hm hs hM hR hS hD h1 h2 h3 hE hn hk
          go_enter Try.func22, Try.ntmps22
          go_wp2_with fail
          refine (H.out.1 _).mono ?_
          rintro e w1 ⟨rfl, kn⟩
          have k1 := K0.trans kn
          have b1 := B0.kept kn (fun h => h)
          have z1 := Z0.kept kn (fun h => h)
          clear kn K0 B0 Z0
          have e0 : w1.cell? ⟨w.heap.size, 0, none⟩ = some (.string n) := b1.cell 0
          have e1 : w1.cell? ⟨w.heap.size, 1, none⟩ = some (.int .i64 v) := b1.cell 1
          have e2 : w1.cell? ⟨w.heap.size, 2, none⟩ = some (.int .u64 (k : Int)) := b1.cell 2
          have kA : Kept None w (w1.alloc (.cells #[.string n, .int .i64 v, .int .u64 (k : Int), .int .i64 t, .int .i64 D, .int .u64 0, .int .u64 0] 55)) := k1.alloc _
          have zA : Blk (w1.alloc (.cells #[.string n, .int .i64 v, .int .u64 (k : Int), .int .i64 t, .int .i64 D, .int .u64 0, .int .u64 0] 55)) (w.heap.size + 1) #[.string ⟨#[]⟩, .int .i64 0, .int .u64 0, .int .i64 0, .int .i64 0, .int .u64 0, .int .u64 0] 55 := z1.alloc _
          have pA := Blk.new w1 #[.string n, .int .i64 v, .int .u64 (k : Int), .int .i64 t, .int .i64 D, .int .u64 0, .int .u64 0] 55
          have sz : w.heap.size + 1 < w1.heap.size := z1.lt
          clear k1 b1 z1
          go_wp2_with (first | go_skip | (refine wpList_load_blk rfl _ _ rfl rfl pA Pp.aPr ?_) | fail)
          clear e0 e1 e2
          refine (H.out.2.1 _).mono ?_
          rintro e w4 ⟨u, rfl, kn, bn⟩
          have k4 := kA.trans kn
          have z4 := zA.kept kn (fun h => h)
          have p4 := pA.kept kn (fun h => h)
          have d4 := bn.bs (Nat.le_refl _)
          obtain ⟨a4, c4, rfl⟩ := bn.form
          clear kA zA pA kn bn
          go_wp2_with fail
          refine (H.out.2.2 _ _ _ _ d4).mono ?_
          rintro e w5 ⟨rfl, kn⟩
          have k5 := k4.trans kn
          have z5 := z4.kept kn (fun h => h)
          have p5 := p4.kept kn (fun h => h)
          clear k4 z4 p4 kn d4 H
          have c5 : w5.cell? ⟨w1.heap.size, 5, none⟩ = some (.int .u64 0) := p5.cell 5
          have c6 : w5.cell? ⟨w1.heap.size, 6, none⟩ = some (.int .u64 0) := p5.cell 6
          have f5 := p5.free 5
          have f6 := p5.free 6
          have p6 : Blk ((w5.setCell ⟨w1.heap.size, 5, none⟩ (.int .u64 (R : Int))).setCell ⟨w1.heap.size, 6, none⟩ (.int .u64 (S : Int))) w1.heap.size #[.string n, .int .i64 v, .int .u64 (k : Int), .int .i64 t, .int .i64 D, .int .u64 (R : Int), .int .u64 (S : Int)] 55 := (p5.set 5 _).set 6 _
          have z6 := (z5.setOther (a := ⟨w1.heap.size, 5, none⟩) (by show w.heap.size + 1 ≠ w1.heap.size; omega) (.int .u64 (R : Int))).setOther (a := ⟨w1.heap.size, 6, none⟩) (by show w.heap.size + 1 ≠ w1.heap.size; omega) (.int .u64 (S : Int))
          have k6 := (k5.setNew (b := w1.heap.size) (by omega) 5 (.int .u64 (R : Int))).setNew (b := w1.heap.size) (by omega) 6 (.int .u64 (S : Int))
          clear p5 z5 k5
          go_wp2_with (first | (refine wpList_load_blk rfl _ _ rfl rfl p6 Pp.aPr ?_) | (refine wpList_store_blk rfl _ _ _ rfl rfl rfl z6 Pp.aPr rfl (pr_all n v k t D R S) ?_; intro w7 h7 k7) | fail)
          exact bodyPost_ret (v := .tuple #[prV n v k t D R S, .int .i64 0]) (Pp.res_ct rfl _ rfl rfl h7 Pp.aPr) rfl ⟨rfl, k6.then k7 (fun i hi (h : i = w.heap.size + 1) => by omega)⟩
        · have l3 := last_gt t true (decide_eq_true (by omega))
          have hE := mkPr_clock h1 (by omega) (by omega) h3
          rw [hE, makePr_none hE (by decide)]
          rw [h1] at hf
          have H := hid (And.intro hf hn)
          clear hf h1 hE h2 h3
          go_enter Try.func22, Try.ntmps22
          go_wp2_with fail
          refine (H.out.1 _).mono ?_
          rintro e w1 ⟨rfl, kn⟩
          have k1 := K0.trans kn
          have b1 := B0.kept kn (fun h => h)
          have z1 := Z0.kept kn (fun h => h)
          clear kn K0 B0 Z0
          go_wp2_with (first | go_skip | (refine wpList_store_blk rfl _ _ _ rfl rfl rfl z1 Pp.aPr rfl Pp.zero_all ?_; intro wz hz kz) | fail)
          exact bodyPost_ret (v := .tuple #[.agg #[.string ⟨#[]⟩, .int .i64 0, .int .u64 0, .int .i64 0, .int .i64 0, .int .u64 0, .int .u64 0], .int .i64 31]) (Pp.res_ct rfl _ rfl rfl hz Pp.aPr) rfl ⟨rfl, k1.then kz (fun i hi (h : i = w.heap.size + 1) => by omega)⟩
  · have hE := mkPr_form (m := n.size) (v := v) (k := k) (t := t) (fun h => h1 h.1)
    rw [hE, makePr_none hE (by decide)]
    rw [Bool.not_eq_true] at h1
    rw [h1] at hf
    have H := hid (And.intro hf hn)
    clear hf h1 hE
    go_enter Try.func22, Try.ntmps22
    go_wp2_with fail
    refine (H.out.1 _).mono ?_
    rintro e w1 ⟨rfl, kn⟩
    have k1 := K0.trans kn
    have b1 := B0.kept kn (fun h => h)
    have z1 := Z0.kept kn (fun h => h)
    clear kn K0 B0 Z0
    go_wp2_with (first | go_skip | (refine wpList_store_blk rfl _ _ _ rfl rfl rfl z1 Pp.aPr rfl Pp.zero_all ?_; intro wz hz kz) | fail)
    exact bodyPost_ret (v := .tuple #[.agg #[.string ⟨#[]⟩, .int .i64 0, .int .u64 0, .int .i64 0, .int .i64 0, .int .u64 0, .int .u64 0], .int .i64 23]) (Pp.res_ct rfl _ rfl rfl hz Pp.aPr) rfl ⟨rfl, k1.then kz (fun i hi (h : i = w.heap.size + 1) => by omega)⟩

set_option maxRecDepth 100000 in
set_option maxHeartbeats 4000000 in
/-- PromisePut. -/
theorem put (n : ByteArray) (v : Int) (k : Nat) (t d : Int) (r s : Nat) (w : World) (hn : n.size ≤ 274877906944) (hk : k < 18446744073709551616) (hr : r < 18446744073709551616) (hs : s < 18446744073709551616) : Calls Try.prog 24 #[prV n v k t d r s] w fun e w' => ∃ u, e = .returned (.tuple #[u, .int .i64 (Prm.putE ⟨n, v, k, t, d, r, s⟩)]) ∧ Kept None w w' ∧ Ob w' w.heap.size u (Prm.putL ⟨n, v, k, t, d, r, s⟩) := by
  have hq := fun W => right n v k t d r s W
  have k0 : Kept None w (w.alloc (.cells #[.string n, .int .i64 v, .int .u64 (k : Int), .int .i64 t, .int .i64 d, .int .u64 (r : Int), .int .u64 (s : Int)] 55)) := (Kept.refl _ _).alloc _
  have b0 : Blk (w.alloc (.cells #[.string n, .int .i64 v, .int .u64 (k : Int), .int .i64 t, .int .i64 d, .int .u64 (r : Int), .int .u64 (s : Int)] 55)) w.heap.size #[.string n, .int .i64 v, .int .u64 (k : Int), .int .i64 t, .int .i64 d, .int .u64 (r : Int), .int .u64 (s : Int)] 55 := Blk.new w _ _
  cases hb : rightPr n.size v k t d with
  | false =>
    rw [hb] at hq
    have e1 : Prm.putE ⟨n, v, k, t, d, r, s⟩ = 23 := by unfold Prm.putE Prm.right; rw [hb]; rfl
    have e2 : Prm.putL ⟨n, v, k, t, d, r, s⟩ = [] := by unfold Prm.putL Prm.right; rw [hb]; rfl
    rw [e1, e2]
    have H := hid hq
    clear hq hb e1 e2
    go_enter Try.func24, Try.ntmps24
    go_wp2_with (first | (refine wpList_load_blk rfl _ _ rfl rfl b0 Pp.aPr ?_) | fail)
    refine (H.out _).mono ?_
    rintro e w1 ⟨rfl, kn⟩
    have k1 := k0.trans kn
    go_wp2
    go_ret2
    exact ⟨_, rfl, k1, Bo.nil _ _ _⟩
  | true =>
    rw [hb] at hq
    have e1 : Prm.putE ⟨n, v, k, t, d, r, s⟩ = 0 := by unfold Prm.putE Prm.right; rw [hb]; rfl
    have e2 : Prm.putL ⟨n, v, k, t, d, r, s⟩ = putPr n v k t d r s := by unfold Prm.putL Prm.right; rw [hb]; rfl
    rw [e1, e2]
    have hm := fun W => message n v k t d r s W hn hk
    have hg := fun W => Ref.putSig r s W hr hs
    rw [show Sg.sigB r s = leB (r : Int) ++ leB (s : Int) from rfl] at hg
    have hf : msgPr n v k t d ++ (leB (r : Int) ++ leB (s : Int)) = putPr n v k t d r s := rfl
    have hl : (msgPr n v k t d).length = 41 + n.size ∧ (leB (r : Int) ++ leB (s : Int)).length = 16 ∧ n.size ≤ 274877906944 := ⟨msgPr_len _ _ _ _ _, rfl, hn⟩
    obtain ⟨T, hT⟩ : ∃ T, T = putPr n v k t d r s := ⟨_, rfl⟩
    rw [← hT] at hf ⊢
    obtain ⟨M, hM⟩ : ∃ M, M = msgPr n v k t d := ⟨_, rfl⟩
    rw [← hM] at hf hm hl
    obtain ⟨G, hG⟩ : ∃ G, G = leB (r : Int) ++ leB (s : Int) := ⟨_, rfl⟩
    rw [← hG] at hf hg hl
    have H := hid (And.intro hq (And.intro hm hg))
    have HT := hid hf
    have HL := hid hl
    clear hq hm hg hf hl hT hM hG hb e1 e2 hn hk hr hs
    go_enter Try.func24, Try.ntmps24
    go_wp2_with (first | (refine wpList_load_blk rfl _ _ rfl rfl b0 Pp.aPr ?_) | fail)
    refine (H.out.1 _).mono ?_
    rintro e w1 ⟨rfl, kn⟩
    have k01 := k0.trans kn
    have b1 := b0.kept kn (fun h => h)
    clear k0 b0 kn
    go_wp2_with fail
    have BX := hid b1
    have BS := hid (sig_at b1)
    clear b1
    have hs : Steady [.own 5 1 (w1.heap.size) (M), .bytes 4 (G)] := Go.Pm.Steady.own (Go.Pm.Steady.bytes (Go.Pm.Steady.nil))
    refine wp_region_kn_tail 5 w1 _ hs (Kept.refl _ _) (by kernel_rfl) (by kernel_rfl) (by kernel_rfl) ?_
    simp only [List.take_succ_cons, List.take_zero, List.drop_succ_cons, List.drop_zero]
    refine wpPar_pure rfl (by rfl) _ (fun W hW => by first | exact exec_load_blk _ _ rfl rfl (BX.out.kept hW (fun h => h)) Pp.aPr | exact exec_load_at rfl rfl (rangeAt_kept BS.out hW) Sg.aSig | (go_simp; exact rfl)) ?_; simp only [Act.put, List.setIfInBounds_toArray, List.set_cons_zero, List.set_cons_succ]
    refine wpKn_adds hs rfl (by rfl) (fun W hW hd => ?_) (fun v1 hv => ?_)
    · unfold Gives
      go_simp
      refine gives_call (H.out.2.1 W) ?_
      rintro e w3 ⟨u, rfl, k3, b3⟩
      exact ⟨_, rfl, k3, b3.form, b3.base hW.size⟩
    obtain ⟨a1, c1, rfl⟩ : ∃ a c, v1 = .slice a M.length c := hv
    simp only [Act.put, List.setIfInBounds_toArray, List.set_cons_zero, List.set_cons_succ]
    iterate 1 (refine wpPar_pure rfl (by rfl) _ (fun W hW => by
        go_simp
        exact rfl) ?_; simp only [Act.put, List.setIfInBounds_toArray, List.set_cons_zero, List.set_cons_succ])
    refine wpPar_pure rfl (by rfl) _ (fun W hW => by first | exact exec_load_blk _ _ rfl rfl (BX.out.kept hW (fun h => h)) Pp.aPr | exact exec_load_at rfl rfl (rangeAt_kept BS.out hW) Sg.aSig | (go_simp; exact rfl)) ?_; simp only [Act.put, List.setIfInBounds_toArray, List.set_cons_zero, List.set_cons_succ]
    refine wpKn_adds hs rfl (by rfl) (fun W hW hd => ?_) (fun v4 hv => ?_)
    · unfold Gives
      go_simp
      refine gives_call (H.out.2.2 W) ?_
      rintro e w3 ⟨u, rfl, k3, b3⟩
      exact ⟨_, rfl, k3, b3.form, _, _, b3.bs (Nat.le_refl _)⟩
    obtain ⟨a4, c4, rfl⟩ : ∃ a c, v4 = .slice a G.length c := hv
    simp only [Act.put, List.setIfInBounds_toArray, List.set_cons_zero, List.set_cons_succ]
    refine wpPar_nil (fun W hW hG => ?_)
    have hb : Ob W w1.heap.size (.slice a1 M.length c1) M := hG 1
    obtain ⟨lo, hi, d4⟩ : ∃ lo hi, Bs W lo hi (.slice a4 G.length c4) G := hG 4
    have kW := k01.trans hW
    have sW := hW.size
    clear hG hs hW
    go_wp2_with (first | (at_builtin; refine wpList_append_bo (l := M) (m := G) (base := w1.heap.size) rfl _ _ 29 rfl rtBytes rfl rfl hb d4 (by have := HL.out; omega) sW ?q5) | fail)
    case q5 =>
      intro a9 n9 c9 w9 b9 k9
      have k09 := Kept.own kW k9 (fun k hk => Nat.le_trans k01.size (hb.own k hk).1)
      rw [HT.out] at b9
      have bz := b9.base k01.size
      clear kW k9 b9 hb d4
      go_wp2
      go_ret2
      exact ⟨_, rfl, k09, bz⟩
end RPp
end Go.Proofs.Ytibkijloibnkfaa
