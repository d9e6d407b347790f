/- postmarkref8: HeadRight, HeadMessage, HeadSign, HeadCheck, HeadBytes, HeadPut, by contract. -/
import Derived.Test.YtibkijloibnkfaaHdA10
import Derived.Test.YtibkijloibnkfaaLowSigs
import Derived.Test.YtibkijloibnkfaaHk8
namespace Go.Proofs.Ytibkijloibnkfaa
open Go.RowKit Go.Pm
namespace RHp
open Hp (aHd aHd' big_lt big_le)

set_option maxRecDepth 100000 in
set_option maxHeartbeats 1000000 in
theorem right (h : Hd) (w : World) : Calls Try.prog 13 #[hdV h] w fun e w' => e = .returned (.bool (rightHd h)) ∧ Kept None w w' := by
  obtain ⟨X, hX⟩ : ∃ X, X = (hdC h).toArray := ⟨_, rfl⟩
  show Calls _ _ #[.agg (hdC h).toArray] _ _
  rw [← hX]
  have hc0 : X[0]? = some (.int .i64 h.e) := by rw [hX]; rfl
  have hc1 : X[1]? = some (.int .i64 h.t) := by rw [hX]; rfl
  have hc2 : X[2]? = some (.int .i64 h.c) := by rw [hX]; rfl
  have k0 : Kept None w (w.alloc (.cells X 28)) := (Kept.refl _ _).alloc _
  have hiff := rightHd_iff h
  obtain ⟨Q, hQ⟩ : ∃ Q, Q = rightHd h := ⟨_, rfl⟩
  rw [← hQ] at hiff ⊢
  clear hX hQ
  obtain ⟨e, he⟩ : ∃ e, e = h.e := ⟨_, rfl⟩
  obtain ⟨t, ht⟩ : ∃ t, t = h.t := ⟨_, rfl⟩
  obtain ⟨c, hc⟩ : ∃ c, c = h.c := ⟨_, rfl⟩
  rw [← he] at hc0 hiff
  rw [← ht] at hc1 hiff
  rw [← hc] at hc2 hiff
  clear he ht hc
  by_cases h1 : e < 1
  · have hq : Q = false := by
      rw [← Bool.not_eq_true, hiff]
      omega
    subst hq
    clear hiff
    go_enter Try.func13, Try.ntmps13
    go_wp2
    go_ret
    exact ⟨rfl, k0⟩
  by_cases h2 : 1073741824 < e
  · have hq : Q = false := by
      rw [← Bool.not_eq_true, hiff]
      omega
    subst hq
    clear hiff
    go_enter Try.func13, Try.ntmps13
    go_wp2
    go_ret
    exact ⟨rfl, k0⟩
  by_cases h3 : t < 0
  · have hq : Q = false := by
      rw [← Bool.not_eq_true, hiff]
      omega
    subst hq
    clear hiff
    go_enter Try.func13, Try.ntmps13
    go_wp2
    go_ret
    exact ⟨rfl, k0⟩
  by_cases h4 : 1152921504606846976 < t
  · have hq : Q = false := by
      rw [← Bool.not_eq_true, hiff]
      omega
    subst hq
    have hb := big_lt t true (decide_eq_true h4)
    have hb' := big_le t false (decide_eq_false (by omega))
    clear h4
    clear hiff
    go_enter Try.func13, Try.ntmps13
    go_wp2
    go_ret
    exact ⟨rfl, k0⟩
  have hb := big_lt t false (decide_eq_false h4)
  have hb' := big_le t true (decide_eq_true (by omega))
  by_cases h5 : c < 1
  · have hq : Q = false := by
      rw [← Bool.not_eq_true, hiff]
      omega
    subst hq
    clear h4
    clear hiff
    go_enter Try.func13, Try.ntmps13
    go_wp2
    go_ret
    exact ⟨rfl, k0⟩
  by_cases h6 : 8 < c
  · have hq : Q = false := by
      rw [← Bool.not_eq_true, hiff]
      omega
    subst hq
    have hc8 : decide (c ≤ 8) = false := by rw [decide_eq_false_iff_not]; omega
    have hc1' : decide (1 ≤ c) = true := by rw [decide_eq_true_eq]; omega
    clear h4
    clear hiff
    go_enter Try.func13, Try.ntmps13
    go_wp2
    go_ret
    exact ⟨rfl, k0⟩
  have hq : Q = true := by
    rw [hiff]
    omega
  subst hq
  have hc8 : decide (c ≤ 8) = true := by rw [decide_eq_true_eq]; omega
  have hc1' : decide (1 ≤ c) = true := by rw [decide_eq_true_eq]; omega
  clear hiff h4
  go_enter Try.func13, Try.ntmps13
  go_wp2
  go_ret
  exact ⟨rfl, k0⟩

set_option maxRecDepth 100000 in
set_option maxHeartbeats 4000000 in
theorem message (h : Hd) (w : World) (hk : h.Ok) : Calls Try.prog 15 #[hdV h] w fun e w' => ∃ u, e = .returned u ∧ Kept None w w' ∧ Ob w' w.heap.size u (msgHd h) := by
  obtain ⟨X, hX⟩ : ∃ X, X = (hdC h).toArray := ⟨_, rfl⟩
  show Calls _ _ #[.agg (hdC h).toArray] _ _
  rw [← hX]
  have hc0 : X[0]? = some (.int .i64 h.e) := by rw [hX]; rfl
  have hE : 0 ≤ U6 h.e ∧ U6 h.e < 18446744073709551616 := ⟨U6_ge _, U6_lt _⟩
  have hT : 0 ≤ U6 h.t ∧ U6 h.t < 18446744073709551616 := ⟨U6_ge _, U6_lt _⟩
  have hC : 0 ≤ U6 h.c ∧ U6 h.c < 18446744073709551616 := ⟨U6_ge _, U6_lt _⟩
  have hwE : IntKind.u64.wrap h.e = U6 h.e := by rw [IntKind.wrap_u64]
  have hwT : IntKind.u64.wrap h.t = U6 h.t := by rw [IntKind.wrap_u64]
  have hwC : IntKind.u64.wrap h.c = U6 h.c := by rw [IntKind.wrap_u64]
  have hM : [72] ++ leB (U6 h.e) ++ leB (U6 h.t) ++ leB (U6 h.c) ++ h.root ++ h.log = msgHd h := rfl
  obtain ⟨E, he⟩ : ∃ E, E = U6 h.e := ⟨_, rfl⟩
  obtain ⟨T, ht⟩ : ∃ T, T = U6 h.t := ⟨_, rfl⟩
  obtain ⟨C, hc⟩ : ∃ C, C = U6 h.c := ⟨_, rfl⟩
  obtain ⟨M, hm⟩ : ∃ M, M = msgHd h := ⟨_, rfl⟩
  rw [← he] at hE hwE hM
  rw [← ht] at hT hwT hM
  rw [← hc] at hC hwC hM
  rw [← hm] at hM ⊢
  obtain ⟨L1, h1⟩ : ∃ L, L = 72 :: leB E := ⟨_, rfl⟩
  obtain ⟨L2, h2⟩ : ∃ L, L = L1 ++ leB T := ⟨_, rfl⟩
  obtain ⟨L3, h3⟩ : ∃ L, L = L2 ++ leB C := ⟨_, rfl⟩
  obtain ⟨L4, h4⟩ : ∃ L, L = L3 ++ h.root := ⟨_, rfl⟩
  have h5 : L4 ++ h.log = M := by rw [h4, h3, h2, h1]; exact hM
  have l1 : L1.length = 9 := by rw [h1]; simp [leB_length]
  have l2 : L2.length = 17 := by rw [h2, List.length_append, l1, leB_length]
  have l3 : L3.length = 25 := by rw [h3, List.length_append, l2, leB_length]
  have l4 : L4.length = 57 := by rw [h4, List.length_append, l3, hk.1]
  have HX := hid (And.intro hX hk)
  have HN := hid (And.intro hE (And.intro hT hC))
  have HE := hid (And.intro h1 (And.intro h2 (And.intro h3 (And.intro h4 h5))))
  have HL := hid (And.intro l1 (And.intro l2 (And.intro l3 l4)))
  have k1 : Kept None w ((w.alloc (.cells X 28)).alloc (.cells #[.int .u8 72] 5)) := ((Kept.refl _ _).alloc _).alloc _
  have x1 : Blk ((w.alloc (.cells X 28)).alloc (.cells #[.int .u8 72] 5)) w.heap.size X 28 := (Blk.new w _ _).alloc _
  have b1 : Ob ((w.alloc (.cells X 28)).alloc (.cells #[.int .u8 72] 5)) (w.heap.size + 1) (.slice (some ⟨w.heap.size + 1, 0, none⟩) 1 1) [72] := by
    have h := Bo.new (w.alloc (.cells X 28)) 5 [72] #[.int .u8 72] (by rfl) 1 rfl (by decide)
    simpa using h
  clear hE hT hC hM he ht hc hm h1 h2 h3 h4 h5 l1 l2 l3 l4 hX
  go_enter Try.func15, Try.ntmps15
  go_wp2_with fail
  refine Calls.nm ?_
  intro w1 e1
  rw [← e1] at k1 x1 b1
  clear e1 hc0
  refine (Ref.num E w1 HN.out.1.1 HN.out.1.2).mono ?_
  rintro e w2 ⟨u, rfl, kn, bn⟩
  have k2 := k1.trans kn
  have x2 := x1.kept kn (fun h => h)
  have b2 := b1.kept kn (fun _ _ h => h)
  have d2 := bn.bs (Nat.le_refl _)
  have s2 : w.heap.size + 1 ≤ w2.heap.size := x2.lt
  obtain ⟨an, cn, rfl⟩ := bn.form
  clear kn bn k1 x1 b1
  go_wp2_with (first | (at_builtin; refine wpList_append_bo (l := [72]) (m := leB E) (base := w.heap.size + 1) rfl _ _ 29 rfl rtBytes rfl rfl b2 d2 (by have := HL.out; simp only [leB_length, List.length_cons, List.length_nil]; omega) s2 ?q2) | fail)
  case q2 =>
    intro a3 n3 m3 w3 b3 kn
    have k3 := Kept.own k2 kn (fun k hk => Nat.le_of_succ_le (b2.own k hk).1)
    have x3 := x2.kept kn (fun h => absurd (b2.own _ h).1 (by omega))
    rw [← HE.out.1] at b3
    clear kn k2 x2 b2 d2 s2
    go_wp2_with fail
    have X3 := hid x3
    have B3 := hid b3
    have K3 := hid k3
    have O3 := hid b3.own
    have s3 : w.heap.size + 1 ≤ w3.heap.size := x3.lt
    have S3 := hid s3
    have HC1 := hid (fun W (hW : Kept (fun q => w.heap.size + 1 ≤ q) w3 W) => hd_c1 (h := h) (HX.out.1 ▸ (X3.out.kept hW (by omega))))
    have HC2 := hid (fun W (hW : Kept (fun q => w.heap.size + 1 ≤ q) w3 W) => hd_c2 (h := h) (HX.out.1 ▸ (X3.out.kept hW (by omega))))
    clear x3 b3 k3 s3
    refine wp_region_plan (Kept (fun q => w.heap.size + 1 ≤ q) w3) [{ k := 4, uses := [], pure := fun u => ∃ a c, u = .slice a (leB T).length c, fact := fun u W => Ob W w3.heap.size u (leB T) }, { k := 5, uses := [4, 100], spends := [4, 100], later := [10], pure := fun u => ∃ a n c, u = .slice a n c, fact := fun u W => Ob W (w.heap.size + 1) u L2 }, { k := 9, uses := [], pure := fun u => ∃ a c, u = .slice a (leB C).length c, fact := fun u W => Ob W w3.heap.size u (leB C) }, { k := 10, uses := [5, 9, 4, 100], spends := [5, 9, 4, 100], pure := fun u => ∃ a n c, u = .slice a n c, fact := fun u W => Ob W (w.heap.size + 1) u L3 }, { k := 100, uses := [], fact := fun u W => Ob W (w.heap.size + 1) (.slice a3 n3 m3) L1 }] [100] (by kernel_rfl) (by kernel_rfl) (by kernel_rfl) (by rfl) ?pures ((Kept.refl _ w3).drew) ?starts ?walk
    case pures =>
      intro f hf
      simp only [List.mem_cons, List.not_mem_nil, or_false] at hf
      rcases hf with rfl | rfl | rfl | rfl | rfl
      · exact ⟨_, none, 0, rfl⟩
      · exact ⟨_, none, 0, 0, rfl⟩
      · exact ⟨_, none, 0, rfl⟩
      · exact ⟨_, none, 0, 0, rfl⟩
      · exact ⟨undef, trivial⟩
    case starts =>
      intro k hk
      have hk : k = 100 := by simpa using hk
      subst hk
      exact B3.out.kept ((Kept.refl None w3).drew) (fun _ _ h => h)
    iterate 4 (refine wpPar_pure rfl (by rfl) _ (fun W hW => by
        have c1 := HC1.out W hW
        have c2 := HC2.out W hW
        go_simp
        exact rfl) ?_; simp only [Act.put, List.setIfInBounds_toArray, List.set_cons_zero, List.set_cons_succ])
    refine wpPar_adds rfl (by rfl) (fun W hW hd => ?_) (fun v4 hv => ?_)
    · unfold Gives
      go_simp
      refine gives_call (Ref.num T W HN.out.2.1.1 HN.out.2.1.2) ?_
      rintro e w4 ⟨u, rfl, k4, b4⟩
      refine ⟨_, rfl, hW.then k4 (fun _ _ h => h.elim), b4.form, b4.base hW.size, keeps_of fun f hf hs hl hne u hfu => ?_⟩
      simp only [List.mem_cons, List.not_mem_nil, or_false] at hf
      rcases hf with rfl | rfl | rfl | rfl | rfl
      · exact absurd rfl hne
      · exact Bo.kept hfu k4 (fun _ _ h => h.elim)
      · exact Bo.kept hfu k4 (fun _ _ h => h.elim)
      · exact Bo.kept hfu k4 (fun _ _ h => h.elim)
      · exact Bo.kept hfu k4 (fun _ _ h => h.elim)
    obtain ⟨a4, c4, rfl⟩ : ∃ a c, v4 = .slice a (leB T).length c := hv
    simp only [Act.put, List.setIfInBounds_toArray, List.set_cons_zero, List.set_cons_succ]
    refine wpPar_adds rfl (by rfl) (fun W hW hd => ?_) (fun v5 hv => ?_)
    · have h1 : Ob W (w.heap.size + 1) (.slice a3 n3 m3) L1 := hd 100 (List.Mem.tail _ (List.Mem.head _))
      have h2 : Ob W w3.heap.size (.slice a4 (leB T).length c4) (leB T) := hd 4 (List.Mem.head _)
      refine gives_append_bo _ _ 29 rfl rtBytes rfl rfl h1 (h2.bs (Nat.le_refl _)) (by have := HL.out; rw [leB_length]; omega) (Nat.le_trans S3.out hW.size) ?_
      intro a' n' c' W' h3 h4 _
      rw [← HE.out.2.1] at h3
      refine ⟨hW.trans (h4.mono (fun q _ h => (h1.own q h).1)), ⟨_, _, _, rfl⟩, h3, keeps_of fun f hf hs hl hne u hfu => ?_⟩
      simp only [List.mem_cons, List.not_mem_nil, or_false] at hf
      rcases hf with rfl | rfl | rfl | rfl | rfl
      · exact absurd (List.Mem.head _) hs
      · exact absurd rfl hne
      · exact Bo.kept hfu h4 (fun k hk h => by have h1 := (Bo.own hfu k hk).1; have h2 := (O3.out k h).2; omega)
      · exact absurd (List.Mem.head _) hl
      · exact absurd (List.Mem.tail _ (List.Mem.head _)) hs
    obtain ⟨a5, n5, c5, rfl⟩ : ∃ a n c, v5 = .slice a n c := hv
    simp only [Act.put, List.setIfInBounds_toArray, List.set_cons_zero, List.set_cons_succ]
    iterate 3 (refine wpPar_pure rfl (by rfl) _ (fun W hW => by
        have c1 := HC1.out W hW
        have c2 := HC2.out W hW
        go_simp
        exact rfl) ?_; simp only [Act.put, List.setIfInBounds_toArray, List.set_cons_zero, List.set_cons_succ])
    refine wpPar_adds rfl (by rfl) (fun W hW hd => ?_) (fun v9 hv => ?_)
    · unfold Gives
      go_simp
      refine gives_call (Ref.num C W HN.out.2.2.1 HN.out.2.2.2) ?_
      rintro e w4 ⟨u, rfl, k4, b4⟩
      refine ⟨_, rfl, hW.then k4 (fun _ _ h => h.elim), b4.form, b4.base hW.size, keeps_of fun f hf hs hl hne u hfu => ?_⟩
      simp only [List.mem_cons, List.not_mem_nil, or_false] at hf
      rcases hf with rfl | rfl | rfl | rfl | rfl
      · exact Bo.kept hfu k4 (fun _ _ h => h.elim)
      · exact Bo.kept hfu k4 (fun _ _ h => h.elim)
      · exact absurd rfl hne
      · exact Bo.kept hfu k4 (fun _ _ h => h.elim)
      · exact Bo.kept hfu k4 (fun _ _ h => h.elim)
    obtain ⟨a9, c9, rfl⟩ : ∃ a c, v9 = .slice a (leB C).length c := hv
    simp only [Act.put, List.setIfInBounds_toArray, List.set_cons_zero, List.set_cons_succ]
    refine wpPar_adds rfl (by rfl) (fun W hW hd => ?_) (fun v10 hv => ?_)
    · have h1 : Ob W (w.heap.size + 1) (.slice a5 n5 c5) L2 := hd 5 (List.Mem.head _)
      have h2 : Ob W w3.heap.size (.slice a9 (leB C).length c9) (leB C) := hd 9 (List.Mem.tail _ (List.Mem.head _))
      refine gives_append_bo _ _ 29 rfl rtBytes rfl rfl h1 (h2.bs (Nat.le_refl _)) (by have := HL.out; rw [leB_length]; omega) (Nat.le_trans S3.out hW.size) ?_
      intro a' n' c' W' h3 h4 _
      rw [← HE.out.2.2.1] at h3
      refine ⟨hW.trans (h4.mono (fun q _ h => (h1.own q h).1)), ⟨_, _, _, rfl⟩, h3, keeps_of fun f hf hs hl hne u hfu => ?_⟩
      simp only [List.mem_cons, List.not_mem_nil, or_false] at hf
      rcases hf with rfl | rfl | rfl | rfl | rfl
      · exact absurd (List.Mem.tail _ (List.Mem.tail _ (List.Mem.head _))) hs
      · exact absurd (List.Mem.head _) hs
      · exact absurd (List.Mem.tail _ (List.Mem.head _)) hs
      · exact absurd rfl hne
      · exact absurd (List.Mem.tail _ (List.Mem.tail _ (List.Mem.tail _ (List.Mem.head _)))) hs
    obtain ⟨a10, n10, c10, rfl⟩ : ∃ a n c, v10 = .slice a n c := hv
    simp only [Act.put, List.setIfInBounds_toArray, List.set_cons_zero, List.set_cons_succ]
    iterate 1 (refine wpPar_pure rfl (by rfl) _ (fun W hW => by
        have c1 := HC1.out W hW
        have c2 := HC2.out W hW
        go_simp
        exact rfl) ?_; simp only [Act.put, List.setIfInBounds_toArray, List.set_cons_zero, List.set_cons_succ])
    refine wpPar_nil (fun W hW hG => ?_)
    have b5 : Ob W (w.heap.size + 1) (.slice a10 n10 c10) L3 := hG 10
    have k5 : Kept None w W := K3.out.then hW (fun i hi h => by omega)
    have x5 := X3.out.kept hW (by omega)
    clear hG hW HC1 HC2 O3 S3 K3 B3 X3
    obtain ⟨w5, rfl⟩ : ∃ w5, w5 = W := ⟨_, rfl⟩
    go_wp2_with fail
    have X5 := hid x5
    have B5 := hid b5
    have K5 := hid k5
    have S5 := hid (show w.heap.size + 1 ≤ w5.heap.size from x5.lt)
    have HR := hid (fun W (hW : Kept (fun q => w.heap.size + 1 ≤ q) w5 W) => (range_bs (hd_rr (h := h) (HX.out.1 ▸ (X5.out.kept hW (by omega)))) HX.out.2.1 (by decide)).all)
    have HG := hid (fun W (hW : Kept (fun q => w.heap.size + 1 ≤ q) w5 W) => (range_bs (hd_rl (h := h) (HX.out.1 ▸ (X5.out.kept hW (by omega))) HX.out.2) HX.out.2.2.1 (by decide)).all)
    clear x5 b5 k5
    refine wp_region_plan (Kept (fun q => w.heap.size + 1 ≤ q) w5) [{ k := 3, uses := [100], spends := [100], later := [6], pure := fun u => ∃ a n c, u = .slice a n c, fact := fun u W => Ob W (w.heap.size + 1) u L4 }, { k := 6, uses := [3, 100], spends := [3, 100], pure := fun u => ∃ a n c, u = .slice a n c, fact := fun u W => Ob W (w.heap.size + 1) u M }, { k := 100, uses := [], fact := fun u W => Ob W (w.heap.size + 1) (.slice a10 n10 c10) L3 }] [100] (by kernel_rfl) (by kernel_rfl) (by kernel_rfl) (by rfl) ?pures2 ((Kept.refl _ w5).drew) ?starts2 ?walk2
    case pures2 =>
      intro f hf
      simp only [List.mem_cons, List.not_mem_nil, or_false] at hf
      rcases hf with rfl | rfl | rfl
      · exact ⟨_, none, 0, 0, rfl⟩
      · exact ⟨_, none, 0, 0, rfl⟩
      · exact ⟨undef, trivial⟩
    case starts2 =>
      intro k hk
      have hk : k = 100 := by simpa using hk
      subst hk
      exact B5.out.kept ((Kept.refl None w5).drew) (fun _ _ h => h)
    iterate 3 (refine wpPar_pure rfl (by rfl) _ (fun W hW => by
        go_simp
        exact rfl) ?_; simp only [Act.put, List.setIfInBounds_toArray, List.set_cons_zero, List.set_cons_succ])
    refine wpPar_adds rfl (by rfl) (fun W hW hd => ?_) (fun v3 hv => ?_)
    · have h1 : Ob W (w.heap.size + 1) (.slice a10 n10 c10) L3 := hd 100 (List.Mem.head _)
      refine gives_append_bo _ _ 29 rfl rtBytes rfl rfl h1 (HR.out W hW) (by have := HL.out; have := HX.out.2.1; have := HX.out.2.2.1; omega) (Nat.le_trans S5.out hW.size) ?_
      intro a' n' c' W' h3 h4 _
      rw [← HE.out.2.2.2.1] at h3
      refine ⟨hW.trans (h4.mono (fun q _ h => (h1.own q h).1)), ⟨_, _, _, rfl⟩, h3, keeps_of fun f hf hs hl hne u hfu => ?_⟩
      simp only [List.mem_cons, List.not_mem_nil, or_false] at hf
      rcases hf with rfl | rfl | rfl
      · exact absurd rfl hne
      · exact absurd (List.Mem.head _) hl
      · exact absurd (List.Mem.head _) hs
    obtain ⟨a3, n3, c3, rfl⟩ : ∃ a n c, v3 = .slice a n c := hv
    simp only [Act.put, List.setIfInBounds_toArray, List.set_cons_zero, List.set_cons_succ]
    iterate 2 (refine wpPar_pure rfl (by rfl) _ (fun W hW => by
        go_simp
        exact rfl) ?_; simp only [Act.put, List.setIfInBounds_toArray, List.set_cons_zero, List.set_cons_succ])
    refine wpPar_adds rfl (by rfl) (fun W hW hd => ?_) (fun v6 hv => ?_)
    · have h1 : Ob W (w.heap.size + 1) (.slice a3 n3 c3) L4 := hd 3 (List.Mem.head _)
      refine gives_append_bo _ _ 29 rfl rtBytes rfl rfl h1 (HG.out W hW) (by have := HL.out; have := HX.out.2.1; have := HX.out.2.2.1; omega) (Nat.le_trans S5.out hW.size) ?_
      intro a' n' c' W' h3 h4 _
      rw [HE.out.2.2.2.2] at h3
      refine ⟨hW.trans (h4.mono (fun q _ h => (h1.own q h).1)), ⟨_, _, _, rfl⟩, h3, keeps_of fun f hf hs hl hne u hfu => ?_⟩
      simp only [List.mem_cons, List.not_mem_nil, or_false] at hf
      rcases hf with rfl | rfl | rfl
      · exact absurd (List.Mem.head _) hs
      · exact absurd rfl hne
      · exact absurd (List.Mem.tail _ (List.Mem.head _)) hs
    obtain ⟨a6, n6, c6, rfl⟩ : ∃ a n c, v6 = .slice a n c := hv
    simp only [Act.put, List.setIfInBounds_toArray, List.set_cons_zero, List.set_cons_succ]
    iterate 1 (refine wpPar_pure rfl (by rfl) _ (fun W hW => by
        go_simp
        exact rfl) ?_; simp only [Act.put, List.setIfInBounds_toArray, List.set_cons_zero, List.set_cons_succ])
    refine wpPar_nil (fun W hW hG => ?_)
    have b6 : Ob W (w.heap.size + 1) (.slice a6 n6 c6) M := hG 6
    have k6 : Kept None w W := K5.out.then hW (fun i hi h => by omega)
    have bz := b6.base (Nat.le_succ w.heap.size)
    clear hG hW HR HG S5 K5 B5 X5 b6
    go_wp2
    go_ret
    exact ⟨_, rfl, k6, bz⟩

set_option maxRecDepth 100000 in
set_option maxHeartbeats 4000000 in
theorem sign (x : Nat) (h : Hd) (w : World) (hk : h.Ok) : Calls Try.prog 7 #[.int .u64 x, hdV h] w fun e w' => e = .returned (hdV (signHd x h)) ∧ Kept None w w' := by
  have hok := signHd_ok x hk
  have hset := hd_set_sig hk (sigR x (msgHd h)) (sigS x (msgHd h)) (word_lt (sigR_lt _ _))
  rw [show ({ h with r := sigR x (msgHd h), s := sigS x (msgHd h) } : Hd) = signHd x h from rfl] at hset
  obtain ⟨h', hh'⟩ : ∃ h', h' = signHd x h := ⟨_, rfl⟩
  rw [← hh'] at hok hset ⊢
  have hm := fun W => message h W hk
  have hs := fun v lo hi W hv => Ref.sign x v lo hi (msgHd h) W hv (by rw [msgHd_len hk]; decide)
  obtain ⟨M, hM⟩ : ∃ M, M = msgHd h := ⟨_, rfl⟩
  rw [← hM] at hm hs hset
  obtain ⟨R, hR⟩ : ∃ R, R = sigR x M := ⟨_, rfl⟩
  obtain ⟨S, hS⟩ : ∃ S, S = sigS x M := ⟨_, rfl⟩
  rw [← hR, ← hS] at hs hset
  obtain ⟨X, hX⟩ : ∃ X, X = (hdC h).toArray := ⟨_, rfl⟩
  obtain ⟨Y, hY⟩ : ∃ Y, Y = (hdC h').toArray := ⟨_, rfl⟩
  show Calls _ _ #[.int .u64 x, .agg (hdC h).toArray] w fun e w' => e = .returned (.agg (hdC h').toArray) ∧ Kept None w w'
  have aX : AggTy Try.prog 28 X.size := by rw [hX]; exact aHd' hk
  have aY : AggTy Try.prog 28 Y.size := by rw [hY]; exact aHd' hok
  have sY : 69 = Y.size := by rw [hY]; exact (hdC_size hok).symm
  have oY : Y.all (·.oneCell') = true := by rw [hY]; exact hdC_one _
  have hm' : ∀ W, Calls Try.prog 15 #[.agg X] W fun e w' => ∃ u, e = .returned u ∧ Kept None W w' ∧ Ob w' W.heap.size u M := fun W => by
    rw [hX]
    exact hm W
  rw [← hX, ← hY] at hset
  rw [← hX, ← hY]
  have HH := hid (And.intro hm' hs)
  have HX := hid (And.intro hX hk)
  have HS := hid hset
  have HY := hid (And.intro sY oY)
  clear hm hm' hs hset hok hh' hM hR hS hX hY sY oY
  have k1 : Kept None w ((w.alloc (.cells X 28)).alloc (.cells Try.zeroCells28 28)) := ((Kept.refl _ _).alloc _).alloc _
  have x1 : Blk ((w.alloc (.cells X 28)).alloc (.cells Try.zeroCells28 28)) w.heap.size X 28 := (Blk.new w _ _).alloc _
  obtain ⟨Z, hZ, z1⟩ := Blk.any (n := 69) (Blk.new2 w (.cells X 28) Try.zeroCells28 28) (by rfl)
  have HZ := hid hZ
  clear hZ
  go_enter Try.func7, Try.ntmps7
  go_wp2_with (first | (refine wpList_load_blk rfl _ _ rfl rfl x1 aX ?_) | fail)
  refine Calls.nm ?_
  intro w1 e1
  rw [← e1] at k1 x1 z1
  clear e1
  refine (HH.out.1 w1).mono ?_
  rintro e w2 ⟨u, rfl, kn, bn⟩
  have k2 := k1.trans kn
  have x2 := x1.kept kn (fun h => h)
  have z2 := z1.kept kn (fun h => h)
  have d2 := bn.bs (Nat.le_refl _)
  obtain ⟨a2, c2, rfl⟩ := bn.form
  clear k1 x1 z1 kn bn
  go_wp2_with fail
  refine (HH.out.2 _ _ _ _ d2).mono ?_
  rintro e w3 ⟨rfl, kn⟩
  have k3 := k2.trans kn
  have x3 := x2.kept kn (fun h => h)
  have z3 := z2.kept kn (fun h => h)
  clear k2 x2 z2 kn d2 HH
  have c67 : w3.cell? ⟨w.heap.size, 67, none⟩ = some (.int .u64 (h.r : Int)) := hd_c67 (HX.out.1 ▸ x3) HX.out.2
  have c68 : w3.cell? ⟨w.heap.size, 68, none⟩ = some (.int .u64 (h.s : Int)) := hd_c68 (HX.out.1 ▸ x3) HX.out.2
  have f67 := x3.free 67
  have f68 := x3.free 68
  have x4 : Blk ((w3.setCell ⟨w.heap.size, 67, none⟩ (.int .u64 (R : Int))).setCell ⟨w.heap.size, 68, none⟩ (.int .u64 (S : Int))) w.heap.size Y 28 := HS.out ▸ (x3.set 67 _).set 68 _
  have z4 : Blk ((w3.setCell ⟨w.heap.size, 67, none⟩ (.int .u64 (R : Int))).setCell ⟨w.heap.size, 68, none⟩ (.int .u64 (S : Int))) (w.heap.size + 1) Z 28 := (z3.setOther (by show w.heap.size + 1 ≠ w.heap.size; omega) _).setOther (by show w.heap.size + 1 ≠ w.heap.size; omega) _
  have k4 : Kept None w ((w3.setCell ⟨w.heap.size, 67, none⟩ (.int .u64 (R : Int))).setCell ⟨w.heap.size, 68, none⟩ (.int .u64 (S : Int))) := (k3.setNew (Nat.le_refl _) 67 _).setNew (Nat.le_refl _) 68 _
  have E := hid (HZ.out.trans HY.out.1)
  clear k3 x3 z3
  go_wp2_with (first | (refine wpList_load_blk rfl _ _ rfl rfl x4 aY ?_) | (refine wpList_store_blk rfl _ _ _ rfl rfl rfl z4 aY E.out HY.out.2 ?_; intro w9 h9 k9) | fail)
  exact bodyPost_ret (v := .agg Y) (results_blk rfl _ rfl h9 aY) rfl ⟨rfl, k4.then k9 (fun i hi (h : i = w.heap.size + 1) => by omega)⟩

set_option maxRecDepth 100000 in
set_option maxHeartbeats 4000000 in
theorem check (y : Nat) (h : Hd) (w : World) (hk : h.Ok) : Calls Try.prog 19 #[.int .u64 y, hdV h] w fun e w' => e = .returned (.bool (takenHd y h)) ∧ Kept None w w' := by
  have hr := fun W => right h W
  have hm := fun W => message h W hk
  have hs := fun v lo hi W hv => Ref.check y h.r h.s v lo hi (msgHd h) W hv (by rw [msgHd_len hk]; decide)
  have hq : takenHd y h = (rightHd h && checkN y (msgHd h) h.r h.s) := rfl
  obtain ⟨M, hM⟩ : ∃ M, M = msgHd h := ⟨_, rfl⟩
  rw [← hM] at hm hs hq
  obtain ⟨q, hqq⟩ : ∃ q, q = checkN y M h.r h.s := ⟨_, rfl⟩
  rw [← hqq] at hs hq
  rw [hq]
  obtain ⟨X, hX⟩ : ∃ X, X = (hdC h).toArray := ⟨_, rfl⟩
  show Calls _ _ #[.int .u64 y, .agg (hdC h).toArray] _ _
  have aX : AggTy Try.prog 28 X.size := by rw [hX]; exact aHd' hk
  have hm' : ∀ W, Calls Try.prog 15 #[.agg X] W fun e w' => ∃ u, e = .returned u ∧ Kept None W w' ∧ Ob w' W.heap.size u M := fun W => by
    rw [hX]
    exact hm W
  have hr' : ∀ W, Calls Try.prog 13 #[.agg X] W fun e w' => e = .returned (.bool (rightHd h)) ∧ Kept None W w' := fun W => by
    rw [hX]
    exact hr W
  rw [← hX]
  obtain ⟨R, hR⟩ : ∃ R, R = rightHd h := ⟨_, rfl⟩
  rw [← hR] at hr' ⊢
  have HH := hid (And.intro hr' (And.intro hm' hs))
  have HX := hid (And.intro hX hk)
  clear hr hm hm' hr' hs hq hqq hM hX hR
  have k1 : Kept None w (w.alloc (.cells X 28)) := (Kept.refl _ _).alloc _
  have x1 : Blk (w.alloc (.cells X 28)) w.heap.size X 28 := Blk.new w _ _
  cases R with
  | false =>
    go_enter Try.func19, Try.ntmps19
    go_wp2_with fail
    refine wp_nm ?_
    intro w1 e1
    rw [← e1] at k1 x1
    clear e1
    have BX := hid x1
    have hs : Steady [.val 1 (.bool false)] := Go.Pm.Steady.val (Go.Pm.Steady.nil)
    refine wp_region_kn w1 _ hs (Kept.refl _ _) (by kernel_rfl) (by kernel_rfl) (by kernel_rfl) ?_
    refine wpPar_pure rfl (by rfl) _ (fun W hW => by first | exact exec_load_blk _ _ rfl rfl (BX.out.kept hW (fun h => h)) aX | (go_simp; exact rfl)) ?_; simp only [Act.put, List.setIfInBounds_toArray, List.set_cons_zero, List.set_cons_succ]
    refine wpKn_adds hs rfl (by rfl) (fun W hW hd => ?_) (fun v1 hv => ?_)
    · unfold Gives
      go_simp
      refine gives_call (HH.out.1 W) ?_
      rintro e w3 ⟨rfl, k3⟩
      exact ⟨_, rfl, k3, rfl, trivial⟩
    obtain rfl : v1 = .bool false := hv
    simp only [Act.put, List.setIfInBounds_toArray, List.set_cons_zero, List.set_cons_succ]
    iterate 1 (refine wpPar_pure rfl (by rfl) _ (fun W hW => by
        go_simp
        exact rfl) ?_; simp only [Act.put, List.setIfInBounds_toArray, List.set_cons_zero, List.set_cons_succ])
    refine wpPar_skip (by kernel_rfl) ?_; simp only [Act.put, List.setIfInBounds_toArray, List.set_cons_zero, List.set_cons_succ]
    refine wpPar_skip (by kernel_rfl) ?_; simp only [Act.put, List.setIfInBounds_toArray, List.set_cons_zero, List.set_cons_succ]
    refine wpPar_skip (by kernel_rfl) ?_; simp only [Act.put, List.setIfInBounds_toArray, List.set_cons_zero, List.set_cons_succ]
    refine wpPar_skip (by kernel_rfl) ?_; simp only [Act.put, List.setIfInBounds_toArray, List.set_cons_zero, List.set_cons_succ]
    refine wpPar_skip (by kernel_rfl) ?_; simp only [Act.put, List.setIfInBounds_toArray, List.set_cons_zero, List.set_cons_succ]
    refine wpPar_skip (by kernel_rfl) ?_; simp only [Act.put, List.setIfInBounds_toArray, List.set_cons_zero, List.set_cons_succ]
    iterate 2 (refine wpPar_pure rfl (by rfl) _ (fun W hW => by
        go_simp
        exact rfl) ?_; simp only [Act.put, List.setIfInBounds_toArray, List.set_cons_zero, List.set_cons_succ])
    refine wpPar_nil (fun W hW hG => ?_)
    have kW := k1.trans hW
    clear hG hs hW
    go_wp2
    go_ret
    exact ⟨rfl, kW⟩
  | true =>
    go_enter Try.func19, Try.ntmps19
    go_wp2_with fail
    refine wp_nm ?_
    intro w1 e1
    rw [← e1] at k1 x1
    clear e1
    have BX := hid x1
    have RS := hid (hd_rs (h := h) (HX.out.1 ▸ x1) HX.out.2)
    have k01 := k1
    clear k1 x1
    have hs : Steady [.val 1 (.bool true), .bytes 5 (M), .val 8 (.bool q) [5]] := Go.Pm.Steady.val (Go.Pm.Steady.bytes (Go.Pm.Steady.val (Go.Pm.Steady.nil)))
    refine wp_region_kn w1 _ hs (Kept.refl _ _) (by kernel_rfl) (by kernel_rfl) (by kernel_rfl) ?_
    refine wpPar_pure rfl (by rfl) _ (fun W hW => by first | exact exec_load_blk _ _ rfl rfl (BX.out.kept hW (fun h => h)) aX | exact exec_load_at rfl rfl (rangeAt_kept RS.out hW) Sg.aSig | (go_simp; exact rfl)) ?_; simp only [Act.put, List.setIfInBounds_toArray, List.set_cons_zero, List.set_cons_succ]
    refine wpKn_adds hs rfl (by rfl) (fun W hW hd => ?_) (fun v1 hv => ?_)
    · unfold Gives
      go_simp
      refine gives_call (HH.out.1 W) ?_
      rintro e w3 ⟨rfl, k3⟩
      exact ⟨_, rfl, k3, rfl, trivial⟩
    obtain rfl : v1 = .bool true := hv
    simp only [Act.put, List.setIfInBounds_toArray, List.set_cons_zero, List.set_cons_succ]
    iterate 1 (refine wpPar_pure rfl (by rfl) _ (fun W hW => by
        go_simp
        exact rfl) ?_; simp only [Act.put, List.setIfInBounds_toArray, List.set_cons_zero, List.set_cons_succ])
    refine wpPar_pure rfl (by kernel_rfl) _ (fun W hW => by
        go_simp
        exact rfl) ?_; simp only [Act.put, List.setIfInBounds_toArray, List.set_cons_zero, List.set_cons_succ]
    refine wpPar_pure rfl (by kernel_rfl) _ (fun W hW => by first | exact exec_load_blk _ _ rfl rfl (BX.out.kept hW (fun h => h)) aX | exact exec_load_at rfl rfl (rangeAt_kept RS.out hW) Sg.aSig | (go_simp; exact rfl)) ?_; simp only [Act.put, List.setIfInBounds_toArray, List.set_cons_zero, List.set_cons_succ]
    refine wpKn_adds hs rfl (by kernel_rfl) (fun W hW hd => ?_) (fun v5 hv => ?_)
    · unfold Gives
      go_simp
      refine gives_call (HH.out.2.1 W) ?_
      rintro e w3 ⟨u, rfl, k3, b3⟩
      exact ⟨_, rfl, k3, b3.form, _, _, b3.bs (Nat.le_refl _)⟩
    obtain ⟨a5, c5, rfl⟩ : ∃ a c, v5 = .slice a M.length c := hv
    simp only [Act.put, List.setIfInBounds_toArray, List.set_cons_zero, List.set_cons_succ]
    refine wpPar_pure rfl (by kernel_rfl) _ (fun W hW => by
        go_simp
        exact rfl) ?_; simp only [Act.put, List.setIfInBounds_toArray, List.set_cons_zero, List.set_cons_succ]
    refine wpPar_pure rfl (by kernel_rfl) _ (fun W hW => by first | exact exec_load_blk _ _ rfl rfl (BX.out.kept hW (fun h => h)) aX | exact exec_load_at rfl rfl (rangeAt_kept RS.out hW) Sg.aSig | (go_simp; exact rfl)) ?_; simp only [Act.put, List.setIfInBounds_toArray, List.set_cons_zero, List.set_cons_succ]
    refine wpKn_adds hs rfl (by kernel_rfl) (fun W hW hd => ?_) (fun v8 hv => ?_)
    · unfold Gives
      obtain ⟨lo1, hi1, hb1⟩ : ∃ lo hi, Bs W lo hi (.slice a5 M.length c5) M := hd 5 (List.Mem.head _)
      go_simp
      refine gives_call (HH.out.2.2 _ _ _ W hb1) ?_
      rintro e w3 ⟨rfl, k3⟩
      exact ⟨_, rfl, k3, rfl, trivial⟩
    obtain rfl : v8 = .bool q := hv
    simp only [Act.put, List.setIfInBounds_toArray, List.set_cons_zero, List.set_cons_succ]
    iterate 2 (refine wpPar_pure rfl (by rfl) _ (fun W hW => by
        go_simp
        exact rfl) ?_; simp only [Act.put, List.setIfInBounds_toArray, List.set_cons_zero, List.set_cons_succ])
    refine wpPar_nil (fun W hW hG => ?_)
    have kW := k01.trans hW
    clear hG hs hW
    go_wp2
    go_ret
    exact ⟨rfl, kW⟩

set_option maxRecDepth 100000 in
set_option maxHeartbeats 4000000 in
theorem bytes (h : Hd) (w : World) (hk : h.Ok) : Calls Try.prog 34 #[hdV h] w fun e w' => ∃ u, e = .returned u ∧ Kept None w w' ∧ Ob w' w.heap.size u (putHd h) := by
  have hm := fun W => message h W hk
  have hg := fun W => Ref.putSig h.r h.s W hk.2.2.1 hk.2.2.2
  rw [show Sg.sigB h.r h.s = leB (h.r : Int) ++ leB (h.s : Int) from rfl] at hg
  have hT : msgHd h ++ (leB (h.r : Int) ++ leB (h.s : Int)) = putHd h := rfl
  have hl := msgHd_len hk
  have hlg : (leB (h.r : Int) ++ leB (h.s : Int)).length = 16 := rfl
  obtain ⟨T, hTT⟩ : ∃ T, T = putHd h := ⟨_, rfl⟩
  rw [← hTT] at hT ⊢
  obtain ⟨M, hM⟩ : ∃ M, M = msgHd h := ⟨_, rfl⟩
  obtain ⟨G, hG⟩ : ∃ G, G = leB (h.r : Int) ++ leB (h.s : Int) := ⟨_, rfl⟩
  rw [← hM] at hm hT hl
  rw [← hG] at hg hT hlg
  obtain ⟨X, hX⟩ : ∃ X, X = (hdC h).toArray := ⟨_, rfl⟩
  have aX : AggTy Try.prog 28 X.size := by rw [hX]; exact aHd' hk
  have hm' : ∀ W, Calls Try.prog 15 #[.agg X] W fun e w' => ∃ u, e = .returned u ∧ Kept None W w' ∧ Ob w' W.heap.size u M := fun W => by
    rw [hX]
    exact hm W
  have HH := hid (And.intro hm' hg)
  have HL := hid (And.intro hl (And.intro hlg hT))
  show Calls _ _ #[.agg (hdC h).toArray] _ _
  rw [← hX]
  have HX := hid (And.intro hX hk)
  clear hm hm' hg hT hl hlg hTT hM hG hX
  have k1 : Kept None w (w.alloc (.cells X 28)) := (Kept.refl _ _).alloc _
  have x1 : Blk (w.alloc (.cells X 28)) w.heap.size X 28 := Blk.new w _ _
  go_enter Try.func34, Try.ntmps34
  go_wp2_with fail
  refine wp_nm ?_
  intro w1 e1
  rw [← e1] at k1 x1
  clear e1
  have BX := hid x1
  have RS := hid (hd_rs (h := h) (HX.out.1 ▸ x1) HX.out.2)
  have k01 := k1
  clear k1 x1
  have hs : Steady [.own 5 1 (w1.heap.size) (M), .bytes 4 (G)] := Go.Pm.Steady.own (Go.Pm.Steady.bytes (Go.Pm.Steady.nil))
  refine wp_region_kn_tail 5 w1 _ hs (Kept.refl _ _) (by kernel_rfl) (by kernel_rfl) (by kernel_rfl) ?_
  simp only [List.take_succ_cons, List.take_zero, List.drop_succ_cons, List.drop_zero]
  refine wpPar_pure rfl (by rfl) _ (fun W hW => by first | exact exec_load_blk _ _ rfl rfl (BX.out.kept hW (fun h => h)) aX | exact exec_load_at rfl rfl (rangeAt_kept RS.out hW) Sg.aSig | (go_simp; exact rfl)) ?_; simp only [Act.put, List.setIfInBounds_toArray, List.set_cons_zero, List.set_cons_succ]
  refine wpKn_adds hs rfl (by rfl) (fun W hW hd => ?_) (fun v1 hv => ?_)
  · unfold Gives
    go_simp
    refine gives_call (HH.out.1 W) ?_
    rintro e w3 ⟨u, rfl, k3, b3⟩
    exact ⟨_, rfl, k3, b3.form, b3.base hW.size⟩
  obtain ⟨a1, c1, rfl⟩ : ∃ a c, v1 = .slice a M.length c := hv
  simp only [Act.put, List.setIfInBounds_toArray, List.set_cons_zero, List.set_cons_succ]
  iterate 1 (refine wpPar_pure rfl (by rfl) _ (fun W hW => by
      go_simp
      exact rfl) ?_; simp only [Act.put, List.setIfInBounds_toArray, List.set_cons_zero, List.set_cons_succ])
  refine wpPar_pure rfl (by rfl) _ (fun W hW => by first | exact exec_load_blk _ _ rfl rfl (BX.out.kept hW (fun h => h)) aX | exact exec_load_at rfl rfl (rangeAt_kept RS.out hW) Sg.aSig | (go_simp; exact rfl)) ?_; simp only [Act.put, List.setIfInBounds_toArray, List.set_cons_zero, List.set_cons_succ]
  refine wpKn_adds hs rfl (by rfl) (fun W hW hd => ?_) (fun v4 hv => ?_)
  · unfold Gives
    go_simp
    refine gives_call (HH.out.2 W) ?_
    rintro e w3 ⟨u, rfl, k3, b3⟩
    exact ⟨_, rfl, k3, b3.form, _, _, b3.bs (Nat.le_refl _)⟩
  obtain ⟨a4, c4, rfl⟩ : ∃ a c, v4 = .slice a G.length c := hv
  simp only [Act.put, List.setIfInBounds_toArray, List.set_cons_zero, List.set_cons_succ]
  refine wpPar_nil (fun W hW hG => ?_)
  have hb : Ob W w1.heap.size (.slice a1 M.length c1) M := hG 1
  obtain ⟨lo, hi, d4⟩ : ∃ lo hi, Bs W lo hi (.slice a4 G.length c4) G := hG 4
  have kW := k01.trans hW
  have sW := hW.size
  clear hG hs hW
  go_wp2_with (first | (at_builtin; refine wpList_append_bo (l := M) (m := G) (base := w1.heap.size) rfl _ _ 29 rfl rtBytes rfl rfl hb d4 (by have := HL.out; omega) sW ?q5) | fail)
  case q5 =>
    intro a9 n9 c9 w9 b9 k9
    have k09 := Kept.own kW k9 (fun k hk => Nat.le_trans k01.size (hb.own k hk).1)
    rw [HL.out.2.2] at b9
    have bz := b9.base k01.size
    clear kW k9 b9 hb d4
    go_wp2
    go_ret
    exact ⟨_, rfl, k09, bz⟩

set_option maxRecDepth 100000 in
set_option maxHeartbeats 4000000 in
theorem put (h : Hd) (w : World) (hk : h.Ok) : Calls Try.prog 11 #[hdV h] w fun e w' => ∃ u, e = .returned (.tuple #[u, .int .i64 (putHdE h)]) ∧ Kept None w w' ∧ Ob w' w.heap.size u (putHdL h) := by
  have hE : putHdE h = if rightHd h then 0 else 23 := rfl
  have hL : putHdL h = if rightHd h then putHd h else [] := rfl
  rw [hE, hL]
  have hr := fun W => right h W
  have hb := fun W => bytes h W hk
  obtain ⟨T, hTT⟩ : ∃ T, T = putHd h := ⟨_, rfl⟩
  rw [← hTT] at hb ⊢
  obtain ⟨X, hX⟩ : ∃ X, X = (hdC h).toArray := ⟨_, rfl⟩
  have aX : AggTy Try.prog 28 X.size := by rw [hX]; exact aHd' hk
  have hb' : ∀ W, Calls Try.prog 34 #[.agg X] W fun e w' => ∃ u, e = .returned u ∧ Kept None W w' ∧ Ob w' W.heap.size u T := fun W => by
    rw [hX]
    exact hb W
  have hr' : ∀ W, Calls Try.prog 13 #[.agg X] W fun e w' => e = .returned (.bool (rightHd h)) ∧ Kept None W w' := fun W => by
    rw [hX]
    exact hr W
  show Calls _ _ #[.agg (hdC h).toArray] _ _
  rw [← hX]
  obtain ⟨R, hR⟩ : ∃ R, R = rightHd h := ⟨_, rfl⟩
  rw [← hR] at hr' ⊢
  have HH := hid (And.intro hr' hb')
  clear hE hL hr hr' hb hb' hTT hX hR
  have k0 : Kept None w (w.alloc (.cells X 28)) := (Kept.refl _ _).alloc _
  have x0 : Blk (w.alloc (.cells X 28)) w.heap.size X 28 := Blk.new w _ _
  cases R with
  | false =>
    go_enter Try.func11, Try.ntmps11
    go_wp2_with (first | (refine wpList_load_blk rfl _ _ rfl rfl x0 aX ?_) | fail)
    refine (HH.out.1 _).mono ?_
    rintro e w1 ⟨rfl, kn⟩
    have k1 := k0.trans kn
    clear k0 x0 kn
    go_wp2
    go_ret2
    exact ⟨_, rfl, k1, Bo.nil _ _ _⟩
  | true =>
    go_enter Try.func11, Try.ntmps11
    go_wp2_with (first | (refine wpList_load_blk rfl _ _ rfl rfl x0 aX ?_) | fail)
    refine (HH.out.1 _).mono ?_
    rintro e w1 ⟨rfl, kn⟩
    have k1 := k0.trans kn
    have x1 := x0.kept kn (fun h => h)
    clear k0 x0 kn
    go_wp2_with (first | (refine wpList_load_blk rfl _ _ rfl rfl x1 aX ?_) | fail)
    refine (HH.out.2 _).mono ?_
    rintro e w2 ⟨u, rfl, kn, bn⟩
    have k2 := k1.trans kn
    have bz := bn.base k1.size
    clear k1 x1 kn bn
    obtain ⟨a, c, rfl⟩ := bz.form
    go_wp2
    go_ret2
    exact ⟨_, rfl, k2, bz⟩
end RHp
end Go.Proofs.Ytibkijloibnkfaa
