/- Package head, what asks and writes: Right, Message, Sign, Check, Put, by contract. -/
import Derived.Test.YtibkijloibnkfaaHead10
import Derived.Test.YtibkijloibnkfaaLowSigs
import Derived.Test.YtibkijloibnkfaaHk8
namespace Go.Proofs.Ytibkijloibnkfaa
open Go.RowKit Go.Pm
namespace Hp
theorem aHd : AggTy Try.prog 28 69 := Sg.AggTy.of (by kernel_rfl) (by kernel_rfl)
theorem aHd' {h : Hd} (hk : h.Ok) : AggTy Try.prog 28 (hdC h).toArray.size := by rw [hdC_size hk]; exact aHd
theorem big_lt (t : Int) (b : Bool) (h : decide (1152921504606846976 < t) = b) : ∀ z, z = t → decide ((1152921504606846976 : Int) < z) = b := by
  rintro z rfl
  exact h
theorem big_le (t : Int) (b : Bool) (h : decide (t ≤ 1152921504606846976) = b) : ∀ z, z = t → decide (z ≤ (1152921504606846976 : Int)) = b := by
  rintro z rfl
  exact h

set_option maxRecDepth 100000 in
set_option maxHeartbeats 1000000 in
theorem right (h : Hd) (w : World) : Calls Try.prog 12 #[hdV h] w fun e w' => e = .returned (.bool (rightHd h)) ∧ Kept None w w' := by
  obtain ⟨X, hX⟩ : ∃ X, X = (hdC h).toArray := ⟨_, rfl⟩
  show Calls _ _ #[.agg (hdC h).toArray] _ _
  rw [← hX]
  have hc0 : X[0]? = some (.int .i64 h.e) := by rw [hX]; rfl
  have hc1 : X[1]? = some (.int .i64 h.t) := by rw [hX]; rfl
  have hc2 : X[2]? = some (.int .i64 h.c) := by rw [hX]; rfl
  have k0 : Kept None w (w.alloc (.cells X 28)) := (Kept.refl _ _).alloc _
  have hiff := rightHd_iff h
  obtain ⟨Q, hQ⟩ : ∃ Q, Q = rightHd h := ⟨_, rfl⟩
  rw [← hQ] at hiff ⊢
  clear hX hQ
  obtain ⟨e, he⟩ : ∃ e, e = h.e := ⟨_, rfl⟩
  obtain ⟨t, ht⟩ : ∃ t, t = h.t := ⟨_, rfl⟩
  obtain ⟨c, hc⟩ : ∃ c, c = h.c := ⟨_, rfl⟩
  rw [← he] at hc0 hiff
  rw [← ht] at hc1 hiff
  rw [← hc] at hc2 hiff
  clear he ht hc
  by_cases h1 : e < 1
  · have hq : Q = false := by
      rw [← Bool.not_eq_true, hiff]
      omega
    subst hq
    clear hiff
    go_enter Try.func12, Try.ntmps12
    go_wp2
    go_ret
    exact ⟨rfl, k0⟩
  by_cases h2 : 1073741824 < e
  · have hq : Q = false := by
      rw [← Bool.not_eq_true, hiff]
      omega
    subst hq
    clear hiff
    go_enter Try.func12, Try.ntmps12
    go_wp2
    go_ret
    exact ⟨rfl, k0⟩
  by_cases h3 : t < 0
  · have hq : Q = false := by
      rw [← Bool.not_eq_true, hiff]
      omega
    subst hq
    clear hiff
    go_enter Try.func12, Try.ntmps12
    go_wp2
    go_ret
    exact ⟨rfl, k0⟩
  by_cases h4 : 1152921504606846976 < t
  · have hq : Q = false := by
      rw [← Bool.not_eq_true, hiff]
      omega
    subst hq
    have hb := big_lt t true (decide_eq_true h4)
    have hb' := big_le t false (decide_eq_false (by omega))
    clear h4
    clear hiff
    go_enter Try.func12, Try.ntmps12
    go_wp2
    go_ret
    exact ⟨rfl, k0⟩
  have hb := big_lt t false (decide_eq_false h4)
  have hb' := big_le t true (decide_eq_true (by omega))
  by_cases h5 : c < 1
  · have hq : Q = false := by
      rw [← Bool.not_eq_true, hiff]
      omega
    subst hq
    clear h4
    clear hiff
    go_enter Try.func12, Try.ntmps12
    go_wp2
    go_ret
    exact ⟨rfl, k0⟩
  by_cases h6 : 8 < c
  · have hq : Q = false := by
      rw [← Bool.not_eq_true, hiff]
      omega
    subst hq
    have hc8 : decide (c ≤ 8) = false := by rw [decide_eq_false_iff_not]; omega
    have hc1' : decide (1 ≤ c) = true := by rw [decide_eq_true_eq]; omega
    clear h4
    clear hiff
    go_enter Try.func12, Try.ntmps12
    go_wp2
    go_ret
    exact ⟨rfl, k0⟩
  have hq : Q = true := by
    rw [hiff]
    omega
  subst hq
  have hc8 : decide (c ≤ 8) = true := by rw [decide_eq_true_eq]; omega
  have hc1' : decide (1 ≤ c) = true := by rw [decide_eq_true_eq]; omega
  clear hiff h4
  go_enter Try.func12, Try.ntmps12
  go_wp2
  go_ret
  exact ⟨rfl, k0⟩

set_option maxRecDepth 100000 in
set_option maxHeartbeats 4000000 in
theorem message (h : Hd) (w : World) (hk : h.Ok) : Calls Try.prog 14 #[hdV h] w fun e w' => ∃ u, e = .returned u ∧ Kept None w w' ∧ Ob w' w.heap.size u (msgHd h) := by
  obtain ⟨X, hX⟩ : ∃ X, X = (hdC h).toArray := ⟨_, rfl⟩
  show Calls _ _ #[.agg (hdC h).toArray] _ _
  rw [← hX]
  have hc0 : X[0]? = some (.int .i64 h.e) := by rw [hX]; rfl
  have hE : 0 ≤ U6 h.e ∧ U6 h.e < 18446744073709551616 := ⟨U6_ge _, U6_lt _⟩
  have hT : 0 ≤ U6 h.t ∧ U6 h.t < 18446744073709551616 := ⟨U6_ge _, U6_lt _⟩
  have hC : 0 ≤ U6 h.c ∧ U6 h.c < 18446744073709551616 := ⟨U6_ge _, U6_lt _⟩
  have hwE : IntKind.u64.wrap h.e = U6 h.e := by rw [IntKind.wrap_u64]
  have hwT : IntKind.u64.wrap h.t = U6 h.t := by rw [IntKind.wrap_u64]
  have hwC : IntKind.u64.wrap h.c = U6 h.c := by rw [IntKind.wrap_u64]
  have hM : [72] ++ leB (U6 h.e) ++ leB (U6 h.t) ++ leB (U6 h.c) ++ h.root ++ h.log = msgHd h := rfl
  obtain ⟨E, he⟩ : ∃ E, E = U6 h.e := ⟨_, rfl⟩
  obtain ⟨T, ht⟩ : ∃ T, T = U6 h.t := ⟨_, rfl⟩
  obtain ⟨C, hc⟩ : ∃ C, C = U6 h.c := ⟨_, rfl⟩
  obtain ⟨M, hm⟩ : ∃ M, M = msgHd h := ⟨_, rfl⟩
  rw [← he] at hE hwE hM
  rw [← ht] at hT hwT hM
  rw [← hc] at hC hwC hM
  rw [← hm] at hM ⊢
  obtain ⟨L1, h1⟩ : ∃ L, L = 72 :: leB E := ⟨_, rfl⟩
  obtain ⟨L2, h2⟩ : ∃ L, L = L1 ++ leB T := ⟨_, rfl⟩
  obtain ⟨L3, h3⟩ : ∃ L, L = L2 ++ leB C := ⟨_, rfl⟩
  obtain ⟨L4, h4⟩ : ∃ L, L = L3 ++ h.root := ⟨_, rfl⟩
  have h5 : L4 ++ h.log = M := by rw [h4, h3, h2, h1]; exact hM
  have l1 : L1.length = 9 := by rw [h1]; simp [leB_length]
  have l2 : L2.length = 17 := by rw [h2, List.length_append, l1, leB_length]
  have l3 : L3.length = 25 := by rw [h3, List.length_append, l2, leB_length]
  have l4 : L4.length = 57 := by rw [h4, List.length_append, l3, hk.1]
  have HX := hid (And.intro hX hk)
  have HN := hid (And.intro hE (And.intro hT hC))
  have HE := hid (And.intro h1 (And.intro h2 (And.intro h3 (And.intro h4 h5))))
  have HL := hid (And.intro l1 (And.intro l2 (And.intro l3 l4)))
  have k1 : Kept None w ((w.alloc (.cells X 28)).alloc (.cells #[.int .u8 72] 5)) := ((Kept.refl _ _).alloc _).alloc _
  have x1 : Blk ((w.alloc (.cells X 28)).alloc (.cells #[.int .u8 72] 5)) w.heap.size X 28 := (Blk.new w _ _).alloc _
  have b1 : Ob ((w.alloc (.cells X 28)).alloc (.cells #[.int .u8 72] 5)) (w.heap.size + 1) (.slice (some ⟨w.heap.size + 1, 0, none⟩) 1 1) [72] := by
    have h := Bo.new (w.alloc (.cells X 28)) 5 [72] #[.int .u8 72] (by rfl) 1 rfl (by decide)
    simpa using h
  clear hE hT hC hM he ht hc hm h1 h2 h3 h4 h5 l1 l2 l3 l4 hX
  go_enter Try.func14, Try.ntmps14
  go_wp2_with fail
  refine Calls.nm ?_
  intro w1 e1
  rw [← e1] at k1 x1 b1
  clear e1 hc0
  refine (Bin.num E w1 HN.out.1.1 HN.out.1.2).mono ?_
  rintro e w2 ⟨u, rfl, kn, bn⟩
  have k2 := k1.trans kn
  have x2 := x1.kept kn (fun h => h)
  have b2 := b1.kept kn (fun _ _ h => h)
  have d2 := bn.bs (Nat.le_refl _)
  have s2 : w.heap.size + 1 ≤ w2.heap.size := x2.lt
  obtain ⟨an, cn, rfl⟩ := bn.form
  clear kn bn k1 x1 b1
  go_wp2_with (first | (at_builtin; refine wpList_append_bo (l := [72]) (m := leB E) (base := w.heap.size + 1) rfl _ _ 29 rfl rtBytes rfl rfl b2 d2 (by have := HL.out; simp only [leB_length, List.length_cons, List.length_nil]; omega) s2 ?q2) | fail)
  case q2 =>
    intro a3 n3 m3 w3 b3 kn
    have k3 := Kept.own k2 kn (fun k hk => Nat.le_of_succ_le (b2.own k hk).1)
    have x3 := x2.kept kn (fun h => absurd (b2.own _ h).1 (by omega))
    rw [← HE.out.1] at b3
    have c3 := hd_c1 (h := h) (HX.out.1 ▸ x3)
    clear kn k2 x2 b2 d2 s2
    go_wp2_with fail
    refine (Bin.num T w3 HN.out.2.1.1 HN.out.2.1.2).mono ?_
    rintro e w4 ⟨u, rfl, kn, bn⟩
    have k4 := k3.trans kn
    have x4 := x3.kept kn (fun h => h)
    have b4 := b3.kept kn (fun _ _ h => h)
    have d4 := bn.bs (Nat.le_refl _)
    have s4 : w.heap.size + 1 ≤ w4.heap.size := x4.lt
    obtain ⟨an, cn, rfl⟩ := bn.form
    clear kn bn k3 x3 b3 c3
    go_wp2_with (first | (at_builtin; refine wpList_append_bo (l := L1) (m := leB T) (base := w.heap.size + 1) rfl _ _ 29 rfl rtBytes rfl rfl b4 d4 (by have := HL.out; simp only [leB_length]; omega) s4 ?q4) | fail)
    case q4 =>
      intro a5 n5 m5 w5 b5 kn
      have k5 := Kept.own k4 kn (fun k hk => Nat.le_of_succ_le (b4.own k hk).1)
      have x5 := x4.kept kn (fun h => absurd (b4.own _ h).1 (by omega))
      rw [← HE.out.2.1] at b5
      have c5 := hd_c2 (h := h) (HX.out.1 ▸ x5)
      clear kn k4 x4 b4 d4 s4
      go_wp2_with fail
      refine (Bin.num C w5 HN.out.2.2.1 HN.out.2.2.2).mono ?_
      rintro e w6 ⟨u, rfl, kn, bn⟩
      have k6 := k5.trans kn
      have x6 := x5.kept kn (fun h => h)
      have b6 := b5.kept kn (fun _ _ h => h)
      have d6 := bn.bs (Nat.le_refl _)
      have s6 : w.heap.size + 1 ≤ w6.heap.size := x6.lt
      obtain ⟨an, cn, rfl⟩ := bn.form
      clear kn bn k5 x5 b5 c5
      go_wp2_with (first | (at_builtin; refine wpList_append_bo (l := L2) (m := leB C) (base := w.heap.size + 1) rfl _ _ 29 rfl rtBytes rfl rfl b6 d6 (by have := HL.out; simp only [leB_length]; omega) s6 ?q6) | fail)
      case q6 =>
        intro a7 n7 m7 w7 b7 kn
        have k7 := Kept.own k6 kn (fun k hk => Nat.le_of_succ_le (b6.own k hk).1)
        have x7 := x6.kept kn (fun h => absurd (b6.own _ h).1 (by omega))
        rw [← HE.out.2.2.1] at b7
        clear kn k6 x6 b6 d6 s6
        have d7 := (range_bs (hd_rr (h := h) (HX.out.1 ▸ x7)) HX.out.2.1 (by decide)).all
        have s7 : w.heap.size + 1 ≤ w7.heap.size := x7.lt
        go_wp2_with (first | (at_builtin; refine wpList_append_bo (l := L3) (m := h.root) (base := w.heap.size + 1) rfl _ _ 29 rfl rtBytes rfl rfl b7 d7 (by have := HL.out; simp only [HX.out.2.1]; omega) s7 ?q7) | fail)
        case q7 =>
          intro a8 n8 m8 w8 b8 kn
          have k8 := Kept.own k7 kn (fun k hk => Nat.le_of_succ_le (b7.own k hk).1)
          have x8 := x7.kept kn (fun h => absurd (b7.own _ h).1 (by omega))
          rw [← HE.out.2.2.2.1] at b8
          clear kn k7 x7 b7 d7 s7
          have d8 := (range_bs (hd_rl (h := h) (HX.out.1 ▸ x8) HX.out.2) HX.out.2.2.1 (by decide)).all
          have s8 : w.heap.size + 1 ≤ w8.heap.size := x8.lt
          go_wp2_with (first | (at_builtin; refine wpList_append_bo (l := L4) (m := h.log) (base := w.heap.size + 1) rfl _ _ 29 rfl rtBytes rfl rfl b8 d8 (by have := HL.out; simp only [HX.out.2.2.1]; omega) s8 ?q8) | fail)
          case q8 =>
            intro a9 n9 m9 w9 b9 kn
            have k9 := Kept.own k8 kn (fun k hk => Nat.le_of_succ_le (b8.own k hk).1)
            rw [HE.out.2.2.2.2] at b9
            clear kn k8 x8 b8 d8 s8
            have bz := b9.base (Nat.le_succ w.heap.size)
            clear b9
            go_wp2
            go_ret
            exact ⟨_, rfl, k9, bz⟩

set_option maxRecDepth 100000 in
set_option maxHeartbeats 4000000 in
theorem sign (x : Nat) (h : Hd) (w : World) (hk : h.Ok) : Calls Try.prog 16 #[.int .u64 x, hdV h] w fun e w' => e = .returned (hdV (signHd x h)) ∧ Kept None w w' := by
  have hok := signHd_ok x hk
  have hset := hd_set_sig hk (sigR x (msgHd h)) (sigS x (msgHd h)) (word_lt (sigR_lt _ _))
  rw [show ({ h with r := sigR x (msgHd h), s := sigS x (msgHd h) } : Hd) = signHd x h from rfl] at hset
  obtain ⟨h', hh'⟩ : ∃ h', h' = signHd x h := ⟨_, rfl⟩
  rw [← hh'] at hok hset ⊢
  have hm := fun W => message h W hk
  have hs := fun v lo hi W hv => Sg.sign x v lo hi (msgHd h) W hv (by rw [msgHd_len hk]; decide)
  obtain ⟨M, hM⟩ : ∃ M, M = msgHd h := ⟨_, rfl⟩
  rw [← hM] at hm hs hset
  obtain ⟨R, hR⟩ : ∃ R, R = sigR x M := ⟨_, rfl⟩
  obtain ⟨S, hS⟩ : ∃ S, S = sigS x M := ⟨_, rfl⟩
  rw [← hR, ← hS] at hs hset
  obtain ⟨X, hX⟩ : ∃ X, X = (hdC h).toArray := ⟨_, rfl⟩
  obtain ⟨Y, hY⟩ : ∃ Y, Y = (hdC h').toArray := ⟨_, rfl⟩
  show Calls _ _ #[.int .u64 x, .agg (hdC h).toArray] w fun e w' => e = .returned (.agg (hdC h').toArray) ∧ Kept None w w'
  have aX : AggTy Try.prog 28 X.size := by rw [hX]; exact aHd' hk
  have aY : AggTy Try.prog 28 Y.size := by rw [hY]; exact aHd' hok
  have sY : 69 = Y.size := by rw [hY]; exact (hdC_size hok).symm
  have oY : Y.all (·.oneCell') = true := by rw [hY]; exact hdC_one _
  have hm' : ∀ W, Calls Try.prog 14 #[.agg X] W fun e w' => ∃ u, e = .returned u ∧ Kept None W w' ∧ Ob w' W.heap.size u M := fun W => by
    rw [hX]
    exact hm W
  rw [← hX, ← hY] at hset
  rw [← hX, ← hY]
  have HH := hid (And.intro hm' hs)
  have HX := hid (And.intro hX hk)
  have HS := hid hset
  have HY := hid (And.intro sY oY)
  clear hm hm' hs hset hok hh' hM hR hS hX hY sY oY
  have k1 : Kept None w ((w.alloc (.cells X 28)).alloc (.cells Try.zeroCells28 28)) := ((Kept.refl _ _).alloc _).alloc _
  have x1 : Blk ((w.alloc (.cells X 28)).alloc (.cells Try.zeroCells28 28)) w.heap.size X 28 := (Blk.new w _ _).alloc _
  obtain ⟨Z, hZ, z1⟩ := Blk.any (n := 69) (Blk.new2 w (.cells X 28) Try.zeroCells28 28) (by rfl)
  have HZ := hid hZ
  clear hZ
  go_enter Try.func16, Try.ntmps16
  go_wp2_with (first | (refine wpList_load_blk rfl _ _ rfl rfl x1 aX ?_) | fail)
  refine Calls.nm ?_
  intro w1 e1
  rw [← e1] at k1 x1 z1
  clear e1
  refine (HH.out.1 w1).mono ?_
  rintro e w2 ⟨u, rfl, kn, bn⟩
  have k2 := k1.trans kn
  have x2 := x1.kept kn (fun h => h)
  have z2 := z1.kept kn (fun h => h)
  have d2 := bn.bs (Nat.le_refl _)
  obtain ⟨a2, c2, rfl⟩ := bn.form
  clear k1 x1 z1 kn bn
  go_wp2_with fail
  refine (HH.out.2 _ _ _ _ d2).mono ?_
  rintro e w3 ⟨rfl, kn⟩
  have k3 := k2.trans kn
  have x3 := x2.kept kn (fun h => h)
  have z3 := z2.kept kn (fun h => h)
  clear k2 x2 z2 kn d2 HH
  have c67 : w3.cell? ⟨w.heap.size, 67, none⟩ = some (.int .u64 (h.r : Int)) := hd_c67 (HX.out.1 ▸ x3) HX.out.2
  have c68 : w3.cell? ⟨w.heap.size, 68, none⟩ = some (.int .u64 (h.s : Int)) := hd_c68 (HX.out.1 ▸ x3) HX.out.2
  have f67 := x3.free 67
  have f68 := x3.free 68
  have x4 : Blk ((w3.setCell ⟨w.heap.size, 67, none⟩ (.int .u64 (R : Int))).setCell ⟨w.heap.size, 68, none⟩ (.int .u64 (S : Int))) w.heap.size Y 28 := HS.out ▸ (x3.set 67 _).set 68 _
  have z4 : Blk ((w3.setCell ⟨w.heap.size, 67, none⟩ (.int .u64 (R : Int))).setCell ⟨w.heap.size, 68, none⟩ (.int .u64 (S : Int))) (w.heap.size + 1) Z 28 := (z3.setOther (by show w.heap.size + 1 ≠ w.heap.size; omega) _).setOther (by show w.heap.size + 1 ≠ w.heap.size; omega) _
  have k4 : Kept None w ((w3.setCell ⟨w.heap.size, 67, none⟩ (.int .u64 (R : Int))).setCell ⟨w.heap.size, 68, none⟩ (.int .u64 (S : Int))) := (k3.setNew (Nat.le_refl _) 67 _).setNew (Nat.le_refl _) 68 _
  have E := hid (HZ.out.trans HY.out.1)
  clear k3 x3 z3
  go_wp2_with (first | (refine wpList_load_blk rfl _ _ rfl rfl x4 aY ?_) | (refine wpList_store_blk rfl _ _ _ rfl rfl rfl z4 aY E.out HY.out.2 ?_; intro w9 h9 k9) | fail)
  exact bodyPost_ret (v := .agg Y) (results_blk rfl _ rfl h9 aY) rfl ⟨rfl, k4.then k9 (fun i hi (h : i = w.heap.size + 1) => by omega)⟩

set_option maxRecDepth 100000 in
set_option maxHeartbeats 4000000 in
theorem check (y : Nat) (h : Hd) (w : World) (hk : h.Ok) : Calls Try.prog 18 #[.int .u64 y, hdV h] w fun e w' => e = .returned (.bool (takenHd y h)) ∧ Kept None w w' := by
  have hr := fun W => right h W
  have hm := fun W => message h W hk
  have hs := fun v lo hi W hv => Sg.check y h.r h.s v lo hi (msgHd h) W hv (by rw [msgHd_len hk]; decide)
  have hq : takenHd y h = (rightHd h && checkN y (msgHd h) h.r h.s) := rfl
  obtain ⟨M, hM⟩ : ∃ M, M = msgHd h := ⟨_, rfl⟩
  rw [← hM] at hm hs hq
  obtain ⟨q, hqq⟩ : ∃ q, q = checkN y M h.r h.s := ⟨_, rfl⟩
  rw [← hqq] at hs hq
  rw [hq]
  obtain ⟨X, hX⟩ : ∃ X, X = (hdC h).toArray := ⟨_, rfl⟩
  show Calls _ _ #[.int .u64 y, .agg (hdC h).toArray] _ _
  have aX : AggTy Try.prog 28 X.size := by rw [hX]; exact aHd' hk
  have hm' : ∀ W, Calls Try.prog 14 #[.agg X] W fun e w' => ∃ u, e = .returned u ∧ Kept None W w' ∧ Ob w' W.heap.size u M := fun W => by
    rw [hX]
    exact hm W
  have hr' : ∀ W, Calls Try.prog 12 #[.agg X] W fun e w' => e = .returned (.bool (rightHd h)) ∧ Kept None W w' := fun W => by
    rw [hX]
    exact hr W
  rw [← hX]
  obtain ⟨R, hR⟩ : ∃ R, R = rightHd h := ⟨_, rfl⟩
  rw [← hR] at hr' ⊢
  have HH := hid (And.intro hr' (And.intro hm' hs))
  have HX := hid (And.intro hX hk)
  clear hr hm hm' hr' hs hq hqq hM hX hR
  have k1 : Kept None w (w.alloc (.cells X 28)) := (Kept.refl _ _).alloc _
  have x1 : Blk (w.alloc (.cells X 28)) w.heap.size X 28 := Blk.new w _ _
  cases R with
  | false =>
    go_enter Try.func18, Try.ntmps18
    go_wp2_with fail
    refine wp_nm ?_
    intro w1 e1
    rw [← e1] at k1 x1
    clear e1
    have BX := hid x1
    have hs : Steady [.val 1 (.bool false)] := Go.Pm.Steady.val (Go.Pm.Steady.nil)
    refine wp_region_kn w1 _ hs (Kept.refl _ _) (by kernel_rfl) (by kernel_rfl) (by kernel_rfl) ?_
    refine wpPar_pure rfl (by rfl) _ (fun W hW => by first | exact exec_load_blk _ _ rfl rfl (BX.out.kept hW (fun h => h)) aX | (go_simp; exact rfl)) ?_; simp only [Act.put, List.setIfInBounds_toArray, List.set_cons_zero, List.set_cons_succ]
    refine wpKn_adds hs rfl (by rfl) (fun W hW hd => ?_) (fun v1 hv => ?_)
    · unfold Gives
      go_simp
      refine gives_call (HH.out.1 W) ?_
      rintro e w3 ⟨rfl, k3⟩
      exact ⟨_, rfl, k3, rfl, trivial⟩
    obtain rfl : v1 = .bool false := hv
    simp only [Act.put, List.setIfInBounds_toArray, List.set_cons_zero, List.set_cons_succ]
    iterate 1 (refine wpPar_pure rfl (by rfl) _ (fun W hW => by
        go_simp
        exact rfl) ?_; simp only [Act.put, List.setIfInBounds_toArray, List.set_cons_zero, List.set_cons_succ])
    refine wpPar_skip (by kernel_rfl) ?_; simp only [Act.put, List.setIfInBounds_toArray, List.set_cons_zero, List.set_cons_succ]
    refine wpPar_skip (by kernel_rfl) ?_; simp only [Act.put, List.setIfInBounds_toArray, List.set_cons_zero, List.set_cons_succ]
    refine wpPar_skip (by kernel_rfl) ?_; simp only [Act.put, List.setIfInBounds_toArray, List.set_cons_zero, List.set_cons_succ]
    refine wpPar_skip (by kernel_rfl) ?_; simp only [Act.put, List.setIfInBounds_toArray, List.set_cons_zero, List.set_cons_succ]
    refine wpPar_skip (by kernel_rfl) ?_; simp only [Act.put, List.setIfInBounds_toArray, List.set_cons_zero, List.set_cons_succ]
    refine wpPar_skip (by kernel_rfl) ?_; simp only [Act.put, List.setIfInBounds_toArray, List.set_cons_zero, List.set_cons_succ]
    iterate 2 (refine wpPar_pure rfl (by rfl) _ (fun W hW => by
        go_simp
        exact rfl) ?_; simp only [Act.put, List.setIfInBounds_toArray, List.set_cons_zero, List.set_cons_succ])
    refine wpPar_nil (fun W hW hG => ?_)
    have kW := k1.trans hW
    clear hG hs hW
    go_wp2
    go_ret
    exact ⟨rfl, kW⟩
  | true =>
    go_enter Try.func18, Try.ntmps18
    go_wp2_with fail
    refine wp_nm ?_
    intro w1 e1
    rw [← e1] at k1 x1
    clear e1
    have BX := hid x1
    have RS := hid (hd_rs (h := h) (HX.out.1 ▸ x1) HX.out.2)
    have k01 := k1
    clear k1 x1
    have hs : Steady [.val 1 (.bool true), .bytes 5 (M), .val 8 (.bool q) [5]] := Go.Pm.Steady.val (Go.Pm.Steady.bytes (Go.Pm.Steady.val (Go.Pm.Steady.nil)))
    refine wp_region_kn w1 _ hs (Kept.refl _ _) (by kernel_rfl) (by kernel_rfl) (by kernel_rfl) ?_
    refine wpPar_pure rfl (by rfl) _ (fun W hW => by first | exact exec_load_blk _ _ rfl rfl (BX.out.kept hW (fun h => h)) aX | exact exec_load_at rfl rfl (rangeAt_kept RS.out hW) Sg.aSig | (go_simp; exact rfl)) ?_; simp only [Act.put, List.setIfInBounds_toArray, List.set_cons_zero, List.set_cons_succ]
    refine wpKn_adds hs rfl (by rfl) (fun W hW hd => ?_) (fun v1 hv => ?_)
    · unfold Gives
      go_simp
      refine gives_call (HH.out.1 W) ?_
      rintro e w3 ⟨rfl, k3⟩
      exact ⟨_, rfl, k3, rfl, trivial⟩
    obtain rfl : v1 = .bool true := hv
    simp only [Act.put, List.setIfInBounds_toArray, List.set_cons_zero, List.set_cons_succ]
    iterate 1 (refine wpPar_pure rfl (by rfl) _ (fun W hW => by
        go_simp
        exact rfl) ?_; simp only [Act.put, List.setIfInBounds_toArray, List.set_cons_zero, List.set_cons_succ])
    refine wpPar_pure rfl (by kernel_rfl) _ (fun W hW => by
        go_simp
        exact rfl) ?_; simp only [Act.put, List.setIfInBounds_toArray, List.set_cons_zero, List.set_cons_succ]
    refine wpPar_pure rfl (by kernel_rfl) _ (fun W hW => by first | exact exec_load_blk _ _ rfl rfl (BX.out.kept hW (fun h => h)) aX | exact exec_load_at rfl rfl (rangeAt_kept RS.out hW) Sg.aSig | (go_simp; exact rfl)) ?_; simp only [Act.put, List.setIfInBounds_toArray, List.set_cons_zero, List.set_cons_succ]
    refine wpKn_adds hs rfl (by kernel_rfl) (fun W hW hd => ?_) (fun v5 hv => ?_)
    · unfold Gives
      go_simp
      refine gives_call (HH.out.2.1 W) ?_
      rintro e w3 ⟨u, rfl, k3, b3⟩
      exact ⟨_, rfl, k3, b3.form, _, _, b3.bs (Nat.le_refl _)⟩
    obtain ⟨a5, c5, rfl⟩ : ∃ a c, v5 = .slice a M.length c := hv
    simp only [Act.put, List.setIfInBounds_toArray, List.set_cons_zero, List.set_cons_succ]
    refine wpPar_pure rfl (by kernel_rfl) _ (fun W hW => by
        go_simp
        exact rfl) ?_; simp only [Act.put, List.setIfInBounds_toArray, List.set_cons_zero, List.set_cons_succ]
    refine wpPar_pure rfl (by kernel_rfl) _ (fun W hW => by first | exact exec_load_blk _ _ rfl rfl (BX.out.kept hW (fun h => h)) aX | exact exec_load_at rfl rfl (rangeAt_kept RS.out hW) Sg.aSig | (go_simp; exact rfl)) ?_; simp only [Act.put, List.setIfInBounds_toArray, List.set_cons_zero, List.set_cons_succ]
    refine wpKn_adds hs rfl (by kernel_rfl) (fun W hW hd => ?_) (fun v8 hv => ?_)
    · unfold Gives
      obtain ⟨lo1, hi1, hb1⟩ : ∃ lo hi, Bs W lo hi (.slice a5 M.length c5) M := hd 5 (List.Mem.head _)
      go_simp
      refine gives_call (HH.out.2.2 _ _ _ W hb1) ?_
      rintro e w3 ⟨rfl, k3⟩
      exact ⟨_, rfl, k3, rfl, trivial⟩
    obtain rfl : v8 = .bool q := hv
    simp only [Act.put, List.setIfInBounds_toArray, List.set_cons_zero, List.set_cons_succ]
    iterate 2 (refine wpPar_pure rfl (by rfl) _ (fun W hW => by
        go_simp
        exact rfl) ?_; simp only [Act.put, List.setIfInBounds_toArray, List.set_cons_zero, List.set_cons_succ])
    refine wpPar_nil (fun W hW hG => ?_)
    have kW := k01.trans hW
    clear hG hs hW
    go_wp2
    go_ret
    exact ⟨rfl, kW⟩

set_option maxRecDepth 100000 in
set_option maxHeartbeats 4000000 in
theorem put (h : Hd) (w : World) (hk : h.Ok) : Calls Try.prog 10 #[hdV h] w fun e w' => ∃ u, e = .returned (.tuple #[u, .int .i64 (putHdE h)]) ∧ Kept None w w' ∧ Ob w' w.heap.size u (putHdL h) := by
  have hE : putHdE h = if rightHd h then 0 else 23 := rfl
  have hL : putHdL h = if rightHd h then putHd h else [] := rfl
  rw [hE, hL]
  have hr := fun W => right h W
  have hm := fun W => message h W hk
  have hg := fun W => Sg.put h.r h.s W hk.2.2.1 hk.2.2.2
  rw [show Sg.sigB h.r h.s = leB (h.r : Int) ++ leB (h.s : Int) from rfl] at hg
  have hT : msgHd h ++ (leB (h.r : Int) ++ leB (h.s : Int)) = putHd h := rfl
  have hl := msgHd_len hk
  have hlg : (leB (h.r : Int) ++ leB (h.s : Int)).length = 16 := rfl
  obtain ⟨T, hTT⟩ : ∃ T, T = putHd h := ⟨_, rfl⟩
  rw [← hTT] at hT ⊢
  obtain ⟨M, hM⟩ : ∃ M, M = msgHd h := ⟨_, rfl⟩
  obtain ⟨G, hG⟩ : ∃ G, G = leB (h.r : Int) ++ leB (h.s : Int) := ⟨_, rfl⟩
  rw [← hM] at hm hT hl
  rw [← hG] at hg hT hlg
  obtain ⟨X, hX⟩ : ∃ X, X = (hdC h).toArray := ⟨_, rfl⟩
  have aX : AggTy Try.prog 28 X.size := by rw [hX]; exact aHd' hk
  have hm' : ∀ W, Calls Try.prog 14 #[.agg X] W fun e w' => ∃ u, e = .returned u ∧ Kept None W w' ∧ Ob w' W.heap.size u M := fun W => by
    rw [hX]
    exact hm W
  have HH := hid (And.intro hm' hg)
  have HL := hid (And.intro hl (And.intro hlg hT))
  have hr' : ∀ W, Calls Try.prog 12 #[.agg X] W fun e w' => e = .returned (.bool (rightHd h)) ∧ Kept None W w' := fun W => by
    rw [hX]
    exact hr W
  show Calls _ _ #[.agg (hdC h).toArray] _ _
  rw [← hX]
  obtain ⟨R, hR⟩ : ∃ R, R = rightHd h := ⟨_, rfl⟩
  rw [← hR] at hr' ⊢
  have HR := hid hr'
  have HX := hid (And.intro hX hk)
  clear hE hL hr hr' hm hm' hg hT hl hlg hTT hM hG hX hR
  have k0 : Kept None w (w.alloc (.cells X 28)) := (Kept.refl _ _).alloc _
  have x0 : Blk (w.alloc (.cells X 28)) w.heap.size X 28 := Blk.new w _ _
  cases R with
  | false =>
    go_enter Try.func10, Try.ntmps10
    go_wp2_with (first | (refine wpList_load_blk rfl _ _ rfl rfl x0 aX ?_) | fail)
    refine (HR.out _).mono ?_
    rintro e w1 ⟨rfl, kn⟩
    have k1 := k0.trans kn
    clear k0 x0 kn
    go_wp2
    go_ret2
    exact ⟨_, rfl, k1, Bo.nil _ _ _⟩
  | true =>
    go_enter Try.func10, Try.ntmps10
    go_wp2_with (first | (refine wpList_load_blk rfl _ _ rfl rfl x0 aX ?_) | fail)
    refine (HR.out _).mono ?_
    rintro e w1 ⟨rfl, kn⟩
    have k01 := k0.trans kn
    have x1 := x0.kept kn (fun h => h)
    have BX := hid x1
    have RS := hid (hd_rs (h := h) (HX.out.1 ▸ x1) HX.out.2)
    clear k0 x0 kn x1
    go_wp2_with fail
    have hs : Steady [.own 5 1 (w1.heap.size) (M), .bytes 4 (G)] := Go.Pm.Steady.own (Go.Pm.Steady.bytes (Go.Pm.Steady.nil))
    refine wp_region_kn_tail 5 w1 _ hs (Kept.refl _ _) (by kernel_rfl) (by kernel_rfl) (by kernel_rfl) ?_
    simp only [List.take_succ_cons, List.take_zero, List.drop_succ_cons, List.drop_zero]
    refine wpPar_pure rfl (by rfl) _ (fun W hW => by first | exact exec_load_blk _ _ rfl rfl (BX.out.kept hW (fun h => h)) aX | exact exec_load_at rfl rfl (rangeAt_kept RS.out hW) Sg.aSig | (go_simp; exact rfl)) ?_; simp only [Act.put, List.setIfInBounds_toArray, List.set_cons_zero, List.set_cons_succ]
    refine wpKn_adds hs rfl (by rfl) (fun W hW hd => ?_) (fun v1 hv => ?_)
    · unfold Gives
      go_simp
      refine gives_call (HH.out.1 W) ?_
      rintro e w3 ⟨u, rfl, k3, b3⟩
      exact ⟨_, rfl, k3, b3.form, b3.base hW.size⟩
    obtain ⟨a1, c1, rfl⟩ : ∃ a c, v1 = .slice a M.length c := hv
    simp only [Act.put, List.setIfInBounds_toArray, List.set_cons_zero, List.set_cons_succ]
    iterate 1 (refine wpPar_pure rfl (by rfl) _ (fun W hW => by
        go_simp
        exact rfl) ?_; simp only [Act.put, List.setIfInBounds_toArray, List.set_cons_zero, List.set_cons_succ])
    refine wpPar_pure rfl (by rfl) _ (fun W hW => by first | exact exec_load_blk _ _ rfl rfl (BX.out.kept hW (fun h => h)) aX | exact exec_load_at rfl rfl (rangeAt_kept RS.out hW) Sg.aSig | (go_simp; exact rfl)) ?_; simp only [Act.put, List.setIfInBounds_toArray, List.set_cons_zero, List.set_cons_succ]
    refine wpKn_adds hs rfl (by rfl) (fun W hW hd => ?_) (fun v4 hv => ?_)
    · unfold Gives
      go_simp
      refine gives_call (HH.out.2 W) ?_
      rintro e w3 ⟨u, rfl, k3, b3⟩
      exact ⟨_, rfl, k3, b3.form, _, _, b3.bs (Nat.le_refl _)⟩
    obtain ⟨a4, c4, rfl⟩ : ∃ a c, v4 = .slice a G.length c := hv
    simp only [Act.put, List.setIfInBounds_toArray, List.set_cons_zero, List.set_cons_succ]
    refine wpPar_nil (fun W hW hG => ?_)
    have hb : Ob W w1.heap.size (.slice a1 M.length c1) M := hG 1
    obtain ⟨lo, hi, d4⟩ : ∃ lo hi, Bs W lo hi (.slice a4 G.length c4) G := hG 4
    have kW := k01.trans hW
    have sW := hW.size
    clear hG hs hW
    go_wp2_with (first | (at_builtin; refine wpList_append_bo (l := M) (m := G) (base := w1.heap.size) rfl _ _ 29 rfl rtBytes rfl rfl hb d4 (by have := HL.out; omega) sW ?q5) | fail)
    case q5 =>
      intro a9 n9 c9 w9 b9 k9
      have k09 := Kept.own kW k9 (fun k hk => Nat.le_trans k01.size (hb.own k hk).1)
      rw [HL.out.2.2] at b9
      have bz := b9.base k01.size
      clear kW k9 b9 hb d4
      go_wp2
      go_ret2
      exact ⟨_, rfl, k09, bz⟩
end Hp
end Go.Proofs.Ytibkijloibnkfaa
