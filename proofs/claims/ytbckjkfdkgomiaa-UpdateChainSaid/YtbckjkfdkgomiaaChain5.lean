/- postmarklaw5.UpdateChain: true. -/
import Derived.Test.YtbckjkfdkgomiaaKnown5
import Derived.Test.YtbckjkfdkgomiaaLowSigs
namespace Go.Proofs.Ytbckjkfdkgomiaa
open Go.RowKit Go.Pm

theorem Ns.at {w : World} {lo hi : Nat} {a : Option Addr} {n cap : Nat} {ns : List Int} (h : Ns w lo hi (.slice a n cap) ns) (hn : 0 < ns.length) :
    ∃ b o, a = some ⟨b, o, none⟩ ∧ ∀ i, i < ns.length → ∃ x : Nat, x < 18446744073709551616 ∧ w.cell? ⟨b, o + i, none⟩ = some (.int .u64 (x : Int)) := by
  obtain ⟨b, o, rfl, _, _, _, hc⟩ := Vs.ne h.1 (by simpa using hn)
  refine ⟨b, o, rfl, fun i hi => ?_⟩
  have hb := h.2 ns[i] (List.getElem_mem hi)
  refine ⟨ns[i].toNat, by omega, ?_⟩
  rw [hc i (u64v ns[i]) (by simp [hi]), Int.toNat_of_nonneg hb.1]
  rfl

theorem chain_calls (n : ByteArray) (hn : 1 ≤ n.size ∧ n.size ≤ 32) (V : Int) (hV0 : 1 ≤ V) (hV1 : V ≤ 100) (x y : Nat) (_hx : x < 18446744073709551616) (_hy : y < 18446744073709551616) : ∃ (K Y R S : Nat) (B : List UInt8),
    (∀ w, Calls Try.prog 27 #[.int .u64 y] w fun e w' => e = .returned (.int .u64 (K : Int)) ∧ Kept None w w') ∧
    (∀ w, Calls Try.prog 27 #[.int .u64 x] w fun e w' => e = .returned (.int .u64 (Y : Int)) ∧ Kept None w w') ∧
    (∀ w, Calls Try.prog 19 #[.int .u64 x, .agg #[.string n, .int .i64 V, .int .u64 (K : Int), .int .i64 0, .int .u64 0, .int .u64 0]] w fun e w' => e = .returned (.agg #[.string n, .int .i64 V, .int .u64 (K : Int), .int .i64 0, .int .u64 (R : Int), .int .u64 (S : Int)]) ∧ Kept None w w') ∧
    (∀ w, Calls Try.prog 11 #[.agg #[.string n, .int .i64 V, .int .u64 (K : Int), .int .i64 0, .int .u64 (R : Int), .int .u64 (S : Int)]] w fun e w' => ∃ u, e = .returned (.tuple #[u, .int .i64 0]) ∧ Kept None w w' ∧ Ob w' w.heap.size u B) ∧
    (∀ v lo hi w, Bs w lo hi v B → Calls Try.prog 24 #[v] w fun e w' => e = .returned (.tuple #[.agg #[.string n, .int .i64 V, .int .u64 (K : Int), .int .i64 0, .int .u64 (R : Int), .int .u64 (S : Int)], .int .i64 0]) ∧ Kept None w w') ∧
    (∀ w, Calls Try.prog 22 #[.agg #[.string n, .int .i64 V, .int .u64 (K : Int), .int .i64 0, .int .u64 (R : Int), .int .u64 (S : Int)], .int .u64 (Y : Int)] w fun e w' => e = .returned (.bool true) ∧ Kept None w w') := by
  have hK : pubN y < prime61 := pubN_lt y
  have hK1 := pubN_pos y
  have hK2 : pubN y < 18446744073709551616 := Nat.lt_trans hK (by decide)
  have hr : rightB n.size V (pubN y) 0 = true := by rw [rightB_iff]; omega
  have hR : sigR x (msgB n V (pubN y)) < 18446744073709551616 := Nat.lt_trans (sigR_lt _ _) (by decide)
  have hS : sigS x (msgB n V (pubN y)) < 18446744073709551616 := Nat.lt_trans (sigS_lt _ _) (by decide)
  have g := read_put n V (pubN y) 0 (sigR x (msgB n V (pubN y))) (sigS x (msgB n V (pubN y))) hr hR hS
  refine ⟨pubN y, pubN x, sigR x (msgB n V (pubN y)), sigS x (msgB n V (pubN y)), putB n V (pubN y) 0 (sigR x (msgB n V (pubN y))) (sigS x (msgB n V (pubN y))), fun w => Ref.pub y w, fun w => Ref.pub x w, fun w => Up.sign x n V 0 (pubN y) 0 0 w (by omega) hK2, fun w => ?_, fun v lo hi w h => ?_, fun w => ?_⟩
  · have h := Up.put n V 0 (pubN y) (sigR x (msgB n V (pubN y))) (sigS x (msgB n V (pubN y))) w hR hS
    rw [show putE n.size V (pubN y) 0 = 0 by unfold putE; rw [hr]; rfl, show putL n V (pubN y) 0 (sigR x (msgB n V (pubN y))) (sigS x (msgB n V (pubN y))) = putB n V (pubN y) 0 (sigR x (msgB n V (pubN y))) (sigS x (msgB n V (pubN y))) by unfold putL; rw [hr]; rfl] at h
    exact h
  · have h2 := Up.read v lo hi _ w h
    rw [g.1, g.2] at h2
    exact h2
  · have h2 := Up.check n V 0 (pubN y) (sigR x (msgB n V (pubN y))) (sigS x (msgB n V (pubN y))) (pubN x) w (by omega) hK2
    rw [check_sign] at h2
    exact h2

set_option maxRecDepth 100000 in
set_option maxHeartbeats 4000000 in
theorem updateChain (n : ByteArray) (v : Value) (lo hi : Nat) (ns : List Int) (w : World) (hv : Ns w lo hi v ns) : Calls Try.prog 5 #[.string n, v] w fun e w' => e = .returned (.bool true) ∧ Kept None w w' := by
  obtain ⟨a, cap, rfl, g1, g2, g3, _⟩ := hv.1
  rw [List.length_map] at g1 hv ⊢
  unfold maxLen at g2
  clear g3
  have HV := hid hv
  clear hv
  by_cases h1 : 32 < n.size
  · go_enter Try.func5, Try.ntmps5
    go_wp2_with fail
    refine (known5 _).mono ?_
    rintro e w0 ⟨rfl, k0⟩
    go_wp2
    go_ret
    exact ⟨rfl, k0⟩
  by_cases h2 : n.size = 0
  · go_enter Try.func5, Try.ntmps5
    go_wp2_with fail
    refine (known5 _).mono ?_
    rintro e w0 ⟨rfl, k0⟩
    go_wp2
    go_ret
    exact ⟨rfl, k0⟩
  have hnz : ((n.size : Int) == 0) = false := by rw [beq_eq_false_iff_ne]; omega
  by_cases h3 : 12 < ns.length
  · go_enter Try.func5, Try.ntmps5
    go_wp2_with fail
    refine (known5 _).mono ?_
    rintro e w0 ⟨rfl, k0⟩
    go_wp2
    go_ret
    exact ⟨rfl, k0⟩
  have hn : Hid (1 ≤ n.size ∧ n.size ≤ 32) := hid ⟨by omega, by omega⟩
  go_enter Try.func5, Try.ntmps5
  go_wp2_with fail
  refine (known5 _).mono ?_
  rintro e w0 ⟨rfl, k0⟩
  go_wp2
  clear hnz h1 h2
  go_loopw [5] (fun i wr => ∃ k : Nat, k ≤ ns.length ∧ i = .int .i64 k ∧ Kept None w wr) (fun i _ => ns.length - (intOf i).toNat)
  case atStart => exact ⟨0, Nat.zero_le _, rfl, k0⟩
  case round =>
    clear k0
    obtain ⟨k, hk, rfl, hkk⟩ := hrel
    obtain ⟨wx, hwx⟩ : ∃ wx, wx = wr := ⟨_, rfl⟩
    rw [← hwx] at hkk ⊢
    clear hwx
    by_cases hlt : k < ns.length
    · have hvr : Ns wx lo hi (.slice a ns.length cap) ns := ⟨HV.out.1.kept hkk (fun _ _ _ h => h), HV.out.2⟩
      obtain ⟨b, o, rfl, hcs⟩ := Ns.at hvr (by omega)
      clear hvr
      by_cases hk0 : k = 0
      · subst hk0
        obtain ⟨x, hxl, cx⟩ := hcs 0 hlt
        obtain ⟨y, hyl, cy⟩ := hcs 0 hlt
        rw [cx] at cy
        obtain rfl : x = y := by simp only [Option.some.injEq, Value.int.injEq, true_and] at cy; omega
        have cy := cx
        simp only [Nat.add_zero] at cx cy
        clear hcs
        obtain ⟨K, Y, R, S, B, j0, j1, j2, j3, j4, j5⟩ := chain_calls n hn.out 1 (by omega) (by omega) x x hxl hyl
        have J := hid (And.intro j0 (And.intro j1 (And.intro j2 (And.intro j3 (And.intro j4 j5)))))
        clear j0 j1 j2 j3 j4 j5 hxl hyl
        go_wp2_with fail
        clear cx cy
        refine (J.out.1 _).mono ?_
        rintro e w2 ⟨rfl, k2⟩
        have k02 := hkk.trans k2
        clear hkk k2
        go_wp2_with fail
        refine (J.out.2.2.1 _).mono ?_
        rintro e w3 ⟨rfl, k3⟩
        have hU := Blk.new w3 #[.string n, .int .i64 1, .int .u64 (K : Int), .int .i64 0, .int .u64 (R : Int), .int .u64 (S : Int)] 26
        have k03 := (k02.trans k3).alloc (.cells #[.string n, .int .i64 1, .int .u64 (K : Int), .int .i64 0, .int .u64 (R : Int), .int .u64 (S : Int)] 26)
        clear k02 k3
        go_wp2_with (first | (refine wpList_load_blk rfl _ _ rfl rfl hU Up.aUpd ?_) | fail)
        refine (J.out.2.2.2.1 _).mono ?_
        rintro e w4' ⟨uB, rfl, k4, b4⟩
        have k04 := k03.trans k4
        have hU4 := hU.kept k4 (fun h => h)
        have d4 := b4.bs (Nat.le_refl _)
        obtain ⟨aB, cB, rfl⟩ := b4.form
        clear k03 k4 hU b4
        go_wp2_with fail
        refine (J.out.2.2.2.2.1 _ _ _ _ d4).mono ?_
        rintro e w4 ⟨rfl, k5⟩
        have kk5 := k5.alloc (.cells #[.string n, .int .i64 1, .int .u64 (K : Int), .int .i64 0, .int .u64 (R : Int), .int .u64 (S : Int)] 26)
        have k05 := k04.trans kk5
        have hU5' := hU4.kept kk5 (fun h => h)
        have hV5' := Blk.new w4 #[.string n, .int .i64 1, .int .u64 (K : Int), .int .i64 0, .int .u64 (R : Int), .int .u64 (S : Int)] 26
        clear k04 k5 kk5 hU4 d4
        go_wp2_with fail
        obtain ⟨w5, hw5⟩ : ∃ w5, w5 = w4.alloc (.cells #[.string n, .int .i64 1, .int .u64 (K : Int), .int .i64 0, .int .u64 (R : Int), .int .u64 (S : Int)] 26) := ⟨_, rfl⟩
        rw [← hw5] at k05 hU5' hV5' ⊢
        have hU5 := hU5'
        have hV5 := hV5'
        clear hw5 hU5' hV5'
        have hc0 : ∀ W, Kept None w5 W → W.cell? ⟨w3.heap.size, 0, none⟩ = some (.string n) := fun W hW => (hU5.kept hW (fun h => h)).cell 0
        have hd0 : ∀ W, Kept None w5 W → W.cell? ⟨w4.heap.size, 0, none⟩ = some (.string n) := fun W hW => (hV5.kept hW (fun h => h)).cell 0
        have hc1 : ∀ W, Kept None w5 W → W.cell? ⟨w3.heap.size, 1, none⟩ = some (.int .i64 1) := fun W hW => (hU5.kept hW (fun h => h)).cell 1
        have hd1 : ∀ W, Kept None w5 W → W.cell? ⟨w4.heap.size, 1, none⟩ = some (.int .i64 1) := fun W hW => (hV5.kept hW (fun h => h)).cell 1
        have hc2 : ∀ W, Kept None w5 W → W.cell? ⟨w3.heap.size, 2, none⟩ = some (.int .u64 (K : Int)) := fun W hW => (hU5.kept hW (fun h => h)).cell 2
        have hd2 : ∀ W, Kept None w5 W → W.cell? ⟨w4.heap.size, 2, none⟩ = some (.int .u64 (K : Int)) := fun W hW => (hV5.kept hW (fun h => h)).cell 2
        have hc3 : ∀ W, Kept None w5 W → W.cell? ⟨w3.heap.size, 3, none⟩ = some (.int .i64 0) := fun W hW => (hU5.kept hW (fun h => h)).cell 3
        have hd3 : ∀ W, Kept None w5 W → W.cell? ⟨w4.heap.size, 3, none⟩ = some (.int .i64 0) := fun W hW => (hV5.kept hW (fun h => h)).cell 3
        have hc4 : ∀ W, Kept None w5 W → W.cell? ⟨w3.heap.size, 4, none⟩ = some (.int .u64 (R : Int)) := fun W hW => (hU5.kept hW (fun h => h)).cell 4
        have hd4 : ∀ W, Kept None w5 W → W.cell? ⟨w4.heap.size, 4, none⟩ = some (.int .u64 (R : Int)) := fun W hW => (hV5.kept hW (fun h => h)).cell 4
        have hc5 : ∀ W, Kept None w5 W → W.cell? ⟨w3.heap.size, 5, none⟩ = some (.int .u64 (S : Int)) := fun W hW => (hU5.kept hW (fun h => h)).cell 5
        have hd5 : ∀ W, Kept None w5 W → W.cell? ⟨w4.heap.size, 5, none⟩ = some (.int .u64 (S : Int)) := fun W hW => (hV5.kept hW (fun h => h)).cell 5
        clear hU5 hV5
        have hs : Steady [.val 14 (.int .u64 (Y : Int)), .val 15 (.bool true)] := Steady.val (Steady.val (Steady.nil))
        refine wp_region_kn w5 _ hs (Kept.refl _ _) (by kernel_rfl) (by kernel_rfl) (by kernel_rfl) ?_
        iterate 14 (refine wpPar_pure rfl (by rfl) _ (fun W hW => by
            have c0 := hc0 W hW
            have c1 := hc1 W hW
            have c2 := hc2 W hW
            have c3 := hc3 W hW
            have c4 := hc4 W hW
            have c5 := hc5 W hW
            have d0 := hd0 W hW
            have d1 := hd1 W hW
            have d2 := hd2 W hW
            have d3 := hd3 W hW
            have d4 := hd4 W hW
            have d5 := hd5 W hW
            go_simp
            exact rfl) ?_; simp only [Act.put, List.setIfInBounds_toArray, List.set_cons_zero, List.set_cons_succ])
        refine wpKn_adds hs rfl (by rfl) (fun W hW hd => ?_) (fun v14 hv => ?_)
        · unfold Gives
          go_simp
          refine gives_call (J.out.2.1 W) ?_
          rintro e w3 ⟨rfl, k3⟩
          exact ⟨_, rfl, k3, rfl, trivial⟩
        obtain rfl : v14 = .int .u64 (Y : Int) := hv
        simp only [Act.put, List.setIfInBounds_toArray, List.set_cons_zero, List.set_cons_succ]
        refine wpKn_adds hs rfl (by rfl) (fun W hW hd => ?_) (fun v15 hv => ?_)
        · unfold Gives
          go_simp
          refine gives_call (J.out.2.2.2.2.2 W) ?_
          rintro e w3 ⟨rfl, k3⟩
          exact ⟨_, rfl, k3, rfl, trivial⟩
        obtain rfl : v15 = .bool true := hv
        simp only [Act.put, List.setIfInBounds_toArray, List.set_cons_zero, List.set_cons_succ]
        iterate 2 (refine wpPar_pure rfl (by rfl) _ (fun W hW => by
            go_simp
            exact rfl) ?_; simp only [Act.put, List.setIfInBounds_toArray, List.set_cons_zero, List.set_cons_succ])
        refine wpPar_nil (fun W hW _ => ?_)
        have k06 := k05.trans hW
        clear hc0 hc1 hc2 hc3 hc4 hc5 hd0 hd1 hd2 hd3 hd4 hd5 hs k05 hW J
        go_wp2
        go_roundw
        case rel => exact ⟨0 + 1, by omega, by go_num, k06⟩
        case measure => simp [intOf]; omega

      · obtain ⟨j, rfl⟩ : ∃ j, k = j + 1 := ⟨k - 1, by omega⟩
        obtain ⟨x, hxl, cx⟩ := hcs j (by omega)
        obtain ⟨y, hyl, cy⟩ := hcs (j + 1) hlt
        clear hcs hk0
        obtain ⟨K, Y, R, S, B, j0, j1, j2, j3, j4, j5⟩ := chain_calls n hn.out ((j : Int) + 1 + 1) (by omega) (by omega) x y hxl hyl
        have J := hid (And.intro j0 (And.intro j1 (And.intro j2 (And.intro j3 (And.intro j4 j5)))))
        clear j0 j1 j2 j3 j4 j5 hxl hyl
        go_wp2_with fail
        clear cx cy
        refine (J.out.1 _).mono ?_
        rintro e w2 ⟨rfl, k2⟩
        have k02 := hkk.trans k2
        clear hkk k2
        go_wp2_with fail
        refine (J.out.2.2.1 _).mono ?_
        rintro e w3 ⟨rfl, k3⟩
        have hU := Blk.new w3 #[.string n, .int .i64 ((j : Int) + 1 + 1), .int .u64 (K : Int), .int .i64 0, .int .u64 (R : Int), .int .u64 (S : Int)] 26
        have k03 := (k02.trans k3).alloc (.cells #[.string n, .int .i64 ((j : Int) + 1 + 1), .int .u64 (K : Int), .int .i64 0, .int .u64 (R : Int), .int .u64 (S : Int)] 26)
        clear k02 k3
        go_wp2_with (first | (refine wpList_load_blk rfl _ _ rfl rfl hU Up.aUpd ?_) | fail)
        refine (J.out.2.2.2.1 _).mono ?_
        rintro e w4' ⟨uB, rfl, k4, b4⟩
        have k04 := k03.trans k4
        have hU4 := hU.kept k4 (fun h => h)
        have d4 := b4.bs (Nat.le_refl _)
        obtain ⟨aB, cB, rfl⟩ := b4.form
        clear k03 k4 hU b4
        go_wp2_with fail
        refine (J.out.2.2.2.2.1 _ _ _ _ d4).mono ?_
        rintro e w4 ⟨rfl, k5⟩
        have kk5 := k5.alloc (.cells #[.string n, .int .i64 ((j : Int) + 1 + 1), .int .u64 (K : Int), .int .i64 0, .int .u64 (R : Int), .int .u64 (S : Int)] 26)
        have k05 := k04.trans kk5
        have hU5' := hU4.kept kk5 (fun h => h)
        have hV5' := Blk.new w4 #[.string n, .int .i64 ((j : Int) + 1 + 1), .int .u64 (K : Int), .int .i64 0, .int .u64 (R : Int), .int .u64 (S : Int)] 26
        clear k04 k5 kk5 hU4 d4
        go_wp2_with fail
        obtain ⟨w5, hw5⟩ : ∃ w5, w5 = w4.alloc (.cells #[.string n, .int .i64 ((j : Int) + 1 + 1), .int .u64 (K : Int), .int .i64 0, .int .u64 (R : Int), .int .u64 (S : Int)] 26) := ⟨_, rfl⟩
        rw [← hw5] at k05 hU5' hV5' ⊢
        have hU5 := hU5'
        have hV5 := hV5'
        clear hw5 hU5' hV5'
        have hc0 : ∀ W, Kept None w5 W → W.cell? ⟨w3.heap.size, 0, none⟩ = some (.string n) := fun W hW => (hU5.kept hW (fun h => h)).cell 0
        have hd0 : ∀ W, Kept None w5 W → W.cell? ⟨w4.heap.size, 0, none⟩ = some (.string n) := fun W hW => (hV5.kept hW (fun h => h)).cell 0
        have hc1 : ∀ W, Kept None w5 W → W.cell? ⟨w3.heap.size, 1, none⟩ = some (.int .i64 ((j : Int) + 1 + 1)) := fun W hW => (hU5.kept hW (fun h => h)).cell 1
        have hd1 : ∀ W, Kept None w5 W → W.cell? ⟨w4.heap.size, 1, none⟩ = some (.int .i64 ((j : Int) + 1 + 1)) := fun W hW => (hV5.kept hW (fun h => h)).cell 1
        have hc2 : ∀ W, Kept None w5 W → W.cell? ⟨w3.heap.size, 2, none⟩ = some (.int .u64 (K : Int)) := fun W hW => (hU5.kept hW (fun h => h)).cell 2
        have hd2 : ∀ W, Kept None w5 W → W.cell? ⟨w4.heap.size, 2, none⟩ = some (.int .u64 (K : Int)) := fun W hW => (hV5.kept hW (fun h => h)).cell 2
        have hc3 : ∀ W, Kept None w5 W → W.cell? ⟨w3.heap.size, 3, none⟩ = some (.int .i64 0) := fun W hW => (hU5.kept hW (fun h => h)).cell 3
        have hd3 : ∀ W, Kept None w5 W → W.cell? ⟨w4.heap.size, 3, none⟩ = some (.int .i64 0) := fun W hW => (hV5.kept hW (fun h => h)).cell 3
        have hc4 : ∀ W, Kept None w5 W → W.cell? ⟨w3.heap.size, 4, none⟩ = some (.int .u64 (R : Int)) := fun W hW => (hU5.kept hW (fun h => h)).cell 4
        have hd4 : ∀ W, Kept None w5 W → W.cell? ⟨w4.heap.size, 4, none⟩ = some (.int .u64 (R : Int)) := fun W hW => (hV5.kept hW (fun h => h)).cell 4
        have hc5 : ∀ W, Kept None w5 W → W.cell? ⟨w3.heap.size, 5, none⟩ = some (.int .u64 (S : Int)) := fun W hW => (hU5.kept hW (fun h => h)).cell 5
        have hd5 : ∀ W, Kept None w5 W → W.cell? ⟨w4.heap.size, 5, none⟩ = some (.int .u64 (S : Int)) := fun W hW => (hV5.kept hW (fun h => h)).cell 5
        clear hU5 hV5
        have hs : Steady [.val 14 (.int .u64 (Y : Int)), .val 15 (.bool true)] := Steady.val (Steady.val (Steady.nil))
        refine wp_region_kn w5 _ hs (Kept.refl _ _) (by kernel_rfl) (by kernel_rfl) (by kernel_rfl) ?_
        iterate 14 (refine wpPar_pure rfl (by rfl) _ (fun W hW => by
            have c0 := hc0 W hW
            have c1 := hc1 W hW
            have c2 := hc2 W hW
            have c3 := hc3 W hW
            have c4 := hc4 W hW
            have c5 := hc5 W hW
            have d0 := hd0 W hW
            have d1 := hd1 W hW
            have d2 := hd2 W hW
            have d3 := hd3 W hW
            have d4 := hd4 W hW
            have d5 := hd5 W hW
            go_simp
            exact rfl) ?_; simp only [Act.put, List.setIfInBounds_toArray, List.set_cons_zero, List.set_cons_succ])
        refine wpKn_adds hs rfl (by rfl) (fun W hW hd => ?_) (fun v14 hv => ?_)
        · unfold Gives
          go_simp
          refine gives_call (J.out.2.1 W) ?_
          rintro e w3 ⟨rfl, k3⟩
          exact ⟨_, rfl, k3, rfl, trivial⟩
        obtain rfl : v14 = .int .u64 (Y : Int) := hv
        simp only [Act.put, List.setIfInBounds_toArray, List.set_cons_zero, List.set_cons_succ]
        refine wpKn_adds hs rfl (by rfl) (fun W hW hd => ?_) (fun v15 hv => ?_)
        · unfold Gives
          go_simp
          refine gives_call (J.out.2.2.2.2.2 W) ?_
          rintro e w3 ⟨rfl, k3⟩
          exact ⟨_, rfl, k3, rfl, trivial⟩
        obtain rfl : v15 = .bool true := hv
        simp only [Act.put, List.setIfInBounds_toArray, List.set_cons_zero, List.set_cons_succ]
        iterate 2 (refine wpPar_pure rfl (by rfl) _ (fun W hW => by
            go_simp
            exact rfl) ?_; simp only [Act.put, List.setIfInBounds_toArray, List.set_cons_zero, List.set_cons_succ])
        refine wpPar_nil (fun W hW _ => ?_)
        have k06 := k05.trans hW
        clear hc0 hc1 hc2 hc3 hc4 hc5 hd0 hd1 hd2 hd3 hd4 hd5 hs k05 hW J
        go_wp2
        go_roundw
        case rel => exact ⟨(j + 1) + 1, by omega, by go_num, k06⟩
        case measure => simp [intOf]; omega

    · go_wp2
      go_ret
      exact ⟨rfl, hkk⟩
end Go.Proofs.Ytbckjkfdkgomiaa
