/- postmarklaw5.UpdateClass, of a later version. -/
import Derived.Test.YtbckjkfdkgomiaaKnown5
import Derived.Test.YtbckjkfdkgomiaaSeatU5
import Derived.Test.YtbckjkfdkgomiaaConv
namespace Go.Proofs.Ytbckjkfdkgomiaa
open Go.RowKit Go.Pm

set_option maxRecDepth 100000 in
set_option maxHeartbeats 4000000 in
theorem class_b0 (kk : Nat) (x ver : Nat) (hx : (ver : Int) % 5 = (x : Int)) (_h1 : 1 ≤ x) (_h2 : x ≤ 4) (w : World) : Calls Try.prog 6 #[.int .u8 kk, .int .u8 ver, .int .i64 0] w fun e w' => e = .returned (.bool true) ∧ Kept None w w' := by
  have hN := Seat.nameS_size kk
  have j0 := fun w => Seat.name kk w
  have j1 := fun w => Seat.update (Seat.nameS kk) ((x : Int) + 1) 0 0 w hN.2 (by omega) (by omega)
  have j2 := fun w => Seat.key (Seat.nameS kk) (x : Int) false w (by omega)
  have hq : Seat.req (Seat.nameS kk) ((x : Int) + 1) 0 0 = ⟨Seat.nameS kk, ((x : Int) + 1), Seat.keyN (Seat.nameS kk) ((x : Int) + 1) false, 0, sigR (Seat.secN (Seat.nameS kk) (x : Int) false) (msgB (Seat.nameS kk) ((x : Int) + 1) (Seat.keyN (Seat.nameS kk) ((x : Int) + 1) false)), sigS (Seat.secN (Seat.nameS kk) (x : Int) false) (msgB (Seat.nameS kk) ((x : Int) + 1) (Seat.keyN (Seat.nameS kk) ((x : Int) + 1) false))⟩ := by
    have e1 : max ((((x : Int) + 1) : Int) - 1) 1 = (x : Int) := by omega
    show Seat.reqB (Seat.nameS kk) ((x : Int) + 1) 0 false false false = _
    unfold Seat.reqB Seat.byN
    rw [e1]
    rfl
  rw [hq] at j1
  clear hq
  have hkey : Seat.keyN (Seat.nameS kk) (x : Int) false = pubN (Seat.secN (Seat.nameS kk) (x : Int) false) := rfl
  rw [hkey] at j2
  clear hkey
  have kl := Seat.keyN_lt (Seat.nameS kk) ((x : Int) + 1) false
  have kp : 1 ≤ Seat.keyN (Seat.nameS kk) ((x : Int) + 1) false := pubN_pos _
  have kq : Seat.keyN (Seat.nameS kk) ((x : Int) + 1) false < prime61 := pubN_lt _
  obtain ⟨N, hNN⟩ : ∃ N, N = Seat.nameS kk := ⟨_, rfl⟩
  rw [← hNN] at hN j0 j1 j2 kl kp kq
  obtain ⟨K, hK⟩ : ∃ K, K = Seat.keyN N ((x : Int) + 1) false := ⟨_, rfl⟩
  rw [← hK] at j1 kl kp kq
  obtain ⟨B, hB⟩ : ∃ B, B = Seat.secN N (x : Int) false := ⟨_, rfl⟩
  rw [← hB] at j1 j2
  have hchk := check_sign B (msgB N ((x : Int) + 1) K)
  obtain ⟨R, hR⟩ : ∃ R, R = sigR B (msgB N ((x : Int) + 1) K) := ⟨_, rfl⟩
  obtain ⟨S, hS⟩ : ∃ S, S = sigS B (msgB N ((x : Int) + 1) K) := ⟨_, rfl⟩
  obtain ⟨Y, hY⟩ : ∃ Y, Y = pubN B := ⟨_, rfl⟩
  rw [← hR, ← hS] at j1 hchk
  rw [← hY] at j2 hchk
  have j3 := fun w => Up.check N ((x : Int) + 1) 0 K R S Y w (by omega) kl
  have j4 := fun w => Up.check N ((x : Int) + 1) 0 K R S Y w (by omega) kl
  rw [hchk] at j3 j4
  have j5 := fun w => Up.entry N ((x : Int) + 1) 0 K R S w
  have j6 := fun w => Up.entry N ((x : Int) + 1) 0 K R S w
  have j7 := fun w => Up.message N ((x : Int) + 1) K w (by omega) kl
  have j8 := fun w => Up.right N ((x : Int) + 1) 0 K R S w
  have hr : rightB N.size ((x : Int) + 1) K 0 = true := by
    rw [rightB_iff]; omega
  rw [hr] at j8
  obtain ⟨M, hM⟩ : ∃ M, M = msgB N ((x : Int) + 1) K := ⟨_, rfl⟩
  rw [← hM] at j7
  have J := hid (And.intro j0 (And.intro j1 (And.intro j2 (And.intro j3 (And.intro j4 (And.intro j5 (And.intro j6 (And.intro j7 j8))))))))
  clear j0 j1 j2 j3 j4 j5 j6 j7 j8 hN kl kp kq hNN hK hB hR hS hY hchk hr hM
  go_enter Try.func6, Try.ntmps6
  go_wp2_with fail
  refine (known5 _).mono ?_
  rintro e w0 ⟨rfl, k0⟩
  go_wp2_with fail
  refine (J.out.1 _).mono ?_
  rintro e w1 ⟨rfl, k1⟩
  have k01 := k0.trans k1
  clear k0 k1
  go_wp2_with fail
  refine (J.out.2.1 _).mono ?_
  rintro e w2 ⟨rfl, k2⟩
  have k02 := k01.trans k2
  clear k01 k2
  go_wp2_with fail
  have k03 : Kept None w ((w2.alloc (.cells #[.string N, .int .i64 ((x : Int) + 1), .int .u64 (K : Int), .int .i64 0, .int .u64 (R : Int), .int .u64 (S : Int)] 26)).alloc (.cells #[.string N, .int .i64 ((x : Int) + 1), .int .u64 (K : Int), .int .i64 0, .int .u64 (R : Int), .int .u64 (S : Int)] 26)) := (k02.alloc _).alloc _
  have hU : Blk ((w2.alloc (.cells #[.string N, .int .i64 ((x : Int) + 1), .int .u64 (K : Int), .int .i64 0, .int .u64 (R : Int), .int .u64 (S : Int)] 26)).alloc (.cells #[.string N, .int .i64 ((x : Int) + 1), .int .u64 (K : Int), .int .i64 0, .int .u64 (R : Int), .int .u64 (S : Int)] 26)) w2.heap.size #[.string N, .int .i64 ((x : Int) + 1), .int .u64 (K : Int), .int .i64 0, .int .u64 (R : Int), .int .u64 (S : Int)] 26 := (Blk.new w2 _ _).alloc _
  have hW := Blk.new2 w2 (.cells #[.string N, .int .i64 ((x : Int) + 1), .int .u64 (K : Int), .int .i64 0, .int .u64 (R : Int), .int .u64 (S : Int)] 26) #[.string N, .int .i64 ((x : Int) + 1), .int .u64 (K : Int), .int .i64 0, .int .u64 (R : Int), .int .u64 (S : Int)] 26
  refine (J.out.2.2.1 _).mono ?_
  rintro e wy ⟨rfl, ky⟩
  have k04 := k03.trans ky
  have hUy := hU.kept ky (fun h => h)
  have hWy := hW.kept ky (fun h => h)
  clear k02 k03 hU hW ky
  have hc0 : ∀ W, Kept None wy W → W.cell? ⟨w2.heap.size, 0, none⟩ = some (.string N) := fun W hW => (hUy.kept hW (fun h => h)).cell 0
  have hd0 : ∀ W, Kept None wy W → W.cell? ⟨w2.heap.size + 1, 0, none⟩ = some (.string N) := fun W hW => (hWy.kept hW (fun h => h)).cell 0
  have hc1 : ∀ W, Kept None wy W → W.cell? ⟨w2.heap.size, 1, none⟩ = some (.int .i64 ((x : Int) + 1)) := fun W hW => (hUy.kept hW (fun h => h)).cell 1
  have hd1 : ∀ W, Kept None wy W → W.cell? ⟨w2.heap.size + 1, 1, none⟩ = some (.int .i64 ((x : Int) + 1)) := fun W hW => (hWy.kept hW (fun h => h)).cell 1
  have hc2 : ∀ W, Kept None wy W → W.cell? ⟨w2.heap.size, 2, none⟩ = some (.int .u64 (K : Int)) := fun W hW => (hUy.kept hW (fun h => h)).cell 2
  have hd2 : ∀ W, Kept None wy W → W.cell? ⟨w2.heap.size + 1, 2, none⟩ = some (.int .u64 (K : Int)) := fun W hW => (hWy.kept hW (fun h => h)).cell 2
  have hc3 : ∀ W, Kept None wy W → W.cell? ⟨w2.heap.size, 3, none⟩ = some (.int .i64 0) := fun W hW => (hUy.kept hW (fun h => h)).cell 3
  have hd3 : ∀ W, Kept None wy W → W.cell? ⟨w2.heap.size + 1, 3, none⟩ = some (.int .i64 0) := fun W hW => (hWy.kept hW (fun h => h)).cell 3
  have hc4 : ∀ W, Kept None wy W → W.cell? ⟨w2.heap.size, 4, none⟩ = some (.int .u64 (R : Int)) := fun W hW => (hUy.kept hW (fun h => h)).cell 4
  have hd4 : ∀ W, Kept None wy W → W.cell? ⟨w2.heap.size + 1, 4, none⟩ = some (.int .u64 (R : Int)) := fun W hW => (hWy.kept hW (fun h => h)).cell 4
  have hc5 : ∀ W, Kept None wy W → W.cell? ⟨w2.heap.size, 5, none⟩ = some (.int .u64 (S : Int)) := fun W hW => (hUy.kept hW (fun h => h)).cell 5
  have hd5 : ∀ W, Kept None wy W → W.cell? ⟨w2.heap.size + 1, 5, none⟩ = some (.int .u64 (S : Int)) := fun W hW => (hWy.kept hW (fun h => h)).cell 5
  clear hUy hWy
  go_wp2_with fail
  have hs : Steady [.val 2 (.bool true), .val 6 (.bool true), .val 10 (entV N ((x : Int) + 1) K), .bytes 11 (M), .val 12 (.string ⟨M.toArray⟩) [11], .val 14 (entV N ((x : Int) + 1) K), .bytes 15 (M), .val 16 (.string ⟨M.toArray⟩) [15], .val 21 (.bool true)] := Steady.val (Steady.val (Steady.val (Steady.bytes (Steady.val (Steady.val (Steady.bytes (Steady.val (Steady.val (Steady.nil)))))))))
  refine wp_region_kn wy _ hs (Kept.refl _ _) (by kernel_rfl) (by kernel_rfl) (by kernel_rfl) ?_
  iterate 2 (refine wpPar_pure rfl (by rfl) _ (fun W hW => by
      have c0 := hc0 W hW
      have c1 := hc1 W hW
      have c2 := hc2 W hW
      have c3 := hc3 W hW
      have c4 := hc4 W hW
      have c5 := hc5 W hW
      have d0 := hd0 W hW
      have d1 := hd1 W hW
      have d2 := hd2 W hW
      have d3 := hd3 W hW
      have d4 := hd4 W hW
      have d5 := hd5 W hW
      go_simp
      exact rfl) ?_; simp only [Act.put, List.setIfInBounds_toArray, List.set_cons_zero, List.set_cons_succ])
  refine wpKn_adds hs rfl (by rfl) (fun W hW hd => ?_) (fun v2 hv => ?_)
  · unfold Gives
    go_simp
    refine gives_call (J.out.2.2.2.1 W) ?_
    rintro e w3 ⟨rfl, k3⟩
    exact ⟨_, rfl, k3, rfl, trivial⟩
  obtain rfl : v2 = .bool true := hv
  simp only [Act.put, List.setIfInBounds_toArray, List.set_cons_zero, List.set_cons_succ]
  iterate 3 (refine wpPar_pure rfl (by rfl) _ (fun W hW => by
      have c0 := hc0 W hW
      have c1 := hc1 W hW
      have c2 := hc2 W hW
      have c3 := hc3 W hW
      have c4 := hc4 W hW
      have c5 := hc5 W hW
      have d0 := hd0 W hW
      have d1 := hd1 W hW
      have d2 := hd2 W hW
      have d3 := hd3 W hW
      have d4 := hd4 W hW
      have d5 := hd5 W hW
      go_simp
      exact rfl) ?_; simp only [Act.put, List.setIfInBounds_toArray, List.set_cons_zero, List.set_cons_succ])
  refine wpKn_adds hs rfl (by rfl) (fun W hW hd => ?_) (fun v6 hv => ?_)
  · unfold Gives
    go_simp
    refine gives_call (J.out.2.2.2.2.1 W) ?_
    rintro e w3 ⟨rfl, k3⟩
    exact ⟨_, rfl, k3, rfl, trivial⟩
  obtain rfl : v6 = .bool true := hv
  simp only [Act.put, List.setIfInBounds_toArray, List.set_cons_zero, List.set_cons_succ]
  iterate 3 (refine wpPar_pure rfl (by rfl) _ (fun W hW => by
      have c0 := hc0 W hW
      have c1 := hc1 W hW
      have c2 := hc2 W hW
      have c3 := hc3 W hW
      have c4 := hc4 W hW
      have c5 := hc5 W hW
      have d0 := hd0 W hW
      have d1 := hd1 W hW
      have d2 := hd2 W hW
      have d3 := hd3 W hW
      have d4 := hd4 W hW
      have d5 := hd5 W hW
      go_simp
      exact rfl) ?_; simp only [Act.put, List.setIfInBounds_toArray, List.set_cons_zero, List.set_cons_succ])
  refine wpKn_adds hs rfl (by rfl) (fun W hW hd => ?_) (fun v10 hv => ?_)
  · unfold Gives
    go_simp
    refine gives_call (J.out.2.2.2.2.2.1 W) ?_
    rintro e w3 ⟨rfl, k3⟩
    exact ⟨_, rfl, k3, rfl, trivial⟩
  obtain rfl : v10 = entV N ((x : Int) + 1) K := hv
  simp only [Act.put, List.setIfInBounds_toArray, List.set_cons_zero, List.set_cons_succ]
  refine wpKn_adds hs rfl (by rfl) (fun W hW hd => ?_) (fun v11 hv => ?_)
  · unfold Gives
    go_simp
    refine gives_call (J.out.2.2.2.2.2.2.2.1 W) ?_
    rintro e w3 ⟨u, rfl, k3, b3⟩
    exact ⟨_, rfl, k3, b3.form, _, _, b3.bs (Nat.le_refl _)⟩
  obtain ⟨a11, c11, rfl⟩ : ∃ a c, v11 = .slice a M.length c := hv
  simp only [Act.put, List.setIfInBounds_toArray, List.set_cons_zero, List.set_cons_succ]
  refine wpKn_adds hs rfl (by rfl) (fun W hW hd => ?_) (fun v12 hv => ?_)
  · unfold Gives
    obtain ⟨lo1, hi1, h1⟩ : ∃ lo hi, Bs W lo hi (.slice a11 M.length c11) M := hd 11 (List.Mem.head _)
    have hcv := cvBytes h1
    go_simp
    exact ⟨Kept.refl _ _, rfl, trivial⟩
  obtain rfl : v12 = .string ⟨M.toArray⟩ := hv
  simp only [Act.put, List.setIfInBounds_toArray, List.set_cons_zero, List.set_cons_succ]
  iterate 1 (refine wpPar_pure rfl (by rfl) _ (fun W hW => by
      have c0 := hc0 W hW
      have c1 := hc1 W hW
      have c2 := hc2 W hW
      have c3 := hc3 W hW
      have c4 := hc4 W hW
      have c5 := hc5 W hW
      have d0 := hd0 W hW
      have d1 := hd1 W hW
      have d2 := hd2 W hW
      have d3 := hd3 W hW
      have d4 := hd4 W hW
      have d5 := hd5 W hW
      go_simp
      exact rfl) ?_; simp only [Act.put, List.setIfInBounds_toArray, List.set_cons_zero, List.set_cons_succ])
  refine wpKn_adds hs rfl (by rfl) (fun W hW hd => ?_) (fun v14 hv => ?_)
  · unfold Gives
    go_simp
    refine gives_call (J.out.2.2.2.2.2.2.1 W) ?_
    rintro e w3 ⟨rfl, k3⟩
    exact ⟨_, rfl, k3, rfl, trivial⟩
  obtain rfl : v14 = entV N ((x : Int) + 1) K := hv
  simp only [Act.put, List.setIfInBounds_toArray, List.set_cons_zero, List.set_cons_succ]
  refine wpKn_adds hs rfl (by rfl) (fun W hW hd => ?_) (fun v15 hv => ?_)
  · unfold Gives
    go_simp
    refine gives_call (J.out.2.2.2.2.2.2.2.1 W) ?_
    rintro e w3 ⟨u, rfl, k3, b3⟩
    exact ⟨_, rfl, k3, b3.form, _, _, b3.bs (Nat.le_refl _)⟩
  obtain ⟨a15, c15, rfl⟩ : ∃ a c, v15 = .slice a M.length c := hv
  simp only [Act.put, List.setIfInBounds_toArray, List.set_cons_zero, List.set_cons_succ]
  refine wpKn_adds hs rfl (by rfl) (fun W hW hd => ?_) (fun v16 hv => ?_)
  · unfold Gives
    obtain ⟨lo1, hi1, h1⟩ : ∃ lo hi, Bs W lo hi (.slice a15 M.length c15) M := hd 15 (List.Mem.head _)
    have hcv := cvBytes h1
    go_simp
    exact ⟨Kept.refl _ _, rfl, trivial⟩
  obtain rfl : v16 = .string ⟨M.toArray⟩ := hv
  simp only [Act.put, List.setIfInBounds_toArray, List.set_cons_zero, List.set_cons_succ]
  iterate 4 (refine wpPar_pure rfl (by rfl) _ (fun W hW => by
      have c0 := hc0 W hW
      have c1 := hc1 W hW
      have c2 := hc2 W hW
      have c3 := hc3 W hW
      have c4 := hc4 W hW
      have c5 := hc5 W hW
      have d0 := hd0 W hW
      have d1 := hd1 W hW
      have d2 := hd2 W hW
      have d3 := hd3 W hW
      have d4 := hd4 W hW
      have d5 := hd5 W hW
      go_simp
      exact rfl) ?_; simp only [Act.put, List.setIfInBounds_toArray, List.set_cons_zero, List.set_cons_succ])
  refine wpKn_adds hs rfl (by rfl) (fun W hW hd => ?_) (fun v21 hv => ?_)
  · unfold Gives
    go_simp
    refine gives_call (J.out.2.2.2.2.2.2.2.2 W) ?_
    rintro e w3 ⟨rfl, k3⟩
    exact ⟨_, rfl, k3, rfl, trivial⟩
  obtain rfl : v21 = .bool true := hv
  simp only [Act.put, List.setIfInBounds_toArray, List.set_cons_zero, List.set_cons_succ]
  iterate 3 (refine wpPar_pure rfl (by rfl) _ (fun W hW => by
      go_simp
      exact rfl) ?_; simp only [Act.put, List.setIfInBounds_toArray, List.set_cons_zero, List.set_cons_succ])
  iterate 2 (refine wpPar_skip (by rfl) ?_; simp only [Act.put, List.setIfInBounds_toArray, List.set_cons_zero, List.set_cons_succ])
  iterate 4 (refine wpPar_pure rfl (by rfl) _ (fun W hW => by
      go_simp
      exact rfl) ?_; simp only [Act.put, List.setIfInBounds_toArray, List.set_cons_zero, List.set_cons_succ])
  refine wpPar_nil (fun W hW _ => ?_)
  have k05 := k04.then hW (fun _ _ h => h)
  clear hc0 hc1 hc2 hc3 hc4 hc5 hd0 hd1 hd2 hd3 hd4 hd5 hs k04 hW
  go_wp2
  go_ret
  exact ⟨rfl, k05⟩

set_option maxRecDepth 100000 in
set_option maxHeartbeats 4000000 in
theorem class_b1 (kk : Nat) (x ver : Nat) (hx : (ver : Int) % 5 = (x : Int)) (_h1 : 1 ≤ x) (_h2 : x ≤ 4) (w : World) : Calls Try.prog 6 #[.int .u8 kk, .int .u8 ver, .int .i64 1] w fun e w' => e = .returned (.bool true) ∧ Kept None w w' := by
  have hN := Seat.nameS_size kk
  have j0 := fun w => Seat.name kk w
  have j1 := fun w => Seat.update (Seat.nameS kk) ((x : Int) + 1) 0 0 w hN.2 (by omega) (by omega)
  have j2 := fun w => Seat.key (Seat.nameS kk) (x : Int) false w (by omega)
  have hq : Seat.req (Seat.nameS kk) ((x : Int) + 1) 0 0 = ⟨Seat.nameS kk, ((x : Int) + 1), Seat.keyN (Seat.nameS kk) ((x : Int) + 1) false, 0, sigR (Seat.secN (Seat.nameS kk) (x : Int) false) (msgB (Seat.nameS kk) ((x : Int) + 1) (Seat.keyN (Seat.nameS kk) ((x : Int) + 1) false)), sigS (Seat.secN (Seat.nameS kk) (x : Int) false) (msgB (Seat.nameS kk) ((x : Int) + 1) (Seat.keyN (Seat.nameS kk) ((x : Int) + 1) false))⟩ := by
    have e1 : max ((((x : Int) + 1) : Int) - 1) 1 = (x : Int) := by omega
    show Seat.reqB (Seat.nameS kk) ((x : Int) + 1) 0 false false false = _
    unfold Seat.reqB Seat.byN
    rw [e1]
    rfl
  rw [hq] at j1
  clear hq
  have hkey : Seat.keyN (Seat.nameS kk) (x : Int) false = pubN (Seat.secN (Seat.nameS kk) (x : Int) false) := rfl
  rw [hkey] at j2
  clear hkey
  have kl := Seat.keyN_lt (Seat.nameS kk) ((x : Int) + 1) false
  have kp : 1 ≤ Seat.keyN (Seat.nameS kk) ((x : Int) + 1) false := pubN_pos _
  have kq : Seat.keyN (Seat.nameS kk) ((x : Int) + 1) false < prime61 := pubN_lt _
  obtain ⟨N, hNN⟩ : ∃ N, N = Seat.nameS kk := ⟨_, rfl⟩
  rw [← hNN] at hN j0 j1 j2 kl kp kq
  obtain ⟨K, hK⟩ : ∃ K, K = Seat.keyN N ((x : Int) + 1) false := ⟨_, rfl⟩
  rw [← hK] at j1 kl kp kq
  obtain ⟨B, hB⟩ : ∃ B, B = Seat.secN N (x : Int) false := ⟨_, rfl⟩
  rw [← hB] at j1 j2
  have hchk := check_sign B (msgB N ((x : Int) + 1) K)
  obtain ⟨R, hR⟩ : ∃ R, R = sigR B (msgB N ((x : Int) + 1) K) := ⟨_, rfl⟩
  obtain ⟨S, hS⟩ : ∃ S, S = sigS B (msgB N ((x : Int) + 1) K) := ⟨_, rfl⟩
  obtain ⟨Y, hY⟩ : ∃ Y, Y = pubN B := ⟨_, rfl⟩
  rw [← hR, ← hS] at j1 hchk
  rw [← hY] at j2 hchk
  have j3 := fun w => Up.check N ((x : Int) + 1) 0 K R S Y w (by omega) kl
  have j4 := fun w => Up.check N ((x : Int) + 1) 1 K R S Y w (by omega) kl
  rw [hchk] at j3 j4
  have j5 := fun w => Up.entry N ((x : Int) + 1) 0 K R S w
  have j6 := fun w => Up.entry N ((x : Int) + 1) 1 K R S w
  have j7 := fun w => Up.message N ((x : Int) + 1) K w (by omega) kl
  have j8 := fun w => Up.right N ((x : Int) + 1) 1 K R S w
  have hr : rightB N.size ((x : Int) + 1) K 1 = true := by
    rw [rightB_iff]; omega
  rw [hr] at j8
  obtain ⟨M, hM⟩ : ∃ M, M = msgB N ((x : Int) + 1) K := ⟨_, rfl⟩
  rw [← hM] at j7
  have J := hid (And.intro j0 (And.intro j1 (And.intro j2 (And.intro j3 (And.intro j4 (And.intro j5 (And.intro j6 (And.intro j7 j8))))))))
  clear j0 j1 j2 j3 j4 j5 j6 j7 j8 hN kl kp kq hNN hK hB hR hS hY hchk hr hM
  go_enter Try.func6, Try.ntmps6
  go_wp2_with fail
  refine (known5 _).mono ?_
  rintro e w0 ⟨rfl, k0⟩
  go_wp2_with fail
  refine (J.out.1 _).mono ?_
  rintro e w1 ⟨rfl, k1⟩
  have k01 := k0.trans k1
  clear k0 k1
  go_wp2_with fail
  refine (J.out.2.1 _).mono ?_
  rintro e w2 ⟨rfl, k2⟩
  have k02 := k01.trans k2
  clear k01 k2
  go_wp2_with fail
  have k03 : Kept None w ((w2.alloc (.cells #[.string N, .int .i64 ((x : Int) + 1), .int .u64 (K : Int), .int .i64 0, .int .u64 (R : Int), .int .u64 (S : Int)] 26)).alloc (.cells #[.string N, .int .i64 ((x : Int) + 1), .int .u64 (K : Int), .int .i64 1, .int .u64 (R : Int), .int .u64 (S : Int)] 26)) := (k02.alloc _).alloc _
  have hU : Blk ((w2.alloc (.cells #[.string N, .int .i64 ((x : Int) + 1), .int .u64 (K : Int), .int .i64 0, .int .u64 (R : Int), .int .u64 (S : Int)] 26)).alloc (.cells #[.string N, .int .i64 ((x : Int) + 1), .int .u64 (K : Int), .int .i64 1, .int .u64 (R : Int), .int .u64 (S : Int)] 26)) w2.heap.size #[.string N, .int .i64 ((x : Int) + 1), .int .u64 (K : Int), .int .i64 0, .int .u64 (R : Int), .int .u64 (S : Int)] 26 := (Blk.new w2 _ _).alloc _
  have hW := Blk.new2 w2 (.cells #[.string N, .int .i64 ((x : Int) + 1), .int .u64 (K : Int), .int .i64 0, .int .u64 (R : Int), .int .u64 (S : Int)] 26) #[.string N, .int .i64 ((x : Int) + 1), .int .u64 (K : Int), .int .i64 1, .int .u64 (R : Int), .int .u64 (S : Int)] 26
  refine (J.out.2.2.1 _).mono ?_
  rintro e wy ⟨rfl, ky⟩
  have k04 := k03.trans ky
  have hUy := hU.kept ky (fun h => h)
  have hWy := hW.kept ky (fun h => h)
  clear k02 k03 hU hW ky
  have hc0 : ∀ W, Kept None wy W → W.cell? ⟨w2.heap.size, 0, none⟩ = some (.string N) := fun W hW => (hUy.kept hW (fun h => h)).cell 0
  have hd0 : ∀ W, Kept None wy W → W.cell? ⟨w2.heap.size + 1, 0, none⟩ = some (.string N) := fun W hW => (hWy.kept hW (fun h => h)).cell 0
  have hc1 : ∀ W, Kept None wy W → W.cell? ⟨w2.heap.size, 1, none⟩ = some (.int .i64 ((x : Int) + 1)) := fun W hW => (hUy.kept hW (fun h => h)).cell 1
  have hd1 : ∀ W, Kept None wy W → W.cell? ⟨w2.heap.size + 1, 1, none⟩ = some (.int .i64 ((x : Int) + 1)) := fun W hW => (hWy.kept hW (fun h => h)).cell 1
  have hc2 : ∀ W, Kept None wy W → W.cell? ⟨w2.heap.size, 2, none⟩ = some (.int .u64 (K : Int)) := fun W hW => (hUy.kept hW (fun h => h)).cell 2
  have hd2 : ∀ W, Kept None wy W → W.cell? ⟨w2.heap.size + 1, 2, none⟩ = some (.int .u64 (K : Int)) := fun W hW => (hWy.kept hW (fun h => h)).cell 2
  have hc3 : ∀ W, Kept None wy W → W.cell? ⟨w2.heap.size, 3, none⟩ = some (.int .i64 0) := fun W hW => (hUy.kept hW (fun h => h)).cell 3
  have hd3 : ∀ W, Kept None wy W → W.cell? ⟨w2.heap.size + 1, 3, none⟩ = some (.int .i64 1) := fun W hW => (hWy.kept hW (fun h => h)).cell 3
  have hc4 : ∀ W, Kept None wy W → W.cell? ⟨w2.heap.size, 4, none⟩ = some (.int .u64 (R : Int)) := fun W hW => (hUy.kept hW (fun h => h)).cell 4
  have hd4 : ∀ W, Kept None wy W → W.cell? ⟨w2.heap.size + 1, 4, none⟩ = some (.int .u64 (R : Int)) := fun W hW => (hWy.kept hW (fun h => h)).cell 4
  have hc5 : ∀ W, Kept None wy W → W.cell? ⟨w2.heap.size, 5, none⟩ = some (.int .u64 (S : Int)) := fun W hW => (hUy.kept hW (fun h => h)).cell 5
  have hd5 : ∀ W, Kept None wy W → W.cell? ⟨w2.heap.size + 1, 5, none⟩ = some (.int .u64 (S : Int)) := fun W hW => (hWy.kept hW (fun h => h)).cell 5
  clear hUy hWy
  go_wp2_with fail
  have hs : Steady [.val 2 (.bool true), .val 6 (.bool true), .val 10 (entV N ((x : Int) + 1) K), .bytes 11 (M), .val 12 (.string ⟨M.toArray⟩) [11], .val 14 (entV N ((x : Int) + 1) K), .bytes 15 (M), .val 16 (.string ⟨M.toArray⟩) [15], .val 21 (.bool true)] := Steady.val (Steady.val (Steady.val (Steady.bytes (Steady.val (Steady.val (Steady.bytes (Steady.val (Steady.val (Steady.nil)))))))))
  refine wp_region_kn wy _ hs (Kept.refl _ _) (by kernel_rfl) (by kernel_rfl) (by kernel_rfl) ?_
  iterate 2 (refine wpPar_pure rfl (by rfl) _ (fun W hW => by
      have c0 := hc0 W hW
      have c1 := hc1 W hW
      have c2 := hc2 W hW
      have c3 := hc3 W hW
      have c4 := hc4 W hW
      have c5 := hc5 W hW
      have d0 := hd0 W hW
      have d1 := hd1 W hW
      have d2 := hd2 W hW
      have d3 := hd3 W hW
      have d4 := hd4 W hW
      have d5 := hd5 W hW
      go_simp
      exact rfl) ?_; simp only [Act.put, List.setIfInBounds_toArray, List.set_cons_zero, List.set_cons_succ])
  refine wpKn_adds hs rfl (by rfl) (fun W hW hd => ?_) (fun v2 hv => ?_)
  · unfold Gives
    go_simp
    refine gives_call (J.out.2.2.2.1 W) ?_
    rintro e w3 ⟨rfl, k3⟩
    exact ⟨_, rfl, k3, rfl, trivial⟩
  obtain rfl : v2 = .bool true := hv
  simp only [Act.put, List.setIfInBounds_toArray, List.set_cons_zero, List.set_cons_succ]
  iterate 3 (refine wpPar_pure rfl (by rfl) _ (fun W hW => by
      have c0 := hc0 W hW
      have c1 := hc1 W hW
      have c2 := hc2 W hW
      have c3 := hc3 W hW
      have c4 := hc4 W hW
      have c5 := hc5 W hW
      have d0 := hd0 W hW
      have d1 := hd1 W hW
      have d2 := hd2 W hW
      have d3 := hd3 W hW
      have d4 := hd4 W hW
      have d5 := hd5 W hW
      go_simp
      exact rfl) ?_; simp only [Act.put, List.setIfInBounds_toArray, List.set_cons_zero, List.set_cons_succ])
  refine wpKn_adds hs rfl (by rfl) (fun W hW hd => ?_) (fun v6 hv => ?_)
  · unfold Gives
    go_simp
    refine gives_call (J.out.2.2.2.2.1 W) ?_
    rintro e w3 ⟨rfl, k3⟩
    exact ⟨_, rfl, k3, rfl, trivial⟩
  obtain rfl : v6 = .bool true := hv
  simp only [Act.put, List.setIfInBounds_toArray, List.set_cons_zero, List.set_cons_succ]
  iterate 3 (refine wpPar_pure rfl (by rfl) _ (fun W hW => by
      have c0 := hc0 W hW
      have c1 := hc1 W hW
      have c2 := hc2 W hW
      have c3 := hc3 W hW
      have c4 := hc4 W hW
      have c5 := hc5 W hW
      have d0 := hd0 W hW
      have d1 := hd1 W hW
      have d2 := hd2 W hW
      have d3 := hd3 W hW
      have d4 := hd4 W hW
      have d5 := hd5 W hW
      go_simp
      exact rfl) ?_; simp only [Act.put, List.setIfInBounds_toArray, List.set_cons_zero, List.set_cons_succ])
  refine wpKn_adds hs rfl (by rfl) (fun W hW hd => ?_) (fun v10 hv => ?_)
  · unfold Gives
    go_simp
    refine gives_call (J.out.2.2.2.2.2.1 W) ?_
    rintro e w3 ⟨rfl, k3⟩
    exact ⟨_, rfl, k3, rfl, trivial⟩
  obtain rfl : v10 = entV N ((x : Int) + 1) K := hv
  simp only [Act.put, List.setIfInBounds_toArray, List.set_cons_zero, List.set_cons_succ]
  refine wpKn_adds hs rfl (by rfl) (fun W hW hd => ?_) (fun v11 hv => ?_)
  · unfold Gives
    go_simp
    refine gives_call (J.out.2.2.2.2.2.2.2.1 W) ?_
    rintro e w3 ⟨u, rfl, k3, b3⟩
    exact ⟨_, rfl, k3, b3.form, _, _, b3.bs (Nat.le_refl _)⟩
  obtain ⟨a11, c11, rfl⟩ : ∃ a c, v11 = .slice a M.length c := hv
  simp only [Act.put, List.setIfInBounds_toArray, List.set_cons_zero, List.set_cons_succ]
  refine wpKn_adds hs rfl (by rfl) (fun W hW hd => ?_) (fun v12 hv => ?_)
  · unfold Gives
    obtain ⟨lo1, hi1, h1⟩ : ∃ lo hi, Bs W lo hi (.slice a11 M.length c11) M := hd 11 (List.Mem.head _)
    have hcv := cvBytes h1
    go_simp
    exact ⟨Kept.refl _ _, rfl, trivial⟩
  obtain rfl : v12 = .string ⟨M.toArray⟩ := hv
  simp only [Act.put, List.setIfInBounds_toArray, List.set_cons_zero, List.set_cons_succ]
  iterate 1 (refine wpPar_pure rfl (by rfl) _ (fun W hW => by
      have c0 := hc0 W hW
      have c1 := hc1 W hW
      have c2 := hc2 W hW
      have c3 := hc3 W hW
      have c4 := hc4 W hW
      have c5 := hc5 W hW
      have d0 := hd0 W hW
      have d1 := hd1 W hW
      have d2 := hd2 W hW
      have d3 := hd3 W hW
      have d4 := hd4 W hW
      have d5 := hd5 W hW
      go_simp
      exact rfl) ?_; simp only [Act.put, List.setIfInBounds_toArray, List.set_cons_zero, List.set_cons_succ])
  refine wpKn_adds hs rfl (by rfl) (fun W hW hd => ?_) (fun v14 hv => ?_)
  · unfold Gives
    go_simp
    refine gives_call (J.out.2.2.2.2.2.2.1 W) ?_
    rintro e w3 ⟨rfl, k3⟩
    exact ⟨_, rfl, k3, rfl, trivial⟩
  obtain rfl : v14 = entV N ((x : Int) + 1) K := hv
  simp only [Act.put, List.setIfInBounds_toArray, List.set_cons_zero, List.set_cons_succ]
  refine wpKn_adds hs rfl (by rfl) (fun W hW hd => ?_) (fun v15 hv => ?_)
  · unfold Gives
    go_simp
    refine gives_call (J.out.2.2.2.2.2.2.2.1 W) ?_
    rintro e w3 ⟨u, rfl, k3, b3⟩
    exact ⟨_, rfl, k3, b3.form, _, _, b3.bs (Nat.le_refl _)⟩
  obtain ⟨a15, c15, rfl⟩ : ∃ a c, v15 = .slice a M.length c := hv
  simp only [Act.put, List.setIfInBounds_toArray, List.set_cons_zero, List.set_cons_succ]
  refine wpKn_adds hs rfl (by rfl) (fun W hW hd => ?_) (fun v16 hv => ?_)
  · unfold Gives
    obtain ⟨lo1, hi1, h1⟩ : ∃ lo hi, Bs W lo hi (.slice a15 M.length c15) M := hd 15 (List.Mem.head _)
    have hcv := cvBytes h1
    go_simp
    exact ⟨Kept.refl _ _, rfl, trivial⟩
  obtain rfl : v16 = .string ⟨M.toArray⟩ := hv
  simp only [Act.put, List.setIfInBounds_toArray, List.set_cons_zero, List.set_cons_succ]
  iterate 4 (refine wpPar_pure rfl (by rfl) _ (fun W hW => by
      have c0 := hc0 W hW
      have c1 := hc1 W hW
      have c2 := hc2 W hW
      have c3 := hc3 W hW
      have c4 := hc4 W hW
      have c5 := hc5 W hW
      have d0 := hd0 W hW
      have d1 := hd1 W hW
      have d2 := hd2 W hW
      have d3 := hd3 W hW
      have d4 := hd4 W hW
      have d5 := hd5 W hW
      go_simp
      exact rfl) ?_; simp only [Act.put, List.setIfInBounds_toArray, List.set_cons_zero, List.set_cons_succ])
  refine wpKn_adds hs rfl (by rfl) (fun W hW hd => ?_) (fun v21 hv => ?_)
  · unfold Gives
    go_simp
    refine gives_call (J.out.2.2.2.2.2.2.2.2 W) ?_
    rintro e w3 ⟨rfl, k3⟩
    exact ⟨_, rfl, k3, rfl, trivial⟩
  obtain rfl : v21 = .bool true := hv
  simp only [Act.put, List.setIfInBounds_toArray, List.set_cons_zero, List.set_cons_succ]
  iterate 9 (refine wpPar_pure rfl (by rfl) _ (fun W hW => by
      go_simp
      exact rfl) ?_; simp only [Act.put, List.setIfInBounds_toArray, List.set_cons_zero, List.set_cons_succ])
  refine wpPar_nil (fun W hW _ => ?_)
  have k05 := k04.then hW (fun _ _ h => h)
  clear hc0 hc1 hc2 hc3 hc4 hc5 hd0 hd1 hd2 hd3 hd4 hd5 hs k04 hW
  go_wp2
  go_ret
  exact ⟨rfl, k05⟩

set_option maxRecDepth 100000 in
set_option maxHeartbeats 4000000 in
theorem class_bo (kk : Nat) (x ver : Nat) (hx : (ver : Int) % 5 = (x : Int)) (_h1 : 1 ≤ x) (_h2 : x ≤ 4) (cl : Int) (g0 : cl ≠ 0) (g1 : cl ≠ 1) (w : World) : Calls Try.prog 6 #[.int .u8 kk, .int .u8 ver, .int .i64 cl] w fun e w' => e = .returned (.bool true) ∧ Kept None w w' := by
  have hN := Seat.nameS_size kk
  have gb0 : (cl == 0) = false := by rw [beq_eq_false_iff_ne]; exact g0
  have gb1 : (cl == 1) = false := by rw [beq_eq_false_iff_ne]; exact g1
  have j0 := fun w => Seat.name kk w
  have j1 := fun w => Seat.update (Seat.nameS kk) ((x : Int) + 1) 0 0 w hN.2 (by omega) (by omega)
  have j2 := fun w => Seat.key (Seat.nameS kk) (x : Int) false w (by omega)
  have hq : Seat.req (Seat.nameS kk) ((x : Int) + 1) 0 0 = ⟨Seat.nameS kk, ((x : Int) + 1), Seat.keyN (Seat.nameS kk) ((x : Int) + 1) false, 0, sigR (Seat.secN (Seat.nameS kk) (x : Int) false) (msgB (Seat.nameS kk) ((x : Int) + 1) (Seat.keyN (Seat.nameS kk) ((x : Int) + 1) false)), sigS (Seat.secN (Seat.nameS kk) (x : Int) false) (msgB (Seat.nameS kk) ((x : Int) + 1) (Seat.keyN (Seat.nameS kk) ((x : Int) + 1) false))⟩ := by
    have e1 : max ((((x : Int) + 1) : Int) - 1) 1 = (x : Int) := by omega
    show Seat.reqB (Seat.nameS kk) ((x : Int) + 1) 0 false false false = _
    unfold Seat.reqB Seat.byN
    rw [e1]
    rfl
  rw [hq] at j1
  clear hq
  have hkey : Seat.keyN (Seat.nameS kk) (x : Int) false = pubN (Seat.secN (Seat.nameS kk) (x : Int) false) := rfl
  rw [hkey] at j2
  clear hkey
  have kl := Seat.keyN_lt (Seat.nameS kk) ((x : Int) + 1) false
  have kp : 1 ≤ Seat.keyN (Seat.nameS kk) ((x : Int) + 1) false := pubN_pos _
  have kq : Seat.keyN (Seat.nameS kk) ((x : Int) + 1) false < prime61 := pubN_lt _
  obtain ⟨N, hNN⟩ : ∃ N, N = Seat.nameS kk := ⟨_, rfl⟩
  rw [← hNN] at hN j0 j1 j2 kl kp kq
  obtain ⟨K, hK⟩ : ∃ K, K = Seat.keyN N ((x : Int) + 1) false := ⟨_, rfl⟩
  rw [← hK] at j1 kl kp kq
  obtain ⟨B, hB⟩ : ∃ B, B = Seat.secN N (x : Int) false := ⟨_, rfl⟩
  rw [← hB] at j1 j2
  have hchk := check_sign B (msgB N ((x : Int) + 1) K)
  obtain ⟨R, hR⟩ : ∃ R, R = sigR B (msgB N ((x : Int) + 1) K) := ⟨_, rfl⟩
  obtain ⟨S, hS⟩ : ∃ S, S = sigS B (msgB N ((x : Int) + 1) K) := ⟨_, rfl⟩
  obtain ⟨Y, hY⟩ : ∃ Y, Y = pubN B := ⟨_, rfl⟩
  rw [← hR, ← hS] at j1 hchk
  rw [← hY] at j2 hchk
  have j3 := fun w => Up.check N ((x : Int) + 1) 0 K R S Y w (by omega) kl
  have j4 := fun w => Up.check N ((x : Int) + 1) cl K R S Y w (by omega) kl
  rw [hchk] at j3 j4
  have j5 := fun w => Up.entry N ((x : Int) + 1) 0 K R S w
  have j6 := fun w => Up.entry N ((x : Int) + 1) cl K R S w
  have j7 := fun w => Up.message N ((x : Int) + 1) K w (by omega) kl
  have j8 := fun w => Up.right N ((x : Int) + 1) cl K R S w
  have hr : rightB N.size ((x : Int) + 1) K cl = false := by
    exact rightB_no (by omega)
  rw [hr] at j8
  obtain ⟨M, hM⟩ : ∃ M, M = msgB N ((x : Int) + 1) K := ⟨_, rfl⟩
  rw [← hM] at j7
  have J := hid (And.intro j0 (And.intro j1 (And.intro j2 (And.intro j3 (And.intro j4 (And.intro j5 (And.intro j6 (And.intro j7 j8))))))))
  clear j0 j1 j2 j3 j4 j5 j6 j7 j8 hN kl kp kq hNN hK hB hR hS hY hchk hr hM g0 g1
  go_enter Try.func6, Try.ntmps6
  go_wp2_with fail
  refine (known5 _).mono ?_
  rintro e w0 ⟨rfl, k0⟩
  go_wp2_with fail
  refine (J.out.1 _).mono ?_
  rintro e w1 ⟨rfl, k1⟩
  have k01 := k0.trans k1
  clear k0 k1
  go_wp2_with fail
  refine (J.out.2.1 _).mono ?_
  rintro e w2 ⟨rfl, k2⟩
  have k02 := k01.trans k2
  clear k01 k2
  go_wp2_with fail
  have k03 : Kept None w ((w2.alloc (.cells #[.string N, .int .i64 ((x : Int) + 1), .int .u64 (K : Int), .int .i64 0, .int .u64 (R : Int), .int .u64 (S : Int)] 26)).alloc (.cells #[.string N, .int .i64 ((x : Int) + 1), .int .u64 (K : Int), .int .i64 cl, .int .u64 (R : Int), .int .u64 (S : Int)] 26)) := (k02.alloc _).alloc _
  have hU : Blk ((w2.alloc (.cells #[.string N, .int .i64 ((x : Int) + 1), .int .u64 (K : Int), .int .i64 0, .int .u64 (R : Int), .int .u64 (S : Int)] 26)).alloc (.cells #[.string N, .int .i64 ((x : Int) + 1), .int .u64 (K : Int), .int .i64 cl, .int .u64 (R : Int), .int .u64 (S : Int)] 26)) w2.heap.size #[.string N, .int .i64 ((x : Int) + 1), .int .u64 (K : Int), .int .i64 0, .int .u64 (R : Int), .int .u64 (S : Int)] 26 := (Blk.new w2 _ _).alloc _
  have hW := Blk.new2 w2 (.cells #[.string N, .int .i64 ((x : Int) + 1), .int .u64 (K : Int), .int .i64 0, .int .u64 (R : Int), .int .u64 (S : Int)] 26) #[.string N, .int .i64 ((x : Int) + 1), .int .u64 (K : Int), .int .i64 cl, .int .u64 (R : Int), .int .u64 (S : Int)] 26
  refine (J.out.2.2.1 _).mono ?_
  rintro e wy ⟨rfl, ky⟩
  have k04 := k03.trans ky
  have hUy := hU.kept ky (fun h => h)
  have hWy := hW.kept ky (fun h => h)
  clear k02 k03 hU hW ky
  have hc0 : ∀ W, Kept None wy W → W.cell? ⟨w2.heap.size, 0, none⟩ = some (.string N) := fun W hW => (hUy.kept hW (fun h => h)).cell 0
  have hd0 : ∀ W, Kept None wy W → W.cell? ⟨w2.heap.size + 1, 0, none⟩ = some (.string N) := fun W hW => (hWy.kept hW (fun h => h)).cell 0
  have hc1 : ∀ W, Kept None wy W → W.cell? ⟨w2.heap.size, 1, none⟩ = some (.int .i64 ((x : Int) + 1)) := fun W hW => (hUy.kept hW (fun h => h)).cell 1
  have hd1 : ∀ W, Kept None wy W → W.cell? ⟨w2.heap.size + 1, 1, none⟩ = some (.int .i64 ((x : Int) + 1)) := fun W hW => (hWy.kept hW (fun h => h)).cell 1
  have hc2 : ∀ W, Kept None wy W → W.cell? ⟨w2.heap.size, 2, none⟩ = some (.int .u64 (K : Int)) := fun W hW => (hUy.kept hW (fun h => h)).cell 2
  have hd2 : ∀ W, Kept None wy W → W.cell? ⟨w2.heap.size + 1, 2, none⟩ = some (.int .u64 (K : Int)) := fun W hW => (hWy.kept hW (fun h => h)).cell 2
  have hc3 : ∀ W, Kept None wy W → W.cell? ⟨w2.heap.size, 3, none⟩ = some (.int .i64 0) := fun W hW => (hUy.kept hW (fun h => h)).cell 3
  have hd3 : ∀ W, Kept None wy W → W.cell? ⟨w2.heap.size + 1, 3, none⟩ = some (.int .i64 cl) := fun W hW => (hWy.kept hW (fun h => h)).cell 3
  have hc4 : ∀ W, Kept None wy W → W.cell? ⟨w2.heap.size, 4, none⟩ = some (.int .u64 (R : Int)) := fun W hW => (hUy.kept hW (fun h => h)).cell 4
  have hd4 : ∀ W, Kept None wy W → W.cell? ⟨w2.heap.size + 1, 4, none⟩ = some (.int .u64 (R : Int)) := fun W hW => (hWy.kept hW (fun h => h)).cell 4
  have hc5 : ∀ W, Kept None wy W → W.cell? ⟨w2.heap.size, 5, none⟩ = some (.int .u64 (S : Int)) := fun W hW => (hUy.kept hW (fun h => h)).cell 5
  have hd5 : ∀ W, Kept None wy W → W.cell? ⟨w2.heap.size + 1, 5, none⟩ = some (.int .u64 (S : Int)) := fun W hW => (hWy.kept hW (fun h => h)).cell 5
  clear hUy hWy
  go_wp2_with fail
  have hs : Steady [.val 2 (.bool true), .val 6 (.bool true), .val 10 (entV N ((x : Int) + 1) K), .bytes 11 (M), .val 12 (.string ⟨M.toArray⟩) [11], .val 14 (entV N ((x : Int) + 1) K), .bytes 15 (M), .val 16 (.string ⟨M.toArray⟩) [15], .val 21 (.bool false)] := Steady.val (Steady.val (Steady.val (Steady.bytes (Steady.val (Steady.val (Steady.bytes (Steady.val (Steady.val (Steady.nil)))))))))
  refine wp_region_kn wy _ hs (Kept.refl _ _) (by kernel_rfl) (by kernel_rfl) (by kernel_rfl) ?_
  iterate 2 (refine wpPar_pure rfl (by rfl) _ (fun W hW => by
      have c0 := hc0 W hW
      have c1 := hc1 W hW
      have c2 := hc2 W hW
      have c3 := hc3 W hW
      have c4 := hc4 W hW
      have c5 := hc5 W hW
      have d0 := hd0 W hW
      have d1 := hd1 W hW
      have d2 := hd2 W hW
      have d3 := hd3 W hW
      have d4 := hd4 W hW
      have d5 := hd5 W hW
      go_simp
      exact rfl) ?_; simp only [Act.put, List.setIfInBounds_toArray, List.set_cons_zero, List.set_cons_succ])
  refine wpKn_adds hs rfl (by rfl) (fun W hW hd => ?_) (fun v2 hv => ?_)
  · unfold Gives
    go_simp
    refine gives_call (J.out.2.2.2.1 W) ?_
    rintro e w3 ⟨rfl, k3⟩
    exact ⟨_, rfl, k3, rfl, trivial⟩
  obtain rfl : v2 = .bool true := hv
  simp only [Act.put, List.setIfInBounds_toArray, List.set_cons_zero, List.set_cons_succ]
  iterate 3 (refine wpPar_pure rfl (by rfl) _ (fun W hW => by
      have c0 := hc0 W hW
      have c1 := hc1 W hW
      have c2 := hc2 W hW
      have c3 := hc3 W hW
      have c4 := hc4 W hW
      have c5 := hc5 W hW
      have d0 := hd0 W hW
      have d1 := hd1 W hW
      have d2 := hd2 W hW
      have d3 := hd3 W hW
      have d4 := hd4 W hW
      have d5 := hd5 W hW
      go_simp
      exact rfl) ?_; simp only [Act.put, List.setIfInBounds_toArray, List.set_cons_zero, List.set_cons_succ])
  refine wpKn_adds hs rfl (by rfl) (fun W hW hd => ?_) (fun v6 hv => ?_)
  · unfold Gives
    go_simp
    refine gives_call (J.out.2.2.2.2.1 W) ?_
    rintro e w3 ⟨rfl, k3⟩
    exact ⟨_, rfl, k3, rfl, trivial⟩
  obtain rfl : v6 = .bool true := hv
  simp only [Act.put, List.setIfInBounds_toArray, List.set_cons_zero, List.set_cons_succ]
  iterate 3 (refine wpPar_pure rfl (by rfl) _ (fun W hW => by
      have c0 := hc0 W hW
      have c1 := hc1 W hW
      have c2 := hc2 W hW
      have c3 := hc3 W hW
      have c4 := hc4 W hW
      have c5 := hc5 W hW
      have d0 := hd0 W hW
      have d1 := hd1 W hW
      have d2 := hd2 W hW
      have d3 := hd3 W hW
      have d4 := hd4 W hW
      have d5 := hd5 W hW
      go_simp
      exact rfl) ?_; simp only [Act.put, List.setIfInBounds_toArray, List.set_cons_zero, List.set_cons_succ])
  refine wpKn_adds hs rfl (by rfl) (fun W hW hd => ?_) (fun v10 hv => ?_)
  · unfold Gives
    go_simp
    refine gives_call (J.out.2.2.2.2.2.1 W) ?_
    rintro e w3 ⟨rfl, k3⟩
    exact ⟨_, rfl, k3, rfl, trivial⟩
  obtain rfl : v10 = entV N ((x : Int) + 1) K := hv
  simp only [Act.put, List.setIfInBounds_toArray, List.set_cons_zero, List.set_cons_succ]
  refine wpKn_adds hs rfl (by rfl) (fun W hW hd => ?_) (fun v11 hv => ?_)
  · unfold Gives
    go_simp
    refine gives_call (J.out.2.2.2.2.2.2.2.1 W) ?_
    rintro e w3 ⟨u, rfl, k3, b3⟩
    exact ⟨_, rfl, k3, b3.form, _, _, b3.bs (Nat.le_refl _)⟩
  obtain ⟨a11, c11, rfl⟩ : ∃ a c, v11 = .slice a M.length c := hv
  simp only [Act.put, List.setIfInBounds_toArray, List.set_cons_zero, List.set_cons_succ]
  refine wpKn_adds hs rfl (by rfl) (fun W hW hd => ?_) (fun v12 hv => ?_)
  · unfold Gives
    obtain ⟨lo1, hi1, h1⟩ : ∃ lo hi, Bs W lo hi (.slice a11 M.length c11) M := hd 11 (List.Mem.head _)
    have hcv := cvBytes h1
    go_simp
    exact ⟨Kept.refl _ _, rfl, trivial⟩
  obtain rfl : v12 = .string ⟨M.toArray⟩ := hv
  simp only [Act.put, List.setIfInBounds_toArray, List.set_cons_zero, List.set_cons_succ]
  iterate 1 (refine wpPar_pure rfl (by rfl) _ (fun W hW => by
      have c0 := hc0 W hW
      have c1 := hc1 W hW
      have c2 := hc2 W hW
      have c3 := hc3 W hW
      have c4 := hc4 W hW
      have c5 := hc5 W hW
      have d0 := hd0 W hW
      have d1 := hd1 W hW
      have d2 := hd2 W hW
      have d3 := hd3 W hW
      have d4 := hd4 W hW
      have d5 := hd5 W hW
      go_simp
      exact rfl) ?_; simp only [Act.put, List.setIfInBounds_toArray, List.set_cons_zero, List.set_cons_succ])
  refine wpKn_adds hs rfl (by rfl) (fun W hW hd => ?_) (fun v14 hv => ?_)
  · unfold Gives
    go_simp
    refine gives_call (J.out.2.2.2.2.2.2.1 W) ?_
    rintro e w3 ⟨rfl, k3⟩
    exact ⟨_, rfl, k3, rfl, trivial⟩
  obtain rfl : v14 = entV N ((x : Int) + 1) K := hv
  simp only [Act.put, List.setIfInBounds_toArray, List.set_cons_zero, List.set_cons_succ]
  refine wpKn_adds hs rfl (by rfl) (fun W hW hd => ?_) (fun v15 hv => ?_)
  · unfold Gives
    go_simp
    refine gives_call (J.out.2.2.2.2.2.2.2.1 W) ?_
    rintro e w3 ⟨u, rfl, k3, b3⟩
    exact ⟨_, rfl, k3, b3.form, _, _, b3.bs (Nat.le_refl _)⟩
  obtain ⟨a15, c15, rfl⟩ : ∃ a c, v15 = .slice a M.length c := hv
  simp only [Act.put, List.setIfInBounds_toArray, List.set_cons_zero, List.set_cons_succ]
  refine wpKn_adds hs rfl (by rfl) (fun W hW hd => ?_) (fun v16 hv => ?_)
  · unfold Gives
    obtain ⟨lo1, hi1, h1⟩ : ∃ lo hi, Bs W lo hi (.slice a15 M.length c15) M := hd 15 (List.Mem.head _)
    have hcv := cvBytes h1
    go_simp
    exact ⟨Kept.refl _ _, rfl, trivial⟩
  obtain rfl : v16 = .string ⟨M.toArray⟩ := hv
  simp only [Act.put, List.setIfInBounds_toArray, List.set_cons_zero, List.set_cons_succ]
  iterate 4 (refine wpPar_pure rfl (by rfl) _ (fun W hW => by
      have c0 := hc0 W hW
      have c1 := hc1 W hW
      have c2 := hc2 W hW
      have c3 := hc3 W hW
      have c4 := hc4 W hW
      have c5 := hc5 W hW
      have d0 := hd0 W hW
      have d1 := hd1 W hW
      have d2 := hd2 W hW
      have d3 := hd3 W hW
      have d4 := hd4 W hW
      have d5 := hd5 W hW
      go_simp
      exact rfl) ?_; simp only [Act.put, List.setIfInBounds_toArray, List.set_cons_zero, List.set_cons_succ])
  refine wpKn_adds hs rfl (by rfl) (fun W hW hd => ?_) (fun v21 hv => ?_)
  · unfold Gives
    go_simp
    refine gives_call (J.out.2.2.2.2.2.2.2.2 W) ?_
    rintro e w3 ⟨rfl, k3⟩
    exact ⟨_, rfl, k3, rfl, trivial⟩
  obtain rfl : v21 = .bool false := hv
  simp only [Act.put, List.setIfInBounds_toArray, List.set_cons_zero, List.set_cons_succ]
  iterate 9 (refine wpPar_pure rfl (by rfl) _ (fun W hW => by
      go_simp
      exact rfl) ?_; simp only [Act.put, List.setIfInBounds_toArray, List.set_cons_zero, List.set_cons_succ])
  refine wpPar_nil (fun W hW _ => ?_)
  have k05 := k04.then hW (fun _ _ h => h)
  clear hc0 hc1 hc2 hc3 hc4 hc5 hd0 hd1 hd2 hd3 hd4 hd5 hs k04 hW
  go_wp2
  go_ret
  exact ⟨rfl, k05⟩
end Go.Proofs.Ytbckjkfdkgomiaa
