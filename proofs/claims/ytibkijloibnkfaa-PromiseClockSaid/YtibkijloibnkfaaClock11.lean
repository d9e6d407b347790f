/- postmarklaw11.PromiseClock: true. -/
import Derived.Test.YtibkijloibnkfaaKnown11
import Derived.Test.YtibkijloibnkfaaSeat10
namespace Go.Proofs.Ytibkijloibnkfaa
open Go.RowKit Go.Pm
namespace P11
set_option maxRecDepth 100000 in
set_option maxHeartbeats 8000000 in
theorem clock (k x : Nat) (d : Int) (w : World) (hk : k < 256) (_hx : x < 18446744073709551616) (h0 : -128 ≤ d) (h1 : d ≤ 127) : Calls Try.prog 5 #[.int .u8 (k : Int), .int .i8 d, .int .u64 (x : Int)] w fun e w' => e = .returned (.bool true) ∧ Kept None w w' := by
  obtain ⟨T, hT⟩ : ∃ T : Int, T = 1152921504606846936 + d := ⟨_, rfl⟩
  obtain ⟨K, hKK⟩ : ∃ K : Nat, K = 1 * 1000 + k + 1 := ⟨_, rfl⟩
  have wd : IntKind.i64.wrap d = d := by rw [IntKind.wrap_i64]; omega
  have wT : IntKind.i64.wrap (1152921504606846936 + d) = T := by rw [IntKind.wrap_i64]; omega
  have hE : ∀ s : ByteArray, 1 ≤ s.size → s.size ≤ 32 → entR s.size 1 K = true := fun s s1 s2 => by
    rw [entR_iff]
    unfold prime61
    omega
  have hm := fun (s : ByteArray) (W : World) (_ : 1 ≤ s.size) (s2 : s.size ≤ 32) => Pp.make x s 1 K T W (by omega) (by omega)
  have he := fun W => Es.entry_at k 1 W hk (by decide)
  rw [← hKK] at he
  have WT := hid wT
  go_enter Try.func5, Try.ntmps5
  go_wp2_with fail
  refine (known w).mono ?_
  rintro e w1 ⟨rfl, k1⟩
  have HE := hid hE
  have HM := hid hm
  have HT := hid hT
  have HA := hid he
  have H0 := hid (And.intro h0 (And.intro h1 (And.intro hKK hk)))
  clear hE hm hT he hKK h0 h1 wT hk
  go_wp2_with fail
  refine (HA.out w1).mono ?_
  rintro e w2 ⟨s, rfl, s1, s2, kn⟩
  have k2 := k1.trans kn
  have k3 : Kept None w (w2.alloc (.cells #[.string s, .int .i64 1, .int .u64 (K : Int)] 53)) := k2.alloc _
  have e3 : Blk (w2.alloc (.cells #[.string s, .int .i64 1, .int .u64 (K : Int)] 53)) w2.heap.size #[.string s, .int .i64 1, .int .u64 (K : Int)] 53 := Blk.new _ _ _
  have hee := HE.out s s1 s2
  have hmm := fun W => HM.out s W s1 s2
  have wT := WT.out
  clear k1 kn k2
  by_cases c40 : d ≤ 40
  · by_cases c0 : d ≤ 0
    · have hOk := mkPr_ok hee (t := T) (by have := HT.out; have := H0.out; omega) (by have := HT.out; omega)
      rw [hOk, makePr_ok hOk] at hmm
      have tk := taken_signPr x hOk
      have wD : IntKind.i64.wrap (T + 40) = T + 40 := by rw [IntKind.wrap_i64]; have := HT.out; have := H0.out; omega
      have hK8 : K < 18446744073709551616 := by have := H0.out; omega
      obtain ⟨D, hD⟩ : ∃ D, D = T + 40 := ⟨_, rfl⟩
      have ep : signPr x s 1 K T = ⟨s, 1, K, T, D, sigR x (msgPr s 1 K T D), sigS x (msgPr s 1 K T D)⟩ := by rw [hD]; rfl
      obtain ⟨R, hR⟩ : ∃ R, R = sigR x (msgPr s 1 K T D) := ⟨_, rfl⟩
      obtain ⟨S, hS⟩ : ∃ S, S = sigS x (msgPr s 1 K T D) := ⟨_, rfl⟩
      rw [← hR, ← hS] at ep
      rw [ep] at hmm tk
      rw [← hD] at wD
      have hc : ∀ W, Calls Try.prog 28 #[.int .u64 (pubN x : Nat), prV s 1 K T D R S] W fun e w' => e = .returned (.bool true) ∧ Kept None W w' := fun W => by
        have h := Pp.check (pubN x) s 1 K T D R S W (by omega) hK8
        rw [show (rightPr s.size 1 K T D && checkN (pubN x) (msgPr s 1 K T D) R S) = true from tk] at h
        exact h
      have H := hid (And.intro hmm hc)
      have S12 := hid (And.intro s1 s2)
      have WD := hid (And.intro hD wD)
      have c0' : ¬ 0 < d := by omega
      have c40' : ¬ 40 < d := by omega
      clear hmm hc tk hOk hee hK8 hR hS ep s1 s2 hD wD c0 c40
      go_wp2_with (first | (refine wpList_load_blk rfl _ _ rfl rfl e3 Up.aEnt ?_) | fail)
      refine (H.out.1 _).mono ?_
      rintro e w4 ⟨rfl, kn⟩
      have k4 := k3.trans kn
      have e4 := e3.kept kn (fun h => h)
      have k5 : Kept None w (w4.alloc (.cells #[.string s, .int .i64 1, .int .u64 (K : Int), .int .i64 T, .int .i64 D, .int .u64 (R : Int), .int .u64 (S : Int)] 55)) := k4.alloc _
      have p5 : Blk (w4.alloc (.cells #[.string s, .int .i64 1, .int .u64 (K : Int), .int .i64 T, .int .i64 D, .int .u64 (R : Int), .int .u64 (S : Int)] 55)) w4.heap.size #[.string s, .int .i64 1, .int .u64 (K : Int), .int .i64 T, .int .i64 D, .int .u64 (R : Int), .int .u64 (S : Int)] 55 := Blk.new _ _ _
      have e5 : Blk (w4.alloc (.cells #[.string s, .int .i64 1, .int .u64 (K : Int), .int .i64 T, .int .i64 D, .int .u64 (R : Int), .int .u64 (S : Int)] 55)) w2.heap.size #[.string s, .int .i64 1, .int .u64 (K : Int)] 53 := e4.alloc _
      clear k3 e3 kn k4 e4 wT wd
      have wD := WD.out.2
      have hD := WD.out.1.symm
      go_wp2_with fail
      refine wp_nm ?_
      intro w8 e8
      rw [← e8] at k5 p5 e5
      clear e8
      have BG := hid p5
      have BE := hid e5
      have HC : Hid ((∀ W, Kept None w8 W → W.cell? ⟨w4.heap.size, 3, none⟩ = some (.int .i64 T)) ∧ ∀ W, Kept None w8 W → W.cell? ⟨w4.heap.size, 4, none⟩ = some (.int .i64 D)) := hid ⟨fun W hW => (BG.out.kept hW (fun h => h)).cell 3, fun W hW => (BG.out.kept hW (fun h => h)).cell 4⟩
      have BR : Hid (w8.rangeAt w4.heap.size 0 [.string s, .int .i64 1, .int .u64 (K : Int)]) := hid (fun j v hj => by
        rw [Nat.zero_add, BG.out.cell]
        match j, hj with
        | 0, hj => exact hj
        | 1, hj => exact hj
        | 2, hj => exact hj
        | j + 3, hj => simp at hj)
      clear p5 e5
      have hs : Steady [.val 23 (.int .u64 (pubN x : Nat)), .val 25 (.bool true) [23]] := Go.Pm.Steady.val (Go.Pm.Steady.val (Go.Pm.Steady.nil))
      refine wp_region_kn w8 _ hs (Kept.refl _ _) (by kernel_rfl) (by kernel_rfl) (by kernel_rfl) ?_
      iterate 3 (refine wpPar_pure rfl (by rfl) _ (fun W hW => by
          have c1 := HC.out.1 W hW
          have c2 := HC.out.2 W hW
          go_simp
          exact rfl) ?_; simp only [Act.put, List.setIfInBounds_toArray, List.set_cons_zero, List.set_cons_succ])
      refine wpPar_pure rfl (by kernel_rfl) _ (fun W hW => by
          have c1 := HC.out.1 W hW
          have c2 := HC.out.2 W hW
          go_simp
          exact rfl) ?_; simp only [Act.put, List.setIfInBounds_toArray, List.set_cons_zero, List.set_cons_succ]
      refine wpPar_pure rfl (by kernel_rfl) _ (fun W hW => by first | exact exec_load_blk _ _ rfl rfl (BG.out.kept hW (fun h => h)) Pp.aPr | exact exec_load_blk _ _ rfl rfl (BE.out.kept hW (fun h => h)) Up.aEnt | exact exec_load_at rfl rfl (rangeAt_kept BR.out hW) Up.aEnt | (have c1 := HC.out.1 W hW; have c2 := HC.out.2 W hW; go_simp; exact rfl)) ?_; simp only [Act.put, List.setIfInBounds_toArray, List.set_cons_zero, List.set_cons_succ]
      refine wpPar_pure rfl (by kernel_rfl) _ (fun W hW => by
          have c1 := HC.out.1 W hW
          have c2 := HC.out.2 W hW
          go_simp
          exact rfl) ?_; simp only [Act.put, List.setIfInBounds_toArray, List.set_cons_zero, List.set_cons_succ]
      refine wpPar_pure rfl (by kernel_rfl) _ (fun W hW => by
          have c1 := HC.out.1 W hW
          have c2 := HC.out.2 W hW
          go_simp
          exact rfl) ?_; simp only [Act.put, List.setIfInBounds_toArray, List.set_cons_zero, List.set_cons_succ]
      iterate 2 (refine wpPar_pure rfl (by rfl) _ (fun W hW => by
          have c1 := HC.out.1 W hW
          have c2 := HC.out.2 W hW
          go_simp
          exact rfl) ?_; simp only [Act.put, List.setIfInBounds_toArray, List.set_cons_zero, List.set_cons_succ])
      refine wpPar_pure rfl (by kernel_rfl) _ (fun W hW => by
          have c1 := HC.out.1 W hW
          have c2 := HC.out.2 W hW
          go_simp
          exact rfl) ?_; simp only [Act.put, List.setIfInBounds_toArray, List.set_cons_zero, List.set_cons_succ]
      refine wpPar_pure rfl (by kernel_rfl) _ (fun W hW => by first | exact exec_load_blk _ _ rfl rfl (BG.out.kept hW (fun h => h)) Pp.aPr | exact exec_load_blk _ _ rfl rfl (BE.out.kept hW (fun h => h)) Up.aEnt | exact exec_load_at rfl rfl (rangeAt_kept BR.out hW) Up.aEnt | (have c1 := HC.out.1 W hW; have c2 := HC.out.2 W hW; go_simp; exact rfl)) ?_; simp only [Act.put, List.setIfInBounds_toArray, List.set_cons_zero, List.set_cons_succ]
      refine wpPar_pure rfl (by kernel_rfl) _ (fun W hW => by
          have c1 := HC.out.1 W hW
          have c2 := HC.out.2 W hW
          go_simp
          exact rfl) ?_; simp only [Act.put, List.setIfInBounds_toArray, List.set_cons_zero, List.set_cons_succ]
      refine wpPar_pure rfl (by kernel_rfl) _ (fun W hW => by
          have c1 := HC.out.1 W hW
          have c2 := HC.out.2 W hW
          go_simp
          exact rfl) ?_; simp only [Act.put, List.setIfInBounds_toArray, List.set_cons_zero, List.set_cons_succ]
      refine wpPar_pure rfl (by kernel_rfl) _ (fun W hW => by
          have c1 := HC.out.1 W hW
          have c2 := HC.out.2 W hW
          go_simp
          exact rfl) ?_; simp only [Act.put, List.setIfInBounds_toArray, List.set_cons_zero, List.set_cons_succ]
      iterate 2 (refine wpPar_pure rfl (by rfl) _ (fun W hW => by
          have c1 := HC.out.1 W hW
          have c2 := HC.out.2 W hW
          go_simp
          exact rfl) ?_; simp only [Act.put, List.setIfInBounds_toArray, List.set_cons_zero, List.set_cons_succ])
      refine wpPar_pure rfl (by kernel_rfl) _ (fun W hW => by
          have c1 := HC.out.1 W hW
          have c2 := HC.out.2 W hW
          go_simp
          exact rfl) ?_; simp only [Act.put, List.setIfInBounds_toArray, List.set_cons_zero, List.set_cons_succ]
      refine wpPar_pure rfl (by kernel_rfl) _ (fun W hW => by first | exact exec_load_blk _ _ rfl rfl (BG.out.kept hW (fun h => h)) Pp.aPr | exact exec_load_blk _ _ rfl rfl (BE.out.kept hW (fun h => h)) Up.aEnt | exact exec_load_at rfl rfl (rangeAt_kept BR.out hW) Up.aEnt | (have c1 := HC.out.1 W hW; have c2 := HC.out.2 W hW; go_simp; exact rfl)) ?_; simp only [Act.put, List.setIfInBounds_toArray, List.set_cons_zero, List.set_cons_succ]
      refine wpPar_pure rfl (by kernel_rfl) _ (fun W hW => by first | exact exec_load_blk _ _ rfl rfl (BG.out.kept hW (fun h => h)) Pp.aPr | exact exec_load_blk _ _ rfl rfl (BE.out.kept hW (fun h => h)) Up.aEnt | exact exec_load_at rfl rfl (rangeAt_kept BR.out hW) Up.aEnt | (have c1 := HC.out.1 W hW; have c2 := HC.out.2 W hW; go_simp; exact rfl)) ?_; simp only [Act.put, List.setIfInBounds_toArray, List.set_cons_zero, List.set_cons_succ]
      refine wpPar_pure rfl (by kernel_rfl) _ (fun W hW => by
          have c1 := HC.out.1 W hW
          have c2 := HC.out.2 W hW
          go_simp
          exact rfl) ?_; simp only [Act.put, List.setIfInBounds_toArray, List.set_cons_zero, List.set_cons_succ]
      iterate 2 (refine wpPar_pure rfl (by rfl) _ (fun W hW => by
          have c1 := HC.out.1 W hW
          have c2 := HC.out.2 W hW
          go_simp
          exact rfl) ?_; simp only [Act.put, List.setIfInBounds_toArray, List.set_cons_zero, List.set_cons_succ])
      refine wpPar_pure rfl (by kernel_rfl) _ (fun W hW => by
          have c1 := HC.out.1 W hW
          have c2 := HC.out.2 W hW
          go_simp
          exact rfl) ?_; simp only [Act.put, List.setIfInBounds_toArray, List.set_cons_zero, List.set_cons_succ]
      refine wpKn_adds hs rfl (by kernel_rfl) (fun W hW hd => ?_) (fun v23 hv => ?_)
      · unfold Gives
        go_simp
        refine gives_call (Ref.pub x W) ?_
        rintro e w3 ⟨rfl, k3⟩
        exact ⟨_, rfl, k3, rfl, trivial⟩
      obtain rfl : v23 = .int .u64 (pubN x : Nat) := hv
      simp only [Act.put, List.setIfInBounds_toArray, List.set_cons_zero, List.set_cons_succ]
      refine wpPar_pure rfl (by kernel_rfl) _ (fun W hW => by first | exact exec_load_blk _ _ rfl rfl (BG.out.kept hW (fun h => h)) Pp.aPr | exact exec_load_blk _ _ rfl rfl (BE.out.kept hW (fun h => h)) Up.aEnt | exact exec_load_at rfl rfl (rangeAt_kept BR.out hW) Up.aEnt | (have c1 := HC.out.1 W hW; have c2 := HC.out.2 W hW; go_simp; exact rfl)) ?_; simp only [Act.put, List.setIfInBounds_toArray, List.set_cons_zero, List.set_cons_succ]
      refine wpKn_adds hs rfl (by kernel_rfl) (fun W hW hd => ?_) (fun v25 hv => ?_)
      · unfold Gives
        go_simp
        refine gives_call (H.out.2 W) ?_
        rintro e w3 ⟨rfl, k3⟩
        exact ⟨_, rfl, k3, rfl, trivial⟩
      obtain rfl : v25 = .bool true := hv
      simp only [Act.put, List.setIfInBounds_toArray, List.set_cons_zero, List.set_cons_succ]
      iterate 2 (refine wpPar_pure rfl (by rfl) _ (fun W hW => by
          have c1 := HC.out.1 W hW
          have c2 := HC.out.2 W hW
          go_simp
          exact rfl) ?_; simp only [Act.put, List.setIfInBounds_toArray, List.set_cons_zero, List.set_cons_succ])
      refine wpPar_nil (fun W hW hG => ?_)
      have kW := k5.trans hW
      clear hG hs hW
      go_wp2
      go_ret
      exact ⟨rfl, kW⟩
    · have hOk := mkPr_clock hee (t := T) (by have := HT.out; have := H0.out; omega) (by have := HT.out; omega) (by have := HT.out; omega)
      rw [hOk, makePr_none hOk (by decide)] at hmm
      have hmm' : ∀ W, Calls Try.prog 27 #[.int .u64 x, entV s 1 K, .int .i64 T] W fun e w' => e = .returned (.tuple #[.agg #[.string ⟨#[]⟩, .int .i64 0, .int .u64 0, .int .i64 0, .int .i64 0, .int .u64 0, .int .u64 0], .int .i64 31]) ∧ Kept None W w' := hmm
      have H := hid hmm'
      clear hmm'
      have c0' : 0 < d := by omega
      have c40' : ¬ 40 < d := by omega
      clear hmm hOk hee s1 s2 c0 c40
      go_wp2_with (first | (refine wpList_load_blk rfl _ _ rfl rfl e3 Up.aEnt ?_) | fail)
      refine (H.out _).mono ?_
      rintro e w4 ⟨rfl, kn⟩
      have k4 := k3.trans kn
      have k5 : Kept None w (w4.alloc (.cells #[.string ⟨#[]⟩, .int .i64 0, .int .u64 0, .int .i64 0, .int .i64 0, .int .u64 0, .int .u64 0] 55)) := k4.alloc _
      have p5 : Blk (w4.alloc (.cells #[.string ⟨#[]⟩, .int .i64 0, .int .u64 0, .int .i64 0, .int .i64 0, .int .u64 0, .int .u64 0] 55)) w4.heap.size #[.string ⟨#[]⟩, .int .i64 0, .int .u64 0, .int .i64 0, .int .i64 0, .int .u64 0, .int .u64 0] 55 := Blk.new _ _ _
      clear k3 e3 kn k4 wT wd
      go_wp2_with (first | (refine wpList_load_blk rfl _ _ rfl rfl p5 Pp.aPr ?_) | fail)
      go_ret
      exact ⟨rfl, k5⟩
  · have hOk := mkPr_form (m := s.size) (v := 1) (k := K) (t := T) (fun h => by have := HT.out; omega)
    rw [hOk, makePr_none hOk (by decide)] at hmm
    have H := hid hmm
    have c40' : 40 < d := by omega
    clear hmm hOk hee s1 s2 c40
    go_wp2_with (first | (refine wpList_load_blk rfl _ _ rfl rfl e3 Up.aEnt ?_) | fail)
    refine (H.out _).mono ?_
    rintro e w4 ⟨rfl, kn⟩
    have k4 := k3.trans kn
    have k5 : Kept None w (w4.alloc (.cells #[.string ⟨#[]⟩, .int .i64 0, .int .u64 0, .int .i64 0, .int .i64 0, .int .u64 0, .int .u64 0] 55)) := k4.alloc _
    clear k3 e3 kn k4 wT wd
    go_wp2
    go_ret
    exact ⟨rfl, k5⟩
end P11
end Go.Proofs.Ytibkijloibnkfaa
