/- postmarklaw9.known: true. -/
import Derived.Test.YtkogkcaflhjlhaaLeaves9
import Derived.Test.YtkogkcaflhjlhaaGrown9
namespace Go.Pm
open Go Go.RowKit
def hA9 : List UInt8 := leafL [byteOf 97]
def hB9 : List UInt8 := leafL [byteOf 98]
theorem Bs.byteF (w : World) (t : TypeId) (x : Int) (h0 : 0 ≤ x) (h1 : x < 256) : Bs (w.alloc (.cells #[.int .u8 x] t (1, 2))) w.heap.size (w.alloc (.cells #[.int .u8 x] t (1, 2))).heap.size (.slice (some ⟨w.heap.size, 0, none⟩) 1 1) [byteOf x] := by
  have h : Raw t (w.alloc (.cells #[.int .u8 x] t (1, 2))) w.heap.size (.slice (some ⟨w.heap.size, 0, none⟩) 1 1) [byteOf x] := ⟨w.heap.size, (1, 2), rfl, Nat.le_refl _, by rw [heap_alloc_new, List.map_cons, List.map_nil, u8v_byteOf' h0 h1]⟩
  exact h.bs (by rw [show [byteOf x].length = 1 from rfl]; decide)
theorem nodes_unlike9 : nodeL hB9 hB9 ≠ nodeL hA9 hB9 := by decide +kernel
theorem split_two : splitN 2 = 1 := by decide
theorem root_two (a b : List UInt8) : rootL [a, b] = nodeL a b := by
  rw [rootL_more (by simp)]
  rw [show [a, b].length = 2 from rfl, split_two]
  rfl
theorem sub_two (a b : List UInt8) : subL [a, b] 1 true = [b] := by
  have h : 1 ≤ splitN [a, b].length := by rw [show [a, b].length = 2 from rfl, split_two]; decide
  rw [subL_left (by decide) (by simp) h]
  rw [show [a, b].length = 2 from rfl, split_two]
  rfl
theorem sub_same (a b : List UInt8) : subL [a, b] 2 true = [] := subL_all (l := [a, b]) (by simp) true
theorem grown_two (a b : List UInt8) : grownL a (nodeL a b) 1 2 [b] = true := by
  have h := grown_sub [a, b] 1 (by decide) (by simp)
  rw [sub_two, root_two] at h
  exact h
theorem grown_two_no (a b : List UInt8) (h : nodeL b b ≠ nodeL a b) : grownL b (nodeL a b) 1 2 [b] = false := by
  have h1 := grown_climb b (nodeL a b) 1 2 (by decide) (by decide) [b]
  have e : climbC b [b] 1 2 = (b, nodeL b b, true) := by
    unfold climbC
    rw [show fullN 1 = true by decide, if_pos rfl, stripO_even (by decide), climbP_new _ _ (by decide) (by decide)]
    rfl
  rw [e] at h1
  refine h1.trans ?_
  show (true && ((b == b) && (nodeL b b == nodeL a b))) = false
  rw [show (nodeL b b == nodeL a b) = false from beq_eq_false_iff_ne.2 h]
  simp
end Go.Pm
namespace Go.Proofs.Ytkogkcaflhjlhaa
open Go.RowKit Go.Pm
namespace L9
set_option maxRecDepth 100000 in
set_option maxHeartbeats 2000000 in
theorem known (w : World) : Calls Try.prog 10 #[] w fun e w' => e = .returned (.bool true) ∧ Kept None w w' := by
  obtain ⟨a, ha⟩ : ∃ a, a = hA9 := ⟨_, rfl⟩
  obtain ⟨b, hb⟩ : ∃ b, b = hB9 := ⟨_, rfl⟩
  have la : a.length = 32 := by rw [ha]; exact leafL_len _
  have lb : b.length = 32 := by rw [hb]; exact leafL_len _
  have hne : nodeL b b ≠ nodeL a b := by rw [ha, hb]; exact nodes_unlike9
  have gt := grown_two a b
  have gn := grown_two_no a b hne
  obtain ⟨r, hr⟩ : ∃ r, r = nodeL a b := ⟨_, rfl⟩
  have lr : r.length = 32 := by rw [hr]; exact nodeL_len _ _
  rw [← hr] at gt gn
  have fa : ∀ W : World, Calls Try.prog 18 #[.slice (some ⟨W.heap.size, 0, none⟩) 1 1] (W.alloc (.cells #[.int .u8 97] 5 (1, 2))) fun e w' => e = .returned (hashV a) ∧ Kept None (W.alloc (.cells #[.int .u8 97] 5 (1, 2))) w' := fun W => by
    rw [ha]; exact RLg.leaf _ _ _ _ _ (Bs.byteF W 5 97 (by decide) (by decide)) (by simp)
  have fb : ∀ W : World, Calls Try.prog 18 #[.slice (some ⟨W.heap.size, 0, none⟩) 1 1] (W.alloc (.cells #[.int .u8 98] 5 (1, 2))) fun e w' => e = .returned (hashV b) ∧ Kept None (W.alloc (.cells #[.int .u8 98] 5 (1, 2))) w' := fun W => by
    rw [hb]; exact RLg.leaf _ _ _ _ _ (Bs.byteF W 5 98 (by decide) (by decide)) (by simp)
  have f4 : ∀ v W, Rh 0 W v [a, b] → Calls Try.prog 15 #[v] W fun e w' => e = .returned (hashV r) ∧ Kept None W w' := fun v W h => by
    have h2 := RLg.root 2 [a, b] v W h (by simp) (by simp)
    rwa [root_two, ← hr] at h2
  have f6 : ∀ v W, Rh 0 W v [a, b] → Calls Try.prog 12 #[v, .int .i64 1] W fun e w' => ∃ u, e = .returned (.tuple #[u, .bool true]) ∧ Kept None W w' ∧ Ho 25 w' W.heap.size u [b] := fun v W h => by
    have h2 := Gr.prove [a, b] 1 v W h (by simp) (by decide) (by simp)
    rwa [sub_two] at h2
  have f7 : ∀ v W, Rh 0 W v [a, b] → Calls Try.prog 12 #[v, .int .i64 3] W fun e w' => e = .returned (.tuple #[.slice none 0 0, .bool false]) ∧ W = w' := fun v W h => Gr.prove_out [a, b] 3 v W h (.inr (by simp))
  have f8 : ∀ v W, Rh 0 W v [a, b] → Calls Try.prog 12 #[v, .int .i64 2] W fun e w' => ∃ u, e = .returned (.tuple #[u, .bool true]) ∧ Kept None W w' ∧ Ho 25 w' W.heap.size u [] := fun v W h => by
    have h2 := Gr.prove [a, b] 2 v W h (by simp) (by decide) (by simp)
    rwa [sub_same] at h2
  have f9 : ∀ v W, Rh 0 W v [b] → Calls Try.prog 16 #[hashV a, hashV r, .int .i64 1, .int .i64 2, v] W fun e w' => e = .returned (.bool true) ∧ Kept None W w' := fun v W h => by
    have h2 := Gr.check a r [b] 1 2 v W la lr h (by simp) (by decide)
    rwa [gt] at h2
  have f10 : ∀ v W, Rh 0 W v [b] → Calls Try.prog 16 #[hashV b, hashV r, .int .i64 1, .int .i64 2, v] W fun e w' => e = .returned (.bool false) ∧ Kept None W w' := fun v W h => by
    have h2 := Gr.check b r [b] 1 2 v W lb lr h (by simp) (by decide)
    rwa [gn] at h2
  have e1 := Hk.eqHash b b lb lb
  rw [beq_self_eq_true] at e1
  have HAB := hid (And.intro la lb)
  obtain ⟨AA, hAA⟩ : ∃ A : Array Value, A = (a.map u8v).toArray := ⟨_, rfl⟩
  obtain ⟨BB, hBB⟩ : ∃ A : Array Value, A = (b.map u8v).toArray := ⟨_, rfl⟩
  obtain ⟨RR, hRR⟩ : ∃ A : Array Value, A = (r.map u8v).toArray := ⟨_, rfl⟩
  have sA : AA.size = 32 := by rw [hAA]; simpa using la
  have sB : BB.size = 32 := by rw [hBB]; simpa using lb
  have aL : AggTy Try.prog 25 (a.map u8v).length := Hk.aH32' la
  have bL : AggTy Try.prog 25 (b.map u8v).length := Hk.aH32' lb
  simp only [hashV, ← hAA, ← hBB, ← hRR] at fa fb f4 f9 f10 e1
  have FA := hid fa
  have FB := hid fb
  have FRoot := hid f4
  have FP := hid f6
  have FO := hid f7
  have FQ := hid f8
  have FC := hid f9
  have FCn := hid f10
  have E1 := hid e1
  have HA := hid (And.intro hAA hBB)
  have HS := hid (And.intro sA sB)
  clear ha hb la lb hne gt gn hr lr fa fb f4 f6 f7 f8 f9 f10 e1 hAA hBB hRR sA sB
  have kc := fun (w : World) (C : Array Value) (n c g : Nat) (hg : g = w.heap.size) => constBytes w C n c g hg
  go_enter Try.func10, Try.ntmps10
  go_wp2_with fail
  refine (FA.out _).mono ?_
  rintro e w1 ⟨rfl, k1⟩
  have k01 := ((Kept.refl None w).alloc (.cells #[.int .u8 97] 5 (1, 2))).trans k1
  clear k1
  go_wp2_with fail
  refine (FB.out _).mono ?_
  rintro e w2 ⟨rfl, k2⟩
  clear kc
  have k02 := (k01.alloc (.cells #[.int .u8 98] 5 (1, 2))).trans k2
  clear k2 k01
  go_wp2_with (first | (refine wpList_two_hash rfl _ _ _ rfl Hk.rtHashes rfl rfl HS.out.1 HS.out.2 ?_) | fail)
  have k05 := k02.alloc (.cells (AA ++ BB) 25)
  have h := Blk.new w2 (AA ++ BB) 25
  rw [HA.out.1, HA.out.2] at h k05 ⊢
  have i5 : Rh 0 (w2.alloc (.cells ((a.map u8v).toArray ++ (b.map u8v).toArray) 25)) (.slice (some ⟨w2.heap.size, 0, none⟩) 2 2) [a, b] := ⟨_, (Hs.two h HAB.out.1 HAB.out.2).wider' (Nat.zero_le _)⟩
  obtain ⟨g, hg⟩ : ∃ g, g = w2.heap.size := ⟨_, rfl⟩
  rw [← hg] at i5 ⊢
  have r0 : (w2.alloc (.cells ((a.map u8v).toArray ++ (b.map u8v).toArray) 25)).rangeAt g 0 (a.map u8v) := by
    obtain ⟨hi, h⟩ := i5
    obtain ⟨b', o, e1, e2⟩ := h.at (i := 0) (by simp)
    injection e1 with e1
    injection e1 with e1 e3
    rw [← e1, ← e3] at e2
    simpa using e2
  have r1 : (w2.alloc (.cells ((a.map u8v).toArray ++ (b.map u8v).toArray) 25)).rangeAt g 32 (b.map u8v) := by
    obtain ⟨hi, h⟩ := i5
    obtain ⟨b', o, e1, e2⟩ := h.at (i := 1) (by simp)
    injection e1 with e1
    injection e1 with e1 e3
    rw [← e1, ← e3] at e2
    simpa using e2
  have I5 := hid i5
  have K5 := hid k05
  have R0 := hid r0
  have R1 := hid r1
  clear i5 k05 h k02 r0 r1 hg
  refine (FP.out _ _ I5.out).mono ?_
  rintro e w6 ⟨u, rfl, k6, p6⟩
  obtain ⟨a6, c6, rfl⟩ := Ho.form p6
  have P6a : Hid (Rh 0 w6 (.slice a6 1 c6) [b]) := hid (p6.rh.mono (Nat.zero_le _))
  have I6a := hid (I5.out.kept k6)
  have K6 := hid (K5.out.trans k6)
  have R0a := hid (rangeAt_kept R0.out k6)
  have R1a := hid (rangeAt_kept R1.out k6)
  clear k6 p6 I5 K5 R0 R1
  go_wp2_with fail
  refine (FO.out _ _ I6a.out).mono ?_
  rintro e w7 ⟨rfl, e7⟩
  rw [← e7]
  clear e7
  go_wp2_with fail
  refine (FQ.out _ _ I6a.out).mono ?_
  rintro e w8 ⟨u, rfl, k8, p8⟩
  obtain ⟨a8, c8, rfl⟩ := Ho.form p8
  have P6 := hid (P6a.out.kept k8)
  have I6 := hid (I6a.out.kept k8)
  have K8 := hid (K6.out.trans k8)
  have RG0 := hid (rangeAt_kept R0a.out k8)
  have RG1 := hid (rangeAt_kept R1a.out k8)
  obtain ⟨b6, o6, hab, rg6⟩ : ∃ b' o, a6 = some ⟨b', o, none⟩ ∧ w8.rangeAt b' o (b.map u8v) := by
    obtain ⟨hi, h⟩ := P6.out
    obtain ⟨b', o, e1, e2⟩ := h.at (i := 0) (by simp)
    exact ⟨b', o, e1, by simpa using e2⟩
  obtain rfl := hab
  have RGP := hid rg6
  clear rg6 P6a I6a K6 R0a R1a k8 p8
  go_wp2_with fail
  have hs : Steady [.val 32 (.agg RR), .val 34 (.bool true), .val 41 (.agg RR), .val 43 (.bool false)] := Go.Pm.Steady.val (Go.Pm.Steady.val (Go.Pm.Steady.val (Go.Pm.Steady.val (Go.Pm.Steady.nil))))
  refine wp_region_kn w8 _ hs (Kept.refl _ _) (by kernel_rfl) (by kernel_rfl) (by kernel_rfl) ?_
  iterate 2 (refine wpPar_pure rfl (by rfl) _ (fun W hW => by
      have q1 := E1.out
      go_simp
      exact rfl) ?_; simp only [Act.put, List.setIfInBounds_toArray, List.set_cons_zero, List.set_cons_succ])
  refine wpPar_pure rfl (by kernel_rfl) _ (fun W hW => by
      have q1 := E1.out
      go_simp
      exact rfl) ?_; simp only [Act.put, List.setIfInBounds_toArray, List.set_cons_zero, List.set_cons_succ]
  refine wpPar_pure rfl (by kernel_rfl) _ (fun W hW => by
      have q1 := E1.out
      go_simp
      exact rfl) ?_; simp only [Act.put, List.setIfInBounds_toArray, List.set_cons_zero, List.set_cons_succ]
  refine wpPar_pure rfl (by kernel_rfl) _ (fun W hW => by
      have q1 := E1.out
      go_simp
      exact rfl) ?_; simp only [Act.put, List.setIfInBounds_toArray, List.set_cons_zero, List.set_cons_succ]
  iterate 2 (refine wpPar_pure rfl (by rfl) _ (fun W hW => by
      have q1 := E1.out
      go_simp
      exact rfl) ?_; simp only [Act.put, List.setIfInBounds_toArray, List.set_cons_zero, List.set_cons_succ])
  refine wpPar_pure rfl (by kernel_rfl) _ (fun W hW => by
      have q1 := E1.out
      go_simp
      exact rfl) ?_; simp only [Act.put, List.setIfInBounds_toArray, List.set_cons_zero, List.set_cons_succ]
  refine wpPar_pure rfl (by kernel_rfl) _ (fun W hW => by
      have q1 := E1.out
      go_simp
      exact rfl) ?_; simp only [Act.put, List.setIfInBounds_toArray, List.set_cons_zero, List.set_cons_succ]
  refine wpPar_pure rfl (by kernel_rfl) (.agg BB) (fun W hW => by rw [HA.out.2]; exact exec_load_at rfl rfl (rangeAt_kept RGP.out hW) bL) ?_; simp only [Act.put, List.setIfInBounds_toArray, List.set_cons_zero, List.set_cons_succ]
  refine wpPar_pure rfl (by kernel_rfl) _ (fun W hW => by
      have q1 := E1.out
      go_simp
      exact rfl) ?_; simp only [Act.put, List.setIfInBounds_toArray, List.set_cons_zero, List.set_cons_succ]
  refine wpPar_pure rfl (by kernel_rfl) _ (fun W hW => by
      have q1 := E1.out
      go_simp
      exact rfl) ?_; simp only [Act.put, List.setIfInBounds_toArray, List.set_cons_zero, List.set_cons_succ]
  refine wpPar_pure rfl (by kernel_rfl) (.agg BB) (fun W hW => by rw [HA.out.2]; exact exec_load_at rfl rfl (rangeAt_kept RG1.out hW) bL) ?_; simp only [Act.put, List.setIfInBounds_toArray, List.set_cons_zero, List.set_cons_succ]
  refine wpPar_pure rfl (by kernel_rfl) _ (fun W hW => by
      have q1 := E1.out
      go_simp
      exact rfl) ?_; simp only [Act.put, List.setIfInBounds_toArray, List.set_cons_zero, List.set_cons_succ]
  iterate 2 (refine wpPar_pure rfl (by rfl) _ (fun W hW => by
      have q1 := E1.out
      go_simp
      exact rfl) ?_; simp only [Act.put, List.setIfInBounds_toArray, List.set_cons_zero, List.set_cons_succ])
  refine wpPar_pure rfl (by kernel_rfl) _ (fun W hW => by
      have q1 := E1.out
      go_simp
      exact rfl) ?_; simp only [Act.put, List.setIfInBounds_toArray, List.set_cons_zero, List.set_cons_succ]
  refine wpPar_pure rfl (by kernel_rfl) _ (fun W hW => by
      have q1 := E1.out
      go_simp
      exact rfl) ?_; simp only [Act.put, List.setIfInBounds_toArray, List.set_cons_zero, List.set_cons_succ]
  iterate 2 (refine wpPar_pure rfl (by rfl) _ (fun W hW => by
      have q1 := E1.out
      go_simp
      exact rfl) ?_; simp only [Act.put, List.setIfInBounds_toArray, List.set_cons_zero, List.set_cons_succ])
  refine wpPar_pure rfl (by kernel_rfl) _ (fun W hW => by
      have q1 := E1.out
      go_simp
      exact rfl) ?_; simp only [Act.put, List.setIfInBounds_toArray, List.set_cons_zero, List.set_cons_succ]
  iterate 2 (refine wpPar_pure rfl (by rfl) _ (fun W hW => by
      have q1 := E1.out
      go_simp
      exact rfl) ?_; simp only [Act.put, List.setIfInBounds_toArray, List.set_cons_zero, List.set_cons_succ])
  refine wpPar_pure rfl (by kernel_rfl) _ (fun W hW => by
      have q1 := E1.out
      go_simp
      exact rfl) ?_; simp only [Act.put, List.setIfInBounds_toArray, List.set_cons_zero, List.set_cons_succ]
  refine wpPar_pure rfl (by kernel_rfl) _ (fun W hW => by
      have q1 := E1.out
      go_simp
      exact rfl) ?_; simp only [Act.put, List.setIfInBounds_toArray, List.set_cons_zero, List.set_cons_succ]
  refine wpPar_pure rfl (by kernel_rfl) _ (fun W hW => by
      have q1 := E1.out
      go_simp
      exact rfl) ?_; simp only [Act.put, List.setIfInBounds_toArray, List.set_cons_zero, List.set_cons_succ]
  iterate 2 (refine wpPar_pure rfl (by rfl) _ (fun W hW => by
      have q1 := E1.out
      go_simp
      exact rfl) ?_; simp only [Act.put, List.setIfInBounds_toArray, List.set_cons_zero, List.set_cons_succ])
  refine wpPar_pure rfl (by kernel_rfl) _ (fun W hW => by
      have q1 := E1.out
      go_simp
      exact rfl) ?_; simp only [Act.put, List.setIfInBounds_toArray, List.set_cons_zero, List.set_cons_succ]
  refine wpPar_pure rfl (by kernel_rfl) _ (fun W hW => by
      have q1 := E1.out
      go_simp
      exact rfl) ?_; simp only [Act.put, List.setIfInBounds_toArray, List.set_cons_zero, List.set_cons_succ]
  refine wpPar_pure rfl (by kernel_rfl) (.agg AA) (fun W hW => by rw [HA.out.1]; exact exec_load_at rfl rfl (rangeAt_kept RG0.out hW) aL) ?_; simp only [Act.put, List.setIfInBounds_toArray, List.set_cons_zero, List.set_cons_succ]
  refine wpPar_pure rfl (by kernel_rfl) _ (fun W hW => by
      have q1 := E1.out
      go_simp
      exact rfl) ?_; simp only [Act.put, List.setIfInBounds_toArray, List.set_cons_zero, List.set_cons_succ]
  refine wpKn_adds hs rfl (by kernel_rfl) (fun W hW hd => ?_) (fun v32 hv => ?_)
  · unfold Gives
    go_simp
    refine gives_call (FRoot.out _ W (I6.out.kept hW)) ?_
    rintro e w3 ⟨rfl, k3⟩
    exact ⟨_, rfl, k3, rfl, trivial⟩
  obtain rfl : v32 = .agg RR := hv
  simp only [Act.put, List.setIfInBounds_toArray, List.set_cons_zero, List.set_cons_succ]
  refine wpPar_pure rfl (by kernel_rfl) _ (fun W hW => by
      have q1 := E1.out
      go_simp
      exact rfl) ?_; simp only [Act.put, List.setIfInBounds_toArray, List.set_cons_zero, List.set_cons_succ]
  refine wpKn_adds hs rfl (by kernel_rfl) (fun W hW hd => ?_) (fun v34 hv => ?_)
  · unfold Gives
    go_simp
    refine gives_call (FC.out _ W (P6.out.kept hW)) ?_
    rintro e w3 ⟨rfl, k3⟩
    exact ⟨_, rfl, k3, rfl, trivial⟩
  obtain rfl : v34 = .bool true := hv
  simp only [Act.put, List.setIfInBounds_toArray, List.set_cons_zero, List.set_cons_succ]
  iterate 2 (refine wpPar_pure rfl (by rfl) _ (fun W hW => by
      have q1 := E1.out
      go_simp
      exact rfl) ?_; simp only [Act.put, List.setIfInBounds_toArray, List.set_cons_zero, List.set_cons_succ])
  refine wpPar_pure rfl (by kernel_rfl) _ (fun W hW => by
      have q1 := E1.out
      go_simp
      exact rfl) ?_; simp only [Act.put, List.setIfInBounds_toArray, List.set_cons_zero, List.set_cons_succ]
  refine wpPar_pure rfl (by kernel_rfl) _ (fun W hW => by
      have q1 := E1.out
      go_simp
      exact rfl) ?_; simp only [Act.put, List.setIfInBounds_toArray, List.set_cons_zero, List.set_cons_succ]
  refine wpPar_pure rfl (by kernel_rfl) (.agg BB) (fun W hW => by rw [HA.out.2]; exact exec_load_at rfl rfl (rangeAt_kept RG1.out hW) bL) ?_; simp only [Act.put, List.setIfInBounds_toArray, List.set_cons_zero, List.set_cons_succ]
  refine wpPar_pure rfl (by kernel_rfl) _ (fun W hW => by
      have q1 := E1.out
      go_simp
      exact rfl) ?_; simp only [Act.put, List.setIfInBounds_toArray, List.set_cons_zero, List.set_cons_succ]
  refine wpKn_adds hs rfl (by kernel_rfl) (fun W hW hd => ?_) (fun v41 hv => ?_)
  · unfold Gives
    go_simp
    refine gives_call (FRoot.out _ W (I6.out.kept hW)) ?_
    rintro e w3 ⟨rfl, k3⟩
    exact ⟨_, rfl, k3, rfl, trivial⟩
  obtain rfl : v41 = .agg RR := hv
  simp only [Act.put, List.setIfInBounds_toArray, List.set_cons_zero, List.set_cons_succ]
  refine wpPar_pure rfl (by kernel_rfl) _ (fun W hW => by
      have q1 := E1.out
      go_simp
      exact rfl) ?_; simp only [Act.put, List.setIfInBounds_toArray, List.set_cons_zero, List.set_cons_succ]
  refine wpKn_adds hs rfl (by kernel_rfl) (fun W hW hd => ?_) (fun v43 hv => ?_)
  · unfold Gives
    go_simp
    refine gives_call (FCn.out _ W (P6.out.kept hW)) ?_
    rintro e w3 ⟨rfl, k3⟩
    exact ⟨_, rfl, k3, rfl, trivial⟩
  obtain rfl : v43 = .bool false := hv
  simp only [Act.put, List.setIfInBounds_toArray, List.set_cons_zero, List.set_cons_succ]
  refine wpPar_pure rfl (by kernel_rfl) _ (fun W hW => by
      have q1 := E1.out
      go_simp
      exact rfl) ?_; simp only [Act.put, List.setIfInBounds_toArray, List.set_cons_zero, List.set_cons_succ]
  iterate 2 (refine wpPar_pure rfl (by rfl) _ (fun W hW => by
      have q1 := E1.out
      go_simp
      exact rfl) ?_; simp only [Act.put, List.setIfInBounds_toArray, List.set_cons_zero, List.set_cons_succ])
  refine wpPar_nil (fun W hW hG => ?_)
  have K9 := hid (K8.out.trans hW)
  clear hG hs hW
  go_wp2
  go_ret
  exact ⟨rfl, K9.out⟩
end L9
end Go.Proofs.Ytkogkcaflhjlhaa
