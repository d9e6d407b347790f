/- postmarklaw8.known: true. -/
import Derived.Test.YtdlnikkfpfdbbaaLeaves8
namespace Go.Pm
open Go Go.RowKit
def hA8 : List UInt8 := leafL [byteOf 97]
def hB8 : List UInt8 := leafL [byteOf 98]
theorem Bs.byteF (w : World) (t : TypeId) (x : Int) (h0 : 0 ≤ x) (h1 : x < 256) : Bs (w.alloc (.cells #[.int .u8 x] t (1, 2))) w.heap.size (w.alloc (.cells #[.int .u8 x] t (1, 2))).heap.size (.slice (some ⟨w.heap.size, 0, none⟩) 1 1) [byteOf x] := by
  have h : Raw t (w.alloc (.cells #[.int .u8 x] t (1, 2))) w.heap.size (.slice (some ⟨w.heap.size, 0, none⟩) 1 1) [byteOf x] := ⟨w.heap.size, (1, 2), rfl, Nat.le_refl _, by rw [heap_alloc_new, List.map_cons, List.map_nil, u8v_byteOf' h0 h1]⟩
  exact h.bs (by rw [show [byteOf x].length = 1 from rfl]; decide)
theorem hashes_unlike8 : hA8 ≠ hB8 := by decide +kernel
theorem split_two : splitN 2 = 1 := by decide
theorem split_five : splitN 5 = 4 := by decide
theorem root_two (a b : List UInt8) : rootL [a, b] = nodeL a b := by
  rw [rootL_more (by simp)]
  rw [show [a, b].length = 2 from rfl, split_two]
  rfl
theorem path_two (a b : List UInt8) : pathL [a, b] 1 = [a] := by
  have h : ¬ 1 < splitN [a, b].length := by rw [show [a, b].length = 2 from rfl, split_two]; decide
  rw [pathL_right (by simp) h]
  rw [show [a, b].length = 2 from rfl, split_two]
  rfl
end Go.Pm
namespace Go.Proofs.Ytdlnikkfpfdbbaa
open Go.RowKit Go.Pm
namespace L8
set_option maxRecDepth 100000 in
set_option maxHeartbeats 1000000 in
theorem known (w : World) : Calls Try.prog 11 #[] w fun e w' => e = .returned (.bool true) ∧ Kept None w w' := by
  obtain ⟨a, ha⟩ : ∃ a, a = hA8 := ⟨_, rfl⟩
  obtain ⟨b, hb⟩ : ∃ b, b = hB8 := ⟨_, rfl⟩
  have la : a.length = 32 := by rw [ha]; exact leafL_len _
  have lb : b.length = 32 := by rw [hb]; exact leafL_len _
  have hne : a ≠ b := by rw [ha, hb]; exact hashes_unlike8
  obtain ⟨r, hr⟩ : ∃ r, r = nodeL a b := ⟨_, rfl⟩
  have lr : r.length = 32 := by rw [hr]; exact nodeL_len _ _
  have f1 : ∀ W : World, Calls Try.prog 13 #[.slice (some ⟨W.heap.size, 0, none⟩) 1 1] (W.alloc (.cells #[.int .u8 97] 5 (1, 2))) fun e w' => e = .returned (hashV a) ∧ Kept None (W.alloc (.cells #[.int .u8 97] 5 (1, 2))) w' := fun W => by
    rw [ha]; exact Lg.leaf _ _ _ _ _ (Bs.byteF W 5 97 (by decide) (by decide)) (by simp)
  have f2 : ∀ W : World, Calls Try.prog 13 #[.slice (some ⟨W.heap.size, 0, none⟩) 1 1] (W.alloc (.cells #[.int .u8 98] 5 (1, 2))) fun e w' => e = .returned (hashV b) ∧ Kept None (W.alloc (.cells #[.int .u8 98] 5 (1, 2))) w' := fun W => by
    rw [hb]; exact Lg.leaf _ _ _ _ _ (Bs.byteF W 5 98 (by decide) (by decide)) (by simp)
  have f3 : ∀ v lo hi W, Bs W lo hi v [Go.Pm.byteOf 97] → Calls Try.prog 14 #[v] W fun e w' => e = .returned (hashV a) ∧ Kept None W w' := fun v lo hi W h => by
    rw [ha]; exact RLg.leaf v _ _ _ W h (by simp)
  have f4 : ∀ v W, Rh 0 W v [a, b] → Calls Try.prog 20 #[v] W fun e w' => e = .returned (hashV r) ∧ Kept None W w' := fun v W h => by
    have h2 := Lg.root 2 [a, b] v W h (by simp) (by simp)
    rwa [root_two, ← hr] at h2
  have f5 : ∀ W, Calls Try.prog 17 #[hashV a, hashV b] W fun e w' => e = .returned (hashV r) ∧ Kept None W w' := fun W => by
    rw [hr]; exact Lg.node a b W la lb
  have f6 : ∀ v W, Rh 0 W v [a, b] → Calls Try.prog 21 #[v, .int .i64 1] W fun e w' => ∃ u, e = .returned (.tuple #[u, .bool true]) ∧ Kept None W w' ∧ Ho 25 w' W.heap.size u [a] := fun v W h => by
    have h2 := Lg.path [a, b] 1 v W h (by simp) (by simp)
    rwa [path_two] at h2
  have f7 : ∀ v W, Rh 0 W v [a, b] → Calls Try.prog 21 #[v, .int .i64 2] W fun e w' => e = .returned (.tuple #[.slice none 0 0, .bool false]) ∧ W = w' := fun v W h => Lg.path_out [a, b] 2 v W h (.inr (by simp))
  have f8 : ∀ v W, Rh 0 W v [a] → Calls Try.prog 24 #[hashV r, .int .i64 2, .int .i64 1, hashV b, v] W fun e w' => e = .returned (.bool true) ∧ Kept None W w' := fun v W h => by
    have h2 := Lg.check r b [a] 2 1 v W lr lb h (by simp) (by decide)
    have h3 := checkL_path [a, b] 1 b rfl
    rw [root_two, path_two, ← hr] at h3
    have h4 : checkL r 2 1 b [a] = true := h3
    rwa [h4] at h2
  have f9 : ∀ W, Calls Try.prog 15 #[.int .i64 5] W fun e w' => e = .returned (.int .i64 4) ∧ W = w' := fun W => by
    have h2 := Lg.split 5 W (by decide) (by decide)
    rwa [split_five] at h2
  have f10 : ∀ W, Calls Try.prog 15 #[.int .i64 1] W fun e w' => e = .returned (.int .i64 0) ∧ W = w' := fun W => Lg.split_few 1 W (by decide)
  have e1 := Hk.neqHash a b la lb
  have e2 := Hk.eqHash r r lr lr
  have e3 := Hk.eqHash a a la la
  rw [show (a == b) = false by rw [beq_eq_false_iff_ne]; exact hne] at e1
  rw [beq_self_eq_true] at e2 e3
  rw [Bool.not_false] at e1
  have HAB := hid (And.intro la lb)
  obtain ⟨AA, hAA⟩ : ∃ A : Array Value, A = (a.map u8v).toArray := ⟨_, rfl⟩
  obtain ⟨BB, hBB⟩ : ∃ A : Array Value, A = (b.map u8v).toArray := ⟨_, rfl⟩
  obtain ⟨RR, hRR⟩ : ∃ A : Array Value, A = (r.map u8v).toArray := ⟨_, rfl⟩
  have aA : AggTy Try.prog 25 AA.size := by rw [hAA]; exact Hk.aH32 la
  have aB : AggTy Try.prog 25 BB.size := by rw [hBB]; exact Hk.aH32 lb
  have sA : AA.size = 32 := by rw [hAA]; simpa using la
  have sB : BB.size = 32 := by rw [hBB]; simpa using lb
  have allA : AA.all (·.oneCell') = true := by rw [hAA]; exact u8v_all' _
  have allB : BB.all (·.oneCell') = true := by rw [hBB]; exact u8v_all' _
  simp only [hashV, ← hAA, ← hBB, ← hRR] at f1 f2 f3 f4 f5 f6 f7 f8 e1 e2 e3
  have FA := hid f1
  have FB := hid f2
  have FLr := hid f3
  have FRoot := hid f4
  have FN := hid f5
  have FP := hid f6
  have FO := hid f7
  have FC := hid f8
  have FS5 := hid f9
  have FS1 := hid f10
  have E1 := hid e1
  have E2 := hid e2
  have E3 := hid e3
  have HA := hid (And.intro hAA hBB)
  have HS := hid (And.intro sA (And.intro sB (And.intro allA allB)))
  clear ha hb la lb hne hr lr f1 f2 f3 f4 f5 f6 f7 f8 f9 f10 e1 e2 e3 hAA hBB hRR sA sB allA allB
  have kc := fun (w : World) (C : Array Value) (n c g : Nat) (hg : g = w.heap.size) => constBytes w C n c g hg
  go_enter Try.func11, Try.ntmps11
  go_wp2_with fail
  refine (FA.out _).mono ?_
  rintro e w1 ⟨rfl, k1⟩
  have k01 := ((Kept.refl None w).alloc (.cells #[.int .u8 97] 5 (1, 2))).trans k1
  clear k1
  go_wp2_with fail
  refine (FB.out _).mono ?_
  rintro e w2 ⟨rfl, k2⟩
  clear kc
  have k02 := (k01.alloc (.cells #[.int .u8 98] 5 (1, 2))).trans k2
  clear k2 k01
  have v1 : Blk ((w2.alloc (.cells #[.int .u8 0, .int .u8 0, .int .u8 0, .int .u8 0, .int .u8 0, .int .u8 0, .int .u8 0, .int .u8 0, .int .u8 0, .int .u8 0, .int .u8 0, .int .u8 0, .int .u8 0, .int .u8 0, .int .u8 0, .int .u8 0, .int .u8 0, .int .u8 0, .int .u8 0, .int .u8 0, .int .u8 0, .int .u8 0, .int .u8 0, .int .u8 0, .int .u8 0, .int .u8 0, .int .u8 0, .int .u8 0, .int .u8 0, .int .u8 0, .int .u8 0, .int .u8 0] 25)).alloc (.cells #[.int .u8 0, .int .u8 0, .int .u8 0, .int .u8 0, .int .u8 0, .int .u8 0, .int .u8 0, .int .u8 0, .int .u8 0, .int .u8 0, .int .u8 0, .int .u8 0, .int .u8 0, .int .u8 0, .int .u8 0, .int .u8 0, .int .u8 0, .int .u8 0, .int .u8 0, .int .u8 0, .int .u8 0, .int .u8 0, .int .u8 0, .int .u8 0, .int .u8 0, .int .u8 0, .int .u8 0, .int .u8 0, .int .u8 0, .int .u8 0, .int .u8 0, .int .u8 0] 25)) w2.heap.size #[.int .u8 0, .int .u8 0, .int .u8 0, .int .u8 0, .int .u8 0, .int .u8 0, .int .u8 0, .int .u8 0, .int .u8 0, .int .u8 0, .int .u8 0, .int .u8 0, .int .u8 0, .int .u8 0, .int .u8 0, .int .u8 0, .int .u8 0, .int .u8 0, .int .u8 0, .int .u8 0, .int .u8 0, .int .u8 0, .int .u8 0, .int .u8 0, .int .u8 0, .int .u8 0, .int .u8 0, .int .u8 0, .int .u8 0, .int .u8 0, .int .u8 0, .int .u8 0] 25 := (Blk.new w2 _ _).alloc _
  have v2 : Blk ((w2.alloc (.cells #[.int .u8 0, .int .u8 0, .int .u8 0, .int .u8 0, .int .u8 0, .int .u8 0, .int .u8 0, .int .u8 0, .int .u8 0, .int .u8 0, .int .u8 0, .int .u8 0, .int .u8 0, .int .u8 0, .int .u8 0, .int .u8 0, .int .u8 0, .int .u8 0, .int .u8 0, .int .u8 0, .int .u8 0, .int .u8 0, .int .u8 0, .int .u8 0, .int .u8 0, .int .u8 0, .int .u8 0, .int .u8 0, .int .u8 0, .int .u8 0, .int .u8 0, .int .u8 0] 25)).alloc (.cells #[.int .u8 0, .int .u8 0, .int .u8 0, .int .u8 0, .int .u8 0, .int .u8 0, .int .u8 0, .int .u8 0, .int .u8 0, .int .u8 0, .int .u8 0, .int .u8 0, .int .u8 0, .int .u8 0, .int .u8 0, .int .u8 0, .int .u8 0, .int .u8 0, .int .u8 0, .int .u8 0, .int .u8 0, .int .u8 0, .int .u8 0, .int .u8 0, .int .u8 0, .int .u8 0, .int .u8 0, .int .u8 0, .int .u8 0, .int .u8 0, .int .u8 0, .int .u8 0] 25)) (w2.heap.size + 1) #[.int .u8 0, .int .u8 0, .int .u8 0, .int .u8 0, .int .u8 0, .int .u8 0, .int .u8 0, .int .u8 0, .int .u8 0, .int .u8 0, .int .u8 0, .int .u8 0, .int .u8 0, .int .u8 0, .int .u8 0, .int .u8 0, .int .u8 0, .int .u8 0, .int .u8 0, .int .u8 0, .int .u8 0, .int .u8 0, .int .u8 0, .int .u8 0, .int .u8 0, .int .u8 0, .int .u8 0, .int .u8 0, .int .u8 0, .int .u8 0, .int .u8 0, .int .u8 0] 25 := Blk.new2 w2 _ _ _
  have kk : Kept None w ((w2.alloc (.cells #[.int .u8 0, .int .u8 0, .int .u8 0, .int .u8 0, .int .u8 0, .int .u8 0, .int .u8 0, .int .u8 0, .int .u8 0, .int .u8 0, .int .u8 0, .int .u8 0, .int .u8 0, .int .u8 0, .int .u8 0, .int .u8 0, .int .u8 0, .int .u8 0, .int .u8 0, .int .u8 0, .int .u8 0, .int .u8 0, .int .u8 0, .int .u8 0, .int .u8 0, .int .u8 0, .int .u8 0, .int .u8 0, .int .u8 0, .int .u8 0, .int .u8 0, .int .u8 0] 25)).alloc (.cells #[.int .u8 0, .int .u8 0, .int .u8 0, .int .u8 0, .int .u8 0, .int .u8 0, .int .u8 0, .int .u8 0, .int .u8 0, .int .u8 0, .int .u8 0, .int .u8 0, .int .u8 0, .int .u8 0, .int .u8 0, .int .u8 0, .int .u8 0, .int .u8 0, .int .u8 0, .int .u8 0, .int .u8 0, .int .u8 0, .int .u8 0, .int .u8 0, .int .u8 0, .int .u8 0, .int .u8 0, .int .u8 0, .int .u8 0, .int .u8 0, .int .u8 0, .int .u8 0] 25)) := (k02.alloc _).alloc _
  obtain ⟨z1, hz1, hZ1⟩ := Blk.any (n := 32) v1 (by rfl)
  obtain ⟨z2, hz2, hZ2⟩ := Blk.any (n := 32) v2 (by rfl)
  have X1 := hid (hz1.trans HS.out.1.symm)
  have X2 := hid (hz2.trans HS.out.2.1.symm)
  have HK2 := hid k02.size
  clear v1 v2 hz1 hz2 k02
  go_wp2_with (first | (refine wpList_store_blk rfl _ _ _ rfl rfl rfl hZ1 aA X1.out HS.out.2.2.1 ?_; intro w3 h3 k3; have hZ2' := hZ2.kept k3 (fun h => by have h : w2.heap.size + 1 = w2.heap.size := h; omega); have k03 := kk.then k3 (fun i hi (h : i = w2.heap.size) => (by have := HK2.out; omega)); clear k3 hZ2 kk) | (refine wpList_store_blk rfl _ _ _ rfl rfl rfl hZ2' aB X2.out HS.out.2.2.2 ?_; intro w4 h4 k4; have h34 := h3.kept k4 (fun h => by have h : w2.heap.size = w2.heap.size + 1 := h; omega); have k04 := k03.then k4 (fun i hi (h : i = w2.heap.size + 1) => (by have := HK2.out; omega)); clear k4 k03) | (refine wpList_load_blk rfl _ _ rfl rfl h34 aA ?_) | (refine wpList_load_blk rfl _ _ rfl rfl h4 aB ?_; refine wpList_two_hash rfl _ _ _ rfl Hk.rtHashes rfl rfl HS.out.1 HS.out.2.1 ?_) | fail)
  have ka : Kept None w4 (w4.alloc (.cells (AA ++ BB) 25)) := (Kept.refl _ _).alloc _
  have i5 : Rh 0 (w4.alloc (.cells (AA ++ BB) 25)) (.slice (some ⟨w4.heap.size, 0, none⟩) 2 2) [a, b] := by
    have h := Blk.new w4 (AA ++ BB) 25
    rw [HA.out.1, HA.out.2] at h ⊢
    exact ⟨_, (Hs.two h HAB.out.1 HAB.out.2).wider' (Nat.zero_le _)⟩
  have k05 := k04.trans ka
  have BA := hid (h34.kept ka (fun h => h))
  have BBk := hid (h4.kept ka (fun h => h))
  have I5 := hid i5
  have K5 := hid k05
  clear ka i5 k05 h34 h4 k04 hZ1 hZ2' h3
  refine (FP.out _ _ I5.out).mono ?_
  rintro e w6 ⟨u, rfl, k6, p6⟩
  obtain ⟨a6, c6, rfl⟩ := Ho.form p6
  have P6a := hid p6.rh
  have BA6 := hid (BA.out.kept k6 (fun h => h))
  have BB6 := hid (BBk.out.kept k6 (fun h => h))
  have I6 := hid (I5.out.kept k6)
  have K6 := hid (K5.out.trans k6)
  clear k6 p6 BA BBk I5 K5
  go_wp2_with fail
  refine (FO.out _ _ I6.out).mono ?_
  rintro e w7 ⟨rfl, e7⟩
  rw [← e7]
  clear e7
  have I5 := I6
  have P6 : Hid (Rh 0 w6 (.slice a6 1 c6) [a]) := hid (P6a.out.mono (Nat.zero_le _))
  obtain ⟨b6, o6, hab, rg6⟩ : ∃ b o, a6 = some ⟨b, o, none⟩ ∧ w6.rangeAt b o (a.map u8v) := by
    obtain ⟨hi, h⟩ := P6.out
    obtain ⟨b, o, e1, e2⟩ := h.at (i := 0) (by simp)
    exact ⟨b, o, e1, by simpa using e2⟩
  obtain rfl := hab
  have aL : AggTy Try.prog 25 (a.map u8v).length := Hk.aH32' HAB.out.1
  have RG6 := hid rg6
  clear rg6 P6a
  go_wp2_with fail
  have ht : Tame [.val 5 (.agg RR), .val 8 (.agg RR), .val 32 (.agg RR), .val 35 (.bool true), .val 38 (.int .i64 4), .val 42 (.int .i64 0), .raw 5 47 w6.heap.size ([Go.Pm.byteOf 97]), .bytes 48 ([Go.Pm.byteOf 97]) [47], .val 49 (.agg AA) [48]] := Go.Pm.Tame.val (Go.Pm.Tame.val (Go.Pm.Tame.val (Go.Pm.Tame.val (Go.Pm.Tame.val (Go.Pm.Tame.val (Go.Pm.Tame.raw (Go.Pm.Tame.bytes (Go.Pm.Tame.val (Go.Pm.Tame.nil)))))))))
  have hs := ht.steady
  refine wp_region_kn w6 _ hs (Kept.refl _ _) (by kernel_rfl) (by kernel_rfl) (by kernel_rfl) ?_
  refine wpPar_pure rfl (by rfl) _ (fun W hW => by first | exact exec_load_blk _ _ rfl rfl (BA6.out.kept hW (fun h => h)) aA | exact exec_load_blk _ _ rfl rfl (BB6.out.kept hW (fun h => h)) aB | (have q1 := E1.out; have q2 := E2.out; have q3 := E3.out; go_simp; exact rfl)) ?_; simp only [Act.put, List.setIfInBounds_toArray, List.set_cons_zero, List.set_cons_succ]
  refine wpPar_pure rfl (by rfl) _ (fun W hW => by first | exact exec_load_blk _ _ rfl rfl (BA6.out.kept hW (fun h => h)) aA | exact exec_load_blk _ _ rfl rfl (BB6.out.kept hW (fun h => h)) aB | (have q1 := E1.out; have q2 := E2.out; have q3 := E3.out; go_simp; exact rfl)) ?_; simp only [Act.put, List.setIfInBounds_toArray, List.set_cons_zero, List.set_cons_succ]
  iterate 2 (refine wpPar_pure rfl (by rfl) _ (fun W hW => by
      have q1 := E1.out
      have q2 := E2.out
      have q3 := E3.out
      go_simp
      exact rfl) ?_; simp only [Act.put, List.setIfInBounds_toArray, List.set_cons_zero, List.set_cons_succ])
  refine wpPar_pure rfl (by kernel_rfl) _ (fun W hW => by
      have q1 := E1.out
      have q2 := E2.out
      have q3 := E3.out
      go_simp
      exact rfl) ?_; simp only [Act.put, List.setIfInBounds_toArray, List.set_cons_zero, List.set_cons_succ]
  refine wpKn_adds hs rfl (by kernel_rfl) (fun W hW hd => ?_) (fun v5 hv => ?_)
  · unfold Gives
    go_simp
    refine gives_call (FRoot.out _ W (I5.out.kept hW)) ?_
    rintro e w3 ⟨rfl, k3⟩
    exact ⟨_, rfl, k3, rfl, trivial⟩
  obtain rfl : v5 = .agg RR := hv
  simp only [Act.put, List.setIfInBounds_toArray, List.set_cons_zero, List.set_cons_succ]
  refine wpPar_pure rfl (by kernel_rfl) _ (fun W hW => by first | exact exec_load_blk _ _ rfl rfl (BA6.out.kept hW (fun h => h)) aA | exact exec_load_blk _ _ rfl rfl (BB6.out.kept hW (fun h => h)) aB | (have q1 := E1.out; have q2 := E2.out; have q3 := E3.out; go_simp; exact rfl)) ?_; simp only [Act.put, List.setIfInBounds_toArray, List.set_cons_zero, List.set_cons_succ]
  refine wpPar_pure rfl (by kernel_rfl) _ (fun W hW => by first | exact exec_load_blk _ _ rfl rfl (BA6.out.kept hW (fun h => h)) aA | exact exec_load_blk _ _ rfl rfl (BB6.out.kept hW (fun h => h)) aB | (have q1 := E1.out; have q2 := E2.out; have q3 := E3.out; go_simp; exact rfl)) ?_; simp only [Act.put, List.setIfInBounds_toArray, List.set_cons_zero, List.set_cons_succ]
  refine wpKn_adds hs rfl (by kernel_rfl) (fun W hW hd => ?_) (fun v8 hv => ?_)
  · unfold Gives
    go_simp
    refine gives_call (FN.out W) ?_
    rintro e w3 ⟨rfl, k3⟩
    exact ⟨_, rfl, k3, rfl, trivial⟩
  obtain rfl : v8 = .agg RR := hv
  simp only [Act.put, List.setIfInBounds_toArray, List.set_cons_zero, List.set_cons_succ]
  refine wpPar_pure rfl (by kernel_rfl) _ (fun W hW => by
      have q1 := E1.out
      have q2 := E2.out
      have q3 := E3.out
      go_simp
      exact rfl) ?_; simp only [Act.put, List.setIfInBounds_toArray, List.set_cons_zero, List.set_cons_succ]
  iterate 2 (refine wpPar_pure rfl (by rfl) _ (fun W hW => by
      have q1 := E1.out
      have q2 := E2.out
      have q3 := E3.out
      go_simp
      exact rfl) ?_; simp only [Act.put, List.setIfInBounds_toArray, List.set_cons_zero, List.set_cons_succ])
  refine wpPar_pure rfl (by kernel_rfl) _ (fun W hW => by
      have q1 := E1.out
      have q2 := E2.out
      have q3 := E3.out
      go_simp
      exact rfl) ?_; simp only [Act.put, List.setIfInBounds_toArray, List.set_cons_zero, List.set_cons_succ]
  iterate 2 (refine wpPar_pure rfl (by rfl) _ (fun W hW => by
      have q1 := E1.out
      have q2 := E2.out
      have q3 := E3.out
      go_simp
      exact rfl) ?_; simp only [Act.put, List.setIfInBounds_toArray, List.set_cons_zero, List.set_cons_succ])
  refine wpPar_pure rfl (by kernel_rfl) _ (fun W hW => by
      have q1 := E1.out
      have q2 := E2.out
      have q3 := E3.out
      go_simp
      exact rfl) ?_; simp only [Act.put, List.setIfInBounds_toArray, List.set_cons_zero, List.set_cons_succ]
  refine wpPar_pure rfl (by kernel_rfl) _ (fun W hW => by
      have q1 := E1.out
      have q2 := E2.out
      have q3 := E3.out
      go_simp
      exact rfl) ?_; simp only [Act.put, List.setIfInBounds_toArray, List.set_cons_zero, List.set_cons_succ]
  refine wpPar_pure rfl (by kernel_rfl) _ (fun W hW => by
      have q1 := E1.out
      have q2 := E2.out
      have q3 := E3.out
      go_simp
      exact rfl) ?_; simp only [Act.put, List.setIfInBounds_toArray, List.set_cons_zero, List.set_cons_succ]
  iterate 2 (refine wpPar_pure rfl (by rfl) _ (fun W hW => by
      have q1 := E1.out
      have q2 := E2.out
      have q3 := E3.out
      go_simp
      exact rfl) ?_; simp only [Act.put, List.setIfInBounds_toArray, List.set_cons_zero, List.set_cons_succ])
  refine wpPar_pure rfl (by kernel_rfl) _ (fun W hW => by
      have q1 := E1.out
      have q2 := E2.out
      have q3 := E3.out
      go_simp
      exact rfl) ?_; simp only [Act.put, List.setIfInBounds_toArray, List.set_cons_zero, List.set_cons_succ]
  refine wpPar_pure rfl (by kernel_rfl) _ (fun W hW => by
      have q1 := E1.out
      have q2 := E2.out
      have q3 := E3.out
      go_simp
      exact rfl) ?_; simp only [Act.put, List.setIfInBounds_toArray, List.set_cons_zero, List.set_cons_succ]
  refine wpPar_pure rfl (by kernel_rfl) (.agg AA) (fun W hW => by rw [HA.out.1]; exact exec_load_at rfl rfl (rangeAt_kept RG6.out hW) aL) ?_; simp only [Act.put, List.setIfInBounds_toArray, List.set_cons_zero, List.set_cons_succ]
  refine wpPar_pure rfl (by kernel_rfl) _ (fun W hW => by first | exact exec_load_blk _ _ rfl rfl (BA6.out.kept hW (fun h => h)) aA | exact exec_load_blk _ _ rfl rfl (BB6.out.kept hW (fun h => h)) aB | (have q1 := E1.out; have q2 := E2.out; have q3 := E3.out; go_simp; exact rfl)) ?_; simp only [Act.put, List.setIfInBounds_toArray, List.set_cons_zero, List.set_cons_succ]
  refine wpPar_pure rfl (by kernel_rfl) _ (fun W hW => by
      have q1 := E1.out
      have q2 := E2.out
      have q3 := E3.out
      go_simp
      exact rfl) ?_; simp only [Act.put, List.setIfInBounds_toArray, List.set_cons_zero, List.set_cons_succ]
  iterate 2 (refine wpPar_pure rfl (by rfl) _ (fun W hW => by
      have q1 := E1.out
      have q2 := E2.out
      have q3 := E3.out
      go_simp
      exact rfl) ?_; simp only [Act.put, List.setIfInBounds_toArray, List.set_cons_zero, List.set_cons_succ])
  refine wpPar_pure rfl (by kernel_rfl) _ (fun W hW => by
      have q1 := E1.out
      have q2 := E2.out
      have q3 := E3.out
      go_simp
      exact rfl) ?_; simp only [Act.put, List.setIfInBounds_toArray, List.set_cons_zero, List.set_cons_succ]
  refine wpPar_pure rfl (by kernel_rfl) _ (fun W hW => by
      have q1 := E1.out
      have q2 := E2.out
      have q3 := E3.out
      go_simp
      exact rfl) ?_; simp only [Act.put, List.setIfInBounds_toArray, List.set_cons_zero, List.set_cons_succ]
  iterate 2 (refine wpPar_pure rfl (by rfl) _ (fun W hW => by
      have q1 := E1.out
      have q2 := E2.out
      have q3 := E3.out
      go_simp
      exact rfl) ?_; simp only [Act.put, List.setIfInBounds_toArray, List.set_cons_zero, List.set_cons_succ])
  refine wpPar_pure rfl (by kernel_rfl) _ (fun W hW => by
      have q1 := E1.out
      have q2 := E2.out
      have q3 := E3.out
      go_simp
      exact rfl) ?_; simp only [Act.put, List.setIfInBounds_toArray, List.set_cons_zero, List.set_cons_succ]
  refine wpKn_adds hs rfl (by kernel_rfl) (fun W hW hd => ?_) (fun v32 hv => ?_)
  · unfold Gives
    go_simp
    refine gives_call (FRoot.out _ W (I5.out.kept hW)) ?_
    rintro e w3 ⟨rfl, k3⟩
    exact ⟨_, rfl, k3, rfl, trivial⟩
  obtain rfl : v32 = .agg RR := hv
  simp only [Act.put, List.setIfInBounds_toArray, List.set_cons_zero, List.set_cons_succ]
  refine wpPar_pure rfl (by kernel_rfl) _ (fun W hW => by first | exact exec_load_blk _ _ rfl rfl (BA6.out.kept hW (fun h => h)) aA | exact exec_load_blk _ _ rfl rfl (BB6.out.kept hW (fun h => h)) aB | (have q1 := E1.out; have q2 := E2.out; have q3 := E3.out; go_simp; exact rfl)) ?_; simp only [Act.put, List.setIfInBounds_toArray, List.set_cons_zero, List.set_cons_succ]
  refine wpPar_pure rfl (by kernel_rfl) _ (fun W hW => by
      have q1 := E1.out
      have q2 := E2.out
      have q3 := E3.out
      go_simp
      exact rfl) ?_; simp only [Act.put, List.setIfInBounds_toArray, List.set_cons_zero, List.set_cons_succ]
  refine wpKn_adds hs rfl (by kernel_rfl) (fun W hW hd => ?_) (fun v35 hv => ?_)
  · unfold Gives
    go_simp
    refine gives_call (FC.out _ W (P6.out.kept hW)) ?_
    rintro e w3 ⟨rfl, k3⟩
    exact ⟨_, rfl, k3, rfl, trivial⟩
  obtain rfl : v35 = .bool true := hv
  simp only [Act.put, List.setIfInBounds_toArray, List.set_cons_zero, List.set_cons_succ]
  iterate 2 (refine wpPar_pure rfl (by rfl) _ (fun W hW => by
      have q1 := E1.out
      have q2 := E2.out
      have q3 := E3.out
      go_simp
      exact rfl) ?_; simp only [Act.put, List.setIfInBounds_toArray, List.set_cons_zero, List.set_cons_succ])
  refine wpKn_adds hs rfl (by kernel_rfl) (fun W hW hd => ?_) (fun v38 hv => ?_)
  · unfold Gives
    go_simp
    refine gives_call (FS5.out W) ?_
    rintro e w3 ⟨rfl, k3⟩
    exact ⟨_, rfl, (by subst k3; exact Kept.refl _ _), rfl, trivial⟩
  obtain rfl : v38 = .int .i64 4 := hv
  simp only [Act.put, List.setIfInBounds_toArray, List.set_cons_zero, List.set_cons_succ]
  refine wpPar_pure rfl (by kernel_rfl) _ (fun W hW => by
      have q1 := E1.out
      have q2 := E2.out
      have q3 := E3.out
      go_simp
      exact rfl) ?_; simp only [Act.put, List.setIfInBounds_toArray, List.set_cons_zero, List.set_cons_succ]
  iterate 2 (refine wpPar_pure rfl (by rfl) _ (fun W hW => by
      have q1 := E1.out
      have q2 := E2.out
      have q3 := E3.out
      go_simp
      exact rfl) ?_; simp only [Act.put, List.setIfInBounds_toArray, List.set_cons_zero, List.set_cons_succ])
  refine wpKn_adds hs rfl (by kernel_rfl) (fun W hW hd => ?_) (fun v42 hv => ?_)
  · unfold Gives
    go_simp
    refine gives_call (FS1.out W) ?_
    rintro e w3 ⟨rfl, k3⟩
    exact ⟨_, rfl, (by subst k3; exact Kept.refl _ _), rfl, trivial⟩
  obtain rfl : v42 = .int .i64 0 := hv
  simp only [Act.put, List.setIfInBounds_toArray, List.set_cons_zero, List.set_cons_succ]
  refine wpPar_pure rfl (by kernel_rfl) _ (fun W hW => by
      have q1 := E1.out
      have q2 := E2.out
      have q3 := E3.out
      go_simp
      exact rfl) ?_; simp only [Act.put, List.setIfInBounds_toArray, List.set_cons_zero, List.set_cons_succ]
  iterate 2 (refine wpPar_pure rfl (by rfl) _ (fun W hW => by
      have q1 := E1.out
      have q2 := E2.out
      have q3 := E3.out
      go_simp
      exact rfl) ?_; simp only [Act.put, List.setIfInBounds_toArray, List.set_cons_zero, List.set_cons_succ])
  refine wpPar_pure rfl (by kernel_rfl) _ (fun W hW => by first | exact exec_load_blk _ _ rfl rfl (BA6.out.kept hW (fun h => h)) aA | exact exec_load_blk _ _ rfl rfl (BB6.out.kept hW (fun h => h)) aB | (have q1 := E1.out; have q2 := E2.out; have q3 := E3.out; go_simp; exact rfl)) ?_; simp only [Act.put, List.setIfInBounds_toArray, List.set_cons_zero, List.set_cons_succ]
  refine wpKn_adds hs rfl (by kernel_rfl) (fun W hW hd => ?_) (fun v47 hv => ?_)
  · unfold Gives
    go_simp
    exact ⟨(Kept.refl None W).alloc _, ⟨_, _, rfl⟩, Raw.new 5 W w6.heap.size ([Go.Pm.byteOf 97]) #[.int .u8 97] (by rw [List.map_cons, List.map_nil, u8v_byteOf' (by decide) (by decide)]) hW.size⟩
  obtain ⟨a47, c47, rfl⟩ : ∃ a c, v47 = .slice a 1 c := hv
  simp only [Act.put, List.setIfInBounds_toArray, List.set_cons_zero, List.set_cons_succ]
  refine wpKn_mark ht rfl (by kernel_rfl) (fun W hW hd => ?_) (fun v48 hv => ?_)
  · have hr : Raw 5 W w6.heap.size (.slice a47 1 c47) ([Go.Pm.byteOf 97]) := hd 47 (List.Mem.head _)
    obtain ⟨ad, had, hcv⟩ := run_convert_raw hr tBytes' tByte
    unfold Gives
    go_simp
    exact ⟨hW.freeze ad 1 had, soft_freeze W ad 1, ⟨_, _, rfl⟩, _, _, (hr.bs (by decide)).soft (soft_freeze W ad 1)⟩
  obtain ⟨a48, c48, rfl⟩ : ∃ a c, v48 = .slice a 1 c := hv
  simp only [Act.put, List.setIfInBounds_toArray, List.set_cons_zero, List.set_cons_succ]
  refine wpKn_adds hs rfl (by kernel_rfl) (fun W hW hd => ?_) (fun v49 hv => ?_)
  · unfold Gives
    obtain ⟨lo1, hi1, b48⟩ : ∃ lo hi, Bs W lo hi (.slice a48 1 c48) [Go.Pm.byteOf 97] := hd 48 (List.Mem.head _)
    go_simp
    refine gives_call (FLr.out _ _ _ W b48) ?_
    rintro e w3 ⟨rfl, k3⟩
    exact ⟨_, rfl, k3, rfl, trivial⟩
  obtain rfl : v49 = .agg AA := hv
  simp only [Act.put, List.setIfInBounds_toArray, List.set_cons_zero, List.set_cons_succ]
  refine wpPar_pure rfl (by kernel_rfl) _ (fun W hW => by
      have q1 := E1.out
      have q2 := E2.out
      have q3 := E3.out
      go_simp
      exact rfl) ?_; simp only [Act.put, List.setIfInBounds_toArray, List.set_cons_zero, List.set_cons_succ]
  iterate 2 (refine wpPar_pure rfl (by rfl) _ (fun W hW => by
      have q1 := E1.out
      have q2 := E2.out
      have q3 := E3.out
      go_simp
      exact rfl) ?_; simp only [Act.put, List.setIfInBounds_toArray, List.set_cons_zero, List.set_cons_succ])
  refine wpPar_nil (fun W hW hG => ?_)
  have K9 := hid (K6.out.trans hW)
  clear hG hs hW
  go_wp2
  go_ret
  exact ⟨rfl, K9.out⟩
end L8
end Go.Proofs.Ytdlnikkfpfdbbaa
