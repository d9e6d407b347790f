/- Check of package grow: by contract. -/
import Derived.Test.YtkogkcaflhjlhaaClimb9
namespace Go.Pm
open Go Go.RowKit
theorem climbP_len : ∀ (hs : List (List UInt8)) (a b : Nat) (el nw : List UInt8), el.length = 32 → nw.length = 32 → (climbP hs a b el nw).1.length = 32 ∧ (climbP hs a b el nw).2.1.length = 32
  | [], _, _, _, _, h1, h2 => ⟨h1, h2⟩
  | h :: hs, a, b, el, nw, h1, h2 => by
    rw [climbP]
    by_cases hb : b = 0
    · rw [if_pos hb]; exact ⟨zero32_len, zero32_len⟩
    · rw [if_neg hb]
      by_cases ho : a % 2 = 1 ∨ a = b
      · rw [if_pos ho]; exact climbP_len hs _ _ _ _ (nodeL_len _ _) (nodeL_len _ _)
      · rw [if_neg ho]; exact climbP_len hs _ _ _ _ h1 (nodeL_len _ _)
theorem range_lt {w : World} {b o : Nat} {cs : List Value} (h : w.rangeAt b o cs) (hn : 0 < cs.length) : b < w.heap.size := block_lt_of_cell (h 0 cs[0] (by simp))
end Go.Pm
namespace Go.Proofs.Ytkogkcaflhjlhaa
open Go.RowKit Go.Pm
namespace Gr
set_option maxRecDepth 100000 in
/-- Of lengths that no elder log has. -/
theorem check_out (old new : List UInt8) (m n : Int) (v : Value) (w : World) (hi : m < 1 ∨ n < m) : Calls Try.prog 16 #[hashV old, hashV new, .int .i64 m, .int .i64 n, v] w fun e w' => e = .returned (.bool false) ∧ Kept None w w' := by
  have k0 : Kept None w ((w.alloc (.cells (old.map u8v).toArray 25)).alloc (.cells (new.map u8v).toArray 25)) := ((Kept.refl _ _).alloc _).alloc _
  by_cases h0 : m < 1
  · clear hi
    go_enter Try.func16, Try.ntmps16
    go_wp2
    go_ret
    exact ⟨rfl, k0⟩
  · have h1 : n < m := by omega
    clear hi
    go_enter Try.func16, Try.ntmps16
    go_wp2
    go_ret
    exact ⟨rfl, k0⟩
set_option maxRecDepth 100000 in
set_option maxHeartbeats 1000000 in
theorem check_all (old new : List UInt8) (path : List (List UInt8)) (n : Nat) (v : Value) (w : World) (ho : old.length = 32) (hn : new.length = 32) (hv : Rh 0 w v path) (h1 : 1 ≤ n) : Calls Try.prog 16 #[hashV old, hashV new, .int .i64 n, .int .i64 n, v] w fun e w' => e = .returned (.bool (path.length == 0 && old == new)) ∧ Kept None w w' := by
  obtain ⟨ad, cap, rfl⟩ := hv.form
  obtain ⟨N, hN⟩ : ∃ N, N = path.length := ⟨_, rfl⟩
  obtain ⟨OA, hOA⟩ : ∃ L : Array Value, L = (old.map u8v).toArray := ⟨_, rfl⟩
  obtain ⟨NA, hNA⟩ : ∃ L : Array Value, L = (new.map u8v).toArray := ⟨_, rfl⟩
  have aO : AggTy Try.prog 25 OA.size := by rw [hOA]; exact Hk.aH32 ho
  have aN : AggTy Try.prog 25 NA.size := by rw [hNA]; exact Hk.aH32 hn
  have hE := Hk.eqHash old new ho hn
  rw [← hOA, ← hNA] at hE
  obtain ⟨b1, hb1⟩ : ∃ b, b = (old == new) := ⟨_, rfl⟩
  rw [← hb1] at hE ⊢
  rw [← hN]
  show Calls Try.prog 16 #[.agg (old.map u8v).toArray, .agg (new.map u8v).toArray, .int .i64 n, .int .i64 n, .slice ad N cap] w _
  rw [← hOA, ← hNA]
  have k0 : Kept None w ((w.alloc (.cells OA 25)).alloc (.cells NA 25)) := ((Kept.refl _ _).alloc _).alloc _
  have bO : Blk ((w.alloc (.cells OA 25)).alloc (.cells NA 25)) w.heap.size OA 25 := (Blk.new w _ _).alloc _
  have bN : Blk ((w.alloc (.cells OA 25)).alloc (.cells NA 25)) (w.heap.size + 1) NA 25 := Blk.new2 w _ _ _
  have h1z : (1 : Int) ≤ (n : Int) := by omega
  clear hOA hNA ho hn hv hb1 hN h1
  by_cases h0 : N = 0
  · subst h0
    go_enter Try.func16, Try.ntmps16
    go_wp2_with (first | go_skip | (refine wpList_load_bw (by kernel_rfl) rfl rfl bO aO ?_) | (refine wpList_load_bw (by kernel_rfl) rfl rfl bN aN ?_) | fail)
    go_ret
    exact ⟨by simp, k0⟩
  · have hz : ¬ (N : Int) = 0 := by omega
    have hr : (N == 0) = false := by simpa using h0
    rw [hr]
    clear hE h0 hr
    go_enter Try.func16, Try.ntmps16
    go_wp2_with (first | go_skip | fail)
    go_ret
    exact ⟨rfl, k0⟩
set_option maxRecDepth 100000 in
set_option maxHeartbeats 2000000 in
theorem check_full (old new : List UInt8) (path : List (List UInt8)) (m n : Nat) (v : Value) (w : World) (ho : old.length = 32) (hn : new.length = 32) (hv : Rh 0 w v path) (hp : path.length ≤ 549755813888) (h1 : 1 ≤ m) (h2 : m < n) (h3 : n < 9223372036854775808) (hf : fullN m = true) (X : Trio) (hX : X = climbP path (stripO (m - 1) (n - 1)).1 (stripO (m - 1) (n - 1)).2 old old) : Calls Try.prog 16 #[hashV old, hashV new, .int .i64 m, .int .i64 n, v] w fun e w' => e = .returned (.bool (X.2.2 && (X.1 == old && X.2.1 == new))) ∧ Kept None w w' := by
  have hXl := climbP_len path (stripO (m - 1) (n - 1)).1 (stripO (m - 1) (n - 1)).2 old old ho ho
  rw [← hX] at hXl
  obtain ⟨ad, cap, rfl⟩ := hv.form
  obtain ⟨N, hN⟩ : ∃ N, N = path.length := ⟨_, rfl⟩
  obtain ⟨OA, hOA⟩ : ∃ L : Array Value, L = (old.map u8v).toArray := ⟨_, rfl⟩
  obtain ⟨NA, hNA⟩ : ∃ L : Array Value, L = (new.map u8v).toArray := ⟨_, rfl⟩
  have aO : AggTy Try.prog 25 OA.size := by rw [hOA]; exact Hk.aH32 ho
  have aN : AggTy Try.prog 25 NA.size := by rw [hNA]; exact Hk.aH32 hn
  obtain ⟨E1, hE1d⟩ : ∃ L : Array Value, L = (X.1.map u8v).toArray := ⟨_, rfl⟩
  obtain ⟨E2, hE2d⟩ : ∃ L : Array Value, L = (X.2.1.map u8v).toArray := ⟨_, rfl⟩
  have hE1 := Hk.eqHash X.1 old hXl.1 ho
  have hE2 := Hk.eqHash X.2.1 new hXl.2 hn
  rw [← hE1d, ← hOA] at hE1
  rw [← hE2d, ← hNA] at hE2
  obtain ⟨b1, hb1⟩ : ∃ b, b = (X.1 == old) := ⟨_, rfl⟩
  obtain ⟨b2, hb2⟩ : ∃ b, b = (X.2.1 == new) := ⟨_, rfl⟩
  obtain ⟨ok, hok⟩ : ∃ b, b = X.2.2 := ⟨_, rfl⟩
  rw [← hb1] at hE1
  rw [← hb2] at hE2
  rw [← hok, ← hb1, ← hb2]
  have a1 : AggTy Try.prog 25 E1.size := by rw [hE1d]; exact Hk.aH32 hXl.1
  have a2 : AggTy Try.prog 25 E2.size := by rw [hE2d]; exact Hk.aH32 hXl.2
  have s1 : E1.size = 32 := by rw [hE1d]; simpa using hXl.1
  have s2 : E2.size = 32 := by rw [hE2d]; simpa using hXl.2
  have al1 : E1.all (·.oneCell') = true := by rw [hE1d]; exact u8v_all' _
  have al2 : E2.all (·.oneCell') = true := by rw [hE2d]; exact u8v_all' _
  have HS := hid (And.intro s1 (And.intro s2 (And.intro al1 al2)))
  have HF : Hid (∀ w, Calls Try.prog 44 #[.int .i64 m] w fun e w' => e = .returned (.bool true) ∧ w = w') := hid (fun w => by rw [← hf]; exact full m w h1 (by omega))
  have HC : Hid (∀ w v, Rh 0 w v path → Calls Try.prog 45 #[.int .i64 m, .int .i64 n, .agg OA, v] w fun e w' => e = .returned (.tuple #[.agg E1, .agg E2, .bool ok]) ∧ Kept None w w') := hid (fun w v h => by rw [hOA, hE1d, hE2d, hok]; exact climb m n old path v w ho h hp h1 h2 h3 X hX)
  rw [← hN] at hv ⊢
  show Calls Try.prog 16 #[.agg (old.map u8v).toArray, .agg (new.map u8v).toArray, .int .i64 m, .int .i64 n, .slice ad N cap] w _
  rw [← hOA, ← hNA]
  have k0 : Kept None w ((w.alloc (.cells OA 25)).alloc (.cells NA 25)) := ((Kept.refl _ _).alloc _).alloc _
  have bO : Blk ((w.alloc (.cells OA 25)).alloc (.cells NA 25)) w.heap.size OA 25 := (Blk.new w _ _).alloc _
  have bN : Blk ((w.alloc (.cells OA 25)).alloc (.cells NA 25)) (w.heap.size + 1) NA 25 := Blk.new2 w _ _ _
  have h1z : (1 : Int) ≤ (m : Int) := by omega
  have h2z : (m : Int) ≤ (n : Int) := by omega
  have h3z : ¬ (m : Int) = (n : Int) := by omega
  have HV := hid hv
  obtain ⟨z0, hz0, hZ0⟩ := Blk.any (n := 32) (Blk.new3 w (.cells OA 25) (.cells NA 25) #[.int .u8 0, .int .u8 0, .int .u8 0, .int .u8 0, .int .u8 0, .int .u8 0, .int .u8 0, .int .u8 0, .int .u8 0, .int .u8 0, .int .u8 0, .int .u8 0, .int .u8 0, .int .u8 0, .int .u8 0, .int .u8 0, .int .u8 0, .int .u8 0, .int .u8 0, .int .u8 0, .int .u8 0, .int .u8 0, .int .u8 0, .int .u8 0, .int .u8 0, .int .u8 0, .int .u8 0, .int .u8 0, .int .u8 0, .int .u8 0, .int .u8 0, .int .u8 0] 25) (by rfl)
  have sO : OA.size = 32 := by rw [hOA]; simpa using ho
  have allO : OA.all (·.oneCell') = true := by rw [hOA]; exact u8v_all' _
  have EO := hid (And.intro (hz0.trans sO.symm) allO)
  rw [← hN] at hp
  clear hOA hNA ho hn hv hb1 hb2 hok hE1d hE2d s1 s2 al1 al2 hXl hX hf h1 h2 h3 hN hp hz0 sO allO
  go_enter Try.func16, Try.ntmps16
  go_wp2_with (first | (refine wpList_load_blk rfl _ _ rfl rfl bO aO ?_) | (refine wpList_store_blk rfl _ _ _ rfl rfl rfl hZ0 aO EO.out.1 EO.out.2 ?_; intro w3 h3 k3) | fail)
  replace k0 : Kept None w w3 := (k0.alloc _).then k3 (fun i hi (h : i = w.heap.size + 2) => by omega)
  replace bO := (bO.alloc (.cells #[.int .u8 0, .int .u8 0, .int .u8 0, .int .u8 0, .int .u8 0, .int .u8 0, .int .u8 0, .int .u8 0, .int .u8 0, .int .u8 0, .int .u8 0, .int .u8 0, .int .u8 0, .int .u8 0, .int .u8 0, .int .u8 0, .int .u8 0, .int .u8 0, .int .u8 0, .int .u8 0, .int .u8 0, .int .u8 0, .int .u8 0, .int .u8 0, .int .u8 0, .int .u8 0, .int .u8 0, .int .u8 0, .int .u8 0, .int .u8 0, .int .u8 0, .int .u8 0] 25)).kept k3 (fun (h : w.heap.size = w.heap.size + 2) => by omega)
  replace bN := (bN.alloc (.cells #[.int .u8 0, .int .u8 0, .int .u8 0, .int .u8 0, .int .u8 0, .int .u8 0, .int .u8 0, .int .u8 0, .int .u8 0, .int .u8 0, .int .u8 0, .int .u8 0, .int .u8 0, .int .u8 0, .int .u8 0, .int .u8 0, .int .u8 0, .int .u8 0, .int .u8 0, .int .u8 0, .int .u8 0, .int .u8 0, .int .u8 0, .int .u8 0, .int .u8 0, .int .u8 0, .int .u8 0, .int .u8 0, .int .u8 0, .int .u8 0, .int .u8 0, .int .u8 0] 25)).kept k3 (fun (h : w.heap.size + 1 = w.heap.size + 2) => by omega)
  refine (HF.out _).mono ?_
  rintro e w3 ⟨rfl, rfl⟩
  go_wp2_with (first | (refine wpList_load_blk rfl _ _ rfl rfl h3 aO ?_) | fail)
  have HC3 := hid (HC.out _ _ (HV.out.kept k0))
  clear h3 k3 hZ0 EO HC HF HV
  refine HC3.out.mono ?_
  rintro e w2 ⟨rfl, k2⟩
  have k02 := k0.trans k2
  have bO2 := bO.kept k2 (fun h => h)
  have bN2 := bN.kept k2 (fun h => h)
  obtain ⟨z, hz, hZ⟩ := Blk.any (n := 32) ((Blk.new w2 #[.int .u8 0, .int .u8 0, .int .u8 0, .int .u8 0, .int .u8 0, .int .u8 0, .int .u8 0, .int .u8 0, .int .u8 0, .int .u8 0, .int .u8 0, .int .u8 0, .int .u8 0, .int .u8 0, .int .u8 0, .int .u8 0, .int .u8 0, .int .u8 0, .int .u8 0, .int .u8 0, .int .u8 0, .int .u8 0, .int .u8 0, .int .u8 0, .int .u8 0, .int .u8 0, .int .u8 0, .int .u8 0, .int .u8 0, .int .u8 0, .int .u8 0, .int .u8 0] 25).alloc (.cells #[.int .u8 0, .int .u8 0, .int .u8 0, .int .u8 0, .int .u8 0, .int .u8 0, .int .u8 0, .int .u8 0, .int .u8 0, .int .u8 0, .int .u8 0, .int .u8 0, .int .u8 0, .int .u8 0, .int .u8 0, .int .u8 0, .int .u8 0, .int .u8 0, .int .u8 0, .int .u8 0, .int .u8 0, .int .u8 0, .int .u8 0, .int .u8 0, .int .u8 0, .int .u8 0, .int .u8 0, .int .u8 0, .int .u8 0, .int .u8 0, .int .u8 0, .int .u8 0] 25)) (by rfl)
  obtain ⟨zq, hzq, hZ2⟩ := Blk.any (n := 32) (Blk.new2 w2 (.cells #[.int .u8 0, .int .u8 0, .int .u8 0, .int .u8 0, .int .u8 0, .int .u8 0, .int .u8 0, .int .u8 0, .int .u8 0, .int .u8 0, .int .u8 0, .int .u8 0, .int .u8 0, .int .u8 0, .int .u8 0, .int .u8 0, .int .u8 0, .int .u8 0, .int .u8 0, .int .u8 0, .int .u8 0, .int .u8 0, .int .u8 0, .int .u8 0, .int .u8 0, .int .u8 0, .int .u8 0, .int .u8 0, .int .u8 0, .int .u8 0, .int .u8 0, .int .u8 0] 25) #[.int .u8 0, .int .u8 0, .int .u8 0, .int .u8 0, .int .u8 0, .int .u8 0, .int .u8 0, .int .u8 0, .int .u8 0, .int .u8 0, .int .u8 0, .int .u8 0, .int .u8 0, .int .u8 0, .int .u8 0, .int .u8 0, .int .u8 0, .int .u8 0, .int .u8 0, .int .u8 0, .int .u8 0, .int .u8 0, .int .u8 0, .int .u8 0, .int .u8 0, .int .u8 0, .int .u8 0, .int .u8 0, .int .u8 0, .int .u8 0, .int .u8 0, .int .u8 0] 25) (by rfl)
  have EZ := hid (And.intro (hz.trans HS.out.1.symm) (hzq.trans HS.out.2.1.symm))
  clear hz hzq k0 k2 bO bN
  cases ok with
  | false =>
    clear hE1 hE2
    go_wp2_with (first | go_skip | (refine wpList_store_blk rfl _ _ _ rfl rfl rfl hZ a1 EZ.out.1 HS.out.2.2.1 ?_; intro w4 h4 k4; have hZ4 := hZ2.kept k4 (fun (h : w2.heap.size + 1 = w2.heap.size) => by omega)) | (refine wpList_store_blk rfl _ _ _ rfl rfl rfl hZ4 a2 EZ.out.2 HS.out.2.2.2 ?_; intro w5 h5 k5; have h45 := h4.kept k5 (fun (h : w2.heap.size = w2.heap.size + 1) => by omega); have k25 : Kept None w2 w5 := ((((Kept.refl None w2).alloc _).alloc _).then k4 (fun i hi (h : i = w2.heap.size) => by omega)).then k5 (fun i hi (h : i = w2.heap.size + 1) => by omega); have bO5 := bO2.kept k25 (fun h => h); have bN5 := bN2.kept k25 (fun h => h)) | fail)
    go_ret
    exact ⟨rfl, k02.trans k25⟩
  | true =>
    cases b1 with
    | false =>
      clear hE2
      go_wp2_with (first | go_skip | (refine wpList_store_blk rfl _ _ _ rfl rfl rfl hZ a1 EZ.out.1 HS.out.2.2.1 ?_; intro w4 h4 k4; have hZ4 := hZ2.kept k4 (fun (h : w2.heap.size + 1 = w2.heap.size) => by omega)) | (refine wpList_store_blk rfl _ _ _ rfl rfl rfl hZ4 a2 EZ.out.2 HS.out.2.2.2 ?_; intro w5 h5 k5; have h45 := h4.kept k5 (fun (h : w2.heap.size = w2.heap.size + 1) => by omega); have k25 : Kept None w2 w5 := ((((Kept.refl None w2).alloc _).alloc _).then k4 (fun i hi (h : i = w2.heap.size) => by omega)).then k5 (fun i hi (h : i = w2.heap.size + 1) => by omega); have bO5 := bO2.kept k25 (fun h => h); have bN5 := bN2.kept k25 (fun h => h)) | (refine wpList_load_bw (by kernel_rfl) rfl rfl h45 a1 ?_) | (refine wpList_load_bw (by kernel_rfl) rfl rfl bO5 aO ?_) | fail)
      go_ret
      exact ⟨rfl, k02.trans k25⟩
    | true =>
      go_wp2_with (first | go_skip | (refine wpList_store_blk rfl _ _ _ rfl rfl rfl hZ a1 EZ.out.1 HS.out.2.2.1 ?_; intro w4 h4 k4; have hZ4 := hZ2.kept k4 (fun (h : w2.heap.size + 1 = w2.heap.size) => by omega)) | (refine wpList_store_blk rfl _ _ _ rfl rfl rfl hZ4 a2 EZ.out.2 HS.out.2.2.2 ?_; intro w5 h5 k5; have h45 := h4.kept k5 (fun (h : w2.heap.size = w2.heap.size + 1) => by omega); have k25 : Kept None w2 w5 := ((((Kept.refl None w2).alloc _).alloc _).then k4 (fun i hi (h : i = w2.heap.size) => by omega)).then k5 (fun i hi (h : i = w2.heap.size + 1) => by omega); have bO5 := bO2.kept k25 (fun h => h); have bN5 := bN2.kept k25 (fun h => h)) | (refine wpList_load_bw (by kernel_rfl) rfl rfl h45 a1 ?_) | (refine wpList_load_bw (by kernel_rfl) rfl rfl bO5 aO ?_) | (refine wpList_load_bw (by kernel_rfl) rfl rfl h5 a2 ?_) | (refine wpList_load_bw (by kernel_rfl) rfl rfl bN5 aN ?_) | fail)
      go_ret
      exact ⟨rfl, k02.trans k25⟩
set_option maxRecDepth 100000 in
set_option maxHeartbeats 2000000 in
theorem check_none (old new : List UInt8) (m n : Nat) (v : Value) (w : World) (ho : old.length = 32) (hv : Rh 0 w v []) (h1 : 1 ≤ m) (h2 : m < n) (h3 : n < 9223372036854775808) (hf : fullN m = false) : Calls Try.prog 16 #[hashV old, hashV new, .int .i64 m, .int .i64 n, v] w fun e w' => e = .returned (.bool false) ∧ Kept None w w' := by
  obtain ⟨ad, cap, rfl⟩ := hv.form
  obtain ⟨OA, hOA⟩ : ∃ L : Array Value, L = (old.map u8v).toArray := ⟨_, rfl⟩
  obtain ⟨NA, hNA⟩ : ∃ L : Array Value, L = (new.map u8v).toArray := ⟨_, rfl⟩
  have aO : AggTy Try.prog 25 OA.size := by rw [hOA]; exact Hk.aH32 ho
  have HF : Hid (∀ w, Calls Try.prog 44 #[.int .i64 m] w fun e w' => e = .returned (.bool false) ∧ w = w') := hid (fun w => by rw [← hf]; exact full m w h1 (by omega))
  show Calls Try.prog 16 #[.agg (old.map u8v).toArray, .agg (new.map u8v).toArray, .int .i64 m, .int .i64 n, .slice ad 0 cap] w _
  rw [← hOA, ← hNA]
  have k0 : Kept None w ((w.alloc (.cells OA 25)).alloc (.cells NA 25)) := ((Kept.refl _ _).alloc _).alloc _
  have bO : Blk ((w.alloc (.cells OA 25)).alloc (.cells NA 25)) w.heap.size OA 25 := (Blk.new w _ _).alloc _
  have h1z : (1 : Int) ≤ (m : Int) := by omega
  have h2z : (m : Int) ≤ (n : Int) := by omega
  have h3z : ¬ (m : Int) = (n : Int) := by omega
  obtain ⟨z0, hz0, hZ0⟩ := Blk.any (n := 32) (Blk.new3 w (.cells OA 25) (.cells NA 25) #[.int .u8 0, .int .u8 0, .int .u8 0, .int .u8 0, .int .u8 0, .int .u8 0, .int .u8 0, .int .u8 0, .int .u8 0, .int .u8 0, .int .u8 0, .int .u8 0, .int .u8 0, .int .u8 0, .int .u8 0, .int .u8 0, .int .u8 0, .int .u8 0, .int .u8 0, .int .u8 0, .int .u8 0, .int .u8 0, .int .u8 0, .int .u8 0, .int .u8 0, .int .u8 0, .int .u8 0, .int .u8 0, .int .u8 0, .int .u8 0, .int .u8 0, .int .u8 0] 25) (by rfl)
  have sO : OA.size = 32 := by rw [hOA]; simpa using ho
  have allO : OA.all (·.oneCell') = true := by rw [hOA]; exact u8v_all' _
  have EO := hid (And.intro (hz0.trans sO.symm) allO)
  clear hOA hNA ho hv hf h1 h2 h3 hz0 sO allO
  go_enter Try.func16, Try.ntmps16
  go_wp2_with (first | (refine wpList_load_blk rfl _ _ rfl rfl bO aO ?_) | (refine wpList_store_blk rfl _ _ _ rfl rfl rfl hZ0 aO EO.out.1 EO.out.2 ?_; intro w3 h3 k3) | fail)
  replace k0 : Kept None w w3 := (k0.alloc _).then k3 (fun i hi (h : i = w.heap.size + 2) => by omega)
  refine (HF.out _).mono ?_
  rintro e w3 ⟨rfl, rfl⟩
  go_wp2
  go_ret
  exact ⟨rfl, k0⟩
set_option maxRecDepth 100000 in
set_option maxHeartbeats 2000000 in
theorem check_part (old new p : List UInt8) (ps : List (List UInt8)) (m n : Nat) (v : Value) (w : World) (ho : old.length = 32) (hn : new.length = 32) (hv : Rh 0 w v (p :: ps)) (hp : ps.length < 549755813888) (h1 : 1 ≤ m) (h2 : m < n) (h3 : n < 9223372036854775808) (hf : fullN m = false) (X : Trio) (hX : X = climbP ps (stripO (m - 1) (n - 1)).1 (stripO (m - 1) (n - 1)).2 p p) : Calls Try.prog 16 #[hashV old, hashV new, .int .i64 m, .int .i64 n, v] w fun e w' => e = .returned (.bool (X.2.2 && (X.1 == old && X.2.1 == new))) ∧ Kept None w w' := by
  have hp32 : p.length = 32 := by
    obtain ⟨hi, hv⟩ := hv
    exact hv.1 p (by simp)
  have hXl := climbP_len ps (stripO (m - 1) (n - 1)).1 (stripO (m - 1) (n - 1)).2 p p hp32 hp32
  rw [← hX] at hXl
  obtain ⟨ad, cap, rfl⟩ := hv.form
  obtain ⟨N, hN⟩ : ∃ N, N = (p :: ps).length := ⟨_, rfl⟩
  obtain ⟨OA, hOA⟩ : ∃ L : Array Value, L = (old.map u8v).toArray := ⟨_, rfl⟩
  obtain ⟨NA, hNA⟩ : ∃ L : Array Value, L = (new.map u8v).toArray := ⟨_, rfl⟩
  have aO : AggTy Try.prog 25 OA.size := by rw [hOA]; exact Hk.aH32 ho
  have aN : AggTy Try.prog 25 NA.size := by rw [hNA]; exact Hk.aH32 hn
  obtain ⟨E1, hE1d⟩ : ∃ L : Array Value, L = (X.1.map u8v).toArray := ⟨_, rfl⟩
  obtain ⟨E2, hE2d⟩ : ∃ L : Array Value, L = (X.2.1.map u8v).toArray := ⟨_, rfl⟩
  have hE1 := Hk.eqHash X.1 old hXl.1 ho
  have hE2 := Hk.eqHash X.2.1 new hXl.2 hn
  rw [← hE1d, ← hOA] at hE1
  rw [← hE2d, ← hNA] at hE2
  obtain ⟨b1, hb1⟩ : ∃ b, b = (X.1 == old) := ⟨_, rfl⟩
  obtain ⟨b2, hb2⟩ : ∃ b, b = (X.2.1 == new) := ⟨_, rfl⟩
  obtain ⟨ok, hok⟩ : ∃ b, b = X.2.2 := ⟨_, rfl⟩
  rw [← hb1] at hE1
  rw [← hb2] at hE2
  rw [← hok, ← hb1, ← hb2]
  have a1 : AggTy Try.prog 25 E1.size := by rw [hE1d]; exact Hk.aH32 hXl.1
  have a2 : AggTy Try.prog 25 E2.size := by rw [hE2d]; exact Hk.aH32 hXl.2
  have s1 : E1.size = 32 := by rw [hE1d]; simpa using hXl.1
  have s2 : E2.size = 32 := by rw [hE2d]; simpa using hXl.2
  have al1 : E1.all (·.oneCell') = true := by rw [hE1d]; exact u8v_all' _
  have al2 : E2.all (·.oneCell') = true := by rw [hE2d]; exact u8v_all' _
  have HS := hid (And.intro s1 (And.intro s2 (And.intro al1 al2)))
  have g2' : cap ≤ 9223372036854775807 := by
    obtain ⟨hi, hv⟩ := hv
    obtain ⟨_, _, q, _, q2, _⟩ := hv.form
    injection q with _ _ q
    omega
  rw [← hN] at hv ⊢
  have hN1 : 1 ≤ N := by rw [hN]; simp
  obtain ⟨bb, o, rfl, rp⟩ : ∃ b o, ad = some ⟨b, o, none⟩ ∧ w.rangeAt b o (p.map u8v) := by
    obtain ⟨hi, hv⟩ := hv
    obtain ⟨b, o, e1, e2⟩ := hv.at (i := 0) (by simp)
    exact ⟨b, o, e1, by simpa using e2⟩
  have hN0 : 0 < N := hN1
  have i9 : Rh 0 w (.slice (if cap = 1 then some ⟨bb, o, none⟩ else some ⟨bb, o + 32, none⟩) (N - 1) (cap - 1)) ps := by
    obtain ⟨hi, hv⟩ := hv
    have hc := Hs.cut hv 1 N (by omega) (Nat.le_refl _)
    rw [List.take_of_length_le (by rw [hN]; exact Nat.le_refl _), List.drop_one, List.tail_cons] at hc
    exact ⟨hi, hc⟩
  obtain ⟨CP, hCP⟩ : ∃ C : List Value, C = p.map u8v := ⟨_, rfl⟩
  obtain ⟨PA, hPA⟩ : ∃ P : Array Value, P = CP.toArray := ⟨_, rfl⟩
  rw [← hCP] at rp
  have aP : AggTy Try.prog 25 CP.length := by rw [hCP]; exact Hk.aH32' hp32
  have aPA : AggTy Try.prog 25 PA.size := by rw [hPA, hCP]; exact Hk.aH32 hp32
  have sPA : PA.size = 32 := by rw [hPA, hCP]; simpa using hp32
  have allP : PA.all (·.oneCell') = true := by rw [hPA, hCP]; exact u8v_all' _
  have HBB := hid (range_lt rp (by rw [hCP, List.length_map, hp32]; decide))
  have HF : Hid (∀ w, Calls Try.prog 44 #[.int .i64 m] w fun e w' => e = .returned (.bool false) ∧ w = w') := hid (fun w => by rw [← hf]; exact full m w h1 (by omega))
  have HC : Hid (∀ w v, Rh 0 w v ps → Calls Try.prog 45 #[.int .i64 m, .int .i64 n, .agg PA, v] w fun e w' => e = .returned (.tuple #[.agg E1, .agg E2, .bool ok]) ∧ Kept None w w') := hid (fun w v h => by rw [hPA, hCP, hE1d, hE2d, hok]; exact climb m n p ps v w hp32 h (by omega) h1 h2 h3 X hX)
  show Calls Try.prog 16 #[.agg (old.map u8v).toArray, .agg (new.map u8v).toArray, .int .i64 m, .int .i64 n, .slice (some ⟨bb, o, none⟩) N cap] w _
  rw [← hOA, ← hNA]
  have k0 : Kept None w ((w.alloc (.cells OA 25)).alloc (.cells NA 25)) := ((Kept.refl _ _).alloc _).alloc _
  have bO : Blk ((w.alloc (.cells OA 25)).alloc (.cells NA 25)) w.heap.size OA 25 := (Blk.new w _ _).alloc _
  have bN : Blk ((w.alloc (.cells OA 25)).alloc (.cells NA 25)) (w.heap.size + 1) NA 25 := Blk.new2 w _ _ _
  have h1z : (1 : Int) ≤ (m : Int) := by omega
  have h2z : (m : Int) ≤ (n : Int) := by omega
  have h3z : ¬ (m : Int) = (n : Int) := by omega
  have hNz : ¬ (N : Int) = 0 := by omega
  have hNo : (1 : Int) ≤ (N : Int) := by omega
  have HIS := hid i9
  obtain ⟨z0, hz0, hZ0⟩ := Blk.any (n := 32) (Blk.new3 w (.cells OA 25) (.cells NA 25) #[.int .u8 0, .int .u8 0, .int .u8 0, .int .u8 0, .int .u8 0, .int .u8 0, .int .u8 0, .int .u8 0, .int .u8 0, .int .u8 0, .int .u8 0, .int .u8 0, .int .u8 0, .int .u8 0, .int .u8 0, .int .u8 0, .int .u8 0, .int .u8 0, .int .u8 0, .int .u8 0, .int .u8 0, .int .u8 0, .int .u8 0, .int .u8 0, .int .u8 0, .int .u8 0, .int .u8 0, .int .u8 0, .int .u8 0, .int .u8 0, .int .u8 0, .int .u8 0] 25) (by rfl)
  have sO : OA.size = 32 := by rw [hOA]; simpa using ho
  have allO : OA.all (·.oneCell') = true := by rw [hOA]; exact u8v_all' _
  have EO := hid (And.intro (hz0.trans sO.symm) allO)
  have EP := hid (And.intro (sO.trans sPA.symm) allP)
  have HPA := hid hPA
  have HRP := hid rp
  clear hOA hNA ho hn hv hb1 hb2 hok hE1d hE2d s1 s2 al1 al2 hXl hX hf h1 h2 h3 hN hp hz0 sO allO hCP hPA hp32 sPA allP i9 rp hN1
  go_enter Try.func16, Try.ntmps16
  go_wp2_with (first | (refine wpList_load_blk rfl _ _ rfl rfl bO aO ?_) | (refine wpList_store_blk rfl _ _ _ rfl rfl rfl hZ0 aO EO.out.1 EO.out.2 ?_; intro w3 h3 k3) | fail)
  replace k0 : Kept None w w3 := (k0.alloc _).then k3 (fun i hi (h : i = w.heap.size + 2) => by omega)
  replace bO := (bO.alloc (.cells #[.int .u8 0, .int .u8 0, .int .u8 0, .int .u8 0, .int .u8 0, .int .u8 0, .int .u8 0, .int .u8 0, .int .u8 0, .int .u8 0, .int .u8 0, .int .u8 0, .int .u8 0, .int .u8 0, .int .u8 0, .int .u8 0, .int .u8 0, .int .u8 0, .int .u8 0, .int .u8 0, .int .u8 0, .int .u8 0, .int .u8 0, .int .u8 0, .int .u8 0, .int .u8 0, .int .u8 0, .int .u8 0, .int .u8 0, .int .u8 0, .int .u8 0, .int .u8 0] 25)).kept k3 (fun (h : w.heap.size = w.heap.size + 2) => by omega)
  replace bN := (bN.alloc (.cells #[.int .u8 0, .int .u8 0, .int .u8 0, .int .u8 0, .int .u8 0, .int .u8 0, .int .u8 0, .int .u8 0, .int .u8 0, .int .u8 0, .int .u8 0, .int .u8 0, .int .u8 0, .int .u8 0, .int .u8 0, .int .u8 0, .int .u8 0, .int .u8 0, .int .u8 0, .int .u8 0, .int .u8 0, .int .u8 0, .int .u8 0, .int .u8 0, .int .u8 0, .int .u8 0, .int .u8 0, .int .u8 0, .int .u8 0, .int .u8 0, .int .u8 0, .int .u8 0] 25)).kept k3 (fun (h : w.heap.size + 1 = w.heap.size + 2) => by omega)
  refine (HF.out _).mono ?_
  rintro e w3 ⟨rfl, rfl⟩
  have RP := hid (rangeAt_kept HRP.out k0)
  clear HF HRP k3 hZ0
  go_wp2_with fail
  refine wp_region_blk w3 [w.heap.size + 2] 25 [.blk 5 0 PA [7] [7], .blk 7 0 OA [] []] [7] (Kept.refl _ _) (by kernel_rfl) (by kernel_rfl) (by kernel_rfl) (by decide) ?_ ?_
  · intro k hk
    simp only [List.mem_cons, List.not_mem_nil, or_false] at hk
    rcases hk with rfl
    · exact Blk.drew (h3)
  refine wpPar_pure rfl (by rfl) _ (fun W hW => by
      go_simp
      exact rfl) ?_; simp only [Act.put, List.setIfInBounds_toArray, List.set_cons_zero, List.set_cons_succ]
  refine wpPar_pure rfl (by rfl) _ (fun W hW => by
      go_simp
      exact rfl) ?_; simp only [Act.put, List.setIfInBounds_toArray, List.set_cons_zero, List.set_cons_succ]
  refine wpPar_pure rfl (by rfl) (.agg PA) (fun W hW => by rw [HPA.out]; exact exec_load_at rfl rfl (range_keptS RP.out hW (fun h => by have := HBB.out; simp only [List.mem_cons, List.not_mem_nil, or_false] at h; omega)) aP) ?_; simp only [Act.put, List.setIfInBounds_toArray, List.set_cons_zero, List.set_cons_succ]
  refine wpPar_pure rfl (by rfl) _ (fun W hW => by
      go_simp
      exact rfl) ?_; simp only [Act.put, List.setIfInBounds_toArray, List.set_cons_zero, List.set_cons_succ]
  refine wpPar_pure rfl (by rfl) _ (fun W hW => by
      go_simp
      exact rfl) ?_; simp only [Act.put, List.setIfInBounds_toArray, List.set_cons_zero, List.set_cons_succ]
  refine wpB_store _ _ _ 0 (A := OA) rfl (by rfl) rfl rfl rfl rfl aPA EP.out.1 EP.out.2 (by simp) (by simp) (by kernel_rfl) (fun _ => trivial) (fun _ => rfl) (fun W hW hd => hd 7 (List.Mem.head _)) (fun u => ?_)
  refine wpPar_pure rfl (by rfl) _ (fun W hW => by
      go_simp
      exact rfl) ?_; simp only [Act.put, List.setIfInBounds_toArray, List.set_cons_zero, List.set_cons_succ]
  refine wpPar_nil (fun W hW hG => ?_)
  have h5 : Blk W (w.heap.size + 2) PA 25 := hG 5
  replace k0 : Kept None w W := k0.then hW (fun i hi h => by
    simp only [List.mem_cons, List.not_mem_nil, or_false] at h
    omega)
  replace bO := bO.kept hW (fun h => by
    simp only [List.mem_cons, List.not_mem_nil, or_false] at h
    omega)
  replace bN := bN.kept hW (fun h => by
    simp only [List.mem_cons, List.not_mem_nil, or_false] at h
    omega)
  clear hG hW h3
  obtain ⟨a9, ha9⟩ : ∃ a9, a9 = (if cap = 1 then some (⟨bb, o, none⟩ : Addr) else some ⟨bb, o + 32, none⟩) := ⟨_, rfl⟩
  rw [← ha9] at HIS ⊢
  clear ha9
  go_wp2_with (first | (refine wpList_load_blk rfl _ _ rfl rfl h5 aPA ?_) | fail)
  have HC3 := hid (HC.out _ _ (HIS.out.kept k0))
  clear h5 EO EP HPA RP HC HIS
  refine HC3.out.mono ?_
  rintro e w2 ⟨rfl, k2⟩
  have k02 := k0.trans k2
  have bO2 := bO.kept k2 (fun h => h)
  have bN2 := bN.kept k2 (fun h => h)
  obtain ⟨z, hz, hZ⟩ := Blk.any (n := 32) ((Blk.new w2 #[.int .u8 0, .int .u8 0, .int .u8 0, .int .u8 0, .int .u8 0, .int .u8 0, .int .u8 0, .int .u8 0, .int .u8 0, .int .u8 0, .int .u8 0, .int .u8 0, .int .u8 0, .int .u8 0, .int .u8 0, .int .u8 0, .int .u8 0, .int .u8 0, .int .u8 0, .int .u8 0, .int .u8 0, .int .u8 0, .int .u8 0, .int .u8 0, .int .u8 0, .int .u8 0, .int .u8 0, .int .u8 0, .int .u8 0, .int .u8 0, .int .u8 0, .int .u8 0] 25).alloc (.cells #[.int .u8 0, .int .u8 0, .int .u8 0, .int .u8 0, .int .u8 0, .int .u8 0, .int .u8 0, .int .u8 0, .int .u8 0, .int .u8 0, .int .u8 0, .int .u8 0, .int .u8 0, .int .u8 0, .int .u8 0, .int .u8 0, .int .u8 0, .int .u8 0, .int .u8 0, .int .u8 0, .int .u8 0, .int .u8 0, .int .u8 0, .int .u8 0, .int .u8 0, .int .u8 0, .int .u8 0, .int .u8 0, .int .u8 0, .int .u8 0, .int .u8 0, .int .u8 0] 25)) (by rfl)
  obtain ⟨zq, hzq, hZ2⟩ := Blk.any (n := 32) (Blk.new2 w2 (.cells #[.int .u8 0, .int .u8 0, .int .u8 0, .int .u8 0, .int .u8 0, .int .u8 0, .int .u8 0, .int .u8 0, .int .u8 0, .int .u8 0, .int .u8 0, .int .u8 0, .int .u8 0, .int .u8 0, .int .u8 0, .int .u8 0, .int .u8 0, .int .u8 0, .int .u8 0, .int .u8 0, .int .u8 0, .int .u8 0, .int .u8 0, .int .u8 0, .int .u8 0, .int .u8 0, .int .u8 0, .int .u8 0, .int .u8 0, .int .u8 0, .int .u8 0, .int .u8 0] 25) #[.int .u8 0, .int .u8 0, .int .u8 0, .int .u8 0, .int .u8 0, .int .u8 0, .int .u8 0, .int .u8 0, .int .u8 0, .int .u8 0, .int .u8 0, .int .u8 0, .int .u8 0, .int .u8 0, .int .u8 0, .int .u8 0, .int .u8 0, .int .u8 0, .int .u8 0, .int .u8 0, .int .u8 0, .int .u8 0, .int .u8 0, .int .u8 0, .int .u8 0, .int .u8 0, .int .u8 0, .int .u8 0, .int .u8 0, .int .u8 0, .int .u8 0, .int .u8 0] 25) (by rfl)
  have EZ := hid (And.intro (hz.trans HS.out.1.symm) (hzq.trans HS.out.2.1.symm))
  clear hz hzq k0 k2 bO bN
  cases ok with
  | false =>
    clear hE1 hE2
    go_wp2_with (first | go_skip | (refine wpList_store_blk rfl _ _ _ rfl rfl rfl hZ a1 EZ.out.1 HS.out.2.2.1 ?_; intro w4 h4 k4; have hZ4 := hZ2.kept k4 (fun (h : w2.heap.size + 1 = w2.heap.size) => by omega)) | (refine wpList_store_blk rfl _ _ _ rfl rfl rfl hZ4 a2 EZ.out.2 HS.out.2.2.2 ?_; intro w5 h5 k5; have h45 := h4.kept k5 (fun (h : w2.heap.size = w2.heap.size + 1) => by omega); have k25 : Kept None w2 w5 := ((((Kept.refl None w2).alloc _).alloc _).then k4 (fun i hi (h : i = w2.heap.size) => by omega)).then k5 (fun i hi (h : i = w2.heap.size + 1) => by omega); have bO5 := bO2.kept k25 (fun h => h); have bN5 := bN2.kept k25 (fun h => h)) | fail)
    go_ret
    exact ⟨rfl, k02.trans k25⟩
  | true =>
    cases b1 with
    | false =>
      clear hE2
      go_wp2_with (first | go_skip | (refine wpList_store_blk rfl _ _ _ rfl rfl rfl hZ a1 EZ.out.1 HS.out.2.2.1 ?_; intro w4 h4 k4; have hZ4 := hZ2.kept k4 (fun (h : w2.heap.size + 1 = w2.heap.size) => by omega)) | (refine wpList_store_blk rfl _ _ _ rfl rfl rfl hZ4 a2 EZ.out.2 HS.out.2.2.2 ?_; intro w5 h5 k5; have h45 := h4.kept k5 (fun (h : w2.heap.size = w2.heap.size + 1) => by omega); have k25 : Kept None w2 w5 := ((((Kept.refl None w2).alloc _).alloc _).then k4 (fun i hi (h : i = w2.heap.size) => by omega)).then k5 (fun i hi (h : i = w2.heap.size + 1) => by omega); have bO5 := bO2.kept k25 (fun h => h); have bN5 := bN2.kept k25 (fun h => h)) | (refine wpList_load_bw (by kernel_rfl) rfl rfl h45 a1 ?_) | (refine wpList_load_bw (by kernel_rfl) rfl rfl bO5 aO ?_) | fail)
      go_ret
      exact ⟨rfl, k02.trans k25⟩
    | true =>
      go_wp2_with (first | go_skip | (refine wpList_store_blk rfl _ _ _ rfl rfl rfl hZ a1 EZ.out.1 HS.out.2.2.1 ?_; intro w4 h4 k4; have hZ4 := hZ2.kept k4 (fun (h : w2.heap.size + 1 = w2.heap.size) => by omega)) | (refine wpList_store_blk rfl _ _ _ rfl rfl rfl hZ4 a2 EZ.out.2 HS.out.2.2.2 ?_; intro w5 h5 k5; have h45 := h4.kept k5 (fun (h : w2.heap.size = w2.heap.size + 1) => by omega); have k25 : Kept None w2 w5 := ((((Kept.refl None w2).alloc _).alloc _).then k4 (fun i hi (h : i = w2.heap.size) => by omega)).then k5 (fun i hi (h : i = w2.heap.size + 1) => by omega); have bO5 := bO2.kept k25 (fun h => h); have bN5 := bN2.kept k25 (fun h => h)) | (refine wpList_load_bw (by kernel_rfl) rfl rfl h45 a1 ?_) | (refine wpList_load_bw (by kernel_rfl) rfl rfl bO5 aO ?_) | (refine wpList_load_bw (by kernel_rfl) rfl rfl h5 a2 ?_) | (refine wpList_load_bw (by kernel_rfl) rfl rfl bN5 aN ?_) | fail)
      go_ret
      exact ⟨rfl, k02.trans k25⟩
/-- Check. -/
theorem check (old new : List UInt8) (path : List (List UInt8)) (m n : Int) (v : Value) (w : World) (ho : old.length = 32) (hn : new.length = 32) (hv : Rh 0 w v path) (hp : path.length ≤ 549755813888) (h3 : n < 9223372036854775808) : Calls Try.prog 16 #[hashV old, hashV new, .int .i64 m, .int .i64 n, v] w fun e w' => e = .returned (.bool (grownL old new m n path)) ∧ Kept None w w' := by
  by_cases h : m < 1 ∨ n < m
  · rw [show grownL old new m n path = false by unfold grownL; rw [if_pos h]]
    exact check_out old new m n v w h
  obtain ⟨k, rfl⟩ : ∃ k : Nat, m = k := ⟨m.toNat, by omega⟩
  obtain ⟨j, rfl⟩ : ∃ k : Nat, n = k := ⟨n.toNat, by omega⟩
  by_cases he : k = j
  · subst he
    rw [grown_all _ _ _ (by omega)]
    exact check_all old new path k v w ho hn hv (by omega)
  rw [grown_climb _ _ _ _ (by omega) (by omega)]
  unfold climbC
  cases hf : fullN k with
  | true =>
    rw [if_pos rfl]
    exact check_full old new path k j v w ho hn hv hp (by omega) (by omega) (by omega) hf _ rfl
  | false =>
    rw [if_neg (by decide)]
    match path, hv, hp with
    | [], hv, _ => exact check_none old new k j v w ho hv (by omega) (by omega) (by omega) hf
    | p :: ps, hv, hp =>
      rw [List.length_cons] at hp
      exact check_part old new p ps k j v w ho hn hv (by omega) (by omega) (by omega) (by omega) hf _ rfl
end Gr
end Go.Proofs.Ytkogkcaflhjlhaa
