/- Grown of postmarkref8: by contract. -/
import Derived.Test.YtkogkcaflhjlhaaBoth9
namespace Go.Proofs.Ytkogkcaflhjlhaa
open Go.RowKit Go.Pm
namespace RGr
set_option maxRecDepth 100000 in
/-- Of lengths that no elder log has. -/
theorem grown_out (old new : List UInt8) (m n : Int) (v : Value) (w : World) (hi : m < 1 ∨ n < m) : Calls Try.prog 17 #[hashV old, hashV new, .int .i64 m, .int .i64 n, v] w fun e w' => e = .returned (.bool false) ∧ Kept None w w' := by
  have k0 : Kept None w ((w.alloc (.cells (old.map u8v).toArray 25)).alloc (.cells (new.map u8v).toArray 25)) := ((Kept.refl _ _).alloc _).alloc _
  by_cases h0 : m < 1
  · clear hi
    go_enter Try.func17, Try.ntmps17
    go_wp2
    go_ret
    exact ⟨rfl, k0⟩
  · have h1 : n < m := by omega
    clear hi
    go_enter Try.func17, Try.ntmps17
    go_wp2
    go_ret
    exact ⟨rfl, k0⟩
set_option maxRecDepth 100000 in
set_option maxHeartbeats 2000000 in
theorem grown_in (old new : List UInt8) (path : List (List UInt8)) (m n : Nat) (v : Value) (w : World) (ho : old.length = 32) (hn : new.length = 32) (hv : Rh 0 w v path) (hp : path.length ≤ 549755813888) (h1 : 1 ≤ m) (h2 : m ≤ n) (h3 : n < 9223372036854775808) (X : Trio) (hX : X = bothL old path m n true) : Calls Try.prog 17 #[hashV old, hashV new, .int .i64 m, .int .i64 n, v] w fun e w' => e = .returned (.bool (X.2.2 && (X.1 == old && X.2.1 == new))) ∧ Kept None w w' := by
  have hH : H32 path := by
    obtain ⟨hi, hv⟩ := hv
    exact hv.1
  have hXl := bothL_len ho path hH m n true
  rw [← hX] at hXl
  clear hH
  obtain ⟨ad, cap, rfl⟩ := hv.form
  obtain ⟨N, hN⟩ : ∃ N, N = path.length := ⟨_, rfl⟩
  obtain ⟨OA, hOA⟩ : ∃ L : Array Value, L = (old.map u8v).toArray := ⟨_, rfl⟩
  obtain ⟨NA, hNA⟩ : ∃ L : Array Value, L = (new.map u8v).toArray := ⟨_, rfl⟩
  have aO : AggTy Try.prog 25 OA.size := by rw [hOA]; exact Hk.aH32 ho
  have aN : AggTy Try.prog 25 NA.size := by rw [hNA]; exact Hk.aH32 hn
  obtain ⟨E1, hE1d⟩ : ∃ L : Array Value, L = (X.1.map u8v).toArray := ⟨_, rfl⟩
  obtain ⟨E2, hE2d⟩ : ∃ L : Array Value, L = (X.2.1.map u8v).toArray := ⟨_, rfl⟩
  have hE1 := Hk.eqHash X.1 old hXl.1 ho
  have hE2 := Hk.eqHash X.2.1 new hXl.2 hn
  rw [← hE1d, ← hOA] at hE1
  rw [← hE2d, ← hNA] at hE2
  obtain ⟨b1, hb1⟩ : ∃ b, b = (X.1 == old) := ⟨_, rfl⟩
  obtain ⟨b2, hb2⟩ : ∃ b, b = (X.2.1 == new) := ⟨_, rfl⟩
  obtain ⟨ok, hok⟩ : ∃ b, b = X.2.2 := ⟨_, rfl⟩
  rw [← hb1] at hE1
  rw [← hb2] at hE2
  rw [← hok, ← hb1, ← hb2]
  have a1 : AggTy Try.prog 25 E1.size := by rw [hE1d]; exact Hk.aH32 hXl.1
  have a2 : AggTy Try.prog 25 E2.size := by rw [hE2d]; exact Hk.aH32 hXl.2
  have s1 : E1.size = 32 := by rw [hE1d]; simpa using hXl.1
  have s2 : E2.size = 32 := by rw [hE2d]; simpa using hXl.2
  have al1 : E1.all (·.oneCell') = true := by rw [hE1d]; exact u8v_all' _
  have al2 : E2.all (·.oneCell') = true := by rw [hE2d]; exact u8v_all' _
  have HS := hid (And.intro s1 (And.intro s2 (And.intro al1 al2)))
  have HC : Hid (∀ w v, Rh 0 w v path → Calls Try.prog 46 #[.agg OA, .int .i64 m, .int .i64 n, .bool true, v] w fun e w' => e = .returned (.tuple #[.agg E1, .agg E2, .bool ok]) ∧ Kept None w w') := hid (fun w v h => by rw [hOA, hE1d, hE2d, hok, hX]; exact both old ho path.length path m n true v w rfl hp h h1 h2 h3)
  rw [← hN] at hv ⊢
  show Calls Try.prog 17 #[.agg (old.map u8v).toArray, .agg (new.map u8v).toArray, .int .i64 m, .int .i64 n, .slice ad N cap] w _
  rw [← hOA, ← hNA]
  have k0 : Kept None w ((w.alloc (.cells OA 25)).alloc (.cells NA 25)) := ((Kept.refl _ _).alloc _).alloc _
  have bO : Blk ((w.alloc (.cells OA 25)).alloc (.cells NA 25)) w.heap.size OA 25 := (Blk.new w _ _).alloc _
  have bN : Blk ((w.alloc (.cells OA 25)).alloc (.cells NA 25)) (w.heap.size + 1) NA 25 := Blk.new2 w _ _ _
  have h1z : (1 : Int) ≤ (m : Int) := by omega
  have h2z : (m : Int) ≤ (n : Int) := by omega
  have HV := hid hv
  clear hOA hNA ho hn hv hb1 hb2 hok hE1d hE2d s1 s2 al1 al2 hXl hX h1 h2 h3 hN hp
  go_enter Try.func17, Try.ntmps17
  go_wp2_with (first | (refine wpList_load_blk rfl _ _ rfl rfl bO aO ?_) | fail)
  refine Calls.nm ?_
  intro w1 e1
  rw [← e1] at k0 bO bN
  clear e1
  have HC3 := hid (HC.out _ _ (HV.out.kept k0))
  clear HC HV
  refine HC3.out.mono ?_
  rintro e w2 ⟨rfl, k2⟩
  have k02 := k0.trans k2
  have bO2 := bO.kept k2 (fun h => h)
  have bN2 := bN.kept k2 (fun h => h)
  obtain ⟨z, hz, hZ⟩ := Blk.any (n := 32) ((Blk.new w2 #[.int .u8 0, .int .u8 0, .int .u8 0, .int .u8 0, .int .u8 0, .int .u8 0, .int .u8 0, .int .u8 0, .int .u8 0, .int .u8 0, .int .u8 0, .int .u8 0, .int .u8 0, .int .u8 0, .int .u8 0, .int .u8 0, .int .u8 0, .int .u8 0, .int .u8 0, .int .u8 0, .int .u8 0, .int .u8 0, .int .u8 0, .int .u8 0, .int .u8 0, .int .u8 0, .int .u8 0, .int .u8 0, .int .u8 0, .int .u8 0, .int .u8 0, .int .u8 0] 25).alloc (.cells #[.int .u8 0, .int .u8 0, .int .u8 0, .int .u8 0, .int .u8 0, .int .u8 0, .int .u8 0, .int .u8 0, .int .u8 0, .int .u8 0, .int .u8 0, .int .u8 0, .int .u8 0, .int .u8 0, .int .u8 0, .int .u8 0, .int .u8 0, .int .u8 0, .int .u8 0, .int .u8 0, .int .u8 0, .int .u8 0, .int .u8 0, .int .u8 0, .int .u8 0, .int .u8 0, .int .u8 0, .int .u8 0, .int .u8 0, .int .u8 0, .int .u8 0, .int .u8 0] 25)) (by rfl)
  obtain ⟨zq, hzq, hZ2⟩ := Blk.any (n := 32) (Blk.new2 w2 (.cells #[.int .u8 0, .int .u8 0, .int .u8 0, .int .u8 0, .int .u8 0, .int .u8 0, .int .u8 0, .int .u8 0, .int .u8 0, .int .u8 0, .int .u8 0, .int .u8 0, .int .u8 0, .int .u8 0, .int .u8 0, .int .u8 0, .int .u8 0, .int .u8 0, .int .u8 0, .int .u8 0, .int .u8 0, .int .u8 0, .int .u8 0, .int .u8 0, .int .u8 0, .int .u8 0, .int .u8 0, .int .u8 0, .int .u8 0, .int .u8 0, .int .u8 0, .int .u8 0] 25) #[.int .u8 0, .int .u8 0, .int .u8 0, .int .u8 0, .int .u8 0, .int .u8 0, .int .u8 0, .int .u8 0, .int .u8 0, .int .u8 0, .int .u8 0, .int .u8 0, .int .u8 0, .int .u8 0, .int .u8 0, .int .u8 0, .int .u8 0, .int .u8 0, .int .u8 0, .int .u8 0, .int .u8 0, .int .u8 0, .int .u8 0, .int .u8 0, .int .u8 0, .int .u8 0, .int .u8 0, .int .u8 0, .int .u8 0, .int .u8 0, .int .u8 0, .int .u8 0] 25) (by rfl)
  have EZ := hid (And.intro (hz.trans HS.out.1.symm) (hzq.trans HS.out.2.1.symm))
  clear hz hzq k0 k2 bO bN
  cases ok with
  | false =>
    clear hE1 hE2
    go_wp2_with (first | go_skip | (refine wpList_store_blk rfl _ _ _ rfl rfl rfl hZ a1 EZ.out.1 HS.out.2.2.1 ?_; intro w4 h4 k4; have hZ4 := hZ2.kept k4 (fun (h : w2.heap.size + 1 = w2.heap.size) => by omega)) | (refine wpList_store_blk rfl _ _ _ rfl rfl rfl hZ4 a2 EZ.out.2 HS.out.2.2.2 ?_; intro w5 h5 k5; have h45 := h4.kept k5 (fun (h : w2.heap.size = w2.heap.size + 1) => by omega); have k25 : Kept None w2 w5 := ((((Kept.refl None w2).alloc _).alloc _).then k4 (fun i hi (h : i = w2.heap.size) => by omega)).then k5 (fun i hi (h : i = w2.heap.size + 1) => by omega); have bO5 := bO2.kept k25 (fun h => h); have bN5 := bN2.kept k25 (fun h => h)) | fail)
    go_ret
    exact ⟨rfl, k02.trans k25⟩
  | true =>
    cases b1 with
    | false =>
      clear hE2
      go_wp2_with (first | go_skip | (refine wpList_store_blk rfl _ _ _ rfl rfl rfl hZ a1 EZ.out.1 HS.out.2.2.1 ?_; intro w4 h4 k4; have hZ4 := hZ2.kept k4 (fun (h : w2.heap.size + 1 = w2.heap.size) => by omega)) | (refine wpList_store_blk rfl _ _ _ rfl rfl rfl hZ4 a2 EZ.out.2 HS.out.2.2.2 ?_; intro w5 h5 k5; have h45 := h4.kept k5 (fun (h : w2.heap.size = w2.heap.size + 1) => by omega); have k25 : Kept None w2 w5 := ((((Kept.refl None w2).alloc _).alloc _).then k4 (fun i hi (h : i = w2.heap.size) => by omega)).then k5 (fun i hi (h : i = w2.heap.size + 1) => by omega); have bO5 := bO2.kept k25 (fun h => h); have bN5 := bN2.kept k25 (fun h => h)) | (refine wpList_load_bw (by kernel_rfl) rfl rfl h45 a1 ?_) | (refine wpList_load_bw (by kernel_rfl) rfl rfl bO5 aO ?_) | fail)
      go_ret
      exact ⟨rfl, k02.trans k25⟩
    | true =>
      go_wp2_with (first | go_skip | (refine wpList_store_blk rfl _ _ _ rfl rfl rfl hZ a1 EZ.out.1 HS.out.2.2.1 ?_; intro w4 h4 k4; have hZ4 := hZ2.kept k4 (fun (h : w2.heap.size + 1 = w2.heap.size) => by omega)) | (refine wpList_store_blk rfl _ _ _ rfl rfl rfl hZ4 a2 EZ.out.2 HS.out.2.2.2 ?_; intro w5 h5 k5; have h45 := h4.kept k5 (fun (h : w2.heap.size = w2.heap.size + 1) => by omega); have k25 : Kept None w2 w5 := ((((Kept.refl None w2).alloc _).alloc _).then k4 (fun i hi (h : i = w2.heap.size) => by omega)).then k5 (fun i hi (h : i = w2.heap.size + 1) => by omega); have bO5 := bO2.kept k25 (fun h => h); have bN5 := bN2.kept k25 (fun h => h)) | (refine wpList_load_bw (by kernel_rfl) rfl rfl h45 a1 ?_) | (refine wpList_load_bw (by kernel_rfl) rfl rfl bO5 aO ?_) | (refine wpList_load_bw (by kernel_rfl) rfl rfl h5 a2 ?_) | (refine wpList_load_bw (by kernel_rfl) rfl rfl bN5 aN ?_) | fail)
      go_ret
      exact ⟨rfl, k02.trans k25⟩
/-- Grown. -/
theorem grown (old new : List UInt8) (path : List (List UInt8)) (m n : Int) (v : Value) (w : World) (ho : old.length = 32) (hn : new.length = 32) (hv : Rh 0 w v path) (hp : path.length ≤ 549755813888) (h3 : n < 9223372036854775808) : Calls Try.prog 17 #[hashV old, hashV new, .int .i64 m, .int .i64 n, v] w fun e w' => e = .returned (.bool (grownL old new m n path)) ∧ Kept None w w' := by
  unfold grownL
  by_cases h : m < 1 ∨ n < m
  · rw [if_pos h]
    exact grown_out old new m n v w h
  · rw [if_neg h]
    have h2 := grown_in old new path m.toNat n.toNat v w ho hn hv hp (by omega) (by omega) (by omega) _ rfl
    rwa [Int.toNat_of_nonneg (by omega), Int.toNat_of_nonneg (by omega)] at h2
end RGr
end Go.Proofs.Ytkogkcaflhjlhaa
