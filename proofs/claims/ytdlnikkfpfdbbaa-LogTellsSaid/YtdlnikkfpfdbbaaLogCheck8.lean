/- Check of packages logtree and postmarkref8: by contract. -/
import Derived.Test.YtdlnikkfpfdbbaaLogUp8
namespace Go.Proofs.Ytdlnikkfpfdbbaa
open Go.RowKit Go.Pm
namespace Lg
set_option maxRecDepth 100000 in
/-- Check, of a place that isn't there. -/
theorem check_out (root leaf : List UInt8) (n i : Int) (v : Value) (w : World) (hi : i < 0 ∨ n ≤ i) : Calls Try.prog 24 #[hashV root, .int .i64 n, .int .i64 i, hashV leaf, v] w fun e w' => e = .returned (.bool false) ∧ Kept None w w' := by
  have k0 : Kept None w ((w.alloc (.cells (root.map u8v).toArray 25)).alloc (.cells (leaf.map u8v).toArray 25)) := ((Kept.refl _ _).alloc _).alloc _
  by_cases h0 : i < 0
  · clear hi
    go_enter Try.func24, Try.ntmps24
    go_wp2
    go_ret
    exact ⟨rfl, k0⟩
  · have h1 : n ≤ i := by omega
    clear hi
    go_enter Try.func24, Try.ntmps24
    go_wp2
    go_ret
    exact ⟨rfl, k0⟩
set_option maxRecDepth 100000 in
set_option maxHeartbeats 1000000 in
/-- Check, of a place that is there. -/
theorem check_in (root leaf : List UInt8) (path : List (List UInt8)) (n i : Nat) (v : Value) (w : World) (hr : root.length = 32) (hl : leaf.length = 32) (hv : Rh 0 w v path) (hp : path.length ≤ 549755813888) (hi : i < n) (hn : n < 9223372036854775808) :
    Calls Try.prog 24 #[hashV root, .int .i64 n, .int .i64 i, hashV leaf, v] w fun e w' => e = .returned (.bool ((upL leaf path n i).2 && ((upL leaf path n i).1 == root))) ∧ Kept None w w' := by
  have hU := fun w h => up leaf hl path.length path n i v w rfl hp h (by omega) hi hn
  have hlen := upL_len hl path n i
  obtain ⟨r, hr'⟩ : ∃ r, r = (upL leaf path n i).1 := ⟨_, rfl⟩
  obtain ⟨ok, hok⟩ : ∃ b, b = (upL leaf path n i).2 := ⟨_, rfl⟩
  rw [← hr', ← hok] at hU ⊢
  rw [← hr'] at hlen
  obtain ⟨bE, hbE⟩ : ∃ b, b = (r == root) := ⟨_, rfl⟩
  have hE := Hk.eqHash r root hlen hr
  rw [← hbE] at hE ⊢
  obtain ⟨L, hL⟩ : ∃ L : Array Value, L = (leaf.map u8v).toArray := ⟨_, rfl⟩
  obtain ⟨RO, hRO⟩ : ∃ L : Array Value, L = (root.map u8v).toArray := ⟨_, rfl⟩
  obtain ⟨RA, hRA⟩ : ∃ L : Array Value, L = (r.map u8v).toArray := ⟨_, rfl⟩
  have aL : AggTy Try.prog 25 L.size := by rw [hL]; exact Hk.aH32 hl
  have aO : AggTy Try.prog 25 RO.size := by rw [hRO]; exact Hk.aH32 hr
  have aR : AggTy Try.prog 25 RA.size := by rw [hRA]; exact Hk.aH32 hlen
  have sR : RA.size = 32 := by rw [hRA]; simpa using hlen
  have allR : RA.all (·.oneCell') = true := by rw [hRA]; exact u8v_all' _
  have hU : ∀ w, Rh 0 w v path → Calls Try.prog 51 #[.int .i64 n, .int .i64 i, .agg L, v] w fun e w' => e = .returned (.tuple #[.agg RA, .bool ok]) ∧ Kept None w w' := by rw [hL, hRA]; exact hU
  rw [← hRA, ← hRO] at hE
  show Calls Try.prog 24 #[.agg (root.map u8v).toArray, .int .i64 n, .int .i64 i, .agg (leaf.map u8v).toArray, v] w _
  rw [← hL, ← hRO]
  have k0 : Kept None w ((w.alloc (.cells RO 25)).alloc (.cells L 25)) := ((Kept.refl _ _).alloc _).alloc _
  have bO : Blk ((w.alloc (.cells RO 25)).alloc (.cells L 25)) w.heap.size RO 25 := (Blk.new w _ _).alloc _
  have bL : Blk ((w.alloc (.cells RO 25)).alloc (.cells L 25)) (w.heap.size + 1) L 25 := Blk.new2 w _ _ _
  obtain ⟨a, cap, rfl⟩ := hv.form
  have HV := hid (hv.kept k0)
  have h0z : (0 : Int) ≤ (i : Int) := by omega
  have h1z : (i : Int) < (n : Int) := by omega
  have HU := hid hU
  have HS := hid (And.intro sR allR)
  obtain ⟨m, hm⟩ : ∃ m, m = path.length := ⟨_, rfl⟩
  rw [← hm] at HU HV ⊢
  clear hU hr' hok hlen hbE hL hRO hRA sR allR hv hr hl hp hi hn hm
  go_enter Try.func24, Try.ntmps24
  go_wp2_with (first | go_skip | (refine wpList_load_bw (by kernel_rfl) rfl rfl bL aL ?_) | fail)
  refine Calls.nm ?_
  intro w1 e1
  rw [← e1] at k0 bO HV
  clear e1 bL
  refine (HU.out w1 HV.out).mono ?_
  rintro e w2 ⟨rfl, k2⟩
  have k02 := k0.trans k2
  have bO2 := bO.kept k2 (fun h => h)
  obtain ⟨z, hz, hZ⟩ := Blk.any (n := 32) (Blk.new w2 #[.int .u8 0, .int .u8 0, .int .u8 0, .int .u8 0, .int .u8 0, .int .u8 0, .int .u8 0, .int .u8 0, .int .u8 0, .int .u8 0, .int .u8 0, .int .u8 0, .int .u8 0, .int .u8 0, .int .u8 0, .int .u8 0, .int .u8 0, .int .u8 0, .int .u8 0, .int .u8 0, .int .u8 0, .int .u8 0, .int .u8 0, .int .u8 0, .int .u8 0, .int .u8 0, .int .u8 0, .int .u8 0, .int .u8 0, .int .u8 0, .int .u8 0, .int .u8 0] 25) (by rfl)
  have E := hid (hz.trans HS.out.1.symm)
  clear hz k0 k2 bO HV
  cases ok with
  | false =>
    clear hE
    go_wp2_with (first | go_skip | (refine wpList_store_blk rfl _ _ _ rfl rfl rfl hZ aR E.out HS.out.2 ?_; intro w4 h4 k4; have k24 := k4.fresh; have bO4 := bO2.kept k24 (fun h => h)) | fail)
    go_ret
    exact ⟨rfl, k02.trans k24⟩
  | true =>
    go_wp2_with (first | go_skip | (refine wpList_store_blk rfl _ _ _ rfl rfl rfl hZ aR E.out HS.out.2 ?_; intro w4 h4 k4; have k24 := k4.fresh; have bO4 := bO2.kept k24 (fun h => h)) | (refine wpList_load_bw (by kernel_rfl) rfl rfl h4 aR ?_) | (refine wpList_load_bw (by kernel_rfl) rfl rfl bO4 aO ?_) | fail)
    go_ret
    exact ⟨rfl, k02.trans k24⟩
/-- Check. -/
theorem check (root leaf : List UInt8) (path : List (List UInt8)) (n i : Int) (v : Value) (w : World) (hr : root.length = 32) (hl : leaf.length = 32) (hv : Rh 0 w v path) (hp : path.length ≤ 549755813888) (hn : n < 9223372036854775808) :
    Calls Try.prog 24 #[hashV root, .int .i64 n, .int .i64 i, hashV leaf, v] w fun e w' => e = .returned (.bool (checkL root n i leaf path)) ∧ Kept None w w' := by
  unfold checkL
  by_cases h : i < 0 ∨ n ≤ i
  · rw [if_pos h]
    exact check_out root leaf n i v w h
  · rw [if_neg h]
    have h2 := check_in root leaf path n.toNat i.toNat v w hr hl hv hp (by omega) (by omega)
    rwa [Int.toNat_of_nonneg (by omega), Int.toNat_of_nonneg (by omega)] at h2
end Lg
namespace RLg
set_option maxRecDepth 100000 in
/-- Check, of a place that isn't there. -/
theorem check_out (root leaf : List UInt8) (n i : Int) (v : Value) (w : World) (hi : i < 0 ∨ n ≤ i) : Calls Try.prog 25 #[hashV root, .int .i64 n, .int .i64 i, hashV leaf, v] w fun e w' => e = .returned (.bool false) ∧ Kept None w w' := by
  have k0 : Kept None w ((w.alloc (.cells (root.map u8v).toArray 25)).alloc (.cells (leaf.map u8v).toArray 25)) := ((Kept.refl _ _).alloc _).alloc _
  by_cases h0 : i < 0
  · clear hi
    go_enter Try.func25, Try.ntmps25
    go_wp2
    go_ret
    exact ⟨rfl, k0⟩
  · have h1 : n ≤ i := by omega
    clear hi
    go_enter Try.func25, Try.ntmps25
    go_wp2
    go_ret
    exact ⟨rfl, k0⟩
set_option maxRecDepth 100000 in
set_option maxHeartbeats 1000000 in
/-- Check, of a place that is there. -/
theorem check_in (root leaf : List UInt8) (path : List (List UInt8)) (n i : Nat) (v : Value) (w : World) (hr : root.length = 32) (hl : leaf.length = 32) (hv : Rh 0 w v path) (hp : path.length ≤ 549755813888) (hi : i < n) (hn : n < 9223372036854775808) :
    Calls Try.prog 25 #[hashV root, .int .i64 n, .int .i64 i, hashV leaf, v] w fun e w' => e = .returned (.bool ((upL leaf path n i).2 && ((upL leaf path n i).1 == root))) ∧ Kept None w w' := by
  have hU := fun w h => up leaf hl path.length path n i v w rfl hp h (by omega) hi hn
  have hlen := upL_len hl path n i
  obtain ⟨r, hr'⟩ : ∃ r, r = (upL leaf path n i).1 := ⟨_, rfl⟩
  obtain ⟨ok, hok⟩ : ∃ b, b = (upL leaf path n i).2 := ⟨_, rfl⟩
  rw [← hr', ← hok] at hU ⊢
  rw [← hr'] at hlen
  obtain ⟨bE, hbE⟩ : ∃ b, b = (r == root) := ⟨_, rfl⟩
  have hE := Hk.eqHash r root hlen hr
  rw [← hbE] at hE ⊢
  obtain ⟨L, hL⟩ : ∃ L : Array Value, L = (leaf.map u8v).toArray := ⟨_, rfl⟩
  obtain ⟨RO, hRO⟩ : ∃ L : Array Value, L = (root.map u8v).toArray := ⟨_, rfl⟩
  obtain ⟨RA, hRA⟩ : ∃ L : Array Value, L = (r.map u8v).toArray := ⟨_, rfl⟩
  have aL : AggTy Try.prog 25 L.size := by rw [hL]; exact Hk.aH32 hl
  have aO : AggTy Try.prog 25 RO.size := by rw [hRO]; exact Hk.aH32 hr
  have aR : AggTy Try.prog 25 RA.size := by rw [hRA]; exact Hk.aH32 hlen
  have sR : RA.size = 32 := by rw [hRA]; simpa using hlen
  have allR : RA.all (·.oneCell') = true := by rw [hRA]; exact u8v_all' _
  have hU : ∀ w, Rh 0 w v path → Calls Try.prog 52 #[.int .i64 n, .int .i64 i, .agg L, v] w fun e w' => e = .returned (.tuple #[.agg RA, .bool ok]) ∧ Kept None w w' := by rw [hL, hRA]; exact hU
  rw [← hRA, ← hRO] at hE
  show Calls Try.prog 25 #[.agg (root.map u8v).toArray, .int .i64 n, .int .i64 i, .agg (leaf.map u8v).toArray, v] w _
  rw [← hL, ← hRO]
  have k0 : Kept None w ((w.alloc (.cells RO 25)).alloc (.cells L 25)) := ((Kept.refl _ _).alloc _).alloc _
  have bO : Blk ((w.alloc (.cells RO 25)).alloc (.cells L 25)) w.heap.size RO 25 := (Blk.new w _ _).alloc _
  have bL : Blk ((w.alloc (.cells RO 25)).alloc (.cells L 25)) (w.heap.size + 1) L 25 := Blk.new2 w _ _ _
  obtain ⟨a, cap, rfl⟩ := hv.form
  have HV := hid (hv.kept k0)
  have h0z : (0 : Int) ≤ (i : Int) := by omega
  have h1z : (i : Int) < (n : Int) := by omega
  have HU := hid hU
  have HS := hid (And.intro sR allR)
  obtain ⟨m, hm⟩ : ∃ m, m = path.length := ⟨_, rfl⟩
  rw [← hm] at HU HV ⊢
  clear hU hr' hok hlen hbE hL hRO hRA sR allR hv hr hl hp hi hn hm
  go_enter Try.func25, Try.ntmps25
  go_wp2_with (first | go_skip | (refine wpList_load_bw (by kernel_rfl) rfl rfl bL aL ?_) | fail)
  refine Calls.nm ?_
  intro w1 e1
  rw [← e1] at k0 bO HV
  clear e1 bL
  refine (HU.out w1 HV.out).mono ?_
  rintro e w2 ⟨rfl, k2⟩
  have k02 := k0.trans k2
  have bO2 := bO.kept k2 (fun h => h)
  obtain ⟨z, hz, hZ⟩ := Blk.any (n := 32) (Blk.new w2 #[.int .u8 0, .int .u8 0, .int .u8 0, .int .u8 0, .int .u8 0, .int .u8 0, .int .u8 0, .int .u8 0, .int .u8 0, .int .u8 0, .int .u8 0, .int .u8 0, .int .u8 0, .int .u8 0, .int .u8 0, .int .u8 0, .int .u8 0, .int .u8 0, .int .u8 0, .int .u8 0, .int .u8 0, .int .u8 0, .int .u8 0, .int .u8 0, .int .u8 0, .int .u8 0, .int .u8 0, .int .u8 0, .int .u8 0, .int .u8 0, .int .u8 0, .int .u8 0] 25) (by rfl)
  have E := hid (hz.trans HS.out.1.symm)
  clear hz k0 k2 bO HV
  cases ok with
  | false =>
    clear hE
    go_wp2_with (first | go_skip | (refine wpList_store_blk rfl _ _ _ rfl rfl rfl hZ aR E.out HS.out.2 ?_; intro w4 h4 k4; have k24 := k4.fresh; have bO4 := bO2.kept k24 (fun h => h)) | fail)
    go_ret
    exact ⟨rfl, k02.trans k24⟩
  | true =>
    go_wp2_with (first | go_skip | (refine wpList_store_blk rfl _ _ _ rfl rfl rfl hZ aR E.out HS.out.2 ?_; intro w4 h4 k4; have k24 := k4.fresh; have bO4 := bO2.kept k24 (fun h => h)) | (refine wpList_load_bw (by kernel_rfl) rfl rfl h4 aR ?_) | (refine wpList_load_bw (by kernel_rfl) rfl rfl bO4 aO ?_) | fail)
    go_ret
    exact ⟨rfl, k02.trans k24⟩
/-- Check. -/
theorem check (root leaf : List UInt8) (path : List (List UInt8)) (n i : Int) (v : Value) (w : World) (hr : root.length = 32) (hl : leaf.length = 32) (hv : Rh 0 w v path) (hp : path.length ≤ 549755813888) (hn : n < 9223372036854775808) :
    Calls Try.prog 25 #[hashV root, .int .i64 n, .int .i64 i, hashV leaf, v] w fun e w' => e = .returned (.bool (checkL root n i leaf path)) ∧ Kept None w w' := by
  unfold checkL
  by_cases h : i < 0 ∨ n ≤ i
  · rw [if_pos h]
    exact check_out root leaf n i v w h
  · rw [if_neg h]
    have h2 := check_in root leaf path n.toNat i.toNat v w hr hl hv hp (by omega) (by omega)
    rwa [Int.toNat_of_nonneg (by omega), Int.toNat_of_nonneg (by omega)] at h2
end RLg
end Go.Proofs.Ytdlnikkfpfdbbaa
