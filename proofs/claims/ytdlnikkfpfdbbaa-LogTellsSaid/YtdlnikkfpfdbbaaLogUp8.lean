/- climb of package logtree, up of postmarkref8: by contract. -/
import Derived.Test.YtdlnikkfpfdbbaaLogPath8
import Derived.Test.YtdlnikkfpfdbbaaKey7
namespace Go.Pm
open Go Go.RowKit
theorem range_keptS {S : Nat → Prop} {w w' : World} {b o : Nat} {cs : List Value} (h : w.rangeAt b o cs) (hk : Kept S w w') (hb : ¬ S b) : w'.rangeAt b o cs := fun j v hv => by
  have h1 := h j v hv
  rw [hk.cell (block_lt_of_cell h1) hb]
  exact h1
end Go.Pm
namespace Go.Proofs.Ytdlnikkfpfdbbaa
open Go.RowKit Go.Pm
namespace Lg
set_option maxRecDepth 100000 in
set_option maxHeartbeats 1000000 in
theorem up_one (leaf : List UInt8) (path : List (List UInt8)) (i : Int) (v : Value) (w : World) (hl : leaf.length = 32) (hv : Rh 0 w v path) : Calls Try.prog 51 #[.int .i64 1, .int .i64 i, hashV leaf, v] w fun e w' => e = .returned (.tuple #[hashV leaf, .bool (path.length == 0)]) ∧ Kept None w w' := by
  obtain ⟨a, cap, rfl⟩ := hv.form
  obtain ⟨m, hm⟩ : ∃ m, m = path.length := ⟨_, rfl⟩
  rw [← hm]
  obtain ⟨L, hL⟩ : ∃ L : Array Value, L = (leaf.map u8v).toArray := ⟨_, rfl⟩
  have aL : AggTy Try.prog 25 L.size := by rw [hL]; exact Hk.aH32 hl
  have sL : L.size = 32 := by rw [hL]; simpa using hl
  have allL : L.all (·.oneCell') = true := by rw [hL]; exact u8v_all' _
  show Calls Try.prog 51 #[.int .i64 1, .int .i64 i, .agg (leaf.map u8v).toArray, .slice a m cap] w (fun e w' => e = .returned (.tuple #[.agg (leaf.map u8v).toArray, .bool (m == 0)]) ∧ Kept None w w')
  rw [← hL]
  obtain ⟨bE, hbE⟩ : ∃ b : Bool, b = (m == 0) := ⟨_, rfl⟩
  have hE : ((m : Int) == 0) = bE := by
    rw [hbE]
    by_cases h : m = 0
    · subst h; rfl
    · rw [show (m == 0) = false by simpa using h, beq_eq_false_iff_ne]; omega
  rw [← hbE]
  have k0 : Kept None w ((w.alloc (.cells L 25)).alloc (.cells #[.int .u8 0, .int .u8 0, .int .u8 0, .int .u8 0, .int .u8 0, .int .u8 0, .int .u8 0, .int .u8 0, .int .u8 0, .int .u8 0, .int .u8 0, .int .u8 0, .int .u8 0, .int .u8 0, .int .u8 0, .int .u8 0, .int .u8 0, .int .u8 0, .int .u8 0, .int .u8 0, .int .u8 0, .int .u8 0, .int .u8 0, .int .u8 0, .int .u8 0, .int .u8 0, .int .u8 0, .int .u8 0, .int .u8 0, .int .u8 0, .int .u8 0, .int .u8 0] 25)) := ((Kept.refl _ _).alloc _).alloc _
  have bL : Blk ((w.alloc (.cells L 25)).alloc (.cells #[.int .u8 0, .int .u8 0, .int .u8 0, .int .u8 0, .int .u8 0, .int .u8 0, .int .u8 0, .int .u8 0, .int .u8 0, .int .u8 0, .int .u8 0, .int .u8 0, .int .u8 0, .int .u8 0, .int .u8 0, .int .u8 0, .int .u8 0, .int .u8 0, .int .u8 0, .int .u8 0, .int .u8 0, .int .u8 0, .int .u8 0, .int .u8 0, .int .u8 0, .int .u8 0, .int .u8 0, .int .u8 0, .int .u8 0, .int .u8 0, .int .u8 0, .int .u8 0] 25)) w.heap.size L 25 := (Blk.new w _ _).alloc _
  have v0 : Blk ((w.alloc (.cells L 25)).alloc (.cells #[.int .u8 0, .int .u8 0, .int .u8 0, .int .u8 0, .int .u8 0, .int .u8 0, .int .u8 0, .int .u8 0, .int .u8 0, .int .u8 0, .int .u8 0, .int .u8 0, .int .u8 0, .int .u8 0, .int .u8 0, .int .u8 0, .int .u8 0, .int .u8 0, .int .u8 0, .int .u8 0, .int .u8 0, .int .u8 0, .int .u8 0, .int .u8 0, .int .u8 0, .int .u8 0, .int .u8 0, .int .u8 0, .int .u8 0, .int .u8 0, .int .u8 0, .int .u8 0] 25)) (w.heap.size + 1) #[.int .u8 0, .int .u8 0, .int .u8 0, .int .u8 0, .int .u8 0, .int .u8 0, .int .u8 0, .int .u8 0, .int .u8 0, .int .u8 0, .int .u8 0, .int .u8 0, .int .u8 0, .int .u8 0, .int .u8 0, .int .u8 0, .int .u8 0, .int .u8 0, .int .u8 0, .int .u8 0, .int .u8 0, .int .u8 0, .int .u8 0, .int .u8 0, .int .u8 0, .int .u8 0, .int .u8 0, .int .u8 0, .int .u8 0, .int .u8 0, .int .u8 0, .int .u8 0] 25 := Blk.new2 w _ _ _
  obtain ⟨z, hz, hZ⟩ := Blk.any (n := 32) v0 (by rfl)
  have E := hid (hz.trans sL.symm)
  have HA := hid allL
  clear hv hm hL sL allL v0 hz hbE
  go_enter Try.func51, Try.ntmps51
  go_wp2_with (first | (refine wpList_load_blk rfl _ _ rfl rfl bL aL ?_) | (refine wpList_store_blk rfl _ _ _ rfl rfl rfl hZ aL E.out HA.out ?_; intro w9 hR9 k9) | fail)
  exact bodyPost_ret (v := .tuple #[.agg L, .bool bE]) (res_cell_tmp rfl _ rfl rfl hR9 aL) rfl ⟨rfl, k0.then k9 (fun i hi (h : i = w.heap.size + 1) => by omega)⟩
set_option maxRecDepth 100000 in
set_option maxHeartbeats 1000000 in
theorem up_none (leaf : List UInt8) (n i : Nat) (v : Value) (w : World) (h2 : 2 ≤ n) (hv : Rh 0 w v []) : Calls Try.prog 51 #[.int .i64 n, .int .i64 i, hashV leaf, v] w fun e w' => e = .returned (.tuple #[hashV zero32, .bool false]) ∧ Kept None w w' := by
  obtain ⟨a, cap, rfl⟩ := hv.form
  obtain ⟨L, hL⟩ : ∃ L : Array Value, L = (leaf.map u8v).toArray := ⟨_, rfl⟩
  show Calls Try.prog 51 #[.int .i64 n, .int .i64 i, .agg (leaf.map u8v).toArray, .slice a 0 cap] w _
  rw [← hL]
  have h2z : (2 : Int) ≤ (n : Int) := by omega
  have k0 : Kept None w ((w.alloc (.cells L 25)).alloc (.cells #[.int .u8 0, .int .u8 0, .int .u8 0, .int .u8 0, .int .u8 0, .int .u8 0, .int .u8 0, .int .u8 0, .int .u8 0, .int .u8 0, .int .u8 0, .int .u8 0, .int .u8 0, .int .u8 0, .int .u8 0, .int .u8 0, .int .u8 0, .int .u8 0, .int .u8 0, .int .u8 0, .int .u8 0, .int .u8 0, .int .u8 0, .int .u8 0, .int .u8 0, .int .u8 0, .int .u8 0, .int .u8 0, .int .u8 0, .int .u8 0, .int .u8 0, .int .u8 0] 25)) := ((Kept.refl _ _).alloc _).alloc _
  have bL : Blk ((w.alloc (.cells L 25)).alloc (.cells #[.int .u8 0, .int .u8 0, .int .u8 0, .int .u8 0, .int .u8 0, .int .u8 0, .int .u8 0, .int .u8 0, .int .u8 0, .int .u8 0, .int .u8 0, .int .u8 0, .int .u8 0, .int .u8 0, .int .u8 0, .int .u8 0, .int .u8 0, .int .u8 0, .int .u8 0, .int .u8 0, .int .u8 0, .int .u8 0, .int .u8 0, .int .u8 0, .int .u8 0, .int .u8 0, .int .u8 0, .int .u8 0, .int .u8 0, .int .u8 0, .int .u8 0, .int .u8 0] 25)) w.heap.size L 25 := (Blk.new w _ _).alloc _
  have v0 : Blk ((w.alloc (.cells L 25)).alloc (.cells #[.int .u8 0, .int .u8 0, .int .u8 0, .int .u8 0, .int .u8 0, .int .u8 0, .int .u8 0, .int .u8 0, .int .u8 0, .int .u8 0, .int .u8 0, .int .u8 0, .int .u8 0, .int .u8 0, .int .u8 0, .int .u8 0, .int .u8 0, .int .u8 0, .int .u8 0, .int .u8 0, .int .u8 0, .int .u8 0, .int .u8 0, .int .u8 0, .int .u8 0, .int .u8 0, .int .u8 0, .int .u8 0, .int .u8 0, .int .u8 0, .int .u8 0, .int .u8 0] 25)) (w.heap.size + 1) #[.int .u8 0, .int .u8 0, .int .u8 0, .int .u8 0, .int .u8 0, .int .u8 0, .int .u8 0, .int .u8 0, .int .u8 0, .int .u8 0, .int .u8 0, .int .u8 0, .int .u8 0, .int .u8 0, .int .u8 0, .int .u8 0, .int .u8 0, .int .u8 0, .int .u8 0, .int .u8 0, .int .u8 0, .int .u8 0, .int .u8 0, .int .u8 0, .int .u8 0, .int .u8 0, .int .u8 0, .int .u8 0, .int .u8 0, .int .u8 0, .int .u8 0, .int .u8 0] 25 := Blk.new2 w _ _ _
  obtain ⟨z, hz, hZ⟩ := Blk.any (n := 32) v0 (by rfl)
  clear hv hL h2 v0 bL
  go_enter Try.func51, Try.ntmps51
  go_upto_region 4 with (fail)
  refine wp_nm ?_
  intro w1 e1
  rw [← e1] at k0 hZ
  clear e1
  go_wp2_with (first | (refine wpList_store_blk rfl _ _ _ rfl rfl rfl hZ Sp.aH hz Hk.zero_all32 ?_; intro w9 hR9 k9) | fail)
  exact bodyPost_ret (v := .tuple #[.agg #[.int .u8 0, .int .u8 0, .int .u8 0, .int .u8 0, .int .u8 0, .int .u8 0, .int .u8 0, .int .u8 0, .int .u8 0, .int .u8 0, .int .u8 0, .int .u8 0, .int .u8 0, .int .u8 0, .int .u8 0, .int .u8 0, .int .u8 0, .int .u8 0, .int .u8 0, .int .u8 0, .int .u8 0, .int .u8 0, .int .u8 0, .int .u8 0, .int .u8 0, .int .u8 0, .int .u8 0, .int .u8 0, .int .u8 0, .int .u8 0, .int .u8 0, .int .u8 0], .bool false]) (res_cell_tmp rfl _ rfl rfl hR9 Sp.aH) rfl ⟨by rfl, k0.then k9 (fun i hi (h : i = w.heap.size + 1) => by omega)⟩
set_option maxRecDepth 100000 in
set_option maxHeartbeats 1000000 in
theorem up_left (leaf r p : List UInt8) (ok : Bool) (ps : List (List UInt8)) (n i : Nat) (v : Value) (w : World) (hl : leaf.length = 32) (hr : r.length = 32) (hv : Rh 0 w v (ps ++ [p])) (h2 : 2 ≤ n) (hn : n < 9223372036854775808) (_hin : i < n) (hi : i < splitN n) (hps : ps.length ≤ 549755813888)
    (ih : ∀ v w, Rh 0 w v ps → Calls Try.prog 51 #[.int .i64 (splitN n : Nat), .int .i64 i, hashV leaf, v] w fun e w' => e = .returned (.tuple #[hashV r, .bool ok]) ∧ Kept None w w') :
    Calls Try.prog 51 #[.int .i64 n, .int .i64 i, hashV leaf, v] w fun e w' => e = .returned (.tuple #[hashV (nodeL r p), .bool ok]) ∧ Kept None w w' := by
  obtain ⟨a, cap, rfl⟩ := hv.form
  have g2' : cap ≤ 9223372036854775807 ∧ (ps ++ [p]).length ≤ cap := by
    obtain ⟨hi, hv⟩ := hv
    obtain ⟨_, _, q, q1, q2, _⟩ := hv.form
    injection q with _ _ q
    omega
  obtain ⟨m, hm⟩ : ∃ m, m = ps.length := ⟨_, rfl⟩
  obtain ⟨M, hM⟩ : ∃ M, M = (ps ++ [p]).length := ⟨_, rfl⟩
  have hMm : M = m + 1 := by rw [hM, hm, List.length_append]; rfl
  rw [← hM] at hv g2' ⊢
  have hp : p.length = 32 := by
    obtain ⟨hi, hv⟩ := hv
    exact hv.1 p (by simp)
  obtain ⟨a1, s1, i1⟩ := rh_to Lg8.tHashes Lg8.zHashes hv .i64 m (by omega)
  rw [hm, List.take_left, ← hm] at i1
  obtain ⟨b, o, rfl, rp⟩ : ∃ b o, a = some ⟨b, o, none⟩ ∧ w.rangeAt b (o + m * 32) (p.map u8v) := by
    obtain ⟨hi, hv⟩ := hv
    obtain ⟨b, o, e1, e2⟩ := hv.at (i := m) (by rw [← hM]; omega)
    refine ⟨b, o, e1, ?_⟩
    have e3 : (ps ++ [p])[m]'(by rw [← hM]; omega) = p := by simp [hm]
    rwa [e3] at e2
  have hSp := fun w => split n w h2 hn
  have hk := splitN_lt h2
  have hkp := splitN_pos h2
  obtain ⟨k, hkk⟩ : ∃ k, k = splitN n := ⟨_, rfl⟩
  rw [← hkk] at ih hSp hk hkp hi
  have h2z : (2 : Int) ≤ (n : Int) := by omega
  have hkz : (k : Int) < (n : Int) := by omega
  have hMz : (1 : Int) ≤ (M : Int) := by omega
  have hmz : (m : Int) < (M : Int) := by omega
  have hcz : (M : Int) ≤ (cap : Int) := by omega
  have rm : IntKind.i64.wrap ((M : Int) - 1) = (m : Int) := by rw [IntKind.wrap_i64]; omega
  have hik : (i : Int) < (k : Int) := by omega
  have hN := fun w => node r p w (by omega) (by omega)
  obtain ⟨res, hres⟩ : ∃ res, res = nodeL r p := ⟨_, rfl⟩
  have e32 : res.length = 32 := by rw [hres]; exact sumB_len _
  rw [← hres] at hN ⊢
  obtain ⟨L, hL⟩ : ∃ L : Array Value, L = (leaf.map u8v).toArray := ⟨_, rfl⟩
  obtain ⟨RA, hRA⟩ : ∃ R : Array Value, R = (r.map u8v).toArray := ⟨_, rfl⟩
  obtain ⟨CP, hCP⟩ : ∃ C : List Value, C = p.map u8v := ⟨_, rfl⟩
  obtain ⟨PA, hPA⟩ : ∃ P : Array Value, P = CP.toArray := ⟨_, rfl⟩
  have aL : AggTy Try.prog 25 L.size := by rw [hL]; exact Hk.aH32 hl
  have aR : AggTy Try.prog 25 RA.size := by rw [hRA]; exact Hk.aH32 hr
  have aP : AggTy Try.prog 25 CP.length := by rw [hCP]; exact Hk.aH32' hp
  have aPA : AggTy Try.prog 25 PA.size := by rw [hPA, hCP]; exact Hk.aH32 hp
  have sR : RA.size = 32 := by rw [hRA]; simpa using hr
  have sP : PA.size = 32 := by rw [hPA, hCP]; simpa using hp
  have allR : RA.all (·.oneCell') = true := by rw [hRA]; exact u8v_all' _
  have allP : PA.all (·.oneCell') = true := by rw [hPA, hCP]; exact u8v_all' _
  have ih : ∀ v w, Rh 0 w v ps → Calls Try.prog 51 #[.int .i64 k, .int .i64 i, .agg L, v] w fun e w' => e = .returned (.tuple #[.agg RA, .bool ok]) ∧ Kept None w w' := by rw [hL, hRA]; exact ih
  have hN : ∀ w, Calls Try.prog 17 #[.agg RA, .agg PA] w fun e w' => e = .returned (hashV res) ∧ Kept None w w' := by rw [hRA, hPA, hCP]; exact hN
  show Calls Try.prog 51 #[.int .i64 n, .int .i64 i, .agg (leaf.map u8v).toArray, .slice (some ⟨b, o, none⟩) M cap] w _
  rw [← hL]
  rw [← hCP] at rp
  have HPA := hid hPA
  have HP := hid hSp
  have IH := hid ih
  have HN := hid hN
  have H32 := hid e32
  have HS := hid (And.intro sR (And.intro sP (And.intro allR allP)))
  have k0 : Kept None w ((w.alloc (.cells L 25)).alloc (.cells #[.int .u8 0, .int .u8 0, .int .u8 0, .int .u8 0, .int .u8 0, .int .u8 0, .int .u8 0, .int .u8 0, .int .u8 0, .int .u8 0, .int .u8 0, .int .u8 0, .int .u8 0, .int .u8 0, .int .u8 0, .int .u8 0, .int .u8 0, .int .u8 0, .int .u8 0, .int .u8 0, .int .u8 0, .int .u8 0, .int .u8 0, .int .u8 0, .int .u8 0, .int .u8 0, .int .u8 0, .int .u8 0, .int .u8 0, .int .u8 0, .int .u8 0, .int .u8 0] 25)) := ((Kept.refl _ _).alloc _).alloc _
  have bL : Blk ((w.alloc (.cells L 25)).alloc (.cells #[.int .u8 0, .int .u8 0, .int .u8 0, .int .u8 0, .int .u8 0, .int .u8 0, .int .u8 0, .int .u8 0, .int .u8 0, .int .u8 0, .int .u8 0, .int .u8 0, .int .u8 0, .int .u8 0, .int .u8 0, .int .u8 0, .int .u8 0, .int .u8 0, .int .u8 0, .int .u8 0, .int .u8 0, .int .u8 0, .int .u8 0, .int .u8 0, .int .u8 0, .int .u8 0, .int .u8 0, .int .u8 0, .int .u8 0, .int .u8 0, .int .u8 0, .int .u8 0] 25)) w.heap.size L 25 := (Blk.new w _ _).alloc _
  have v0 : Blk ((w.alloc (.cells L 25)).alloc (.cells #[.int .u8 0, .int .u8 0, .int .u8 0, .int .u8 0, .int .u8 0, .int .u8 0, .int .u8 0, .int .u8 0, .int .u8 0, .int .u8 0, .int .u8 0, .int .u8 0, .int .u8 0, .int .u8 0, .int .u8 0, .int .u8 0, .int .u8 0, .int .u8 0, .int .u8 0, .int .u8 0, .int .u8 0, .int .u8 0, .int .u8 0, .int .u8 0, .int .u8 0, .int .u8 0, .int .u8 0, .int .u8 0, .int .u8 0, .int .u8 0, .int .u8 0, .int .u8 0] 25)) (w.heap.size + 1) #[.int .u8 0, .int .u8 0, .int .u8 0, .int .u8 0, .int .u8 0, .int .u8 0, .int .u8 0, .int .u8 0, .int .u8 0, .int .u8 0, .int .u8 0, .int .u8 0, .int .u8 0, .int .u8 0, .int .u8 0, .int .u8 0, .int .u8 0, .int .u8 0, .int .u8 0, .int .u8 0, .int .u8 0, .int .u8 0, .int .u8 0, .int .u8 0, .int .u8 0, .int .u8 0, .int .u8 0, .int .u8 0, .int .u8 0, .int .u8 0, .int .u8 0, .int .u8 0] 25 := Blk.new2 w _ _ _
  obtain ⟨z, hz, hZ⟩ := Blk.any (n := 32) v0 (by rfl)
  have HI := hid (i1.kept k0)
  have RP := hid (rangeAt_kept rp k0)
  have HRP0 := hid rp
  have hb := hid (And.intro bL.lt hZ.lt)
  clear ih hSp hN hres hL hRA hCP hPA hkk hk hkp i1 rp v0 sR sP allR allP e32 hv hm hM hMm hn _hin hi hps hl hr hp h2 hb
  go_enter Try.func51, Try.ntmps51
  go_wp2_with fail
  refine (HP.out _).mono ?_
  rintro e w3 ⟨rfl, e3⟩
  rw [e3] at k0 bL hZ HI RP
  clear e3
  go_wp2_with fail
  have hs : Ky.Steady [Ky.lift (.val 6 (.tuple #[.agg RA, .bool ok])), Ky.lift (.room 10 w3.heap.size 32 25), Ky.stored 11 w3.heap.size 12 RA 25 10] := Ky.Steady.append (l := [Ky.lift (.val 6 (.tuple #[.agg RA, .bool ok])), Ky.lift (.room 10 w3.heap.size 32 25)]) (Ky.Steady.lift (l := [.val 6 (.tuple #[.agg RA, .bool ok]), .room 10 w3.heap.size 32 25]) (Go.Pm.Steady.val (Go.Pm.Steady.room (Go.Pm.Steady.nil)))) (Ky.steady_stored _ _ _ _ _ _)
  refine Ky.wp_region_kn w3 _ hs (Kept.refl _ _) (by kernel_rfl) (by kernel_rfl) (by kernel_rfl) ?_
  iterate 2 (refine Ky.wpPar_pure rfl (by rfl) _ (fun W hW => by
      have q1 := s1 W
      go_simp
      exact rfl) ?_; simp only [Act.put, List.setIfInBounds_toArray, List.set_cons_zero, List.set_cons_succ])
  refine Ky.wpPar_pure rfl (by rfl) _ (fun W hW => by first | exact exec_load_blk _ _ rfl rfl (bL.kept hW (fun h => h)) aL) ?_; simp only [Act.put, List.setIfInBounds_toArray, List.set_cons_zero, List.set_cons_succ]
  iterate 3 (refine Ky.wpPar_pure rfl (by rfl) _ (fun W hW => by
      have q1 := s1 W
      go_simp
      exact rfl) ?_; simp only [Act.put, List.setIfInBounds_toArray, List.set_cons_zero, List.set_cons_succ])
  refine Ky.wpKn_adds hs rfl (by rfl) (fun W hW hd => ?_) (fun v6 hv => ?_)
  · unfold Gives
    go_simp
    refine gives_call (IH.out _ _ (HI.out.kept hW)) ?_
    rintro e w3 ⟨rfl, k3⟩
    exact ⟨_, rfl, k3, rfl, trivial⟩
  obtain rfl : v6 = .tuple #[.agg RA, .bool ok] := hv
  simp only [Act.put, List.setIfInBounds_toArray, List.set_cons_zero, List.set_cons_succ]
  iterate 3 (refine Ky.wpPar_pure rfl (by rfl) _ (fun W hW => by
      have q1 := s1 W
      go_simp
      exact rfl) ?_; simp only [Act.put, List.setIfInBounds_toArray, List.set_cons_zero, List.set_cons_succ])
  refine Ky.wpKn_adds hs rfl (by rfl) (fun W hW hd => ?_) (fun v10 hv => ?_)
  · unfold Gives
    go_simp
    exact ⟨(Kept.refl None W).alloc _, ⟨_, rfl⟩, _, _, rfl, hW.size, by rfl, Blk.new W _ _⟩
  obtain ⟨g10, rfl⟩ : ∃ g, v10 = .pointer (some ⟨g, 0, none⟩) := hv
  simp only [Act.put, List.setIfInBounds_toArray, List.set_cons_zero, List.set_cons_succ]
  refine Ky.wpPar_adds rfl (by rfl) (fun W hW hd => ?_) (fun v11 hv => ?_)
  · obtain ⟨g, z3, hg3, hg2, hz3, hR3⟩ : ∃ (g : Nat) (z : Array Value), Value.pointer (some ⟨g10, 0, none⟩) = .pointer (some ⟨g, 0, none⟩) ∧ w3.heap.size ≤ g ∧ z.size = 32 ∧ Blk W g z 25 := hd 10 (List.Mem.head _)
    obtain rfl : g10 = g := by simpa using hg3
    refine gives_store7 _ _ _ rfl rfl rfl hR3 aR (hz3.trans (HS.out.1.symm)) HS.out.2.2.1 (fun W' hb hk => ⟨hW.then hk (fun i hi h => by have h : i = g10 := h; omega), trivial, ⟨g10, rfl, hg2, hb⟩, Ky.keeps_of fun f hf hs _ hne u hfu => ?_⟩)
    simp only [List.mem_cons, List.not_mem_nil, or_false] at hf
    rcases hf with rfl | rfl | rfl
    · exact hfu
    · exact absurd (List.Mem.head _) hs
    · exact absurd rfl hne
  simp only [Act.put]
  iterate 1 (refine Ky.wpPar_pure rfl (by rfl) _ (fun W hW => by
      have q1 := s1 W
      go_simp
      exact rfl) ?_; simp only [Act.put, List.setIfInBounds_toArray, List.set_cons_zero, List.set_cons_succ])
  refine Ky.wpPar_nil (fun W hW hG => ?_)
  obtain ⟨g, hg3, hg2_10, hB_10⟩ : ∃ g, Value.pointer (some ⟨g10, 0, none⟩) = .pointer (some ⟨g, 0, none⟩) ∧ w3.heap.size ≤ g ∧ Blk W g RA 25 := hG 11
  obtain rfl : g10 = g := by simpa using hg3
  clear hg3
  have HNE : Hid (w.heap.size + 1 ≠ g10 ∧ w.heap.size ≤ g10) := hid (by have := k0.size; have := hZ.lt; omega)
  have k07 := k0.trans hW
  have hZ7 := hZ.kept hW (fun h => h)
  have RP7 := rangeAt_kept RP.out hW
  have h7 := hB_10
  obtain ⟨w7, hw7⟩ : ∃ w7, w7 = W := ⟨_, rfl⟩
  rw [← hw7] at k07 hZ7 RP7 h7 ⊢
  clear hw7 hB_10 hG hs hW k0 hZ bL hg2_10 RP s1
  go_wp2_with fail
  have aH' := Hk.aH32 H32.out
  have HS32 : Hid (32 = (res.map u8v).toArray.size) := hid (by simpa using H32.out.symm)
  have HB0 : Hid (b ≠ w.heap.size + 1) := hid (by
    have h1 := HRP0.out 0
    intro h
    rcases hcp : CP with _ | ⟨c, cs⟩
    · rw [hcp] at HPA
      have := HS.out.2.1
      rw [HPA.out] at this
      cases this
    · have h4 : b < w.heap.size := block_lt_of_cell (h1 c (by rw [hcp]; rfl))
      omega)
  refine wp_region_plan (Kept (Just (w.heap.size + 1)) w7) [{ k := 5, uses := [], pure := fun u => u = hashV res }, { k := 7, uses := [100], spends := [100], fact := fun _ W => Blk W (w.heap.size + 1) (res.map u8v).toArray 25 }, { k := 100, uses := [], fact := fun _ W => ∃ z : Array Value, z.size = 32 ∧ Blk W (w.heap.size + 1) z 25 }] [100] (by kernel_rfl) (by kernel_rfl) (by kernel_rfl) (by rfl) ?pures ((Kept.refl _ w7).drew) ?starts ?walk
  case pures =>
    intro f hf
    simp only [List.mem_cons, List.not_mem_nil, or_false] at hf
    rcases hf with rfl | rfl | rfl
    · exact ⟨_, rfl⟩
    · exact ⟨undef, trivial⟩
    · exact ⟨undef, trivial⟩
  case starts =>
    intro k hk
    have hk : k = 100 := by simpa using hk
    subst hk
    exact ⟨_, hz, hZ7.drew⟩
  refine wpPar_pure rfl (by rfl) _ (fun W hW => exec_load_blk _ _ rfl rfl (h7.kept hW (fun h => HNE.out.1 h.symm)) aR) ?_; simp only [Act.put, List.setIfInBounds_toArray, List.set_cons_zero, List.set_cons_succ]
  iterate 3 (refine wpPar_pure rfl (by rfl) _ (fun W hW => by
      go_simp
      exact rfl) ?_; simp only [Act.put, List.setIfInBounds_toArray, List.set_cons_zero, List.set_cons_succ])
  refine wpPar_pure rfl (by rfl) (.agg PA) (fun W hW => by rw [HPA.out]; exact exec_load_at rfl rfl (range_keptS RP7 hW HB0.out) aP) ?_; simp only [Act.put, List.setIfInBounds_toArray, List.set_cons_zero, List.set_cons_succ]
  refine wpPar_adds rfl (by rfl) (fun W hW hd => ?_) (fun v5 hv => ?_)
  · unfold Gives
    go_simp
    refine gives_call (HN.out W) ?_
    rintro e w3 ⟨rfl, k3⟩
    refine ⟨_, rfl, hW.then k3 (fun _ _ h => h.elim), rfl, trivial, keeps_of fun f hf hs _ hne u hfu => ?_⟩
    simp only [List.mem_cons, List.not_mem_nil, or_false] at hf
    rcases hf with rfl | rfl | rfl
    · exact absurd rfl hne
    · exact Blk.kept hfu k3 (fun h => h)
    · obtain ⟨z3, e3, h3⟩ := hfu
      exact ⟨z3, e3, h3.kept k3 (fun h => h)⟩
  obtain rfl : v5 = hashV res := hv
  simp only [Act.put, List.setIfInBounds_toArray, List.set_cons_zero, List.set_cons_succ]
  iterate 1 (refine wpPar_pure rfl (by rfl) _ (fun W hW => by
      go_simp
      exact rfl) ?_; simp only [Act.put, List.setIfInBounds_toArray, List.set_cons_zero, List.set_cons_succ])
  refine wpPar_adds rfl (by rfl) (fun W hW hd => ?_) (fun v7 hv => ?_)
  · obtain ⟨z3, hz3, hR3⟩ : ∃ z : Array Value, z.size = 32 ∧ Blk W (w.heap.size + 1) z 25 := hd 100 (List.Mem.head _)
    refine gives_store7 _ _ _ rfl rfl rfl hR3 aH' (hz3.trans (HS32.out)) (u8v_all _) (fun W' hb hk => ⟨hW.trans hk, trivial, hb, keeps_of fun f hf hs _ hne u hfu => ?_⟩)
    simp only [List.mem_cons, List.not_mem_nil, or_false] at hf
    rcases hf with rfl | rfl | rfl
    · exact hfu
    · exact absurd rfl hne
    · exact absurd (List.Mem.head _) hs
  simp only [Act.put]
  iterate 1 (refine wpPar_pure rfl (by rfl) _ (fun W hW => by
      go_simp
      exact rfl) ?_; simp only [Act.put, List.setIfInBounds_toArray, List.set_cons_zero, List.set_cons_succ])
  refine wpPar_nil (fun w9 hW hG => ?_)
  have hRz : Blk w9 (w.heap.size + 1) (res.map u8v).toArray 25 := hG 7
  have k09 := k07.then hW (fun i hi (h : i = w.heap.size + 1) => by omega)
  clear hG hW k07 hZ7 h7 RP7
  go_wp2
  exact bodyPost_ret (v := .tuple #[hashV res, .bool ok]) (res_cell_tmp rfl _ rfl rfl hRz aH') rfl ⟨rfl, k09⟩
set_option maxRecDepth 100000 in
set_option maxHeartbeats 1000000 in
theorem up_right (leaf r p : List UInt8) (ok : Bool) (ps : List (List UInt8)) (n i : Nat) (v : Value) (w : World) (hl : leaf.length = 32) (hr : r.length = 32) (hv : Rh 0 w v (ps ++ [p])) (h2 : 2 ≤ n) (hn : n < 9223372036854775808) (hin : i < n) (hi : ¬ i < splitN n) (hps : ps.length ≤ 549755813888)
    (ih : ∀ v w, Rh 0 w v ps → Calls Try.prog 51 #[.int .i64 (n - splitN n : Nat), .int .i64 (i - splitN n : Nat), hashV leaf, v] w fun e w' => e = .returned (.tuple #[hashV r, .bool ok]) ∧ Kept None w w') :
    Calls Try.prog 51 #[.int .i64 n, .int .i64 i, hashV leaf, v] w fun e w' => e = .returned (.tuple #[hashV (nodeL p r), .bool ok]) ∧ Kept None w w' := by
  obtain ⟨a, cap, rfl⟩ := hv.form
  have g2' : cap ≤ 9223372036854775807 ∧ (ps ++ [p]).length ≤ cap := by
    obtain ⟨hi, hv⟩ := hv
    obtain ⟨_, _, q, q1, q2, _⟩ := hv.form
    injection q with _ _ q
    omega
  obtain ⟨m, hm⟩ : ∃ m, m = ps.length := ⟨_, rfl⟩
  obtain ⟨M, hM⟩ : ∃ M, M = (ps ++ [p]).length := ⟨_, rfl⟩
  have hMm : M = m + 1 := by rw [hM, hm, List.length_append]; rfl
  rw [← hM] at hv g2' ⊢
  have hp : p.length = 32 := by
    obtain ⟨hi, hv⟩ := hv
    exact hv.1 p (by simp)
  obtain ⟨a1, s1, i1⟩ := rh_to Lg8.tHashes Lg8.zHashes hv .i64 m (by omega)
  rw [hm, List.take_left, ← hm] at i1
  obtain ⟨b, o, rfl, rp⟩ : ∃ b o, a = some ⟨b, o, none⟩ ∧ w.rangeAt b (o + m * 32) (p.map u8v) := by
    obtain ⟨hi, hv⟩ := hv
    obtain ⟨b, o, e1, e2⟩ := hv.at (i := m) (by rw [← hM]; omega)
    refine ⟨b, o, e1, ?_⟩
    have e3 : (ps ++ [p])[m]'(by rw [← hM]; omega) = p := by simp [hm]
    rwa [e3] at e2
  have hSp := fun w => split n w h2 hn
  have hk := splitN_lt h2
  have hkp := splitN_pos h2
  obtain ⟨k, hkk⟩ : ∃ k, k = splitN n := ⟨_, rfl⟩
  rw [← hkk] at ih hSp hk hkp hi
  have h2z : (2 : Int) ≤ (n : Int) := by omega
  have hkz : (k : Int) < (n : Int) := by omega
  have hMz : (1 : Int) ≤ (M : Int) := by omega
  have hmz : (m : Int) < (M : Int) := by omega
  have hcz : (M : Int) ≤ (cap : Int) := by omega
  have rm : IntKind.i64.wrap ((M : Int) - 1) = (m : Int) := by rw [IntKind.wrap_i64]; omega
  have hik : ¬ (i : Int) < (k : Int) := by omega
  obtain ⟨i2, hi2⟩ : ∃ j, j = i - k := ⟨_, rfl⟩
  obtain ⟨n2, hn2⟩ : ∃ j, j = n - k := ⟨_, rfl⟩
  rw [← hi2, ← hn2] at ih
  have ri : IntKind.i64.wrap ((i : Int) - (k : Int)) = (i2 : Int) := by rw [IntKind.wrap_i64]; omega
  have rn : IntKind.i64.wrap ((n : Int) - (k : Int)) = (n2 : Int) := by rw [IntKind.wrap_i64]; omega
  have hN := fun w => node p r w (by omega) (by omega)
  obtain ⟨res, hres⟩ : ∃ res, res = nodeL p r := ⟨_, rfl⟩
  have e32 : res.length = 32 := by rw [hres]; exact sumB_len _
  rw [← hres] at hN ⊢
  obtain ⟨L, hL⟩ : ∃ L : Array Value, L = (leaf.map u8v).toArray := ⟨_, rfl⟩
  obtain ⟨RA, hRA⟩ : ∃ R : Array Value, R = (r.map u8v).toArray := ⟨_, rfl⟩
  obtain ⟨CP, hCP⟩ : ∃ C : List Value, C = p.map u8v := ⟨_, rfl⟩
  obtain ⟨PA, hPA⟩ : ∃ P : Array Value, P = CP.toArray := ⟨_, rfl⟩
  have aL : AggTy Try.prog 25 L.size := by rw [hL]; exact Hk.aH32 hl
  have aR : AggTy Try.prog 25 RA.size := by rw [hRA]; exact Hk.aH32 hr
  have aP : AggTy Try.prog 25 CP.length := by rw [hCP]; exact Hk.aH32' hp
  have aPA : AggTy Try.prog 25 PA.size := by rw [hPA, hCP]; exact Hk.aH32 hp
  have sR : RA.size = 32 := by rw [hRA]; simpa using hr
  have sP : PA.size = 32 := by rw [hPA, hCP]; simpa using hp
  have allR : RA.all (·.oneCell') = true := by rw [hRA]; exact u8v_all' _
  have allP : PA.all (·.oneCell') = true := by rw [hPA, hCP]; exact u8v_all' _
  have ih : ∀ v w, Rh 0 w v ps → Calls Try.prog 51 #[.int .i64 n2, .int .i64 i2, .agg L, v] w fun e w' => e = .returned (.tuple #[.agg RA, .bool ok]) ∧ Kept None w w' := by rw [hL, hRA]; exact ih
  have hN : ∀ w, Calls Try.prog 17 #[.agg PA, .agg RA] w fun e w' => e = .returned (hashV res) ∧ Kept None w w' := by rw [hRA, hPA, hCP]; exact hN
  show Calls Try.prog 51 #[.int .i64 n, .int .i64 i, .agg (leaf.map u8v).toArray, .slice (some ⟨b, o, none⟩) M cap] w _
  rw [← hL]
  rw [← hCP] at rp
  have HPA := hid hPA
  have HP := hid hSp
  have IH := hid ih
  have HN := hid hN
  have H32 := hid e32
  have HS := hid (And.intro sR (And.intro sP (And.intro allR allP)))
  have k0 : Kept None w ((w.alloc (.cells L 25)).alloc (.cells #[.int .u8 0, .int .u8 0, .int .u8 0, .int .u8 0, .int .u8 0, .int .u8 0, .int .u8 0, .int .u8 0, .int .u8 0, .int .u8 0, .int .u8 0, .int .u8 0, .int .u8 0, .int .u8 0, .int .u8 0, .int .u8 0, .int .u8 0, .int .u8 0, .int .u8 0, .int .u8 0, .int .u8 0, .int .u8 0, .int .u8 0, .int .u8 0, .int .u8 0, .int .u8 0, .int .u8 0, .int .u8 0, .int .u8 0, .int .u8 0, .int .u8 0, .int .u8 0] 25)) := ((Kept.refl _ _).alloc _).alloc _
  have bL : Blk ((w.alloc (.cells L 25)).alloc (.cells #[.int .u8 0, .int .u8 0, .int .u8 0, .int .u8 0, .int .u8 0, .int .u8 0, .int .u8 0, .int .u8 0, .int .u8 0, .int .u8 0, .int .u8 0, .int .u8 0, .int .u8 0, .int .u8 0, .int .u8 0, .int .u8 0, .int .u8 0, .int .u8 0, .int .u8 0, .int .u8 0, .int .u8 0, .int .u8 0, .int .u8 0, .int .u8 0, .int .u8 0, .int .u8 0, .int .u8 0, .int .u8 0, .int .u8 0, .int .u8 0, .int .u8 0, .int .u8 0] 25)) w.heap.size L 25 := (Blk.new w _ _).alloc _
  have v0 : Blk ((w.alloc (.cells L 25)).alloc (.cells #[.int .u8 0, .int .u8 0, .int .u8 0, .int .u8 0, .int .u8 0, .int .u8 0, .int .u8 0, .int .u8 0, .int .u8 0, .int .u8 0, .int .u8 0, .int .u8 0, .int .u8 0, .int .u8 0, .int .u8 0, .int .u8 0, .int .u8 0, .int .u8 0, .int .u8 0, .int .u8 0, .int .u8 0, .int .u8 0, .int .u8 0, .int .u8 0, .int .u8 0, .int .u8 0, .int .u8 0, .int .u8 0, .int .u8 0, .int .u8 0, .int .u8 0, .int .u8 0] 25)) (w.heap.size + 1) #[.int .u8 0, .int .u8 0, .int .u8 0, .int .u8 0, .int .u8 0, .int .u8 0, .int .u8 0, .int .u8 0, .int .u8 0, .int .u8 0, .int .u8 0, .int .u8 0, .int .u8 0, .int .u8 0, .int .u8 0, .int .u8 0, .int .u8 0, .int .u8 0, .int .u8 0, .int .u8 0, .int .u8 0, .int .u8 0, .int .u8 0, .int .u8 0, .int .u8 0, .int .u8 0, .int .u8 0, .int .u8 0, .int .u8 0, .int .u8 0, .int .u8 0, .int .u8 0] 25 := Blk.new2 w _ _ _
  obtain ⟨z, hz, hZ⟩ := Blk.any (n := 32) v0 (by rfl)
  have HI := hid (i1.kept k0)
  have RP := hid (rangeAt_kept rp k0)
  have HRP0 := hid rp
  have hb := hid (And.intro bL.lt hZ.lt)
  clear ih hSp hN hres hL hRA hCP hPA hkk hk hkp i1 rp v0 sR sP allR allP e32 hv hm hM hMm hn hin hi hps hl hr hp h2 hb hi2 hn2
  go_enter Try.func51, Try.ntmps51
  go_wp2_with fail
  refine (HP.out _).mono ?_
  rintro e w3 ⟨rfl, e3⟩
  rw [e3] at k0 bL hZ HI RP
  clear e3
  go_wp2_with fail
  have hs : Ky.Steady [Ky.lift (.val 10 (.tuple #[.agg RA, .bool ok])), Ky.lift (.room 14 w3.heap.size 32 25), Ky.stored 15 w3.heap.size 14 RA 25 14] := Ky.Steady.append (l := [Ky.lift (.val 10 (.tuple #[.agg RA, .bool ok])), Ky.lift (.room 14 w3.heap.size 32 25)]) (Ky.Steady.lift (l := [.val 10 (.tuple #[.agg RA, .bool ok]), .room 14 w3.heap.size 32 25]) (Go.Pm.Steady.val (Go.Pm.Steady.room (Go.Pm.Steady.nil)))) (Ky.steady_stored _ _ _ _ _ _)
  refine Ky.wp_region_kn w3 _ hs (Kept.refl _ _) (by kernel_rfl) (by kernel_rfl) (by kernel_rfl) ?_
  iterate 6 (refine Ky.wpPar_pure rfl (by rfl) _ (fun W hW => by
      have q1 := s1 W
      go_simp
      exact rfl) ?_; simp only [Act.put, List.setIfInBounds_toArray, List.set_cons_zero, List.set_cons_succ])
  refine Ky.wpPar_pure rfl (by rfl) _ (fun W hW => by first | exact exec_load_blk _ _ rfl rfl (bL.kept hW (fun h => h)) aL) ?_; simp only [Act.put, List.setIfInBounds_toArray, List.set_cons_zero, List.set_cons_succ]
  iterate 3 (refine Ky.wpPar_pure rfl (by rfl) _ (fun W hW => by
      have q1 := s1 W
      go_simp
      exact rfl) ?_; simp only [Act.put, List.setIfInBounds_toArray, List.set_cons_zero, List.set_cons_succ])
  refine Ky.wpKn_adds hs rfl (by rfl) (fun W hW hd => ?_) (fun v10 hv => ?_)
  · unfold Gives
    go_simp
    refine gives_call (IH.out _ _ (HI.out.kept hW)) ?_
    rintro e w3 ⟨rfl, k3⟩
    exact ⟨_, rfl, k3, rfl, trivial⟩
  obtain rfl : v10 = .tuple #[.agg RA, .bool ok] := hv
  simp only [Act.put, List.setIfInBounds_toArray, List.set_cons_zero, List.set_cons_succ]
  iterate 3 (refine Ky.wpPar_pure rfl (by rfl) _ (fun W hW => by
      have q1 := s1 W
      go_simp
      exact rfl) ?_; simp only [Act.put, List.setIfInBounds_toArray, List.set_cons_zero, List.set_cons_succ])
  refine Ky.wpKn_adds hs rfl (by rfl) (fun W hW hd => ?_) (fun v14 hv => ?_)
  · unfold Gives
    go_simp
    exact ⟨(Kept.refl None W).alloc _, ⟨_, rfl⟩, _, _, rfl, hW.size, by rfl, Blk.new W _ _⟩
  obtain ⟨g14, rfl⟩ : ∃ g, v14 = .pointer (some ⟨g, 0, none⟩) := hv
  simp only [Act.put, List.setIfInBounds_toArray, List.set_cons_zero, List.set_cons_succ]
  refine Ky.wpPar_adds rfl (by rfl) (fun W hW hd => ?_) (fun v15 hv => ?_)
  · obtain ⟨g, z3, hg3, hg2, hz3, hR3⟩ : ∃ (g : Nat) (z : Array Value), Value.pointer (some ⟨g14, 0, none⟩) = .pointer (some ⟨g, 0, none⟩) ∧ w3.heap.size ≤ g ∧ z.size = 32 ∧ Blk W g z 25 := hd 14 (List.Mem.head _)
    obtain rfl : g14 = g := by simpa using hg3
    refine gives_store7 _ _ _ rfl rfl rfl hR3 aR (hz3.trans (HS.out.1.symm)) HS.out.2.2.1 (fun W' hb hk => ⟨hW.then hk (fun i hi h => by have h : i = g14 := h; omega), trivial, ⟨g14, rfl, hg2, hb⟩, Ky.keeps_of fun f hf hs _ hne u hfu => ?_⟩)
    simp only [List.mem_cons, List.not_mem_nil, or_false] at hf
    rcases hf with rfl | rfl | rfl
    · exact hfu
    · exact absurd (List.Mem.head _) hs
    · exact absurd rfl hne
  simp only [Act.put]
  iterate 1 (refine Ky.wpPar_pure rfl (by rfl) _ (fun W hW => by
      have q1 := s1 W
      go_simp
      exact rfl) ?_; simp only [Act.put, List.setIfInBounds_toArray, List.set_cons_zero, List.set_cons_succ])
  refine Ky.wpPar_nil (fun W hW hG => ?_)
  obtain ⟨g, hg3, hg2_14, hB_14⟩ : ∃ g, Value.pointer (some ⟨g14, 0, none⟩) = .pointer (some ⟨g, 0, none⟩) ∧ w3.heap.size ≤ g ∧ Blk W g RA 25 := hG 15
  obtain rfl : g14 = g := by simpa using hg3
  clear hg3
  have HNE : Hid (w.heap.size + 1 ≠ g14 ∧ w.heap.size ≤ g14) := hid (by have := k0.size; have := hZ.lt; omega)
  have k07 := k0.trans hW
  have hZ7 := hZ.kept hW (fun h => h)
  have RP7 := rangeAt_kept RP.out hW
  have h7 := hB_14
  obtain ⟨w7, hw7⟩ : ∃ w7, w7 = W := ⟨_, rfl⟩
  rw [← hw7] at k07 hZ7 RP7 h7 ⊢
  clear hw7 hB_14 hG hs hW k0 hZ bL hg2_14 RP s1
  go_wp2_with fail
  have aH' := Hk.aH32 H32.out
  have HS32 : Hid (32 = (res.map u8v).toArray.size) := hid (by simpa using H32.out.symm)
  have HB0 : Hid (b ≠ w.heap.size + 1) := hid (by
    have h1 := HRP0.out 0
    intro h
    rcases hcp : CP with _ | ⟨c, cs⟩
    · rw [hcp] at HPA
      have := HS.out.2.1
      rw [HPA.out] at this
      cases this
    · have h4 : b < w.heap.size := block_lt_of_cell (h1 c (by rw [hcp]; rfl))
      omega)
  refine wp_region_plan (Kept (Just (w.heap.size + 1)) w7) [{ k := 5, uses := [], pure := fun u => u = hashV res }, { k := 7, uses := [100], spends := [100], fact := fun _ W => Blk W (w.heap.size + 1) (res.map u8v).toArray 25 }, { k := 100, uses := [], fact := fun _ W => ∃ z : Array Value, z.size = 32 ∧ Blk W (w.heap.size + 1) z 25 }] [100] (by kernel_rfl) (by kernel_rfl) (by kernel_rfl) (by rfl) ?pures ((Kept.refl _ w7).drew) ?starts ?walk
  case pures =>
    intro f hf
    simp only [List.mem_cons, List.not_mem_nil, or_false] at hf
    rcases hf with rfl | rfl | rfl
    · exact ⟨_, rfl⟩
    · exact ⟨undef, trivial⟩
    · exact ⟨undef, trivial⟩
  case starts =>
    intro k hk
    have hk : k = 100 := by simpa using hk
    subst hk
    exact ⟨_, hz, hZ7.drew⟩
  iterate 3 (refine wpPar_pure rfl (by rfl) _ (fun W hW => by
      go_simp
      exact rfl) ?_; simp only [Act.put, List.setIfInBounds_toArray, List.set_cons_zero, List.set_cons_succ])
  refine wpPar_pure rfl (by rfl) (.agg PA) (fun W hW => by rw [HPA.out]; exact exec_load_at rfl rfl (range_keptS RP7 hW HB0.out) aP) ?_; simp only [Act.put, List.setIfInBounds_toArray, List.set_cons_zero, List.set_cons_succ]
  refine wpPar_pure rfl (by rfl) _ (fun W hW => exec_load_blk _ _ rfl rfl (h7.kept hW (fun h => HNE.out.1 h.symm)) aR) ?_; simp only [Act.put, List.setIfInBounds_toArray, List.set_cons_zero, List.set_cons_succ]
  refine wpPar_adds rfl (by rfl) (fun W hW hd => ?_) (fun v5 hv => ?_)
  · unfold Gives
    go_simp
    refine gives_call (HN.out W) ?_
    rintro e w3 ⟨rfl, k3⟩
    refine ⟨_, rfl, hW.then k3 (fun _ _ h => h.elim), rfl, trivial, keeps_of fun f hf hs _ hne u hfu => ?_⟩
    simp only [List.mem_cons, List.not_mem_nil, or_false] at hf
    rcases hf with rfl | rfl | rfl
    · exact absurd rfl hne
    · exact Blk.kept hfu k3 (fun h => h)
    · obtain ⟨z3, e3, h3⟩ := hfu
      exact ⟨z3, e3, h3.kept k3 (fun h => h)⟩
  obtain rfl : v5 = hashV res := hv
  simp only [Act.put, List.setIfInBounds_toArray, List.set_cons_zero, List.set_cons_succ]
  iterate 1 (refine wpPar_pure rfl (by rfl) _ (fun W hW => by
      go_simp
      exact rfl) ?_; simp only [Act.put, List.setIfInBounds_toArray, List.set_cons_zero, List.set_cons_succ])
  refine wpPar_adds rfl (by rfl) (fun W hW hd => ?_) (fun v7 hv => ?_)
  · obtain ⟨z3, hz3, hR3⟩ : ∃ z : Array Value, z.size = 32 ∧ Blk W (w.heap.size + 1) z 25 := hd 100 (List.Mem.head _)
    refine gives_store7 _ _ _ rfl rfl rfl hR3 aH' (hz3.trans (HS32.out)) (u8v_all _) (fun W' hb hk => ⟨hW.trans hk, trivial, hb, keeps_of fun f hf hs _ hne u hfu => ?_⟩)
    simp only [List.mem_cons, List.not_mem_nil, or_false] at hf
    rcases hf with rfl | rfl | rfl
    · exact hfu
    · exact absurd rfl hne
    · exact absurd (List.Mem.head _) hs
  simp only [Act.put]
  iterate 1 (refine wpPar_pure rfl (by rfl) _ (fun W hW => by
      go_simp
      exact rfl) ?_; simp only [Act.put, List.setIfInBounds_toArray, List.set_cons_zero, List.set_cons_succ])
  refine wpPar_nil (fun w9 hW hG => ?_)
  have hRz : Blk w9 (w.heap.size + 1) (res.map u8v).toArray 25 := hG 7
  have k09 := k07.then hW (fun i hi (h : i = w.heap.size + 1) => by omega)
  clear hG hW k07 hZ7 h7 RP7
  go_wp2
  exact bodyPost_ret (v := .tuple #[hashV res, .bool ok]) (res_cell_tmp rfl _ rfl rfl hRz aH') rfl ⟨rfl, k09⟩
/-- climb. -/
theorem up (leaf : List UInt8) (hl : leaf.length = 32) : ∀ (m : Nat) (path : List (List UInt8)) (n i : Nat) (v : Value) (w : World), path.length = m → m ≤ 549755813888 → Rh 0 w v path → 1 ≤ n → i < n → n < 9223372036854775808 → Calls Try.prog 51 #[.int .i64 n, .int .i64 i, hashV leaf, v] w fun e w' => e = .returned (.tuple #[hashV (upL leaf path n i).1, .bool (upL leaf path n i).2]) ∧ Kept None w w' := by
  intro m
  induction m with
  | zero =>
    intro path n i v w hm hm2 hv h1 hi hn
    obtain rfl := List.eq_nil_of_length_eq_zero hm
    by_cases hn1 : n = 1
    · subst hn1
      rw [upL_one]
      exact up_one leaf [] i v w hl hv
    · rw [upL_none leaf hn1]
      exact up_none leaf n i v w (by omega) hv
  | succ m ih =>
    intro path n i v w hm hm2 hv h1 hi hn
    by_cases hn1 : n = 1
    · subst hn1
      rw [upL_one]
      exact up_one leaf path i v w hl hv
    · have hne : path ≠ [] := fun h => by rw [h] at hm; simp at hm
      obtain ⟨ps, p, rfl⟩ : ∃ ps p, path = ps ++ [p] := ⟨path.dropLast, path.getLast hne, (List.dropLast_concat_getLast hne).symm⟩
      have hps : ps.length = m := by simpa using hm
      have h2 : 2 ≤ n := by omega
      have hk := splitN_lt h2
      have hkp := splitN_pos h2
      by_cases hs : i < splitN n
      · rw [upL_left _ _ _ hn1 hs]
        exact up_left leaf _ p _ ps n i v w hl (upL_len hl _ _ _) hv h2 hn hi hs (by omega) (fun v w h => ih ps _ i v w hps (by omega) h (by omega) hs (by omega))
      · rw [upL_right _ _ _ hn1 hs]
        exact up_right leaf _ p _ ps n i v w hl (upL_len hl _ _ _) hv h2 hn hi hs (by omega) (fun v w h => ih ps _ _ v w hps (by omega) h (by omega) (by omega) (by omega))
end Lg
namespace RLg
set_option maxRecDepth 100000 in
set_option maxHeartbeats 1000000 in
theorem up_one (leaf : List UInt8) (path : List (List UInt8)) (i : Int) (v : Value) (w : World) (hl : leaf.length = 32) (hv : Rh 0 w v path) : Calls Try.prog 52 #[.int .i64 1, .int .i64 i, hashV leaf, v] w fun e w' => e = .returned (.tuple #[hashV leaf, .bool (path.length == 0)]) ∧ Kept None w w' := by
  obtain ⟨a, cap, rfl⟩ := hv.form
  obtain ⟨m, hm⟩ : ∃ m, m = path.length := ⟨_, rfl⟩
  rw [← hm]
  obtain ⟨L, hL⟩ : ∃ L : Array Value, L = (leaf.map u8v).toArray := ⟨_, rfl⟩
  have aL : AggTy Try.prog 25 L.size := by rw [hL]; exact Hk.aH32 hl
  have sL : L.size = 32 := by rw [hL]; simpa using hl
  have allL : L.all (·.oneCell') = true := by rw [hL]; exact u8v_all' _
  show Calls Try.prog 52 #[.int .i64 1, .int .i64 i, .agg (leaf.map u8v).toArray, .slice a m cap] w (fun e w' => e = .returned (.tuple #[.agg (leaf.map u8v).toArray, .bool (m == 0)]) ∧ Kept None w w')
  rw [← hL]
  obtain ⟨bE, hbE⟩ : ∃ b : Bool, b = (m == 0) := ⟨_, rfl⟩
  have hE : ((m : Int) == 0) = bE := by
    rw [hbE]
    by_cases h : m = 0
    · subst h; rfl
    · rw [show (m == 0) = false by simpa using h, beq_eq_false_iff_ne]; omega
  rw [← hbE]
  have k0 : Kept None w ((w.alloc (.cells L 25)).alloc (.cells #[.int .u8 0, .int .u8 0, .int .u8 0, .int .u8 0, .int .u8 0, .int .u8 0, .int .u8 0, .int .u8 0, .int .u8 0, .int .u8 0, .int .u8 0, .int .u8 0, .int .u8 0, .int .u8 0, .int .u8 0, .int .u8 0, .int .u8 0, .int .u8 0, .int .u8 0, .int .u8 0, .int .u8 0, .int .u8 0, .int .u8 0, .int .u8 0, .int .u8 0, .int .u8 0, .int .u8 0, .int .u8 0, .int .u8 0, .int .u8 0, .int .u8 0, .int .u8 0] 25)) := ((Kept.refl _ _).alloc _).alloc _
  have bL : Blk ((w.alloc (.cells L 25)).alloc (.cells #[.int .u8 0, .int .u8 0, .int .u8 0, .int .u8 0, .int .u8 0, .int .u8 0, .int .u8 0, .int .u8 0, .int .u8 0, .int .u8 0, .int .u8 0, .int .u8 0, .int .u8 0, .int .u8 0, .int .u8 0, .int .u8 0, .int .u8 0, .int .u8 0, .int .u8 0, .int .u8 0, .int .u8 0, .int .u8 0, .int .u8 0, .int .u8 0, .int .u8 0, .int .u8 0, .int .u8 0, .int .u8 0, .int .u8 0, .int .u8 0, .int .u8 0, .int .u8 0] 25)) w.heap.size L 25 := (Blk.new w _ _).alloc _
  have v0 : Blk ((w.alloc (.cells L 25)).alloc (.cells #[.int .u8 0, .int .u8 0, .int .u8 0, .int .u8 0, .int .u8 0, .int .u8 0, .int .u8 0, .int .u8 0, .int .u8 0, .int .u8 0, .int .u8 0, .int .u8 0, .int .u8 0, .int .u8 0, .int .u8 0, .int .u8 0, .int .u8 0, .int .u8 0, .int .u8 0, .int .u8 0, .int .u8 0, .int .u8 0, .int .u8 0, .int .u8 0, .int .u8 0, .int .u8 0, .int .u8 0, .int .u8 0, .int .u8 0, .int .u8 0, .int .u8 0, .int .u8 0] 25)) (w.heap.size + 1) #[.int .u8 0, .int .u8 0, .int .u8 0, .int .u8 0, .int .u8 0, .int .u8 0, .int .u8 0, .int .u8 0, .int .u8 0, .int .u8 0, .int .u8 0, .int .u8 0, .int .u8 0, .int .u8 0, .int .u8 0, .int .u8 0, .int .u8 0, .int .u8 0, .int .u8 0, .int .u8 0, .int .u8 0, .int .u8 0, .int .u8 0, .int .u8 0, .int .u8 0, .int .u8 0, .int .u8 0, .int .u8 0, .int .u8 0, .int .u8 0, .int .u8 0, .int .u8 0] 25 := Blk.new2 w _ _ _
  obtain ⟨z, hz, hZ⟩ := Blk.any (n := 32) v0 (by rfl)
  have E := hid (hz.trans sL.symm)
  have HA := hid allL
  clear hv hm hL sL allL v0 hz hbE
  go_enter Try.func52, Try.ntmps52
  go_wp2_with (first | (refine wpList_load_blk rfl _ _ rfl rfl bL aL ?_) | (refine wpList_store_blk rfl _ _ _ rfl rfl rfl hZ aL E.out HA.out ?_; intro w9 hR9 k9) | fail)
  exact bodyPost_ret (v := .tuple #[.agg L, .bool bE]) (res_cell_tmp rfl _ rfl rfl hR9 aL) rfl ⟨rfl, k0.then k9 (fun i hi (h : i = w.heap.size + 1) => by omega)⟩
set_option maxRecDepth 100000 in
set_option maxHeartbeats 1000000 in
theorem up_none (leaf : List UInt8) (n i : Nat) (v : Value) (w : World) (h2 : 2 ≤ n) (hv : Rh 0 w v []) : Calls Try.prog 52 #[.int .i64 n, .int .i64 i, hashV leaf, v] w fun e w' => e = .returned (.tuple #[hashV zero32, .bool false]) ∧ Kept None w w' := by
  obtain ⟨a, cap, rfl⟩ := hv.form
  obtain ⟨L, hL⟩ : ∃ L : Array Value, L = (leaf.map u8v).toArray := ⟨_, rfl⟩
  show Calls Try.prog 52 #[.int .i64 n, .int .i64 i, .agg (leaf.map u8v).toArray, .slice a 0 cap] w _
  rw [← hL]
  have h2z : (2 : Int) ≤ (n : Int) := by omega
  have k0 : Kept None w ((w.alloc (.cells L 25)).alloc (.cells #[.int .u8 0, .int .u8 0, .int .u8 0, .int .u8 0, .int .u8 0, .int .u8 0, .int .u8 0, .int .u8 0, .int .u8 0, .int .u8 0, .int .u8 0, .int .u8 0, .int .u8 0, .int .u8 0, .int .u8 0, .int .u8 0, .int .u8 0, .int .u8 0, .int .u8 0, .int .u8 0, .int .u8 0, .int .u8 0, .int .u8 0, .int .u8 0, .int .u8 0, .int .u8 0, .int .u8 0, .int .u8 0, .int .u8 0, .int .u8 0, .int .u8 0, .int .u8 0] 25)) := ((Kept.refl _ _).alloc _).alloc _
  have bL : Blk ((w.alloc (.cells L 25)).alloc (.cells #[.int .u8 0, .int .u8 0, .int .u8 0, .int .u8 0, .int .u8 0, .int .u8 0, .int .u8 0, .int .u8 0, .int .u8 0, .int .u8 0, .int .u8 0, .int .u8 0, .int .u8 0, .int .u8 0, .int .u8 0, .int .u8 0, .int .u8 0, .int .u8 0, .int .u8 0, .int .u8 0, .int .u8 0, .int .u8 0, .int .u8 0, .int .u8 0, .int .u8 0, .int .u8 0, .int .u8 0, .int .u8 0, .int .u8 0, .int .u8 0, .int .u8 0, .int .u8 0] 25)) w.heap.size L 25 := (Blk.new w _ _).alloc _
  have v0 : Blk ((w.alloc (.cells L 25)).alloc (.cells #[.int .u8 0, .int .u8 0, .int .u8 0, .int .u8 0, .int .u8 0, .int .u8 0, .int .u8 0, .int .u8 0, .int .u8 0, .int .u8 0, .int .u8 0, .int .u8 0, .int .u8 0, .int .u8 0, .int .u8 0, .int .u8 0, .int .u8 0, .int .u8 0, .int .u8 0, .int .u8 0, .int .u8 0, .int .u8 0, .int .u8 0, .int .u8 0, .int .u8 0, .int .u8 0, .int .u8 0, .int .u8 0, .int .u8 0, .int .u8 0, .int .u8 0, .int .u8 0] 25)) (w.heap.size + 1) #[.int .u8 0, .int .u8 0, .int .u8 0, .int .u8 0, .int .u8 0, .int .u8 0, .int .u8 0, .int .u8 0, .int .u8 0, .int .u8 0, .int .u8 0, .int .u8 0, .int .u8 0, .int .u8 0, .int .u8 0, .int .u8 0, .int .u8 0, .int .u8 0, .int .u8 0, .int .u8 0, .int .u8 0, .int .u8 0, .int .u8 0, .int .u8 0, .int .u8 0, .int .u8 0, .int .u8 0, .int .u8 0, .int .u8 0, .int .u8 0, .int .u8 0, .int .u8 0] 25 := Blk.new2 w _ _ _
  obtain ⟨z, hz, hZ⟩ := Blk.any (n := 32) v0 (by rfl)
  clear hv hL h2 v0 bL
  go_enter Try.func52, Try.ntmps52
  go_upto_region 4 with (fail)
  refine wp_nm ?_
  intro w1 e1
  rw [← e1] at k0 hZ
  clear e1
  go_wp2_with (first | (refine wpList_store_blk rfl _ _ _ rfl rfl rfl hZ Sp.aH hz Hk.zero_all32 ?_; intro w9 hR9 k9) | fail)
  exact bodyPost_ret (v := .tuple #[.agg #[.int .u8 0, .int .u8 0, .int .u8 0, .int .u8 0, .int .u8 0, .int .u8 0, .int .u8 0, .int .u8 0, .int .u8 0, .int .u8 0, .int .u8 0, .int .u8 0, .int .u8 0, .int .u8 0, .int .u8 0, .int .u8 0, .int .u8 0, .int .u8 0, .int .u8 0, .int .u8 0, .int .u8 0, .int .u8 0, .int .u8 0, .int .u8 0, .int .u8 0, .int .u8 0, .int .u8 0, .int .u8 0, .int .u8 0, .int .u8 0, .int .u8 0, .int .u8 0], .bool false]) (res_cell_tmp rfl _ rfl rfl hR9 Sp.aH) rfl ⟨by rfl, k0.then k9 (fun i hi (h : i = w.heap.size + 1) => by omega)⟩
set_option maxRecDepth 100000 in
set_option maxHeartbeats 1000000 in
theorem up_left (leaf r p : List UInt8) (ok : Bool) (ps : List (List UInt8)) (n i : Nat) (v : Value) (w : World) (hl : leaf.length = 32) (hr : r.length = 32) (hv : Rh 0 w v (ps ++ [p])) (h2 : 2 ≤ n) (hn : n < 9223372036854775808) (_hin : i < n) (hi : i < splitN n) (hps : ps.length ≤ 549755813888)
    (ih : ∀ v w, Rh 0 w v ps → Calls Try.prog 52 #[.int .i64 (splitN n : Nat), .int .i64 i, hashV leaf, v] w fun e w' => e = .returned (.tuple #[hashV r, .bool ok]) ∧ Kept None w w') :
    Calls Try.prog 52 #[.int .i64 n, .int .i64 i, hashV leaf, v] w fun e w' => e = .returned (.tuple #[hashV (nodeL r p), .bool ok]) ∧ Kept None w w' := by
  obtain ⟨a, cap, rfl⟩ := hv.form
  have g2' : cap ≤ 9223372036854775807 ∧ (ps ++ [p]).length ≤ cap := by
    obtain ⟨hi, hv⟩ := hv
    obtain ⟨_, _, q, q1, q2, _⟩ := hv.form
    injection q with _ _ q
    omega
  obtain ⟨m, hm⟩ : ∃ m, m = ps.length := ⟨_, rfl⟩
  obtain ⟨M, hM⟩ : ∃ M, M = (ps ++ [p]).length := ⟨_, rfl⟩
  have hMm : M = m + 1 := by rw [hM, hm, List.length_append]; rfl
  rw [← hM] at hv g2' ⊢
  have hp : p.length = 32 := by
    obtain ⟨hi, hv⟩ := hv
    exact hv.1 p (by simp)
  obtain ⟨a1, s1, i1⟩ := rh_to Lg8.tHashes Lg8.zHashes hv .i64 m (by omega)
  rw [hm, List.take_left, ← hm] at i1
  obtain ⟨b, o, rfl, rp⟩ : ∃ b o, a = some ⟨b, o, none⟩ ∧ w.rangeAt b (o + m * 32) (p.map u8v) := by
    obtain ⟨hi, hv⟩ := hv
    obtain ⟨b, o, e1, e2⟩ := hv.at (i := m) (by rw [← hM]; omega)
    refine ⟨b, o, e1, ?_⟩
    have e3 : (ps ++ [p])[m]'(by rw [← hM]; omega) = p := by simp [hm]
    rwa [e3] at e2
  have hSp := fun w => split n w h2 hn
  have hk := splitN_lt h2
  have hkp := splitN_pos h2
  obtain ⟨k, hkk⟩ : ∃ k, k = splitN n := ⟨_, rfl⟩
  rw [← hkk] at ih hSp hk hkp hi
  have h2z : (2 : Int) ≤ (n : Int) := by omega
  have hkz : (k : Int) < (n : Int) := by omega
  have hMz : (1 : Int) ≤ (M : Int) := by omega
  have hmz : (m : Int) < (M : Int) := by omega
  have hcz : (M : Int) ≤ (cap : Int) := by omega
  have rm : IntKind.i64.wrap ((M : Int) - 1) = (m : Int) := by rw [IntKind.wrap_i64]; omega
  have hik : (i : Int) < (k : Int) := by omega
  have hN := fun w => node r p w (by omega) (by omega)
  obtain ⟨res, hres⟩ : ∃ res, res = nodeL r p := ⟨_, rfl⟩
  have e32 : res.length = 32 := by rw [hres]; exact sumB_len _
  rw [← hres] at hN ⊢
  obtain ⟨L, hL⟩ : ∃ L : Array Value, L = (leaf.map u8v).toArray := ⟨_, rfl⟩
  obtain ⟨RA, hRA⟩ : ∃ R : Array Value, R = (r.map u8v).toArray := ⟨_, rfl⟩
  obtain ⟨CP, hCP⟩ : ∃ C : List Value, C = p.map u8v := ⟨_, rfl⟩
  obtain ⟨PA, hPA⟩ : ∃ P : Array Value, P = CP.toArray := ⟨_, rfl⟩
  have aL : AggTy Try.prog 25 L.size := by rw [hL]; exact Hk.aH32 hl
  have aR : AggTy Try.prog 25 RA.size := by rw [hRA]; exact Hk.aH32 hr
  have aP : AggTy Try.prog 25 CP.length := by rw [hCP]; exact Hk.aH32' hp
  have aPA : AggTy Try.prog 25 PA.size := by rw [hPA, hCP]; exact Hk.aH32 hp
  have sR : RA.size = 32 := by rw [hRA]; simpa using hr
  have sP : PA.size = 32 := by rw [hPA, hCP]; simpa using hp
  have allR : RA.all (·.oneCell') = true := by rw [hRA]; exact u8v_all' _
  have allP : PA.all (·.oneCell') = true := by rw [hPA, hCP]; exact u8v_all' _
  have ih : ∀ v w, Rh 0 w v ps → Calls Try.prog 52 #[.int .i64 k, .int .i64 i, .agg L, v] w fun e w' => e = .returned (.tuple #[.agg RA, .bool ok]) ∧ Kept None w w' := by rw [hL, hRA]; exact ih
  have hN : ∀ w, Calls Try.prog 18 #[.agg RA, .agg PA] w fun e w' => e = .returned (hashV res) ∧ Kept None w w' := by rw [hRA, hPA, hCP]; exact hN
  show Calls Try.prog 52 #[.int .i64 n, .int .i64 i, .agg (leaf.map u8v).toArray, .slice (some ⟨b, o, none⟩) M cap] w _
  rw [← hL]
  rw [← hCP] at rp
  have HPA := hid hPA
  have HP := hid hSp
  have IH := hid ih
  have HN := hid hN
  have H32 := hid e32
  have HS := hid (And.intro sR (And.intro sP (And.intro allR allP)))
  have k0 : Kept None w ((w.alloc (.cells L 25)).alloc (.cells #[.int .u8 0, .int .u8 0, .int .u8 0, .int .u8 0, .int .u8 0, .int .u8 0, .int .u8 0, .int .u8 0, .int .u8 0, .int .u8 0, .int .u8 0, .int .u8 0, .int .u8 0, .int .u8 0, .int .u8 0, .int .u8 0, .int .u8 0, .int .u8 0, .int .u8 0, .int .u8 0, .int .u8 0, .int .u8 0, .int .u8 0, .int .u8 0, .int .u8 0, .int .u8 0, .int .u8 0, .int .u8 0, .int .u8 0, .int .u8 0, .int .u8 0, .int .u8 0] 25)) := ((Kept.refl _ _).alloc _).alloc _
  have bL : Blk ((w.alloc (.cells L 25)).alloc (.cells #[.int .u8 0, .int .u8 0, .int .u8 0, .int .u8 0, .int .u8 0, .int .u8 0, .int .u8 0, .int .u8 0, .int .u8 0, .int .u8 0, .int .u8 0, .int .u8 0, .int .u8 0, .int .u8 0, .int .u8 0, .int .u8 0, .int .u8 0, .int .u8 0, .int .u8 0, .int .u8 0, .int .u8 0, .int .u8 0, .int .u8 0, .int .u8 0, .int .u8 0, .int .u8 0, .int .u8 0, .int .u8 0, .int .u8 0, .int .u8 0, .int .u8 0, .int .u8 0] 25)) w.heap.size L 25 := (Blk.new w _ _).alloc _
  have v0 : Blk ((w.alloc (.cells L 25)).alloc (.cells #[.int .u8 0, .int .u8 0, .int .u8 0, .int .u8 0, .int .u8 0, .int .u8 0, .int .u8 0, .int .u8 0, .int .u8 0, .int .u8 0, .int .u8 0, .int .u8 0, .int .u8 0, .int .u8 0, .int .u8 0, .int .u8 0, .int .u8 0, .int .u8 0, .int .u8 0, .int .u8 0, .int .u8 0, .int .u8 0, .int .u8 0, .int .u8 0, .int .u8 0, .int .u8 0, .int .u8 0, .int .u8 0, .int .u8 0, .int .u8 0, .int .u8 0, .int .u8 0] 25)) (w.heap.size + 1) #[.int .u8 0, .int .u8 0, .int .u8 0, .int .u8 0, .int .u8 0, .int .u8 0, .int .u8 0, .int .u8 0, .int .u8 0, .int .u8 0, .int .u8 0, .int .u8 0, .int .u8 0, .int .u8 0, .int .u8 0, .int .u8 0, .int .u8 0, .int .u8 0, .int .u8 0, .int .u8 0, .int .u8 0, .int .u8 0, .int .u8 0, .int .u8 0, .int .u8 0, .int .u8 0, .int .u8 0, .int .u8 0, .int .u8 0, .int .u8 0, .int .u8 0, .int .u8 0] 25 := Blk.new2 w _ _ _
  obtain ⟨z, hz, hZ⟩ := Blk.any (n := 32) v0 (by rfl)
  have HI := hid (i1.kept k0)
  have RP := hid (rangeAt_kept rp k0)
  have HRP0 := hid rp
  have hb := hid (And.intro bL.lt hZ.lt)
  clear ih hSp hN hres hL hRA hCP hPA hkk hk hkp i1 rp v0 sR sP allR allP e32 hv hm hM hMm hn _hin hi hps hl hr hp h2 hb
  go_enter Try.func52, Try.ntmps52
  go_wp2_with fail
  refine (HP.out _).mono ?_
  rintro e w3 ⟨rfl, e3⟩
  rw [e3] at k0 bL hZ HI RP
  clear e3
  obtain ⟨z5, hz5, hZ5⟩ := Blk.any (n := 32) (Blk.new w3 #[.int .u8 0, .int .u8 0, .int .u8 0, .int .u8 0, .int .u8 0, .int .u8 0, .int .u8 0, .int .u8 0, .int .u8 0, .int .u8 0, .int .u8 0, .int .u8 0, .int .u8 0, .int .u8 0, .int .u8 0, .int .u8 0, .int .u8 0, .int .u8 0, .int .u8 0, .int .u8 0, .int .u8 0, .int .u8 0, .int .u8 0, .int .u8 0, .int .u8 0, .int .u8 0, .int .u8 0, .int .u8 0, .int .u8 0, .int .u8 0, .int .u8 0, .int .u8 0] 25) (by rfl)
  have E5 := hid (hz5.trans HS.out.2.1.symm)
  clear hz5
  go_wp2_with (first | (refine wpList_load_at rfl _ _ rfl rfl RP.out aP ?_; rw [← HPA.out]) | (refine wpList_store_blk rfl _ _ _ rfl rfl rfl hZ5 aPA E5.out HS.out.2.2.2 ?_; intro w5 h5 k5; have k35 := k5.fresh) | fail)
  have k05 := k0.trans k35
  have bL5 := bL.kept k35 (fun h => h)
  have hZ5' := hZ.kept k35 (fun h => h)
  have HI5 := hid (HI.out.kept k35)
  have hlt := hid (And.intro h5.lt (And.intro hZ.lt k0.size))
  clear k5 k35 k0 bL hZ HI hZ5 E5 RP
  have hs : Ky.Steady [Ky.lift (.val 8 (.tuple #[.agg RA, .bool ok])), Ky.lift (.room 12 w5.heap.size 32 25), Ky.stored 13 w5.heap.size 12 RA 25 12] := Ky.Steady.append (l := [Ky.lift (.val 8 (.tuple #[.agg RA, .bool ok])), Ky.lift (.room 12 w5.heap.size 32 25)]) (Ky.Steady.lift (l := [.val 8 (.tuple #[.agg RA, .bool ok]), .room 12 w5.heap.size 32 25]) (Go.Pm.Steady.val (Go.Pm.Steady.room (Go.Pm.Steady.nil)))) (Ky.steady_stored _ _ _ _ _ _)
  refine Ky.wp_region_kn w5 _ hs (Kept.refl _ _) (by kernel_rfl) (by kernel_rfl) (by kernel_rfl) ?_
  iterate 2 (refine Ky.wpPar_pure rfl (by rfl) _ (fun W hW => by
      have q1 := s1 W
      go_simp
      exact rfl) ?_; simp only [Act.put, List.setIfInBounds_toArray, List.set_cons_zero, List.set_cons_succ])
  refine Ky.wpPar_pure rfl (by rfl) _ (fun W hW => by first | exact exec_load_blk _ _ rfl rfl (bL5.kept hW (fun h => h)) aL) ?_; simp only [Act.put, List.setIfInBounds_toArray, List.set_cons_zero, List.set_cons_succ]
  iterate 5 (refine Ky.wpPar_pure rfl (by rfl) _ (fun W hW => by
      have q1 := s1 W
      go_simp
      exact rfl) ?_; simp only [Act.put, List.setIfInBounds_toArray, List.set_cons_zero, List.set_cons_succ])
  refine Ky.wpKn_adds hs rfl (by rfl) (fun W hW hd => ?_) (fun v8 hv => ?_)
  · unfold Gives
    go_simp
    refine gives_call (IH.out _ _ (HI5.out.kept hW)) ?_
    rintro e w3 ⟨rfl, k3⟩
    exact ⟨_, rfl, k3, rfl, trivial⟩
  obtain rfl : v8 = .tuple #[.agg RA, .bool ok] := hv
  simp only [Act.put, List.setIfInBounds_toArray, List.set_cons_zero, List.set_cons_succ]
  iterate 3 (refine Ky.wpPar_pure rfl (by rfl) _ (fun W hW => by
      have q1 := s1 W
      go_simp
      exact rfl) ?_; simp only [Act.put, List.setIfInBounds_toArray, List.set_cons_zero, List.set_cons_succ])
  refine Ky.wpKn_adds hs rfl (by rfl) (fun W hW hd => ?_) (fun v12 hv => ?_)
  · unfold Gives
    go_simp
    exact ⟨(Kept.refl None W).alloc _, ⟨_, rfl⟩, _, _, rfl, hW.size, by rfl, Blk.new W _ _⟩
  obtain ⟨g12, rfl⟩ : ∃ g, v12 = .pointer (some ⟨g, 0, none⟩) := hv
  simp only [Act.put, List.setIfInBounds_toArray, List.set_cons_zero, List.set_cons_succ]
  refine Ky.wpPar_adds rfl (by rfl) (fun W hW hd => ?_) (fun v13 hv => ?_)
  · obtain ⟨g, z3, hg3, hg2, hz3, hR3⟩ : ∃ (g : Nat) (z : Array Value), Value.pointer (some ⟨g12, 0, none⟩) = .pointer (some ⟨g, 0, none⟩) ∧ w5.heap.size ≤ g ∧ z.size = 32 ∧ Blk W g z 25 := hd 12 (List.Mem.head _)
    obtain rfl : g12 = g := by simpa using hg3
    refine gives_store7 _ _ _ rfl rfl rfl hR3 aR (hz3.trans (HS.out.1.symm)) HS.out.2.2.1 (fun W' hb hk => ⟨hW.then hk (fun i hi h => by have h : i = g12 := h; omega), trivial, ⟨g12, rfl, hg2, hb⟩, Ky.keeps_of fun f hf hs _ hne u hfu => ?_⟩)
    simp only [List.mem_cons, List.not_mem_nil, or_false] at hf
    rcases hf with rfl | rfl | rfl
    · exact hfu
    · exact absurd (List.Mem.head _) hs
    · exact absurd rfl hne
  simp only [Act.put]
  iterate 1 (refine Ky.wpPar_pure rfl (by rfl) _ (fun W hW => by
      have q1 := s1 W
      go_simp
      exact rfl) ?_; simp only [Act.put, List.setIfInBounds_toArray, List.set_cons_zero, List.set_cons_succ])
  refine Ky.wpPar_nil (fun W hW hG => ?_)
  obtain ⟨g, hg3, hg2_12, hB_12⟩ : ∃ g, Value.pointer (some ⟨g12, 0, none⟩) = .pointer (some ⟨g, 0, none⟩) ∧ w5.heap.size ≤ g ∧ Blk W g RA 25 := hG 13
  obtain rfl : g12 = g := by simpa using hg3
  clear hg3
  have k07 := k05.trans hW
  have hZ7 := hZ5'.kept hW (fun h => h)
  have q7 := h5.kept hW (fun h => h)
  have h7 := hB_12
  clear hB_12 hG hs hW k05 hZ5' bL5 h5 hg2_12 s1 hlt
  go_wp2_with (first | (refine wpList_load_blk rfl _ _ rfl rfl h7 aR ?_) | (refine wpList_load_blk rfl _ _ rfl rfl q7 aPA ?_) | fail)
  refine (HN.out _).mono ?_
  rintro e w9 ⟨rfl, k9⟩
  have k09 := k07.trans k9
  have hZ9 := hZ7.kept k9 (fun h => h)
  clear k9 k07 hZ7 h7 q7
  have aH' := Hk.aH32 H32.out
  have EE := hid (hz.trans (show 32 = (res.map u8v).toArray.size by simpa using H32.out.symm))
  clear hz
  go_wp2_with (first | (refine wpList_store_blk rfl _ _ _ rfl rfl rfl hZ9 aH' EE.out (u8v_all _) ?_; intro wz hRz kz) | fail)
  exact bodyPost_ret (v := .tuple #[hashV res, .bool ok]) (res_cell_tmp rfl _ rfl rfl hRz aH') rfl ⟨rfl, k09.then kz (fun i hi (h : i = w.heap.size + 1) => by omega)⟩
set_option maxRecDepth 100000 in
set_option maxHeartbeats 1000000 in
theorem up_right (leaf r p : List UInt8) (ok : Bool) (ps : List (List UInt8)) (n i : Nat) (v : Value) (w : World) (hl : leaf.length = 32) (hr : r.length = 32) (hv : Rh 0 w v (ps ++ [p])) (h2 : 2 ≤ n) (hn : n < 9223372036854775808) (hin : i < n) (hi : ¬ i < splitN n) (hps : ps.length ≤ 549755813888)
    (ih : ∀ v w, Rh 0 w v ps → Calls Try.prog 52 #[.int .i64 (n - splitN n : Nat), .int .i64 (i - splitN n : Nat), hashV leaf, v] w fun e w' => e = .returned (.tuple #[hashV r, .bool ok]) ∧ Kept None w w') :
    Calls Try.prog 52 #[.int .i64 n, .int .i64 i, hashV leaf, v] w fun e w' => e = .returned (.tuple #[hashV (nodeL p r), .bool ok]) ∧ Kept None w w' := by
  obtain ⟨a, cap, rfl⟩ := hv.form
  have g2' : cap ≤ 9223372036854775807 ∧ (ps ++ [p]).length ≤ cap := by
    obtain ⟨hi, hv⟩ := hv
    obtain ⟨_, _, q, q1, q2, _⟩ := hv.form
    injection q with _ _ q
    omega
  obtain ⟨m, hm⟩ : ∃ m, m = ps.length := ⟨_, rfl⟩
  obtain ⟨M, hM⟩ : ∃ M, M = (ps ++ [p]).length := ⟨_, rfl⟩
  have hMm : M = m + 1 := by rw [hM, hm, List.length_append]; rfl
  rw [← hM] at hv g2' ⊢
  have hp : p.length = 32 := by
    obtain ⟨hi, hv⟩ := hv
    exact hv.1 p (by simp)
  obtain ⟨a1, s1, i1⟩ := rh_to Lg8.tHashes Lg8.zHashes hv .i64 m (by omega)
  rw [hm, List.take_left, ← hm] at i1
  obtain ⟨b, o, rfl, rp⟩ : ∃ b o, a = some ⟨b, o, none⟩ ∧ w.rangeAt b (o + m * 32) (p.map u8v) := by
    obtain ⟨hi, hv⟩ := hv
    obtain ⟨b, o, e1, e2⟩ := hv.at (i := m) (by rw [← hM]; omega)
    refine ⟨b, o, e1, ?_⟩
    have e3 : (ps ++ [p])[m]'(by rw [← hM]; omega) = p := by simp [hm]
    rwa [e3] at e2
  have hSp := fun w => split n w h2 hn
  have hk := splitN_lt h2
  have hkp := splitN_pos h2
  obtain ⟨k, hkk⟩ : ∃ k, k = splitN n := ⟨_, rfl⟩
  rw [← hkk] at ih hSp hk hkp hi
  have h2z : (2 : Int) ≤ (n : Int) := by omega
  have hkz : (k : Int) < (n : Int) := by omega
  have hMz : (1 : Int) ≤ (M : Int) := by omega
  have hmz : (m : Int) < (M : Int) := by omega
  have hcz : (M : Int) ≤ (cap : Int) := by omega
  have rm : IntKind.i64.wrap ((M : Int) - 1) = (m : Int) := by rw [IntKind.wrap_i64]; omega
  have hik : ¬ (i : Int) < (k : Int) := by omega
  obtain ⟨i2, hi2⟩ : ∃ j, j = i - k := ⟨_, rfl⟩
  obtain ⟨n2, hn2⟩ : ∃ j, j = n - k := ⟨_, rfl⟩
  rw [← hi2, ← hn2] at ih
  have ri : IntKind.i64.wrap ((i : Int) - (k : Int)) = (i2 : Int) := by rw [IntKind.wrap_i64]; omega
  have rn : IntKind.i64.wrap ((n : Int) - (k : Int)) = (n2 : Int) := by rw [IntKind.wrap_i64]; omega
  have hN := fun w => node p r w (by omega) (by omega)
  obtain ⟨res, hres⟩ : ∃ res, res = nodeL p r := ⟨_, rfl⟩
  have e32 : res.length = 32 := by rw [hres]; exact sumB_len _
  rw [← hres] at hN ⊢
  obtain ⟨L, hL⟩ : ∃ L : Array Value, L = (leaf.map u8v).toArray := ⟨_, rfl⟩
  obtain ⟨RA, hRA⟩ : ∃ R : Array Value, R = (r.map u8v).toArray := ⟨_, rfl⟩
  obtain ⟨CP, hCP⟩ : ∃ C : List Value, C = p.map u8v := ⟨_, rfl⟩
  obtain ⟨PA, hPA⟩ : ∃ P : Array Value, P = CP.toArray := ⟨_, rfl⟩
  have aL : AggTy Try.prog 25 L.size := by rw [hL]; exact Hk.aH32 hl
  have aR : AggTy Try.prog 25 RA.size := by rw [hRA]; exact Hk.aH32 hr
  have aP : AggTy Try.prog 25 CP.length := by rw [hCP]; exact Hk.aH32' hp
  have aPA : AggTy Try.prog 25 PA.size := by rw [hPA, hCP]; exact Hk.aH32 hp
  have sR : RA.size = 32 := by rw [hRA]; simpa using hr
  have sP : PA.size = 32 := by rw [hPA, hCP]; simpa using hp
  have allR : RA.all (·.oneCell') = true := by rw [hRA]; exact u8v_all' _
  have allP : PA.all (·.oneCell') = true := by rw [hPA, hCP]; exact u8v_all' _
  have ih : ∀ v w, Rh 0 w v ps → Calls Try.prog 52 #[.int .i64 n2, .int .i64 i2, .agg L, v] w fun e w' => e = .returned (.tuple #[.agg RA, .bool ok]) ∧ Kept None w w' := by rw [hL, hRA]; exact ih
  have hN : ∀ w, Calls Try.prog 18 #[.agg PA, .agg RA] w fun e w' => e = .returned (hashV res) ∧ Kept None w w' := by rw [hRA, hPA, hCP]; exact hN
  show Calls Try.prog 52 #[.int .i64 n, .int .i64 i, .agg (leaf.map u8v).toArray, .slice (some ⟨b, o, none⟩) M cap] w _
  rw [← hL]
  rw [← hCP] at rp
  have HPA := hid hPA
  have HP := hid hSp
  have IH := hid ih
  have HN := hid hN
  have H32 := hid e32
  have HS := hid (And.intro sR (And.intro sP (And.intro allR allP)))
  have k0 : Kept None w ((w.alloc (.cells L 25)).alloc (.cells #[.int .u8 0, .int .u8 0, .int .u8 0, .int .u8 0, .int .u8 0, .int .u8 0, .int .u8 0, .int .u8 0, .int .u8 0, .int .u8 0, .int .u8 0, .int .u8 0, .int .u8 0, .int .u8 0, .int .u8 0, .int .u8 0, .int .u8 0, .int .u8 0, .int .u8 0, .int .u8 0, .int .u8 0, .int .u8 0, .int .u8 0, .int .u8 0, .int .u8 0, .int .u8 0, .int .u8 0, .int .u8 0, .int .u8 0, .int .u8 0, .int .u8 0, .int .u8 0] 25)) := ((Kept.refl _ _).alloc _).alloc _
  have bL : Blk ((w.alloc (.cells L 25)).alloc (.cells #[.int .u8 0, .int .u8 0, .int .u8 0, .int .u8 0, .int .u8 0, .int .u8 0, .int .u8 0, .int .u8 0, .int .u8 0, .int .u8 0, .int .u8 0, .int .u8 0, .int .u8 0, .int .u8 0, .int .u8 0, .int .u8 0, .int .u8 0, .int .u8 0, .int .u8 0, .int .u8 0, .int .u8 0, .int .u8 0, .int .u8 0, .int .u8 0, .int .u8 0, .int .u8 0, .int .u8 0, .int .u8 0, .int .u8 0, .int .u8 0, .int .u8 0, .int .u8 0] 25)) w.heap.size L 25 := (Blk.new w _ _).alloc _
  have v0 : Blk ((w.alloc (.cells L 25)).alloc (.cells #[.int .u8 0, .int .u8 0, .int .u8 0, .int .u8 0, .int .u8 0, .int .u8 0, .int .u8 0, .int .u8 0, .int .u8 0, .int .u8 0, .int .u8 0, .int .u8 0, .int .u8 0, .int .u8 0, .int .u8 0, .int .u8 0, .int .u8 0, .int .u8 0, .int .u8 0, .int .u8 0, .int .u8 0, .int .u8 0, .int .u8 0, .int .u8 0, .int .u8 0, .int .u8 0, .int .u8 0, .int .u8 0, .int .u8 0, .int .u8 0, .int .u8 0, .int .u8 0] 25)) (w.heap.size + 1) #[.int .u8 0, .int .u8 0, .int .u8 0, .int .u8 0, .int .u8 0, .int .u8 0, .int .u8 0, .int .u8 0, .int .u8 0, .int .u8 0, .int .u8 0, .int .u8 0, .int .u8 0, .int .u8 0, .int .u8 0, .int .u8 0, .int .u8 0, .int .u8 0, .int .u8 0, .int .u8 0, .int .u8 0, .int .u8 0, .int .u8 0, .int .u8 0, .int .u8 0, .int .u8 0, .int .u8 0, .int .u8 0, .int .u8 0, .int .u8 0, .int .u8 0, .int .u8 0] 25 := Blk.new2 w _ _ _
  obtain ⟨z, hz, hZ⟩ := Blk.any (n := 32) v0 (by rfl)
  have HI := hid (i1.kept k0)
  have RP := hid (rangeAt_kept rp k0)
  have HRP0 := hid rp
  have hb := hid (And.intro bL.lt hZ.lt)
  clear ih hSp hN hres hL hRA hCP hPA hkk hk hkp i1 rp v0 sR sP allR allP e32 hv hm hM hMm hn hin hi hps hl hr hp h2 hb hi2 hn2
  go_enter Try.func52, Try.ntmps52
  go_wp2_with fail
  refine (HP.out _).mono ?_
  rintro e w3 ⟨rfl, e3⟩
  rw [e3] at k0 bL hZ HI RP
  clear e3
  obtain ⟨z5, hz5, hZ5⟩ := Blk.any (n := 32) (Blk.new w3 #[.int .u8 0, .int .u8 0, .int .u8 0, .int .u8 0, .int .u8 0, .int .u8 0, .int .u8 0, .int .u8 0, .int .u8 0, .int .u8 0, .int .u8 0, .int .u8 0, .int .u8 0, .int .u8 0, .int .u8 0, .int .u8 0, .int .u8 0, .int .u8 0, .int .u8 0, .int .u8 0, .int .u8 0, .int .u8 0, .int .u8 0, .int .u8 0, .int .u8 0, .int .u8 0, .int .u8 0, .int .u8 0, .int .u8 0, .int .u8 0, .int .u8 0, .int .u8 0] 25) (by rfl)
  have E5 := hid (hz5.trans HS.out.2.1.symm)
  clear hz5
  go_wp2_with (first | (refine wpList_load_at rfl _ _ rfl rfl RP.out aP ?_; rw [← HPA.out]) | (refine wpList_store_blk rfl _ _ _ rfl rfl rfl hZ5 aPA E5.out HS.out.2.2.2 ?_; intro w5 h5 k5; have k35 := k5.fresh) | fail)
  have k05 := k0.trans k35
  have bL5 := bL.kept k35 (fun h => h)
  have hZ5' := hZ.kept k35 (fun h => h)
  have HI5 := hid (HI.out.kept k35)
  have hlt := hid (And.intro h5.lt (And.intro hZ.lt k0.size))
  clear k5 k35 k0 bL hZ HI hZ5 E5 RP
  have hs : Ky.Steady [Ky.lift (.val 12 (.tuple #[.agg RA, .bool ok])), Ky.lift (.room 16 w5.heap.size 32 25), Ky.stored 17 w5.heap.size 14 RA 25 16] := Ky.Steady.append (l := [Ky.lift (.val 12 (.tuple #[.agg RA, .bool ok])), Ky.lift (.room 16 w5.heap.size 32 25)]) (Ky.Steady.lift (l := [.val 12 (.tuple #[.agg RA, .bool ok]), .room 16 w5.heap.size 32 25]) (Go.Pm.Steady.val (Go.Pm.Steady.room (Go.Pm.Steady.nil)))) (Ky.steady_stored _ _ _ _ _ _)
  refine Ky.wp_region_kn w5 _ hs (Kept.refl _ _) (by kernel_rfl) (by kernel_rfl) (by kernel_rfl) ?_
  iterate 6 (refine Ky.wpPar_pure rfl (by rfl) _ (fun W hW => by
      have q1 := s1 W
      go_simp
      exact rfl) ?_; simp only [Act.put, List.setIfInBounds_toArray, List.set_cons_zero, List.set_cons_succ])
  refine Ky.wpPar_pure rfl (by rfl) _ (fun W hW => by first | exact exec_load_blk _ _ rfl rfl (bL5.kept hW (fun h => h)) aL) ?_; simp only [Act.put, List.setIfInBounds_toArray, List.set_cons_zero, List.set_cons_succ]
  iterate 5 (refine Ky.wpPar_pure rfl (by rfl) _ (fun W hW => by
      have q1 := s1 W
      go_simp
      exact rfl) ?_; simp only [Act.put, List.setIfInBounds_toArray, List.set_cons_zero, List.set_cons_succ])
  refine Ky.wpKn_adds hs rfl (by rfl) (fun W hW hd => ?_) (fun v12 hv => ?_)
  · unfold Gives
    go_simp
    refine gives_call (IH.out _ _ (HI5.out.kept hW)) ?_
    rintro e w3 ⟨rfl, k3⟩
    exact ⟨_, rfl, k3, rfl, trivial⟩
  obtain rfl : v12 = .tuple #[.agg RA, .bool ok] := hv
  simp only [Act.put, List.setIfInBounds_toArray, List.set_cons_zero, List.set_cons_succ]
  iterate 3 (refine Ky.wpPar_pure rfl (by rfl) _ (fun W hW => by
      have q1 := s1 W
      go_simp
      exact rfl) ?_; simp only [Act.put, List.setIfInBounds_toArray, List.set_cons_zero, List.set_cons_succ])
  refine Ky.wpKn_adds hs rfl (by rfl) (fun W hW hd => ?_) (fun v16 hv => ?_)
  · unfold Gives
    go_simp
    exact ⟨(Kept.refl None W).alloc _, ⟨_, rfl⟩, _, _, rfl, hW.size, by rfl, Blk.new W _ _⟩
  obtain ⟨g16, rfl⟩ : ∃ g, v16 = .pointer (some ⟨g, 0, none⟩) := hv
  simp only [Act.put, List.setIfInBounds_toArray, List.set_cons_zero, List.set_cons_succ]
  refine Ky.wpPar_adds rfl (by rfl) (fun W hW hd => ?_) (fun v17 hv => ?_)
  · obtain ⟨g, z3, hg3, hg2, hz3, hR3⟩ : ∃ (g : Nat) (z : Array Value), Value.pointer (some ⟨g16, 0, none⟩) = .pointer (some ⟨g, 0, none⟩) ∧ w5.heap.size ≤ g ∧ z.size = 32 ∧ Blk W g z 25 := hd 16 (List.Mem.head _)
    obtain rfl : g16 = g := by simpa using hg3
    refine gives_store7 _ _ _ rfl rfl rfl hR3 aR (hz3.trans (HS.out.1.symm)) HS.out.2.2.1 (fun W' hb hk => ⟨hW.then hk (fun i hi h => by have h : i = g16 := h; omega), trivial, ⟨g16, rfl, hg2, hb⟩, Ky.keeps_of fun f hf hs _ hne u hfu => ?_⟩)
    simp only [List.mem_cons, List.not_mem_nil, or_false] at hf
    rcases hf with rfl | rfl | rfl
    · exact hfu
    · exact absurd (List.Mem.head _) hs
    · exact absurd rfl hne
  simp only [Act.put]
  iterate 1 (refine Ky.wpPar_pure rfl (by rfl) _ (fun W hW => by
      have q1 := s1 W
      go_simp
      exact rfl) ?_; simp only [Act.put, List.setIfInBounds_toArray, List.set_cons_zero, List.set_cons_succ])
  refine Ky.wpPar_nil (fun W hW hG => ?_)
  obtain ⟨g, hg3, hg2_16, hB_16⟩ : ∃ g, Value.pointer (some ⟨g16, 0, none⟩) = .pointer (some ⟨g, 0, none⟩) ∧ w5.heap.size ≤ g ∧ Blk W g RA 25 := hG 17
  obtain rfl : g16 = g := by simpa using hg3
  clear hg3
  have k07 := k05.trans hW
  have hZ7 := hZ5'.kept hW (fun h => h)
  have q7 := h5.kept hW (fun h => h)
  have h7 := hB_16
  clear hB_16 hG hs hW k05 hZ5' bL5 h5 hg2_16 s1 hlt
  go_wp2_with (first | (refine wpList_load_blk rfl _ _ rfl rfl h7 aR ?_) | (refine wpList_load_blk rfl _ _ rfl rfl q7 aPA ?_) | fail)
  refine (HN.out _).mono ?_
  rintro e w9 ⟨rfl, k9⟩
  have k09 := k07.trans k9
  have hZ9 := hZ7.kept k9 (fun h => h)
  clear k9 k07 hZ7 h7 q7
  have aH' := Hk.aH32 H32.out
  have EE := hid (hz.trans (show 32 = (res.map u8v).toArray.size by simpa using H32.out.symm))
  clear hz
  go_wp2_with (first | (refine wpList_store_blk rfl _ _ _ rfl rfl rfl hZ9 aH' EE.out (u8v_all _) ?_; intro wz hRz kz) | fail)
  exact bodyPost_ret (v := .tuple #[hashV res, .bool ok]) (res_cell_tmp rfl _ rfl rfl hRz aH') rfl ⟨rfl, k09.then kz (fun i hi (h : i = w.heap.size + 1) => by omega)⟩
/-- up. -/
theorem up (leaf : List UInt8) (hl : leaf.length = 32) : ∀ (m : Nat) (path : List (List UInt8)) (n i : Nat) (v : Value) (w : World), path.length = m → m ≤ 549755813888 → Rh 0 w v path → 1 ≤ n → i < n → n < 9223372036854775808 → Calls Try.prog 52 #[.int .i64 n, .int .i64 i, hashV leaf, v] w fun e w' => e = .returned (.tuple #[hashV (upL leaf path n i).1, .bool (upL leaf path n i).2]) ∧ Kept None w w' := by
  intro m
  induction m with
  | zero =>
    intro path n i v w hm hm2 hv h1 hi hn
    obtain rfl := List.eq_nil_of_length_eq_zero hm
    by_cases hn1 : n = 1
    · subst hn1
      rw [upL_one]
      exact up_one leaf [] i v w hl hv
    · rw [upL_none leaf hn1]
      exact up_none leaf n i v w (by omega) hv
  | succ m ih =>
    intro path n i v w hm hm2 hv h1 hi hn
    by_cases hn1 : n = 1
    · subst hn1
      rw [upL_one]
      exact up_one leaf path i v w hl hv
    · have hne : path ≠ [] := fun h => by rw [h] at hm; simp at hm
      obtain ⟨ps, p, rfl⟩ : ∃ ps p, path = ps ++ [p] := ⟨path.dropLast, path.getLast hne, (List.dropLast_concat_getLast hne).symm⟩
      have hps : ps.length = m := by simpa using hm
      have h2 : 2 ≤ n := by omega
      have hk := splitN_lt h2
      have hkp := splitN_pos h2
      by_cases hs : i < splitN n
      · rw [upL_left _ _ _ hn1 hs]
        exact up_left leaf _ p _ ps n i v w hl (upL_len hl _ _ _) hv h2 hn hi hs (by omega) (fun v w h => ih ps _ i v w hps (by omega) h (by omega) hs (by omega))
      · rw [upL_right _ _ _ hn1 hs]
        exact up_right leaf _ p _ ps n i v w hl (upL_len hl _ _ _) hv h2 hn hi hs (by omega) (fun v w h => ih ps _ _ v w hps (by omega) h (by omega) (by omega) (by omega))
end RLg
end Go.Proofs.Ytdlnikkfpfdbbaa
