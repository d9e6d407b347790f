/- postmarklaw7.index: a hash, whatever the items, the number, the hash. -/
import Derived.Test.YtdalfcbakjgcmaaKnown7
namespace Go.Pm
open Go Go.RowKit
/-- A byte of a hash in a block, stored over. -/
theorem Blk.setByte {w : World} {g : Nat} {h : List UInt8} {t : TypeId} (hb : Blk w g (h.map u8v).toArray t) (i : Nat) (x : Int) (h0 : 0 ≤ x) (h1 : x < 256) : Blk (w.setCell ⟨g, i, none⟩ (.int .u8 x)) g ((h.set i (byteOf x)).map u8v).toArray t := by
  have h2 := hb.set i (.int .u8 x)
  have e : ((h.map u8v).toArray.setIfInBounds i (.int .u8 x)) = ((h.set i (byteOf x)).map u8v).toArray := by
    rw [List.map_set, u8v_byteOf' h0 h1]
    simp
  rwa [e] at h2
theorem byte_xor (x y : Int) : 0 ≤ bits .xor .u8 x y ∧ bits .xor .u8 x y < 256 := ⟨bits_lo_u8 .., Int.lt_of_le_of_lt (bits_hi_u8 ..) (by decide)⟩
end Go.Pm
namespace Go.Proofs.Ytdalfcbakjgcmaa
open Go.RowKit Go.Pm
namespace Pr
set_option maxRecDepth 100000 in
set_option maxHeartbeats 1000000 in
/-- index, at an item: up to the copy. -/
theorem index_item (b o n cap k : Nat) (x : It) (RA : Array Value) (w : World) (hb : b < w.heap.size) (rI : w.rangeAt b (o + (k / 4 % n) * 64) (x.i.map u8v)) (hx : x.i.length = 32) (hn : 0 < n) (_g1 : n ≤ cap) (_g2' : cap ≤ 9223372036854775807) (hk : k < 65536) (hm : k % 4 ≠ 0) :
    Calls Try.prog 11 #[.slice (some ⟨b, o, none⟩) n cap, .int .u16 k, .agg RA] w fun e w' => ∃ h, h.length = 32 ∧ e = .returned (hashV h) ∧ Kept None w w' := by
  obtain ⟨m, hm'⟩ : ∃ m, m = k % 4 := ⟨_, rfl⟩
  obtain ⟨q, hq'⟩ : ∃ q, q = k / 4 := ⟨_, rfl⟩
  rw [← hq'] at rI
  obtain ⟨j, hj'⟩ : ∃ j, j = q % n := ⟨_, rfl⟩
  rw [← hj'] at rI
  have hm3 : m = 1 ∨ m = 2 ∨ m = 3 := by omega
  have hmz : ((m : Int) == 0) = false := by rw [beq_eq_false_iff_ne]; omega
  have hnn : ((n : Int) == 0) = false := by rw [beq_eq_false_iff_ne]; omega
  have hk4 : (k : Int) % 4 = (m : Int) := by omega
  have hq : (k : Int) / 4 = (q : Int) := by omega
  have hqb : q < 16384 := by omega
  have hjn : j < n := by rw [hj']; exact Nat.mod_lt _ hn
  have hr4 : (q : Int) % (n : Int) = (j : Int) := by rw [hj']; rfl
  have HI := hid (And.intro hb (And.intro rI hx))
  have HM := hid (And.intro hm' (And.intro hm3 hm))
  clear hb rI hx hm' hm3 hm hq' hj'
  go_enter Try.func11, Try.ntmps11
  go_wp2_with (first | go_skip | (refine wpList_load_at rfl _ _ rfl rfl (cs := x.i.map u8v) (fun t c hc => (Kept.cell (((Kept.refl None w).alloc _).alloc _) HI.out.1 (fun h => h)).trans (HI.out.2.1 t c hc)) (aH32' HI.out.2.2) ?_; refine wpList_nm ?_; intro w1 e1; have K1 : Kept None w w1 := (by rw [e1]; exact ((Kept.refl None w).alloc _).alloc _); have Z1 : Blk w1 (w.heap.size + 1) #[.int .u8 0, .int .u8 0, .int .u8 0, .int .u8 0, .int .u8 0, .int .u8 0, .int .u8 0, .int .u8 0, .int .u8 0, .int .u8 0, .int .u8 0, .int .u8 0, .int .u8 0, .int .u8 0, .int .u8 0, .int .u8 0, .int .u8 0, .int .u8 0, .int .u8 0, .int .u8 0, .int .u8 0, .int .u8 0, .int .u8 0, .int .u8 0, .int .u8 0, .int .u8 0, .int .u8 0, .int .u8 0, .int .u8 0, .int .u8 0, .int .u8 0, .int .u8 0] 25 := (by rw [e1]; exact Blk.new2 w _ _ _); have hZ0 := hid (Z1.lt); clear e1; obtain ⟨z, hz, hZ⟩ := Blk.any (n := 32) Z1 rfl; clear Z1) | (refine wpList_store_blk rfl _ _ _ rfl rfl rfl (Blk.new w1 _ _) (aH32 HI.out.2.2) (show (32 : Nat) = (x.i.map u8v).toArray.size by simp [HI.out.2.2]) (u8v_all' _) ?_; intro w3 h3 k3; have K3 := K1.trans k3.fresh; have Z3 := hZ.kept k3.fresh (fun h => h); clear hZ k3; refine Stop.mk ?_) | fail)
  unfold Stop
  have hne : w1.heap.size ≠ w.heap.size + 1 := by have := K1.size; have := hZ0.out; omega
  have hn1 : w.heap.size ≤ w1.heap.size := K1.size
  have hn2 : w.heap.size ≤ w.heap.size + 1 := by omega
  obtain ⟨g, hg⟩ : ∃ g, g = w1.heap.size := ⟨_, rfl⟩
  rw [← hg] at h3 hne hn1 ⊢
  have Z3 := hid Z3
  have K3 := hid K3
  have X32 := HI.out.2.2
  clear K1 hg HI hr4 hjn hqb hq
  obtain ⟨-, hm3, -⟩ := HM.out
  rcases hm3 with rfl | rfl | rfl
  · have c31 := h3.cell 31
    have f31 := h3.free 31
    rw [List.getElem?_toArray, List.getElem?_map, List.getElem?_eq_getElem (show 31 < x.i.length by rw [X32]; decide), Option.map_some, u8v_at] at c31
    have hk4' : (k : Int) % 4 = 1 := hk4
    clear hk4 hmz
    have h9 := h3.setByte 31 (bits .xor .u8 (bAt x.i 31) 1) (byte_xor _ _).1 (byte_xor _ _).2
    have Z9 := Z3.out.setOther (a := ⟨g, 31, none⟩) (Ne.symm hne) (.int .u8 (bits .xor .u8 (bAt x.i 31) 1))
    have hx9 : (x.i.set 31 (Go.Pm.byteOf (bits .xor .u8 (bAt x.i 31) 1))).length = 32 := by simpa using X32
    have K9 := K3.out.setNew hn1 31 (.int .u8 (bits .xor .u8 (bAt x.i 31) 1))
    have E9 := hid (And.intro h9 (And.intro Z9 K9))
    clear h9 Z9 K9
    go_wp2_with (first | go_skip | (refine wpList_load_blk rfl _ _ rfl rfl E9.out.1 (aH32 hx9) ?_) | (refine wpList_store_blk rfl _ _ _ rfl rfl rfl E9.out.2.1 (aH32 hx9) (by rw [hz]; simp [X32]) (u8v_all' _) ?_; intro w5 h5 k5) | fail)
    exact bodyPost_ret (v := .agg _) (results_blk rfl _ rfl h5 (aH32 hx9)) rfl ⟨_, hx9, rfl, E9.out.2.2.then k5 (fun i hi (h : i = w.heap.size + 1) => by omega)⟩
  · obtain ⟨p, hp'⟩ : ∃ p, p = k / 64 % 3 := ⟨_, rfl⟩
    obtain ⟨r, hr'⟩ : ∃ r, r = k / 64 := ⟨_, rfl⟩
    rw [← hr'] at hp'
    have hp3 : p < 3 := by rw [hp']; exact Nat.mod_lt _ (by decide)
    have c31 := h3.cell p
    have f31 := h3.free p
    rw [List.getElem?_toArray, List.getElem?_map, List.getElem?_eq_getElem (show p < x.i.length by rw [X32]; omega), Option.map_some, u8v_at] at c31
    have hk4' : (k : Int) % 4 = 2 := hk4
    have hr : (k : Int) / 64 = (r : Int) := by omega
    have hrb : r < 1024 := by omega
    have hp : (r : Int) % 3 = (p : Int) := by omega
    obtain ⟨t, ht'⟩ : ∃ t, t = k / 16 % 8 := ⟨_, rfl⟩
    have ht : (k : Int) / 16 % 8 = (t : Int) := by omega
    have ht8 : t < 8 := by omega
    clear hk4 hmz hp' hr' ht'
    have hwr : ∀ y : Int, Blk (w3.setCell ⟨g, p, none⟩ (.int .u8 (bits .xor .u8 (bAt x.i p) y))) g ((x.i.set p (Go.Pm.byteOf (bits .xor .u8 (bAt x.i p) y))).map u8v).toArray 25 ∧ Blk (w3.setCell ⟨g, p, none⟩ (.int .u8 (bits .xor .u8 (bAt x.i p) y))) (w.heap.size + 1) z 25 ∧ Kept None w (w3.setCell ⟨g, p, none⟩ (.int .u8 (bits .xor .u8 (bAt x.i p) y))) ∧ (x.i.set p (Go.Pm.byteOf (bits .xor .u8 (bAt x.i p) y))).length = 32 := fun y => ⟨h3.setByte p _ (byte_xor _ _).1 (byte_xor _ _).2, Z3.out.setOther (a := ⟨g, p, none⟩) (Ne.symm hne) _, K3.out.setNew hn1 p _, by simpa using X32⟩
    have E9 := hid hwr
    clear hwr
    go_wp2_with (first | go_skip | (refine wpList_load_blk rfl _ _ rfl rfl (E9.out _).1 (aH32 (E9.out _).2.2.2) ?_) | (refine wpList_store_blk rfl _ _ _ rfl rfl rfl (E9.out _).2.1 (aH32 (E9.out _).2.2.2) (by rw [hz]; simp [X32]) (u8v_all' _) ?_; intro w5 h5 k5) | fail)
    exact bodyPost_ret (v := .agg _) (results_blk rfl _ rfl h5 (aH32 (E9.out _).2.2.2)) rfl ⟨_, (E9.out _).2.2.2, rfl, (E9.out _).2.2.1.then k5 (fun i hi (h : i = w.heap.size + 1) => by omega)⟩
  · have hk4' : (k : Int) % 4 = 3 := hk4
    clear hk4 hmz
    go_wp2_with (first | go_skip | (refine wpList_load_blk rfl _ _ rfl rfl h3 (aH32 X32) ?_) | (refine wpList_store_blk rfl _ _ _ rfl rfl rfl Z3.out (aH32 X32) (by rw [hz]; simp [X32]) (u8v_all' _) ?_; intro w5 h5 k5) | fail)
    exact bodyPost_ret (v := .agg _) (results_blk rfl _ rfl h5 (aH32 X32)) rfl ⟨_, X32, rfl, K3.out.then k5 (fun i hi (h : i = w.heap.size + 1) => by omega)⟩
set_option maxRecDepth 100000 in
set_option maxHeartbeats 1000000 in
/-- index, the hash as it is. -/
theorem index_raw (a : Option Addr) (n cap k : Nat) (raw : List UInt8) (w : World) (_g1 : n ≤ cap) (_g2' : cap ≤ 9223372036854775807) (hk : k < 65536) (hr : raw.length = 32) (h0 : n = 0 ∨ k % 4 = 0) :
    Calls Try.prog 11 #[.slice a n cap, .int .u16 k, .agg (raw.map u8v).toArray] w fun e w' => ∃ h, h.length = 32 ∧ e = .returned (hashV h) ∧ Kept None w w' := by
  have aR := aH32 hr
  obtain ⟨RA, hRA⟩ : ∃ R : Array Value, R = (raw.map u8v).toArray := ⟨_, rfl⟩
  rw [← hRA] at aR ⊢
  have sR : 32 = RA.size := by rw [hRA]; simp [hr]
  have allR : RA.all (·.oneCell') = true := by rw [hRA]; exact u8v_all' _
  have HRA := hid (And.intro hRA (And.intro hr (And.intro allR sR)))
  clear hRA hr allR sR
  rcases Nat.eq_zero_or_pos n with hn | hn
  · have hz0 : ((n : Int) == 0) = true := by rw [beq_iff_eq]; omega
    clear h0 hn
    go_enter Try.func11, Try.ntmps11
    go_wp2_with (first | go_skip | (refine wpList_load_blk rfl _ _ rfl rfl ((Blk.new w _ _).alloc _) aR ?_) | (refine wpList_store_blk rfl _ _ _ rfl rfl rfl (Blk.new2 w _ _ _) aR HRA.out.2.2.2 HRA.out.2.2.1 ?_; intro w9 hR9 k9) | fail)
    exact bodyPost_ret (v := .agg RA) (results_blk rfl _ rfl hR9 aR) rfl ⟨raw, HRA.out.2.1, by rw [HRA.out.1], (((Kept.refl None w).alloc _).alloc _).then k9 (fun i hi (h : i = w.heap.size + 1) => by omega)⟩
  · have hz0 : ((n : Int) == 0) = false := by rw [beq_eq_false_iff_ne]; omega
    have hk4 : (k : Int) % 4 = 0 := by omega
    clear h0
    go_enter Try.func11, Try.ntmps11
    go_wp2_with (first | go_skip | (refine wpList_load_blk rfl _ _ rfl rfl ((Blk.new w _ _).alloc _) aR ?_) | (refine wpList_store_blk rfl _ _ _ rfl rfl rfl (Blk.new2 w _ _ _) aR HRA.out.2.2.2 HRA.out.2.2.1 ?_; intro w9 hR9 k9) | fail)
    exact bodyPost_ret (v := .agg RA) (results_blk rfl _ rfl hR9 aR) rfl ⟨raw, HRA.out.2.1, by rw [HRA.out.1], (((Kept.refl None w).alloc _).alloc _).then k9 (fun i hi (h : i = w.heap.size + 1) => by omega)⟩
/-- index. -/
theorem index (v : Value) (lo hi : Nat) (l : List It) (k : Nat) (raw : List UInt8) (w : World) (hv : Its w lo hi v l) (hk : k < 65536) (hr : raw.length = 32) :
    Calls Try.prog 11 #[v, .int .u16 k, hashV raw] w fun e w' => ∃ h, h.length = 32 ∧ e = .returned (hashV h) ∧ Kept None w w' := by
  obtain ⟨a, cap, rfl, g1, g2, g3⟩ := hv.form
  have g2' : cap ≤ 9223372036854775807 := g2
  by_cases h0 : l.length = 0 ∨ k % 4 = 0
  · exact index_raw a l.length cap k raw w g1 g2' hk hr h0
  · obtain ⟨b, o, rfl, _, _, hb, hc⟩ := hv.ne (by omega)
    have hjl : k / 4 % l.length < l.length := Nat.mod_lt _ (by omega)
    have hx32 := hv.1 l[k / 4 % l.length] (List.getElem_mem hjl)
    have rI := rangeAt_take (hc (k / 4 % l.length) l[k / 4 % l.length] (List.getElem?_eq_getElem hjl)) 32
    rw [show (itC l[k / 4 % l.length]).take 32 = l[k / 4 % l.length].i.map u8v from List.take_left' (by simp [hx32.1])] at rI
    exact index_item b o l.length cap k l[k / 4 % l.length] (raw.map u8v).toArray w hb rI hx32.1 (by omega) g1 g2' hk (by omega)
end Pr
end Go.Proofs.Ytdalfcbakjgcmaa
