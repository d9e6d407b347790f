/- Package postmarkref5, Bit: by contract. -/
import Derived.Test.YtibkijloibnkfaaRefTree6
import Derived.Test.YtibkijloibnkfaaLowBin
namespace Go.Proofs.Ytibkijloibnkfaa
open Go.RowKit Go.Pm

namespace RTr
theorem and_one (x : Int) (h0 : 0 ≤ x) (h1 : x < 256) : wrap64 (bits .and .u8 x 1) = x % 2 := by
  have h : ∀ y : Fin 256, wrap64 (bits .and .u8 (y.1 : Int) 1) = (y.1 : Int) % 2 := by decide +kernel
  have := h ⟨x.toNat, by omega⟩
  simp only [Int.toNat_of_nonneg h0] at this
  exact this
theorem bit_cell (w : World) (h : List UInt8) (t : TypeId) (i : Nat) (hi : i < h.length) : (w.alloc (.cells (h.map u8v).toArray t)).cell? ⟨w.heap.size, i, none⟩ = some (.int .u8 (bAt h i)) := by
  rw [World.cell?_alloc_new]
  simp [u8v, bAt, List.getD, List.getElem?_eq_getElem hi]

set_option maxRecDepth 100000 in
set_option maxHeartbeats 2000000 in
theorem bit (h : List UInt8) (hl : h.length = 32) (j : Nat) (hj : j < 256) (w : World) : Calls Try.prog 123 #[hashV h, .int .i64 j] w fun e w' => e = .returned (.int .i64 (bitI h j : Nat)) ∧ Kept None w w' := by
  have hc := bit_cell w h 23 (j / 8) (by omega)
  have k0 : Kept None w (w.alloc (.cells (h.map u8v).toArray 23)) := (Kept.refl _ _).alloc _
  have h8 : j % 8 = 0 ∨ j % 8 = 1 ∨ j % 8 = 2 ∨ j % 8 = 3 ∨ j % 8 = 4 ∨ j % 8 = 5 ∨ j % 8 = 6 ∨ j % 8 = 7 := by omega
  have hq : (j : Int) / 8 = ((j / 8 : Nat) : Int) := by omega
  have hr : (j : Int) % 8 = ((j % 8 : Nat) : Int) := by omega
  have b0 := bAt_ge h (j / 8)
  have b1 := bAt_lt h (j / 8)
  have hlt : j / 8 < 32 := by omega
  obtain ⟨q, hqq⟩ : ∃ q, q = j / 8 := ⟨_, rfl⟩
  rw [← hqq] at hc hq b0 b1 hlt
  obtain ⟨B, hB⟩ : ∃ B, B = bAt h q := ⟨_, rfl⟩
  rw [← hB] at hc b0 b1
  rcases h8 with h8 | h8 | h8 | h8 | h8 | h8 | h8 | h8
  · rw [h8] at hr
    have hz : (B / 128) % 2 = ((bitI h j : Nat) : Int) := by
      unfold bitI
      rw [h8, ← hqq, hB]
      unfold bAt
      rw [show 2 ^ (7 - 0) = 128 by decide]
      omega
    rw [← hz]
    clear hB hqq h8 hz
    go_enter Try.func123, Try.ntmps123
    go_wp2
    go_ret
    exact ⟨by rw [and_one _ (by omega) (by omega)]; rfl, k0⟩
  · rw [h8] at hr
    have hz : (B / 64) % 2 = ((bitI h j : Nat) : Int) := by
      unfold bitI
      rw [h8, ← hqq, hB]
      unfold bAt
      rw [show 2 ^ (7 - 1) = 64 by decide]
      omega
    rw [← hz]
    clear hB hqq h8 hz
    go_enter Try.func123, Try.ntmps123
    go_wp2
    go_ret
    exact ⟨by rw [and_one _ (by omega) (by omega)]; rfl, k0⟩
  · rw [h8] at hr
    have hz : (B / 32) % 2 = ((bitI h j : Nat) : Int) := by
      unfold bitI
      rw [h8, ← hqq, hB]
      unfold bAt
      rw [show 2 ^ (7 - 2) = 32 by decide]
      omega
    rw [← hz]
    clear hB hqq h8 hz
    go_enter Try.func123, Try.ntmps123
    go_wp2
    go_ret
    exact ⟨by rw [and_one _ (by omega) (by omega)]; rfl, k0⟩
  · rw [h8] at hr
    have hz : (B / 16) % 2 = ((bitI h j : Nat) : Int) := by
      unfold bitI
      rw [h8, ← hqq, hB]
      unfold bAt
      rw [show 2 ^ (7 - 3) = 16 by decide]
      omega
    rw [← hz]
    clear hB hqq h8 hz
    go_enter Try.func123, Try.ntmps123
    go_wp2
    go_ret
    exact ⟨by rw [and_one _ (by omega) (by omega)]; rfl, k0⟩
  · rw [h8] at hr
    have hz : (B / 8) % 2 = ((bitI h j : Nat) : Int) := by
      unfold bitI
      rw [h8, ← hqq, hB]
      unfold bAt
      rw [show 2 ^ (7 - 4) = 8 by decide]
      omega
    rw [← hz]
    clear hB hqq h8 hz
    go_enter Try.func123, Try.ntmps123
    go_wp2
    go_ret
    exact ⟨by rw [and_one _ (by omega) (by omega)]; rfl, k0⟩
  · rw [h8] at hr
    have hz : (B / 4) % 2 = ((bitI h j : Nat) : Int) := by
      unfold bitI
      rw [h8, ← hqq, hB]
      unfold bAt
      rw [show 2 ^ (7 - 5) = 4 by decide]
      omega
    rw [← hz]
    clear hB hqq h8 hz
    go_enter Try.func123, Try.ntmps123
    go_wp2
    go_ret
    exact ⟨by rw [and_one _ (by omega) (by omega)]; rfl, k0⟩
  · rw [h8] at hr
    have hz : (B / 2) % 2 = ((bitI h j : Nat) : Int) := by
      unfold bitI
      rw [h8, ← hqq, hB]
      unfold bAt
      rw [show 2 ^ (7 - 6) = 2 by decide]
      omega
    rw [← hz]
    clear hB hqq h8 hz
    go_enter Try.func123, Try.ntmps123
    go_wp2
    go_ret
    exact ⟨by rw [and_one _ (by omega) (by omega)]; rfl, k0⟩
  · rw [h8] at hr
    have hz : B % 2 = ((bitI h j : Nat) : Int) := by
      unfold bitI
      rw [h8, ← hqq, hB]
      unfold bAt
      rw [show 2 ^ (7 - 7) = 1 by decide]
      omega
    rw [← hz]
    clear hB hqq h8 hz
    go_enter Try.func123, Try.ntmps123
    go_wp2
    go_ret
    exact ⟨by rw [and_one _ (by omega) (by omega)]; rfl, k0⟩

set_option maxRecDepth 100000 in
set_option maxHeartbeats 2000000 in
theorem bit_out (h : List UInt8) (i : Int) (hi : i < 0 ∨ 256 ≤ i) (w : World) : Calls Try.prog 123 #[hashV h, .int .i64 i] w fun e w' => e = .returned (.int .i64 0) ∧ Kept None w w' := by
  have k0 : Kept None w (w.alloc (.cells (h.map u8v).toArray 23)) := (Kept.refl _ _).alloc _
  rcases hi with hi | hi
  · go_enter Try.func123, Try.ntmps123
    go_wp2
    go_ret
    exact ⟨rfl, k0⟩
  · go_enter Try.func123, Try.ntmps123
    go_wp2
    go_ret
    exact ⟨rfl, k0⟩

set_option maxRecDepth 100000 in
set_option maxHeartbeats 2000000 in
/-- Less. -/
theorem less (l r : List UInt8) (w : World) (hl : l.length = 32) (hr : r.length = 32) : Calls Try.prog 115 #[hashV l, hashV r] w fun e w' => e = .returned (.bool (Op.bytesLess l r)) ∧ Kept None w w' := by
  show Calls Try.prog 115 #[.agg (l.map u8v).toArray, .agg (r.map u8v).toArray] w fun e w' => e = .returned (.bool (Op.bytesLess l r)) ∧ Kept None w w'
  obtain ⟨L, hLL⟩ : ∃ L : Array Value, L = (l.map u8v).toArray := ⟨_, rfl⟩
  obtain ⟨R, hRR⟩ : ∃ R : Array Value, R = (r.map u8v).toArray := ⟨_, rfl⟩
  rw [← hLL, ← hRR]
  have HLL := hid (And.intro hLL hRR)
  clear hLL hRR
  have k0 : Kept None w ((w.alloc (.cells L 23)).alloc (.cells R 23)) := ((Kept.refl _ _).alloc _).alloc _
  have hX : Blk ((w.alloc (.cells L 23)).alloc (.cells R 23)) w.heap.size L 23 := (Blk.new w _ _).alloc _
  have hY := Blk.new2 w (.cells L 23) R 23
  go_enter Try.func115, Try.ntmps115
  go_wp2_with fail
  obtain ⟨wB, hwB⟩ : ∃ wB, wB = (w.alloc (.cells L 23)).alloc (.cells R 23) := ⟨_, rfl⟩
  rw [← hwB] at k0 hX hY ⊢
  clear hwB
  have hL : ∀ W, Kept None wB W → Bs W w.heap.size (w.heap.size + 1) (.slice (some ⟨w.heap.size, 0, none⟩) 32 32) l := fun W hW => by
    have h := (HLL.out.1 ▸ (hX.kept hW (fun h => h)) : Blk W w.heap.size (l.map u8v).toArray 23).bs 0 32 (by omega) (by decide)
    rwa [List.drop_zero, List.take_of_length_le (by omega)] at h
  have hR : ∀ W, Kept None wB W → Bs W (w.heap.size + 1) (w.heap.size + 1 + 1) (.slice (some ⟨w.heap.size + 1, 0, none⟩) 32 32) r := fun W hW => by
    have h := (HLL.out.2 ▸ (hY.kept hW (fun h => h)) : Blk W (w.heap.size + 1) (r.map u8v).toArray 23).bs 0 32 (by omega) (by decide)
    rwa [List.drop_zero, List.take_of_length_le (by omega)] at h
  have hs : Steady [.val 1 (.string ⟨l.toArray⟩), .val 3 (.string ⟨r.toArray⟩)] := Steady.val (Steady.val (Steady.nil))
  refine wp_region_kn wB _ hs (Kept.refl _ _) (by kernel_rfl) (by kernel_rfl) (by kernel_rfl) ?_
  iterate 1 (refine wpPar_pure rfl (by rfl) _ (fun W hW => by
      go_simp
      exact rfl) ?_; simp only [Act.put, List.setIfInBounds_toArray, List.set_cons_zero, List.set_cons_succ])
  refine wpKn_adds hs rfl (by rfl) (fun W hW hd => ?_) (fun v1 hv => ?_)
  · unfold Gives
    have hcv := cvBytes (hL W hW)
    go_simp
    exact ⟨Kept.refl _ _, rfl, trivial⟩
  obtain rfl : v1 = .string ⟨l.toArray⟩ := hv
  simp only [Act.put, List.setIfInBounds_toArray, List.set_cons_zero, List.set_cons_succ]
  iterate 1 (refine wpPar_pure rfl (by rfl) _ (fun W hW => by
      go_simp
      exact rfl) ?_; simp only [Act.put, List.setIfInBounds_toArray, List.set_cons_zero, List.set_cons_succ])
  refine wpKn_adds hs rfl (by rfl) (fun W hW hd => ?_) (fun v3 hv => ?_)
  · unfold Gives
    have hcv := cvBytes (hR W hW)
    go_simp
    exact ⟨Kept.refl _ _, rfl, trivial⟩
  obtain rfl : v3 = .string ⟨r.toArray⟩ := hv
  simp only [Act.put, List.setIfInBounds_toArray, List.set_cons_zero, List.set_cons_succ]
  iterate 2 (refine wpPar_pure rfl (by rfl) _ (fun W hW => by
      go_simp
      exact rfl) ?_; simp only [Act.put, List.setIfInBounds_toArray, List.set_cons_zero, List.set_cons_succ])
  refine wpPar_nil (fun W hW hG => ?_)
  have k04 := k0.trans hW
  clear hG hs hW k0 hL hR hX hY
  go_wp2
  go_ret
  exact ⟨rfl, k04⟩
end RTr
end Go.Proofs.Ytibkijloibnkfaa
