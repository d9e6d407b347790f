/- Package tree: Bit, Leaf, Node, Empty: by contract. -/
import Derived.Test.YtidegffdhpdhjaaRefBit6
namespace Go.Proofs.Ytidegffdhpdhjaa
open Go.RowKit Go.Pm

namespace Tr
set_option maxRecDepth 100000 in
set_option maxHeartbeats 2000000 in
/-- Empty. -/
theorem empty (w : World) : Calls Try.prog 132 #[] w fun e w' => e = .returned (hashV emptyH) ∧ Kept None w w' := by
  have hs := fun w => Sp.tag 122 (.slice none 0 0) 0 0 0 0 [] w (by decide) (by decide) ⟨[], Vs.nil w 0 0, rfl, fun i x l h _ => by simp at h⟩ (by simp) (by simp [total])
  have e32 : emptyH.length = 32 := sumB_len _
  rw [show sumB (textB 122 []) = emptyH from rfl] at hs
  obtain ⟨res, hres⟩ : ∃ res, res = emptyH := ⟨_, rfl⟩
  rw [← hres] at hs e32 ⊢
  have HS := hid hs
  have H32 := hid e32
  clear hs e32 hres
  have k0 : Kept None w (w.alloc (.cells (Array.replicate 32 (.int .u8 0)) 23)) := (Kept.refl _ _).alloc _
  have v0 := Blk.new w (Array.replicate 32 (.int .u8 0)) 23
  obtain ⟨z, hz, hR⟩ : ∃ z : Array Value, z.size = 32 ∧ Blk (w.alloc (.cells (Array.replicate 32 (.int .u8 0)) 23)) w.heap.size z 23 := ⟨_, by simp, v0⟩
  clear v0
  go_enter Try.func132, Try.ntmps132
  go_wp2_with fail
  refine (HS.out _).mono ?_
  rintro e w4 ⟨rfl, k4⟩
  have k04 := k0.trans k4
  have hR4 := hR.kept k4 (fun h => h)
  clear k0 k4 hR
  have e32' : (res.map u8v).toArray.size = 32 := by simpa using H32.out
  have aH' : AggTy Try.prog 23 (res.map u8v).toArray.size := by rw [e32']; exact Sp.aH
  have E := hid (hz.trans e32'.symm)
  clear e32' hz
  go_wp2_with (first | (refine wpList_store_blk rfl _ _ _ rfl rfl rfl hR4 aH' E.out (u8v_all _) ?_; intro w6 hR6 k6) | fail)
  exact bodyPost_ret (v := hashV res) (results_blk rfl _ rfl hR6 aH') rfl ⟨rfl, k04.then k6 (fun i hi (h : i = w.heap.size) => by omega)⟩

end Tr

namespace Tr
set_option maxRecDepth 100000 in
set_option maxHeartbeats 2000000 in
/-- Leaf. -/
theorem leaf (x : It) (w : World) (hx : x.i.length = 32 ∧ x.v.length = 32) : Calls Try.prog 133 #[itemV x] w fun e w' => e = .returned (hashV (leafH x)) ∧ Kept None w w' := by
  have hl := hx.1
  have hr := hx.2
  show Calls Try.prog 133 #[.agg ((x.i ++ x.v).map u8v).toArray] w fun e w' => e = .returned (hashV (leafH x)) ∧ Kept None w w'
  obtain ⟨X, hXX⟩ : ∃ X : Array Value, X = ((x.i ++ x.v).map u8v).toArray := ⟨_, rfl⟩
  rw [← hXX]
  have HXX := hid hXX
  clear hXX
  have hs := fun v lo hi lo' hi' w hv => Sp.tag 108 v lo hi lo' hi' [x.i, x.v] w (by decide) (by decide) hv (by simp) (by simp [total]; omega)
  have e32 : (leafH x).length = 32 := sumB_len _
  rw [show sumB (textB 108 [x.i, x.v]) = leafH x from rfl] at hs
  obtain ⟨res, hres⟩ : ∃ res, res = leafH x := ⟨_, rfl⟩
  rw [← hres] at hs e32 ⊢
  have HS := hid hs
  have H32 := hid e32
  clear hs e32 hres
  have k0 : Kept None w ((w.alloc (.cells X 61)).alloc (.cells #[.int .u8 0, .int .u8 0, .int .u8 0, .int .u8 0, .int .u8 0, .int .u8 0, .int .u8 0, .int .u8 0, .int .u8 0, .int .u8 0, .int .u8 0, .int .u8 0, .int .u8 0, .int .u8 0, .int .u8 0, .int .u8 0, .int .u8 0, .int .u8 0, .int .u8 0, .int .u8 0, .int .u8 0, .int .u8 0, .int .u8 0, .int .u8 0, .int .u8 0, .int .u8 0, .int .u8 0, .int .u8 0, .int .u8 0, .int .u8 0, .int .u8 0, .int .u8 0] 23)) := ((Kept.refl _ _).alloc _).alloc _
  have hX : Blk ((w.alloc (.cells X 61)).alloc (.cells #[.int .u8 0, .int .u8 0, .int .u8 0, .int .u8 0, .int .u8 0, .int .u8 0, .int .u8 0, .int .u8 0, .int .u8 0, .int .u8 0, .int .u8 0, .int .u8 0, .int .u8 0, .int .u8 0, .int .u8 0, .int .u8 0, .int .u8 0, .int .u8 0, .int .u8 0, .int .u8 0, .int .u8 0, .int .u8 0, .int .u8 0, .int .u8 0, .int .u8 0, .int .u8 0, .int .u8 0, .int .u8 0, .int .u8 0, .int .u8 0, .int .u8 0, .int .u8 0] 23)) w.heap.size X 61 := (Blk.new w _ _).alloc _
  have v0 := Blk.new2 w (.cells X 61) #[.int .u8 0, .int .u8 0, .int .u8 0, .int .u8 0, .int .u8 0, .int .u8 0, .int .u8 0, .int .u8 0, .int .u8 0, .int .u8 0, .int .u8 0, .int .u8 0, .int .u8 0, .int .u8 0, .int .u8 0, .int .u8 0, .int .u8 0, .int .u8 0, .int .u8 0, .int .u8 0, .int .u8 0, .int .u8 0, .int .u8 0, .int .u8 0, .int .u8 0, .int .u8 0, .int .u8 0, .int .u8 0, .int .u8 0, .int .u8 0, .int .u8 0, .int .u8 0] 23
  go_enter Try.func133, Try.ntmps133
  go_wp2_with fail
  obtain ⟨wB, hwB⟩ : ∃ wB, wB = ((w.alloc (.cells X 61)).alloc (.cells #[.int .u8 0, .int .u8 0, .int .u8 0, .int .u8 0, .int .u8 0, .int .u8 0, .int .u8 0, .int .u8 0, .int .u8 0, .int .u8 0, .int .u8 0, .int .u8 0, .int .u8 0, .int .u8 0, .int .u8 0, .int .u8 0, .int .u8 0, .int .u8 0, .int .u8 0, .int .u8 0, .int .u8 0, .int .u8 0, .int .u8 0, .int .u8 0, .int .u8 0, .int .u8 0, .int .u8 0, .int .u8 0, .int .u8 0, .int .u8 0, .int .u8 0, .int .u8 0] 23)) := ⟨_, rfl⟩
  rw [← hwB] at k0 hX v0 ⊢
  clear hwB
  have hL : ∀ W, Kept None wB W → Bs W w.heap.size (w.heap.size + 1) (.slice (some ⟨w.heap.size, 0, none⟩) 32 32) x.i := fun W hW => by
    have h := (HXX.out ▸ (hX.kept hW (fun h => h)) : Blk W w.heap.size ((x.i ++ x.v).map u8v).toArray 61).bs 0 32 (by rw [List.length_append]; omega) (by decide)
    rwa [List.drop_zero, List.take_left' hl] at h
  have hR : ∀ W, Kept None wB W → Bs W w.heap.size (w.heap.size + 1) (.slice (some ⟨w.heap.size, 32, none⟩) 32 32) x.v := fun W hW => by
    have h := (HXX.out ▸ (hX.kept hW (fun h => h)) : Blk W w.heap.size ((x.i ++ x.v).map u8v).toArray 61).bs 32 32 (by rw [List.length_append]; omega) (by decide)
    rwa [List.drop_left' hl, List.take_of_length_le (by omega)] at h
  have hs : Steady [.lists 4 ([x.i, x.v]), .val 5 (hashV res) [4]] := Steady.lists (Steady.val (Steady.nil))
  refine wp_region_kn_tail 6 wB _ hs (Kept.refl _ _) (by kernel_rfl) (by kernel_rfl) (by kernel_rfl) ?_
  simp only [List.take_succ_cons, List.take_zero, List.drop_succ_cons, List.drop_zero]
  iterate 4 (refine wpPar_pure rfl (by rfl) _ (fun W hW => by
      go_simp
      exact rfl) ?_; simp only [Act.put, List.setIfInBounds_toArray, List.set_cons_zero, List.set_cons_succ])
  refine wpKn_adds hs rfl (by rfl) (fun W hW hd => ?_) (fun v4 hv => ?_)
  · unfold Gives
    have h1 := hL W hW
    have h2 := hR W hW
    go_simp
    exact ⟨(Kept.refl None W).alloc _, ⟨_, _, rfl⟩, _, _, _, _, Bss.new W #[.slice (some ⟨w.heap.size, 0, none⟩) 32 32, .slice (some ⟨w.heap.size, 32, none⟩) 32 32] 29 [x.i, x.v] 2 rfl (by decide) ⟨h1.all, h2.all, trivial⟩⟩
  obtain ⟨a4, c4, rfl⟩ : ∃ a c, v4 = .slice a 2 c := hv
  simp only [Act.put, List.setIfInBounds_toArray, List.set_cons_zero, List.set_cons_succ]
  refine wpKn_adds hs rfl (by rfl) (fun W hW hd => ?_) (fun v5 hv => ?_)
  · unfold Gives
    obtain ⟨lo1, hi1, lo2, hi2, h1⟩ : ∃ lo hi lo' hi', Bss W lo hi lo' hi' (.slice a4 2 c4) [x.i, x.v] := hd 4 (List.Mem.head _)
    go_simp
    refine gives_call (HS.out _ _ _ _ _ _ h1) ?_
    rintro e w3 ⟨rfl, k3⟩
    exact ⟨_, rfl, k3, rfl, trivial⟩
  obtain rfl : v5 = hashV res := hv
  simp only [Act.put, List.setIfInBounds_toArray, List.set_cons_zero, List.set_cons_succ]
  refine wpPar_nil (fun W hW hG => ?_)
  have k04 := k0.trans hW
  have v4 := v0.kept hW (fun h => h)
  obtain ⟨z, hz, hR4⟩ : ∃ z : Array Value, z.size = 32 ∧ Blk W (w.heap.size + 1) z 23 := ⟨_, by simp, v4⟩
  clear hG hs hW k0 v0 v4 hL hR hX
  have e32' : (res.map u8v).toArray.size = 32 := by simpa using H32.out
  have aH' : AggTy Try.prog 23 (res.map u8v).toArray.size := by rw [e32']; exact Sp.aH
  have E := hid (hz.trans e32'.symm)
  clear e32' hz
  go_wp2_with (first | (refine wpList_store_blk rfl _ _ _ rfl rfl rfl hR4 aH' E.out (u8v_all _) ?_; intro w6 hR6 k6) | fail)
  exact bodyPost_ret (v := hashV res) (results_blk rfl _ rfl hR6 aH') rfl ⟨rfl, k04.then k6 (fun i hi (h : i = w.heap.size + 1) => by omega)⟩
end Tr

namespace Tr
set_option maxRecDepth 100000 in
set_option maxHeartbeats 2000000 in
/-- Node. -/
theorem node (l r : List UInt8) (w : World) (hl : l.length = 32) (hr : r.length = 32) : Calls Try.prog 110 #[hashV l, hashV r] w fun e w' => e = .returned (hashV (nodeH l r)) ∧ Kept None w w' := by
  show Calls Try.prog 110 #[.agg (l.map u8v).toArray, .agg (r.map u8v).toArray] w fun e w' => e = .returned (hashV (nodeH l r)) ∧ Kept None w w'
  obtain ⟨L, hLL⟩ : ∃ L : Array Value, L = (l.map u8v).toArray := ⟨_, rfl⟩
  obtain ⟨R, hRR⟩ : ∃ R : Array Value, R = (r.map u8v).toArray := ⟨_, rfl⟩
  rw [← hLL, ← hRR]
  have HLL := hid (And.intro hLL hRR)
  clear hLL hRR
  have hs := fun v lo hi lo' hi' w hv => Sp.tag 110 v lo hi lo' hi' [l, r] w (by decide) (by decide) hv (by simp) (by simp [total]; omega)
  have e32 : (nodeH l r).length = 32 := sumB_len _
  rw [show sumB (textB 110 [l, r]) = nodeH l r from rfl] at hs
  obtain ⟨res, hres⟩ : ∃ res, res = nodeH l r := ⟨_, rfl⟩
  rw [← hres] at hs e32 ⊢
  have HS := hid hs
  have H32 := hid e32
  clear hs e32 hres
  have k0 : Kept None w (((w.alloc (.cells L 23)).alloc (.cells R 23)).alloc (.cells #[.int .u8 0, .int .u8 0, .int .u8 0, .int .u8 0, .int .u8 0, .int .u8 0, .int .u8 0, .int .u8 0, .int .u8 0, .int .u8 0, .int .u8 0, .int .u8 0, .int .u8 0, .int .u8 0, .int .u8 0, .int .u8 0, .int .u8 0, .int .u8 0, .int .u8 0, .int .u8 0, .int .u8 0, .int .u8 0, .int .u8 0, .int .u8 0, .int .u8 0, .int .u8 0, .int .u8 0, .int .u8 0, .int .u8 0, .int .u8 0, .int .u8 0, .int .u8 0] 23)) := (((Kept.refl _ _).alloc _).alloc _).alloc _
  have hX : Blk (((w.alloc (.cells L 23)).alloc (.cells R 23)).alloc (.cells #[.int .u8 0, .int .u8 0, .int .u8 0, .int .u8 0, .int .u8 0, .int .u8 0, .int .u8 0, .int .u8 0, .int .u8 0, .int .u8 0, .int .u8 0, .int .u8 0, .int .u8 0, .int .u8 0, .int .u8 0, .int .u8 0, .int .u8 0, .int .u8 0, .int .u8 0, .int .u8 0, .int .u8 0, .int .u8 0, .int .u8 0, .int .u8 0, .int .u8 0, .int .u8 0, .int .u8 0, .int .u8 0, .int .u8 0, .int .u8 0, .int .u8 0, .int .u8 0] 23)) w.heap.size L 23 := ((Blk.new w _ _).alloc _).alloc _
  have hY : Blk (((w.alloc (.cells L 23)).alloc (.cells R 23)).alloc (.cells #[.int .u8 0, .int .u8 0, .int .u8 0, .int .u8 0, .int .u8 0, .int .u8 0, .int .u8 0, .int .u8 0, .int .u8 0, .int .u8 0, .int .u8 0, .int .u8 0, .int .u8 0, .int .u8 0, .int .u8 0, .int .u8 0, .int .u8 0, .int .u8 0, .int .u8 0, .int .u8 0, .int .u8 0, .int .u8 0, .int .u8 0, .int .u8 0, .int .u8 0, .int .u8 0, .int .u8 0, .int .u8 0, .int .u8 0, .int .u8 0, .int .u8 0, .int .u8 0] 23)) (w.heap.size + 1) R 23 := (Blk.new2 w _ _ _).alloc _
  have v0 := Blk.new3 w (.cells L 23) (.cells R 23) #[.int .u8 0, .int .u8 0, .int .u8 0, .int .u8 0, .int .u8 0, .int .u8 0, .int .u8 0, .int .u8 0, .int .u8 0, .int .u8 0, .int .u8 0, .int .u8 0, .int .u8 0, .int .u8 0, .int .u8 0, .int .u8 0, .int .u8 0, .int .u8 0, .int .u8 0, .int .u8 0, .int .u8 0, .int .u8 0, .int .u8 0, .int .u8 0, .int .u8 0, .int .u8 0, .int .u8 0, .int .u8 0, .int .u8 0, .int .u8 0, .int .u8 0, .int .u8 0] 23
  go_enter Try.func110, Try.ntmps110
  go_wp2_with fail
  obtain ⟨wB, hwB⟩ : ∃ wB, wB = (((w.alloc (.cells L 23)).alloc (.cells R 23)).alloc (.cells #[.int .u8 0, .int .u8 0, .int .u8 0, .int .u8 0, .int .u8 0, .int .u8 0, .int .u8 0, .int .u8 0, .int .u8 0, .int .u8 0, .int .u8 0, .int .u8 0, .int .u8 0, .int .u8 0, .int .u8 0, .int .u8 0, .int .u8 0, .int .u8 0, .int .u8 0, .int .u8 0, .int .u8 0, .int .u8 0, .int .u8 0, .int .u8 0, .int .u8 0, .int .u8 0, .int .u8 0, .int .u8 0, .int .u8 0, .int .u8 0, .int .u8 0, .int .u8 0] 23)) := ⟨_, rfl⟩
  rw [← hwB] at k0 hX hY v0 ⊢
  clear hwB
  have hL : ∀ W, Kept None wB W → Bs W w.heap.size (w.heap.size + 1) (.slice (some ⟨w.heap.size, 0, none⟩) 32 32) l := fun W hW => by
    have h := (HLL.out.1 ▸ (hX.kept hW (fun h => h)) : Blk W w.heap.size (l.map u8v).toArray 23).bs 0 32 (by omega) (by decide)
    rwa [List.drop_zero, List.take_of_length_le (by omega)] at h
  have hR : ∀ W, Kept None wB W → Bs W (w.heap.size + 1) (w.heap.size + 1 + 1) (.slice (some ⟨w.heap.size + 1, 0, none⟩) 32 32) r := fun W hW => by
    have h := (HLL.out.2 ▸ (hY.kept hW (fun h => h)) : Blk W (w.heap.size + 1) (r.map u8v).toArray 23).bs 0 32 (by omega) (by decide)
    rwa [List.drop_zero, List.take_of_length_le (by omega)] at h
  have hs : Steady [.lists 2 ([l, r]), .val 3 (hashV res) [2]] := Steady.lists (Steady.val (Steady.nil))
  refine wp_region_kn_tail 4 wB _ hs (Kept.refl _ _) (by kernel_rfl) (by kernel_rfl) (by kernel_rfl) ?_
  simp only [List.take_succ_cons, List.take_zero, List.drop_succ_cons, List.drop_zero]
  iterate 2 (refine wpPar_pure rfl (by rfl) _ (fun W hW => by
      go_simp
      exact rfl) ?_; simp only [Act.put, List.setIfInBounds_toArray, List.set_cons_zero, List.set_cons_succ])
  refine wpKn_adds hs rfl (by rfl) (fun W hW hd => ?_) (fun v2 hv => ?_)
  · unfold Gives
    have h1 := hL W hW
    have h2 := hR W hW
    go_simp
    exact ⟨(Kept.refl None W).alloc _, ⟨_, _, rfl⟩, _, _, _, _, Bss.new W #[.slice (some ⟨w.heap.size, 0, none⟩) 32 32, .slice (some ⟨w.heap.size + 1, 0, none⟩) 32 32] 29 [l, r] 2 rfl (by decide) ⟨h1.all, h2.all, trivial⟩⟩
  obtain ⟨a2, c2, rfl⟩ : ∃ a c, v2 = .slice a 2 c := hv
  simp only [Act.put, List.setIfInBounds_toArray, List.set_cons_zero, List.set_cons_succ]
  refine wpKn_adds hs rfl (by rfl) (fun W hW hd => ?_) (fun v3 hv => ?_)
  · unfold Gives
    obtain ⟨lo1, hi1, lo2, hi2, h1⟩ : ∃ lo hi lo' hi', Bss W lo hi lo' hi' (.slice a2 2 c2) [l, r] := hd 2 (List.Mem.head _)
    go_simp
    refine gives_call (HS.out _ _ _ _ _ _ h1) ?_
    rintro e w3 ⟨rfl, k3⟩
    exact ⟨_, rfl, k3, rfl, trivial⟩
  obtain rfl : v3 = hashV res := hv
  simp only [Act.put, List.setIfInBounds_toArray, List.set_cons_zero, List.set_cons_succ]
  refine wpPar_nil (fun W hW hG => ?_)
  have k04 := k0.trans hW
  have v4 := v0.kept hW (fun h => h)
  obtain ⟨z, hz, hR4⟩ : ∃ z : Array Value, z.size = 32 ∧ Blk W (w.heap.size + 1 + 1) z 23 := ⟨_, by simp, v4⟩
  clear hG hs hW k0 v0 v4 hL hR hX hY
  have e32' : (res.map u8v).toArray.size = 32 := by simpa using H32.out
  have aH' : AggTy Try.prog 23 (res.map u8v).toArray.size := by rw [e32']; exact Sp.aH
  have E := hid (hz.trans e32'.symm)
  clear e32' hz
  go_wp2_with (first | (refine wpList_store_blk rfl _ _ _ rfl rfl rfl hR4 aH' E.out (u8v_all _) ?_; intro w6 hR6 k6) | fail)
  exact bodyPost_ret (v := hashV res) (results_blk rfl _ rfl hR6 aH') rfl ⟨rfl, k04.then k6 (fun i hi (h : i = w.heap.size + 1 + 1) => by omega)⟩
end Tr
namespace Tr
set_option maxRecDepth 100000 in
set_option maxHeartbeats 2000000 in
theorem bit (h : List UInt8) (hl : h.length = 32) (j : Nat) (hj : j < 256) (w : World) : Calls Try.prog 109 #[hashV h, .int .i64 j] w fun e w' => e = .returned (.int .i64 (bitI h j : Nat)) ∧ Kept None w w' := by
  have hc := RTr.bit_cell w h 23 (j / 8) (by omega)
  have k0 : Kept None w (w.alloc (.cells (h.map u8v).toArray 23)) := (Kept.refl _ _).alloc _
  have h8 : j % 8 = 0 ∨ j % 8 = 1 ∨ j % 8 = 2 ∨ j % 8 = 3 ∨ j % 8 = 4 ∨ j % 8 = 5 ∨ j % 8 = 6 ∨ j % 8 = 7 := by omega
  have hq : (j : Int) / 8 = ((j / 8 : Nat) : Int) := by omega
  have hr : (j : Int) % 8 = ((j % 8 : Nat) : Int) := by omega
  have b0 := bAt_ge h (j / 8)
  have b1 := bAt_lt h (j / 8)
  have hlt : j / 8 < 32 := by omega
  obtain ⟨q, hqq⟩ : ∃ q, q = j / 8 := ⟨_, rfl⟩
  rw [← hqq] at hc hq b0 b1 hlt
  obtain ⟨B, hB⟩ : ∃ B, B = bAt h q := ⟨_, rfl⟩
  rw [← hB] at hc b0 b1
  rcases h8 with h8 | h8 | h8 | h8 | h8 | h8 | h8 | h8
  · rw [h8] at hr
    have hz : (B / 128) % 2 = ((bitI h j : Nat) : Int) := by
      unfold bitI
      rw [h8, ← hqq, hB]
      unfold bAt
      rw [show 2 ^ (7 - 0) = 128 by decide]
      omega
    rw [← hz]
    clear hB hqq h8 hz
    go_enter Try.func109, Try.ntmps109
    go_wp2
    go_ret
    exact ⟨by rw [RTr.and_one _ (by omega) (by omega)]; rfl, k0⟩
  · rw [h8] at hr
    have hz : (B / 64) % 2 = ((bitI h j : Nat) : Int) := by
      unfold bitI
      rw [h8, ← hqq, hB]
      unfold bAt
      rw [show 2 ^ (7 - 1) = 64 by decide]
      omega
    rw [← hz]
    clear hB hqq h8 hz
    go_enter Try.func109, Try.ntmps109
    go_wp2
    go_ret
    exact ⟨by rw [RTr.and_one _ (by omega) (by omega)]; rfl, k0⟩
  · rw [h8] at hr
    have hz : (B / 32) % 2 = ((bitI h j : Nat) : Int) := by
      unfold bitI
      rw [h8, ← hqq, hB]
      unfold bAt
      rw [show 2 ^ (7 - 2) = 32 by decide]
      omega
    rw [← hz]
    clear hB hqq h8 hz
    go_enter Try.func109, Try.ntmps109
    go_wp2
    go_ret
    exact ⟨by rw [RTr.and_one _ (by omega) (by omega)]; rfl, k0⟩
  · rw [h8] at hr
    have hz : (B / 16) % 2 = ((bitI h j : Nat) : Int) := by
      unfold bitI
      rw [h8, ← hqq, hB]
      unfold bAt
      rw [show 2 ^ (7 - 3) = 16 by decide]
      omega
    rw [← hz]
    clear hB hqq h8 hz
    go_enter Try.func109, Try.ntmps109
    go_wp2
    go_ret
    exact ⟨by rw [RTr.and_one _ (by omega) (by omega)]; rfl, k0⟩
  · rw [h8] at hr
    have hz : (B / 8) % 2 = ((bitI h j : Nat) : Int) := by
      unfold bitI
      rw [h8, ← hqq, hB]
      unfold bAt
      rw [show 2 ^ (7 - 4) = 8 by decide]
      omega
    rw [← hz]
    clear hB hqq h8 hz
    go_enter Try.func109, Try.ntmps109
    go_wp2
    go_ret
    exact ⟨by rw [RTr.and_one _ (by omega) (by omega)]; rfl, k0⟩
  · rw [h8] at hr
    have hz : (B / 4) % 2 = ((bitI h j : Nat) : Int) := by
      unfold bitI
      rw [h8, ← hqq, hB]
      unfold bAt
      rw [show 2 ^ (7 - 5) = 4 by decide]
      omega
    rw [← hz]
    clear hB hqq h8 hz
    go_enter Try.func109, Try.ntmps109
    go_wp2
    go_ret
    exact ⟨by rw [RTr.and_one _ (by omega) (by omega)]; rfl, k0⟩
  · rw [h8] at hr
    have hz : (B / 2) % 2 = ((bitI h j : Nat) : Int) := by
      unfold bitI
      rw [h8, ← hqq, hB]
      unfold bAt
      rw [show 2 ^ (7 - 6) = 2 by decide]
      omega
    rw [← hz]
    clear hB hqq h8 hz
    go_enter Try.func109, Try.ntmps109
    go_wp2
    go_ret
    exact ⟨by rw [RTr.and_one _ (by omega) (by omega)]; rfl, k0⟩
  · rw [h8] at hr
    have hz : B % 2 = ((bitI h j : Nat) : Int) := by
      unfold bitI
      rw [h8, ← hqq, hB]
      unfold bAt
      rw [show 2 ^ (7 - 7) = 1 by decide]
      omega
    rw [← hz]
    clear hB hqq h8 hz
    go_enter Try.func109, Try.ntmps109
    go_wp2
    go_ret
    exact ⟨by rw [RTr.and_one _ (by omega) (by omega)]; rfl, k0⟩

set_option maxRecDepth 100000 in
set_option maxHeartbeats 2000000 in
theorem bit_out (h : List UInt8) (i : Int) (hi : i < 0 ∨ 256 ≤ i) (w : World) : Calls Try.prog 109 #[hashV h, .int .i64 i] w fun e w' => e = .returned (.int .i64 0) ∧ Kept None w w' := by
  have k0 : Kept None w (w.alloc (.cells (h.map u8v).toArray 23)) := (Kept.refl _ _).alloc _
  rcases hi with hi | hi
  · go_enter Try.func109, Try.ntmps109
    go_wp2
    go_ret
    exact ⟨rfl, k0⟩
  · go_enter Try.func109, Try.ntmps109
    go_wp2
    go_ret
    exact ⟨rfl, k0⟩

end Tr
end Go.Proofs.Ytidegffdhpdhjaa
