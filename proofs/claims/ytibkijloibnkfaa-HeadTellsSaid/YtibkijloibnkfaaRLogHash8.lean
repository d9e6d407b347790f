/- postmarkref8.Leaf, Node: by contract. -/
import Derived.Test.YtibkijloibnkfaaRSplit8
namespace Go.Proofs.Ytibkijloibnkfaa
open Go.RowKit Go.Pm
namespace RLg
set_option maxRecDepth 100000 in
set_option maxHeartbeats 1000000 in
/-- Leaf. -/
theorem leaf (v : Value) (lo hi : Nat) (l : List UInt8) (w : World) (hv : Bs w lo hi v l) (hl : l.length ≤ 274877906944) : Calls Try.prog 106 #[v] w fun e w' => e = .returned (hashV (leafL l)) ∧ Kept None w w' := by
  obtain ⟨a, cap, rfl, g1, g2, g3⟩ := hv.shape
  have hs := fun v lo hi lo' hi' w hv => Ref.tag 76 v lo hi lo' hi' [l] w (by decide) (by decide) hv (by simp) (by simp [total]; omega)
  have e32 := leafL_len l
  rw [show sumB (textB 76 [l]) = leafL l from rfl] at hs
  obtain ⟨res, hres⟩ : ∃ res, res = leafL l := ⟨_, rfl⟩
  rw [← hres] at hs e32 ⊢
  obtain ⟨RA, hRA⟩ : ∃ RA : Array Value, RA = (res.map u8v).toArray := ⟨_, rfl⟩
  have aR : AggTy Try.prog 23 RA.size := by rw [hRA]; exact Hk.aH32 e32
  have hR32 : RA.size = 32 := by rw [hRA]; simpa using e32
  have hall : RA.all (·.oneCell') = true := by rw [hRA]; exact u8v_all' _
  have k0 : Kept None w (w.alloc (.cells #[.int .u8 0, .int .u8 0, .int .u8 0, .int .u8 0, .int .u8 0, .int .u8 0, .int .u8 0, .int .u8 0, .int .u8 0, .int .u8 0, .int .u8 0, .int .u8 0, .int .u8 0, .int .u8 0, .int .u8 0, .int .u8 0, .int .u8 0, .int .u8 0, .int .u8 0, .int .u8 0, .int .u8 0, .int .u8 0, .int .u8 0, .int .u8 0, .int .u8 0, .int .u8 0, .int .u8 0, .int .u8 0, .int .u8 0, .int .u8 0, .int .u8 0, .int .u8 0] 23)) := (Kept.refl _ _).alloc _
  have hV := (hv.kept k0 (fun _ _ _ h => h)).all
  obtain ⟨n, hn⟩ : ∃ n, n = l.length := ⟨_, rfl⟩
  rw [← hn] at g1 hV ⊢
  rw [show hashV res = .agg RA by rw [hRA]] at hs ⊢
  have hbs := Bss.new (w.alloc (.cells #[.int .u8 0, .int .u8 0, .int .u8 0, .int .u8 0, .int .u8 0, .int .u8 0, .int .u8 0, .int .u8 0, .int .u8 0, .int .u8 0, .int .u8 0, .int .u8 0, .int .u8 0, .int .u8 0, .int .u8 0, .int .u8 0, .int .u8 0, .int .u8 0, .int .u8 0, .int .u8 0, .int .u8 0, .int .u8 0, .int .u8 0, .int .u8 0, .int .u8 0, .int .u8 0, .int .u8 0, .int .u8 0, .int .u8 0, .int .u8 0, .int .u8 0, .int .u8 0] 23)) #[.slice a n cap] 29 [l] 1 rfl (by decide) ⟨hV, trivial⟩
  rw [show (w.alloc (.cells #[.int .u8 0, .int .u8 0, .int .u8 0, .int .u8 0, .int .u8 0, .int .u8 0, .int .u8 0, .int .u8 0, .int .u8 0, .int .u8 0, .int .u8 0, .int .u8 0, .int .u8 0, .int .u8 0, .int .u8 0, .int .u8 0, .int .u8 0, .int .u8 0, .int .u8 0, .int .u8 0, .int .u8 0, .int .u8 0, .int .u8 0, .int .u8 0, .int .u8 0, .int .u8 0, .int .u8 0, .int .u8 0, .int .u8 0, .int .u8 0, .int .u8 0, .int .u8 0] 23)).heap.size = w.heap.size + 1 by simp] at hbs
  have v0 := Blk.new w #[.int .u8 0, .int .u8 0, .int .u8 0, .int .u8 0, .int .u8 0, .int .u8 0, .int .u8 0, .int .u8 0, .int .u8 0, .int .u8 0, .int .u8 0, .int .u8 0, .int .u8 0, .int .u8 0, .int .u8 0, .int .u8 0, .int .u8 0, .int .u8 0, .int .u8 0, .int .u8 0, .int .u8 0, .int .u8 0, .int .u8 0, .int .u8 0, .int .u8 0, .int .u8 0, .int .u8 0, .int .u8 0, .int .u8 0, .int .u8 0, .int .u8 0, .int .u8 0] 23
  obtain ⟨z, hz, hZ⟩ := Blk.any (n := 32) v0 (by rfl)
  have k03 := k0.alloc (.cells #[.slice a n cap] 29)
  have hZ3 := hZ.alloc (.cells #[.slice a n cap] 29)
  have HS := hid hs
  have HB := hid hbs
  have E := hid (hz.trans hR32.symm)
  have HA := hid hall
  clear hs hbs hres e32 hRA hR32 hall k0 hV hn v0 hZ hz g3 hv
  go_enter Try.func106, Try.ntmps106
  go_wp2_with fail
  refine (HS.out _ _ _ _ _ _ HB.out).mono ?_
  rintro e w4 ⟨rfl, k4⟩
  have k04 := k03.trans k4
  have hZ4 := hZ3.kept k4 (fun h => h)
  clear k03 k4 hZ3 HB HS
  go_wp2_with (first | (refine wpList_store_blk rfl _ _ _ rfl rfl rfl hZ4 aR E.out HA.out ?_; intro w9 hR9 k9) | fail)
  exact bodyPost_ret (v := .agg RA) (results_blk rfl _ rfl hR9 aR) rfl ⟨rfl, k04.then k9 (fun i hi (h : i = w.heap.size) => by omega)⟩
set_option maxRecDepth 100000 in
set_option maxHeartbeats 2000000 in
/-- Node. -/
theorem node (l r : List UInt8) (w : World) (hl : l.length = 32) (hr : r.length = 32) : Calls Try.prog 105 #[hashV l, hashV r] w fun e w' => e = .returned (hashV (nodeL l r)) ∧ Kept None w w' := by
  show Calls Try.prog 105 #[.agg (l.map u8v).toArray, .agg (r.map u8v).toArray] w fun e w' => e = .returned (hashV (nodeL l r)) ∧ Kept None w w'
  obtain ⟨L, hLL⟩ : ∃ L : Array Value, L = (l.map u8v).toArray := ⟨_, rfl⟩
  obtain ⟨R, hRR⟩ : ∃ R : Array Value, R = (r.map u8v).toArray := ⟨_, rfl⟩
  rw [← hLL, ← hRR]
  have HLL := hid (And.intro hLL hRR)
  clear hLL hRR
  have hs := fun v lo hi lo' hi' w hv => Ref.tag 78 v lo hi lo' hi' [l, r] w (by decide) (by decide) hv (by simp) (by simp [total]; omega)
  have e32 : (nodeL l r).length = 32 := sumB_len _
  rw [show sumB (textB 78 [l, r]) = nodeL l r from rfl] at hs
  obtain ⟨res, hres⟩ : ∃ res, res = nodeL l r := ⟨_, rfl⟩
  rw [← hres] at hs e32 ⊢
  have HS := hid hs
  have H32 := hid e32
  clear hs e32 hres
  have k0 : Kept None w (((w.alloc (.cells L 23)).alloc (.cells R 23)).alloc (.cells #[.int .u8 0, .int .u8 0, .int .u8 0, .int .u8 0, .int .u8 0, .int .u8 0, .int .u8 0, .int .u8 0, .int .u8 0, .int .u8 0, .int .u8 0, .int .u8 0, .int .u8 0, .int .u8 0, .int .u8 0, .int .u8 0, .int .u8 0, .int .u8 0, .int .u8 0, .int .u8 0, .int .u8 0, .int .u8 0, .int .u8 0, .int .u8 0, .int .u8 0, .int .u8 0, .int .u8 0, .int .u8 0, .int .u8 0, .int .u8 0, .int .u8 0, .int .u8 0] 23)) := (((Kept.refl _ _).alloc _).alloc _).alloc _
  have hX : Blk (((w.alloc (.cells L 23)).alloc (.cells R 23)).alloc (.cells #[.int .u8 0, .int .u8 0, .int .u8 0, .int .u8 0, .int .u8 0, .int .u8 0, .int .u8 0, .int .u8 0, .int .u8 0, .int .u8 0, .int .u8 0, .int .u8 0, .int .u8 0, .int .u8 0, .int .u8 0, .int .u8 0, .int .u8 0, .int .u8 0, .int .u8 0, .int .u8 0, .int .u8 0, .int .u8 0, .int .u8 0, .int .u8 0, .int .u8 0, .int .u8 0, .int .u8 0, .int .u8 0, .int .u8 0, .int .u8 0, .int .u8 0, .int .u8 0] 23)) w.heap.size L 23 := ((Blk.new w _ _).alloc _).alloc _
  have hY : Blk (((w.alloc (.cells L 23)).alloc (.cells R 23)).alloc (.cells #[.int .u8 0, .int .u8 0, .int .u8 0, .int .u8 0, .int .u8 0, .int .u8 0, .int .u8 0, .int .u8 0, .int .u8 0, .int .u8 0, .int .u8 0, .int .u8 0, .int .u8 0, .int .u8 0, .int .u8 0, .int .u8 0, .int .u8 0, .int .u8 0, .int .u8 0, .int .u8 0, .int .u8 0, .int .u8 0, .int .u8 0, .int .u8 0, .int .u8 0, .int .u8 0, .int .u8 0, .int .u8 0, .int .u8 0, .int .u8 0, .int .u8 0, .int .u8 0] 23)) (w.heap.size + 1) R 23 := (Blk.new2 w _ _ _).alloc _
  have v0 := Blk.new3 w (.cells L 23) (.cells R 23) #[.int .u8 0, .int .u8 0, .int .u8 0, .int .u8 0, .int .u8 0, .int .u8 0, .int .u8 0, .int .u8 0, .int .u8 0, .int .u8 0, .int .u8 0, .int .u8 0, .int .u8 0, .int .u8 0, .int .u8 0, .int .u8 0, .int .u8 0, .int .u8 0, .int .u8 0, .int .u8 0, .int .u8 0, .int .u8 0, .int .u8 0, .int .u8 0, .int .u8 0, .int .u8 0, .int .u8 0, .int .u8 0, .int .u8 0, .int .u8 0, .int .u8 0, .int .u8 0] 23
  go_enter Try.func105, Try.ntmps105
  go_wp2_with fail
  obtain ⟨wB, hwB⟩ : ∃ wB, wB = (((w.alloc (.cells L 23)).alloc (.cells R 23)).alloc (.cells #[.int .u8 0, .int .u8 0, .int .u8 0, .int .u8 0, .int .u8 0, .int .u8 0, .int .u8 0, .int .u8 0, .int .u8 0, .int .u8 0, .int .u8 0, .int .u8 0, .int .u8 0, .int .u8 0, .int .u8 0, .int .u8 0, .int .u8 0, .int .u8 0, .int .u8 0, .int .u8 0, .int .u8 0, .int .u8 0, .int .u8 0, .int .u8 0, .int .u8 0, .int .u8 0, .int .u8 0, .int .u8 0, .int .u8 0, .int .u8 0, .int .u8 0, .int .u8 0] 23)) := ⟨_, rfl⟩
  rw [← hwB] at k0 hX hY v0 ⊢
  clear hwB
  have hL : ∀ W, Kept None wB W → Bs W w.heap.size (w.heap.size + 1) (.slice (some ⟨w.heap.size, 0, none⟩) 32 32) l := fun W hW => by
    have h := (HLL.out.1 ▸ (hX.kept hW (fun h => h)) : Blk W w.heap.size (l.map u8v).toArray 23).bs 0 32 (by omega) (by decide)
    rwa [List.drop_zero, List.take_of_length_le (by omega)] at h
  have hR : ∀ W, Kept None wB W → Bs W (w.heap.size + 1) (w.heap.size + 1 + 1) (.slice (some ⟨w.heap.size + 1, 0, none⟩) 32 32) r := fun W hW => by
    have h := (HLL.out.2 ▸ (hY.kept hW (fun h => h)) : Blk W (w.heap.size + 1) (r.map u8v).toArray 23).bs 0 32 (by omega) (by decide)
    rwa [List.drop_zero, List.take_of_length_le (by omega)] at h
  have hs : Steady [.lists 2 ([l, r]), .val 3 (hashV res) [2]] := Steady.lists (Steady.val (Steady.nil))
  refine wp_region_kn_tail 4 wB _ hs (Kept.refl _ _) (by kernel_rfl) (by kernel_rfl) (by kernel_rfl) ?_
  simp only [List.take_succ_cons, List.take_zero, List.drop_succ_cons, List.drop_zero]
  iterate 2 (refine wpPar_pure rfl (by rfl) _ (fun W hW => by
      go_simp
      exact rfl) ?_; simp only [Act.put, List.setIfInBounds_toArray, List.set_cons_zero, List.set_cons_succ])
  refine wpKn_adds hs rfl (by rfl) (fun W hW hd => ?_) (fun v2 hv => ?_)
  · unfold Gives
    have h1 := hL W hW
    have h2 := hR W hW
    go_simp
    exact ⟨(Kept.refl None W).alloc _, ⟨_, _, rfl⟩, _, _, _, _, Bss.new W #[.slice (some ⟨w.heap.size, 0, none⟩) 32 32, .slice (some ⟨w.heap.size + 1, 0, none⟩) 32 32] 29 [l, r] 2 rfl (by decide) ⟨h1.all, h2.all, trivial⟩⟩
  obtain ⟨a2, c2, rfl⟩ : ∃ a c, v2 = .slice a 2 c := hv
  simp only [Act.put, List.setIfInBounds_toArray, List.set_cons_zero, List.set_cons_succ]
  refine wpKn_adds hs rfl (by rfl) (fun W hW hd => ?_) (fun v3 hv => ?_)
  · unfold Gives
    obtain ⟨lo1, hi1, lo2, hi2, h1⟩ : ∃ lo hi lo' hi', Bss W lo hi lo' hi' (.slice a2 2 c2) [l, r] := hd 2 (List.Mem.head _)
    go_simp
    refine gives_call (HS.out _ _ _ _ _ _ h1) ?_
    rintro e w3 ⟨rfl, k3⟩
    exact ⟨_, rfl, k3, rfl, trivial⟩
  obtain rfl : v3 = hashV res := hv
  simp only [Act.put, List.setIfInBounds_toArray, List.set_cons_zero, List.set_cons_succ]
  refine wpPar_nil (fun W hW hG => ?_)
  have k04 := k0.trans hW
  have v4 := v0.kept hW (fun h => h)
  obtain ⟨z, hz, hR4⟩ : ∃ z : Array Value, z.size = 32 ∧ Blk W (w.heap.size + 1 + 1) z 23 := ⟨_, by simp, v4⟩
  clear hG hs hW k0 v0 v4 hL hR hX hY
  have e32' : (res.map u8v).toArray.size = 32 := by simpa using H32.out
  have aH' : AggTy Try.prog 23 (res.map u8v).toArray.size := by rw [e32']; exact Sp.aH
  have E := hid (hz.trans e32'.symm)
  clear e32' hz
  go_wp2_with (first | (refine wpList_store_blk rfl _ _ _ rfl rfl rfl hR4 aH' E.out (u8v_all _) ?_; intro w6 hR6 k6) | fail)
  exact bodyPost_ret (v := hashV res) (results_blk rfl _ rfl hR6 aH') rfl ⟨rfl, k04.then k6 (fun i hi (h : i = w.heap.size + 1 + 1) => by omega)⟩
end RLg
end Go.Proofs.Ytibkijloibnkfaa
