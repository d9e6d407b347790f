/- Package proof, climb: by contract. -/
import Derived.Test.YtidegffdhpdhjaaRight7
namespace Go.Proofs.Ytidegffdhpdhjaa
open Go.RowKit Go.Pm
namespace Pr
set_option maxRecDepth 100000 in
set_option maxHeartbeats 1000000 in
theorem climb_foot (i : List UInt8) (s : Value) (p : Pf) (w : World) (_hi : i.length = 32) (hp : p.Ok) (hs : Rh 0 w s p.path) (_hn : p.path.length ≤ 256) :
    Calls Try.prog 67 #[hashV i, pfV s p, .int .i64 p.path.length] w fun e w' => ∃ u, e = .returned (.tuple #[hashV (sumB (footB p)), u]) ∧ Kept None w w' ∧ Rl w.heap.size w' u [footB p] := by
  obtain ⟨q0, hv⟩ := hs
  obtain ⟨a, c, rfl, g1, g2, g3⟩ := hv.form
  obtain ⟨n, hnn⟩ : ∃ n, n = p.path.length := ⟨_, rfl⟩
  rw [← hnn] at g1 ⊢
  obtain ⟨X, hX⟩ : ∃ X, X = (pfC (.slice a n c) p).toArray := ⟨_, rfl⟩
  obtain ⟨L, hL⟩ : ∃ L : Array Value, L = (i.map u8v).toArray := ⟨_, rfl⟩
  have hF := fun w => foot (.slice a n c) p w hp
  have aP' : AggTy Try.prog 63 (pfC (.slice a n c) p).toArray.size := aP hp
  obtain ⟨tx, htx⟩ : ∃ tx, tx = footB p := ⟨_, rfl⟩
  obtain ⟨res, hres⟩ : ∃ res, res = sumB tx := ⟨_, rfl⟩
  have e32 : res.length = 32 := by rw [hres]; exact sumB_len _
  rw [← htx, ← hres] at hF
  rw [← htx, ← hres]
  show Calls Try.prog 67 #[.agg (i.map u8v).toArray, .agg (pfC (.slice a n c) p).toArray, .int .i64 n] w _
  have hF : ∀ w, Calls Try.prog 108 #[.agg (pfC (.slice a n c) p).toArray] w fun e w' => ∃ u, e = .returned (.tuple #[hashV res, u]) ∧ Kept None w w' ∧ Rb w.heap.size w' u tx := hF
  have hc0 : X[0]? = some (.slice a n c) := by rw [hX]; rfl
  rw [← hX] at hF aP'
  rw [← hL, ← hX]
  obtain ⟨RA, hRA⟩ : ∃ RA : Array Value, RA = (res.map u8v).toArray := ⟨_, rfl⟩
  have aR : AggTy Try.prog 23 RA.size := by rw [hRA]; exact aH32 e32
  have hR32 : RA.size = 32 := by rw [hRA]; simpa using e32
  have hall : RA.all (·.oneCell') = true := by rw [hRA]; exact u8v_all' _
  rw [show hashV res = .agg RA by rw [hRA]] at hF ⊢
  have HF := hid hF
  have H32 := hid (And.intro hR32 hall)
  have k0 : Kept None w (((w.alloc (.cells L 23)).alloc (.cells X 63)).alloc (.cells #[.int .u8 0, .int .u8 0, .int .u8 0, .int .u8 0, .int .u8 0, .int .u8 0, .int .u8 0, .int .u8 0, .int .u8 0, .int .u8 0, .int .u8 0, .int .u8 0, .int .u8 0, .int .u8 0, .int .u8 0, .int .u8 0, .int .u8 0, .int .u8 0, .int .u8 0, .int .u8 0, .int .u8 0, .int .u8 0, .int .u8 0, .int .u8 0, .int .u8 0, .int .u8 0, .int .u8 0, .int .u8 0, .int .u8 0, .int .u8 0, .int .u8 0, .int .u8 0] 23)) := (((Kept.refl _ _).alloc _).alloc _).alloc _
  have bX : Blk (((w.alloc (.cells L 23)).alloc (.cells X 63)).alloc (.cells #[.int .u8 0, .int .u8 0, .int .u8 0, .int .u8 0, .int .u8 0, .int .u8 0, .int .u8 0, .int .u8 0, .int .u8 0, .int .u8 0, .int .u8 0, .int .u8 0, .int .u8 0, .int .u8 0, .int .u8 0, .int .u8 0, .int .u8 0, .int .u8 0, .int .u8 0, .int .u8 0, .int .u8 0, .int .u8 0, .int .u8 0, .int .u8 0, .int .u8 0, .int .u8 0, .int .u8 0, .int .u8 0, .int .u8 0, .int .u8 0, .int .u8 0, .int .u8 0] 23)) (w.heap.size + 1) X 63 := (Blk.new2 w _ _ _).alloc _
  have v0 : Blk (((w.alloc (.cells L 23)).alloc (.cells X 63)).alloc (.cells #[.int .u8 0, .int .u8 0, .int .u8 0, .int .u8 0, .int .u8 0, .int .u8 0, .int .u8 0, .int .u8 0, .int .u8 0, .int .u8 0, .int .u8 0, .int .u8 0, .int .u8 0, .int .u8 0, .int .u8 0, .int .u8 0, .int .u8 0, .int .u8 0, .int .u8 0, .int .u8 0, .int .u8 0, .int .u8 0, .int .u8 0, .int .u8 0, .int .u8 0, .int .u8 0, .int .u8 0, .int .u8 0, .int .u8 0, .int .u8 0, .int .u8 0, .int .u8 0] 23)) (w.heap.size + 1 + 1) #[.int .u8 0, .int .u8 0, .int .u8 0, .int .u8 0, .int .u8 0, .int .u8 0, .int .u8 0, .int .u8 0, .int .u8 0, .int .u8 0, .int .u8 0, .int .u8 0, .int .u8 0, .int .u8 0, .int .u8 0, .int .u8 0, .int .u8 0, .int .u8 0, .int .u8 0, .int .u8 0, .int .u8 0, .int .u8 0, .int .u8 0, .int .u8 0, .int .u8 0, .int .u8 0, .int .u8 0, .int .u8 0, .int .u8 0, .int .u8 0, .int .u8 0, .int .u8 0] 23 := Blk.new3 w _ _ _ _
  obtain ⟨z, hz, hZ⟩ := Blk.any (n := 32) v0 (by rfl)
  clear hF hX hL hres htx hRA hR32 hall e32 hv hnn g3 v0
  go_enter Try.func67, Try.ntmps67
  go_wp2_with (first | (refine wpList_load_blk rfl _ _ rfl rfl bX aP' ?_) | fail)
  refine Calls.nm ?_
  intro w1 e1
  rw [← e1] at k0 hZ
  clear e1 bX
  refine (HF.out w1).mono ?_
  rintro e w2 ⟨u, rfl, k2, b2⟩
  have k02 := k0.trans k2
  have hZ2 := hZ.kept k2 (fun h => h)
  have hlt := hid (And.intro hZ.lt hZ2.lt)
  have hle := hid (And.intro k0.size k2.size)
  obtain ⟨a2, c2, rfl⟩ := b2.form
  obtain ⟨z8, hz8, hZ8⟩ := Blk.any (n := 32) (Blk.new w2 #[.int .u8 0, .int .u8 0, .int .u8 0, .int .u8 0, .int .u8 0, .int .u8 0, .int .u8 0, .int .u8 0, .int .u8 0, .int .u8 0, .int .u8 0, .int .u8 0, .int .u8 0, .int .u8 0, .int .u8 0, .int .u8 0, .int .u8 0, .int .u8 0, .int .u8 0, .int .u8 0, .int .u8 0, .int .u8 0, .int .u8 0, .int .u8 0, .int .u8 0, .int .u8 0, .int .u8 0, .int .u8 0, .int .u8 0, .int .u8 0, .int .u8 0, .int .u8 0] 23) (by rfl)
  have E8 := hid (hz8.trans H32.out.1.symm)
  have E := hid (hz.trans H32.out.1.symm)
  clear k0 k2 hZ hz8 hz
  go_wp2_with (first | (refine wpList_store_blk rfl _ _ _ rfl rfl rfl hZ8 aR E8.out H32.out.2 ?_; intro w4 h4 k4; have k24 := k4.fresh; have hZ5 := (hZ2.kept k24 (fun h => h)).alloc (.cells #[.slice a2 tx.length c2] 29)) | (refine wpList_load_blk rfl _ _ rfl rfl h4 aR ?_) | (refine wpList_store_blk rfl _ _ _ rfl rfl rfl hZ5 aR E.out H32.out.2 ?_; intro w9 hR9 k9) | fail)
  have b5 := Rl.one w4 (Nat.le_trans hle.out.2 k24.size) 29 (b2.kept k24)
  have k05 := (k02.trans k24).alloc (.cells #[.slice a2 tx.length c2] 29)
  exact bodyPost_ret (v := .tuple #[.agg RA, .slice (some ⟨w4.heap.size, 0, none⟩) 1 1]) (res_cell_tmp rfl _ rfl rfl hR9 aR) rfl ⟨_, rfl, k05.then k9 (fun i hi (h : i = w.heap.size + 1 + 1) => by omega), (b5.keptS k9 (fun k h1 h => by have h : k = w.heap.size + 1 + 1 := h; have := hlt.out.1; omega)).mono hle.out.1⟩
end Pr
end Go.Proofs.Ytidegffdhpdhjaa
