/- Package proof, climb's step: by contract. -/
import Derived.Test.YtidegffdhpdhjaaClimb7
import Derived.Test.YtidegffdhpdhjaaHk8
namespace Go.Pm
open Go Go.RowKit
end Go.Pm
namespace Go.Proofs.Ytidegffdhpdhjaa
open Go.RowKit Go.Pm
namespace Pr
set_option maxRecDepth 100000 in
set_option maxHeartbeats 1000000 in
theorem climb_more0 (i : List UInt8) (s : Value) (p : Pf) (j : Nat) (B R : List UInt8) (ls : List (List UInt8)) (w : World) (hi : i.length = 32) (hp : p.Ok) (hs : Rh 0 w s p.path) (hn : p.path.length ≤ 256) (hj : j < p.path.length) (hR : p.path[j] = R) (hB : B.length = 32) (hls : ls.length ≤ 1000)
    (hb : bitI i j = 0)
    (ih : ∀ w, Rh 0 w s p.path → Calls Try.prog 67 #[hashV i, pfV s p, .int .i64 ((j : Int) + 1)] w fun e w' => ∃ u, e = .returned (.tuple #[hashV B, u]) ∧ Kept None w w' ∧ Rl w.heap.size w' u ls) :
    Calls Try.prog 67 #[hashV i, pfV s p, .int .i64 j] w fun e w' => ∃ u, e = .returned (.tuple #[hashV (sumB (textB 110 [B, R])), u]) ∧ Kept None w w' ∧ Rl w.heap.size w' u (textB 110 [B, R] :: ls) := by
  have hR32 : R.length = 32 := by rw [← hR]; exact hp.1 _ (List.getElem_mem hj)
  obtain ⟨q0, hv⟩ := hs
  obtain ⟨a, c, rfl, g1, g2, g3⟩ := hv.form
  obtain ⟨b0, o0, rfl, _, _, hb0, hpl⟩ := hv.lo (by omega)
  have hr0 := hpl j hj
  rw [hR] at hr0
  obtain ⟨n, hnn⟩ : ∃ n, n = p.path.length := ⟨_, rfl⟩
  rw [← hnn] at hn g1 hj
  obtain ⟨X, hX⟩ : ∃ X, X = (pfC (.slice (some ⟨b0, o0, none⟩) n c) p).toArray := ⟨_, rfl⟩
  obtain ⟨L, hL⟩ : ∃ L : Array Value, L = (i.map u8v).toArray := ⟨_, rfl⟩
  have aP' : AggTy Try.prog 63 (pfC (.slice (some ⟨b0, o0, none⟩) n c) p).toArray.size := aP hp
  have hIH : ∀ w, Rh 0 w (.slice (some ⟨b0, o0, none⟩) n c) p.path → Calls Try.prog 67 #[.agg (i.map u8v).toArray, .agg (pfC (.slice (some ⟨b0, o0, none⟩) n c) p).toArray, .int .i64 ((j : Int) + 1)] w fun e w' => ∃ u, e = .returned (.tuple #[.agg (B.map u8v).toArray, u]) ∧ Kept None w w' ∧ Rl w.heap.size w' u ls := fun w h => by
    have h2 := ih w (by rw [← hnn]; exact h)
    rw [← hnn] at h2
    exact h2
  have hv0 : Rh 0 w (.slice (some ⟨b0, o0, none⟩) n c) p.path := ⟨q0, by rw [hnn]; exact hv.wider' (Nat.zero_le _)⟩
  have hbit : ∀ W, Calls Try.prog 109 #[.agg (i.map u8v).toArray, .int .i64 j] W fun e w' => e = .returned (.int .i64 (bitI i j : Nat)) ∧ Kept None W w' := fun W => Tr.bit i hi j (by omega) W
  rw [hb] at hbit
  have hT := fun v lo hi lo' hi' w hv => Sp.text 110 v lo hi lo' hi' [B, R] w (by decide) (by decide) hv (by simp) (by simp [total]; omega)
  have hN : ∀ W, Calls Try.prog 110 #[.agg (B.map u8v).toArray, .agg (R.map u8v).toArray] W fun e w' => e = .returned (hashV (sumB (textB 110 [B, R]))) ∧ Kept None W w' := fun W => Tr.node B R W (by omega) (by omega)
  obtain ⟨tx, htx⟩ : ∃ tx, tx = textB 110 [B, R] := ⟨_, rfl⟩
  obtain ⟨res, hres⟩ : ∃ res, res = sumB tx := ⟨_, rfl⟩
  have e32 : res.length = 32 := by rw [hres]; exact sumB_len _
  rw [← htx] at hT
  rw [← htx, ← hres] at hN ⊢
  rw [show pfV (.slice (some ⟨b0, o0, none⟩) p.path.length c) p = .agg (pfC (.slice (some ⟨b0, o0, none⟩) n c) p).toArray by rw [hnn]]
  show Calls Try.prog 67 #[.agg (i.map u8v).toArray, .agg (pfC (.slice (some ⟨b0, o0, none⟩) n c) p).toArray, .int .i64 j] w _
  have hc0 : X[0]? = some (.slice (some ⟨b0, o0, none⟩) n c) := by rw [hX]; rfl
  have aL : AggTy Try.prog 23 (i.map u8v).toArray.size := aH32 hi
  rw [← hX] at aP'
  rw [← hX, ← hL] at hIH
  rw [← hL] at hbit aL
  rw [← hL, ← hX]
  have aRL := aH32' hR32
  obtain ⟨CR, hCR⟩ : ∃ CR : List Value, CR = R.map u8v := ⟨_, rfl⟩
  obtain ⟨AB, hAB⟩ : ∃ AB : Array Value, AB = (B.map u8v).toArray := ⟨_, rfl⟩
  obtain ⟨AR, hAR⟩ : ∃ AR : Array Value, AR = CR.toArray := ⟨_, rfl⟩
  have aB : AggTy Try.prog 23 AB.size := by rw [hAB]; exact aH32 hB
  have aR : AggTy Try.prog 23 AR.size := by rw [hAR, hCR]; exact aH32 hR32
  have sB : AB.size = 32 := by rw [hAB]; simpa using hB
  have sR : AR.size = 32 := by rw [hAR, hCR]; simpa using hR32
  have allB : AB.all (·.oneCell') = true := by rw [hAB]; exact u8v_all' _
  have allR : AR.all (·.oneCell') = true := by rw [hAR, hCR]; exact u8v_all' _
  rw [show (R.map u8v).toArray = AR by rw [hAR, hCR], ← hAB] at hN
  rw [← hAB] at hIH
  rw [← hCR] at hr0 aRL
  have HIH := hid hIH
  have HB := hid hbit
  have HT := hid hT
  have HN := hid hN
  have HS := hid (And.intro sB sR)
  have HA := hid (And.intro hAB (show AR = (R.map u8v).toArray by rw [hAR, hCR]))
  have HAR := hid hAR
  have H32 := hid e32
  have HL := hid (And.intro hB (And.intro hR32 hls))
  have hjz : (j : Int) < (n : Int) := by omega
  have hjn : ((j : Int) == (n : Int)) = false := by rw [beq_eq_false_iff_ne]; omega
  have rj : IntKind.i64.wrap ((j : Int) + 1) = (j : Int) + 1 := by rw [IntKind.wrap_i64]; omega
  have k0 : Kept None w (((w.alloc (.cells L 23)).alloc (.cells X 63)).alloc (.cells #[.int .u8 0, .int .u8 0, .int .u8 0, .int .u8 0, .int .u8 0, .int .u8 0, .int .u8 0, .int .u8 0, .int .u8 0, .int .u8 0, .int .u8 0, .int .u8 0, .int .u8 0, .int .u8 0, .int .u8 0, .int .u8 0, .int .u8 0, .int .u8 0, .int .u8 0, .int .u8 0, .int .u8 0, .int .u8 0, .int .u8 0, .int .u8 0, .int .u8 0, .int .u8 0, .int .u8 0, .int .u8 0, .int .u8 0, .int .u8 0, .int .u8 0, .int .u8 0] 23)) := (((Kept.refl _ _).alloc _).alloc _).alloc _
  have bL : Blk (((w.alloc (.cells L 23)).alloc (.cells X 63)).alloc (.cells #[.int .u8 0, .int .u8 0, .int .u8 0, .int .u8 0, .int .u8 0, .int .u8 0, .int .u8 0, .int .u8 0, .int .u8 0, .int .u8 0, .int .u8 0, .int .u8 0, .int .u8 0, .int .u8 0, .int .u8 0, .int .u8 0, .int .u8 0, .int .u8 0, .int .u8 0, .int .u8 0, .int .u8 0, .int .u8 0, .int .u8 0, .int .u8 0, .int .u8 0, .int .u8 0, .int .u8 0, .int .u8 0, .int .u8 0, .int .u8 0, .int .u8 0, .int .u8 0] 23)) w.heap.size L 23 := ((Blk.new w _ _).alloc _).alloc _
  have bX : Blk (((w.alloc (.cells L 23)).alloc (.cells X 63)).alloc (.cells #[.int .u8 0, .int .u8 0, .int .u8 0, .int .u8 0, .int .u8 0, .int .u8 0, .int .u8 0, .int .u8 0, .int .u8 0, .int .u8 0, .int .u8 0, .int .u8 0, .int .u8 0, .int .u8 0, .int .u8 0, .int .u8 0, .int .u8 0, .int .u8 0, .int .u8 0, .int .u8 0, .int .u8 0, .int .u8 0, .int .u8 0, .int .u8 0, .int .u8 0, .int .u8 0, .int .u8 0, .int .u8 0, .int .u8 0, .int .u8 0, .int .u8 0, .int .u8 0] 23)) (w.heap.size + 1) X 63 := (Blk.new2 w _ _ _).alloc _
  have v0 : Blk (((w.alloc (.cells L 23)).alloc (.cells X 63)).alloc (.cells #[.int .u8 0, .int .u8 0, .int .u8 0, .int .u8 0, .int .u8 0, .int .u8 0, .int .u8 0, .int .u8 0, .int .u8 0, .int .u8 0, .int .u8 0, .int .u8 0, .int .u8 0, .int .u8 0, .int .u8 0, .int .u8 0, .int .u8 0, .int .u8 0, .int .u8 0, .int .u8 0, .int .u8 0, .int .u8 0, .int .u8 0, .int .u8 0, .int .u8 0, .int .u8 0, .int .u8 0, .int .u8 0, .int .u8 0, .int .u8 0, .int .u8 0, .int .u8 0] 23)) (w.heap.size + 1 + 1) #[.int .u8 0, .int .u8 0, .int .u8 0, .int .u8 0, .int .u8 0, .int .u8 0, .int .u8 0, .int .u8 0, .int .u8 0, .int .u8 0, .int .u8 0, .int .u8 0, .int .u8 0, .int .u8 0, .int .u8 0, .int .u8 0, .int .u8 0, .int .u8 0, .int .u8 0, .int .u8 0, .int .u8 0, .int .u8 0, .int .u8 0, .int .u8 0, .int .u8 0, .int .u8 0, .int .u8 0, .int .u8 0, .int .u8 0, .int .u8 0, .int .u8 0, .int .u8 0] 23 := Blk.new3 w _ _ _ _
  obtain ⟨z, hz, hZ⟩ := Blk.any (n := 32) v0 (by rfl)
  clear hIH hX hL hres htx hCR hAB hAR sB sR e32 hv hnn g3 v0 hT hN hbit ih hpl hR hb hB hR32 hls
  go_enter Try.func67, Try.ntmps67
  go_wp2_with (first | (refine wpList_load_blk rfl _ _ rfl rfl bX aP' ?_) | (refine wpList_load_blk rfl _ _ rfl rfl bL aL ?_) | fail)
  refine Calls.nm ?_
  intro w1 e1
  rw [← e1] at k0 hZ bL bX
  clear e1
  refine (HIH.out w1 (hv0.kept k0)).mono ?_
  rintro e w2 ⟨u, rfl, k2, b2⟩
  have k02 := k0.trans k2
  have hZ2 := hZ.kept k2 (fun h => h)
  have bL2 := bL.kept k2 (fun h => h)
  have c2 : w2.cell? ⟨w.heap.size + 1, 0, none⟩ = some (.slice (some ⟨b0, o0, none⟩) n c) := by rw [(bX.kept k2 (fun h => h)).cell]; exact hc0
  have r2 := rangeAt_kept hr0 k02
  have hlt := hid hZ.lt
  have hle := hid (And.intro k0.size k2.size)
  obtain ⟨au, cu, rfl⟩ := b2.form
  obtain ⟨z8, hz8, hZ8⟩ := Blk.any (n := 32) (Blk.new w2 #[.int .u8 0, .int .u8 0, .int .u8 0, .int .u8 0, .int .u8 0, .int .u8 0, .int .u8 0, .int .u8 0, .int .u8 0, .int .u8 0, .int .u8 0, .int .u8 0, .int .u8 0, .int .u8 0, .int .u8 0, .int .u8 0, .int .u8 0, .int .u8 0, .int .u8 0, .int .u8 0, .int .u8 0, .int .u8 0, .int .u8 0, .int .u8 0, .int .u8 0, .int .u8 0, .int .u8 0, .int .u8 0, .int .u8 0, .int .u8 0, .int .u8 0, .int .u8 0] 23) (by rfl)
  have E8 := hid (hz8.trans HS.out.1.symm)
  have allB := hid allB
  have allR := hid allR
  clear k0 k2 hZ hz8 hc0 bL bX hr0 rj HIH hv0
  go_wp2_with (first | (refine wpList_store_blk rfl _ _ _ rfl rfl rfl hZ8 aB E8.out allB.out ?_; intro w4 h4 k4; have k24 := k4.fresh; have c4 : w4.cell? ⟨w.heap.size + 1, 0, none⟩ = some (.slice (some ⟨b0, o0, none⟩) n c) := (by rw [k24.cell (block_lt_of_cell c2) (fun h => h)]; exact c2); have r4 := rangeAt_kept r2 k24; have bL4 := bL2.kept k24 (fun h => h); obtain ⟨z9, hz9, hZ9⟩ := Blk.any (n := 32) (Blk.new w4 #[.int .u8 0, .int .u8 0, .int .u8 0, .int .u8 0, .int .u8 0, .int .u8 0, .int .u8 0, .int .u8 0, .int .u8 0, .int .u8 0, .int .u8 0, .int .u8 0, .int .u8 0, .int .u8 0, .int .u8 0, .int .u8 0, .int .u8 0, .int .u8 0, .int .u8 0, .int .u8 0, .int .u8 0, .int .u8 0, .int .u8 0, .int .u8 0, .int .u8 0, .int .u8 0, .int .u8 0, .int .u8 0, .int .u8 0, .int .u8 0, .int .u8 0, .int .u8 0] 23) (by rfl); have E9 := hid (hz9.trans HS.out.2.symm)) | (refine wpList_load_at rfl _ _ rfl rfl r4 aRL ?_; rw [← HAR.out]) | (refine wpList_store_blk rfl _ _ _ rfl rfl rfl hZ9 aR E9.out allR.out ?_; intro w6 h6 k6; have k46 := k6.fresh; have bL6 := bL4.kept k46 (fun h => h)) | (refine wpList_load_blk rfl _ _ rfl rfl bL6 aL ?_) | fail)
  refine (HB.out w6).mono ?_
  rintro e w7 ⟨rfl, k7⟩
  have k27 := (k24.trans k46).trans k7
  have hB7 := (h4.kept k46 (fun h => h)).kept k7 (fun h => h)
  have hR7 := h6.kept k7 (fun h => h)
  have hgl := hid (And.intro h4.lt (And.intro k24.size (And.intro k46.size k7.size)))
  have E := hz
  clear k4 k24 c4 r4 bL4 k6 k46 bL6 h4 h6 k7 c2 r2 bL2 hZ8 hZ9 hz9 E8 E9 hz
  go_wp2_with fail
  have k29 := k27
  have h10 := hB7
  have h12 := hR7
  clear k27 hB7 hR7
  have b9 := b2.kept k29
  have hZ9 := hZ2.kept k29 (fun h => h)
  have k09 := k02.trans k29
  have hlo : w1.heap.size ≤ w7.heap.size := Nat.le_trans hle.out.2 k29.size
  have HLO := hid hlo
  have hq : ∀ W, Kept None w7 W → Bs W 0 W.heap.size (.slice (some ⟨w2.heap.size, 0, none⟩) 32 32) B ∧ Bs W 0 W.heap.size (.slice (some ⟨w4.heap.size, 0, none⟩) 32 32) R := fun W hW => by
    have q1 : Blk W w2.heap.size (B.map u8v).toArray 23 := HA.out.1 ▸ (h10.kept hW (fun h => h))
    have q2 : Blk W w4.heap.size (R.map u8v).toArray 23 := HA.out.2 ▸ (h12.kept hW (fun h => h))
    have p1 := q1.bs 0 32 (by have := HL.out; omega) (by decide)
    have p2 := q2.bs 0 32 (by have := HL.out; omega) (by decide)
    rw [List.drop_zero, List.take_of_length_le (by have := HL.out; omega)] at p1 p2
    exact ⟨p1.all, p2.all⟩
  have HQ := hid hq
  have B9 := hid b9
  have aV1 := hid h10
  have aV2 := hid h12
  clear b2 hZ2 k02 k29 hlo hq b9 h10 h12
  have hs : Steady [.val 2 (hashV res), .lists 5 [B, R], .rb 6 w1.heap.size tx [5], .row1 7 w1.heap.size 29 tx [6], .rl 9 w1.heap.size (tx :: ls) [7]] := Steady.val (Steady.lists (Steady.rb (Steady.row1 (Steady.rl (Steady.nil)))))
  refine wp_region_kn_tail 10 w7 _ hs (Kept.refl _ _) (by kernel_rfl) (by kernel_rfl) (by kernel_rfl) ?_
  simp only [List.take_succ_cons, List.take_zero, List.drop_succ_cons, List.drop_zero]
  refine wpPar_pure rfl (by rfl) _ (fun W hW => exec_load_blk _ _ rfl rfl (aV1.out.kept hW (fun h => h)) aB) ?_; simp only [Act.put, List.setIfInBounds_toArray, List.set_cons_zero, List.set_cons_succ]
  refine wpPar_pure rfl (by rfl) _ (fun W hW => exec_load_blk _ _ rfl rfl (aV2.out.kept hW (fun h => h)) aR) ?_; simp only [Act.put, List.setIfInBounds_toArray, List.set_cons_zero, List.set_cons_succ]
  refine wpKn_adds hs rfl (by rfl) (fun W hW hd => ?_) (fun v2 hv => ?_)
  · unfold Gives
    go_simp
    refine gives_call (HN.out W) ?_
    rintro e w3 ⟨rfl, k3⟩
    exact ⟨_, rfl, k3, rfl, trivial⟩
  obtain rfl : v2 = hashV res := hv
  simp only [Act.put, List.setIfInBounds_toArray, List.set_cons_zero, List.set_cons_succ]
  iterate 2 (refine wpPar_pure rfl (by rfl) _ (fun W hW => by
      go_simp
      exact rfl) ?_; simp only [Act.put, List.setIfInBounds_toArray, List.set_cons_zero, List.set_cons_succ])
  refine wpKn_adds hs rfl (by rfl) (fun W hW hd => ?_) (fun v5 hv => ?_)
  · unfold Gives
    go_simp
    exact ⟨(Kept.refl None W).alloc _, ⟨_, _, rfl⟩, _, _, _, _, Bss.new W #[.slice (some ⟨w2.heap.size, 0, none⟩) 32 32, .slice (some ⟨w4.heap.size, 0, none⟩) 32 32] 29 [B, R] 2 rfl (by decide) ⟨(HQ.out W hW).1, (HQ.out W hW).2, trivial⟩⟩
  obtain ⟨a5, c5, rfl⟩ : ∃ a c, v5 = .slice a 2 c := hv
  simp only [Act.put, List.setIfInBounds_toArray, List.set_cons_zero, List.set_cons_succ]
  refine wpKn_adds hs rfl (by rfl) (fun W hW hd => ?_) (fun v6 hv => ?_)
  · unfold Gives
    obtain ⟨lo1, hi1, lo2, hi2, h1⟩ : ∃ lo hi lo' hi', Bss W lo hi lo' hi' (.slice a5 2 c5) [B, R] := hd 5 (List.Mem.head _)
    go_simp
    refine gives_call (HT.out _ _ _ _ _ _ h1) ?_
    rintro e w3 ⟨u, rfl, k3, b3⟩
    obtain ⟨a3, c3, rfl⟩ := b3.form
    exact ⟨_, rfl, k3, ⟨_, _, rfl⟩, b3.rb.mono (Nat.le_trans HLO.out hW.size)⟩
  obtain ⟨a6, c6, rfl⟩ : ∃ a c, v6 = .slice a tx.length c := hv
  simp only [Act.put, List.setIfInBounds_toArray, List.set_cons_zero, List.set_cons_succ]
  refine wpKn_adds hs rfl (by rfl) (fun W hW hd => ?_) (fun v7 hv => ?_)
  · unfold Gives
    have hb6 : Rb w1.heap.size W (.slice a6 tx.length c6) tx := hd 6 (List.Mem.head _)
    go_simp
    exact ⟨(Kept.refl None W).alloc _, ⟨_, rfl⟩, _, _, rfl, Nat.le_trans HLO.out hW.size, Blk.new W _ _, hb6.kept ((Kept.refl None W).alloc _)⟩
  obtain ⟨g7, rfl⟩ : ∃ g, v7 = .slice (some ⟨g, 0, none⟩) 1 1 := hv
  simp only [Act.put, List.setIfInBounds_toArray, List.set_cons_zero, List.set_cons_succ]
  iterate 1 (refine wpPar_pure rfl (by rfl) _ (fun W hW => by
      go_simp
      exact rfl) ?_; simp only [Act.put, List.setIfInBounds_toArray, List.set_cons_zero, List.set_cons_succ])
  refine wpKn_adds hs rfl (by rfl) (fun W hW hd => ?_) (fun v9 hv => ?_)
  · skip
    obtain ⟨g, y7, hgg, hg7, hB7, hy7⟩ : ∃ g y, Value.slice (some ⟨g7, 0, none⟩) 1 1 = .slice (some ⟨g, 0, none⟩) 1 1 ∧ w1.heap.size ≤ g ∧ Blk W g #[y] 29 ∧ Rb w1.heap.size W y tx := hd 7 (List.Mem.head _)
    obtain rfl : g7 = g := by simpa using hgg
    refine gives_append_rl (.tmp 52) (.tmp 53) 52 rfl rtLists (by decide) hg7 rfl rfl hB7 hy7 (B9.out.kept hW) (by have := HL.out; omega) (fun a' c' w' hr hk => ⟨hk, ⟨_, _, rfl⟩, hr⟩)
  obtain ⟨a9, c9, rfl⟩ : ∃ a c, v9 = .slice a (tx :: ls).length c := hv
  simp only [Act.put, List.setIfInBounds_toArray, List.set_cons_zero, List.set_cons_succ]
  refine wpPar_nil (fun W hW hG => ?_)
  have hb : Rl w1.heap.size W (.slice a9 (tx :: ls).length c9) (tx :: ls) := hG 9
  have k0W := k09.trans hW
  have hZW := hZ9.kept hW (fun h => h)
  clear hG hs hW k09 hZ9 HQ B9 aV1 aV2 HN HT
  have aH' := aH32 H32.out
  have EE := hid (E.trans (show 32 = (res.map u8v).toArray.size by simpa using H32.out.symm))
  clear E
  go_wp2_with (first | (refine wpList_store_blk rfl _ _ _ rfl rfl rfl hZW aH' EE.out (u8v_all _) ?_; intro wz hRz kz) | fail)
  exact bodyPost_ret (v := .tuple #[hashV res, .slice a9 (tx :: ls).length c9]) (res_cell_tmp rfl _ rfl rfl hRz aH') rfl ⟨_, rfl, k0W.then kz (fun i hi (h : i = w.heap.size + 1 + 1) => by omega), (hb.keptS kz (fun k h1 h => by have := hlt.out; have : k = w.heap.size + 1 + 1 := h; omega)).mono hle.out.1⟩

set_option maxRecDepth 100000 in
set_option maxHeartbeats 1000000 in
theorem climb_more1 (i : List UInt8) (s : Value) (p : Pf) (j : Nat) (B R : List UInt8) (ls : List (List UInt8)) (w : World) (hi : i.length = 32) (hp : p.Ok) (hs : Rh 0 w s p.path) (hn : p.path.length ≤ 256) (hj : j < p.path.length) (hR : p.path[j] = R) (hB : B.length = 32) (hls : ls.length ≤ 1000)
    (hb : bitI i j = 1)
    (ih : ∀ w, Rh 0 w s p.path → Calls Try.prog 67 #[hashV i, pfV s p, .int .i64 ((j : Int) + 1)] w fun e w' => ∃ u, e = .returned (.tuple #[hashV B, u]) ∧ Kept None w w' ∧ Rl w.heap.size w' u ls) :
    Calls Try.prog 67 #[hashV i, pfV s p, .int .i64 j] w fun e w' => ∃ u, e = .returned (.tuple #[hashV (sumB (textB 110 [R, B])), u]) ∧ Kept None w w' ∧ Rl w.heap.size w' u (textB 110 [R, B] :: ls) := by
  have hR32 : R.length = 32 := by rw [← hR]; exact hp.1 _ (List.getElem_mem hj)
  obtain ⟨q0, hv⟩ := hs
  obtain ⟨a, c, rfl, g1, g2, g3⟩ := hv.form
  obtain ⟨b0, o0, rfl, _, _, hb0, hpl⟩ := hv.lo (by omega)
  have hr0 := hpl j hj
  rw [hR] at hr0
  obtain ⟨n, hnn⟩ : ∃ n, n = p.path.length := ⟨_, rfl⟩
  rw [← hnn] at hn g1 hj
  obtain ⟨X, hX⟩ : ∃ X, X = (pfC (.slice (some ⟨b0, o0, none⟩) n c) p).toArray := ⟨_, rfl⟩
  obtain ⟨L, hL⟩ : ∃ L : Array Value, L = (i.map u8v).toArray := ⟨_, rfl⟩
  have aP' : AggTy Try.prog 63 (pfC (.slice (some ⟨b0, o0, none⟩) n c) p).toArray.size := aP hp
  have hIH : ∀ w, Rh 0 w (.slice (some ⟨b0, o0, none⟩) n c) p.path → Calls Try.prog 67 #[.agg (i.map u8v).toArray, .agg (pfC (.slice (some ⟨b0, o0, none⟩) n c) p).toArray, .int .i64 ((j : Int) + 1)] w fun e w' => ∃ u, e = .returned (.tuple #[.agg (B.map u8v).toArray, u]) ∧ Kept None w w' ∧ Rl w.heap.size w' u ls := fun w h => by
    have h2 := ih w (by rw [← hnn]; exact h)
    rw [← hnn] at h2
    exact h2
  have hv0 : Rh 0 w (.slice (some ⟨b0, o0, none⟩) n c) p.path := ⟨q0, by rw [hnn]; exact hv.wider' (Nat.zero_le _)⟩
  have hbit : ∀ W, Calls Try.prog 109 #[.agg (i.map u8v).toArray, .int .i64 j] W fun e w' => e = .returned (.int .i64 (bitI i j : Nat)) ∧ Kept None W w' := fun W => Tr.bit i hi j (by omega) W
  rw [hb] at hbit
  have hT := fun v lo hi lo' hi' w hv => Sp.text 110 v lo hi lo' hi' [R, B] w (by decide) (by decide) hv (by simp) (by simp [total]; omega)
  have hN : ∀ W, Calls Try.prog 110 #[.agg (R.map u8v).toArray, .agg (B.map u8v).toArray] W fun e w' => e = .returned (hashV (sumB (textB 110 [R, B]))) ∧ Kept None W w' := fun W => Tr.node R B W (by omega) (by omega)
  obtain ⟨tx, htx⟩ : ∃ tx, tx = textB 110 [R, B] := ⟨_, rfl⟩
  obtain ⟨res, hres⟩ : ∃ res, res = sumB tx := ⟨_, rfl⟩
  have e32 : res.length = 32 := by rw [hres]; exact sumB_len _
  rw [← htx] at hT
  rw [← htx, ← hres] at hN ⊢
  rw [show pfV (.slice (some ⟨b0, o0, none⟩) p.path.length c) p = .agg (pfC (.slice (some ⟨b0, o0, none⟩) n c) p).toArray by rw [hnn]]
  show Calls Try.prog 67 #[.agg (i.map u8v).toArray, .agg (pfC (.slice (some ⟨b0, o0, none⟩) n c) p).toArray, .int .i64 j] w _
  have hc0 : X[0]? = some (.slice (some ⟨b0, o0, none⟩) n c) := by rw [hX]; rfl
  have aL : AggTy Try.prog 23 (i.map u8v).toArray.size := aH32 hi
  rw [← hX] at aP'
  rw [← hX, ← hL] at hIH
  rw [← hL] at hbit aL
  rw [← hL, ← hX]
  have aRL := aH32' hR32
  obtain ⟨CR, hCR⟩ : ∃ CR : List Value, CR = R.map u8v := ⟨_, rfl⟩
  obtain ⟨AB, hAB⟩ : ∃ AB : Array Value, AB = (B.map u8v).toArray := ⟨_, rfl⟩
  obtain ⟨AR, hAR⟩ : ∃ AR : Array Value, AR = CR.toArray := ⟨_, rfl⟩
  have aB : AggTy Try.prog 23 AB.size := by rw [hAB]; exact aH32 hB
  have aR : AggTy Try.prog 23 AR.size := by rw [hAR, hCR]; exact aH32 hR32
  have sB : AB.size = 32 := by rw [hAB]; simpa using hB
  have sR : AR.size = 32 := by rw [hAR, hCR]; simpa using hR32
  have allB : AB.all (·.oneCell') = true := by rw [hAB]; exact u8v_all' _
  have allR : AR.all (·.oneCell') = true := by rw [hAR, hCR]; exact u8v_all' _
  rw [show (R.map u8v).toArray = AR by rw [hAR, hCR], ← hAB] at hN
  rw [← hAB] at hIH
  rw [← hCR] at hr0 aRL
  have HIH := hid hIH
  have HB := hid hbit
  have HT := hid hT
  have HN := hid hN
  have HS := hid (And.intro sB sR)
  have HA := hid (And.intro hAB (show AR = (R.map u8v).toArray by rw [hAR, hCR]))
  have HAR := hid hAR
  have H32 := hid e32
  have HL := hid (And.intro hB (And.intro hR32 hls))
  have hjz : (j : Int) < (n : Int) := by omega
  have hjn : ((j : Int) == (n : Int)) = false := by rw [beq_eq_false_iff_ne]; omega
  have rj : IntKind.i64.wrap ((j : Int) + 1) = (j : Int) + 1 := by rw [IntKind.wrap_i64]; omega
  have k0 : Kept None w (((w.alloc (.cells L 23)).alloc (.cells X 63)).alloc (.cells #[.int .u8 0, .int .u8 0, .int .u8 0, .int .u8 0, .int .u8 0, .int .u8 0, .int .u8 0, .int .u8 0, .int .u8 0, .int .u8 0, .int .u8 0, .int .u8 0, .int .u8 0, .int .u8 0, .int .u8 0, .int .u8 0, .int .u8 0, .int .u8 0, .int .u8 0, .int .u8 0, .int .u8 0, .int .u8 0, .int .u8 0, .int .u8 0, .int .u8 0, .int .u8 0, .int .u8 0, .int .u8 0, .int .u8 0, .int .u8 0, .int .u8 0, .int .u8 0] 23)) := (((Kept.refl _ _).alloc _).alloc _).alloc _
  have bL : Blk (((w.alloc (.cells L 23)).alloc (.cells X 63)).alloc (.cells #[.int .u8 0, .int .u8 0, .int .u8 0, .int .u8 0, .int .u8 0, .int .u8 0, .int .u8 0, .int .u8 0, .int .u8 0, .int .u8 0, .int .u8 0, .int .u8 0, .int .u8 0, .int .u8 0, .int .u8 0, .int .u8 0, .int .u8 0, .int .u8 0, .int .u8 0, .int .u8 0, .int .u8 0, .int .u8 0, .int .u8 0, .int .u8 0, .int .u8 0, .int .u8 0, .int .u8 0, .int .u8 0, .int .u8 0, .int .u8 0, .int .u8 0, .int .u8 0] 23)) w.heap.size L 23 := ((Blk.new w _ _).alloc _).alloc _
  have bX : Blk (((w.alloc (.cells L 23)).alloc (.cells X 63)).alloc (.cells #[.int .u8 0, .int .u8 0, .int .u8 0, .int .u8 0, .int .u8 0, .int .u8 0, .int .u8 0, .int .u8 0, .int .u8 0, .int .u8 0, .int .u8 0, .int .u8 0, .int .u8 0, .int .u8 0, .int .u8 0, .int .u8 0, .int .u8 0, .int .u8 0, .int .u8 0, .int .u8 0, .int .u8 0, .int .u8 0, .int .u8 0, .int .u8 0, .int .u8 0, .int .u8 0, .int .u8 0, .int .u8 0, .int .u8 0, .int .u8 0, .int .u8 0, .int .u8 0] 23)) (w.heap.size + 1) X 63 := (Blk.new2 w _ _ _).alloc _
  have v0 : Blk (((w.alloc (.cells L 23)).alloc (.cells X 63)).alloc (.cells #[.int .u8 0, .int .u8 0, .int .u8 0, .int .u8 0, .int .u8 0, .int .u8 0, .int .u8 0, .int .u8 0, .int .u8 0, .int .u8 0, .int .u8 0, .int .u8 0, .int .u8 0, .int .u8 0, .int .u8 0, .int .u8 0, .int .u8 0, .int .u8 0, .int .u8 0, .int .u8 0, .int .u8 0, .int .u8 0, .int .u8 0, .int .u8 0, .int .u8 0, .int .u8 0, .int .u8 0, .int .u8 0, .int .u8 0, .int .u8 0, .int .u8 0, .int .u8 0] 23)) (w.heap.size + 1 + 1) #[.int .u8 0, .int .u8 0, .int .u8 0, .int .u8 0, .int .u8 0, .int .u8 0, .int .u8 0, .int .u8 0, .int .u8 0, .int .u8 0, .int .u8 0, .int .u8 0, .int .u8 0, .int .u8 0, .int .u8 0, .int .u8 0, .int .u8 0, .int .u8 0, .int .u8 0, .int .u8 0, .int .u8 0, .int .u8 0, .int .u8 0, .int .u8 0, .int .u8 0, .int .u8 0, .int .u8 0, .int .u8 0, .int .u8 0, .int .u8 0, .int .u8 0, .int .u8 0] 23 := Blk.new3 w _ _ _ _
  obtain ⟨z, hz, hZ⟩ := Blk.any (n := 32) v0 (by rfl)
  clear hIH hX hL hres htx hCR hAB hAR sB sR e32 hv hnn g3 v0 hT hN hbit ih hpl hR hb hB hR32 hls
  go_enter Try.func67, Try.ntmps67
  go_wp2_with (first | (refine wpList_load_blk rfl _ _ rfl rfl bX aP' ?_) | (refine wpList_load_blk rfl _ _ rfl rfl bL aL ?_) | fail)
  refine Calls.nm ?_
  intro w1 e1
  rw [← e1] at k0 hZ bL bX
  clear e1
  refine (HIH.out w1 (hv0.kept k0)).mono ?_
  rintro e w2 ⟨u, rfl, k2, b2⟩
  have k02 := k0.trans k2
  have hZ2 := hZ.kept k2 (fun h => h)
  have bL2 := bL.kept k2 (fun h => h)
  have c2 : w2.cell? ⟨w.heap.size + 1, 0, none⟩ = some (.slice (some ⟨b0, o0, none⟩) n c) := by rw [(bX.kept k2 (fun h => h)).cell]; exact hc0
  have r2 := rangeAt_kept hr0 k02
  have hlt := hid hZ.lt
  have hle := hid (And.intro k0.size k2.size)
  obtain ⟨au, cu, rfl⟩ := b2.form
  obtain ⟨z8, hz8, hZ8⟩ := Blk.any (n := 32) (Blk.new w2 #[.int .u8 0, .int .u8 0, .int .u8 0, .int .u8 0, .int .u8 0, .int .u8 0, .int .u8 0, .int .u8 0, .int .u8 0, .int .u8 0, .int .u8 0, .int .u8 0, .int .u8 0, .int .u8 0, .int .u8 0, .int .u8 0, .int .u8 0, .int .u8 0, .int .u8 0, .int .u8 0, .int .u8 0, .int .u8 0, .int .u8 0, .int .u8 0, .int .u8 0, .int .u8 0, .int .u8 0, .int .u8 0, .int .u8 0, .int .u8 0, .int .u8 0, .int .u8 0] 23) (by rfl)
  have E8 := hid (hz8.trans HS.out.1.symm)
  have allB := hid allB
  have allR := hid allR
  clear k0 k2 hZ hz8 hc0 bL bX hr0 rj HIH hv0
  go_wp2_with (first | (refine wpList_store_blk rfl _ _ _ rfl rfl rfl hZ8 aB E8.out allB.out ?_; intro w4 h4 k4; have k24 := k4.fresh; have c4 : w4.cell? ⟨w.heap.size + 1, 0, none⟩ = some (.slice (some ⟨b0, o0, none⟩) n c) := (by rw [k24.cell (block_lt_of_cell c2) (fun h => h)]; exact c2); have r4 := rangeAt_kept r2 k24; have bL4 := bL2.kept k24 (fun h => h); obtain ⟨z9, hz9, hZ9⟩ := Blk.any (n := 32) (Blk.new w4 #[.int .u8 0, .int .u8 0, .int .u8 0, .int .u8 0, .int .u8 0, .int .u8 0, .int .u8 0, .int .u8 0, .int .u8 0, .int .u8 0, .int .u8 0, .int .u8 0, .int .u8 0, .int .u8 0, .int .u8 0, .int .u8 0, .int .u8 0, .int .u8 0, .int .u8 0, .int .u8 0, .int .u8 0, .int .u8 0, .int .u8 0, .int .u8 0, .int .u8 0, .int .u8 0, .int .u8 0, .int .u8 0, .int .u8 0, .int .u8 0, .int .u8 0, .int .u8 0] 23) (by rfl); have E9 := hid (hz9.trans HS.out.2.symm)) | (refine wpList_load_at rfl _ _ rfl rfl r4 aRL ?_; rw [← HAR.out]) | (refine wpList_store_blk rfl _ _ _ rfl rfl rfl hZ9 aR E9.out allR.out ?_; intro w6 h6 k6; have k46 := k6.fresh; have bL6 := bL4.kept k46 (fun h => h)) | (refine wpList_load_blk rfl _ _ rfl rfl bL6 aL ?_) | fail)
  refine (HB.out w6).mono ?_
  rintro e w7 ⟨rfl, k7⟩
  have k27 := (k24.trans k46).trans k7
  have hB7 := (h4.kept k46 (fun h => h)).kept k7 (fun h => h)
  have hR7 := h6.kept k7 (fun h => h)
  have hgl := hid (And.intro h4.lt (And.intro k24.size (And.intro k46.size k7.size)))
  have E := hz
  clear k4 k24 c4 r4 bL4 k6 k46 bL6 h4 h6 k7 c2 r2 bL2 hZ8 hZ9 hz9 E8 E9 hz
  have E1 := hid (HS.out.1.trans HS.out.2.symm)
  have E2 := hid (HS.out.2.trans HS.out.1.symm)
  have hne : w2.heap.size ≠ w4.heap.size := by have := hgl.out.1; omega
  have HNE := hid (And.intro hne hne.symm)
  clear hne
  go_wp2_with (first | (refine wpList_load_blk rfl _ _ rfl rfl hR7 aR ?_) | (refine wpList_load_blk rfl _ _ rfl rfl hB7 aB ?_) | (refine wpList_store_blk rfl _ _ _ rfl rfl rfl hB7 aR E1.out allR.out ?_; intro w8 h8 k8; have hR8 := hR7.kept k8 (fun h => HNE.out.2 h)) | (refine wpList_store_blk rfl _ _ _ rfl rfl rfl hR8 aB E2.out allB.out ?_; intro w9 h9 k9; have h10 := h8.kept k9 (fun h => HNE.out.1 h)) | fail)
  have k29 : Kept None w2 w9 := (k27.then k8 (fun i hi h => by have h : i = w2.heap.size := h; omega)).then k9 (fun i hi h => by have h : i = w4.heap.size := h; have := hgl.out; omega)
  have h12 := h9
  clear k27 k8 k9 h8 h9 hR8 hR7 hB7 HNE E1 E2
  have b9 := b2.kept k29
  have hZ9 := hZ2.kept k29 (fun h => h)
  have k09 := k02.trans k29
  have hlo : w1.heap.size ≤ w9.heap.size := Nat.le_trans hle.out.2 k29.size
  have HLO := hid hlo
  have hq : ∀ W, Kept None w9 W → Bs W 0 W.heap.size (.slice (some ⟨w2.heap.size, 0, none⟩) 32 32) R ∧ Bs W 0 W.heap.size (.slice (some ⟨w4.heap.size, 0, none⟩) 32 32) B := fun W hW => by
    have q1 : Blk W w2.heap.size (R.map u8v).toArray 23 := HA.out.2 ▸ (h10.kept hW (fun h => h))
    have q2 : Blk W w4.heap.size (B.map u8v).toArray 23 := HA.out.1 ▸ (h12.kept hW (fun h => h))
    have p1 := q1.bs 0 32 (by have := HL.out; omega) (by decide)
    have p2 := q2.bs 0 32 (by have := HL.out; omega) (by decide)
    rw [List.drop_zero, List.take_of_length_le (by have := HL.out; omega)] at p1 p2
    exact ⟨p1.all, p2.all⟩
  have HQ := hid hq
  have B9 := hid b9
  have aV1 := hid h10
  have aV2 := hid h12
  clear b2 hZ2 k02 k29 hlo hq b9 h10 h12
  have hs : Steady [.val 2 (hashV res), .lists 5 [R, B], .rb 6 w1.heap.size tx [5], .row1 7 w1.heap.size 29 tx [6], .rl 9 w1.heap.size (tx :: ls) [7]] := Steady.val (Steady.lists (Steady.rb (Steady.row1 (Steady.rl (Steady.nil)))))
  refine wp_region_kn_tail 10 w9 _ hs (Kept.refl _ _) (by kernel_rfl) (by kernel_rfl) (by kernel_rfl) ?_
  simp only [List.take_succ_cons, List.take_zero, List.drop_succ_cons, List.drop_zero]
  refine wpPar_pure rfl (by rfl) _ (fun W hW => exec_load_blk _ _ rfl rfl (aV1.out.kept hW (fun h => h)) aR) ?_; simp only [Act.put, List.setIfInBounds_toArray, List.set_cons_zero, List.set_cons_succ]
  refine wpPar_pure rfl (by rfl) _ (fun W hW => exec_load_blk _ _ rfl rfl (aV2.out.kept hW (fun h => h)) aB) ?_; simp only [Act.put, List.setIfInBounds_toArray, List.set_cons_zero, List.set_cons_succ]
  refine wpKn_adds hs rfl (by rfl) (fun W hW hd => ?_) (fun v2 hv => ?_)
  · unfold Gives
    go_simp
    refine gives_call (HN.out W) ?_
    rintro e w3 ⟨rfl, k3⟩
    exact ⟨_, rfl, k3, rfl, trivial⟩
  obtain rfl : v2 = hashV res := hv
  simp only [Act.put, List.setIfInBounds_toArray, List.set_cons_zero, List.set_cons_succ]
  iterate 2 (refine wpPar_pure rfl (by rfl) _ (fun W hW => by
      go_simp
      exact rfl) ?_; simp only [Act.put, List.setIfInBounds_toArray, List.set_cons_zero, List.set_cons_succ])
  refine wpKn_adds hs rfl (by rfl) (fun W hW hd => ?_) (fun v5 hv => ?_)
  · unfold Gives
    go_simp
    exact ⟨(Kept.refl None W).alloc _, ⟨_, _, rfl⟩, _, _, _, _, Bss.new W #[.slice (some ⟨w2.heap.size, 0, none⟩) 32 32, .slice (some ⟨w4.heap.size, 0, none⟩) 32 32] 29 [R, B] 2 rfl (by decide) ⟨(HQ.out W hW).1, (HQ.out W hW).2, trivial⟩⟩
  obtain ⟨a5, c5, rfl⟩ : ∃ a c, v5 = .slice a 2 c := hv
  simp only [Act.put, List.setIfInBounds_toArray, List.set_cons_zero, List.set_cons_succ]
  refine wpKn_adds hs rfl (by rfl) (fun W hW hd => ?_) (fun v6 hv => ?_)
  · unfold Gives
    obtain ⟨lo1, hi1, lo2, hi2, h1⟩ : ∃ lo hi lo' hi', Bss W lo hi lo' hi' (.slice a5 2 c5) [R, B] := hd 5 (List.Mem.head _)
    go_simp
    refine gives_call (HT.out _ _ _ _ _ _ h1) ?_
    rintro e w3 ⟨u, rfl, k3, b3⟩
    obtain ⟨a3, c3, rfl⟩ := b3.form
    exact ⟨_, rfl, k3, ⟨_, _, rfl⟩, b3.rb.mono (Nat.le_trans HLO.out hW.size)⟩
  obtain ⟨a6, c6, rfl⟩ : ∃ a c, v6 = .slice a tx.length c := hv
  simp only [Act.put, List.setIfInBounds_toArray, List.set_cons_zero, List.set_cons_succ]
  refine wpKn_adds hs rfl (by rfl) (fun W hW hd => ?_) (fun v7 hv => ?_)
  · unfold Gives
    have hb6 : Rb w1.heap.size W (.slice a6 tx.length c6) tx := hd 6 (List.Mem.head _)
    go_simp
    exact ⟨(Kept.refl None W).alloc _, ⟨_, rfl⟩, _, _, rfl, Nat.le_trans HLO.out hW.size, Blk.new W _ _, hb6.kept ((Kept.refl None W).alloc _)⟩
  obtain ⟨g7, rfl⟩ : ∃ g, v7 = .slice (some ⟨g, 0, none⟩) 1 1 := hv
  simp only [Act.put, List.setIfInBounds_toArray, List.set_cons_zero, List.set_cons_succ]
  iterate 1 (refine wpPar_pure rfl (by rfl) _ (fun W hW => by
      go_simp
      exact rfl) ?_; simp only [Act.put, List.setIfInBounds_toArray, List.set_cons_zero, List.set_cons_succ])
  refine wpKn_adds hs rfl (by rfl) (fun W hW hd => ?_) (fun v9 hv => ?_)
  · skip
    obtain ⟨g, y7, hgg, hg7, hB7, hy7⟩ : ∃ g y, Value.slice (some ⟨g7, 0, none⟩) 1 1 = .slice (some ⟨g, 0, none⟩) 1 1 ∧ w1.heap.size ≤ g ∧ Blk W g #[y] 29 ∧ Rb w1.heap.size W y tx := hd 7 (List.Mem.head _)
    obtain rfl : g7 = g := by simpa using hgg
    refine gives_append_rl (.tmp 52) (.tmp 53) 52 rfl rtLists (by decide) hg7 rfl rfl hB7 hy7 (B9.out.kept hW) (by have := HL.out; omega) (fun a' c' w' hr hk => ⟨hk, ⟨_, _, rfl⟩, hr⟩)
  obtain ⟨a9, c9, rfl⟩ : ∃ a c, v9 = .slice a (tx :: ls).length c := hv
  simp only [Act.put, List.setIfInBounds_toArray, List.set_cons_zero, List.set_cons_succ]
  refine wpPar_nil (fun W hW hG => ?_)
  have hb : Rl w1.heap.size W (.slice a9 (tx :: ls).length c9) (tx :: ls) := hG 9
  have k0W := k09.trans hW
  have hZW := hZ9.kept hW (fun h => h)
  clear hG hs hW k09 hZ9 HQ B9 aV1 aV2 HN HT
  have aH' := aH32 H32.out
  have EE := hid (E.trans (show 32 = (res.map u8v).toArray.size by simpa using H32.out.symm))
  clear E
  go_wp2_with (first | (refine wpList_store_blk rfl _ _ _ rfl rfl rfl hZW aH' EE.out (u8v_all _) ?_; intro wz hRz kz) | fail)
  exact bodyPost_ret (v := .tuple #[hashV res, .slice a9 (tx :: ls).length c9]) (res_cell_tmp rfl _ rfl rfl hRz aH') rfl ⟨_, rfl, k0W.then kz (fun i hi (h : i = w.heap.size + 1 + 1) => by omega), (hb.keptS kz (fun k h1 h => by have := hlt.out; have : k = w.heap.size + 1 + 1 := h; omega)).mono hle.out.1⟩

end Pr
end Go.Proofs.Ytidegffdhpdhjaa
