/- postmarkref5.texts: by contract. -/
import Derived.Test.YtdlnikkfpfdbbaaRRight7
import Derived.Deep.DeepCutAuto
namespace Go.Pm
open Go Go.RowKit
/-- It has nothing in block g. -/
def Off (g a b : Nat) : Prop := g < a ∨ b ≤ g
/-- A slice of lists of bytes, in blocks from lo on, that has nothing in block g. -/
def RlX (g lo : Nat) (w : World) (v : Value) (ls : List (List UInt8)) : Prop :=
  ∃ (xs : List Value) (a b : Nat), lo ≤ a ∧ Off g a b ∧ Vs w a b v xs ∧ xs.length = ls.length ∧ ∀ (i : Nat) (x : Value) (l : List UInt8), xs[i]? = some x → ls[i]? = some l → ∃ c d, lo ≤ c ∧ Off g c d ∧ Bs w c d x l
theorem RlX.kept {S : Nat → Prop} {g lo : Nat} {w w' : World} {v : Value} {ls : List (List UInt8)} (h : RlX g lo w v ls) (hk : Kept S w w') (hs : ∀ k, S k → k = g) : RlX g lo w' v ls := by
  obtain ⟨xs, a, b, h1, h2, h3, h4, h5⟩ := h
  refine ⟨xs, a, b, h1, h2, h3.kept hk (fun k q1 q2 q => by have := hs k q; unfold Off at h2; omega), h4, fun i x l e1 e2 => ?_⟩
  obtain ⟨c, d, q1, q2, q3⟩ := h5 i x l e1 e2
  exact ⟨c, d, q1, q2, q3.kept hk (fun k p1 p2 q => by have := hs k q; unfold Off at q2; omega)⟩
theorem RlX.rl {g lo : Nat} {w : World} {v : Value} {ls : List (List UInt8)} (h : RlX g lo w v ls) : Rl lo w v ls := by
  obtain ⟨xs, a, b, h1, h2, h3, h4, h5⟩ := h
  refine Rl.of (h3.wider h1 (Nat.le_refl _)) h4 (fun i x l e1 e2 => ?_)
  obtain ⟨c, d, q1, q2, q3⟩ := h5 i x l e1 e2
  exact ⟨d, Vs.wider q3 q1 (Nat.le_refl _)⟩
theorem RlX.form {g lo : Nat} {w : World} {v : Value} {ls : List (List UInt8)} (h : RlX g lo w v ls) : ∃ a c, v = .slice a ls.length c := h.rl.form
theorem Rl.off {lo : Nat} {w : World} {v : Value} {ls : List (List UInt8)} (h : Rl lo w v ls) : RlX w.heap.size lo w v ls := by
  obtain ⟨hi, xs, hv, hl, hx⟩ := h
  exact ⟨xs, lo, min hi w.heap.size, Nat.le_refl _, .inr (Nat.min_le_right _ _), hv.lt, hl, fun i x l e1 e2 => ⟨lo, w.heap.size, Nat.le_refl _, .inr (Nat.le_refl _), hx i x l e1 e2⟩⟩
theorem Rb.off {lo g : Nat} {w : World} {v : Value} {l : List UInt8} (h : Rb lo w v l) (hg : g < lo) : ∃ c d, lo ≤ c ∧ Off g c d ∧ Bs w c d v l := by
  obtain ⟨hi, h⟩ := h
  exact ⟨lo, hi, Nat.le_refl _, .inl hg, h⟩
theorem run_append_rlx {P : Program} {w : World} {t ty e : TypeId} {z : Value} {bytes : Nat} (hT : RowTyK P t e z 1 bytes) (hb : bytes ≤ 128) {g lo gy : Nat} (hg : g < gy) (hlo : lo ≤ gy) {y : Value} {e' : TypeId} (hv : Blk w gy #[y] e') {l : List UInt8} (hy : ∃ c d, lo ≤ c ∧ Off g c d ∧ Bs w c d y l) {u : Value} {ls : List (List UInt8)} (hu : RlX g lo w u ls) (hl : ls.length ≤ 1000000) :
    ∃ a c w', (Builtin.append_ #[t, t] ty #[.slice (some ⟨gy, 0, none⟩) 1 1, u]).run P w = .ok (.slice a (l :: ls).length c) w' ∧ RlX g lo w' (.slice a (l :: ls).length c) (l :: ls) ∧ Kept None w w' := by
  obtain ⟨xs, a0, b0, h1, h2, h3, h4, h5⟩ := hu
  have hf := h3.fs
  rw [h4] at hf
  obtain ⟨a, c, w', hr, ⟨hi1, q⟩, k⟩ := run_append_full (ty := ty) hT hv (n := 1) rfl (by decide) hf (by omega) hb
  have e1 : (l :: ls).length = 1 + ls.length := by rw [List.length_cons]; omega
  refine ⟨a, c, w', by rw [e1]; exact hr, ?_, k⟩
  rw [e1]
  refine ⟨_, gy, hi1, hlo, .inl hg, q.vs, by simp [h4], fun i x m hxi hmi => ?_⟩
  cases i with
  | zero =>
    simp at hxi hmi
    subst hxi hmi
    obtain ⟨c1, d1, p1, p2, p3⟩ := hy
    exact ⟨c1, d1, p1, p2, p3.kept k (fun _ _ _ h => h)⟩
  | succ i =>
    have h6 : xs[i]? = some x := by simpa using hxi
    have h7 : ls[i]? = some m := by simpa using hmi
    obtain ⟨c1, d1, p1, p2, p3⟩ := h5 i x m h6 h7
    exact ⟨c1, d1, p1, p2, p3.kept k (fun _ _ _ h => h)⟩
theorem wpList_append_rlx {P : Program} {ops : Array Oper} {rest : List Oper} {o : Oper} {a : Act} {w : World} {Q : Exit → Act → World → Prop} (hgd : o.guard = none) (s x : Operand) (t : TypeId)
    (ho : o.op = .call { callee := .builtin .append, args := #[s, x], argTypes := #[t, t] }) {e : TypeId} {z : Value} {bytes : Nat} (hT : RowTyK P t e z 1 bytes) (hb : bytes ≤ 128)
    {g lo gy : Nat} (hg : g < gy) (hlo : lo ≤ gy) (hs : a.eval s = .slice (some ⟨gy, 0, none⟩) 1 1) {u : Value} (hx : a.eval x = u) {y : Value} {e' : TypeId} (hv : Blk w gy #[y] e') {l : List UInt8} (hy : ∃ c d, lo ≤ c ∧ Off g c d ∧ Bs w c d y l) {ls : List (List UInt8)} (hu : RlX g lo w u ls) (hl : ls.length ≤ 1000000)
    (h : ∀ a' c' w', RlX g lo w' (.slice a' (l :: ls).length c') (l :: ls) → Kept None w w' → wpList P ops Q rest (a.put o.dst (.slice a' (l :: ls).length c')) w') : wpList P ops Q (o :: rest) a w := by
  obtain ⟨a', c', w', hr, r2, r3⟩ := run_append_rlx (ty := o.type) hT hb hg hlo hv hy hu hl
  exact wpList_append_run hgd s x t ho hs hx hr (h a' c' w' r2 r3)
end Go.Pm
namespace Go.Proofs.Ytdlnikkfpfdbbaa
open Go.RowKit Go.Pm
namespace RPr
set_option maxRecDepth 100000 in
set_option maxHeartbeats 4000000 in
/-- texts. -/
theorem texts (i : List UInt8) (s : Value) (p : Pf) (w : World) (hi : i.length = 32) (hp : p.Ok) (hs : Rh 0 w s p.path) (hn256 : p.path.length ≤ 256) : Calls Try.prog 64 #[hashV i, pfV s p] w fun e w' => ∃ u, e = .returned u ∧ Kept None w w' ∧ Rl w.heap.size w' u (textsP i p) := by
  obtain ⟨a, c, rfl⟩ := hs.form
  obtain ⟨n, hn⟩ : ∃ n, n = p.path.length := ⟨_, rfl⟩
  rw [show pfV (.slice a p.path.length c) p = .agg (pfC (.slice a n c) p).toArray by rw [hn]]
  rw [← hn] at hs hn256
  obtain ⟨X, hX⟩ : ∃ X, X = (pfC (.slice a n c) p).toArray := ⟨_, rfl⟩
  obtain ⟨L, hL⟩ : ∃ L : Array Value, L = (i.map u8v).toArray := ⟨_, rfl⟩
  have aL := Pr.aH32 hi
  obtain ⟨hx1, hx2⟩ := hp.2
  have hT0 := fun w => Ref.text 122 (.slice none 0 0) 0 0 0 0 [] w (by decide) (by decide) ⟨[], Vs.nil w 0 0, rfl, fun i x l h _ => by simp at h⟩ (by simp) (by simp [total])
  have hT1 := fun v lo hi lo' hi' w hv => Ref.text 108 v lo hi lo' hi' [p.x.i, p.x.v] w (by decide) (by decide) hv (by simp) (by simp [total]; omega)
  have hBit : ∀ (j : Nat) W, j < 256 → Calls Try.prog 59 #[.agg (i.map u8v).toArray, .int .i64 j] W fun e w' => e = .returned (.int .i64 (bitI i j : Nat)) ∧ Kept None W w' := fun j W hj => RTr.bit i hi j hj W
  show Calls Try.prog 64 #[.agg (i.map u8v).toArray, .agg (pfC (.slice a n c) p).toArray] w _
  rw [← hL] at aL hBit
  rw [← hL, ← hX]
  have k0 : Kept None w ((w.alloc (.cells L 25)).alloc (.cells X 48)) := ((Kept.refl _ _).alloc _).alloc _
  have bL : Blk ((w.alloc (.cells L 25)).alloc (.cells X 48)) w.heap.size L 25 := (Blk.new w _ _).alloc _
  have bX : Blk ((w.alloc (.cells L 25)).alloc (.cells X 48)) (w.heap.size + 1) X 48 := Blk.new2 w _ _ _
  have hc0 : X[0]? = some (.slice a n c) := by rw [hX]; rfl
  have hc1 : X[1]? = some (.int .i64 p.e) := by rw [hX]; rfl
  obtain ⟨ft, hft⟩ : ∃ t, t = footB p := ⟨_, rfl⟩
  have HFT := hid hft
  have HX := hid (And.intro hX (And.intro hx1 (And.intro hx2 (And.intro hc0 hc1))))
  have HT0 := hid hT0
  have HT1 := hid hT1
  have HB := hid hBit
  have HP := hid hp
  have HS := hid hs
  have HNN := hid (And.intro hn hn256)
  have BL0 := hid bL
  have BX0 := hid bX
  clear hX hL hx1 hx2 hT0 hT1 hBit hft hs hn hn256 hp hi bL bX hc0
  go_enter Try.func64, Try.ntmps64
  go_wp2_with fail
  refine Calls.nm ?_
  intro w1 e1
  have K1 : Hid (Kept None w w1) := hid (by rw [e1]; exact k0)
  have BL1 : Hid (Blk w1 w.heap.size L 25) := hid (by rw [e1]; exact BL0.out)
  have BX1 : Hid (Blk w1 (w.heap.size + 1) X 48) := hid (by rw [e1]; exact BX0.out)
  clear e1 k0 BL0 BX0
  refine (HT0.out w1).mono ?_
  rintro e w2 ⟨u2, rfl, k2, b2⟩
  obtain ⟨a2, c2, rfl⟩ := b2.form
  have R2 := hid b2.rb
  have K2 := hid k2
  have cE : w2.cell? ⟨w.heap.size + 1, 1, none⟩ = some (.int .i64 p.e) := by rw [(BX1.out.kept k2 (fun h => h)).cell]; exact HX.out.2.2.2.2
  clear hc1 k2 b2
  go_upto_if 13 with fail
  clear cE
  go_cut [5] (fun s5 wx => ∃ (a5 : Option Addr) (c5 : Nat), s5 = .slice a5 ft.length c5 ∧ Hid (Kept None w1 wx) ∧ Hid (Rb w1.heap.size wx (.slice a5 ft.length c5) ft))
  case first =>
    by_cases he : p.e = 1
    · have hz : (p.e == 1) = true := by rw [he]; rfl
      have hz2 : (p.e != 1) = false := by rw [he]; rfl
      have hf : ft = textB 122 [] := by rw [HFT.out]; unfold footB; rw [if_pos he]
      have HF := hid hf
      have HN2 : Hid ((Value.slice a2 (textB 122 []).length c2) = .slice a2 ft.length c2) := hid (by rw [hf])
      clear hf he
      go_wp2_with fail
      go_meet
      exact ⟨a2, c2, HN2.out, K2, hid (by have h := R2.out; rw [HN2.out, ← HF.out] at h; exact h)⟩
    · have hz : (p.e == 1) = false := by simpa using he
      have hz2 : (p.e != 1) = true := by simpa using he
      have hf : ft = textB 108 [p.x.i, p.x.v] := by rw [HFT.out]; unfold footB; rw [if_neg he]
      have HF := hid hf
      rw [← hf] at HT1
      have hq : ∀ W, Kept None w2 W → Bs W 0 W.heap.size (.slice (some ⟨w.heap.size + 1, 2, none⟩) 32 32) p.x.i ∧ Bs W 0 W.heap.size (.slice (some ⟨w.heap.size + 1, 34, none⟩) 32 32) p.x.v := fun W hW => by
        have hb : Blk W (w.heap.size + 1) (pfC (.slice a n c) p).toArray 48 := HX.out.1 ▸ (BX1.out.kept (K2.out.trans hW) (fun h => h))
        exact ⟨(range_bs (pf_ri hb HP.out) HX.out.2.1 (by decide)).all, (range_bs (pf_rv hb HP.out) HX.out.2.2.1 (by decide)).all⟩
      have HQ := hid hq
      have HSZ := hid K2.out.size
      clear hf he hq
      go_wp2_with fail
      have hs : Steady [.lists 6 [p.x.i, p.x.v], .rb 7 w1.heap.size ft [6]] := Go.Pm.Steady.lists (Go.Pm.Steady.rb (Go.Pm.Steady.nil))
      refine wp_region_kn w2 _ hs (Kept.refl _ _) (by kernel_rfl) (by kernel_rfl) (by kernel_rfl) ?_
      iterate 6 (refine wpPar_pure rfl (by rfl) _ (fun W hW => by
          go_simp
          exact rfl) ?_; simp only [Act.put, List.setIfInBounds_toArray, List.set_cons_zero, List.set_cons_succ])
      refine wpKn_adds hs rfl (by rfl) (fun W hW hd => ?_) (fun v6 hv => ?_)
      · unfold Gives
        go_simp
        exact ⟨(Kept.refl None W).alloc _, ⟨_, _, rfl⟩, _, _, _, _, Bss.new W #[.slice (some ⟨w.heap.size + 1, 2, none⟩) 32 32, .slice (some ⟨w.heap.size + 1, 34, none⟩) 32 32] 22 [p.x.i, p.x.v] 2 rfl (by decide) ⟨(HQ.out W hW).1, (HQ.out W hW).2, trivial⟩⟩
      obtain ⟨a6, c6, rfl⟩ : ∃ a c, v6 = .slice a 2 c := hv
      simp only [Act.put, List.setIfInBounds_toArray, List.set_cons_zero, List.set_cons_succ]
      refine wpKn_adds hs rfl (by rfl) (fun W hW hd => ?_) (fun v7 hv => ?_)
      · unfold Gives
        obtain ⟨lo1, hi1, lo2, hi2, h1⟩ : ∃ lo hi lo' hi', Bss W lo hi lo' hi' (.slice a6 2 c6) [p.x.i, p.x.v] := hd 6 (List.Mem.head _)
        go_simp
        refine gives_call (HT1.out _ _ _ _ _ _ h1) ?_
        rintro e w3 ⟨u, rfl, k3, b3⟩
        obtain ⟨a3, c3, rfl⟩ := b3.form
        exact ⟨_, rfl, k3, ⟨_, _, rfl⟩, b3.rb.mono (Nat.le_trans HSZ.out hW.size)⟩
      obtain ⟨a7, c7, rfl⟩ : ∃ a c, v7 = .slice a ft.length c := hv
      simp only [Act.put, List.setIfInBounds_toArray, List.set_cons_zero, List.set_cons_succ]
      iterate 1 (refine wpPar_pure rfl (by rfl) _ (fun W hW => by
          go_simp
          exact rfl) ?_; simp only [Act.put, List.setIfInBounds_toArray, List.set_cons_zero, List.set_cons_succ])
      refine wpPar_nil (fun w6 hW hG => ?_)
      have R7 : Rb w1.heap.size w6 (.slice a7 ft.length c7) ft := hG 7
      have HR7 := hid R7
      have HK6 := hid (K2.out.trans hW)
      clear hG hs hW R7
      go_wp2_with fail
      go_meet
      exact ⟨a7, c7, rfl, HK6, HR7⟩
  case rest =>
    obtain ⟨a5, c5, rfl, K5, R5⟩ := hcut
    clear R2 K2
    have BX5 := hid (BX1.out.kept K5.out (fun h => h))
    have BL5 := hid (BL1.out.kept K5.out (fun h => h))
    have K05 := hid (K1.out.trans K5.out)
    have HSZ1 := hid (And.intro K1.out.size (And.intro K5.out.size BX1.out.lt))
    have hsum := fun w v lo hi h => Ref.sum v lo hi ft w h (by rw [HFT.out]; unfold footB; have := HX.out; split <;> simp [textB, lumpB, leB_length] <;> omega)
    obtain ⟨h0, hh0⟩ : ∃ h, h = sumB ft := ⟨_, rfl⟩
    have h32 : h0.length = 32 := by rw [hh0]; exact sumB_len _
    rw [← hh0] at hsum
    have HSUM := hid hsum
    have HH0 := hid (And.intro hh0 h32)
    have aH0 := Pr.aH32 h32
    have sH0 : (h0.map u8v).toArray.size = 32 := by simpa using h32
    have HSH := hid sH0
    obtain ⟨nf, hnf⟩ : ∃ m, m = ft.length := ⟨_, rfl⟩
    rw [← hnf] at R5 ⊢
    clear hsum hh0 h32 sH0
    have kr : Kept None (wc) (wc.alloc (.cells #[.slice a5 nf c5] 22)) := (Kept.refl _ _).alloc _
    obtain ⟨hi5, b5⟩ := R5.out
    have hone := Rl.one wc (K5.out.size) 22 R5.out
    have HONE := hid hone
    have KR := hid kr
    have B5 := hid (Bs.kept b5 kr (fun _ _ _ h => h))
    clear kr b5 hone hnf
    go_wp2_with fail
    refine (HSUM.out _ _ _ _ B5.out).mono ?_
    rintro e w6 ⟨rfl, k6⟩
    obtain ⟨z6, hz6, hZ6⟩ := Blk.any (n := 32) (Blk.new w6 #[.int .u8 0, .int .u8 0, .int .u8 0, .int .u8 0, .int .u8 0, .int .u8 0, .int .u8 0, .int .u8 0, .int .u8 0, .int .u8 0, .int .u8 0, .int .u8 0, .int .u8 0, .int .u8 0, .int .u8 0, .int .u8 0, .int .u8 0, .int .u8 0, .int .u8 0, .int .u8 0, .int .u8 0, .int .u8 0, .int .u8 0, .int .u8 0, .int .u8 0, .int .u8 0, .int .u8 0, .int .u8 0, .int .u8 0, .int .u8 0, .int .u8 0, .int .u8 0] 25) (by rfl)
    have E6 := hid (hz6.trans HSH.out.symm)
    have K6 := hid (KR.out.trans k6)
    have O6 := hid (((HONE.out.kept k6).mono HSZ1.out.1).off)
    clear k6 hz6 HONE KR B5 HSUM
    have HSL := hid (HS.out.kept (K05.out.trans K6.out))
    have cX6 : ∀ W, Kept None w6 W → W.cell? ⟨w.heap.size + 1, 0, none⟩ = some (.slice a n c) := fun W hW => by
      rw [(BX5.out.kept (K6.out.trans hW) (fun h => h)).cell]
      exact HX.out.2.2.2.1
    have CX6 := hid cX6
    clear cX6
    obtain ⟨nz, hnz⟩ : ∃ z : Int, z = (n : Int) - 1 := ⟨_, rfl⟩
    have rn : IntKind.i64.wrap ((n : Int) - 1) = nz := by rw [IntKind.wrap_i64, hnz]; have := HNN.out; omega
    have HNZ := hid hnz
    clear hnz
    go_wp2_with (first | (refine wpList_store_blk rfl _ _ _ rfl rfl rfl hZ6 aH0 E6.out (u8v_all' _) ?_; intro w7 h7 k7; have k67 := k7.fresh; have cc7 := CX6.out _ k67) | fail)
    clear cc7
    obtain ⟨g7, hg7⟩ : ∃ g, g = w6.heap.size := ⟨_, rfl⟩
    rw [← hg7] at O6 h7 ⊢
    have O7 := hid (O6.out.kept (S := None) k67 (fun _ h => h.elim))
    have KL := hid ((K05.out.trans K6.out).trans k67)
    have BXL := hid (BX5.out.kept (K6.out.trans k67) (fun h => h))
    have BLL := hid (BL5.out.kept (K6.out.trans k67) (fun h => h))
    have H7 := hid h7
    have HG7 : Hid (w.heap.size + 1 < g7 ∧ g7 < w7.heap.size) := hid (by
      have h1 := K6.out.size
      have h2 := HSZ1.out
      have h3 := h7.lt
      constructor
      · rw [hg7]; omega
      · exact h3)
    clear k7 k67 h7 hg7 hZ6 E6 CX6 O6 K6 HSL
    go_loopg [6, 8] (n + 1) (fun kx s6 s8 wr => ∃ (ao : Option Addr) (ln co : Nat) (z : Int) (j : Nat), s6 = .slice ao ln co ∧ s8 = .int .i64 z ∧ j ≤ n ∧ j ≤ kx ∧ Hid (z = (j : Int) - 1) ∧ Hid (Kept (Just g7) w7 wr) ∧ Hid (RlX g7 w.heap.size wr (.slice ao ln co) (climbB i ft (p.path.drop j) j)) ∧ Hid (Blk wr g7 ((climbH i ft (p.path.drop j) j).map u8v).toArray 25))
    case atStart =>
      have hd : p.path.drop n = [] := by rw [HNN.out.1, List.drop_length]
      refine ⟨_, _, _, nz, n, rfl, rfl, Nat.le_refl _, Nat.le_succ _, HNZ, Kept.refl _ _, ?_, ?_⟩
      · rw [hd]; exact O7
      · rw [hd, climbH_nil, ← HH0.out.1]; exact H7
    case round =>
      obtain ⟨ao, ln, co, z, j, rfl, rfl, hj, hjx, HZ, HK, HO, HB7⟩ := hrel
      obtain ⟨wo, rfl⟩ : ∃ wo : World, wo = wr := ⟨_, rfl⟩
      match j, hj, hjx, HZ, HO, HB7 with
      | 0, hj, hjx, HZ, HO, HB7 =>
        have hz : ¬ (0 : Int) ≤ z := by have := HZ.out; omega
        go_wp2
        go_ret
        exact ⟨_, rfl, KL.out.then HK.out (fun q _ h => by have h : q = g7 := h; have := HG7.out; omega), by unfold textsP; rw [← HFT.out]; exact HO.out.rl⟩
      | m + 1, hj, hjx, HZ, HO, HB7 =>
        obtain rfl : z = (m : Int) := by have := HZ.out; omega
        have hz : (0 : Int) ≤ (m : Int) := by omega
        have hmn : (m : Int) < (n : Int) := by omega
        have hml : m < p.path.length := by have := HNN.out.1; omega
        have hm256 : m < 256 := by have := HNN.out.2; omega
        have HKw : Hid (Kept None w wo) := hid (KL.out.then HK.out (fun q _ h => by have h : q = g7 := h; have := HG7.out; omega))
        have hSo := HS.out.kept HKw.out
        obtain ⟨b0, o0, hab, rR⟩ : ∃ b o, a = some ⟨b, o, none⟩ ∧ wo.rangeAt b (o + m * 32) ((p.path[m]'hml).map u8v) := by
          obtain ⟨hi, h⟩ := hSo
          exact h.at hml
        obtain rfl := hab
        have hdr := List.drop_eq_getElem_cons hml
        obtain ⟨R, hR⟩ : ∃ R, R = p.path[m]'hml := ⟨_, rfl⟩
        have lR : R.length = 32 := by rw [hR]; exact HP.out.1 _ (List.getElem_mem hml)
        rw [← hR] at rR hdr
        obtain ⟨hh, hhh⟩ : ∃ x, x = climbH i ft (p.path.drop (m + 1)) (m + 1) := ⟨_, rfl⟩
        have lh : hh.length = 32 := by rw [hhh]; exact climbH_len _ _ _ _
        obtain ⟨LS, hLS⟩ : ∃ x, x = climbB i ft (p.path.drop (m + 1)) (m + 1) := ⟨_, rfl⟩
        have hLl : LS.length ≤ 1000 := by rw [hLS, climbB_len, List.length_drop]; have := HNN.out; omega
        rw [← hLS] at HO
        rw [← hhh] at HB7
        obtain ⟨tx, htx⟩ : ∃ x, x = (if bitI i m = 1 then textB 110 [R, hh] else textB 110 [hh, R]) := ⟨_, rfl⟩
        have hnB : climbB i ft (p.path.drop m) m = tx :: LS := by
          rw [hdr, climbB, htx, hLS, hhh]
          unfold climbH
          split <;> rfl
        have hnH : climbH i ft (p.path.drop m) m = sumB tx := by
          unfold climbH
          rw [hnB]
          rfl
        have hT1 := fun v lo hi lo' hi' w hv => Ref.text 110 v lo hi lo' hi' [hh, R] w (by decide) (by decide) hv (by simp) (by simp [total]; omega)
        have hT2 := fun v lo hi lo' hi' w hv => Ref.text 110 v lo hi lo' hi' [R, hh] w (by decide) (by decide) hv (by simp) (by simp [total]; omega)
        have htl : tx.length ≤ 1000 := by rw [htx]; split <;> simp [textB, lumpB, leB_length] <;> omega
        have hsm := fun w v lo hi h => Ref.sum v lo hi tx w h (by omega)
        obtain ⟨sm, hsme⟩ : ∃ x, x = sumB tx := ⟨_, rfl⟩
        have lsm : sm.length = 32 := by rw [hsme]; exact sumB_len _
        rw [← hsme] at hsm hnH
        have HBW := hid (fun W => HB.out m W hm256)
        have aSM := Pr.aH32 lsm
        have HSM := hid (show (hh.map u8v).toArray.size = (sm.map u8v).toArray.size by simp [lh, lsm])
        have HN2 := hid (And.intro hnB hnH)
        have BLo := hid (BLL.out.kept HK.out (fun h => by have h : w.heap.size = g7 := h; have := HG7.out; omega))
        have BXo := hid (BXL.out.kept HK.out (fun h => by have h : w.heap.size + 1 = g7 := h; have := HG7.out; omega))
        have hcX : ∀ W, Kept None wo W → W.cell? ⟨w.heap.size + 1, 0, none⟩ = some (.slice (some ⟨b0, o0, none⟩) n c) := fun W hW => by
          rw [(BXo.out.kept hW (fun h => h)).cell]
          exact HX.out.2.2.2.1
        have hq : ∀ W, Kept None wo W → Bs W 0 W.heap.size (.slice (some ⟨g7, 0, none⟩) 32 32) hh ∧ Bs W 0 W.heap.size (.slice (some ⟨b0, o0 + m * 32, none⟩) 32 32) R := fun W hW => by
          have q1 := (HB7.out.kept hW (fun h => h)).bs 0 32 (by omega) (by decide)
          rw [List.drop_zero, List.take_of_length_le (by omega)] at q1
          exact ⟨q1.all, (range_bs (rangeAt_kept rR hW) lR (by decide)).all⟩
        have HCX := hid hcX
        have HQ := hid hq
        have HT1' := hid hT1
        have HT2' := hid hT2
        have HSUM := hid hsm
        have HTX := hid (And.intro htx (And.intro htl (And.intro hLl lsm)))
        have HGO := hid (show g7 < wo.heap.size from HB7.out.lt)
        have HWO := hid HKw.out.size
        obtain ⟨z', hz'⟩ : ∃ z : Int, z = (m : Int) - 1 := ⟨_, rfl⟩
        have rz : IntKind.i64.wrap ((m : Int) - 1) = z' := by rw [IntKind.wrap_i64, hz']; omega
        have HZ' := hid hz'
        have hlo := HO.out.form
        obtain ⟨_, _, hln⟩ := hlo
        have hlnn : ln = LS.length := by injection hln
        subst hlnn
        clear hT1 hT2 hsm hq hcX hnB hnH htx htl hLl lsm hsme hLS hhh hR lR lh rR hdr hSo hm256 hml hz' hln
        obtain ⟨t1, ht1⟩ : ∃ x, x = textB 110 [hh, R] := ⟨_, rfl⟩
        rw [← ht1] at HT1'
        obtain ⟨bv, hbv⟩ : ∃ x, x = bitI i m := ⟨_, rfl⟩
        rw [← hbv] at HBW
        have HBV := hid (And.intro hbv ht1)
        clear hbv ht1
        go_wp2_with fail
        have hs : Steady [.lists 6 [hh, R], .rb 7 wo.heap.size t1 [6]] := Go.Pm.Steady.lists (Go.Pm.Steady.rb (Go.Pm.Steady.nil))
        refine wp_region_kn wo _ hs (Kept.refl _ _) (by kernel_rfl) (by kernel_rfl) (by kernel_rfl) ?_
        iterate 6 (refine wpPar_pure rfl (by rfl) _ (fun W hW => by
            have c0 := HCX.out W hW
            go_simp
            exact rfl) ?_; simp only [Act.put, List.setIfInBounds_toArray, List.set_cons_zero, List.set_cons_succ])
        refine wpKn_adds hs rfl (by rfl) (fun W hW hd => ?_) (fun v6 hv => ?_)
        · unfold Gives
          go_simp
          exact ⟨(Kept.refl None W).alloc _, ⟨_, _, rfl⟩, _, _, _, _, Bss.new W #[.slice (some ⟨g7, 0, none⟩) 32 32, .slice (some ⟨b0, o0 + m * 32, none⟩) 32 32] 22 [hh, R] 2 rfl (by decide) ⟨(HQ.out W hW).1, (HQ.out W hW).2, trivial⟩⟩
        obtain ⟨a6, c6, rfl⟩ : ∃ a c, v6 = .slice a 2 c := hv
        simp only [Act.put, List.setIfInBounds_toArray, List.set_cons_zero, List.set_cons_succ]
        refine wpKn_adds hs rfl (by rfl) (fun W hW hd => ?_) (fun v7 hv => ?_)
        · unfold Gives
          obtain ⟨lo1, hi1, lo2, hi2, h1⟩ : ∃ lo hi lo' hi', Bss W lo hi lo' hi' (.slice a6 2 c6) [hh, R] := hd 6 (List.Mem.head _)
          go_simp
          refine gives_call (HT1'.out _ _ _ _ _ _ h1) ?_
          rintro e w3 ⟨u, rfl, k3, b3⟩
          obtain ⟨a3, c3, rfl⟩ := b3.form
          exact ⟨_, rfl, k3, ⟨_, _, rfl⟩, b3.rb.mono (hW.size)⟩
        obtain ⟨a7, c7, rfl⟩ : ∃ a c, v7 = .slice a t1.length c := hv
        simp only [Act.put, List.setIfInBounds_toArray, List.set_cons_zero, List.set_cons_succ]
        iterate 1 (refine wpPar_pure rfl (by rfl) _ (fun W hW => by
            have c0 := HCX.out W hW
            go_simp
            exact rfl) ?_; simp only [Act.put, List.setIfInBounds_toArray, List.set_cons_zero, List.set_cons_succ])
        refine wpPar_nil (fun w3 hW hG => ?_)
        have R7 : Rb wo.heap.size w3 (.slice a7 t1.length c7) t1 := hG 7
        have HR7 := hid R7
        have K3 := hid hW
        have bL3 := BLo.out.kept hW (fun h => h)
        clear hG hs hW R7
        go_wp2_with (first | (refine wpList_load_blk rfl _ _ rfl rfl bL3 aL ?_) | fail)
        refine (HBW.out w3).mono ?_
        rintro e w4 ⟨rfl, k4⟩
        have K4 := hid (K3.out.trans k4)
        have HR4 := hid (HR7.out.kept k4)
        clear k4 bL3 HR7 K3
        by_cases hb : bv = 1
        · have hbz : ((bv : Int) == 1) = true := by rw [hb]; rfl
          have htx : tx = textB 110 [R, hh] := by rw [HTX.out.1, if_pos (by rw [← HBV.out.1]; exact hb)]
          rw [← htx] at HT2'
          have HQ2 : Hid (∀ W, Kept None w4 W → Bs W 0 W.heap.size (.slice (some ⟨b0, o0 + m * 32, none⟩) 32 32) R ∧ Bs W 0 W.heap.size (.slice (some ⟨g7, 0, none⟩) 32 32) hh) := hid (fun W hW => ⟨(HQ.out W (K4.out.trans hW)).2, (HQ.out W (K4.out.trans hW)).1⟩)
          have HCX2 : Hid (∀ W, Kept None w4 W → W.cell? ⟨w.heap.size + 1, 0, none⟩ = some (.slice (some ⟨b0, o0, none⟩) n c)) := hid (fun W hW => HCX.out W (K4.out.trans hW))
          have HS4 := hid K4.out.size
          clear hb htx HQ HCX HR4
          go_wp2_with fail
          have hs : Steady [.lists 6 [R, hh], .rb 7 wo.heap.size tx [6]] := Go.Pm.Steady.lists (Go.Pm.Steady.rb (Go.Pm.Steady.nil))
          refine wp_region_kn w4 _ hs (Kept.refl _ _) (by kernel_rfl) (by kernel_rfl) (by kernel_rfl) ?_
          iterate 6 (refine wpPar_pure rfl (by rfl) _ (fun W hW => by
              have c0 := HCX2.out W hW
              go_simp
              exact rfl) ?_; simp only [Act.put, List.setIfInBounds_toArray, List.set_cons_zero, List.set_cons_succ])
          refine wpKn_adds hs rfl (by rfl) (fun W hW hd => ?_) (fun v6 hv => ?_)
          · unfold Gives
            go_simp
            exact ⟨(Kept.refl None W).alloc _, ⟨_, _, rfl⟩, _, _, _, _, Bss.new W #[.slice (some ⟨b0, o0 + m * 32, none⟩) 32 32, .slice (some ⟨g7, 0, none⟩) 32 32] 22 [R, hh] 2 rfl (by decide) ⟨(HQ2.out W hW).1, (HQ2.out W hW).2, trivial⟩⟩
          obtain ⟨a6, c6, rfl⟩ : ∃ a c, v6 = .slice a 2 c := hv
          simp only [Act.put, List.setIfInBounds_toArray, List.set_cons_zero, List.set_cons_succ]
          refine wpKn_adds hs rfl (by rfl) (fun W hW hd => ?_) (fun v7 hv => ?_)
          · unfold Gives
            obtain ⟨lo1, hi1, lo2, hi2, h1⟩ : ∃ lo hi lo' hi', Bss W lo hi lo' hi' (.slice a6 2 c6) [R, hh] := hd 6 (List.Mem.head _)
            go_simp
            refine gives_call (HT2'.out _ _ _ _ _ _ h1) ?_
            rintro e w3 ⟨u, rfl, k3, b3⟩
            obtain ⟨a3, c3, rfl⟩ := b3.form
            exact ⟨_, rfl, k3, ⟨_, _, rfl⟩, b3.rb.mono (Nat.le_trans HS4.out hW.size)⟩
          obtain ⟨a7, c7, rfl⟩ : ∃ a c, v7 = .slice a tx.length c := hv
          simp only [Act.put, List.setIfInBounds_toArray, List.set_cons_zero, List.set_cons_succ]
          iterate 1 (refine wpPar_pure rfl (by rfl) _ (fun W hW => by
              have c0 := HCX2.out W hW
              go_simp
              exact rfl) ?_; simp only [Act.put, List.setIfInBounds_toArray, List.set_cons_zero, List.set_cons_succ])
          refine wpPar_nil (fun w5 hW hG => ?_)
          have R7 : Rb wo.heap.size w5 (.slice a7 tx.length c7) tx := hG 7
          have RT := hid R7
          have K5 := hid (K4.out.trans hW)
          clear hG hs hW R7
          have KT := hid (K5.out)
          have HO1 := hid ((HO.out.kept KT.out (fun _ h => h.elim)).kept ((Kept.refl None w5).alloc (.cells #[.slice a7 tx.length c7] 22)) (fun _ h => h.elim))
          have RT1 := hid (RT.out.kept ((Kept.refl None w5).alloc (.cells #[.slice a7 tx.length c7] 22)))
          have HY : Hid (∃ c d, w.heap.size ≤ c ∧ Off g7 c d ∧ Bs (w5.alloc (.cells #[.slice a7 tx.length c7] 22)) c d (.slice a7 tx.length c7) tx) := hid (by
            obtain ⟨c1, d1, q1, q2, q3⟩ := RT1.out.off HGO.out
            exact ⟨c1, d1, Nat.le_trans HWO.out q1, q2, q3⟩)
          have BY := hid (Blk.new w5 #[.slice a7 tx.length c7] 22)
          have HSW := hid KT.out.size
          go_wp2_with (first | (at_builtin; refine wpList_append_rlx rfl _ _ 69 rfl Pr.rtLists (by decide) (g := g7) (lo := w.heap.size) (gy := w5.heap.size) (Nat.lt_of_lt_of_le HGO.out HSW.out) (Nat.le_trans HWO.out HSW.out) rfl rfl BY.out HY.out HO1.out (Nat.le_trans HTX.out.2.2.1 (by decide)) ?_; intro a9 c9 w9 p9 k9) | fail)
          have K9 := hid ((KT.out.alloc (.cells #[.slice a7 tx.length c7] 22)).trans k9)
          have P9 := hid p9
          obtain ⟨hiT, bT⟩ := RT1.out.kept k9
          clear p9 k9
          refine (HSUM.out w9 _ _ _ bT).mono ?_
          rintro e w10 ⟨rfl, k10⟩
          have K10 := hid (K9.out.trans k10)
          have P10 := hid (P9.out.kept k10 (fun _ h => h.elim))
          have hB10 := HB7.out.kept K10.out (fun h => h)
          clear k10 bT
          go_wp2_with (first | (refine wpList_store_blk rfl _ _ _ rfl rfl rfl hB10 aSM HSM.out (u8v_all' _) ?_; intro w11 h11 k11) | fail)
          have K11 : Hid (Kept (Just g7) w7 w11) := hid ((HK.out.then K10.out (fun _ _ h => h.elim)).trans k11)
          have P11 : Hid (RlX g7 w.heap.size w11 (.slice a9 (tx :: LS).length c9) (climbB i ft (p.path.drop m) m)) := hid (by rw [HN2.out.1]; exact P10.out.kept k11 (fun _ h => h))
          have H11 : Hid (Blk w11 g7 ((climbH i ft (p.path.drop m) m).map u8v).toArray 25) := hid (by rw [HN2.out.2]; exact h11)
          clear k11 h11 hB10
          go_roundg m
          case measure => omega
          case rel => exact ⟨_, _, _, z', m, rfl, rfl, by omega, Nat.le_refl _, HZ', K11, P11, H11⟩
        · have hbz : ((bv : Int) == 1) = false := by rw [beq_eq_false_iff_ne]; omega
          have htx : t1 = tx := by rw [HTX.out.1, if_neg (by rw [← HBV.out.1]; exact hb), HBV.out.2]
          subst htx
          have RT := HR4
          clear hb HQ HCX
          have KT := hid (K4.out)
          have HO1 := hid ((HO.out.kept KT.out (fun _ h => h.elim)).kept ((Kept.refl None w4).alloc (.cells #[.slice a7 t1.length c7] 22)) (fun _ h => h.elim))
          have RT1 := hid (RT.out.kept ((Kept.refl None w4).alloc (.cells #[.slice a7 t1.length c7] 22)))
          have HY : Hid (∃ c d, w.heap.size ≤ c ∧ Off g7 c d ∧ Bs (w4.alloc (.cells #[.slice a7 t1.length c7] 22)) c d (.slice a7 t1.length c7) t1) := hid (by
            obtain ⟨c1, d1, q1, q2, q3⟩ := RT1.out.off HGO.out
            exact ⟨c1, d1, Nat.le_trans HWO.out q1, q2, q3⟩)
          have BY := hid (Blk.new w4 #[.slice a7 t1.length c7] 22)
          have HSW := hid KT.out.size
          go_wp2_with (first | (at_builtin; refine wpList_append_rlx rfl _ _ 69 rfl Pr.rtLists (by decide) (g := g7) (lo := w.heap.size) (gy := w4.heap.size) (Nat.lt_of_lt_of_le HGO.out HSW.out) (Nat.le_trans HWO.out HSW.out) rfl rfl BY.out HY.out HO1.out (Nat.le_trans HTX.out.2.2.1 (by decide)) ?_; intro a9 c9 w9 p9 k9) | fail)
          have K9 := hid ((KT.out.alloc (.cells #[.slice a7 t1.length c7] 22)).trans k9)
          have P9 := hid p9
          obtain ⟨hiT, bT⟩ := RT1.out.kept k9
          clear p9 k9
          refine (HSUM.out w9 _ _ _ bT).mono ?_
          rintro e w10 ⟨rfl, k10⟩
          have K10 := hid (K9.out.trans k10)
          have P10 := hid (P9.out.kept k10 (fun _ h => h.elim))
          have hB10 := HB7.out.kept K10.out (fun h => h)
          clear k10 bT
          go_wp2_with (first | (refine wpList_store_blk rfl _ _ _ rfl rfl rfl hB10 aSM HSM.out (u8v_all' _) ?_; intro w11 h11 k11) | fail)
          have K11 : Hid (Kept (Just g7) w7 w11) := hid ((HK.out.then K10.out (fun _ _ h => h.elim)).trans k11)
          have P11 : Hid (RlX g7 w.heap.size w11 (.slice a9 (t1 :: LS).length c9) (climbB i ft (p.path.drop m) m)) := hid (by rw [HN2.out.1]; exact P10.out.kept k11 (fun _ h => h))
          have H11 : Hid (Blk w11 g7 ((climbH i ft (p.path.drop m) m).map u8v).toArray 25) := hid (by rw [HN2.out.2]; exact h11)
          clear k11 h11 hB10
          go_roundg m
          case measure => omega
          case rel => exact ⟨_, _, _, z', m, rfl, rfl, by omega, Nat.le_refl _, HZ', K11, P11, H11⟩
end RPr
end Go.Proofs.Ytdlnikkfpfdbbaa
