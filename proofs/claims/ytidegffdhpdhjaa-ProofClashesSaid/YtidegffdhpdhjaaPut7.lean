/- Package proof, Put: by contract. -/
import Derived.Test.YtidegffdhpdhjaaMake7
namespace Go.Pm
open Go Go.RowKit
/-- Where a walk is to stand. -/
def Stop (p : Prop) : Prop := p
theorem Stop.mk {p : Prop} (h : Stop p) : p := h
/-- A proof's bytes. -/
def putP (p : Pf) : List UInt8 := (leB p.path.length :: p.path ++ [leB (U6 p.e), p.x.i, p.x.v]).flatten
theorem Bs.ownLt {w : World} {lo hi : Nat} {y : Value} {l : List UInt8} (h : Bs w lo hi y l) (h0 : 0 < l.length) : ∀ k, y.ownBlock = some k → k < w.heap.size := by
  obtain ⟨a, c, rfl, _⟩ := h.shape
  obtain ⟨b, o, rfl, _, _, h3, _⟩ := h.ne h0
  intro k hk
  obtain rfl : b = k := by simpa [Value.ownBlock] using hk
  exact h3
/-- A new row of one list, of the call's own. -/
theorem Bos.one (w : World) (e : TypeId) {lo hi : Nat} {y : Value} {l : List UInt8} (h : Bs w lo hi y l) : Bos e (w.alloc (.cells #[y] e)) w.heap.size (.slice (some ⟨w.heap.size, 0, none⟩) 1 1) [l] := by
  refine ⟨[y], ⟨rfl, .inr ⟨w.heap.size, 1, #[y], rfl, Nat.le_refl _, heap_alloc_new w _, Nat.le_refl _, by decide, rfl, rfl⟩⟩, fun i x m h1 h2 => ?_⟩
  cases i with
  | zero =>
    simp at h1 h2
    subst h1 h2
    refine ⟨(h.kept ((Kept.refl None w).alloc _) (fun _ _ _ h => h)).all, fun h0 k hk e => ?_⟩
    have := h.ownLt h0 k hk
    simp [Value.ownBlock] at e
    omega
  | succ i => simp at h1
theorem Bos.base {e : TypeId} {w : World} {base base' : Nat} {v : Value} {ls : List (List UInt8)} (h : Bos e w base v ls) (hb : base' ≤ base) : Bos e w base' v ls := by
  obtain ⟨xs, h1, h2⟩ := h
  refine ⟨xs, ⟨h1.1, ?_⟩, h2⟩
  rcases h1.2 with h3 | ⟨g, cap, cur, hv, hg, r⟩
  · exact .inl h3
  · exact .inr ⟨g, cap, cur, hv, Nat.le_trans hb hg, r⟩
theorem Bos.formNe {e : TypeId} {w : World} {base : Nat} {v : Value} {ls : List (List UInt8)} (h : Bos e w base v ls) (h0 : 0 < ls.length) : ∃ g cap, v = .slice (some ⟨g, 0, none⟩) ls.length cap := by
  obtain ⟨xs, h, _⟩ := h
  rcases h.2 with ⟨rfl, h1⟩ | ⟨g, cap, cur, rfl, _⟩
  · omega
  · exact ⟨_, _, rfl⟩
/-- Lists that avoid a block. -/
def Away (q : Nat) (w : World) (v : Value) (ls : List (List UInt8)) : Prop := ∃ lo hi xs, Vs w lo hi v xs ∧ xs.length = ls.length ∧ ∀ (i : Nat) (x : Value) (l : List UInt8), xs[i]? = some x → ls[i]? = some l → Bs w 0 w.heap.size x l ∧ (0 < l.length → ∀ k, x.ownBlock = some k → q ≠ k)
theorem Away.kept {q : Nat} {w w' : World} {v : Value} {ls : List (List UInt8)} (h : Away q w v ls) (hk : Kept None w w') : Away q w' v ls := by
  obtain ⟨lo, hi, xs, h1, h2, h3⟩ := h
  exact ⟨lo, hi, xs, h1.kept hk (fun _ _ _ h => h), h2, fun i x l a b => ⟨((h3 i x l a b).1.kept hk (fun _ _ _ h => h)).all, (h3 i x l a b).2⟩⟩
theorem wpList_append_away {P : Program} {ops : Array Oper} {rest : List Oper} {o : Oper} {a : Act} {w : World} {Q : Exit → Act → World → Prop} (hgd : o.guard = none) (s x : Operand) (t : TypeId)
    (ho : o.op = .call { callee := .builtin .append, args := #[s, x], argTypes := #[t, t] }) {e : TypeId} (hT : RowTy P t e (.slice none 0 0) 24)
    {g n c : Nat} (hs : a.eval s = .slice (some ⟨g, 0, none⟩) n c) {u : Value} (hx : a.eval x = u) {base : Nat} {ls ms : List (List UInt8)} (hown : Bos e w base (.slice (some ⟨g, 0, none⟩) n c) ls) (hu : Away g w u ms)
    (h63 : (ls.length + ms.length) * 24 ≤ 140737488355328) (hbase : base ≤ w.heap.size)
    (h : ∀ a' c' w', Rl 0 w' (.slice a' (ls.length + ms.length) c') (ls ++ ms) → Kept (Just g) w w' → wpList P ops Q rest (a.put o.dst (.slice a' (ls.length + ms.length) c')) w') : wpList P ops Q (o :: rest) a w := by
  obtain ⟨xs, hown, hi⟩ := hown
  obtain ⟨lo, hi2, ys, hy, hl, hel⟩ := hu
  have h1 : ∀ z ∈ ys, z.oneCell' = true := fun z hz => by
    obtain ⟨i, hi, rfl⟩ := List.getElem_of_mem hz
    obtain ⟨a0, c0, e0, _⟩ := (hel i _ _ (List.getElem?_eq_getElem hi) (List.getElem?_eq_getElem (by omega))).1.shape
    rw [e0]; rfl
  obtain ⟨v', w', hr, r2, r3⟩ := run_append_vs (w := w) (ty := o.type) hT hown hy h1 (by rw [hl]; unfold maxLen; omega) (by rw [hl]; exact h63) hbase
  have hxl := hown.1
  have hk : Kept (Just g) w w' := (Kept.ofGrown r3).mono (fun k _ h => by have h : some g = some k := h; exact (Option.some.inj h).symm)
  have hb : Rl 0 w' v' (ls ++ ms) := by
    refine Rl.of (Vs.wider (Vs.ofRow r2 (Nat.le_refl _)) (Nat.zero_le _) (Nat.le_refl _)) (by simp; omega) (fun i x l a b => ?_)
    have read : ∀ (x : Value) (m : List UInt8), Bs w 0 w.heap.size x m → (0 < m.length → ∀ k, x.ownBlock = some k → g ≠ k) → Rb 0 w' x m := fun x m hm hn =>
      ⟨_, (hm.keptOwn hk (fun h0 k hk e => hn h0 k hk e.symm)).wider (Nat.le_refl _) (Nat.le_refl _)⟩
    by_cases hlt : i < ls.length
    · rw [List.getElem?_append_left (by omega)] at a b
      have := hi i x l a b
      exact read x l this.1 (fun h0 k hk e => this.2 h0 k hk (by rw [e]; rfl))
    · rw [List.getElem?_append_right (by omega)] at a b
      rw [show i - xs.length = i - ls.length by omega] at a
      have := hel _ x l a b
      exact read x l this.1 this.2
  obtain ⟨a', c', rfl⟩ := hb.form
  rw [List.length_append] at hb hr
  exact wpList_append_run hgd s x t ho hs hx hr (h a' c' w' hb hk)
abbrev Fct.away (k q : Nat) (ls : List (List UInt8)) (uses : List Nat := []) : Fct := { k := k, uses := uses, pure := fun u => ∃ g, u = .slice (some ⟨g, 0, none⟩) ls.length ls.length, fact := fun u W => Away q W u ls }
theorem Steady.away {l : List Fct} {k q : Nat} {us : List Nat} {ls : List (List UInt8)} (h : Steady l) : Steady (.away k q ls us :: l) := .cons ⟨_, 0, rfl⟩ (fun _ _ _ hk hb => Away.kept hb hk) h
end Go.Pm
namespace Go.Proofs.Ytidegffdhpdhjaa
open Go.RowKit Go.Pm
namespace Pr
set_option maxRecDepth 100000 in
set_option maxHeartbeats 1000000 in
/-- Put. -/
theorem put (s : Value) (p : Pf) (w : World) (hp : p.Ok) (hs : Rh 0 w s p.path) (hlen : p.path.length ≤ 1000000) :
    Calls Try.prog 33 #[pfV s p] w fun e w' => ∃ u, e = .returned u ∧ Kept None w w' ∧ Rb w.heap.size w' u (putP p) := by
  obtain ⟨q0, hv⟩ := hs
  obtain ⟨a, c, rfl, g1, g2, g3⟩ := hv.form
  obtain ⟨n, hn⟩ : ∃ n, n = p.path.length := ⟨_, rfl⟩
  have hv' : Hs w 0 q0 (.slice a n c) p.path := by rw [hn]; exact hv
  rw [← hn] at g1 hlen
  rw [show pfV (.slice a p.path.length c) p = .agg (pfC (.slice a n c) p).toArray by rw [hn]]
  obtain ⟨X, hX⟩ : ∃ X, X = (pfC (.slice a n c) p).toArray := ⟨_, rfl⟩
  rw [← hX]
  have hc0 : X[0]? = some (.slice a n c) := by rw [hX]; rfl
  have hc1 : X[1]? = some (.int .i64 p.e) := by rw [hX]; rfl
  obtain ⟨out, hout⟩ : ∃ o, o = putP p := ⟨_, rfl⟩
  rw [← hout]
  obtain ⟨L0, hL0⟩ : ∃ l, l = leB n := ⟨_, rfl⟩
  obtain ⟨L1, hL1⟩ : ∃ l, l = leB (U6 p.e) := ⟨_, rfl⟩
  have h8 : L0.length = 8 ∧ L1.length = 8 := by rw [hL0, hL1]; exact ⟨leB_length _, leB_length _⟩
  have hN0 := fun w => Bin.num n w (by omega) (by omega)
  have hN1 := fun w => Bin.num (U6 p.e) w (U6_ge _) (U6_lt _)
  have hwr : IntKind.u64.wrap p.e = U6 p.e := by rw [IntKind.wrap_u64]
  obtain ⟨E6, hE6⟩ : ∃ E, E = U6 p.e := ⟨_, rfl⟩
  rw [← hL0] at hN0
  rw [← hL1, ← hE6] at hN1
  rw [← hE6] at hwr
  have hJ : ∀ v w, Rl 0 w v (L0 :: p.path ++ [L1, p.x.i, p.x.v]) → Calls Try.prog 75 #[v] w fun e w' => ∃ v', e = .returned v' ∧ Kept None w w' ∧ Ob w' w.heap.size v' out := fun v w h => by
    obtain ⟨hi, h⟩ := h
    have ht : total (L0 :: p.path ++ [L1, p.x.i, p.x.v]) ≤ 140737488355328 := by
      have hfl : ∀ l : List (List UInt8), H32 l → l.flatten.length = 32 * l.length := fun l => by
        induction l with
        | nil => intro _; rfl
        | cons a l ih => intro h; rw [List.flatten_cons, List.length_append, ih h.tail, h.head, List.length_cons]; omega
      unfold total
      rw [List.flatten_append, List.length_append, List.flatten_cons, List.length_append, hfl _ hp.1, ← hn, h8.1]
      simp [h8.2, hp.2.1, hp.2.2]
      omega
    have := Bin.join v 0 hi 0 _ _ w h ht
    rwa [show (L0 :: p.path ++ [L1, p.x.i, p.x.v]).flatten = out by rw [hout, hL0, hL1, hn]; rfl] at this
  have HP := hid (And.intro hv' (And.intro hp hX))
  have H8 := hid h8
  have HN := hid (And.intro hN0 hN1)
  have HJ := hid hJ
  have hnz : (0 : Int) ≤ (n : Int) := by omega
  have wn : IntKind.u64.wrap (n : Int) = (n : Int) := by rw [IntKind.wrap_u64]; omega
  have HW := hid wn
  have HW2 := hid hwr
  have HNN := hid hn
  have k0 : Kept None w (w.alloc (.cells X 63)) := (Kept.refl _ _).alloc _
  have bX := Blk.new w X 63
  clear hv hv' hX hout hL0 hL1 h8 hN0 hN1 hJ hn g3 hwr hE6
  go_enter Try.func33, Try.ntmps33
  go_wp2_with fail
  refine Calls.nm ?_
  intro w1 e1
  rw [← e1] at k0 bX
  clear e1
  clear hc0 hc1 wn
  refine (HN.out.1 w1).mono ?_
  rintro e w2 ⟨u0, rfl, k2, b2⟩
  have b2' := b2.bs (Nat.le_refl _)
  have hO := Bos.one w2 29 b2'
  have hbase : w1.heap.size ≤ w2.heap.size := k2.size
  obtain ⟨a2, c2, rfl⟩ := b2.form
  have k12 : Kept None w1 (w2.alloc (.cells #[.slice a2 L0.length c2] 29)) := k2.alloc _
  have cX : ∀ W, Kept None w1 W → W.cell? ⟨w.heap.size, 0, none⟩ = some (.slice a n c) ∧ W.cell? ⟨w.heap.size, 1, none⟩ = some (.int .i64 p.e) := fun W hW => by
    have h : Blk W w.heap.size (pfC (.slice a n c) p).toArray 63 := HP.out.2.2 ▸ bX.kept hW (fun h => h)
    exact ⟨pf_c0 h, pf_c1 h⟩
  have HC := hid cX
  have c0 := (cX _ k12).1
  have HO := hid (hO.base hbase)
  have HK := hid k12
  have HK0 := hid k0
  have HBX := hid bX
  clear k0 k2 b2 b2' hO hbase k12 cX bX
  go_wp2
  go_loopg [3, 5, 15] n (fun kx s3 s5 s15 wr => ∃ (k : Nat) (a3 : Option Addr) (n3 c3 : Nat) (v5 : Value), s3 = .slice a3 n3 c3 ∧ s5 = v5 ∧ s15 = .int .i64 k ∧ k ≤ n ∧ n - k ≤ kx ∧ Hid (Bos 29 wr w1.heap.size (.slice a3 n3 c3) (L0 :: p.path.take k)) ∧ Hid (Kept None w1 wr))
  case atStart => exact ⟨0, _, _, _, _, rfl, rfl, rfl, Nat.zero_le _, Nat.le_refl _, HO.out, HK.out⟩
  case round =>
    obtain ⟨k, a3, n3, c3, v5, rfl, rfl, rfl, hk, hkx, HB, HKr⟩ := hrel
    clear HO HK c0
    by_cases hlt : k < n
    · have hz : (k : Int) < (n : Int) := by omega
      have hvr := (HP.out.1.kept HK0.out (fun _ _ _ h => h)).kept HKr.out (fun _ _ _ h => h)
      obtain ⟨b, o, rfl, _, _, _, hr⟩ := hvr.lo (by have := HNN.out; omega)
      have hkp : k < p.path.length := by have := HNN.out; omega
      have hr := hr k hkp
      obtain ⟨R, hRR⟩ : ∃ R, R = p.path[k] := ⟨_, rfl⟩
      have h32 : R.length = 32 := by rw [hRR]; exact HP.out.2.1.1 _ (List.getElem_mem hkp)
      rw [← hRR] at hr
      have htk : p.path.take (k + 1) = p.path.take k ++ [R] := by rw [hRR, List.take_succ_eq_append_getElem hkp]
      have aRL := aH32' h32
      have aRA := aH32 h32
      have HT := hid htk
      have H32 := hid h32
      have hlen := hid (show (p.path.take k).length ≤ k by simp; omega)
      obtain ⟨z8, hz8, hZ8⟩ := Blk.any (n := 32) (Blk.new wr #[.int .u8 0, .int .u8 0, .int .u8 0, .int .u8 0, .int .u8 0, .int .u8 0, .int .u8 0, .int .u8 0, .int .u8 0, .int .u8 0, .int .u8 0, .int .u8 0, .int .u8 0, .int .u8 0, .int .u8 0, .int .u8 0, .int .u8 0, .int .u8 0, .int .u8 0, .int .u8 0, .int .u8 0, .int .u8 0, .int .u8 0, .int .u8 0, .int .u8 0, .int .u8 0, .int .u8 0, .int .u8 0, .int .u8 0, .int .u8 0, .int .u8 0, .int .u8 0] 23) (by rfl)
      have E8 := hid (hz8.trans (show 32 = (R.map u8v).toArray.size by simpa using h32.symm))
      clear hvr hRR hkp htk h32 hz8
      go_wp2_with (first | (refine wpList_load_at rfl _ _ rfl rfl hr aRL ?_) | (refine wpList_store_blk rfl _ _ _ rfl rfl rfl hZ8 aRA E8.out (u8v_all' _) ?_; intro w4 h4 k4; have k24 := k4.fresh; have hB4 := HB.out.kept k24; have hy4 := (h4.bs 0 32 (by have := H32.out; omega) (by decide)).all; rw [List.drop_zero, List.take_of_length_le (by have := H32.out; omega)] at hy4; have k14 := HKr.out.trans k24; have hne : 0 < R.length → ∀ q, (Value.slice (some ⟨wr.heap.size, 0, none⟩) 32 32).ownBlock = some q → (Value.slice a3 n3 c3).ownBlock ≠ some q := (fun _ q hq hq2 => by have h1 : wr.heap.size = q := (by simpa [Value.ownBlock] using hq); have := (HB.out.own q hq2).2; omega)) | (at_builtin; refine Stop.mk ?_) | fail)
      unfold Stop
      refine wpList_append_item rfl (.tmp 19) (.tmp 21) 52 rfl Go.Proofs.Ytidegffdhpdhjaa.rtLists rfl rfl rfl hB4 hy4 hne (by have := hlen.out; simp only [List.length_cons]; omega) k14.size ?_
      intro a5 n5 c5 w5 hN5 k5 f5
      go_wp2
      go_roundg (n - (k + 1))
      case measure => omega
      case rel =>
        refine ⟨k + 1, _, _, _, _, rfl, rfl, by go_num, by omega, Nat.le_refl _, ?_, Kept.own k14 k5 (fun q hq => (HB.out.own q hq).1)⟩
        rw [HT.out]
        exact hid (by simpa using hN5)
    · have hz : ¬ (k : Int) < (n : Int) := by omega
      obtain rfl : k = n := by omega
      have htk : p.path.take k = p.path := List.take_of_length_le (by have := HNN.out; omega)
      have hB := HB.out
      rw [htk] at hB
      obtain ⟨g, cap, hg⟩ := hB.formNe (by simp)
      have HG := hid hg
      obtain ⟨rfl, rfl, rfl⟩ : a3 = some ⟨g, 0, none⟩ ∧ n3 = (L0 :: p.path).length ∧ c3 = cap := by simpa using hg
      have HB2 := hid hB
      clear HB htk hB hg HG
      have hQ := hid (And.intro (HB2.out.own g rfl) (And.intro HBX.out.lt HKr.out.size))
      have HRd := hid (fun W (hW : Kept None wr W) => (show Bs W 0 W.heap.size (.slice (some ⟨w.heap.size, 2, none⟩) 32 32) p.x.i ∧ Bs W 0 W.heap.size (.slice (some ⟨w.heap.size, 34, none⟩) 32 32) p.x.v from by
        have hb : Blk W w.heap.size (pfC (.slice a k c) p).toArray 63 := HP.out.2.2 ▸ (HBX.out.kept HKr.out (fun h => h)).kept hW (fun h => h)
        exact ⟨(range_bs (pf_ri hb HP.out.2.1) HP.out.2.1.2.1 (by decide)).all, (range_bs (pf_rv hb HP.out.2.1) HP.out.2.1.2.2 (by decide)).all⟩))
      have HCC := hid (fun W (hW : Kept None wr W) => (HC.out W (HKr.out.trans hW)).2)
      go_wp2_with fail
      have hs : Steady [.rb 4 wr.heap.size L1, .away 11 g [L1, p.x.i, p.x.v] [4]] := Steady.rb (Steady.away (Steady.nil))
      refine wp_region_kn_tail 12 wr _ hs (Kept.refl _ _) (by kernel_rfl) (by kernel_rfl) (by kernel_rfl) ?_
      simp only [List.take_succ_cons, List.take_zero, List.drop_succ_cons, List.drop_zero]
      iterate 4 (refine wpPar_pure rfl (by rfl) _ (fun W hW => by
          have c1 := HCC.out W hW
          have hw6 := HW2.out
          go_simp
          exact rfl) ?_; simp only [Act.put, List.setIfInBounds_toArray, List.set_cons_zero, List.set_cons_succ])
      refine wpKn_adds hs rfl (by rfl) (fun W hW hd => ?_) (fun v4 hv => ?_)
      · unfold Gives
        go_simp
        refine gives_call (HN.out.2 W) ?_
        rintro e w3 ⟨u, rfl, k3, b3⟩
        obtain ⟨a3, c3, rfl⟩ := b3.form
        exact ⟨_, rfl, k3, ⟨_, _, rfl⟩, b3.rb.mono hW.size⟩
      obtain ⟨a4, c4, rfl⟩ : ∃ a c, v4 = .slice a L1.length c := hv
      simp only [Act.put, List.setIfInBounds_toArray, List.set_cons_zero, List.set_cons_succ]
      iterate 6 (refine wpPar_pure rfl (by rfl) _ (fun W hW => by
          go_simp
          exact rfl) ?_; simp only [Act.put, List.setIfInBounds_toArray, List.set_cons_zero, List.set_cons_succ])
      refine wpKn_adds hs rfl (by rfl) (fun W hW hd => ?_) (fun v11 hv => ?_)
      · unfold Gives
        have hb4 : Rb wr.heap.size W (.slice a4 L1.length c4) L1 := hd 4 (List.Mem.head _)
        obtain ⟨q1, q2⟩ := HRd.out W hW
        go_simp
        refine ⟨(Kept.refl None W).alloc _, ⟨_, rfl⟩, _, _, [.slice a4 L1.length c4, .slice (some ⟨w.heap.size, 2, none⟩) 32 32, .slice (some ⟨w.heap.size, 34, none⟩) 32 32], Vs.new W _ _ 3 (by simp) (by decide), rfl, fun i x l h1 h2 => ?_⟩
        have ka : Kept None W (W.alloc (.cells #[.slice a4 L1.length c4, .slice (some ⟨w.heap.size, 2, none⟩) 32 32, .slice (some ⟨w.heap.size, 34, none⟩) 32 32] 29)) := (Kept.refl None W).alloc _
        have hq := hQ.out
        match i, h1, h2 with
        | 0, h1, h2 =>
          simp at h1 h2
          subst h1 h2
          refine ⟨(hb4.kept ka).all, fun h0 k hk e => ?_⟩
          obtain ⟨hi4, hb⟩ := hb4
          obtain ⟨b, o, rfl, h3, _, _, _⟩ := hb.ne h0
          have : b = k := by simpa [Value.ownBlock] using hk
          omega
        | 1, h1, h2 =>
          simp at h1 h2
          subst h1 h2
          refine ⟨(q1.kept ka (fun _ _ _ h => h)).all, fun h0 k hk e => ?_⟩
          have : w.heap.size = k := by simpa [Value.ownBlock] using hk
          omega
        | 2, h1, h2 =>
          simp at h1 h2
          subst h1 h2
          refine ⟨(q2.kept ka (fun _ _ _ h => h)).all, fun h0 k hk e => ?_⟩
          have : w.heap.size = k := by simpa [Value.ownBlock] using hk
          omega
      obtain ⟨g11, rfl⟩ : ∃ g', v11 = .slice (some ⟨g', 0, none⟩) 3 3 := hv
      simp only [Act.put, List.setIfInBounds_toArray, List.set_cons_zero, List.set_cons_succ]
      refine wpPar_nil (fun W hW hG => ?_)
      have hA : Away g W (.slice (some ⟨g11, 0, none⟩) 3 3) [L1, p.x.i, p.x.v] := hG 11
      have hBW := HB2.out.kept hW
      have k1W := HKr.out.trans hW
      have hbs := k1W.size
      have hgq := hQ.out
      clear hG hs HRd HCC HC
      go_wp2_with (at_builtin; refine wpList_append_away rfl _ _ 52 rfl Go.Proofs.Ytidegffdhpdhjaa.rtLists rfl rfl hBW hA (by have := HNN.out; simp only [List.length_cons, List.length_nil]; omega) hbs ?_; intro a9 c9 w9 hR9 k9)
      refine (HJ.out _ _ hR9).mono ?_
      rintro e w10 ⟨u, rfl, k10, b10⟩
      have kz := (((HK0.out.trans k1W).then k9 (fun i hi h => by have h : i = g := h; have := HBX.out.lt; omega)).trans k10)
      have hlo : w.heap.size ≤ w9.heap.size := Nat.le_trans (HK0.out.trans k1W).size k9.size
      have hb10 := hid (b10.rb.mono hlo)
      have KZ := hid kz
      obtain ⟨au, cu, rfl⟩ := b10.form
      clear kz hlo b10 k10 k9 hR9
      go_wp2
      go_ret
      exact ⟨_, rfl, KZ.out, hb10.out⟩
end Pr
end Go.Proofs.Ytidegffdhpdhjaa
