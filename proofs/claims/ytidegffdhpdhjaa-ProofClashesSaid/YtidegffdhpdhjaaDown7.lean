/- Package proof, rootFrom and down: by contract. -/
import Derived.Test.YtidegffdhpdhjaaCheck7
namespace Go.Pm
open Go Go.RowKit
theorem wpList_append_rh {P : Program} {ops : Array Oper} {rest : List Oper} {o : Oper} {a : Act} {w : World} {Q : Exit → Act → World → Prop} (hgd : o.guard = none) (s x : Operand) (t : TypeId)
    (ho : o.op = .call { callee := .builtin .append, args := #[s, x], argTypes := #[t, t] }) {e : TypeId} {z : Value} {bytes : Nat} (hT : RowTyK P t e z 32 bytes) (hb : bytes ≤ 128)
    {lo g : Nat} (hg : lo ≤ g) (hs : a.eval s = .slice (some ⟨g, 0, none⟩) 1 1) {u : Value} (hx : a.eval x = u) {q : List UInt8} {e' : TypeId} (hv : Blk w g (q.map u8v).toArray e') (h32 : q.length = 32) {lo' : Nat} {ls : List (List UInt8)} (hu : Rh lo' w u ls) (hl : ls.length ≤ 1000000)
    (h : ∀ a' c' w', Rh lo w' (.slice a' (q :: ls).length c') (q :: ls) → Kept None w w' → wpList P ops Q rest (a.put o.dst (.slice a' (q :: ls).length c')) w') : wpList P ops Q (o :: rest) a w := by
  obtain ⟨a', c', w', hr, r2, r3⟩ := run_append_rh (ty := o.type) hT hb hg hv h32 hu hl
  exact wpList_append_run hgd s x t ho hs hx hr (h a' c' w' r2 r3)
theorem rootOf_few {l : List It} (f j : Nat) (h : l.length < 2) : rootOf l = rootI f l j := by
  match l, h with
  | [], _ => cases f <;> rfl
  | [x], _ => cases f <;> rfl
end Go.Pm
namespace Go.Proofs.Ytidegffdhpdhjaa
open Go.RowKit Go.Pm
namespace Pr
set_option maxRecDepth 100000 in
set_option maxHeartbeats 1000000 in
theorem rootFrom_few (l : List It) (j : Nat) (v : Value) (lo hi : Nat) (w : World) (hv : Its w lo hi v l) (h2 : l.length < 2) : Calls Try.prog 128 #[v, .int .i64 j] w fun e w' => e = .returned (hashV (rootOf l)) ∧ Kept None w w' := by
  obtain ⟨a, cap, rfl, g1, g2, g3⟩ := hv.form
  have g2' : cap ≤ 9223372036854775807 := g2
  have h2z : (l.length : Int) < 2 := by omega
  have h32 : (rootOf l).length = 32 := by
    match l, h2 with
    | [], _ => exact sumB_len _
    | [x], _ => exact sumB_len _
  have hR := fun w h => Tr.root (.slice a l.length cap) lo hi l w h (by omega)
  obtain ⟨res, hres⟩ : ∃ res, res = rootOf l := ⟨_, rfl⟩
  rw [← hres] at h32 hR ⊢
  have k0 : Kept None w (w.alloc (.cells #[.int .u8 0, .int .u8 0, .int .u8 0, .int .u8 0, .int .u8 0, .int .u8 0, .int .u8 0, .int .u8 0, .int .u8 0, .int .u8 0, .int .u8 0, .int .u8 0, .int .u8 0, .int .u8 0, .int .u8 0, .int .u8 0, .int .u8 0, .int .u8 0, .int .u8 0, .int .u8 0, .int .u8 0, .int .u8 0, .int .u8 0, .int .u8 0, .int .u8 0, .int .u8 0, .int .u8 0, .int .u8 0, .int .u8 0, .int .u8 0, .int .u8 0, .int .u8 0] 23)) := (Kept.refl _ _).alloc _
  obtain ⟨z, hz, hZ⟩ := Blk.any (n := 32) (Blk.new w #[.int .u8 0, .int .u8 0, .int .u8 0, .int .u8 0, .int .u8 0, .int .u8 0, .int .u8 0, .int .u8 0, .int .u8 0, .int .u8 0, .int .u8 0, .int .u8 0, .int .u8 0, .int .u8 0, .int .u8 0, .int .u8 0, .int .u8 0, .int .u8 0, .int .u8 0, .int .u8 0, .int .u8 0, .int .u8 0, .int .u8 0, .int .u8 0, .int .u8 0, .int .u8 0, .int .u8 0, .int .u8 0, .int .u8 0, .int .u8 0, .int .u8 0, .int .u8 0] 23) (by rfl)
  have hV := hv.kept k0 (fun _ _ _ h => h)
  have HR := hid hR
  have H32 := hid h32
  clear hres g3 hv hR h32
  go_enter Try.func128, Try.ntmps128
  go_wp2_with fail
  refine (HR.out _ hV).mono ?_
  rintro e w4 ⟨rfl, k4⟩
  have k04 := k0.trans k4
  have hZ4 := hZ.kept k4 (fun h => h)
  clear k0 k4 hZ hV
  have aH' := aH32 H32.out
  have E := hid (hz.trans (show 32 = (res.map u8v).toArray.size by simpa using H32.out.symm))
  clear hz
  go_wp2_with (first | (refine wpList_store_blk rfl _ _ _ rfl rfl rfl hZ4 aH' E.out (u8v_all' _) ?_; intro w9 hR9 k9) | fail)
  exact bodyPost_ret (v := hashV res) (results_blk rfl _ rfl hR9 aH') rfl ⟨rfl, k04.then k9 (fun i hi (h : i = w.heap.size) => by omega)⟩

set_option maxRecDepth 100000 in
set_option maxHeartbeats 1000000 in
theorem rootFrom_more (l : List It) (A B : List UInt8) (j : Nat) (v : Value) (lo hi : Nat) (w : World) (hv : Its w lo hi v l) (h2 : 2 ≤ l.length) (hl : l.length ≤ 549755813888) (hj : j < 256) (hA32 : A.length = 32) (hB32 : B.length = 32)
    (hmono : ∀ a b (hab : a ≤ b) (hb : b < l.length), bitI (l[a]'(by omega)).i j = 1 → bitI l[b].i j = 1)
    (ihA : ∀ v lo hi w, Its w lo hi v (half l j 0) → Calls Try.prog 128 #[v, .int .i64 ((j : Int) + 1)] w fun e w' => e = .returned (hashV A) ∧ Kept None w w')
    (ihB : ∀ v lo hi w, Its w lo hi v (half l j 1) → Calls Try.prog 128 #[v, .int .i64 ((j : Int) + 1)] w fun e w' => e = .returned (hashV B) ∧ Kept None w w') :
    Calls Try.prog 128 #[v, .int .i64 j] w fun e w' => e = .returned (hashV (nodeH A B)) ∧ Kept None w w' := by
  obtain ⟨a, cap, rfl, g1, g2, g3⟩ := hv.form
  have g2' : cap ≤ 9223372036854775807 := g2
  have h2z : ¬ (l.length : Int) < 2 := by omega
  have hS := fun w h => split l j (.slice a l.length cap) lo hi w h hl hj hmono
  have hN := fun w => Tr.node A B w hA32 hB32
  have h32 : (nodeH A B).length = 32 := sumB_len _
  obtain ⟨res, hres⟩ : ∃ res, res = nodeH A B := ⟨_, rfl⟩
  rw [← hres] at h32 hN ⊢
  obtain ⟨VA, hVA⟩ : ∃ VA, VA = hashV A := ⟨_, rfl⟩
  obtain ⟨VB, hVB⟩ : ∃ VB, VB = hashV B := ⟨_, rfl⟩
  rw [← hVA, ← hVB] at hN
  rw [← hVA] at ihA
  rw [← hVB] at ihB
  have rj : IntKind.i64.wrap ((j : Int) + 1) = (j : Int) + 1 := by rw [IntKind.wrap_i64]; omega
  have k0 : Kept None w (w.alloc (.cells #[.int .u8 0, .int .u8 0, .int .u8 0, .int .u8 0, .int .u8 0, .int .u8 0, .int .u8 0, .int .u8 0, .int .u8 0, .int .u8 0, .int .u8 0, .int .u8 0, .int .u8 0, .int .u8 0, .int .u8 0, .int .u8 0, .int .u8 0, .int .u8 0, .int .u8 0, .int .u8 0, .int .u8 0, .int .u8 0, .int .u8 0, .int .u8 0, .int .u8 0, .int .u8 0, .int .u8 0, .int .u8 0, .int .u8 0, .int .u8 0, .int .u8 0, .int .u8 0] 23)) := (Kept.refl _ _).alloc _
  obtain ⟨z, hz, hZ⟩ := Blk.any (n := 32) (Blk.new w #[.int .u8 0, .int .u8 0, .int .u8 0, .int .u8 0, .int .u8 0, .int .u8 0, .int .u8 0, .int .u8 0, .int .u8 0, .int .u8 0, .int .u8 0, .int .u8 0, .int .u8 0, .int .u8 0, .int .u8 0, .int .u8 0, .int .u8 0, .int .u8 0, .int .u8 0, .int .u8 0, .int .u8 0, .int .u8 0, .int .u8 0, .int .u8 0, .int .u8 0, .int .u8 0, .int .u8 0, .int .u8 0, .int .u8 0, .int .u8 0, .int .u8 0, .int .u8 0] 23) (by rfl)
  have hV := hv.kept k0 (fun _ _ _ h => h)
  have HS := hid hS
  have HN := hid hN
  have IA := hid ihA
  have IB := hid ihB
  have H32 := hid h32
  clear hres g3 hv hS hN ihA ihB hVA hVB h32 hmono
  go_enter Try.func128, Try.ntmps128
  go_wp2_with fail
  refine (HS.out _ hV).mono ?_
  rintro e w2 ⟨va, vb, rfl, i1, i2, k2⟩
  have k02 := k0.trans k2
  have hZ2 := hZ.kept k2 (fun h => h)
  clear k0 k2 hZ hV
  go_wp2_with fail
  refine (IA.out _ _ _ _ i1).mono ?_
  rintro e w3 ⟨rfl, k3⟩
  have k03 := k02.trans k3
  have hZ3 := hZ2.kept k3 (fun h => h)
  have i3 := i2.kept k3 (fun _ _ _ h => h)
  clear k02 k3 hZ2 i1 i2
  go_wp2_with fail
  refine (IB.out _ _ _ _ i3).mono ?_
  rintro e w4 ⟨rfl, k4⟩
  have k04 := k03.trans k4
  have hZ4 := hZ3.kept k4 (fun h => h)
  clear k03 k4 hZ3 i3
  go_wp2_with fail
  refine (HN.out _).mono ?_
  rintro e w5 ⟨rfl, k5⟩
  have k05 := k04.trans k5
  have hZ5 := hZ4.kept k5 (fun h => h)
  clear k04 k5 hZ4
  have aH' := aH32 H32.out
  have E := hid (hz.trans (show 32 = (res.map u8v).toArray.size by simpa using H32.out.symm))
  clear hz
  go_wp2_with (first | (refine wpList_store_blk rfl _ _ _ rfl rfl rfl hZ5 aH' E.out (u8v_all' _) ?_; intro w9 hR9 k9) | fail)
  exact bodyPost_ret (v := hashV res) (results_blk rfl _ rfl hR9 aH') rfl ⟨rfl, k05.then k9 (fun i hi (h : i = w.heap.size) => by omega)⟩
/-- rootFrom. -/
theorem rootFrom : ∀ (f : Nat) (l : List It) (j : Nat) (v : Value) (lo hi : Nat) (w : World), Its w lo hi v l → Srt l → Agree l j → 256 ≤ f + j → j ≤ 256 → l.length ≤ 549755813888 →
    Calls Try.prog 128 #[v, .int .i64 j] w fun e w' => e = .returned (hashV (rootI f l j)) ∧ Kept None w w' := by
  intro f
  induction f with
  | zero =>
    intro l j v lo hi w hv hs ha hf hj hl
    have h2 : l.length < 2 := downI_few_left 0 l [] j hs hv.1 ha hf
    rw [← rootOf_few 0 j h2]
    exact rootFrom_few l j v lo hi w hv h2
  | succ f ih =>
    intro l j v lo hi w hv hs ha hf hj hl
    by_cases h2 : l.length < 2
    · rw [← rootOf_few (f + 1) j h2]
      exact rootFrom_few l j v lo hi w hv h2
    have h2' : 2 ≤ l.length := by omega
    have hj' := agree_lt hs hv.1 ha h2'
    rw [rootI_of f j h2']
    have side : ∀ b, (half l j b).length ≤ 549755813888 := fun b => Nat.le_trans (half_len' l j b) hl
    have len : ∀ b, (rootI f (half l j b) (j + 1)).length = 32 := fun b => rootI_len' f _ _ (srt_half hs j b) (len_half hv.1 j b) (agree_half ha b) (by omega)
    refine rootFrom_more l _ _ j v lo hi w hv h2' hl hj' (len 0) (len 1) (fun a b hab hb h => bits_mono hs hv.1 hj' ha hab hb h) (fun v lo hi w h => ?_) (fun v lo hi w h => ?_)
    · exact ih _ (j + 1) v lo hi w h (srt_half hs j 0) (agree_half ha 0) (by omega) (by omega) (side 0)
    · exact ih _ (j + 1) v lo hi w h (srt_half hs j 1) (agree_half ha 1) (by omega) (by omega) (side 1)

set_option maxRecDepth 100000 in
set_option maxHeartbeats 1000000 in
theorem down_few (l : List It) (i : List UInt8) (j : Nat) (v : Value) (lo hi : Nat) (w : World) (hv : Its w lo hi v l) (h2 : l.length < 2) : Calls Try.prog 102 #[v, hashV i, .int .i64 j] w fun e w' => ∃ u r, e = .returned (.tuple #[u, r]) ∧ Kept None w w' ∧ Rh w.heap.size w' u [] ∧ Its w' lo hi r l := by
  obtain ⟨a, cap, rfl, g1, g2, g3⟩ := hv.form
  have g2' : cap ≤ 9223372036854775807 := g2
  have h2z : (l.length : Int) < 2 := by omega
  have k0 : Kept None w (w.alloc (.cells (i.map u8v).toArray 23)) := (Kept.refl _ _).alloc _
  have hV := hid (hv.kept k0 (fun _ _ _ h => h))
  clear g3 hv
  go_enter Try.func102, Try.ntmps102
  go_wp2
  go_ret2
  exact ⟨_, _, rfl, k0, Rh.nil _ _, hV.out⟩

set_option maxRecDepth 100000 in
set_option maxHeartbeats 1000000 in
theorem down_more0 (l : List It) (i H : List UInt8) (ps : List (List UInt8)) (rs : List It) (j : Nat) (v : Value) (lo hi : Nat) (w : World) (hi32 : i.length = 32) (hv : Its w lo hi v l) (h2 : 2 ≤ l.length) (hl : l.length ≤ 549755813888) (hj : j < 256) (hH : H.length = 32) (hps : ps.length ≤ 1000)
    (hmono : ∀ a b (hab : a ≤ b) (hb : b < l.length), bitI (l[a]'(by omega)).i j = 1 → bitI l[b].i j = 1) (hb : bitI i j = 0)
    (ih : ∀ v w, Its w lo hi v (half l j 0) → Calls Try.prog 102 #[v, hashV i, .int .i64 ((j : Int) + 1)] w fun e w' => ∃ u r, e = .returned (.tuple #[u, r]) ∧ Kept None w w' ∧ Rh w.heap.size w' u ps ∧ Its w' lo hi r rs)
    (ihF : ∀ v w, Its w lo hi v (half l j 1) → Calls Try.prog 128 #[v, .int .i64 ((j : Int) + 1)] w fun e w' => e = .returned (hashV H) ∧ Kept None w w') :
    Calls Try.prog 102 #[v, hashV i, .int .i64 j] w fun e w' => ∃ u r, e = .returned (.tuple #[u, r]) ∧ Kept None w w' ∧ Rh w.heap.size w' u (H :: ps) ∧ Its w' lo hi r rs := by
  obtain ⟨a, cap, rfl, g1, g2, g3⟩ := hv.form
  have g2' : cap ≤ 9223372036854775807 := g2
  have h2z : ¬ (l.length : Int) < 2 := by omega
  have hS := fun w h => split l j (.slice a l.length cap) lo hi w h hl hj hmono
  have hbit : ∀ W, Calls Try.prog 109 #[.agg (i.map u8v).toArray, .int .i64 j] W fun e w' => e = .returned (.int .i64 (bitI i j : Nat)) ∧ Kept None W w' := fun W => Tr.bit i hi32 j hj W
  rw [hb] at hbit
  have aL := aH32 hi32
  show Calls Try.prog 102 #[.slice a l.length cap, .agg (i.map u8v).toArray, .int .i64 j] w _
  have ih : ∀ v w, Its w lo hi v (half l j 0) → Calls Try.prog 102 #[v, .agg (i.map u8v).toArray, .int .i64 ((j : Int) + 1)] w fun e w' => ∃ u r, e = .returned (.tuple #[u, r]) ∧ Kept None w w' ∧ Rh w.heap.size w' u ps ∧ Its w' lo hi r rs := ih
  obtain ⟨L, hL⟩ : ∃ L : Array Value, L = (i.map u8v).toArray := ⟨_, rfl⟩
  rw [← hL] at hbit aL ih ⊢
  have rj : IntKind.i64.wrap ((j : Int) + 1) = (j : Int) + 1 := by rw [IntKind.wrap_i64]; omega
  have k0 : Kept None w (w.alloc (.cells L 23)) := (Kept.refl _ _).alloc _
  have bL := Blk.new w L 23
  have hV := hv.kept k0 (fun _ _ _ h => h)
  have HS := hid hS
  have HB := hid hbit
  have IH := hid ih
  have IF := hid ihF
  have HH := hid (And.intro hH hps)
  have hA : (H.map u8v).toArray.size = 32 := by simpa using hH
  have HA := hid hA
  clear g3 hv hS hbit ih ihF hL hb hmono hA hH hps hi32
  go_enter Try.func102, Try.ntmps102
  go_wp2_with fail
  refine (HS.out _ hV).mono ?_
  rintro e w2 ⟨va, vb, rfl, i1, i2, k2⟩
  have k02 := k0.trans k2
  have bL2 := bL.kept k2 (fun h => h)
  clear k0 k2 bL hV
  go_wp2_with (first | (refine wpList_load_blk rfl _ _ rfl rfl bL2 aL ?_) | fail)
  refine (HB.out w2).mono ?_
  rintro e w3 ⟨rfl, k3⟩
  have k03 := k02.trans k3
  have bL3 := bL2.kept k3 (fun h => h)
  have i1' := i1.kept k3 (fun _ _ _ h => h)
  have i2' := i2.kept k3 (fun _ _ _ h => h)
  clear k02 k3 bL2 i1 i2
  go_wp2_with (first | (refine wpList_load_blk rfl _ _ rfl rfl bL3 aL ?_) | fail)
  refine (IH.out _ _ i1').mono ?_
  rintro e w4 ⟨u, r, rfl, k4, p4, r4⟩
  have k04 := k03.trans k4
  have iF := i2'.kept k4 (fun _ _ _ h => h)
  have hle := hid k03.size
  obtain ⟨au, cu, rfl⟩ := p4.form
  clear k03 k4 i1' i2' bL3
  go_wp2_with fail
  refine (IF.out _ _ iF).mono ?_
  rintro e w5 ⟨rfl, k5⟩
  have k05 := k04.trans k5
  have p5 := p4.kept k5
  have r5 := r4.kept k5 (fun _ _ _ h => h)
  have hrow := Blk.new w5 (H.map u8v).toArray 23
  have ka : Kept None w5 (w5.alloc (.cells (H.map u8v).toArray 23)) := (Kept.refl _ _).alloc _
  have p6 := p5.kept ka
  have hg : w.heap.size ≤ w5.heap.size := k05.size
  have HG := hid hg
  have kk := hid (k05.trans ka)
  have rr := hid (r5.kept ka (fun _ _ _ h => h))
  clear k04 k5 p4 r4 iF k05 ka r5 p5 hg
  go_wp2_with (first | (refine wpList_one_item rfl _ _ rfl rtHashes (by decide) rfl HA.out ?_) | (at_builtin; refine wpList_append_rh rfl _ _ 59 rfl rtHashes (by decide) HG.out rfl rfl hrow HH.out.1 p6 (by have := HH.out.2; omega) ?_; intro a9 c9 w9 p9 k9) | fail)
  go_ret2
  exact ⟨_, _, rfl, kk.out.trans k9, p9, rr.out.kept k9 (fun _ _ _ h => h)⟩

set_option maxRecDepth 100000 in
set_option maxHeartbeats 1000000 in
theorem down_more1 (l : List It) (i H : List UInt8) (ps : List (List UInt8)) (rs : List It) (j : Nat) (v : Value) (lo hi : Nat) (w : World) (hi32 : i.length = 32) (hv : Its w lo hi v l) (h2 : 2 ≤ l.length) (hl : l.length ≤ 549755813888) (hj : j < 256) (hH : H.length = 32) (hps : ps.length ≤ 1000)
    (hmono : ∀ a b (hab : a ≤ b) (hb : b < l.length), bitI (l[a]'(by omega)).i j = 1 → bitI l[b].i j = 1) (hb : bitI i j = 1)
    (ih : ∀ v w, Its w lo hi v (half l j 1) → Calls Try.prog 102 #[v, hashV i, .int .i64 ((j : Int) + 1)] w fun e w' => ∃ u r, e = .returned (.tuple #[u, r]) ∧ Kept None w w' ∧ Rh w.heap.size w' u ps ∧ Its w' lo hi r rs)
    (ihF : ∀ v w, Its w lo hi v (half l j 0) → Calls Try.prog 128 #[v, .int .i64 ((j : Int) + 1)] w fun e w' => e = .returned (hashV H) ∧ Kept None w w') :
    Calls Try.prog 102 #[v, hashV i, .int .i64 j] w fun e w' => ∃ u r, e = .returned (.tuple #[u, r]) ∧ Kept None w w' ∧ Rh w.heap.size w' u (H :: ps) ∧ Its w' lo hi r rs := by
  obtain ⟨a, cap, rfl, g1, g2, g3⟩ := hv.form
  have g2' : cap ≤ 9223372036854775807 := g2
  have h2z : ¬ (l.length : Int) < 2 := by omega
  have hS := fun w h => split l j (.slice a l.length cap) lo hi w h hl hj hmono
  have hbit : ∀ W, Calls Try.prog 109 #[.agg (i.map u8v).toArray, .int .i64 j] W fun e w' => e = .returned (.int .i64 (bitI i j : Nat)) ∧ Kept None W w' := fun W => Tr.bit i hi32 j hj W
  rw [hb] at hbit
  have aL := aH32 hi32
  show Calls Try.prog 102 #[.slice a l.length cap, .agg (i.map u8v).toArray, .int .i64 j] w _
  have ih : ∀ v w, Its w lo hi v (half l j 1) → Calls Try.prog 102 #[v, .agg (i.map u8v).toArray, .int .i64 ((j : Int) + 1)] w fun e w' => ∃ u r, e = .returned (.tuple #[u, r]) ∧ Kept None w w' ∧ Rh w.heap.size w' u ps ∧ Its w' lo hi r rs := ih
  obtain ⟨L, hL⟩ : ∃ L : Array Value, L = (i.map u8v).toArray := ⟨_, rfl⟩
  rw [← hL] at hbit aL ih ⊢
  have rj : IntKind.i64.wrap ((j : Int) + 1) = (j : Int) + 1 := by rw [IntKind.wrap_i64]; omega
  have k0 : Kept None w (w.alloc (.cells L 23)) := (Kept.refl _ _).alloc _
  have bL := Blk.new w L 23
  have hV := hv.kept k0 (fun _ _ _ h => h)
  have HS := hid hS
  have HB := hid hbit
  have IH := hid ih
  have IF := hid ihF
  have HH := hid (And.intro hH hps)
  have hA : (H.map u8v).toArray.size = 32 := by simpa using hH
  have HA := hid hA
  clear g3 hv hS hbit ih ihF hL hb hmono hA hH hps hi32
  go_enter Try.func102, Try.ntmps102
  go_wp2_with fail
  refine (HS.out _ hV).mono ?_
  rintro e w2 ⟨va, vb, rfl, i1, i2, k2⟩
  have k02 := k0.trans k2
  have bL2 := bL.kept k2 (fun h => h)
  clear k0 k2 bL hV
  go_wp2_with (first | (refine wpList_load_blk rfl _ _ rfl rfl bL2 aL ?_) | fail)
  refine (HB.out w2).mono ?_
  rintro e w3 ⟨rfl, k3⟩
  have k03 := k02.trans k3
  have bL3 := bL2.kept k3 (fun h => h)
  have i1' := i1.kept k3 (fun _ _ _ h => h)
  have i2' := i2.kept k3 (fun _ _ _ h => h)
  clear k02 k3 bL2 i1 i2
  go_wp2_with (first | (refine wpList_load_blk rfl _ _ rfl rfl bL3 aL ?_) | fail)
  refine (IH.out _ _ i2').mono ?_
  rintro e w4 ⟨u, r, rfl, k4, p4, r4⟩
  have k04 := k03.trans k4
  have iF := i1'.kept k4 (fun _ _ _ h => h)
  have hle := hid k03.size
  obtain ⟨au, cu, rfl⟩ := p4.form
  clear k03 k4 i1' i2' bL3
  go_wp2_with fail
  refine (IF.out _ _ iF).mono ?_
  rintro e w5 ⟨rfl, k5⟩
  have k05 := k04.trans k5
  have p5 := p4.kept k5
  have r5 := r4.kept k5 (fun _ _ _ h => h)
  have hrow := Blk.new w5 (H.map u8v).toArray 23
  have ka : Kept None w5 (w5.alloc (.cells (H.map u8v).toArray 23)) := (Kept.refl _ _).alloc _
  have p6 := p5.kept ka
  have hg : w.heap.size ≤ w5.heap.size := k05.size
  have HG := hid hg
  have kk := hid (k05.trans ka)
  have rr := hid (r5.kept ka (fun _ _ _ h => h))
  clear k04 k5 p4 r4 iF k05 ka r5 p5 hg
  go_wp2_with (first | (refine wpList_one_item rfl _ _ rfl rtHashes (by decide) rfl HA.out ?_) | (at_builtin; refine wpList_append_rh rfl _ _ 59 rfl rtHashes (by decide) HG.out rfl rfl hrow HH.out.1 p6 (by have := HH.out.2; omega) ?_; intro a9 c9 w9 p9 k9) | fail)
  go_ret2
  exact ⟨_, _, rfl, kk.out.trans k9, p9, rr.out.kept k9 (fun _ _ _ h => h)⟩

/-- down. -/
theorem down (i : List UInt8) (hi32 : i.length = 32) : ∀ (f : Nat) (l : List It) (j : Nat) (v : Value) (lo hi : Nat) (w : World), Its w lo hi v l → Srt l → Agree l j → 256 ≤ f + j → f ≤ 256 → j ≤ 256 → l.length ≤ 549755813888 →
    Calls Try.prog 102 #[v, hashV i, .int .i64 j] w fun e w' => ∃ u r, e = .returned (.tuple #[u, r]) ∧ Kept None w w' ∧ Rh w.heap.size w' u (downI f l i j).1 ∧ Its w' lo hi r (downI f l i j).2 := by
  intro f
  induction f with
  | zero =>
    intro l j v lo hi w hv hs ha hf hf2 hj hl
    exact down_few l i j v lo hi w hv (downI_few_left 0 l i j hs hv.1 ha hf)
  | succ f ih =>
    intro l j v lo hi w hv hs ha hf hf2 hj hl
    by_cases h2 : l.length < 2
    · rw [downI_few _ _ _ h2]
      exact down_few l i j v lo hi w hv h2
    have h2' : 2 ≤ l.length := by omega
    have hj' := agree_lt hs hv.1 ha h2'
    rw [downI_more f i j h2']
    have side : ∀ b, (half l j b).length ≤ 549755813888 := fun b => Nat.le_trans (half_len' l j b) hl
    have len : ∀ b, (rootI f (half l j b) (j + 1)).length = 32 := fun b => rootI_len' f _ _ (srt_half hs j b) (len_half hv.1 j b) (agree_half ha b) (by omega)
    have hm : ∀ a b (hab : a ≤ b) (hb : b < l.length), bitI (l[a]'(by omega)).i j = 1 → bitI l[b].i j = 1 := fun a b hab hb h => bits_mono hs hv.1 hj' ha hab hb h
    have hps : ∀ b, (downI f (half l j b) i (j + 1)).1.length ≤ 1000 := fun b => Nat.le_trans (downI_len f _ i _) (by omega)
    have hih : ∀ b v w, Its w lo hi v (half l j b) → Calls Try.prog 102 #[v, hashV i, .int .i64 ((j : Int) + 1)] w fun e w' => ∃ u r, e = .returned (.tuple #[u, r]) ∧ Kept None w w' ∧ Rh w.heap.size w' u (downI f (half l j b) i (j + 1)).1 ∧ Its w' lo hi r (downI f (half l j b) i (j + 1)).2 :=
      fun b v w h => ih _ (j + 1) v lo hi w h (srt_half hs j b) (agree_half ha b) (by omega) (by omega) (by omega) (side b)
    have hif : ∀ b v w, Its w lo hi v (half l j b) → Calls Try.prog 128 #[v, .int .i64 ((j : Int) + 1)] w fun e w' => e = .returned (hashV (rootI f (half l j b) (j + 1))) ∧ Kept None w w' :=
      fun b v w h => rootFrom f _ (j + 1) v lo hi w h (srt_half hs j b) (agree_half ha b) (by omega) (by omega) (side b)
    rcases bitI_two i j with hb | hb
    · rw [hb]
      exact down_more0 l i _ _ _ j v lo hi w hi32 hv h2' hl hj' (len 1) (hps 0) hm hb (hih 0) (hif 1)
    · rw [hb]
      exact down_more1 l i _ _ _ j v lo hi w hi32 hv h2' hl hj' (len 0) (hps 1) hm hb (hih 1) (hif 0)
end Pr
end Go.Proofs.Ytidegffdhpdhjaa
