/- Package promise: fits, counts, Right, Message, Make, Check, Put, by contract. -/
import Derived.Test.YtibkijloibnkfaaPrm11
import Derived.Test.YtibkijloibnkfaaUpRight
namespace Go.Proofs.Ytibkijloibnkfaa
open Go.RowKit Go.Pm
namespace Pp
theorem aPr : AggTy Try.prog 55 7 := Sg.AggTy.of (by kernel_rfl) (by kernel_rfl)
theorem zero_all : (#[.string ⟨#[]⟩, .int .i64 0, .int .u64 0, .int .i64 0, .int .i64 0, .int .u64 0, .int .u64 0] : Array Value).all (·.oneCell') = true := by simp [Value.oneCell']
theorem tick_le (t : Int) (b : Bool) (h : decide (t ≤ 1152921504606846976) = b) : ∀ z, z = t → decide (z ≤ (1152921504606846976 : Int)) = b := by
  rintro z rfl
  exact h

set_option maxRecDepth 100000 in
set_option maxHeartbeats 1000000 in
/-- promise.fits. -/
theorem fits (n : ByteArray) (v : Int) (k : Nat) (w : World) : Calls Try.prog 55 #[entV n v k] w fun e w' => e = .returned (.bool (entR n.size v k)) ∧ Kept None w w' := by
  have hr := fun W => Up.right n v 0 k 0 0 W
  rw [rightB_zero] at hr
  have H := hid hr
  clear hr
  have k0 : Kept None w (w.alloc (.cells #[.string n, .int .i64 v, .int .u64 (k : Int)] 53)) := (Kept.refl _ _).alloc _
  go_enter Try.func55, Try.ntmps55
  go_wp2_with fail
  refine (H.out _).mono ?_
  rintro e w1 ⟨rfl, k1⟩
  have k01 := k0.trans k1
  clear k0 k1
  go_wp2
  go_ret
  exact ⟨rfl, k01⟩

set_option maxRecDepth 100000 in
set_option maxHeartbeats 1000000 in
/-- promise.counts. -/
theorem counts (t : Int) (w : World) : Calls Try.prog 56 #[.int .i64 t] w fun e w' => e = .returned (.bool (tickR t)) ∧ Kept None w w' := by
  by_cases h : t < 0
  · have e : tickR t = false := by
      rw [← Bool.not_eq_true, tickR_iff]
      omega
    rw [e]
    clear e
    go_enter Try.func56, Try.ntmps56
    go_wp2
    go_ret
    exact ⟨rfl, Kept.refl _ _⟩
  · obtain ⟨b, hb⟩ : ∃ b, b = decide (t ≤ 1152921504606846976) := ⟨_, rfl⟩
    have e : tickR t = b := by
      unfold tickR
      rw [← hb, decide_eq_true (by omega : 0 ≤ t), Bool.true_and]
    have h2 := tick_le t b hb.symm
    rw [e]
    clear e hb
    go_enter Try.func56, Try.ntmps56
    go_wp2
    go_ret
    exact ⟨rfl, Kept.refl _ _⟩

set_option maxRecDepth 100000 in
set_option maxHeartbeats 2000000 in
/-- promise.Right. -/
theorem right (n : ByteArray) (v : Int) (k : Nat) (t d : Int) (r s : Nat) (w : World) : Calls Try.prog 44 #[prV n v k t d r s] w fun e w' => e = .returned (.bool (rightPr n.size v k t d)) ∧ Kept None w w' := by
  have hf := fun W => fits n v k W
  have ht := fun W => counts t W
  have hd := fun W => counts d W
  have hq : rightPr n.size v k t d = (entR n.size v k && (tickR t && (tickR d && decide (d = t + 40)))) := by
    rw [Bool.eq_iff_iff, rightPr_iff]
    simp only [Bool.and_eq_true, tickR_iff, decide_eq_true_eq]
    constructor
    · rintro ⟨a, b, c, rfl⟩
      exact ⟨a, ⟨b, by omega⟩, ⟨by omega, by omega⟩, rfl⟩
    · rintro ⟨a, ⟨b, c⟩, ⟨d1, d2⟩, rfl⟩
      exact ⟨a, b, by omega, rfl⟩
  have hw : tickR t = true → IntKind.i64.wrap (t + 40) = t + 40 := fun h => by
    rw [tickR_iff] at h
    rw [IntKind.wrap_i64]
    omega
  obtain ⟨E, hE⟩ : ∃ E, E = entR n.size v k := ⟨_, rfl⟩
  obtain ⟨T, hT⟩ : ∃ T, T = tickR t := ⟨_, rfl⟩
  obtain ⟨D, hD⟩ : ∃ D, D = tickR d := ⟨_, rfl⟩
  rw [← hE] at hf hq
  rw [← hT] at ht hq hw
  rw [← hD] at hd hq
  rw [hq]
  have H := hid (And.intro hf (And.intro ht hd))
  have HW := hid hw
  clear hf ht hd hq hE hT hD hw
  have k0 : Kept None w (w.alloc (.cells #[.string n, .int .i64 v, .int .u64 (k : Int), .int .i64 t, .int .i64 d, .int .u64 (r : Int), .int .u64 (s : Int)] 55)) := (Kept.refl _ _).alloc _
  have b0 : Blk (w.alloc (.cells #[.string n, .int .i64 v, .int .u64 (k : Int), .int .i64 t, .int .i64 d, .int .u64 (r : Int), .int .u64 (s : Int)] 55)) w.heap.size #[.string n, .int .i64 v, .int .u64 (k : Int), .int .i64 t, .int .i64 d, .int .u64 (r : Int), .int .u64 (s : Int)] 55 := Blk.new w _ _
  cases E with
  | false =>
    go_enter Try.func44, Try.ntmps44
    go_wp2_with fail
    refine (H.out.1 _).mono ?_
    rintro e w1 ⟨rfl, kn⟩
    have k1 := k0.trans kn
    go_wp2
    go_ret
    exact ⟨rfl, k1⟩
  | true =>
    cases T with
    | false =>
      go_enter Try.func44, Try.ntmps44
      go_wp2_with fail
      refine (H.out.1 _).mono ?_
      rintro e w1 ⟨rfl, kn⟩
      have k1 := k0.trans kn
      have b1 := b0.kept kn (fun h => h)
      have c3 : w1.cell? ⟨w.heap.size, 3, none⟩ = some (.int .i64 t) := b1.cell 3
      clear kn k0 b0
      go_wp2_with fail
      refine (H.out.2.1 _).mono ?_
      rintro e w2 ⟨rfl, kn⟩
      have k2 := k1.trans kn
      have b2 := b1.kept kn (fun h => h)
      clear kn k1 b1
      go_wp2
      go_ret
      exact ⟨rfl, k2⟩
    | true =>
      have hw := HW.out rfl
      cases D with
      | false =>
        go_enter Try.func44, Try.ntmps44
        go_wp2_with fail
        refine (H.out.1 _).mono ?_
        rintro e w1 ⟨rfl, kn⟩
        have k1 := k0.trans kn
        have b1 := b0.kept kn (fun h => h)
        have c3 : w1.cell? ⟨w.heap.size, 3, none⟩ = some (.int .i64 t) := b1.cell 3
        clear kn k0 b0
        go_wp2_with fail
        refine (H.out.2.1 _).mono ?_
        rintro e w2 ⟨rfl, kn⟩
        have k2 := k1.trans kn
        have b2 := b1.kept kn (fun h => h)
        have c4 : w2.cell? ⟨w.heap.size, 4, none⟩ = some (.int .i64 d) := b2.cell 4
        clear kn k1 b1
        clear c3
        go_wp2_with fail
        refine (H.out.2.2 _).mono ?_
        rintro e w3 ⟨rfl, kn⟩
        have k3 := k2.trans kn
        have b3 := b2.kept kn (fun h => h)
        clear kn k2 b2
        go_wp2
        go_ret
        exact ⟨rfl, k3⟩
      | true =>
        go_enter Try.func44, Try.ntmps44
        go_wp2_with fail
        refine (H.out.1 _).mono ?_
        rintro e w1 ⟨rfl, kn⟩
        have k1 := k0.trans kn
        have b1 := b0.kept kn (fun h => h)
        have c3 : w1.cell? ⟨w.heap.size, 3, none⟩ = some (.int .i64 t) := b1.cell 3
        clear kn k0 b0
        go_wp2_with fail
        refine (H.out.2.1 _).mono ?_
        rintro e w2 ⟨rfl, kn⟩
        have k2 := k1.trans kn
        have b2 := b1.kept kn (fun h => h)
        have c4 : w2.cell? ⟨w.heap.size, 4, none⟩ = some (.int .i64 d) := b2.cell 4
        clear kn k1 b1
        clear c3
        go_wp2_with fail
        refine (H.out.2.2 _).mono ?_
        rintro e w3 ⟨rfl, kn⟩
        have k3 := k2.trans kn
        have b3 := b2.kept kn (fun h => h)
        clear c4 kn k2 b2
        have c3 : w3.cell? ⟨w.heap.size, 3, none⟩ = some (.int .i64 t) := b3.cell 3
        have c4 : w3.cell? ⟨w.heap.size, 4, none⟩ = some (.int .i64 d) := b3.cell 4
        go_wp2
        go_ret
        exact ⟨by simp only [Bool.true_and]; rfl, k3⟩

theorem msg_flat (n : ByteArray) (v : Int) (k : Nat) (t d : Int) : [[80], lumpB (strB n), leB (U6 v), leB (k : Int), leB (U6 t), leB (U6 d)].flatten = msgPr n v k t d := by simp [msgPr, fieldsB]
set_option maxRecDepth 100000 in
set_option maxHeartbeats 4000000 in
/-- promise.Message. -/
theorem message (n : ByteArray) (v : Int) (k : Nat) (t d : Int) (r s : Nat) (w : World) (hn : n.size ≤ 274877906944) (hk : k < 18446744073709551616) : Calls Try.prog 57 #[prV n v k t d r s] w fun e w' => ∃ u, e = .returned u ∧ Kept None w w' ∧ Ob w' w.heap.size u (msgPr n v k t d) := by
  have hsn := strB_len n
  have hwv : IntKind.u64.wrap v = U6 v := by rw [IntKind.wrap_u64]
  have hwt : IntKind.u64.wrap t = U6 t := by rw [IntKind.wrap_u64]
  have hwd : IntKind.u64.wrap d = U6 d := by rw [IntKind.wrap_u64]
  have hf := msg_flat n v k t d
  have nv := And.intro (U6_ge v) (And.intro (U6_lt v) (And.intro (U6_ge t) (And.intro (U6_lt t) (And.intro (U6_ge d) (U6_lt d)))))
  obtain ⟨V, hV⟩ : ∃ V, V = U6 v := ⟨_, rfl⟩
  obtain ⟨T, hT⟩ : ∃ T, T = U6 t := ⟨_, rfl⟩
  obtain ⟨D, hD⟩ : ∃ D, D = U6 d := ⟨_, rfl⟩
  rw [← hV] at hwv hf nv
  rw [← hT] at hwt hf nv
  rw [← hD] at hwd hf nv
  obtain ⟨M, hM⟩ : ∃ M, M = msgPr n v k t d := ⟨_, rfl⟩
  rw [← hM] at hf ⊢
  obtain ⟨L, hL⟩ : ∃ L, L = lumpB (strB n) := ⟨_, rfl⟩
  have hLl : L.length = 8 + n.size := by rw [hL, lumpB_len, hsn]
  have hj : ∀ v lo hi W, Bs W lo hi v (strB n) → Calls Try.prog 83 #[v] W fun en w' => ∃ v', en = .returned v' ∧ Kept None W w' ∧ Ob w' W.heap.size v' L := by
    intro v lo hi W h
    rw [hL]
    exact Bin.lump v lo hi (strB n) W h (by omega)
  rw [← hL] at hf
  have HF := hid hf
  have HJ := hid hj
  have HV := hid (And.intro nv.1 (And.intro nv.2.1 (And.intro nv.2.2.1 (And.intro nv.2.2.2.1 (And.intro nv.2.2.2.2.1 (And.intro nv.2.2.2.2.2 (And.intro hk (And.intro hLl hn))))))))
  clear hf hj nv hk hLl hn hL hM hV hT hD
  have k0 : Kept None w (w.alloc (.cells #[.string n, .int .i64 v, .int .u64 (k : Int), .int .i64 t, .int .i64 d, .int .u64 (r : Int), .int .u64 (s : Int)] 55)) := (Kept.refl _ _).alloc _
  have b0 : Blk (w.alloc (.cells #[.string n, .int .i64 v, .int .u64 (k : Int), .int .i64 t, .int .i64 d, .int .u64 (r : Int), .int .u64 (s : Int)] 55)) w.heap.size #[.string n, .int .i64 v, .int .u64 (k : Int), .int .i64 t, .int .i64 d, .int .u64 (r : Int), .int .u64 (s : Int)] 55 := Blk.new w _ _
  go_enter Try.func57, Try.ntmps57
  go_wp2_with (first | (refine wpList_bytes rfl 9 29 5 _ rfl tString tBytes' tByte rfl (by have := HV.out; omega) ?_; intro gB cB w1 hgB kB bB) | fail)
  refine (HJ.out _ _ _ _ bB).mono ?_
  rintro e w2 ⟨u, rfl, kn, bn⟩
  have k2 := k0.trans (kB.trans kn)
  have b2 := b0.kept (kB.trans kn) (fun h => h)
  have bL := bn.bs (Nat.le_refl _)
  obtain ⟨aL, cL, rfl⟩ := bn.form
  have c1 : w2.cell? ⟨w.heap.size, 1, none⟩ = some (.int .i64 v) := b2.cell 1
  clear k0 b0 kB bB kn bn
  go_wp2_with fail
  refine (Bin.num V _ HV.out.1 HV.out.2.1).mono ?_
  rintro e w3 ⟨u, rfl, kn, bn⟩
  have k03 := k2.trans kn
  have b3 := b2.kept kn (fun h => h)
  have bL := bL.kept kn (fun _ _ _ h => h)
  have bV := bn.bs (Nat.le_refl _)
  obtain ⟨aV, cV, rfl⟩ := bn.form
  clear k2 b2 kn bn c1
  have sV : (Value.slice aV (leB V).length cV) = .slice aV 8 cV := rfl
  obtain ⟨w4, rfl⟩ : ∃ w4, w4 = w3 := ⟨_, rfl⟩
  go_wp2_with fail
  have hc2 : ∀ W, Kept None w4 W → W.cell? ⟨w.heap.size, 2, none⟩ = some (.int .u64 (k : Int)) := fun W hW => (b3.kept hW (fun h => h)).cell 2
  have hc3 : ∀ W, Kept None w4 W → W.cell? ⟨w.heap.size, 3, none⟩ = some (.int .i64 t) := fun W hW => (b3.kept hW (fun h => h)).cell 3
  have hc4 : ∀ W, Kept None w4 W → W.cell? ⟨w.heap.size, 4, none⟩ = some (.int .i64 d) := fun W hW => (b3.kept hW (fun h => h)).cell 4
  clear b3
  have hs : Steady [.bytes 0 ([80]), .bytes 6 (leB k), .bytes 10 (leB T), .bytes 14 (leB D), .lists 15 ([[80], L, leB V, leB k, leB T, leB D]) [0, 6, 10, 14], .own 5 16 (w4.heap.size) (M) [15]] := Steady.bytes (Steady.bytes (Steady.bytes (Steady.bytes (Steady.lists (Steady.own (Steady.nil))))))
  refine wp_region_kn w4 _ hs (Kept.refl _ _) (by kernel_rfl) (by kernel_rfl) (by kernel_rfl) ?_
  refine wpKn_adds hs rfl (by rfl) (fun W hW hd => ?_) (fun v0 hv => ?_)
  · unfold Gives
    go_simp
    exact ⟨(Kept.refl None W).alloc _, ⟨_, _, rfl⟩, _, _, Vs.new W #[.int .u8 80] 5 1 (by decide) (by decide)⟩
  obtain ⟨a0, c0, rfl⟩ : ∃ a c, v0 = .slice a 1 c := hv
  simp only [Act.put, List.setIfInBounds_toArray, List.set_cons_zero, List.set_cons_succ]
  iterate 5 (refine wpPar_pure rfl (by rfl) _ (fun W hW => by
      have c2 := hc2 W hW
      have c3 := hc3 W hW
      have c4 := hc4 W hW
      go_simp
      exact rfl) ?_; simp only [Act.put, List.setIfInBounds_toArray, List.set_cons_zero, List.set_cons_succ])
  refine wpKn_adds hs rfl (by rfl) (fun W hW hd => ?_) (fun v6 hv => ?_)
  · unfold Gives
    go_simp
    refine gives_call (Bin.num k W (by have := HV.out; omega) (by have := HV.out; omega)) ?_
    rintro e w3 ⟨u, rfl, k3, b3⟩
    exact ⟨_, rfl, k3, b3.form, _, _, b3.bs (Nat.le_refl _)⟩
  obtain ⟨a6, c6, rfl⟩ : ∃ a c, v6 = .slice a 8 c := hv
  simp only [Act.put, List.setIfInBounds_toArray, List.set_cons_zero, List.set_cons_succ]
  iterate 3 (refine wpPar_pure rfl (by rfl) _ (fun W hW => by
      have c2 := hc2 W hW
      have c3 := hc3 W hW
      have c4 := hc4 W hW
      go_simp
      exact rfl) ?_; simp only [Act.put, List.setIfInBounds_toArray, List.set_cons_zero, List.set_cons_succ])
  refine wpKn_adds hs rfl (by rfl) (fun W hW hd => ?_) (fun v10 hv => ?_)
  · unfold Gives
    go_simp
    refine gives_call (Bin.num T W HV.out.2.2.1 HV.out.2.2.2.1) ?_
    rintro e w3 ⟨u, rfl, k3, b3⟩
    exact ⟨_, rfl, k3, b3.form, _, _, b3.bs (Nat.le_refl _)⟩
  obtain ⟨a10, c10, rfl⟩ : ∃ a c, v10 = .slice a 8 c := hv
  simp only [Act.put, List.setIfInBounds_toArray, List.set_cons_zero, List.set_cons_succ]
  iterate 3 (refine wpPar_pure rfl (by rfl) _ (fun W hW => by
      have c2 := hc2 W hW
      have c3 := hc3 W hW
      have c4 := hc4 W hW
      go_simp
      exact rfl) ?_; simp only [Act.put, List.setIfInBounds_toArray, List.set_cons_zero, List.set_cons_succ])
  refine wpKn_adds hs rfl (by rfl) (fun W hW hd => ?_) (fun v14 hv => ?_)
  · unfold Gives
    go_simp
    refine gives_call (Bin.num D W HV.out.2.2.2.2.1 HV.out.2.2.2.2.2.1) ?_
    rintro e w3 ⟨u, rfl, k3, b3⟩
    exact ⟨_, rfl, k3, b3.form, _, _, b3.bs (Nat.le_refl _)⟩
  obtain ⟨a14, c14, rfl⟩ : ∃ a c, v14 = .slice a 8 c := hv
  simp only [Act.put, List.setIfInBounds_toArray, List.set_cons_zero, List.set_cons_succ]
  refine wpKn_adds hs rfl (by rfl) (fun W hW hd => ?_) (fun v15 hv => ?_)
  · unfold Gives
    have h2 := bL.kept hW (fun _ _ _ h => h)
    have h3 := bV.kept hW (fun _ _ _ h => h)
    obtain ⟨lo1, hi1, h1⟩ : ∃ lo hi, Bs W lo hi (.slice a0 1 c0) [80] := hd 0 (List.Mem.head _)
    obtain ⟨lo4, hi4, h4⟩ : ∃ lo hi, Bs W lo hi (.slice a6 8 c6) (leB k) := hd 6 (List.Mem.tail _ (List.Mem.head _))
    obtain ⟨lo5, hi5, h5⟩ : ∃ lo hi, Bs W lo hi (.slice a10 8 c10) (leB T) := hd 10 (List.Mem.tail _ (List.Mem.tail _ (List.Mem.head _)))
    obtain ⟨lo6, hi6, h6⟩ : ∃ lo hi, Bs W lo hi (.slice a14 8 c14) (leB D) := hd 14 (List.Mem.tail _ (List.Mem.tail _ (List.Mem.tail _ (List.Mem.head _))))
    go_simp
    exact ⟨(Kept.refl None W).alloc _, ⟨_, _, rfl⟩, _, _, _, _, Bss.new W #[.slice a0 1 c0, .slice aL L.length cL, .slice aV 8 cV, .slice a6 8 c6, .slice a10 8 c10, .slice a14 8 c14] 29 [[80], L, leB V, leB k, leB T, leB D] 6 rfl (by decide) ⟨h1.all, h2.all, h3.all, h4.all, h5.all, h6.all, trivial⟩⟩
  obtain ⟨a15, c15, rfl⟩ : ∃ a c, v15 = .slice a 6 c := hv
  simp only [Act.put, List.setIfInBounds_toArray, List.set_cons_zero, List.set_cons_succ]
  refine wpKn_adds hs rfl (by rfl) (fun W hW hd => ?_) (fun v16 hv => ?_)
  · unfold Gives
    obtain ⟨lo1, hi1, lo2, hi2, h1⟩ : ∃ lo hi lo' hi', Bss W lo hi lo' hi' (.slice a15 6 c15) [[80], L, leB V, leB k, leB T, leB D] := hd 15 (List.Mem.head _)
    go_simp
    refine gives_call (Bin.join _ _ _ _ _ _ W h1 (by have := HV.out; simp [total, leB_length]; omega)) ?_
    rintro e w3 ⟨u, rfl, k3, b3⟩
    have b4 := b3.base hW.size
    rw [HF.out] at b4
    exact ⟨_, rfl, k3, b4.form, b4⟩
  obtain ⟨a16, c16, rfl⟩ : ∃ a c, v16 = .slice a M.length c := hv
  simp only [Act.put, List.setIfInBounds_toArray, List.set_cons_zero, List.set_cons_succ]
  iterate 1 (refine wpPar_pure rfl (by rfl) _ (fun W hW => by
      go_simp
      exact rfl) ?_; simp only [Act.put, List.setIfInBounds_toArray, List.set_cons_zero, List.set_cons_succ])
  refine wpPar_nil (fun W hW hG => ?_)
  have hb : Ob W w4.heap.size (.slice a16 M.length c16) M := hG 16
  have hb1 := hb.base k03.size
  have k04 := k03.then hW (fun _ _ h => h)
  clear hG hb hc2 hc3 hc4 hs k03 hW bL bV
  go_wp2
  go_ret
  exact ⟨_, rfl, k04, hb1⟩

theorem res_ct {P : Program} {fn : Func} {p q : Tmp} {ty : TypeId} (h : fn.results = #[.cell p ty, .tmp q]) (tmps : Array Value) {w : World} {g : Nat} {t : TypeId} {cs : Array Value} (hp : tmps.getD p undef = .pointer (some ⟨g, 0, none⟩)) {x : Value} (hq : tmps.getD q undef = x) (hb : Blk w g cs t)
    (hT : AggTy P ty cs.size) : (results fn tmps).run P w = .ok (.tuple #[.agg cs, x]) w := by
  obtain ⟨d, hu, hd⟩ := hT.ag
  have hp' : tmps[p]?.getD undef = .pointer (some ⟨g, 0, none⟩) := by simpa using hp
  have hq' : tmps[q]?.getD undef = x := by simpa using hq
  have hl := run_loadVar_row w g t ty cs (0, 0) d hb hu (by cases d <;> first | rfl | exact hd) hT.size
  simp [results, h, hp', hq', asAddr, hl]

set_option maxRecDepth 100000 in
set_option maxHeartbeats 4000000 in
/-- promise.Make. -/
theorem make (x : Nat) (n : ByteArray) (v : Int) (k : Nat) (t : Int) (w : World) (hn : n.size ≤ 274877906944) (hk : k < 18446744073709551616) : Calls Try.prog 27 #[.int .u64 x, entV n v k, .int .i64 t] w fun e w' => e = .returned (.tuple #[(makePr x n v k t).V, .int .i64 (makePrE n.size v k t)]) ∧ Kept None w w' := by
  have hf := fun W => fits n v k W
  have ht := fun W => counts t W
  have hu := fun W => counts (t + 40) W
  have K0 : Kept None w ((w.alloc (.cells #[.string n, .int .i64 v, .int .u64 (k : Int)] 53)).alloc (.cells #[.string ⟨#[]⟩, .int .i64 0, .int .u64 0, .int .i64 0, .int .i64 0, .int .u64 0, .int .u64 0] 55)) := ((Kept.refl _ _).alloc _).alloc _
  have B0 : Blk ((w.alloc (.cells #[.string n, .int .i64 v, .int .u64 (k : Int)] 53)).alloc (.cells #[.string ⟨#[]⟩, .int .i64 0, .int .u64 0, .int .i64 0, .int .i64 0, .int .u64 0, .int .u64 0] 55)) w.heap.size #[.string n, .int .i64 v, .int .u64 (k : Int)] 53 := (Blk.new w _ _).alloc _
  have Z0 : Blk ((w.alloc (.cells #[.string n, .int .i64 v, .int .u64 (k : Int)] 53)).alloc (.cells #[.string ⟨#[]⟩, .int .i64 0, .int .u64 0, .int .i64 0, .int .i64 0, .int .u64 0, .int .u64 0] 55)) (w.heap.size + 1) #[.string ⟨#[]⟩, .int .i64 0, .int .u64 0, .int .i64 0, .int .i64 0, .int .u64 0, .int .u64 0] 55 := Blk.new2 w _ _ _
  by_cases h1 : entR n.size v k = true
  · by_cases h2 : tickR t = true
    · have h2' := (tickR_iff t).1 h2
      have hw : IntKind.i64.wrap (t + 40) = t + 40 := by rw [IntKind.wrap_i64]; omega
      by_cases h3 : t ≤ 1152921504606846936
      · have h4 : tickR (t + 40) = true := by rw [tickR_iff]; omega
        have hE := mkPr_ok h1 h2'.1 h3
        rw [hE, makePr_ok hE]
        rw [h1] at hf
        rw [h2] at ht
        rw [h4] at hu
        have hm := fun W => message n v k t (t + 40) 0 0 W hn hk
        have hs := fun v' lo hi W h => Sg.sign x v' lo hi (msgPr n v k t (t + 40)) W h (by rw [msgPr_len]; omega)
        unfold signPr
        obtain ⟨R, hR⟩ : ∃ R, R = sigR x (msgPr n v k t (t + 40)) := ⟨_, rfl⟩
        obtain ⟨S, hS⟩ : ∃ S, S = sigS x (msgPr n v k t (t + 40)) := ⟨_, rfl⟩
        obtain ⟨M, hM⟩ : ∃ M, M = msgPr n v k t (t + 40) := ⟨_, rfl⟩
        show Calls _ _ _ w fun e w' => e = .returned (.tuple #[prV n v k t (t + 40) (sigR x (msgPr n v k t (t + 40))) (sigS x (msgPr n v k t (t + 40))), .int .i64 0]) ∧ Kept None w w'
        rw [← hR, ← hS] at hs ⊢
        rw [← hM] at hs hm
        have H := hid (And.intro hf (And.intro ht (And.intro hu (And.intro hm hs))))
        clear hf ht hu hm hs hM hR hS h1 h2 h2' h3 h4 hE hn hk
        go_enter Try.func27, Try.ntmps27
        go_wp2_with fail
        refine (H.out.1 _).mono ?_
        rintro e w1 ⟨rfl, kn⟩
        have k1 := K0.trans kn
        have b1 := B0.kept kn (fun h => h)
        have z1 := Z0.kept kn (fun h => h)
        clear kn K0 B0 Z0
        go_wp2_with fail
        refine (H.out.2.1 _).mono ?_
        rintro e w2 ⟨rfl, kn⟩
        have k2 := k1.trans kn
        have b2 := b1.kept kn (fun h => h)
        have z2 := z1.kept kn (fun h => h)
        clear kn k1 b1 z1
        go_wp2_with fail
        refine (H.out.2.2.1 _).mono ?_
        rintro e w3 ⟨rfl, kn⟩
        have k3 := k2.trans kn
        have b3 := b2.kept kn (fun h => h)
        have z3 := z2.kept kn (fun h => h)
        clear kn k2 b2 z2
        have e0 : w3.cell? ⟨w.heap.size, 0, none⟩ = some (.string n) := b3.cell 0
        have e1 : w3.cell? ⟨w.heap.size, 1, none⟩ = some (.int .i64 v) := b3.cell 1
        have e2 : w3.cell? ⟨w.heap.size, 2, none⟩ = some (.int .u64 (k : Int)) := b3.cell 2
        have kA : Kept None w (w3.alloc (.cells #[.string n, .int .i64 v, .int .u64 (k : Int), .int .i64 t, .int .i64 (t + 40), .int .u64 0, .int .u64 0] 55)) := k3.alloc _
        have zA : Blk (w3.alloc (.cells #[.string n, .int .i64 v, .int .u64 (k : Int), .int .i64 t, .int .i64 (t + 40), .int .u64 0, .int .u64 0] 55)) (w.heap.size + 1) #[.string ⟨#[]⟩, .int .i64 0, .int .u64 0, .int .i64 0, .int .i64 0, .int .u64 0, .int .u64 0] 55 := z3.alloc _
        have pA := Blk.new w3 #[.string n, .int .i64 v, .int .u64 (k : Int), .int .i64 t, .int .i64 (t + 40), .int .u64 0, .int .u64 0] 55
        have sz : w.heap.size + 1 < w3.heap.size := z3.lt
        clear k3 b3 z3
        go_wp2_with (first | (refine wpList_load_blk rfl _ _ rfl rfl pA aPr ?_) | fail)
        clear e0 e1 e2
        refine (H.out.2.2.2.1 _).mono ?_
        rintro e w4 ⟨u, rfl, kn, bn⟩
        have k4 := kA.trans kn
        have z4 := zA.kept kn (fun h => h)
        have p4 := pA.kept kn (fun h => h)
        have d4 := bn.bs (Nat.le_refl _)
        obtain ⟨a4, c4, rfl⟩ := bn.form
        clear kA zA pA kn bn
        go_wp2_with fail
        refine (H.out.2.2.2.2 _ _ _ _ d4).mono ?_
        rintro e w5 ⟨rfl, kn⟩
        have k5 := k4.trans kn
        have z5 := z4.kept kn (fun h => h)
        have p5 := p4.kept kn (fun h => h)
        clear k4 z4 p4 kn d4 H
        have c5 : w5.cell? ⟨w3.heap.size, 5, none⟩ = some (.int .u64 0) := p5.cell 5
        have c6 : w5.cell? ⟨w3.heap.size, 6, none⟩ = some (.int .u64 0) := p5.cell 6
        have f5 := p5.free 5
        have f6 := p5.free 6
        have p6 : Blk ((w5.setCell ⟨w3.heap.size, 5, none⟩ (.int .u64 (R : Int))).setCell ⟨w3.heap.size, 6, none⟩ (.int .u64 (S : Int))) w3.heap.size #[.string n, .int .i64 v, .int .u64 (k : Int), .int .i64 t, .int .i64 (t + 40), .int .u64 (R : Int), .int .u64 (S : Int)] 55 := (p5.set 5 _).set 6 _
        have z6 := (z5.setOther (a := ⟨w3.heap.size, 5, none⟩) (by show w.heap.size + 1 ≠ w3.heap.size; omega) (.int .u64 (R : Int))).setOther (a := ⟨w3.heap.size, 6, none⟩) (by show w.heap.size + 1 ≠ w3.heap.size; omega) (.int .u64 (S : Int))
        have k6 := (k5.setNew (b := w3.heap.size) (by omega) 5 (.int .u64 (R : Int))).setNew (b := w3.heap.size) (by omega) 6 (.int .u64 (S : Int))
        clear p5 z5 k5
        go_wp2_with (first | (refine wpList_load_blk rfl _ _ rfl rfl p6 aPr ?_) | (refine wpList_store_blk rfl _ _ _ rfl rfl rfl z6 aPr rfl (pr_all n v k t (t + 40) R S) ?_; intro w7 h7 k7) | fail)
        exact bodyPost_ret (v := .tuple #[prV n v k t (t + 40) R S, .int .i64 0]) (res_ct rfl _ rfl rfl h7 aPr) rfl ⟨rfl, k6.then k7 (fun i hi (h : i = w.heap.size + 1) => by omega)⟩
      · have h4 : tickR (t + 40) = false := by rw [← Bool.not_eq_true, tickR_iff]; omega
        have hE := mkPr_clock h1 h2'.1 h2'.2 h3
        rw [hE, makePr_none hE (by decide)]
        rw [h1] at hf
        rw [h2] at ht
        rw [h4] at hu
        have H := hid (And.intro hf (And.intro ht hu))
        clear hf ht hu h1 h2 h2' h3 h4 hE
        go_enter Try.func27, Try.ntmps27
        go_wp2_with fail
        refine (H.out.1 _).mono ?_
        rintro e w1 ⟨rfl, kn⟩
        have k1 := K0.trans kn
        have b1 := B0.kept kn (fun h => h)
        have z1 := Z0.kept kn (fun h => h)
        clear kn K0 B0 Z0
        go_wp2_with fail
        refine (H.out.2.1 _).mono ?_
        rintro e w2 ⟨rfl, kn⟩
        have k2 := k1.trans kn
        have b2 := b1.kept kn (fun h => h)
        have z2 := z1.kept kn (fun h => h)
        clear kn k1 b1 z1
        go_wp2_with fail
        refine (H.out.2.2 _).mono ?_
        rintro e w3 ⟨rfl, kn⟩
        have k3 := k2.trans kn
        have b3 := b2.kept kn (fun h => h)
        have z3 := z2.kept kn (fun h => h)
        clear kn k2 b2 z2
        go_wp2_with (first | (refine wpList_store_blk rfl _ _ _ rfl rfl rfl z3 aPr rfl zero_all ?_; intro wz hz kz) | fail)
        exact bodyPost_ret (v := .tuple #[.agg #[.string ⟨#[]⟩, .int .i64 0, .int .u64 0, .int .i64 0, .int .i64 0, .int .u64 0, .int .u64 0], .int .i64 31]) (res_ct rfl _ rfl rfl hz aPr) rfl ⟨rfl, k3.then kz (fun i hi (h : i = w.heap.size + 1) => by omega)⟩
    · have hE := mkPr_form (m := n.size) (v := v) (k := k) (t := t) (fun h => h2 ((tickR_iff t).2 h.2))
      rw [hE, makePr_none hE (by decide)]
      rw [h1] at hf
      rw [Bool.not_eq_true] at h2
      rw [h2] at ht
      have H := hid (And.intro hf ht)
      clear hf ht hu h1 h2 hE
      go_enter Try.func27, Try.ntmps27
      go_wp2_with fail
      refine (H.out.1 _).mono ?_
      rintro e w1 ⟨rfl, kn⟩
      have k1 := K0.trans kn
      have b1 := B0.kept kn (fun h => h)
      have z1 := Z0.kept kn (fun h => h)
      clear kn K0 B0 Z0
      go_wp2_with fail
      refine (H.out.2 _).mono ?_
      rintro e w2 ⟨rfl, kn⟩
      have k2 := k1.trans kn
      have b2 := b1.kept kn (fun h => h)
      have z2 := z1.kept kn (fun h => h)
      clear kn k1 b1 z1
      go_wp2_with (first | (refine wpList_store_blk rfl _ _ _ rfl rfl rfl z2 aPr rfl zero_all ?_; intro wz hz kz) | fail)
      exact bodyPost_ret (v := .tuple #[.agg #[.string ⟨#[]⟩, .int .i64 0, .int .u64 0, .int .i64 0, .int .i64 0, .int .u64 0, .int .u64 0], .int .i64 23]) (res_ct rfl _ rfl rfl hz aPr) rfl ⟨rfl, k2.then kz (fun i hi (h : i = w.heap.size + 1) => by omega)⟩
  · have hE := mkPr_form (m := n.size) (v := v) (k := k) (t := t) (fun h => h1 h.1)
    rw [hE, makePr_none hE (by decide)]
    rw [Bool.not_eq_true] at h1
    rw [h1] at hf
    have H := hid hf
    clear hf ht hu h1 hE
    go_enter Try.func27, Try.ntmps27
    go_wp2_with fail
    refine (H.out _).mono ?_
    rintro e w1 ⟨rfl, kn⟩
    have k1 := K0.trans kn
    have z1 := Z0.kept kn (fun h => h)
    clear kn K0 B0 Z0
    go_wp2_with (first | (refine wpList_store_blk rfl _ _ _ rfl rfl rfl z1 aPr rfl zero_all ?_; intro wz hz kz) | fail)
    exact bodyPost_ret (v := .tuple #[.agg #[.string ⟨#[]⟩, .int .i64 0, .int .u64 0, .int .i64 0, .int .i64 0, .int .u64 0, .int .u64 0], .int .i64 23]) (res_ct rfl _ rfl rfl hz aPr) rfl ⟨rfl, k1.then kz (fun i hi (h : i = w.heap.size + 1) => by omega)⟩

set_option maxRecDepth 100000 in
set_option maxHeartbeats 4000000 in
theorem check (y : Nat) (n : ByteArray) (v : Int) (k : Nat) (t d : Int) (r s : Nat) (w : World) (hn : n.size ≤ 274877906944) (hk : k < 18446744073709551616) : Calls Try.prog 28 #[.int .u64 y, prV n v k t d r s] w fun e w' => e = .returned (.bool (rightPr n.size v k t d && checkN y (msgPr n v k t d) r s)) ∧ Kept None w w' := by
  have hr := fun W => right n v k t d r s W
  have hm := fun W => message n v k t d r s W hn hk
  have hs := fun v' lo hi W h => Sg.check y r s v' lo hi (msgPr n v k t d) W h (by rw [msgPr_len]; omega)
  obtain ⟨M, hM⟩ : ∃ M, M = msgPr n v k t d := ⟨_, rfl⟩
  rw [← hM] at hm hs ⊢
  obtain ⟨Q, hQ⟩ : ∃ Q, Q = checkN y M r s := ⟨_, rfl⟩
  rw [← hQ] at hs ⊢
  obtain ⟨E, hE⟩ : ∃ E, E = rightPr n.size v k t d := ⟨_, rfl⟩
  rw [← hE] at hr ⊢
  have H := hid (And.intro hr (And.intro hm hs))
  clear hr hm hs hM hQ hE hn hk
  cases E with
  | false =>
    go_enter Try.func28, Try.ntmps28
    go_wp2_with fail
    obtain ⟨w1, hw1⟩ : ∃ w1, w1 = w.alloc (.cells #[.string n, .int .i64 v, .int .u64 (k : Int), .int .i64 t, .int .i64 d, .int .u64 (r : Int), .int .u64 (s : Int)] 55) := ⟨_, rfl⟩
    have b1 := Blk.new w #[.string n, .int .i64 v, .int .u64 (k : Int), .int .i64 t, .int .i64 d, .int .u64 (r : Int), .int .u64 (s : Int)] 55
    have k1 : Kept None w (w.alloc (.cells #[.string n, .int .i64 v, .int .u64 (k : Int), .int .i64 t, .int .i64 d, .int .u64 (r : Int), .int .u64 (s : Int)] 55)) := (Kept.refl _ _).alloc _
    rw [← hw1] at b1 k1 ⊢
    clear hw1
    have hc0 : ∀ W, Kept None w1 W → W.cell? ⟨w.heap.size, 0, none⟩ = some (.string n) := fun W hW => (b1.kept hW (fun h => h)).cell 0
    have hc1 : ∀ W, Kept None w1 W → W.cell? ⟨w.heap.size, 1, none⟩ = some (.int .i64 v) := fun W hW => (b1.kept hW (fun h => h)).cell 1
    have hc2 : ∀ W, Kept None w1 W → W.cell? ⟨w.heap.size, 2, none⟩ = some (.int .u64 (k : Int)) := fun W hW => (b1.kept hW (fun h => h)).cell 2
    have hc3 : ∀ W, Kept None w1 W → W.cell? ⟨w.heap.size, 3, none⟩ = some (.int .i64 t) := fun W hW => (b1.kept hW (fun h => h)).cell 3
    have hc4 : ∀ W, Kept None w1 W → W.cell? ⟨w.heap.size, 4, none⟩ = some (.int .i64 d) := fun W hW => (b1.kept hW (fun h => h)).cell 4
    have hc5 : ∀ W, Kept None w1 W → W.cell? ⟨w.heap.size, 5, none⟩ = some (.int .u64 (r : Int)) := fun W hW => (b1.kept hW (fun h => h)).cell 5
    have hc6 : ∀ W, Kept None w1 W → W.cell? ⟨w.heap.size, 6, none⟩ = some (.int .u64 (s : Int)) := fun W hW => (b1.kept hW (fun h => h)).cell 6
    clear b1
    have hs : Steady [.val 1 (.bool false)] := Steady.val (Steady.nil)
    refine wp_region_kn w1 _ hs (Kept.refl _ _) (by kernel_rfl) (by kernel_rfl) (by kernel_rfl) ?_
    iterate 1 (refine wpPar_pure rfl (by first | rfl | kernel_rfl) _ (fun W hW => by
        have c0 := hc0 W hW
        have c1 := hc1 W hW
        have c2 := hc2 W hW
        have c3 := hc3 W hW
        have c4 := hc4 W hW
        have c5 := hc5 W hW
        have c6 := hc6 W hW
        go_simp
        exact rfl) ?_; simp only [Act.put, List.setIfInBounds_toArray, List.set_cons_zero, List.set_cons_succ])
    refine wpKn_adds hs rfl (by first | rfl | kernel_rfl) (fun W hW hd => ?_) (fun v1 hv => ?_)
    · unfold Gives
      go_simp
      refine gives_call (H.out.1 W) ?_
      rintro e w3 ⟨rfl, k3⟩
      exact ⟨_, rfl, k3, rfl, trivial⟩
    obtain rfl : v1 = .bool false := hv
    simp only [Act.put, List.setIfInBounds_toArray, List.set_cons_zero, List.set_cons_succ]
    iterate 1 (refine wpPar_pure rfl (by first | rfl | kernel_rfl) _ (fun W hW => by
        go_simp
        exact rfl) ?_; simp only [Act.put, List.setIfInBounds_toArray, List.set_cons_zero, List.set_cons_succ])
    iterate 6 (refine wpPar_skip (by kernel_rfl) ?_; simp only [Act.put, List.setIfInBounds_toArray, List.set_cons_zero, List.set_cons_succ])
    iterate 2 (refine wpPar_pure rfl (by first | rfl | kernel_rfl) _ (fun W hW => by
        go_simp
        exact rfl) ?_; simp only [Act.put, List.setIfInBounds_toArray, List.set_cons_zero, List.set_cons_succ])
    refine wpPar_nil (fun W hW hG => ?_)
    have kW := k1.trans hW
    clear hG hs hW hc0 hc1 hc2 hc3 hc4 hc5 hc6 k1
    go_wp2
    go_ret
    exact ⟨rfl, kW⟩
  | true =>
    go_enter Try.func28, Try.ntmps28
    go_wp2_with fail
    obtain ⟨w1, hw1⟩ : ∃ w1, w1 = w.alloc (.cells #[.string n, .int .i64 v, .int .u64 (k : Int), .int .i64 t, .int .i64 d, .int .u64 (r : Int), .int .u64 (s : Int)] 55) := ⟨_, rfl⟩
    have b1 := Blk.new w #[.string n, .int .i64 v, .int .u64 (k : Int), .int .i64 t, .int .i64 d, .int .u64 (r : Int), .int .u64 (s : Int)] 55
    have k1 : Kept None w (w.alloc (.cells #[.string n, .int .i64 v, .int .u64 (k : Int), .int .i64 t, .int .i64 d, .int .u64 (r : Int), .int .u64 (s : Int)] 55)) := (Kept.refl _ _).alloc _
    rw [← hw1] at b1 k1 ⊢
    clear hw1
    have hc0 : ∀ W, Kept None w1 W → W.cell? ⟨w.heap.size, 0, none⟩ = some (.string n) := fun W hW => (b1.kept hW (fun h => h)).cell 0
    have hc1 : ∀ W, Kept None w1 W → W.cell? ⟨w.heap.size, 1, none⟩ = some (.int .i64 v) := fun W hW => (b1.kept hW (fun h => h)).cell 1
    have hc2 : ∀ W, Kept None w1 W → W.cell? ⟨w.heap.size, 2, none⟩ = some (.int .u64 (k : Int)) := fun W hW => (b1.kept hW (fun h => h)).cell 2
    have hc3 : ∀ W, Kept None w1 W → W.cell? ⟨w.heap.size, 3, none⟩ = some (.int .i64 t) := fun W hW => (b1.kept hW (fun h => h)).cell 3
    have hc4 : ∀ W, Kept None w1 W → W.cell? ⟨w.heap.size, 4, none⟩ = some (.int .i64 d) := fun W hW => (b1.kept hW (fun h => h)).cell 4
    have hc5 : ∀ W, Kept None w1 W → W.cell? ⟨w.heap.size, 5, none⟩ = some (.int .u64 (r : Int)) := fun W hW => (b1.kept hW (fun h => h)).cell 5
    have hc6 : ∀ W, Kept None w1 W → W.cell? ⟨w.heap.size, 6, none⟩ = some (.int .u64 (s : Int)) := fun W hW => (b1.kept hW (fun h => h)).cell 6
    clear b1
    have hs : Steady [.val 1 (.bool true), .bytes 5 (M), .val 8 (.bool Q) [5]] := Steady.val (Steady.bytes (Steady.val (Steady.nil)))
    refine wp_region_kn w1 _ hs (Kept.refl _ _) (by kernel_rfl) (by kernel_rfl) (by kernel_rfl) ?_
    iterate 1 (refine wpPar_pure rfl (by first | rfl | kernel_rfl) _ (fun W hW => by
        have c0 := hc0 W hW
        have c1 := hc1 W hW
        have c2 := hc2 W hW
        have c3 := hc3 W hW
        have c4 := hc4 W hW
        have c5 := hc5 W hW
        have c6 := hc6 W hW
        go_simp
        exact rfl) ?_; simp only [Act.put, List.setIfInBounds_toArray, List.set_cons_zero, List.set_cons_succ])
    refine wpKn_adds hs rfl (by first | rfl | kernel_rfl) (fun W hW hd => ?_) (fun v1 hv => ?_)
    · unfold Gives
      go_simp
      refine gives_call (H.out.1 W) ?_
      rintro e w3 ⟨rfl, k3⟩
      exact ⟨_, rfl, k3, rfl, trivial⟩
    obtain rfl : v1 = .bool true := hv
    simp only [Act.put, List.setIfInBounds_toArray, List.set_cons_zero, List.set_cons_succ]
    iterate 3 (refine wpPar_pure rfl (by first | rfl | kernel_rfl) _ (fun W hW => by
        have c0 := hc0 W hW
        have c1 := hc1 W hW
        have c2 := hc2 W hW
        have c3 := hc3 W hW
        have c4 := hc4 W hW
        have c5 := hc5 W hW
        have c6 := hc6 W hW
        go_simp
        exact rfl) ?_; simp only [Act.put, List.setIfInBounds_toArray, List.set_cons_zero, List.set_cons_succ])
    refine wpKn_adds hs rfl (by first | rfl | kernel_rfl) (fun W hW hd => ?_) (fun v5 hv => ?_)
    · unfold Gives
      go_simp
      refine gives_call (H.out.2.1 W) ?_
      rintro e w3 ⟨u, rfl, k3, b3⟩
      exact ⟨_, rfl, k3, b3.form, _, _, b3.bs (Nat.le_refl _)⟩
    obtain ⟨a5, c5, rfl⟩ : ∃ a c, v5 = .slice a M.length c := hv
    simp only [Act.put, List.setIfInBounds_toArray, List.set_cons_zero, List.set_cons_succ]
    iterate 2 (refine wpPar_pure rfl (by first | rfl | kernel_rfl) _ (fun W hW => by
        have c0 := hc0 W hW
        have c1 := hc1 W hW
        have c2 := hc2 W hW
        have c3 := hc3 W hW
        have c4 := hc4 W hW
        have c5 := hc5 W hW
        have c6 := hc6 W hW
        go_simp
        exact rfl) ?_; simp only [Act.put, List.setIfInBounds_toArray, List.set_cons_zero, List.set_cons_succ])
    refine wpKn_adds hs rfl (by first | rfl | kernel_rfl) (fun W hW hd => ?_) (fun v8 hv => ?_)
    · unfold Gives
      obtain ⟨lo1, hi1, h1⟩ : ∃ lo hi, Bs W lo hi (.slice a5 M.length c5) M := hd 5 (List.Mem.head _)
      go_simp
      refine gives_call (H.out.2.2 _ _ _ W h1) ?_
      rintro e w3 ⟨rfl, k3⟩
      exact ⟨_, rfl, k3, rfl, trivial⟩
    obtain rfl : v8 = .bool Q := hv
    simp only [Act.put, List.setIfInBounds_toArray, List.set_cons_zero, List.set_cons_succ]
    iterate 2 (refine wpPar_pure rfl (by first | rfl | kernel_rfl) _ (fun W hW => by
        go_simp
        exact rfl) ?_; simp only [Act.put, List.setIfInBounds_toArray, List.set_cons_zero, List.set_cons_succ])
    refine wpPar_nil (fun W hW hG => ?_)
    have kW := k1.trans hW
    clear hG hs hW hc0 hc1 hc2 hc3 hc4 hc5 hc6 k1
    go_wp2
    go_ret
    exact ⟨rfl, kW⟩

theorem put_flat (n : ByteArray) (v : Int) (k : Nat) (t d : Int) (r s : Nat) : [msgPr n v k t d, leB (r : Int) ++ leB (s : Int)].flatten = putPr n v k t d r s := by simp [putPr]
set_option maxRecDepth 100000 in
set_option maxHeartbeats 4000000 in
/-- promise.Put. -/
theorem put (n : ByteArray) (v : Int) (k : Nat) (t d : Int) (r s : Nat) (w : World) (hn : n.size ≤ 274877906944) (hk : k < 18446744073709551616) (hr : r < 18446744073709551616) (hs : s < 18446744073709551616) : Calls Try.prog 43 #[prV n v k t d r s] w fun e w' => ∃ u, e = .returned (.tuple #[u, .int .i64 (Prm.putE ⟨n, v, k, t, d, r, s⟩)]) ∧ Kept None w w' ∧ Ob w' w.heap.size u (Prm.putL ⟨n, v, k, t, d, r, s⟩) := by
  have hq := fun W => right n v k t d r s W
  have k0 : Kept None w (w.alloc (.cells #[.string n, .int .i64 v, .int .u64 (k : Int), .int .i64 t, .int .i64 d, .int .u64 (r : Int), .int .u64 (s : Int)] 55)) := (Kept.refl _ _).alloc _
  have b0 : Blk (w.alloc (.cells #[.string n, .int .i64 v, .int .u64 (k : Int), .int .i64 t, .int .i64 d, .int .u64 (r : Int), .int .u64 (s : Int)] 55)) w.heap.size #[.string n, .int .i64 v, .int .u64 (k : Int), .int .i64 t, .int .i64 d, .int .u64 (r : Int), .int .u64 (s : Int)] 55 := Blk.new w _ _
  cases hb : rightPr n.size v k t d with
  | false =>
    rw [hb] at hq
    have e1 : Prm.putE ⟨n, v, k, t, d, r, s⟩ = 23 := by unfold Prm.putE Prm.right; rw [hb]; rfl
    have e2 : Prm.putL ⟨n, v, k, t, d, r, s⟩ = [] := by unfold Prm.putL Prm.right; rw [hb]; rfl
    rw [e1, e2]
    have H := hid hq
    clear hq hb e1 e2
    go_enter Try.func43, Try.ntmps43
    go_wp2_with (first | (refine wpList_load_blk rfl _ _ rfl rfl b0 aPr ?_) | fail)
    refine (H.out _).mono ?_
    rintro e w1 ⟨rfl, kn⟩
    have k1 := k0.trans kn
    go_wp2
    go_ret2
    exact ⟨_, rfl, k1, Bo.nil _ _ _⟩
  | true =>
    rw [hb] at hq
    have e1 : Prm.putE ⟨n, v, k, t, d, r, s⟩ = 0 := by unfold Prm.putE Prm.right; rw [hb]; rfl
    have e2 : Prm.putL ⟨n, v, k, t, d, r, s⟩ = putPr n v k t d r s := by unfold Prm.putL Prm.right; rw [hb]; rfl
    rw [e1, e2]
    have hm := fun W => message n v k t d r s W hn hk
    have hg := fun W => Sg.put r s W hr hs
    rw [show Sg.sigB r s = leB (r : Int) ++ leB (s : Int) from rfl] at hg
    have hf := put_flat n v k t d r s
    have hl : (msgPr n v k t d).length = 41 + n.size ∧ (leB (r : Int) ++ leB (s : Int)).length = 16 ∧ n.size ≤ 274877906944 := ⟨msgPr_len _ _ _ _ _, rfl, hn⟩
    obtain ⟨T, hT⟩ : ∃ T, T = putPr n v k t d r s := ⟨_, rfl⟩
    rw [← hT] at hf ⊢
    obtain ⟨M, hM⟩ : ∃ M, M = msgPr n v k t d := ⟨_, rfl⟩
    rw [← hM] at hf hm hl
    obtain ⟨G, hG⟩ : ∃ G, G = leB (r : Int) ++ leB (s : Int) := ⟨_, rfl⟩
    rw [← hG] at hf hg hl
    have H := hid (And.intro hq (And.intro hm hg))
    have HT := hid hf
    have HL := hid hl
    clear hq hm hg hf hl hT hM hG hb e1 e2 hn hk hr hs
    go_enter Try.func43, Try.ntmps43
    go_wp2_with (first | (refine wpList_load_blk rfl _ _ rfl rfl b0 aPr ?_) | fail)
    refine (H.out.1 _).mono ?_
    rintro e w1 ⟨rfl, kn⟩
    have k1 := k0.trans kn
    have b1 := b0.kept kn (fun h => h)
    clear k0 b0 kn
    go_wp2_with fail
    have hc0 : ∀ W, Kept None w1 W → W.cell? ⟨w.heap.size, 0, none⟩ = some (.string n) := fun W hW => (b1.kept hW (fun h => h)).cell 0
    have hc1 : ∀ W, Kept None w1 W → W.cell? ⟨w.heap.size, 1, none⟩ = some (.int .i64 v) := fun W hW => (b1.kept hW (fun h => h)).cell 1
    have hc2 : ∀ W, Kept None w1 W → W.cell? ⟨w.heap.size, 2, none⟩ = some (.int .u64 (k : Int)) := fun W hW => (b1.kept hW (fun h => h)).cell 2
    have hc3 : ∀ W, Kept None w1 W → W.cell? ⟨w.heap.size, 3, none⟩ = some (.int .i64 t) := fun W hW => (b1.kept hW (fun h => h)).cell 3
    have hc4 : ∀ W, Kept None w1 W → W.cell? ⟨w.heap.size, 4, none⟩ = some (.int .i64 d) := fun W hW => (b1.kept hW (fun h => h)).cell 4
    have hc5 : ∀ W, Kept None w1 W → W.cell? ⟨w.heap.size, 5, none⟩ = some (.int .u64 (r : Int)) := fun W hW => (b1.kept hW (fun h => h)).cell 5
    have hc6 : ∀ W, Kept None w1 W → W.cell? ⟨w.heap.size, 6, none⟩ = some (.int .u64 (s : Int)) := fun W hW => (b1.kept hW (fun h => h)).cell 6
    clear b1
    have hs : Steady [.bytes 1 (M), .bytes 4 (G), .lists 5 ([M, G]) [1, 4], .own 5 6 (w1.heap.size) (T) [5]] := Steady.bytes (Steady.bytes (Steady.lists (Steady.own (Steady.nil))))
    refine wp_region_kn w1 _ hs (Kept.refl _ _) (by kernel_rfl) (by kernel_rfl) (by kernel_rfl) ?_
    iterate 1 (refine wpPar_pure rfl (by rfl) _ (fun W hW => by
        have c0 := hc0 W hW
        have c1 := hc1 W hW
        have c2 := hc2 W hW
        have c3 := hc3 W hW
        have c4 := hc4 W hW
        have c5 := hc5 W hW
        have c6 := hc6 W hW
        go_simp
        exact rfl) ?_; simp only [Act.put, List.setIfInBounds_toArray, List.set_cons_zero, List.set_cons_succ])
    refine wpKn_adds hs rfl (by rfl) (fun W hW hd => ?_) (fun v1 hv => ?_)
    · unfold Gives
      go_simp
      refine gives_call (H.out.2.1 W) ?_
      rintro e w3 ⟨u, rfl, k3, b3⟩
      exact ⟨_, rfl, k3, b3.form, _, _, b3.bs (Nat.le_refl _)⟩
    obtain ⟨a1, c1, rfl⟩ : ∃ a c, v1 = .slice a M.length c := hv
    simp only [Act.put, List.setIfInBounds_toArray, List.set_cons_zero, List.set_cons_succ]
    iterate 2 (refine wpPar_pure rfl (by rfl) _ (fun W hW => by
        have c0 := hc0 W hW
        have c1 := hc1 W hW
        have c2 := hc2 W hW
        have c3 := hc3 W hW
        have c4 := hc4 W hW
        have c5 := hc5 W hW
        have c6 := hc6 W hW
        go_simp
        exact rfl) ?_; simp only [Act.put, List.setIfInBounds_toArray, List.set_cons_zero, List.set_cons_succ])
    refine wpKn_adds hs rfl (by rfl) (fun W hW hd => ?_) (fun v4 hv => ?_)
    · unfold Gives
      go_simp
      refine gives_call (H.out.2.2 W) ?_
      rintro e w3 ⟨u, rfl, k3, b3⟩
      exact ⟨_, rfl, k3, b3.form, _, _, b3.bs (Nat.le_refl _)⟩
    obtain ⟨a4, c4, rfl⟩ : ∃ a c, v4 = .slice a G.length c := hv
    simp only [Act.put, List.setIfInBounds_toArray, List.set_cons_zero, List.set_cons_succ]
    refine wpKn_adds hs rfl (by rfl) (fun W hW hd => ?_) (fun v5 hv => ?_)
    · unfold Gives
      obtain ⟨lo1, hi1, h1⟩ : ∃ lo hi, Bs W lo hi (.slice a1 M.length c1) M := hd 1 (List.Mem.head _)
      obtain ⟨lo2, hi2, h2⟩ : ∃ lo hi, Bs W lo hi (.slice a4 G.length c4) G := hd 4 (List.Mem.tail _ (List.Mem.head _))
      go_simp
      exact ⟨(Kept.refl None W).alloc _, ⟨_, _, rfl⟩, _, _, _, _, Bss.new W #[.slice a1 M.length c1, .slice a4 G.length c4] 29 [M, G] 2 rfl (by decide) ⟨h1.all, h2.all, trivial⟩⟩
    obtain ⟨a5, c5, rfl⟩ : ∃ a c, v5 = .slice a 2 c := hv
    simp only [Act.put, List.setIfInBounds_toArray, List.set_cons_zero, List.set_cons_succ]
    refine wpKn_adds hs rfl (by rfl) (fun W hW hd => ?_) (fun v6 hv => ?_)
    · unfold Gives
      obtain ⟨lo1, hi1, lo2, hi2, h1⟩ : ∃ lo hi lo' hi', Bss W lo hi lo' hi' (.slice a5 2 c5) [M, G] := hd 5 (List.Mem.head _)
      go_simp
      refine gives_call (Bin.join _ _ _ _ _ _ W h1 (by have := HL.out; simp [total]; omega)) ?_
      rintro e w3 ⟨u, rfl, k3, b3⟩
      have b4 := b3.base hW.size
      rw [HT.out] at b4
      exact ⟨_, rfl, k3, b4.form, b4⟩
    obtain ⟨a6, c6, rfl⟩ : ∃ a c, v6 = .slice a T.length c := hv
    simp only [Act.put, List.setIfInBounds_toArray, List.set_cons_zero, List.set_cons_succ]
    iterate 2 (refine wpPar_pure rfl (by rfl) _ (fun W hW => by
        go_simp
        exact rfl) ?_; simp only [Act.put, List.setIfInBounds_toArray, List.set_cons_zero, List.set_cons_succ])
    refine wpPar_nil (fun W hW hG => ?_)
    have hb : Ob W w1.heap.size (.slice a6 T.length c6) T := hG 6
    have hb1 := hb.base k1.size
    have kW := k1.then hW (fun _ _ h => h)
    clear hG hb hc0 hc1 hc2 hc3 hc4 hc5 hc6 hs k1 hW
    go_wp2
    go_ret2
    exact ⟨_, rfl, kW, hb1⟩
end Pp
end Go.Proofs.Ytibkijloibnkfaa
