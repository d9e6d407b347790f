/- postmarklaw6.TreeTells: true. -/
import Derived.Test.YtalkkiliepaikaaBelow6
import Derived.Test.YtalkkiliepaikaaOrder6
namespace Go.Pm
open Go Go.RowKit
/-- A bit of a hash, wherever. -/
def bitZ (h : List UInt8) (i : Int) : Int := if 0 ≤ i ∧ i < 256 then (bitI h i.toNat : Nat) else 0
theorem wpList_build_two {P : Program} {ops : Array Oper} {rest : List Oper} {o : Oper} {a : Act} {w : World} {Q : Exit → Act → World → Prop} (hgd : o.guard = none) {t : TypeId} {x y : Operand} {u z v : Value} (ho : o.op = .build t #[(0, x), (1, y)]) (hx : a.eval x = u) (hy : a.eval y = z)
    (hr : (Instr.build t #[(0, u), (1, z)]).run P w = .ok v w) (h : wpList P ops Q rest (a.put o.dst v) w) : wpList P ops Q (o :: rest) a w :=
  wpList_plain hgd fun _ hK => by
    have hb : (execOp a.eval o).run P w = .ok (.value v) w := run_execOp_build ho (by subst hx hy; simpa using hr)
    unfold Oper.wp
    rw [hb]
    exact hK _ _ h
end Go.Pm
namespace Go.Proofs.Ytalkkiliepaikaa
open Go.RowKit Go.Pm

namespace RTr
theorem bitZ_holds (h : List UInt8) (hl : h.length = 32) (i : Int) (w : World) : Calls Try.prog 25 #[hashV h, .int .i64 i] w fun e w' => e = .returned (.int .i64 (bitZ h i)) ∧ Kept None w w' := by
  unfold bitZ
  by_cases hi : 0 ≤ i ∧ i < 256
  · rw [if_pos hi]
    have q := bit h hl i.toNat (by omega) w
    rwa [Int.toNat_of_nonneg hi.1] at q
  · rw [if_neg hi]
    exact bit_out h i (by omega) w
end RTr
namespace Tr
theorem bitZ_holds (h : List UInt8) (hl : h.length = 32) (i : Int) (w : World) : Calls Try.prog 24 #[hashV h, .int .i64 i] w fun e w' => e = .returned (.int .i64 (bitZ h i)) ∧ Kept None w w' := by
  unfold bitZ
  by_cases hi : 0 ≤ i ∧ i < 256
  · rw [if_pos hi]
    have q := bit h hl i.toNat (by omega) w
    rwa [Int.toNat_of_nonneg hi.1] at q
  · rw [if_neg hi]
    exact bit_out h i (by omega) w
set_option maxRecDepth 100000 in
set_option maxHeartbeats 1000000 in
theorem treeTells (n : ByteArray) (ver : Int) (key : Nat) (a b : List UInt8) (v5 v6 v7 : Value) (lo hi lo' hi' lo'' hi'' : Nat) (raw : List It) (l m : List Int) (i : Int) (w : World)
    (hkey : key < 18446744073709551616) (ha : a.length = 32) (hb : b.length = 32) (hraw : Its w lo hi v5 raw) (hl : U16s w lo' hi' v6 l) (hm : U16s w lo'' hi'' v7 m) :
    Calls Try.prog 3 #[.string n, .int .i64 ver, .int .u64 key, hashV a, hashV b, v5, v6, v7, .int .i64 i] w fun e w' => e = .returned (.bool true) ∧ Kept None w w' := by
  show Calls Try.prog 3 #[.string n, .int .i64 ver, .int .u64 key, .agg (a.map u8v).toArray, .agg (b.map u8v).toArray, v5, v6, v7, .int .i64 i] w fun e w' => e = .returned (.bool true) ∧ Kept None w w'
  obtain ⟨a5, c5, rfl, _, _⟩ := hraw.form
  obtain ⟨a6, c6, rfl, _, _⟩ := hl.form
  obtain ⟨a7, c7, rfl, _, _⟩ := hm.form
  obtain ⟨LA, hLA⟩ : ∃ LA, LA = a.map u8v := ⟨_, rfl⟩
  obtain ⟨LB, hLB⟩ : ∃ LB, LB = b.map u8v := ⟨_, rfl⟩
  rw [← hLA, ← hLB]
  have HAB := hid (And.intro hLA hLB)
  have HL := hid hl
  have HM := hid hm
  have HRAW := hid hraw
  have HH := hid (And.intro ha hb)
  have HKEY := hid hkey
  obtain ⟨nr, hnr⟩ : ∃ nr, nr = raw.length := ⟨_, rfl⟩
  obtain ⟨nl, hnl⟩ : ∃ nl, nl = l.length := ⟨_, rfl⟩
  obtain ⟨nm, hnm⟩ : ∃ nm, nm = m.length := ⟨_, rfl⟩
  rw [← hnr] at HRAW ⊢
  rw [← hnl] at HL ⊢
  rw [← hnm] at HM ⊢
  have HN := hid (And.intro hnr (And.intro hnl hnm))
  have kx : Kept None w ((w.alloc (.cells LA.toArray 24)).alloc (.cells LB.toArray 24)) := ((Kept.refl _ _).alloc _).alloc _
  have hBA : Blk ((w.alloc (.cells LA.toArray 24)).alloc (.cells LB.toArray 24)) w.heap.size LA.toArray 24 := (Blk.new w _ _).alloc _
  have hBB : Blk ((w.alloc (.cells LA.toArray 24)).alloc (.cells LB.toArray 24)) (w.heap.size + 1) LB.toArray 24 := Blk.new2 w _ _ _
  clear hraw hl hm ha hb hkey hLA hLB hnr hnl hnm
  go_enter Try.func3, Try.ntmps3
  go_wp2_with fail
  obtain ⟨wx, hwx⟩ : ∃ wx, wx = ((w.alloc (.cells LA.toArray 24)).alloc (.cells LB.toArray 24)) := ⟨_, rfl⟩
  rw [← hwx] at kx hBA hBB ⊢
  clear hwx
  refine (known _).mono ?_
  rintro e w1 ⟨rfl, k1⟩
  have k01 := kx.trans k1
  have hBA1 := hBA.kept k1 (fun h => h)
  have hBB1 := hBB.kept k1 (fun h => h)
  clear kx k1 hBA hBB
  by_cases h1 : 60 < n.size
  · have hz1 : (60 : Int) < (n.size : Int) := by omega
    go_wp2
    go_ret
    exact ⟨rfl, k01⟩
  have hz1 : decide ((60 : Int) < (n.size : Int)) = false := decide_eq_false (by omega)
  by_cases h2 : 20 < nr
  · have hz2 : (20 : Int) < (nr : Int) := by omega
    go_wp2
    go_ret
    exact ⟨rfl, k01⟩
  have hz2 : decide ((20 : Int) < (nr : Int)) = false := decide_eq_false (by omega)
  by_cases h3 : 30 < nl
  · have hz3 : (30 : Int) < (nl : Int) := by omega
    go_wp2
    go_ret
    exact ⟨rfl, k01⟩
  have hz3 : decide ((30 : Int) < (nl : Int)) = false := decide_eq_false (by omega)
  by_cases h4 : 20 < nm
  · have hz4 : (20 : Int) < (nm : Int) := by omega
    go_wp2
    go_ret
    exact ⟨rfl, k01⟩
  have hz4 : decide ((20 : Int) < (nm : Int)) = false := decide_eq_false (by omega)
  go_wp2_with fail
  refine (items _ _ _ l w1 (by have := HL.out.kept k01 (fun _ _ _ h => h); rw [HN.out.2.1] at this ⊢; exact this) (by have := HN.out; omega)).mono ?_
  rintro e w2 ⟨v2, xs, rfl, hxs, hxl, k2⟩
  have k02 := k01.trans k2
  have hBA2 := hBA1.kept k2 (fun h => h)
  have hBB2 := hBB1.kept k2 (fun h => h)
  have HXL := hid hxl
  clear hxl k01 hBA1 hBB1
  go_wp2_with fail
  refine (items _ _ _ m w2 (by have := HM.out.kept k02 (fun _ _ _ h => h); rw [HN.out.2.2] at this ⊢; exact this) (by have := HN.out; omega)).mono ?_
  rintro e w3 ⟨v3, ys, rfl, hys, hyl, k3⟩
  have k03 := k02.trans k3
  have hBA3 := hBA2.kept k3 (fun h => h)
  have hBB3 := hBB2.kept k3 (fun h => h)
  have HYL := hid hyl
  have HX := hid (hxs.its (Nat.le_refl _))
  have HY := hid (hys.its (Nat.le_refl _))
  have HR := hid (HRAW.out.kept k03 (fun _ _ _ h => h))
  obtain ⟨ax, cx, rfl⟩ := hxs.form
  obtain ⟨ay, cy, rfl⟩ := hys.form
  obtain ⟨nx, hnx⟩ : ∃ nx, nx = xs.length := ⟨_, rfl⟩
  obtain ⟨ny, hny⟩ : ∃ ny, ny = ys.length := ⟨_, rfl⟩
  rw [← hnx] at HX ⊢
  rw [← hny] at HY ⊢
  have HNX := hid (And.intro hnx hny)
  have HBA := hid hBA3
  have HBB := hid hBB3
  have HK := hid k03
  have HK3 := hid k3
  clear hyl k02 hBA2 hBB2 hxs hys hnx hny hBA3 hBB3 k03 k2 k3 HRAW
  have kz : Kept None w3 (w3.alloc (.cells #[.slice a5 nr c5, .slice ax nx cx, .slice ax nx cx, .slice ay ny cy, .slice ax nx cx, .slice a5 nr c5, .slice ay ny cy, .slice none 0 0] 29)) := (Kept.refl _ _).alloc _
  have hG : Blk (w3.alloc (.cells #[.slice a5 nr c5, .slice ax nx cx, .slice ax nx cx, .slice ay ny cy, .slice ax nx cx, .slice a5 nr c5, .slice ay ny cy, .slice none 0 0] 29)) w3.heap.size #[.slice a5 nr c5, .slice ax nx cx, .slice ax nx cx, .slice ay ny cy, .slice ax nx cx, .slice a5 nr c5, .slice ay ny cy, .slice none 0 0] 29 := Blk.new _ _ _
  obtain ⟨w4, hw4⟩ : ∃ w4, w4 = w3.alloc (.cells #[.slice a5 nr c5, .slice ax nx cx, .slice ax nx cx, .slice ay ny cy, .slice ax nx cx, .slice a5 nr c5, .slice ay ny cy, .slice none 0 0] 29) := ⟨_, rfl⟩
  have HW4 := hid hw4
  rw [← hw4] at kz hG
  have hpair : ∀ k, k < 4 → ∃ (s0 : Option Addr) (n0 c0 : Nat) (s1 : Option Addr) (n1 c1 : Nat) (p0 p1 : List It) (l0 h0 l1 h1 : Nat), w4.rangeAt w3.heap.size (k * 2) [.slice s0 n0 c0, .slice s1 n1 c1] ∧ Its w4 l0 h0 (.slice s0 n0 c0) p0 ∧ Its w4 l1 h1 (.slice s1 n1 c1) p1 ∧ p0.length ≤ 30 ∧ p1.length ≤ 30 := fun k hk => by
    have iR := HR.out.kept kz (fun _ _ _ h => h)
    have iX := HX.out.kept (HK3.out.trans kz) (fun _ _ _ h => h)
    have iY := HY.out.kept kz (fun _ _ _ h => h)
    have e1 := HN.out
    have e2 := HXL.out
    have e3 := HYL.out
    have cell : ∀ (u v : Value), (#[.slice a5 nr c5, .slice ax nx cx, .slice ax nx cx, .slice ay ny cy, .slice ax nx cx, .slice a5 nr c5, .slice ay ny cy, .slice none 0 0] : Array Value)[k * 2]? = some u → (#[.slice a5 nr c5, .slice ax nx cx, .slice ax nx cx, .slice ay ny cy, .slice ax nx cx, .slice a5 nr c5, .slice ay ny cy, .slice none 0 0] : Array Value)[k * 2 + 1]? = some v → w4.rangeAt w3.heap.size (k * 2) [u, v] := fun u v h1 h2 j c hj => by
      rw [hG.cell]
      match j, hj with
      | 0, hj => rw [Nat.add_zero, h1]; simpa using hj
      | 1, hj => rw [h2]; simpa using hj
    match k, hk with
    | 0, _ => exact ⟨_, _, _, _, _, _, raw, xs, _, _, _, _, cell _ _ rfl rfl, iR, iX, by omega, by omega⟩
    | 1, _ => exact ⟨_, _, _, _, _, _, xs, ys, _, _, _, _, cell _ _ rfl rfl, iX, iY, by omega, by omega⟩
    | 2, _ => exact ⟨_, _, _, _, _, _, xs, raw, _, _, _, _, cell _ _ rfl rfl, iX, iR, by omega, by omega⟩
    | 3, _ => exact ⟨_, _, _, _, _, _, ys, [], _, _, 0, 0, cell _ _ rfl rfl, iY, Its.nil _ _ _, by omega, by simp⟩
  have HP := hid hpair
  have HK4 := hid (HK.out.trans kz)
  have HBA4 := hid (HBA.out.kept kz (fun h => h))
  have HBB4 := hid (HBB.out.kept kz (fun h => h))
  clear kz hG hpair hw4
  go_wp2
  rw [← HW4.out]
  go_loopg [22, 61] 4 (fun kx s22 s61 wr => ∃ (k : Nat) (u22 : Value), s22 = u22 ∧ s61 = .int .i64 k ∧ k ≤ 4 ∧ 4 - k ≤ kx ∧ Hid (Kept None w4 wr))
  case atStart => exact ⟨0, _, rfl, rfl, Nat.zero_le _, Nat.le_refl _, Kept.refl _ _⟩
  case round =>
    obtain ⟨k, u22, rfl, rfl, hk, hkx, HQ⟩ := hrel
    by_cases hlt : k < 4
    · have hzk : (k : Int) < 4 := by omega
      obtain ⟨s0, n0, c0, s1, n1, c1, p0, p1, l0, h0, l1, h1', hrg, i0, i1, m0, m1⟩ := HP.out k hlt
      have hrr := rangeAt_kept hrg HQ.out
      have a2 : AggTy Try.prog 29 ([.slice s0 n0 c0, .slice s1 n1 c1] : List Value).length := aggOf (by kernel_rfl) (by kernel_rfl)
      have I0 := hid (i0.kept HQ.out (fun _ _ _ h => h))
      have I1 := hid (i1.kept HQ.out (fun _ _ _ h => h))
      have HM2 := hid (And.intro m0 m1)
      clear hrg i0 i1 m0 m1
      go_wp2_with (first | (refine wpList_load_at (.refl _) _ _ rfl rfl hrr a2 ?_) | fail)
      have kB : Kept None wr (wr.alloc (.cells #[.slice s0 n0 c0, .slice s1 n1 c1] 29)) := (Kept.refl _ _).alloc _
      have hB7 : Blk (wr.alloc (.cells #[.slice s0 n0 c0, .slice s1 n1 c1] 29)) wr.heap.size #[.slice s0 n0 c0, .slice s1 n1 c1] 29 := Blk.new _ _ _
      obtain ⟨wB, hwB⟩ : ∃ wB, wB = wr.alloc (.cells #[.slice s0 n0 c0, .slice s1 n1 c1] 29) := ⟨_, rfl⟩
      rw [← hwB] at kB hB7 ⊢
      clear hwB
      have hK0 : ∀ W, Kept None wB W → W.cell? ⟨wr.heap.size, 0, none⟩ = some (.slice s0 n0 c0) := fun W hW => by rw [hW.cell hB7.lt (fun h => h), hB7.cell]; rfl
      have hK1 : ∀ W, Kept None wB W → W.cell? ⟨wr.heap.size, 1, none⟩ = some (.slice s1 n1 c1) := fun W hW => by rw [hW.cell hB7.lt (fun h => h), hB7.cell]; rfl
      have iP := I0.out.kept kB (fun _ _ _ h => h)
      have iQ := I1.out.kept kB (fun _ _ _ h => h)
      obtain ⟨S, hS⟩ : ∃ S, S = setI (p0 ++ p1) := ⟨_, rfl⟩
      have hSl : S.length ≤ 60 := by have h := len_setI (p0 ++ p1); rw [← hS, List.length_append] at h; have := HM2.out; omega
      obtain ⟨res, hres⟩ : ∃ res, res = rootOf p0 := ⟨_, rfl⟩
      have H32 : res.length = 32 := by rw [hres]; exact Go.Pm.rootI_len 256 (srt_setI p0) (full_setI iP.1) (fun _ _ _ _ k hk => by omega) (Nat.le_refl _)
      have e3 := neqHash res res H32 H32
      simp only [beq_self_eq_true, Bool.not_true] at e3
      obtain ⟨CR, hCR⟩ : ∃ CR, CR = res.map u8v := ⟨_, rfl⟩
      rw [← hCR] at e3
      have f0 : ∀ W, Its W l0 h0 (.slice s0 n0 c0) p0 → Its W l1 h1' (.slice s1 n1 c1) p1 → Calls Try.prog 10 #[.slice s0 n0 c0, .slice s1 n1 c1] W fun e w' => ∃ v, e = .returned v ∧ Ito 35 w' W.heap.size v S ∧ Kept None W w' := fun W q1 q2 => by rw [hS]; exact set _ _ _ _ _ _ p0 p1 W q1 q2 (by have := HM2.out; omega)
      have f1 : ∀ W, Its W l0 h0 (.slice s0 n0 c0) p0 → Its W l1 h1' (.slice s1 n1 c1) p1 → Calls Try.prog 11 #[.slice s0 n0 c0, .slice s1 n1 c1] W fun e w' => ∃ v, e = .returned v ∧ Ito 35 w' W.heap.size v S ∧ Kept None W w' := fun W q1 q2 => by rw [hS]; exact RTr.set _ _ _ _ _ _ p0 p1 W q1 q2 (by have := HM2.out; omega)
      have f2 : ∀ v1 v2 lo hi lo' hi' W, Its W lo hi v1 S → Its W lo' hi' v2 S → Calls Try.prog 9 #[v1, v2] W fun e w' => e = .returned (.bool true) ∧ Kept None W w' := fun v1 v2 lo hi lo' hi' W q1 q2 => same v1 v2 lo hi lo' hi' S W q1 q2 (by omega)
      have f3 : ∀ W, Its W l0 h0 (.slice s0 n0 c0) p0 → Calls Try.prog 12 #[.slice s0 n0 c0] W fun e w' => e = .returned (.agg CR.toArray) ∧ Kept None W w' := fun W q => by rw [hCR, hres]; exact root _ _ _ p0 W q (by have := HM2.out; omega)
      have f4 : ∀ W, Its W l0 h0 (.slice s0 n0 c0) p0 → Calls Try.prog 13 #[.slice s0 n0 c0] W fun e w' => e = .returned (.agg CR.toArray) ∧ Kept None W w' := fun W q => by rw [hCR, hres]; exact RTr.root_of _ _ _ p0 W q (by have := HM2.out; omega)
      have HR9 := hid (And.intro f0 (And.intro f1 (And.intro f2 (And.intro f3 f4))))
      have k4B := HQ.out.trans kB
      clear f0 f1 f2 f3 f4 hS hSl hres hCR H32 kB hB7 I0 I1 hrr a2 HQ
      have hs : Steady [.its 4 S, .its 9 S, .val 10 (.bool true) [4, 9], .val 15 (.agg CR.toArray), .val 18 (.agg CR.toArray)] := Steady.its (Steady.its (Steady.val (Steady.val (Steady.val (Steady.nil)))))
      refine wp_region_kn wB _ hs (Kept.refl _ _) (by kernel_rfl) (by kernel_rfl) (by kernel_rfl) ?_
      iterate 4 (refine wpPar_pure rfl (by rfl) _ (fun W hW => by
          have q0 := hK0 W hW
          have q1 := hK1 W hW
          go_simp
          exact rfl) ?_; simp only [Act.put, List.setIfInBounds_toArray, List.set_cons_zero, List.set_cons_succ])
      refine wpKn_adds hs rfl (by rfl) (fun W hW hd => ?_) (fun v4 hv => ?_)
      · unfold Gives
        go_simp
        refine gives_call (HR9.out.1 W (iP.kept hW (fun _ _ _ h => h)) (iQ.kept hW (fun _ _ _ h => h))) ?_
        rintro e w3 ⟨u, rfl, hO, k3⟩
        exact ⟨_, rfl, k3, hO.form, _, _, hO.its (Nat.le_refl _)⟩
      obtain ⟨a4, c4, rfl⟩ : ∃ a c, v4 = .slice a S.length c := hv
      simp only [Act.put, List.setIfInBounds_toArray, List.set_cons_zero, List.set_cons_succ]
      iterate 4 (refine wpPar_pure rfl (by rfl) _ (fun W hW => by
          have q0 := hK0 W hW
          have q1 := hK1 W hW
          go_simp
          exact rfl) ?_; simp only [Act.put, List.setIfInBounds_toArray, List.set_cons_zero, List.set_cons_succ])
      refine wpKn_adds hs rfl (by rfl) (fun W hW hd => ?_) (fun v9 hv => ?_)
      · unfold Gives
        go_simp
        refine gives_call (HR9.out.2.1 W (iP.kept hW (fun _ _ _ h => h)) (iQ.kept hW (fun _ _ _ h => h))) ?_
        rintro e w3 ⟨u, rfl, hO, k3⟩
        exact ⟨_, rfl, k3, hO.form, _, _, hO.its (Nat.le_refl _)⟩
      obtain ⟨a9, c9, rfl⟩ : ∃ a c, v9 = .slice a S.length c := hv
      simp only [Act.put, List.setIfInBounds_toArray, List.set_cons_zero, List.set_cons_succ]
      refine wpKn_adds hs rfl (by rfl) (fun W hW hd => ?_) (fun v10 hv => ?_)
      · unfold Gives
        obtain ⟨lo2, hi2, h2⟩ : ∃ lo hi, Its W lo hi (.slice a4 S.length c4) S := hd 4 (List.Mem.head _)
        obtain ⟨lo3, hi3, h3⟩ : ∃ lo hi, Its W lo hi (.slice a9 S.length c9) S := hd 9 (List.Mem.tail _ (List.Mem.head _))
        go_simp
        refine gives_call (HR9.out.2.2.1 _ _ _ _ _ _ W h2 h3) ?_
        rintro e w3 ⟨rfl, k3⟩
        exact ⟨_, rfl, k3, rfl, trivial⟩
      obtain rfl : v10 = .bool true := hv
      simp only [Act.put, List.setIfInBounds_toArray, List.set_cons_zero, List.set_cons_succ]
      iterate 4 (refine wpPar_pure rfl (by rfl) _ (fun W hW => by
          have q0 := hK0 W hW
          have q1 := hK1 W hW
          go_simp
          exact rfl) ?_; simp only [Act.put, List.setIfInBounds_toArray, List.set_cons_zero, List.set_cons_succ])
      refine wpKn_adds hs rfl (by rfl) (fun W hW hd => ?_) (fun v15 hv => ?_)
      · unfold Gives
        go_simp
        refine gives_call (HR9.out.2.2.2.1 W (iP.kept hW (fun _ _ _ h => h))) ?_
        rintro e w3 ⟨rfl, k3⟩
        exact ⟨_, rfl, k3, rfl, trivial⟩
      obtain rfl : v15 = .agg CR.toArray := hv
      simp only [Act.put, List.setIfInBounds_toArray, List.set_cons_zero, List.set_cons_succ]
      iterate 2 (refine wpPar_pure rfl (by rfl) _ (fun W hW => by
          have q0 := hK0 W hW
          have q1 := hK1 W hW
          go_simp
          exact rfl) ?_; simp only [Act.put, List.setIfInBounds_toArray, List.set_cons_zero, List.set_cons_succ])
      refine wpKn_adds hs rfl (by rfl) (fun W hW hd => ?_) (fun v18 hv => ?_)
      · unfold Gives
        go_simp
        refine gives_call (HR9.out.2.2.2.2 W (iP.kept hW (fun _ _ _ h => h))) ?_
        rintro e w3 ⟨rfl, k3⟩
        exact ⟨_, rfl, k3, rfl, trivial⟩
      obtain rfl : v18 = .agg CR.toArray := hv
      simp only [Act.put, List.setIfInBounds_toArray, List.set_cons_zero, List.set_cons_succ]
      iterate 2 (refine wpPar_pure rfl (by rfl) _ (fun W hW => by
          go_simp
          exact rfl) ?_; simp only [Act.put, List.setIfInBounds_toArray, List.set_cons_zero, List.set_cons_succ])
      refine wpPar_nil (fun w9 hW hG => ?_)
      have HQ9 := hid (k4B.trans hW)
      clear hG hs hW k4B e3 hK0 hK1 iP iQ
      go_wp2
      go_roundg (4 - (k + 1))
      case measure => omega
      case rel => exact ⟨k + 1, _, rfl, by go_num, by omega, Nat.le_refl _, HQ9⟩
    · have hzk : ¬ (k : Int) < 4 := by omega
      obtain ⟨x, hx⟩ : ∃ x : It, x = ⟨a, b⟩ := ⟨_, rfl⟩
      have hxl : x.i.length = 32 ∧ x.v.length = 32 := by rw [hx]; exact HH.out
      have h64 := itC_len hxl
      have e1 := eqHash (indexH n) (indexH n) (indexH_len _) (indexH_len _)
      have e2 := eqHash (valueH ver key) (valueH ver key) (valueH_len _ _) (valueH_len _ _)
      have e3 := eqHash (leafH x) (leafH x) (sumB_len _) (sumB_len _)
      have e4 := eqHash (nodeH a b) (nodeH a b) (sumB_len _) (sumB_len _)
      have e5 := eqHash emptyH emptyH (sumB_len _) (sumB_len _)
      simp only [beq_self_eq_true] at e1 e2 e3 e4 e5
      obtain ⟨CI, hCI⟩ : ∃ CI, CI = (indexH n).map u8v := ⟨_, rfl⟩
      obtain ⟨CV, hCV⟩ : ∃ CV, CV = (valueH ver key).map u8v := ⟨_, rfl⟩
      obtain ⟨CL, hCL⟩ : ∃ CL, CL = (leafH x).map u8v := ⟨_, rfl⟩
      obtain ⟨CN, hCN⟩ : ∃ CN, CN = (nodeH a b).map u8v := ⟨_, rfl⟩
      obtain ⟨CE, hCE⟩ : ∃ CE, CE = emptyH.map u8v := ⟨_, rfl⟩
      obtain ⟨CX, hCX⟩ : ∃ CX, CX = itC x := ⟨_, rfl⟩
      obtain ⟨B1, hB1⟩ : ∃ B1, B1 = bitZ a i := ⟨_, rfl⟩
      obtain ⟨J, hJ⟩ : ∃ J, J = bits .and .i64 i 255 := ⟨_, rfl⟩
      obtain ⟨B2, hB2⟩ : ∃ B2, B2 = bitZ a J := ⟨_, rfl⟩
      rw [← hCI] at e1
      rw [← hCV] at e2
      rw [← hCL] at e3
      rw [← hCN] at e4
      rw [← hCE] at e5
      have qJ : bits .and .i64 i 255 = J := hJ.symm
      have hA1 := HAB.out.1
      have hA2 := HAB.out.2
      have hz60 : n.size ≤ 274877906944 := by omega
      have hitem : itemV x = .agg CX.toArray := by rw [hCX]; simp [itemV, itC]
      have HBD : Hid (∀ W, (Instr.build 35 #[(0, .agg LA.toArray), (1, .agg LB.toArray)]).run Try.prog W = .ok (.agg CX.toArray) W) := hid (fun W => by rw [← hitem, hx, hA1, hA2]; exact build_item W a b HH.out.1 HH.out.2)
      have t1 : ∀ W, Calls Try.prog 14 #[.string n] W fun e w' => e = .returned (.agg CI.toArray) ∧ Kept None W w' := fun W => by rw [hCI]; exact index n W hz60
      have r1 : ∀ W, Calls Try.prog 15 #[.string n] W fun e w' => e = .returned (.agg CI.toArray) ∧ Kept None W w' := fun W => by rw [hCI]; exact RTr.index n W hz60
      have F1 := hid (And.intro t1 r1)
      have t2 : ∀ W, Calls Try.prog 16 #[.int .i64 ver, .int .u64 key] W fun e w' => e = .returned (.agg CV.toArray) ∧ Kept None W w' := fun W => by rw [hCV]; exact value ver key W HKEY.out
      have r2 : ∀ W, Calls Try.prog 17 #[.int .i64 ver, .int .u64 key] W fun e w' => e = .returned (.agg CV.toArray) ∧ Kept None W w' := fun W => by rw [hCV]; exact RTr.value ver key W HKEY.out
      have F2 := hid (And.intro t2 r2)
      have t3 : ∀ W, Calls Try.prog 18 #[.agg CX.toArray] W fun e w' => e = .returned (.agg CL.toArray) ∧ Kept None W w' := fun W => by rw [hCL, ← hitem]; exact leaf x W hxl
      have r3 : ∀ W, Calls Try.prog 19 #[.agg CX.toArray] W fun e w' => e = .returned (.agg CL.toArray) ∧ Kept None W w' := fun W => by rw [hCL, ← hitem]; exact RTr.leaf x W hxl
      have F3 := hid (And.intro t3 r3)
      have t4 : ∀ W, Calls Try.prog 20 #[.agg LA.toArray, .agg LB.toArray] W fun e w' => e = .returned (.agg CN.toArray) ∧ Kept None W w' := fun W => by rw [hCN, hA1, hA2]; exact node a b W HH.out.1 HH.out.2
      have r4 : ∀ W, Calls Try.prog 21 #[.agg LA.toArray, .agg LB.toArray] W fun e w' => e = .returned (.agg CN.toArray) ∧ Kept None W w' := fun W => by rw [hCN, hA1, hA2]; exact RTr.node a b W HH.out.1 HH.out.2
      have F4 := hid (And.intro t4 r4)
      have t5 : ∀ W, Calls Try.prog 22 #[] W fun e w' => e = .returned (.agg CE.toArray) ∧ Kept None W w' := fun W => by rw [hCE]; exact empty W
      have r5 : ∀ W, Calls Try.prog 23 #[] W fun e w' => e = .returned (.agg CE.toArray) ∧ Kept None W w' := fun W => by rw [hCE]; exact RTr.empty W
      have F5 := hid (And.intro t5 r5)
      have t6 : ∀ W, Calls Try.prog 24 #[.agg LA.toArray, .int .i64 i] W fun e w' => e = .returned (.int .i64 B1) ∧ Kept None W w' := fun W => by rw [hB1, hA1]; exact bitZ_holds a HH.out.1 i W
      have r6 : ∀ W, Calls Try.prog 25 #[.agg LA.toArray, .int .i64 i] W fun e w' => e = .returned (.int .i64 B1) ∧ Kept None W w' := fun W => by rw [hB1, hA1]; exact RTr.bitZ_holds a HH.out.1 i W
      have F6 := hid (And.intro t6 r6)
      have t7 : ∀ W, Calls Try.prog 24 #[.agg LA.toArray, .int .i64 J] W fun e w' => e = .returned (.int .i64 B2) ∧ Kept None W w' := fun W => by rw [hB2, hA1]; exact bitZ_holds a HH.out.1 J W
      have r7 : ∀ W, Calls Try.prog 25 #[.agg LA.toArray, .int .i64 J] W fun e w' => e = .returned (.int .i64 B2) ∧ Kept None W w' := fun W => by rw [hB2, hA1]; exact RTr.bitZ_holds a HH.out.1 J W
      have F7 := hid (And.intro t7 r7)
      have lX : CX.length = 64 := by rw [hCX]; exact h64
      have lA : LA.length = 32 := by rw [hA1, List.length_map]; exact HH.out.1
      have lB : LB.length = 32 := by rw [hA2, List.length_map]; exact HH.out.2
      have aX : AggTy Try.prog 35 CX.length := by rw [lX]; exact RTr.aI64
      have aA : AggTy Try.prog 24 LA.length := by rw [lA]; exact Sp.aH
      have aB : AggTy Try.prog 24 LB.length := by rw [lB]; exact Sp.aH
      have aX' : AggTy Try.prog 35 CX.toArray.size := by simpa using aX
      have aA' : AggTy Try.prog 24 LA.toArray.size := by simpa using aA
      have aB' : AggTy Try.prog 24 LB.toArray.size := by simpa using aB
      have A1 : CX.toArray.all (·.oneCell') = true := all_oneCell_toArray (fun c hc => itsC_one [x] c (by simpa [itsC, ← hCX] using hc))
      have hBAr := HBA4.out.kept HQ.out (fun h => h)
      have hBBr := HBB4.out.kept HQ.out (fun h => h)
      have k0r := HK4.out.trans HQ.out
      have kz : Kept None w (wr.alloc (.cells #[.int .u8 0, .int .u8 0, .int .u8 0, .int .u8 0, .int .u8 0, .int .u8 0, .int .u8 0, .int .u8 0, .int .u8 0, .int .u8 0, .int .u8 0, .int .u8 0, .int .u8 0, .int .u8 0, .int .u8 0, .int .u8 0, .int .u8 0, .int .u8 0, .int .u8 0, .int .u8 0, .int .u8 0, .int .u8 0, .int .u8 0, .int .u8 0, .int .u8 0, .int .u8 0, .int .u8 0, .int .u8 0, .int .u8 0, .int .u8 0, .int .u8 0, .int .u8 0, .int .u8 0, .int .u8 0, .int .u8 0, .int .u8 0, .int .u8 0, .int .u8 0, .int .u8 0, .int .u8 0, .int .u8 0, .int .u8 0, .int .u8 0, .int .u8 0, .int .u8 0, .int .u8 0, .int .u8 0, .int .u8 0, .int .u8 0, .int .u8 0, .int .u8 0, .int .u8 0, .int .u8 0, .int .u8 0, .int .u8 0, .int .u8 0, .int .u8 0, .int .u8 0, .int .u8 0, .int .u8 0, .int .u8 0, .int .u8 0, .int .u8 0, .int .u8 0] 35)) := k0r.alloc _
      have v0 := Blk.new wr #[.int .u8 0, .int .u8 0, .int .u8 0, .int .u8 0, .int .u8 0, .int .u8 0, .int .u8 0, .int .u8 0, .int .u8 0, .int .u8 0, .int .u8 0, .int .u8 0, .int .u8 0, .int .u8 0, .int .u8 0, .int .u8 0, .int .u8 0, .int .u8 0, .int .u8 0, .int .u8 0, .int .u8 0, .int .u8 0, .int .u8 0, .int .u8 0, .int .u8 0, .int .u8 0, .int .u8 0, .int .u8 0, .int .u8 0, .int .u8 0, .int .u8 0, .int .u8 0, .int .u8 0, .int .u8 0, .int .u8 0, .int .u8 0, .int .u8 0, .int .u8 0, .int .u8 0, .int .u8 0, .int .u8 0, .int .u8 0, .int .u8 0, .int .u8 0, .int .u8 0, .int .u8 0, .int .u8 0, .int .u8 0, .int .u8 0, .int .u8 0, .int .u8 0, .int .u8 0, .int .u8 0, .int .u8 0, .int .u8 0, .int .u8 0, .int .u8 0, .int .u8 0, .int .u8 0, .int .u8 0, .int .u8 0, .int .u8 0, .int .u8 0, .int .u8 0] 35
      obtain ⟨z, hz, hRz⟩ : ∃ z : Array Value, z.size = 64 ∧ Blk (wr.alloc (.cells #[.int .u8 0, .int .u8 0, .int .u8 0, .int .u8 0, .int .u8 0, .int .u8 0, .int .u8 0, .int .u8 0, .int .u8 0, .int .u8 0, .int .u8 0, .int .u8 0, .int .u8 0, .int .u8 0, .int .u8 0, .int .u8 0, .int .u8 0, .int .u8 0, .int .u8 0, .int .u8 0, .int .u8 0, .int .u8 0, .int .u8 0, .int .u8 0, .int .u8 0, .int .u8 0, .int .u8 0, .int .u8 0, .int .u8 0, .int .u8 0, .int .u8 0, .int .u8 0, .int .u8 0, .int .u8 0, .int .u8 0, .int .u8 0, .int .u8 0, .int .u8 0, .int .u8 0, .int .u8 0, .int .u8 0, .int .u8 0, .int .u8 0, .int .u8 0, .int .u8 0, .int .u8 0, .int .u8 0, .int .u8 0, .int .u8 0, .int .u8 0, .int .u8 0, .int .u8 0, .int .u8 0, .int .u8 0, .int .u8 0, .int .u8 0, .int .u8 0, .int .u8 0, .int .u8 0, .int .u8 0, .int .u8 0, .int .u8 0, .int .u8 0, .int .u8 0] 35)) wr.heap.size z 35 := ⟨_, by rfl, v0⟩
      have E := hid (hz.trans (show 64 = CX.toArray.size by simpa using lX.symm))
      have hBAz := hBAr.alloc (.cells #[.int .u8 0, .int .u8 0, .int .u8 0, .int .u8 0, .int .u8 0, .int .u8 0, .int .u8 0, .int .u8 0, .int .u8 0, .int .u8 0, .int .u8 0, .int .u8 0, .int .u8 0, .int .u8 0, .int .u8 0, .int .u8 0, .int .u8 0, .int .u8 0, .int .u8 0, .int .u8 0, .int .u8 0, .int .u8 0, .int .u8 0, .int .u8 0, .int .u8 0, .int .u8 0, .int .u8 0, .int .u8 0, .int .u8 0, .int .u8 0, .int .u8 0, .int .u8 0, .int .u8 0, .int .u8 0, .int .u8 0, .int .u8 0, .int .u8 0, .int .u8 0, .int .u8 0, .int .u8 0, .int .u8 0, .int .u8 0, .int .u8 0, .int .u8 0, .int .u8 0, .int .u8 0, .int .u8 0, .int .u8 0, .int .u8 0, .int .u8 0, .int .u8 0, .int .u8 0, .int .u8 0, .int .u8 0, .int .u8 0, .int .u8 0, .int .u8 0, .int .u8 0, .int .u8 0, .int .u8 0, .int .u8 0, .int .u8 0, .int .u8 0, .int .u8 0] 35)
      have hBBz := hBBr.alloc (.cells #[.int .u8 0, .int .u8 0, .int .u8 0, .int .u8 0, .int .u8 0, .int .u8 0, .int .u8 0, .int .u8 0, .int .u8 0, .int .u8 0, .int .u8 0, .int .u8 0, .int .u8 0, .int .u8 0, .int .u8 0, .int .u8 0, .int .u8 0, .int .u8 0, .int .u8 0, .int .u8 0, .int .u8 0, .int .u8 0, .int .u8 0, .int .u8 0, .int .u8 0, .int .u8 0, .int .u8 0, .int .u8 0, .int .u8 0, .int .u8 0, .int .u8 0, .int .u8 0, .int .u8 0, .int .u8 0, .int .u8 0, .int .u8 0, .int .u8 0, .int .u8 0, .int .u8 0, .int .u8 0, .int .u8 0, .int .u8 0, .int .u8 0, .int .u8 0, .int .u8 0, .int .u8 0, .int .u8 0, .int .u8 0, .int .u8 0, .int .u8 0, .int .u8 0, .int .u8 0, .int .u8 0, .int .u8 0, .int .u8 0, .int .u8 0, .int .u8 0, .int .u8 0, .int .u8 0, .int .u8 0, .int .u8 0, .int .u8 0, .int .u8 0, .int .u8 0] 35)
      have la := hBAr.lt
      have lb := hBBr.lt
      have hszr := k0r.size
      clear t1 r1 t2 r2 t3 r3 t4 r4 t5 r5 t6 r6 t7 r7 hCI hCV hCL hCN hCE hCX hB1 hJ hB2 hA1 hA2 hitem hx hxl h64 v0 hz lX lA lB HP k0r
      go_wp2_with (first | (refine wpList_load_blk (.refl _) _ _ rfl rfl hBAr aA' ?_) | (refine wpList_load_blk (.refl _) _ _ rfl rfl hBBr aB' ?_; refine wpList_build_two (u := .agg LA.toArray) (z := .agg LB.toArray) (.refl _) rfl rfl rfl (HBD.out _) ?_) | (refine wpList_store_blk (.refl _) _ _ _ rfl rfl rfl hRz aX' E.out A1 ?_; intro wB hB7 k7) | fail)
      have kB : Kept None w wB := kz.then k7 (fun i hi (e : i = wr.heap.size) => by omega)
      have hAB := hBAz.kept k7 (fun (e : w.heap.size = wr.heap.size) => by omega)
      have hBB := hBBz.kept k7 (fun (e : w.heap.size + 1 = wr.heap.size) => by omega)
      have hX : wB.rangeAt wr.heap.size 0 CX := fun j c hj => by rw [Nat.zero_add, hB7.cell]; simpa using hj
      have hA : wB.rangeAt w.heap.size 0 LA := fun j c hj => by rw [Nat.zero_add, hAB.cell]; simpa using hj
      have hB : wB.rangeAt (w.heap.size + 1) 0 LB := fun j c hj => by rw [Nat.zero_add, hBB.cell]; simpa using hj
      clear kz k7 hRz hBAr hBBr hBAz hBBz la lb hszr aX' aA' aB' A1 E hB7 hAB hBB
      have hs : Steady [.val 1 (.agg CI.toArray), .val 3 (.agg CI.toArray), .val 8 (.agg CV.toArray), .val 11 (.agg CV.toArray), .val 16 (.agg CL.toArray), .val 18 (.agg CL.toArray), .val 24 (.agg CN.toArray), .val 27 (.agg CN.toArray), .val 31 (.agg CE.toArray), .val 32 (.agg CE.toArray), .val 38 (.int .i64 B1), .val 41 (.int .i64 B1), .val 48 (.int .i64 B2), .val 52 (.int .i64 B2)] := Steady.val (Steady.val (Steady.val (Steady.val (Steady.val (Steady.val (Steady.val (Steady.val (Steady.val (Steady.val (Steady.val (Steady.val (Steady.val (Steady.val (Steady.nil))))))))))))))
      refine wp_region_kn wB _ hs (Kept.refl _ _) (by kernel_rfl) (by kernel_rfl) (by kernel_rfl) ?_
      iterate 1 (refine wpPar_pure rfl (by rfl) _ (fun W hW => by
          go_simp
          exact rfl) ?_; simp only [Act.put, List.setIfInBounds_toArray, List.set_cons_zero, List.set_cons_succ])
      refine wpKn_adds hs rfl (by rfl) (fun W hW hd => ?_) (fun v1 hv => ?_)
      · unfold Gives
        go_simp
        refine gives_call (F1.out.1 W) ?_
        rintro e w3 ⟨rfl, k3⟩
        exact ⟨_, rfl, k3, rfl, trivial⟩
      obtain rfl : v1 = .agg CI.toArray := hv
      simp only [Act.put, List.setIfInBounds_toArray, List.set_cons_zero, List.set_cons_succ]
      iterate 1 (refine wpPar_pure rfl (by rfl) _ (fun W hW => by
          go_simp
          exact rfl) ?_; simp only [Act.put, List.setIfInBounds_toArray, List.set_cons_zero, List.set_cons_succ])
      refine wpKn_adds hs rfl (by rfl) (fun W hW hd => ?_) (fun v3 hv => ?_)
      · unfold Gives
        go_simp
        refine gives_call (F1.out.2 W) ?_
        rintro e w3 ⟨rfl, k3⟩
        exact ⟨_, rfl, k3, rfl, trivial⟩
      obtain rfl : v3 = .agg CI.toArray := hv
      simp only [Act.put, List.setIfInBounds_toArray, List.set_cons_zero, List.set_cons_succ]
      iterate 4 (refine wpPar_pure rfl (by rfl) _ (fun W hW => by
          go_simp
          exact rfl) ?_; simp only [Act.put, List.setIfInBounds_toArray, List.set_cons_zero, List.set_cons_succ])
      refine wpKn_adds hs rfl (by rfl) (fun W hW hd => ?_) (fun v8 hv => ?_)
      · unfold Gives
        go_simp
        refine gives_call (F2.out.1 W) ?_
        rintro e w3 ⟨rfl, k3⟩
        exact ⟨_, rfl, k3, rfl, trivial⟩
      obtain rfl : v8 = .agg CV.toArray := hv
      simp only [Act.put, List.setIfInBounds_toArray, List.set_cons_zero, List.set_cons_succ]
      iterate 2 (refine wpPar_pure rfl (by rfl) _ (fun W hW => by
          go_simp
          exact rfl) ?_; simp only [Act.put, List.setIfInBounds_toArray, List.set_cons_zero, List.set_cons_succ])
      refine wpKn_adds hs rfl (by rfl) (fun W hW hd => ?_) (fun v11 hv => ?_)
      · unfold Gives
        go_simp
        refine gives_call (F2.out.2 W) ?_
        rintro e w3 ⟨rfl, k3⟩
        exact ⟨_, rfl, k3, rfl, trivial⟩
      obtain rfl : v11 = .agg CV.toArray := hv
      simp only [Act.put, List.setIfInBounds_toArray, List.set_cons_zero, List.set_cons_succ]
      iterate 3 (refine wpPar_pure rfl (by rfl) _ (fun W hW => by
          go_simp
          exact rfl) ?_; simp only [Act.put, List.setIfInBounds_toArray, List.set_cons_zero, List.set_cons_succ])
      refine wpPar_pure rfl (by rfl) _ (fun W hW => exec_load_at rfl rfl (rangeAt_kept hX hW) aX) ?_; simp only [Act.put, List.setIfInBounds_toArray, List.set_cons_zero, List.set_cons_succ]
      refine wpKn_adds hs rfl (by rfl) (fun W hW hd => ?_) (fun v16 hv => ?_)
      · unfold Gives
        go_simp
        refine gives_call (F3.out.1 W) ?_
        rintro e w3 ⟨rfl, k3⟩
        exact ⟨_, rfl, k3, rfl, trivial⟩
      obtain rfl : v16 = .agg CL.toArray := hv
      simp only [Act.put, List.setIfInBounds_toArray, List.set_cons_zero, List.set_cons_succ]
      refine wpPar_pure rfl (by rfl) _ (fun W hW => exec_load_at rfl rfl (rangeAt_kept hX hW) aX) ?_; simp only [Act.put, List.setIfInBounds_toArray, List.set_cons_zero, List.set_cons_succ]
      refine wpKn_adds hs rfl (by rfl) (fun W hW hd => ?_) (fun v18 hv => ?_)
      · unfold Gives
        go_simp
        refine gives_call (F3.out.2 W) ?_
        rintro e w3 ⟨rfl, k3⟩
        exact ⟨_, rfl, k3, rfl, trivial⟩
      obtain rfl : v18 = .agg CL.toArray := hv
      simp only [Act.put, List.setIfInBounds_toArray, List.set_cons_zero, List.set_cons_succ]
      iterate 3 (refine wpPar_pure rfl (by rfl) _ (fun W hW => by
          go_simp
          exact rfl) ?_; simp only [Act.put, List.setIfInBounds_toArray, List.set_cons_zero, List.set_cons_succ])
      refine wpPar_pure rfl (by rfl) _ (fun W hW => exec_load_at rfl rfl (rangeAt_kept hA hW) aA) ?_; simp only [Act.put, List.setIfInBounds_toArray, List.set_cons_zero, List.set_cons_succ]
      refine wpPar_pure rfl (by rfl) _ (fun W hW => exec_load_at rfl rfl (rangeAt_kept hB hW) aB) ?_; simp only [Act.put, List.setIfInBounds_toArray, List.set_cons_zero, List.set_cons_succ]
      refine wpKn_adds hs rfl (by rfl) (fun W hW hd => ?_) (fun v24 hv => ?_)
      · unfold Gives
        go_simp
        refine gives_call (F4.out.1 W) ?_
        rintro e w3 ⟨rfl, k3⟩
        exact ⟨_, rfl, k3, rfl, trivial⟩
      obtain rfl : v24 = .agg CN.toArray := hv
      simp only [Act.put, List.setIfInBounds_toArray, List.set_cons_zero, List.set_cons_succ]
      refine wpPar_pure rfl (by rfl) _ (fun W hW => exec_load_at rfl rfl (rangeAt_kept hA hW) aA) ?_; simp only [Act.put, List.setIfInBounds_toArray, List.set_cons_zero, List.set_cons_succ]
      refine wpPar_pure rfl (by rfl) _ (fun W hW => exec_load_at rfl rfl (rangeAt_kept hB hW) aB) ?_; simp only [Act.put, List.setIfInBounds_toArray, List.set_cons_zero, List.set_cons_succ]
      refine wpKn_adds hs rfl (by rfl) (fun W hW hd => ?_) (fun v27 hv => ?_)
      · unfold Gives
        go_simp
        refine gives_call (F4.out.2 W) ?_
        rintro e w3 ⟨rfl, k3⟩
        exact ⟨_, rfl, k3, rfl, trivial⟩
      obtain rfl : v27 = .agg CN.toArray := hv
      simp only [Act.put, List.setIfInBounds_toArray, List.set_cons_zero, List.set_cons_succ]
      iterate 3 (refine wpPar_pure rfl (by rfl) _ (fun W hW => by
          go_simp
          exact rfl) ?_; simp only [Act.put, List.setIfInBounds_toArray, List.set_cons_zero, List.set_cons_succ])
      refine wpKn_adds hs rfl (by rfl) (fun W hW hd => ?_) (fun v31 hv => ?_)
      · unfold Gives
        go_simp
        refine gives_call (F5.out.1 W) ?_
        rintro e w3 ⟨rfl, k3⟩
        exact ⟨_, rfl, k3, rfl, trivial⟩
      obtain rfl : v31 = .agg CE.toArray := hv
      simp only [Act.put, List.setIfInBounds_toArray, List.set_cons_zero, List.set_cons_succ]
      refine wpKn_adds hs rfl (by rfl) (fun W hW hd => ?_) (fun v32 hv => ?_)
      · unfold Gives
        go_simp
        refine gives_call (F5.out.2 W) ?_
        rintro e w3 ⟨rfl, k3⟩
        exact ⟨_, rfl, k3, rfl, trivial⟩
      obtain rfl : v32 = .agg CE.toArray := hv
      simp only [Act.put, List.setIfInBounds_toArray, List.set_cons_zero, List.set_cons_succ]
      iterate 3 (refine wpPar_pure rfl (by rfl) _ (fun W hW => by
          go_simp
          exact rfl) ?_; simp only [Act.put, List.setIfInBounds_toArray, List.set_cons_zero, List.set_cons_succ])
      refine wpPar_pure rfl (by rfl) _ (fun W hW => exec_load_at rfl rfl (rangeAt_kept hA hW) aA) ?_; simp only [Act.put, List.setIfInBounds_toArray, List.set_cons_zero, List.set_cons_succ]
      iterate 1 (refine wpPar_pure rfl (by rfl) _ (fun W hW => by
          go_simp
          exact rfl) ?_; simp only [Act.put, List.setIfInBounds_toArray, List.set_cons_zero, List.set_cons_succ])
      refine wpKn_adds hs rfl (by rfl) (fun W hW hd => ?_) (fun v38 hv => ?_)
      · unfold Gives
        go_simp
        refine gives_call (F6.out.1 W) ?_
        rintro e w3 ⟨rfl, k3⟩
        exact ⟨_, rfl, k3, rfl, trivial⟩
      obtain rfl : v38 = .int .i64 B1 := hv
      simp only [Act.put, List.setIfInBounds_toArray, List.set_cons_zero, List.set_cons_succ]
      refine wpPar_pure rfl (by rfl) _ (fun W hW => exec_load_at rfl rfl (rangeAt_kept hA hW) aA) ?_; simp only [Act.put, List.setIfInBounds_toArray, List.set_cons_zero, List.set_cons_succ]
      iterate 1 (refine wpPar_pure rfl (by rfl) _ (fun W hW => by
          go_simp
          exact rfl) ?_; simp only [Act.put, List.setIfInBounds_toArray, List.set_cons_zero, List.set_cons_succ])
      refine wpKn_adds hs rfl (by rfl) (fun W hW hd => ?_) (fun v41 hv => ?_)
      · unfold Gives
        go_simp
        refine gives_call (F6.out.2 W) ?_
        rintro e w3 ⟨rfl, k3⟩
        exact ⟨_, rfl, k3, rfl, trivial⟩
      obtain rfl : v41 = .int .i64 B1 := hv
      simp only [Act.put, List.setIfInBounds_toArray, List.set_cons_zero, List.set_cons_succ]
      iterate 3 (refine wpPar_pure rfl (by rfl) _ (fun W hW => by
          go_simp
          exact rfl) ?_; simp only [Act.put, List.setIfInBounds_toArray, List.set_cons_zero, List.set_cons_succ])
      refine wpPar_pure rfl (by rfl) _ (fun W hW => exec_load_at rfl rfl (rangeAt_kept hA hW) aA) ?_; simp only [Act.put, List.setIfInBounds_toArray, List.set_cons_zero, List.set_cons_succ]
      iterate 2 (refine wpPar_pure rfl (by rfl) _ (fun W hW => by
          go_simp
          exact rfl) ?_; simp only [Act.put, List.setIfInBounds_toArray, List.set_cons_zero, List.set_cons_succ])
      refine wpKn_adds hs rfl (by rfl) (fun W hW hd => ?_) (fun v48 hv => ?_)
      · unfold Gives
        go_simp
        refine gives_call (F7.out.1 W) ?_
        rintro e w3 ⟨rfl, k3⟩
        exact ⟨_, rfl, k3, rfl, trivial⟩
      obtain rfl : v48 = .int .i64 B2 := hv
      simp only [Act.put, List.setIfInBounds_toArray, List.set_cons_zero, List.set_cons_succ]
      refine wpPar_pure rfl (by rfl) _ (fun W hW => exec_load_at rfl rfl (rangeAt_kept hA hW) aA) ?_; simp only [Act.put, List.setIfInBounds_toArray, List.set_cons_zero, List.set_cons_succ]
      iterate 2 (refine wpPar_pure rfl (by rfl) _ (fun W hW => by
          go_simp
          exact rfl) ?_; simp only [Act.put, List.setIfInBounds_toArray, List.set_cons_zero, List.set_cons_succ])
      refine wpKn_adds hs rfl (by rfl) (fun W hW hd => ?_) (fun v52 hv => ?_)
      · unfold Gives
        go_simp
        refine gives_call (F7.out.2 W) ?_
        rintro e w3 ⟨rfl, k3⟩
        exact ⟨_, rfl, k3, rfl, trivial⟩
      obtain rfl : v52 = .int .i64 B2 := hv
      simp only [Act.put, List.setIfInBounds_toArray, List.set_cons_zero, List.set_cons_succ]
      iterate 3 (refine wpPar_pure rfl (by rfl) _ (fun W hW => by
          go_simp
          exact rfl) ?_; simp only [Act.put, List.setIfInBounds_toArray, List.set_cons_zero, List.set_cons_succ])
      refine wpPar_nil (fun w9 hW hG => ?_)
      have k10 := kB.trans hW
      clear hG hs hW kB hX hA hB e1 e2 e3 e4 e5
      go_wp2
      go_ret
      exact ⟨rfl, k10⟩
end Tr
end Go.Proofs.Ytalkkiliepaikaa
