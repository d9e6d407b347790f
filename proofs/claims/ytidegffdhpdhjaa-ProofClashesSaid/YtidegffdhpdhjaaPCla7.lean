/- postmarkhelp.Hashes; a hash stored over in a row of the call's own. -/
import Derived.Test.YtidegffdhpdhjaaHk8
import Derived.Test.YtidegffdhpdhjaaRight7
import Derived.Deep.LoopGhost
import Derived.Deep.DeepCutAuto
import Derived.Test.YtidegffdhpdhjaaPV7
import Derived.OwnWalk
import Derived.Test.YtidegffdhpdhjaaRMake7
import Derived.Test.YtidegffdhpdhjaaTopK7
import Derived.Laws.MakeOwn
import Derived.Great.BuildSlice
namespace Go.Pm
open Go Go.RowKit
theorem hsC_set : ∀ {l : List (List UInt8)}, H32 l → ∀ {k : Nat} (x : List UInt8), k < l.length → x.length = 32 → (hsC (l.set k x)).flatten = (hsC l).flatten.take (k * 32) ++ x.map u8v ++ (hsC l).flatten.drop (k * 32 + 32)
  | [], _, k, x, hk, _ => by simp at hk
  | y :: l, h, 0, x, _, hx => by
    have h1 := h.head
    simp [hsC, h1]
  | y :: l, h, k + 1, x, hk, hx => by
    have h1 := h.head
    have h2 := hsC_set (l := l) h.tail (k := k) x (by simpa using hk) hx
    have t1 : (y.map u8v).take ((k + 1) * 32) = y.map u8v := List.take_of_length_le (by simp; omega)
    have d1 : (y.map u8v).drop ((k + 1) * 32 + 32) = [] := List.drop_of_length_le (by simp; omega)
    have e1 : hsC ((y :: l).set (k + 1) x) = y.map u8v :: hsC (l.set k x) := by simp [hsC]
    have e2 : hsC (y :: l) = y.map u8v :: hsC l := by simp [hsC]
    rw [e1, e2, List.flatten_cons, List.flatten_cons, h2, List.take_append, List.drop_append, t1, d1, List.length_map, h1,
      show (k + 1) * 32 - 32 = k * 32 by omega, show (k + 1) * 32 + 32 - 32 = k * 32 + 32 by omega]
    simp
theorem H32.set {l : List (List UInt8)} (h : H32 l) (k : Nat) {x : List UInt8} (hx : x.length = 32) : H32 (l.set k x) := fun z hz => by
  rcases List.mem_or_eq_of_mem_set hz with h2 | rfl
  · exact h z h2
  · exact hx
theorem hsC_flat {l : List (List UInt8)} (h : H32 l) : (hsC l).flatten.length = l.length * 32 := by rw [flat_len (hsC_each h), hsC_len]
/-- One of the call's own hashes, stored over, for the walk. -/
theorem wpList_store_hash {P : Program} {ops : Array Oper} {rest : List Oper} {op : Oper} {a : Act} {w : World} {Q : Exit → Act → World → Prop} (hgd : op.guard = none) (ty : TypeId) (x y : Operand) (ho : op.op = .store ty x y)
    {e : TypeId} {base g n cap : Nat} {l : List (List UInt8)} (hown : Ho e w base (.slice (some ⟨g, 0, none⟩) n cap) l) {k : Nat} (hk : k < l.length) {v : List UInt8} (hv : v.length = 32)
    (hx : a.eval x = .pointer (some ⟨g, k * 32, none⟩)) (hy : a.eval y = .agg (v.map u8v).toArray) (hT : AggTy P ty 32)
    (h : ∀ w', Ho e w' base (.slice (some ⟨g, 0, none⟩) n cap) (l.set k v) → Kept (Just g) w w' → wpList P ops Q rest (a.put op.dst undef) w') : wpList P ops Q (op :: rest) a w := by
  obtain ⟨h32, hf, hlen, h2⟩ := hown
  rcases h2 with ⟨h3, _⟩ | ⟨g', cap', cur, hvv, hb, hg, hnc, hcm, hcs, htake⟩
  · cases h3
  injection hvv with e1 e2 e3
  obtain rfl : g = g' := by simpa using e1
  subst e2 e3
  rw [hsC_len] at hlen hnc htake h
  have hblk : Blk w g cur e := hg
  have hL := hsC_flat h32
  have hfit : k * 32 + 32 ≤ cur.size := by omega
  refine wpList_store_mid hgd ty x y ho g (k * 32) (v.map u8v).toArray hx hy (fun j hj => ?_) (by simpa [hv] using hT.size) (u8v_all' v) ?_
  · simp only [List.size_toArray, List.length_map, hv] at hj
    refine ⟨?_, hblk.free _⟩
    rw [hblk.cell]
    simp [show k * 32 + j < cur.size by omega]
  · refine h _ ⟨h32.set k hv, hsC_each (h32.set k hv), ?_, ?_⟩ (kept_setCells (S := Just g) (fun _ => rfl) _ _ _ (Kept.refl _ _))
    · rw [hsC_flat (h32.set k hv), hsC_len]
    · refine .inr ⟨g, cap, _, by rw [hsC_len, List.length_set], hb, Blk.setCells (v.map u8v) (k * 32) w cur hblk (by rw [List.length_map, hv]; omega), by rw [hsC_len, List.length_set]; exact hnc, hcm, ?_, ?_⟩
      · simp only [List.size_toArray, List.length_append, List.length_take, List.length_drop, Array.length_toList, List.length_map, hv]
        omega
      · rw [hsC_len, List.length_set, hsC_set h32 v hk hv, ← htake]
        have q1 : (cur.toList.take (l.length * 32)).take (k * 32) = cur.toList.take (k * 32) := by rw [List.take_take, Nat.min_eq_left (by omega)]
        rw [q1]
        rw [List.take_append, List.take_append]
        simp only [List.length_append, List.length_take, Array.length_toList, List.length_map, hv]
        rw [Nat.min_eq_left (by omega), List.take_of_length_le (by simp; omega), List.take_of_length_le (l := v.map u8v) (by simp; omega), List.drop_take, show k * 32 + 32 = k * 32 + 32 from rfl]
end Go.Pm
namespace Go.Proofs.Ytidegffdhpdhjaa
open Go.RowKit Go.Pm
namespace Hk
set_option maxRecDepth 100000 in
set_option maxHeartbeats 1000000 in
/-- Hashes. -/
theorem hashes (va vb : Value) (xs ys : List (List UInt8)) (w : World) (ha : Rh 0 w va xs) (hb : Rh 0 w vb ys) : Calls Try.prog 80 #[va, vb] w fun e w' => e = .returned (.bool (decide (xs = ys))) ∧ Kept None w w' := by
  obtain ⟨h1, ha⟩ := ha
  obtain ⟨h2, hb⟩ := hb
  obtain ⟨a1, c1, rfl, p1, p2, _⟩ := ha.form
  obtain ⟨a2, c2, rfl, p3, p4, _⟩ := hb.form
  obtain ⟨n, hn⟩ : ∃ n, n = xs.length := ⟨_, rfl⟩
  obtain ⟨m, hm⟩ : ∃ n, n = ys.length := ⟨_, rfl⟩
  rw [← hn] at ha p1 ⊢
  rw [← hm] at hb p3 ⊢
  obtain ⟨r, hr⟩ : ∃ r, r = decide (xs = ys) := ⟨_, rfl⟩
  rw [← hr]
  have HA := hid ha
  have HB := hid hb
  have HN := hid (And.intro hn hm)
  have HR := hid hr
  clear ha hb hn hm hr
  by_cases hnm : n = m
  · subst hnm
    go_enter Try.func80, Try.ntmps80
    go_wp2
    go_loopg [5] n (fun kx s5 wr => ∃ k : Nat, s5 = .int .i64 k ∧ k ≤ n ∧ n - k ≤ kx ∧ Hid (Kept None w wr) ∧ Hid (xs.take k = ys.take k))
    case atStart => exact ⟨0, rfl, Nat.zero_le _, Nat.le_refl _, Kept.refl _ _, hid (by simp)⟩
    case round =>
      obtain ⟨k, rfl, hk, hkx, HK, HT⟩ := hrel
      by_cases hlt : k < n
      · have hz : (k : Int) < (n : Int) := by omega
        have i1 := HA.out.kept HK.out (fun _ _ _ h => h)
        have i2 := HB.out.kept HK.out (fun _ _ _ h => h)
        have l1 : k < xs.length := by have := HN.out; omega
        have l2 : k < ys.length := by have := HN.out; omega
        obtain ⟨b1, o1, q1, _, _, _, s1⟩ := i1.lo (by omega)
        obtain ⟨b2, o2, q2, _, _, _, s2⟩ := i2.lo (by omega)
        obtain rfl := q1
        obtain rfl := q2
        have r1 := s1 k l1
        have r2 := s2 k l2
        have e1 := Hk.neqHash xs[k] ys[k] (HA.out.1 _ (List.getElem_mem l1)) (HB.out.1 _ (List.getElem_mem l2))
        have aX := Hk.aH32' (HA.out.1 _ (List.getElem_mem l1))
        have aY := Hk.aH32' (HB.out.1 _ (List.getElem_mem l2))
        have t1 := List.take_succ_eq_append_getElem l1
        have t2 := List.take_succ_eq_append_getElem l2
        obtain ⟨x, hx⟩ : ∃ x, x = xs[k] := ⟨_, rfl⟩
        obtain ⟨y, hy⟩ : ∃ y, y = ys[k] := ⟨_, rfl⟩
        rw [← hx] at r1 e1 aX t1
        rw [← hy] at r2 e1 aY t2
        obtain ⟨CX, hCX⟩ : ∃ C, C = x.map u8v := ⟨_, rfl⟩
        obtain ⟨CY, hCY⟩ : ∃ C, C = y.map u8v := ⟨_, rfl⟩
        rw [← hCX] at r1 e1 aX
        rw [← hCY] at r2 e1 aY
        have HXY := hid (And.intro hx (And.intro hy (And.intro t1 t2)))
        have R1 := hid r1
        have R2 := hid r2
        obtain ⟨bE, hbE⟩ : ∃ b, b = (x == y) := ⟨_, rfl⟩
        rw [← hbE] at e1
        have HBE := hid hbE
        clear hCX hCY i1 i2 hx hy t1 t2 r1 r2 hbE s1 s2
        go_wp2_with fail
        have hs : Steady [] := Steady.nil
        refine wp_region_kn wr _ hs (Kept.refl _ _) (by kernel_rfl) (by kernel_rfl) (by kernel_rfl) ?_
        iterate 3 (refine wpPar_pure rfl (by rfl) _ (fun W hW => by
            go_simp
            exact rfl) ?_; simp only [Act.put, List.setIfInBounds_toArray, List.set_cons_zero, List.set_cons_succ])
        refine wpPar_pure rfl (by rfl) _ (fun W hW => exec_load_at rfl rfl (rangeAt_kept R1.out hW) aX) ?_; simp only [Act.put, List.setIfInBounds_toArray, List.set_cons_zero, List.set_cons_succ]
        iterate 3 (refine wpPar_pure rfl (by rfl) _ (fun W hW => by
            go_simp
            exact rfl) ?_; simp only [Act.put, List.setIfInBounds_toArray, List.set_cons_zero, List.set_cons_succ])
        refine wpPar_pure rfl (by rfl) _ (fun W hW => exec_load_at rfl rfl (rangeAt_kept R2.out hW) aY) ?_; simp only [Act.put, List.setIfInBounds_toArray, List.set_cons_zero, List.set_cons_succ]
        cases bE with
        | true =>
          iterate 1 (refine wpPar_pure rfl (by rfl) _ (fun W hW => by
              go_simp
              exact rfl) ?_; simp only [Act.put, List.setIfInBounds_toArray, List.set_cons_zero, List.set_cons_succ])
          refine wpPar_nil (fun w6 hW hG => ?_)
          have HW := hid (HK.out.trans hW)
          have HT2 : Hid (xs.take (k + 1) = ys.take (k + 1)) := hid (by
            have hxy : x = y := by have := HBE.out; simpa using this.symm
            rw [HXY.out.2.2.1, HXY.out.2.2.2, HT.out, hxy])
          clear hG hs hW HK e1 R1 R2
          go_wp2
          go_roundg (n - (k + 1))
          case measure => omega
          case rel => exact ⟨k + 1, by go_num, by omega, Nat.le_refl _, HW, HT2⟩
        | false =>
          iterate 1 (refine wpPar_pure rfl (by rfl) _ (fun W hW => by
              go_simp
              exact rfl) ?_; simp only [Act.put, List.setIfInBounds_toArray, List.set_cons_zero, List.set_cons_succ])
          refine wpPar_nil (fun w6 hW hG => ?_)
          have HW := hid (HK.out.trans hW)
          clear hG hs hW HK e1 R1 R2
          go_wp2
          go_ret
          exact ⟨by rw [HR.out, decide_eq_false (fun h => by
            have hxy : x ≠ y := by have := HBE.out; simpa using this.symm
            apply hxy
            rw [HXY.out.1, HXY.out.2.1]
            simp [h])]; rfl, HW.out⟩
      · have hz : ¬ (k : Int) < (n : Int) := by omega
        obtain rfl : k = n := by omega
        go_wp2
        go_ret
        exact ⟨by rw [HR.out, decide_eq_true (by
          have := HT.out
          rwa [List.take_of_length_le (by have := HN.out; omega), List.take_of_length_le (by have := HN.out; omega)] at this)]; rfl, HK.out⟩
  · have e1 : ((n : Int) == (m : Int)) = false := by rw [beq_eq_false_iff_ne]; omega
    have e2 : ((n : Int) != (m : Int)) = true := by rw [bne_iff_ne]; omega
    go_enter Try.func80, Try.ntmps80
    go_wp2
    go_ret
    exact ⟨by rw [HR.out, decide_eq_false (fun h => hnm (by rw [HN.out.1, HN.out.2, h]))]; rfl, Kept.refl _ _⟩

end Hk
end Go.Proofs.Ytidegffdhpdhjaa

namespace Go.Pm
open Go Go.RowKit
theorem alike_more (a b : List UInt8) (k : Nat) : alikeB a b (k + 1) = (alikeB a b k && decide (bitI a k = bitI b k)) := by
  unfold alikeB
  rw [Bool.eq_iff_iff]
  simp only [decide_eq_true_eq, Bool.and_eq_true]
  constructor
  · intro h
    exact ⟨fun j hj => h j (by omega), h k (by omega)⟩
  · rintro ⟨h1, h2⟩ j hj
    by_cases e : j = k
    · rw [e]; exact h2
    · exact h1 j (by omega)
theorem alike_no (a b : List UInt8) (k n : Nat) (hk : k < n) (h : bitI a k ≠ bitI b k) : alikeB a b n = false := by
  unfold alikeB
  rw [decide_eq_false_iff_not]
  exact fun h2 => h (h2 k hk)
end Go.Pm
namespace Go.Proofs.Ytidegffdhpdhjaa
open Go.RowKit Go.Pm
namespace RPr
set_option maxRecDepth 100000 in
set_option maxHeartbeats 2000000 in
/-- ProofRight. -/
theorem right (i : List UInt8) (s : Value) (p : Pf) (w : World) (hi : i.length = 32) (hp : p.Ok) (hs : Rh 0 w s p.path) : Calls Try.prog 69 #[hashV i, pfV s p] w fun e w' => e = .returned (.bool (rightP i p)) ∧ Kept None w w' := by
  obtain ⟨q0, hv⟩ := hs
  obtain ⟨a, c, rfl, g1, g2, g3⟩ := hv.form
  obtain ⟨n, hn⟩ : ∃ n, n = p.path.length := ⟨_, rfl⟩
  rw [← hn] at g1
  rw [show pfV (.slice a p.path.length c) p = .agg (pfC (.slice a n c) p).toArray by rw [hn]]
  obtain ⟨X, hX⟩ : ∃ X, X = (pfC (.slice a n c) p).toArray := ⟨_, rfl⟩
  obtain ⟨L, hL⟩ : ∃ L : Array Value, L = (i.map u8v).toArray := ⟨_, rfl⟩
  obtain ⟨CI, hCI⟩ : ∃ CI : List Value, CI = p.x.i.map u8v := ⟨_, rfl⟩
  obtain ⟨CX, hCX⟩ : ∃ CX : List Value, CX = itC p.x := ⟨_, rfl⟩
  obtain ⟨bI, hbI⟩ : ∃ b, b = (p.x.i == i) := ⟨_, rfl⟩
  obtain ⟨bX, hbX⟩ : ∃ b, b = itEq p.x zeroIt := ⟨_, rfl⟩
  obtain ⟨bA, hbA⟩ : ∃ b, b = alikeB p.x.i i n := ⟨_, rfl⟩
  have E1 := Tr.eqHash p.x.i i hp.2.1 hi
  have E3 := Pr.eqItem p.x zeroIt hp.2 ⟨rfl, rfl⟩
  have aL := Pr.aH32 hi
  have aI := Pr.aH32' hp.2.1
  have aX := Pr.aI64' hp.2
  have hres : rightP i p = (decide (n ≤ 256) && (if p.e = 0 then bI else if p.e = 1 then bX else if p.e = 2 then !bI && bA else false)) := by
    unfold rightP
    rw [hbI, hbX, hbA, itEq_is, hn]
  rw [Pr.zero_item] at E3
  show Calls Try.prog 69 #[.agg (i.map u8v).toArray, .agg (pfC (.slice a n c) p).toArray] w _
  have f1 : ∀ (j : Nat) W, j < 256 → Calls Try.prog 64 #[.agg (p.x.i.map u8v).toArray, .int .i64 j] W fun e w' => e = .returned (.int .i64 (bitI p.x.i j : Nat)) ∧ Kept None W w' := fun j W hj => RTr.bit p.x.i hp.2.1 j hj W
  have f2 : ∀ (j : Nat) W, j < 256 → Calls Try.prog 64 #[.agg (i.map u8v).toArray, .int .i64 j] W fun e w' => e = .returned (.int .i64 (bitI i j : Nat)) ∧ Kept None W w' := fun j W hj => RTr.bit i hi j hj W
  have k0 : Kept None w ((w.alloc (.cells L 23)).alloc (.cells X 63)) := ((Kept.refl _ _).alloc _).alloc _
  have bL : Blk ((w.alloc (.cells L 23)).alloc (.cells X 63)) w.heap.size L 23 := (Blk.new w _ _).alloc _
  have b0 : Blk ((w.alloc (.cells L 23)).alloc (.cells X 63)) (w.heap.size + 1) X 63 := Blk.new2 w _ _ _
  have rI : World.rangeAt ((w.alloc (.cells L 23)).alloc (.cells X 63)) (w.heap.size + 1) 2 CI := hCI ▸ pf_ri (hX ▸ b0 : Blk ((w.alloc (.cells L 23)).alloc (.cells X 63)) (w.heap.size + 1) (pfC (.slice a n c) p).toArray 63) hp
  have rX : World.rangeAt ((w.alloc (.cells L 23)).alloc (.cells X 63)) (w.heap.size + 1) 2 CX := hCX ▸ pf_rx (hX ▸ b0 : Blk ((w.alloc (.cells L 23)).alloc (.cells X 63)) (w.heap.size + 1) (pfC (.slice a n c) p).toArray 63)
  rw [← hL, ← hCI, ← hbI] at E1
  rw [← hCX, ← hbX] at E3
  rw [← hCI] at f1
  rw [← hL] at f2
  rw [← hL, ← hX]
  rw [← hL] at aL
  rw [← hCI] at aI
  rw [← hCX] at aX
  have hc0 : X[0]? = some (.slice a n c) := by rw [hX]; rfl
  have hc1 : X[1]? = some (.int .i64 p.e) := by rw [hX]; rfl
  obtain ⟨r, hr⟩ : ∃ r, r = rightP i p := ⟨_, rfl⟩
  rw [hres] at hr
  rw [hres, ← hr]
  have HR := hid hr
  have HA := hid hbA
  have FB := hid (And.intro f1 f2)
  have B0 := hid (And.intro b0 hc0)
  clear hX hL hCI hCX hbI hbX hbA hres hr b0 hv hn g3 f1 f2
  by_cases h256 : n ≤ 256
  · have hle : ¬ (256 : Int) < (n : Int) := by omega
    by_cases h0 : p.e = 0
    · rw [h0] at hc1
      clear E3 rX aX
      go_enter Try.func69, Try.ntmps69
      go_wp2_with (first | (refine wpList_load_at rfl _ _ rfl rfl rI aI ?_) | (refine wpList_load_blk rfl _ _ rfl rfl bL aL ?_) | fail)
      go_ret
      exact ⟨by rw [HR.out, decide_eq_true h256, if_pos h0]; rfl, k0⟩
    by_cases h1 : p.e = 1
    · rw [h1] at hc1
      clear E1
      go_enter Try.func69, Try.ntmps69
      go_wp2_with (first | (refine wpList_load_at rfl _ _ rfl rfl rX aX ?_) | fail)
      go_ret
      exact ⟨by rw [HR.out, decide_eq_true h256, if_neg h0, if_pos h1]; rfl, k0⟩
    by_cases h2 : p.e = 2
    · rw [h2] at hc1
      clear E3 rX aX
      cases bI with
      | true =>
        go_enter Try.func69, Try.ntmps69
        go_wp2_with (first | (refine wpList_load_at rfl _ _ rfl rfl rI aI ?_) | (refine wpList_load_blk rfl _ _ rfl rfl bL aL ?_) | fail)
        go_ret
        exact ⟨by rw [HR.out, decide_eq_true h256, if_neg h0, if_neg h1, if_pos h2]; rfl, k0⟩
      | false =>
        have HI := hid rI
        have HBL := hid bL
        obtain ⟨wB, hwB⟩ : ∃ wB, wB = ((w.alloc (.cells L 23)).alloc (.cells X 63)) := ⟨_, rfl⟩
        have HW := hid hwB
        go_enter Try.func69, Try.ntmps69
        go_wp2_with (first | (refine wpList_load_at rfl _ _ rfl rfl rI aI ?_) | (refine wpList_load_blk rfl _ _ rfl rfl bL aL ?_) | fail)
        rw [HW.out] at hwB
        clear hwB
        go_loopg [5] n (fun kx s5 wr => ∃ k : Nat, s5 = .int .i64 k ∧ k ≤ n ∧ n - k ≤ kx ∧ Hid (Kept None ((w.alloc (.cells L 23)).alloc (.cells X 63)) wr) ∧ Hid (alikeB p.x.i i k = true))
        case atStart => exact ⟨0, rfl, Nat.zero_le _, Nat.le_refl _, Kept.refl _ _, hid (by unfold alikeB; rw [decide_eq_true_eq]; exact fun k hk => by omega)⟩
        case round =>
          obtain ⟨k, rfl, hk, hkx, HK, HT⟩ := hrel
          have cX : wr.cell? ⟨w.heap.size + 1, 0, none⟩ = some (.slice a n c) := by
            rw [(B0.out.1.kept HK.out (fun h => h)).cell]
            exact B0.out.2
          obtain ⟨wo, rfl⟩ : ∃ wo : World, wo = wr := ⟨_, rfl⟩
          by_cases hlt : k < n
          · have hz : (k : Int) < (n : Int) := by omega
            have hk256 : k < 256 := by omega
            have HK256 := hid hk256
            obtain ⟨b1, hb1⟩ : ∃ b, b = bitI p.x.i k := ⟨_, rfl⟩
            obtain ⟨b2, hb2⟩ : ∃ b, b = bitI i k := ⟨_, rfl⟩
            have F1 := hid (fun W => FB.out.1 k W hk256)
            have F2 := hid (fun W => FB.out.2 k W hk256)
            rw [← hb1] at F1
            rw [← hb2] at F2
            have HB := hid (And.intro hb1 hb2)
            have RI := hid (rangeAt_kept HI.out HK.out)
            have BL := hid (HBL.out.kept HK.out (fun h => h))
            clear hb1 hb2 hk256
            by_cases hbb : b1 = b2
            · subst hbb
              go_wp2_with fail
              have hs : Steady [.val 4 (.int .i64 (b1 : Nat)), .val 7 (.int .i64 (b1 : Nat))] := Go.Pm.Steady.val (Go.Pm.Steady.val (Go.Pm.Steady.nil))
              refine wp_region_kn wo _ hs (Kept.refl _ _) (by kernel_rfl) (by kernel_rfl) (by kernel_rfl) ?_
              iterate 2 (refine wpPar_pure rfl (by rfl) _ (fun W hW => by
                  go_simp
                  exact rfl) ?_; simp only [Act.put, List.setIfInBounds_toArray, List.set_cons_zero, List.set_cons_succ])
              refine wpPar_pure rfl (by rfl) _ (fun W hW => by first | exact exec_load_at rfl rfl (rangeAt_kept RI.out hW) aI | exact exec_load_blk _ _ rfl rfl (BL.out.kept hW (fun h => h)) aL | (go_simp; exact rfl)) ?_; simp only [Act.put, List.setIfInBounds_toArray, List.set_cons_zero, List.set_cons_succ]
              iterate 1 (refine wpPar_pure rfl (by rfl) _ (fun W hW => by
                  go_simp
                  exact rfl) ?_; simp only [Act.put, List.setIfInBounds_toArray, List.set_cons_zero, List.set_cons_succ])
              refine wpKn_adds hs rfl (by rfl) (fun W hW hd => ?_) (fun v4 hv => ?_)
              · unfold Gives
                go_simp
                refine gives_call (F1.out W) ?_
                rintro e w3 ⟨rfl, k3⟩
                exact ⟨_, rfl, k3, rfl, trivial⟩
              obtain rfl : v4 = .int .i64 (b1 : Nat) := hv
              simp only [Act.put, List.setIfInBounds_toArray, List.set_cons_zero, List.set_cons_succ]
              refine wpPar_pure rfl (by rfl) _ (fun W hW => by first | exact exec_load_at rfl rfl (rangeAt_kept RI.out hW) aI | exact exec_load_blk _ _ rfl rfl (BL.out.kept hW (fun h => h)) aL | (go_simp; exact rfl)) ?_; simp only [Act.put, List.setIfInBounds_toArray, List.set_cons_zero, List.set_cons_succ]
              iterate 1 (refine wpPar_pure rfl (by rfl) _ (fun W hW => by
                  go_simp
                  exact rfl) ?_; simp only [Act.put, List.setIfInBounds_toArray, List.set_cons_zero, List.set_cons_succ])
              refine wpKn_adds hs rfl (by rfl) (fun W hW hd => ?_) (fun v7 hv => ?_)
              · unfold Gives
                go_simp
                refine gives_call (F2.out W) ?_
                rintro e w3 ⟨rfl, k3⟩
                exact ⟨_, rfl, k3, rfl, trivial⟩
              obtain rfl : v7 = .int .i64 (b1 : Nat) := hv
              simp only [Act.put, List.setIfInBounds_toArray, List.set_cons_zero, List.set_cons_succ]
              iterate 1 (refine wpPar_pure rfl (by rfl) _ (fun W hW => by
                  go_simp
                  exact rfl) ?_; simp only [Act.put, List.setIfInBounds_toArray, List.set_cons_zero, List.set_cons_succ])
              refine wpPar_nil (fun w6 hW hG => ?_)
              have HW6 := hid (HK.out.trans hW)
              have HT2 : Hid (alikeB p.x.i i (k + 1) = true) := hid (by rw [alike_more, HT.out, ← HB.out.1, ← HB.out.2]; simp)
              clear hG hs hW HK cX
              go_wp2
              go_roundg (n - (k + 1))
              case measure => omega
              case rel => exact ⟨k + 1, by go_num, by omega, Nat.le_refl _, HW6, HT2⟩
            · have hnz : ((b1 : Int) != (b2 : Int)) = true := by rw [bne_iff_ne]; omega
              have hnz2 : ((b1 : Int) == (b2 : Int)) = false := by rw [beq_eq_false_iff_ne]; omega
              have HBB := hid hbb
              clear hbb
              go_wp2_with fail
              have hs : Steady [.val 4 (.int .i64 (b1 : Nat)), .val 7 (.int .i64 (b2 : Nat))] := Go.Pm.Steady.val (Go.Pm.Steady.val (Go.Pm.Steady.nil))
              refine wp_region_kn wo _ hs (Kept.refl _ _) (by kernel_rfl) (by kernel_rfl) (by kernel_rfl) ?_
              iterate 2 (refine wpPar_pure rfl (by rfl) _ (fun W hW => by
                  go_simp
                  exact rfl) ?_; simp only [Act.put, List.setIfInBounds_toArray, List.set_cons_zero, List.set_cons_succ])
              refine wpPar_pure rfl (by rfl) _ (fun W hW => by first | exact exec_load_at rfl rfl (rangeAt_kept RI.out hW) aI | exact exec_load_blk _ _ rfl rfl (BL.out.kept hW (fun h => h)) aL | (go_simp; exact rfl)) ?_; simp only [Act.put, List.setIfInBounds_toArray, List.set_cons_zero, List.set_cons_succ]
              iterate 1 (refine wpPar_pure rfl (by rfl) _ (fun W hW => by
                  go_simp
                  exact rfl) ?_; simp only [Act.put, List.setIfInBounds_toArray, List.set_cons_zero, List.set_cons_succ])
              refine wpKn_adds hs rfl (by rfl) (fun W hW hd => ?_) (fun v4 hv => ?_)
              · unfold Gives
                go_simp
                refine gives_call (F1.out W) ?_
                rintro e w3 ⟨rfl, k3⟩
                exact ⟨_, rfl, k3, rfl, trivial⟩
              obtain rfl : v4 = .int .i64 (b1 : Nat) := hv
              simp only [Act.put, List.setIfInBounds_toArray, List.set_cons_zero, List.set_cons_succ]
              refine wpPar_pure rfl (by rfl) _ (fun W hW => by first | exact exec_load_at rfl rfl (rangeAt_kept RI.out hW) aI | exact exec_load_blk _ _ rfl rfl (BL.out.kept hW (fun h => h)) aL | (go_simp; exact rfl)) ?_; simp only [Act.put, List.setIfInBounds_toArray, List.set_cons_zero, List.set_cons_succ]
              iterate 1 (refine wpPar_pure rfl (by rfl) _ (fun W hW => by
                  go_simp
                  exact rfl) ?_; simp only [Act.put, List.setIfInBounds_toArray, List.set_cons_zero, List.set_cons_succ])
              refine wpKn_adds hs rfl (by rfl) (fun W hW hd => ?_) (fun v7 hv => ?_)
              · unfold Gives
                go_simp
                refine gives_call (F2.out W) ?_
                rintro e w3 ⟨rfl, k3⟩
                exact ⟨_, rfl, k3, rfl, trivial⟩
              obtain rfl : v7 = .int .i64 (b2 : Nat) := hv
              simp only [Act.put, List.setIfInBounds_toArray, List.set_cons_zero, List.set_cons_succ]
              iterate 1 (refine wpPar_pure rfl (by rfl) _ (fun W hW => by
                  go_simp
                  exact rfl) ?_; simp only [Act.put, List.setIfInBounds_toArray, List.set_cons_zero, List.set_cons_succ])
              refine wpPar_nil (fun w6 hW hG => ?_)
              have HW6 := hid (HK.out.trans hW)
              clear hG hs hW HK cX
              go_wp2
              go_ret
              exact ⟨by rw [HR.out, decide_eq_true h256, if_neg h0, if_neg h1, if_pos h2, HA.out, alike_no p.x.i i k n hlt (by rw [← HB.out.1, ← HB.out.2]; exact HBB.out)]; rfl, k0.trans HW6.out⟩
          · have hz : ¬ (k : Int) < (n : Int) := by omega
            obtain rfl : k = n := by omega
            go_wp2
            go_ret
            exact ⟨by rw [HR.out, decide_eq_true h256, if_neg h0, if_neg h1, if_pos h2, HA.out, HT.out]; rfl, k0.trans HK.out⟩
    · have n0 : (p.e == 0) = false := by simpa using h0
      have n1 : (p.e == 1) = false := by simpa using h1
      have n2 : (p.e == 2) = false := by simpa using h2
      go_enter Try.func69, Try.ntmps69
      go_wp2
      go_ret
      exact ⟨by rw [HR.out, decide_eq_true h256, if_neg h0, if_neg h1, if_neg h2]; rfl, k0⟩
  · have hle : (256 : Int) < (n : Int) := by omega
    go_enter Try.func69, Try.ntmps69
    go_wp2
    go_ret
    exact ⟨by rw [HR.out, decide_eq_false h256]; rfl, k0⟩
end RPr
end Go.Proofs.Ytidegffdhpdhjaa

namespace Go.Pm
open Go Go.RowKit
/-- It has nothing in block g. -/
def Off (g a b : Nat) : Prop := g < a ∨ b ≤ g
/-- A slice of lists of bytes, in blocks from lo on, that has nothing in block g. -/
def RlX (g lo : Nat) (w : World) (v : Value) (ls : List (List UInt8)) : Prop :=
  ∃ (xs : List Value) (a b : Nat), lo ≤ a ∧ Off g a b ∧ Vs w a b v xs ∧ xs.length = ls.length ∧ ∀ (i : Nat) (x : Value) (l : List UInt8), xs[i]? = some x → ls[i]? = some l → ∃ c d, lo ≤ c ∧ Off g c d ∧ Bs w c d x l
theorem RlX.kept {S : Nat → Prop} {g lo : Nat} {w w' : World} {v : Value} {ls : List (List UInt8)} (h : RlX g lo w v ls) (hk : Kept S w w') (hs : ∀ k, S k → k = g) : RlX g lo w' v ls := by
  obtain ⟨xs, a, b, h1, h2, h3, h4, h5⟩ := h
  refine ⟨xs, a, b, h1, h2, h3.kept hk (fun k q1 q2 q => by have := hs k q; unfold Off at h2; omega), h4, fun i x l e1 e2 => ?_⟩
  obtain ⟨c, d, q1, q2, q3⟩ := h5 i x l e1 e2
  exact ⟨c, d, q1, q2, q3.kept hk (fun k p1 p2 q => by have := hs k q; unfold Off at q2; omega)⟩
theorem RlX.rl {g lo : Nat} {w : World} {v : Value} {ls : List (List UInt8)} (h : RlX g lo w v ls) : Rl lo w v ls := by
  obtain ⟨xs, a, b, h1, h2, h3, h4, h5⟩ := h
  refine Rl.of (h3.wider h1 (Nat.le_refl _)) h4 (fun i x l e1 e2 => ?_)
  obtain ⟨c, d, q1, q2, q3⟩ := h5 i x l e1 e2
  exact ⟨d, Vs.wider q3 q1 (Nat.le_refl _)⟩
theorem RlX.form {g lo : Nat} {w : World} {v : Value} {ls : List (List UInt8)} (h : RlX g lo w v ls) : ∃ a c, v = .slice a ls.length c := h.rl.form
theorem Rl.off {lo : Nat} {w : World} {v : Value} {ls : List (List UInt8)} (h : Rl lo w v ls) : RlX w.heap.size lo w v ls := by
  obtain ⟨hi, xs, hv, hl, hx⟩ := h
  exact ⟨xs, lo, min hi w.heap.size, Nat.le_refl _, .inr (Nat.min_le_right _ _), hv.lt, hl, fun i x l e1 e2 => ⟨lo, w.heap.size, Nat.le_refl _, .inr (Nat.le_refl _), hx i x l e1 e2⟩⟩
theorem Rb.off {lo g : Nat} {w : World} {v : Value} {l : List UInt8} (h : Rb lo w v l) (hg : g < lo) : ∃ c d, lo ≤ c ∧ Off g c d ∧ Bs w c d v l := by
  obtain ⟨hi, h⟩ := h
  exact ⟨lo, hi, Nat.le_refl _, .inl hg, h⟩
theorem run_append_rlx {P : Program} {w : World} {t ty e : TypeId} {z : Value} {bytes : Nat} (hT : RowTyK P t e z 1 bytes) (hb : bytes ≤ 128) {g lo gy : Nat} (hg : g < gy) (hlo : lo ≤ gy) {y : Value} {e' : TypeId} (hv : Blk w gy #[y] e') {l : List UInt8} (hy : ∃ c d, lo ≤ c ∧ Off g c d ∧ Bs w c d y l) {u : Value} {ls : List (List UInt8)} (hu : RlX g lo w u ls) (hl : ls.length ≤ 1000000) :
    ∃ a c w', (Builtin.append_ #[t, t] ty #[.slice (some ⟨gy, 0, none⟩) 1 1, u]).run P w = .ok (.slice a (l :: ls).length c) w' ∧ RlX g lo w' (.slice a (l :: ls).length c) (l :: ls) ∧ Kept None w w' := by
  obtain ⟨xs, a0, b0, h1, h2, h3, h4, h5⟩ := hu
  have hf := h3.fs
  rw [h4] at hf
  obtain ⟨a, c, w', hr, ⟨hi1, q⟩, k⟩ := run_append_full (ty := ty) hT hv (n := 1) rfl (by decide) hf (by omega) hb
  have e1 : (l :: ls).length = 1 + ls.length := by rw [List.length_cons]; omega
  refine ⟨a, c, w', by rw [e1]; exact hr, ?_, k⟩
  rw [e1]
  refine ⟨_, gy, hi1, hlo, .inl hg, q.vs, by simp [h4], fun i x m hxi hmi => ?_⟩
  cases i with
  | zero =>
    simp at hxi hmi
    subst hxi hmi
    obtain ⟨c1, d1, p1, p2, p3⟩ := hy
    exact ⟨c1, d1, p1, p2, p3.kept k (fun _ _ _ h => h)⟩
  | succ i =>
    have h6 : xs[i]? = some x := by simpa using hxi
    have h7 : ls[i]? = some m := by simpa using hmi
    obtain ⟨c1, d1, p1, p2, p3⟩ := h5 i x m h6 h7
    exact ⟨c1, d1, p1, p2, p3.kept k (fun _ _ _ h => h)⟩
theorem wpList_append_rlx {P : Program} {ops : Array Oper} {rest : List Oper} {o : Oper} {a : Act} {w : World} {Q : Exit → Act → World → Prop} (hgd : o.guard = none) (s x : Operand) (t : TypeId)
    (ho : o.op = .call { callee := .builtin .append, args := #[s, x], argTypes := #[t, t] }) {e : TypeId} {z : Value} {bytes : Nat} (hT : RowTyK P t e z 1 bytes) (hb : bytes ≤ 128)
    {g lo gy : Nat} (hg : g < gy) (hlo : lo ≤ gy) (hs : a.eval s = .slice (some ⟨gy, 0, none⟩) 1 1) {u : Value} (hx : a.eval x = u) {y : Value} {e' : TypeId} (hv : Blk w gy #[y] e') {l : List UInt8} (hy : ∃ c d, lo ≤ c ∧ Off g c d ∧ Bs w c d y l) {ls : List (List UInt8)} (hu : RlX g lo w u ls) (hl : ls.length ≤ 1000000)
    (h : ∀ a' c' w', RlX g lo w' (.slice a' (l :: ls).length c') (l :: ls) → Kept None w w' → wpList P ops Q rest (a.put o.dst (.slice a' (l :: ls).length c')) w') : wpList P ops Q (o :: rest) a w := by
  obtain ⟨a', c', w', hr, r2, r3⟩ := run_append_rlx (ty := o.type) hT hb hg hlo hv hy hu hl
  exact wpList_append_run hgd s x t ho hs hx hr (h a' c' w' r2 r3)
end Go.Pm
namespace Go.Proofs.Ytidegffdhpdhjaa
open Go.RowKit Go.Pm
namespace RPr
set_option maxRecDepth 100000 in
set_option maxHeartbeats 4000000 in
/-- texts. -/
theorem texts (i : List UInt8) (s : Value) (p : Pf) (w : World) (hi : i.length = 32) (hp : p.Ok) (hs : Rh 0 w s p.path) (hn256 : p.path.length ≤ 256) : Calls Try.prog 70 #[hashV i, pfV s p] w fun e w' => ∃ u, e = .returned u ∧ Kept None w w' ∧ Rl w.heap.size w' u (textsP i p) := by
  obtain ⟨a, c, rfl⟩ := hs.form
  obtain ⟨n, hn⟩ : ∃ n, n = p.path.length := ⟨_, rfl⟩
  rw [show pfV (.slice a p.path.length c) p = .agg (pfC (.slice a n c) p).toArray by rw [hn]]
  rw [← hn] at hs hn256
  obtain ⟨X, hX⟩ : ∃ X, X = (pfC (.slice a n c) p).toArray := ⟨_, rfl⟩
  obtain ⟨L, hL⟩ : ∃ L : Array Value, L = (i.map u8v).toArray := ⟨_, rfl⟩
  have aL := Pr.aH32 hi
  obtain ⟨hx1, hx2⟩ := hp.2
  have hT0 := fun w => Ref.text 122 (.slice none 0 0) 0 0 0 0 [] w (by decide) (by decide) ⟨[], Vs.nil w 0 0, rfl, fun i x l h _ => by simp at h⟩ (by simp) (by simp [total])
  have hT1 := fun v lo hi lo' hi' w hv => Ref.text 108 v lo hi lo' hi' [p.x.i, p.x.v] w (by decide) (by decide) hv (by simp) (by simp [total]; omega)
  have hBit : ∀ (j : Nat) W, j < 256 → Calls Try.prog 64 #[.agg (i.map u8v).toArray, .int .i64 j] W fun e w' => e = .returned (.int .i64 (bitI i j : Nat)) ∧ Kept None W w' := fun j W hj => RTr.bit i hi j hj W
  show Calls Try.prog 70 #[.agg (i.map u8v).toArray, .agg (pfC (.slice a n c) p).toArray] w _
  rw [← hL] at aL hBit
  rw [← hL, ← hX]
  have k0 : Kept None w ((w.alloc (.cells L 23)).alloc (.cells X 63)) := ((Kept.refl _ _).alloc _).alloc _
  have bL : Blk ((w.alloc (.cells L 23)).alloc (.cells X 63)) w.heap.size L 23 := (Blk.new w _ _).alloc _
  have bX : Blk ((w.alloc (.cells L 23)).alloc (.cells X 63)) (w.heap.size + 1) X 63 := Blk.new2 w _ _ _
  have hc0 : X[0]? = some (.slice a n c) := by rw [hX]; rfl
  have hc1 : X[1]? = some (.int .i64 p.e) := by rw [hX]; rfl
  obtain ⟨ft, hft⟩ : ∃ t, t = footB p := ⟨_, rfl⟩
  have HFT := hid hft
  have HX := hid (And.intro hX (And.intro hx1 (And.intro hx2 (And.intro hc0 hc1))))
  have HT0 := hid hT0
  have HT1 := hid hT1
  have HB := hid hBit
  have HP := hid hp
  have HS := hid hs
  have HNN := hid (And.intro hn hn256)
  have BL0 := hid bL
  have BX0 := hid bX
  clear hX hL hx1 hx2 hT0 hT1 hBit hft hs hn hn256 hp hi bL bX hc0
  go_enter Try.func70, Try.ntmps70
  go_wp2_with fail
  refine Calls.nm ?_
  intro w1 e1
  have K1 : Hid (Kept None w w1) := hid (by rw [e1]; exact k0)
  have BL1 : Hid (Blk w1 w.heap.size L 23) := hid (by rw [e1]; exact BL0.out)
  have BX1 : Hid (Blk w1 (w.heap.size + 1) X 63) := hid (by rw [e1]; exact BX0.out)
  clear e1 k0 BL0 BX0
  refine (HT0.out w1).mono ?_
  rintro e w2 ⟨u2, rfl, k2, b2⟩
  obtain ⟨a2, c2, rfl⟩ := b2.form
  have R2 := hid b2.rb
  have K2 := hid k2
  have cE : w2.cell? ⟨w.heap.size + 1, 1, none⟩ = some (.int .i64 p.e) := by rw [(BX1.out.kept k2 (fun h => h)).cell]; exact HX.out.2.2.2.2
  clear hc1 k2 b2
  go_upto_if 13 with fail
  clear cE
  go_cut [5] (fun s5 wx => ∃ (a5 : Option Addr) (c5 : Nat), s5 = .slice a5 ft.length c5 ∧ Hid (Kept None w1 wx) ∧ Hid (Rb w1.heap.size wx (.slice a5 ft.length c5) ft))
  case first =>
    by_cases he : p.e = 1
    · have hz : (p.e == 1) = true := by rw [he]; rfl
      have hz2 : (p.e != 1) = false := by rw [he]; rfl
      have hf : ft = textB 122 [] := by rw [HFT.out]; unfold footB; rw [if_pos he]
      have HF := hid hf
      have HN2 : Hid ((Value.slice a2 (textB 122 []).length c2) = .slice a2 ft.length c2) := hid (by rw [hf])
      clear hf he
      go_wp2_with fail
      go_meet
      exact ⟨a2, c2, HN2.out, K2, hid (by have h := R2.out; rw [HN2.out, ← HF.out] at h; exact h)⟩
    · have hz : (p.e == 1) = false := by simpa using he
      have hz2 : (p.e != 1) = true := by simpa using he
      have hf : ft = textB 108 [p.x.i, p.x.v] := by rw [HFT.out]; unfold footB; rw [if_neg he]
      have HF := hid hf
      rw [← hf] at HT1
      have hq : ∀ W, Kept None w2 W → Bs W 0 W.heap.size (.slice (some ⟨w.heap.size + 1, 2, none⟩) 32 32) p.x.i ∧ Bs W 0 W.heap.size (.slice (some ⟨w.heap.size + 1, 34, none⟩) 32 32) p.x.v := fun W hW => by
        have hb : Blk W (w.heap.size + 1) (pfC (.slice a n c) p).toArray 63 := HX.out.1 ▸ (BX1.out.kept (K2.out.trans hW) (fun h => h))
        exact ⟨(range_bs (pf_ri hb HP.out) HX.out.2.1 (by decide)).all, (range_bs (pf_rv hb HP.out) HX.out.2.2.1 (by decide)).all⟩
      have HQ := hid hq
      have HSZ := hid K2.out.size
      clear hf he hq
      go_wp2_with fail
      have hs : Steady [.lists 6 [p.x.i, p.x.v], .rb 7 w1.heap.size ft [6]] := Go.Pm.Steady.lists (Go.Pm.Steady.rb (Go.Pm.Steady.nil))
      refine wp_region_kn w2 _ hs (Kept.refl _ _) (by kernel_rfl) (by kernel_rfl) (by kernel_rfl) ?_
      iterate 6 (refine wpPar_pure rfl (by rfl) _ (fun W hW => by
          go_simp
          exact rfl) ?_; simp only [Act.put, List.setIfInBounds_toArray, List.set_cons_zero, List.set_cons_succ])
      refine wpKn_adds hs rfl (by rfl) (fun W hW hd => ?_) (fun v6 hv => ?_)
      · unfold Gives
        go_simp
        exact ⟨(Kept.refl None W).alloc _, ⟨_, _, rfl⟩, _, _, _, _, Bss.new W #[.slice (some ⟨w.heap.size + 1, 2, none⟩) 32 32, .slice (some ⟨w.heap.size + 1, 34, none⟩) 32 32] 29 [p.x.i, p.x.v] 2 rfl (by decide) ⟨(HQ.out W hW).1, (HQ.out W hW).2, trivial⟩⟩
      obtain ⟨a6, c6, rfl⟩ : ∃ a c, v6 = .slice a 2 c := hv
      simp only [Act.put, List.setIfInBounds_toArray, List.set_cons_zero, List.set_cons_succ]
      refine wpKn_adds hs rfl (by rfl) (fun W hW hd => ?_) (fun v7 hv => ?_)
      · unfold Gives
        obtain ⟨lo1, hi1, lo2, hi2, h1⟩ : ∃ lo hi lo' hi', Bss W lo hi lo' hi' (.slice a6 2 c6) [p.x.i, p.x.v] := hd 6 (List.Mem.head _)
        go_simp
        refine gives_call (HT1.out _ _ _ _ _ _ h1) ?_
        rintro e w3 ⟨u, rfl, k3, b3⟩
        obtain ⟨a3, c3, rfl⟩ := b3.form
        exact ⟨_, rfl, k3, ⟨_, _, rfl⟩, b3.rb.mono (Nat.le_trans HSZ.out hW.size)⟩
      obtain ⟨a7, c7, rfl⟩ : ∃ a c, v7 = .slice a ft.length c := hv
      simp only [Act.put, List.setIfInBounds_toArray, List.set_cons_zero, List.set_cons_succ]
      iterate 1 (refine wpPar_pure rfl (by rfl) _ (fun W hW => by
          go_simp
          exact rfl) ?_; simp only [Act.put, List.setIfInBounds_toArray, List.set_cons_zero, List.set_cons_succ])
      refine wpPar_nil (fun w6 hW hG => ?_)
      have R7 : Rb w1.heap.size w6 (.slice a7 ft.length c7) ft := hG 7
      have HR7 := hid R7
      have HK6 := hid (K2.out.trans hW)
      clear hG hs hW R7
      go_wp2_with fail
      go_meet
      exact ⟨a7, c7, rfl, HK6, HR7⟩
  case rest =>
    obtain ⟨a5, c5, rfl, K5, R5⟩ := hcut
    clear R2 K2
    have BX5 := hid (BX1.out.kept K5.out (fun h => h))
    have BL5 := hid (BL1.out.kept K5.out (fun h => h))
    have K05 := hid (K1.out.trans K5.out)
    have HSZ1 := hid (And.intro K1.out.size (And.intro K5.out.size BX1.out.lt))
    have hsum := fun w v lo hi h => Ref.sum v lo hi ft w h (by rw [HFT.out]; unfold footB; have := HX.out; split <;> simp [textB, lumpB, leB_length] <;> omega)
    obtain ⟨h0, hh0⟩ : ∃ h, h = sumB ft := ⟨_, rfl⟩
    have h32 : h0.length = 32 := by rw [hh0]; exact sumB_len _
    rw [← hh0] at hsum
    have HSUM := hid hsum
    have HH0 := hid (And.intro hh0 h32)
    have aH0 := Pr.aH32 h32
    have sH0 : (h0.map u8v).toArray.size = 32 := by simpa using h32
    have HSH := hid sH0
    obtain ⟨nf, hnf⟩ : ∃ m, m = ft.length := ⟨_, rfl⟩
    rw [← hnf] at R5 ⊢
    clear hsum hh0 h32 sH0
    have kr : Kept None (wc) (wc.alloc (.cells #[.slice a5 nf c5] 29)) := (Kept.refl _ _).alloc _
    obtain ⟨hi5, b5⟩ := R5.out
    have hone := Rl.one wc (K5.out.size) 29 R5.out
    have HONE := hid hone
    have KR := hid kr
    have B5 := hid (Bs.kept b5 kr (fun _ _ _ h => h))
    clear kr b5 hone hnf
    go_wp2_with fail
    refine (HSUM.out _ _ _ _ B5.out).mono ?_
    rintro e w6 ⟨rfl, k6⟩
    obtain ⟨z6, hz6, hZ6⟩ := Blk.any (n := 32) (Blk.new w6 #[.int .u8 0, .int .u8 0, .int .u8 0, .int .u8 0, .int .u8 0, .int .u8 0, .int .u8 0, .int .u8 0, .int .u8 0, .int .u8 0, .int .u8 0, .int .u8 0, .int .u8 0, .int .u8 0, .int .u8 0, .int .u8 0, .int .u8 0, .int .u8 0, .int .u8 0, .int .u8 0, .int .u8 0, .int .u8 0, .int .u8 0, .int .u8 0, .int .u8 0, .int .u8 0, .int .u8 0, .int .u8 0, .int .u8 0, .int .u8 0, .int .u8 0, .int .u8 0] 23) (by rfl)
    have E6 := hid (hz6.trans HSH.out.symm)
    have K6 := hid (KR.out.trans k6)
    have O6 := hid (((HONE.out.kept k6).mono HSZ1.out.1).off)
    clear k6 hz6 HONE KR B5 HSUM
    have HSL := hid (HS.out.kept (K05.out.trans K6.out))
    have cX6 : ∀ W, Kept None w6 W → W.cell? ⟨w.heap.size + 1, 0, none⟩ = some (.slice a n c) := fun W hW => by
      rw [(BX5.out.kept (K6.out.trans hW) (fun h => h)).cell]
      exact HX.out.2.2.2.1
    have CX6 := hid cX6
    clear cX6
    obtain ⟨nz, hnz⟩ : ∃ z : Int, z = (n : Int) - 1 := ⟨_, rfl⟩
    have rn : IntKind.i64.wrap ((n : Int) - 1) = nz := by rw [IntKind.wrap_i64, hnz]; have := HNN.out; omega
    have HNZ := hid hnz
    clear hnz
    go_wp2_with (first | (refine wpList_store_blk rfl _ _ _ rfl rfl rfl hZ6 aH0 E6.out (u8v_all' _) ?_; intro w7 h7 k7; have k67 := k7.fresh; have cc7 := CX6.out _ k67) | fail)
    clear cc7
    obtain ⟨g7, hg7⟩ : ∃ g, g = w6.heap.size := ⟨_, rfl⟩
    rw [← hg7] at O6 h7 ⊢
    have O7 := hid (O6.out.kept (S := None) k67 (fun _ h => h.elim))
    have KL := hid ((K05.out.trans K6.out).trans k67)
    have BXL := hid (BX5.out.kept (K6.out.trans k67) (fun h => h))
    have BLL := hid (BL5.out.kept (K6.out.trans k67) (fun h => h))
    have H7 := hid h7
    have HG7 : Hid (w.heap.size + 1 < g7 ∧ g7 < w7.heap.size) := hid (by
      have h1 := K6.out.size
      have h2 := HSZ1.out
      have h3 := h7.lt
      constructor
      · rw [hg7]; omega
      · exact h3)
    clear k7 k67 h7 hg7 hZ6 E6 CX6 O6 K6 HSL
    go_loopg [6, 8] (n + 1) (fun kx s6 s8 wr => ∃ (ao : Option Addr) (ln co : Nat) (z : Int) (j : Nat), s6 = .slice ao ln co ∧ s8 = .int .i64 z ∧ j ≤ n ∧ j ≤ kx ∧ Hid (z = (j : Int) - 1) ∧ Hid (Kept (Just g7) w7 wr) ∧ Hid (RlX g7 w.heap.size wr (.slice ao ln co) (climbB i ft (p.path.drop j) j)) ∧ Hid (Blk wr g7 ((climbH i ft (p.path.drop j) j).map u8v).toArray 23))
    case atStart =>
      have hd : p.path.drop n = [] := by rw [HNN.out.1, List.drop_length]
      refine ⟨_, _, _, nz, n, rfl, rfl, Nat.le_refl _, Nat.le_succ _, HNZ, Kept.refl _ _, ?_, ?_⟩
      · rw [hd]; exact O7
      · rw [hd, climbH_nil, ← HH0.out.1]; exact H7
    case round =>
      obtain ⟨ao, ln, co, z, j, rfl, rfl, hj, hjx, HZ, HK, HO, HB7⟩ := hrel
      obtain ⟨wo, rfl⟩ : ∃ wo : World, wo = wr := ⟨_, rfl⟩
      match j, hj, hjx, HZ, HO, HB7 with
      | 0, hj, hjx, HZ, HO, HB7 =>
        have hz : ¬ (0 : Int) ≤ z := by have := HZ.out; omega
        go_wp2
        go_ret
        exact ⟨_, rfl, KL.out.then HK.out (fun q _ h => by have h : q = g7 := h; have := HG7.out; omega), by unfold textsP; rw [← HFT.out]; exact HO.out.rl⟩
      | m + 1, hj, hjx, HZ, HO, HB7 =>
        obtain rfl : z = (m : Int) := by have := HZ.out; omega
        have hz : (0 : Int) ≤ (m : Int) := by omega
        have hmn : (m : Int) < (n : Int) := by omega
        have hml : m < p.path.length := by have := HNN.out.1; omega
        have hm256 : m < 256 := by have := HNN.out.2; omega
        have HKw : Hid (Kept None w wo) := hid (KL.out.then HK.out (fun q _ h => by have h : q = g7 := h; have := HG7.out; omega))
        have hSo := HS.out.kept HKw.out
        obtain ⟨b0, o0, hab, rR⟩ : ∃ b o, a = some ⟨b, o, none⟩ ∧ wo.rangeAt b (o + m * 32) ((p.path[m]'hml).map u8v) := by
          obtain ⟨hi, h⟩ := hSo
          exact h.at hml
        obtain rfl := hab
        have hdr := List.drop_eq_getElem_cons hml
        obtain ⟨R, hR⟩ : ∃ R, R = p.path[m]'hml := ⟨_, rfl⟩
        have lR : R.length = 32 := by rw [hR]; exact HP.out.1 _ (List.getElem_mem hml)
        rw [← hR] at rR hdr
        obtain ⟨hh, hhh⟩ : ∃ x, x = climbH i ft (p.path.drop (m + 1)) (m + 1) := ⟨_, rfl⟩
        have lh : hh.length = 32 := by rw [hhh]; exact climbH_len _ _ _ _
        obtain ⟨LS, hLS⟩ : ∃ x, x = climbB i ft (p.path.drop (m + 1)) (m + 1) := ⟨_, rfl⟩
        have hLl : LS.length ≤ 1000 := by rw [hLS, climbB_len, List.length_drop]; have := HNN.out; omega
        rw [← hLS] at HO
        rw [← hhh] at HB7
        obtain ⟨tx, htx⟩ : ∃ x, x = (if bitI i m = 1 then textB 110 [R, hh] else textB 110 [hh, R]) := ⟨_, rfl⟩
        have hnB : climbB i ft (p.path.drop m) m = tx :: LS := by
          rw [hdr, climbB, htx, hLS, hhh]
          unfold climbH
          split <;> rfl
        have hnH : climbH i ft (p.path.drop m) m = sumB tx := by
          unfold climbH
          rw [hnB]
          rfl
        have hT1 := fun v lo hi lo' hi' w hv => Ref.text 110 v lo hi lo' hi' [hh, R] w (by decide) (by decide) hv (by simp) (by simp [total]; omega)
        have hT2 := fun v lo hi lo' hi' w hv => Ref.text 110 v lo hi lo' hi' [R, hh] w (by decide) (by decide) hv (by simp) (by simp [total]; omega)
        have htl : tx.length ≤ 1000 := by rw [htx]; split <;> simp [textB, lumpB, leB_length] <;> omega
        have hsm := fun w v lo hi h => Ref.sum v lo hi tx w h (by omega)
        obtain ⟨sm, hsme⟩ : ∃ x, x = sumB tx := ⟨_, rfl⟩
        have lsm : sm.length = 32 := by rw [hsme]; exact sumB_len _
        rw [← hsme] at hsm hnH
        have HBW := hid (fun W => HB.out m W hm256)
        have aSM := Pr.aH32 lsm
        have HSM := hid (show (hh.map u8v).toArray.size = (sm.map u8v).toArray.size by simp [lh, lsm])
        have HN2 := hid (And.intro hnB hnH)
        have BLo := hid (BLL.out.kept HK.out (fun h => by have h : w.heap.size = g7 := h; have := HG7.out; omega))
        have BXo := hid (BXL.out.kept HK.out (fun h => by have h : w.heap.size + 1 = g7 := h; have := HG7.out; omega))
        have hcX : ∀ W, Kept None wo W → W.cell? ⟨w.heap.size + 1, 0, none⟩ = some (.slice (some ⟨b0, o0, none⟩) n c) := fun W hW => by
          rw [(BXo.out.kept hW (fun h => h)).cell]
          exact HX.out.2.2.2.1
        have hq : ∀ W, Kept None wo W → Bs W 0 W.heap.size (.slice (some ⟨g7, 0, none⟩) 32 32) hh ∧ Bs W 0 W.heap.size (.slice (some ⟨b0, o0 + m * 32, none⟩) 32 32) R := fun W hW => by
          have q1 := (HB7.out.kept hW (fun h => h)).bs 0 32 (by omega) (by decide)
          rw [List.drop_zero, List.take_of_length_le (by omega)] at q1
          exact ⟨q1.all, (range_bs (rangeAt_kept rR hW) lR (by decide)).all⟩
        have HCX := hid hcX
        have HQ := hid hq
        have HT1' := hid hT1
        have HT2' := hid hT2
        have HSUM := hid hsm
        have HTX := hid (And.intro htx (And.intro htl (And.intro hLl lsm)))
        have HGO := hid (show g7 < wo.heap.size from HB7.out.lt)
        have HWO := hid HKw.out.size
        obtain ⟨z', hz'⟩ : ∃ z : Int, z = (m : Int) - 1 := ⟨_, rfl⟩
        have rz : IntKind.i64.wrap ((m : Int) - 1) = z' := by rw [IntKind.wrap_i64, hz']; omega
        have HZ' := hid hz'
        have hlo := HO.out.form
        obtain ⟨_, _, hln⟩ := hlo
        have hlnn : ln = LS.length := by injection hln
        subst hlnn
        clear hT1 hT2 hsm hq hcX hnB hnH htx htl hLl lsm hsme hLS hhh hR lR lh rR hdr hSo hm256 hml hz' hln
        obtain ⟨t1, ht1⟩ : ∃ x, x = textB 110 [hh, R] := ⟨_, rfl⟩
        rw [← ht1] at HT1'
        obtain ⟨bv, hbv⟩ : ∃ x, x = bitI i m := ⟨_, rfl⟩
        rw [← hbv] at HBW
        have HBV := hid (And.intro hbv ht1)
        clear hbv ht1
        go_wp2_with fail
        have hs : Steady [.lists 6 [hh, R], .rb 7 wo.heap.size t1 [6]] := Go.Pm.Steady.lists (Go.Pm.Steady.rb (Go.Pm.Steady.nil))
        refine wp_region_kn wo _ hs (Kept.refl _ _) (by kernel_rfl) (by kernel_rfl) (by kernel_rfl) ?_
        iterate 6 (refine wpPar_pure rfl (by rfl) _ (fun W hW => by
            have c0 := HCX.out W hW
            go_simp
            exact rfl) ?_; simp only [Act.put, List.setIfInBounds_toArray, List.set_cons_zero, List.set_cons_succ])
        refine wpKn_adds hs rfl (by rfl) (fun W hW hd => ?_) (fun v6 hv => ?_)
        · unfold Gives
          go_simp
          exact ⟨(Kept.refl None W).alloc _, ⟨_, _, rfl⟩, _, _, _, _, Bss.new W #[.slice (some ⟨g7, 0, none⟩) 32 32, .slice (some ⟨b0, o0 + m * 32, none⟩) 32 32] 29 [hh, R] 2 rfl (by decide) ⟨(HQ.out W hW).1, (HQ.out W hW).2, trivial⟩⟩
        obtain ⟨a6, c6, rfl⟩ : ∃ a c, v6 = .slice a 2 c := hv
        simp only [Act.put, List.setIfInBounds_toArray, List.set_cons_zero, List.set_cons_succ]
        refine wpKn_adds hs rfl (by rfl) (fun W hW hd => ?_) (fun v7 hv => ?_)
        · unfold Gives
          obtain ⟨lo1, hi1, lo2, hi2, h1⟩ : ∃ lo hi lo' hi', Bss W lo hi lo' hi' (.slice a6 2 c6) [hh, R] := hd 6 (List.Mem.head _)
          go_simp
          refine gives_call (HT1'.out _ _ _ _ _ _ h1) ?_
          rintro e w3 ⟨u, rfl, k3, b3⟩
          obtain ⟨a3, c3, rfl⟩ := b3.form
          exact ⟨_, rfl, k3, ⟨_, _, rfl⟩, b3.rb.mono (hW.size)⟩
        obtain ⟨a7, c7, rfl⟩ : ∃ a c, v7 = .slice a t1.length c := hv
        simp only [Act.put, List.setIfInBounds_toArray, List.set_cons_zero, List.set_cons_succ]
        iterate 1 (refine wpPar_pure rfl (by rfl) _ (fun W hW => by
            have c0 := HCX.out W hW
            go_simp
            exact rfl) ?_; simp only [Act.put, List.setIfInBounds_toArray, List.set_cons_zero, List.set_cons_succ])
        refine wpPar_nil (fun w3 hW hG => ?_)
        have R7 : Rb wo.heap.size w3 (.slice a7 t1.length c7) t1 := hG 7
        have HR7 := hid R7
        have K3 := hid hW
        have bL3 := BLo.out.kept hW (fun h => h)
        clear hG hs hW R7
        go_wp2_with (first | (refine wpList_load_blk rfl _ _ rfl rfl bL3 aL ?_) | fail)
        refine (HBW.out w3).mono ?_
        rintro e w4 ⟨rfl, k4⟩
        have K4 := hid (K3.out.trans k4)
        have HR4 := hid (HR7.out.kept k4)
        clear k4 bL3 HR7 K3
        by_cases hb : bv = 1
        · have hbz : ((bv : Int) == 1) = true := by rw [hb]; rfl
          have htx : tx = textB 110 [R, hh] := by rw [HTX.out.1, if_pos (by rw [← HBV.out.1]; exact hb)]
          rw [← htx] at HT2'
          have HQ2 : Hid (∀ W, Kept None w4 W → Bs W 0 W.heap.size (.slice (some ⟨b0, o0 + m * 32, none⟩) 32 32) R ∧ Bs W 0 W.heap.size (.slice (some ⟨g7, 0, none⟩) 32 32) hh) := hid (fun W hW => ⟨(HQ.out W (K4.out.trans hW)).2, (HQ.out W (K4.out.trans hW)).1⟩)
          have HCX2 : Hid (∀ W, Kept None w4 W → W.cell? ⟨w.heap.size + 1, 0, none⟩ = some (.slice (some ⟨b0, o0, none⟩) n c)) := hid (fun W hW => HCX.out W (K4.out.trans hW))
          have HS4 := hid K4.out.size
          clear hb htx HQ HCX HR4
          go_wp2_with fail
          have hs : Steady [.lists 6 [R, hh], .rb 7 wo.heap.size tx [6]] := Go.Pm.Steady.lists (Go.Pm.Steady.rb (Go.Pm.Steady.nil))
          refine wp_region_kn w4 _ hs (Kept.refl _ _) (by kernel_rfl) (by kernel_rfl) (by kernel_rfl) ?_
          iterate 6 (refine wpPar_pure rfl (by rfl) _ (fun W hW => by
              have c0 := HCX2.out W hW
              go_simp
              exact rfl) ?_; simp only [Act.put, List.setIfInBounds_toArray, List.set_cons_zero, List.set_cons_succ])
          refine wpKn_adds hs rfl (by rfl) (fun W hW hd => ?_) (fun v6 hv => ?_)
          · unfold Gives
            go_simp
            exact ⟨(Kept.refl None W).alloc _, ⟨_, _, rfl⟩, _, _, _, _, Bss.new W #[.slice (some ⟨b0, o0 + m * 32, none⟩) 32 32, .slice (some ⟨g7, 0, none⟩) 32 32] 29 [R, hh] 2 rfl (by decide) ⟨(HQ2.out W hW).1, (HQ2.out W hW).2, trivial⟩⟩
          obtain ⟨a6, c6, rfl⟩ : ∃ a c, v6 = .slice a 2 c := hv
          simp only [Act.put, List.setIfInBounds_toArray, List.set_cons_zero, List.set_cons_succ]
          refine wpKn_adds hs rfl (by rfl) (fun W hW hd => ?_) (fun v7 hv => ?_)
          · unfold Gives
            obtain ⟨lo1, hi1, lo2, hi2, h1⟩ : ∃ lo hi lo' hi', Bss W lo hi lo' hi' (.slice a6 2 c6) [R, hh] := hd 6 (List.Mem.head _)
            go_simp
            refine gives_call (HT2'.out _ _ _ _ _ _ h1) ?_
            rintro e w3 ⟨u, rfl, k3, b3⟩
            obtain ⟨a3, c3, rfl⟩ := b3.form
            exact ⟨_, rfl, k3, ⟨_, _, rfl⟩, b3.rb.mono (Nat.le_trans HS4.out hW.size)⟩
          obtain ⟨a7, c7, rfl⟩ : ∃ a c, v7 = .slice a tx.length c := hv
          simp only [Act.put, List.setIfInBounds_toArray, List.set_cons_zero, List.set_cons_succ]
          iterate 1 (refine wpPar_pure rfl (by rfl) _ (fun W hW => by
              have c0 := HCX2.out W hW
              go_simp
              exact rfl) ?_; simp only [Act.put, List.setIfInBounds_toArray, List.set_cons_zero, List.set_cons_succ])
          refine wpPar_nil (fun w5 hW hG => ?_)
          have R7 : Rb wo.heap.size w5 (.slice a7 tx.length c7) tx := hG 7
          have RT := hid R7
          have K5 := hid (K4.out.trans hW)
          clear hG hs hW R7
          have KT := hid (K5.out)
          have HO1 := hid ((HO.out.kept KT.out (fun _ h => h.elim)).kept ((Kept.refl None w5).alloc (.cells #[.slice a7 tx.length c7] 29)) (fun _ h => h.elim))
          have RT1 := hid (RT.out.kept ((Kept.refl None w5).alloc (.cells #[.slice a7 tx.length c7] 29)))
          have HY : Hid (∃ c d, w.heap.size ≤ c ∧ Off g7 c d ∧ Bs (w5.alloc (.cells #[.slice a7 tx.length c7] 29)) c d (.slice a7 tx.length c7) tx) := hid (by
            obtain ⟨c1, d1, q1, q2, q3⟩ := RT1.out.off HGO.out
            exact ⟨c1, d1, Nat.le_trans HWO.out q1, q2, q3⟩)
          have BY := hid (Blk.new w5 #[.slice a7 tx.length c7] 29)
          have HSW := hid KT.out.size
          go_wp2_with (first | (at_builtin; refine wpList_append_rlx rfl _ _ 52 rfl Pr.rtLists (by decide) (g := g7) (lo := w.heap.size) (gy := w5.heap.size) (Nat.lt_of_lt_of_le HGO.out HSW.out) (Nat.le_trans HWO.out HSW.out) rfl rfl BY.out HY.out HO1.out (Nat.le_trans HTX.out.2.2.1 (by decide)) ?_; intro a9 c9 w9 p9 k9) | fail)
          have K9 := hid ((KT.out.alloc (.cells #[.slice a7 tx.length c7] 29)).trans k9)
          have P9 := hid p9
          obtain ⟨hiT, bT⟩ := RT1.out.kept k9
          clear p9 k9
          refine (HSUM.out w9 _ _ _ bT).mono ?_
          rintro e w10 ⟨rfl, k10⟩
          have K10 := hid (K9.out.trans k10)
          have P10 := hid (P9.out.kept k10 (fun _ h => h.elim))
          have hB10 := HB7.out.kept K10.out (fun h => h)
          clear k10 bT
          go_wp2_with (first | (refine wpList_store_blk rfl _ _ _ rfl rfl rfl hB10 aSM HSM.out (u8v_all' _) ?_; intro w11 h11 k11) | fail)
          have K11 : Hid (Kept (Just g7) w7 w11) := hid ((HK.out.then K10.out (fun _ _ h => h.elim)).trans k11)
          have P11 : Hid (RlX g7 w.heap.size w11 (.slice a9 (tx :: LS).length c9) (climbB i ft (p.path.drop m) m)) := hid (by rw [HN2.out.1]; exact P10.out.kept k11 (fun _ h => h))
          have H11 : Hid (Blk w11 g7 ((climbH i ft (p.path.drop m) m).map u8v).toArray 23) := hid (by rw [HN2.out.2]; exact h11)
          clear k11 h11 hB10
          go_roundg m
          case measure => omega
          case rel => exact ⟨_, _, _, z', m, rfl, rfl, by omega, Nat.le_refl _, HZ', K11, P11, H11⟩
        · have hbz : ((bv : Int) == 1) = false := by rw [beq_eq_false_iff_ne]; omega
          have htx : t1 = tx := by rw [HTX.out.1, if_neg (by rw [← HBV.out.1]; exact hb), HBV.out.2]
          subst htx
          have RT := HR4
          clear hb HQ HCX
          have KT := hid (K4.out)
          have HO1 := hid ((HO.out.kept KT.out (fun _ h => h.elim)).kept ((Kept.refl None w4).alloc (.cells #[.slice a7 t1.length c7] 29)) (fun _ h => h.elim))
          have RT1 := hid (RT.out.kept ((Kept.refl None w4).alloc (.cells #[.slice a7 t1.length c7] 29)))
          have HY : Hid (∃ c d, w.heap.size ≤ c ∧ Off g7 c d ∧ Bs (w4.alloc (.cells #[.slice a7 t1.length c7] 29)) c d (.slice a7 t1.length c7) t1) := hid (by
            obtain ⟨c1, d1, q1, q2, q3⟩ := RT1.out.off HGO.out
            exact ⟨c1, d1, Nat.le_trans HWO.out q1, q2, q3⟩)
          have BY := hid (Blk.new w4 #[.slice a7 t1.length c7] 29)
          have HSW := hid KT.out.size
          go_wp2_with (first | (at_builtin; refine wpList_append_rlx rfl _ _ 52 rfl Pr.rtLists (by decide) (g := g7) (lo := w.heap.size) (gy := w4.heap.size) (Nat.lt_of_lt_of_le HGO.out HSW.out) (Nat.le_trans HWO.out HSW.out) rfl rfl BY.out HY.out HO1.out (Nat.le_trans HTX.out.2.2.1 (by decide)) ?_; intro a9 c9 w9 p9 k9) | fail)
          have K9 := hid ((KT.out.alloc (.cells #[.slice a7 t1.length c7] 29)).trans k9)
          have P9 := hid p9
          obtain ⟨hiT, bT⟩ := RT1.out.kept k9
          clear p9 k9
          refine (HSUM.out w9 _ _ _ bT).mono ?_
          rintro e w10 ⟨rfl, k10⟩
          have K10 := hid (K9.out.trans k10)
          have P10 := hid (P9.out.kept k10 (fun _ h => h.elim))
          have hB10 := HB7.out.kept K10.out (fun h => h)
          clear k10 bT
          go_wp2_with (first | (refine wpList_store_blk rfl _ _ _ rfl rfl rfl hB10 aSM HSM.out (u8v_all' _) ?_; intro w11 h11 k11) | fail)
          have K11 : Hid (Kept (Just g7) w7 w11) := hid ((HK.out.then K10.out (fun _ _ h => h.elim)).trans k11)
          have P11 : Hid (RlX g7 w.heap.size w11 (.slice a9 (t1 :: LS).length c9) (climbB i ft (p.path.drop m) m)) := hid (by rw [HN2.out.1]; exact P10.out.kept k11 (fun _ h => h))
          have H11 : Hid (Blk w11 g7 ((climbH i ft (p.path.drop m) m).map u8v).toArray 23) := hid (by rw [HN2.out.2]; exact h11)
          clear k11 h11 hB10
          go_roundg m
          case measure => omega
          case rel => exact ⟨_, _, _, z', m, rfl, rfl, by omega, Nat.le_refl _, HZ', K11, P11, H11⟩
end RPr
end Go.Proofs.Ytidegffdhpdhjaa

namespace Go.Pm
open Go Go.RowKit
/-- What Clash tells: two texts, or none. -/
def clashA (i : List UInt8) (p q : Pf) : List UInt8 := match clashP i p q with | some (a, _) => a | none => []
def clashB (i : List UInt8) (p q : Pf) : List UInt8 := match clashP i p q with | some (_, b) => b | none => []
def clashO (i : List UInt8) (p q : Pf) : Bool := match clashP i p q with | some _ => true | none => false
theorem clash_none {i : List UInt8} {p q : Pf} (h : clashP i p q = none) : clashA i p q = [] ∧ clashB i p q = [] ∧ clashO i p q = false := by
  unfold clashA clashB clashO
  rw [h]
  exact ⟨rfl, rfl, rfl⟩
theorem clash_some {i : List UInt8} {p q : Pf} {a b : List UInt8} (h : clashP i p q = some (a, b)) : clashA i p q = a ∧ clashB i p q = b ∧ clashO i p q = true := by
  unfold clashA clashB clashO
  rw [h]
  exact ⟨rfl, rfl, rfl⟩
theorem part_step (l m : List (List UInt8)) (k : Nat) (h1 : k < l.length) (h2 : k < m.length) : partB (l.drop k) (m.drop k) = if l[k] = m[k] then partB (l.drop (k + 1)) (m.drop (k + 1)) else some (l[k], m[k]) := by
  rw [List.drop_eq_getElem_cons h1, List.drop_eq_getElem_cons h2]
  rfl
theorem part_done (l m : List (List UInt8)) (k : Nat) (h : l.length ≤ k ∨ m.length ≤ k) : partB (l.drop k) (m.drop k) = none := by
  rcases h with h | h
  · rw [List.drop_of_length_le h]; rfl
  · rw [List.drop_of_length_le h]
    cases l.drop k <;> rfl
theorem str_eq (a b : List UInt8) : ((⟨a.toArray⟩ : ByteArray) == ⟨b.toArray⟩) = (a == b) := by
  rw [beq_toListBytes, ByteArray.toList_mk, ByteArray.toList_mk]
end Go.Pm
namespace Go.Proofs.Ytidegffdhpdhjaa
open Go.RowKit Go.Pm
namespace Pr
theorem saysA (m : Pf) (A : Array Value) (w : World) (h : PV m w A) : Calls Try.prog 104 #[.agg A] w fun e w' => e = .returned (.tuple #[hashV (saysV m), .bool (saysH m)]) ∧ Kept None w w' := by
  obtain ⟨h0, u, rfl, h2⟩ := h
  exact says u m w h0
theorem climbA (i : List UInt8) (m : Pf) (A : Array Value) (w : World) (hi : i.length = 32) (h : PV m w A) (hn : m.path.length ≤ 256) :
    Calls Try.prog 67 #[hashV i, .agg A, .int .i64 0] w fun e w' => ∃ u, e = .returned (.tuple #[hashV (rootP i m), u]) ∧ Kept None w w' ∧ Rl w.heap.size w' u (textsP i m) := by
  obtain ⟨h0, u, rfl, h2⟩ := h
  exact climb i u m hi h0 hn m.path.length 0 w (by omega) h2
set_option maxHeartbeats 1000000 in
/-- bytes.Equal. -/
theorem eqBytes (a b : List UInt8) (v u : Value) (lo hi lo' hi' : Nat) (w : World) (hv : Bs w lo hi v a) (hu : Bs w lo' hi' u b) : Calls Try.prog 68 #[v, u] w fun e w' => e = .returned (.bool (a == b)) ∧ Kept None w w' := by
  have c1 := cvBytes hv
  have c2 := cvBytes hu
  go_enter Try.func68, Try.ntmps68
  go_wp2
  go_ret
  exact ⟨rfl, Kept.refl _ _⟩
set_option maxRecDepth 100000 in
set_option maxHeartbeats 2000000 in
/-- sameSaid. -/
theorem sameSaid (p q : Pf) (A B : Array Value) (w : World) (hA : PV p w A) (hB : PV q w B) : Calls Try.prog 66 #[.agg A, .agg B] w fun e w' => e = .returned (.bool (sameP p q)) ∧ Kept None w w' := by
  have aA := PV.agg hA
  have aB := PV.agg hB
  have f1 := fun W (h : PV p W A) => saysA p A W h
  have f2 := fun W (h : PV q W B) => saysA q B W h
  have s1 := saysV_len hA.1
  have s2 := saysV_len hB.1
  have hsm : sameP p q = ((saysV p == saysV q) && (saysH p == saysH q)) := rfl
  have eq := Hk.eqHash (saysV p) (saysV q) s1 s2
  obtain ⟨bV, hbV⟩ : ∃ b, b = (saysV p == saysV q) := ⟨_, rfl⟩
  rw [← hbV] at hsm eq
  obtain ⟨h1, hh1⟩ : ∃ b, b = saysH p := ⟨_, rfl⟩
  obtain ⟨h2, hh2⟩ : ∃ b, b = saysH q := ⟨_, rfl⟩
  rw [← hh1] at hsm f1
  rw [← hh2] at hsm f2
  obtain ⟨V1, hV1⟩ : ∃ V : Array Value, V = ((saysV p).map u8v).toArray := ⟨_, rfl⟩
  obtain ⟨V2, hV2⟩ : ∃ V : Array Value, V = ((saysV q).map u8v).toArray := ⟨_, rfl⟩
  have a1 : AggTy Try.prog 23 V1.size := by rw [hV1]; exact aH32 s1
  have a2 : AggTy Try.prog 23 V2.size := by rw [hV2]; exact aH32 s2
  have z1 : V1.size = 32 := by rw [hV1]; simpa using s1
  have z2 : V2.size = 32 := by rw [hV2]; simpa using s2
  have o1 : V1.all (·.oneCell') = true := by rw [hV1]; exact u8v_all' _
  have o2 : V2.all (·.oneCell') = true := by rw [hV2]; exact u8v_all' _
  simp only [hashV, ← hV1] at f1
  simp only [hashV, ← hV2] at f2
  rw [← hV1, ← hV2] at eq
  have F1 := hid f1
  have F2 := hid f2
  have EQ := hid eq
  have HV := hid (And.intro z1 (And.intro z2 (And.intro o1 o2)))
  rw [hsm]
  have k0 : Kept None w ((w.alloc (.cells A 63)).alloc (.cells B 63)) := ((Kept.refl _ _).alloc _).alloc _
  have bA : Blk ((w.alloc (.cells A 63)).alloc (.cells B 63)) w.heap.size A 63 := (Blk.new w _ _).alloc _
  have bB : Blk ((w.alloc (.cells A 63)).alloc (.cells B 63)) (w.heap.size + 1) B 63 := Blk.new2 w _ _ _
  have P1 := hid (hA.kept k0)
  have P2 := hid (hB.kept k0)
  clear f1 f2 eq s1 s2 hsm hbV hh1 hh2 hV1 hV2 z1 z2 o1 o2 hA hB
  go_enter Try.func66, Try.ntmps66
  go_wp2_with (first | (refine wpList_load_blk (.refl _) _ _ rfl rfl bA aA ?_) | fail)
  refine Calls.nm ?_
  intro w0 e0
  rw [← e0] at k0 bA bB P1 P2
  clear e0
  refine (F1.out w0 P1.out).mono ?_
  rintro e w1 ⟨rfl, k1⟩
  have k01 := k0.trans k1
  have bB1 := bB.kept k1 (fun h => h)
  have P21 := hid (P2.out.kept k1)
  obtain ⟨y1, hy1, Y1⟩ := Blk.any (n := 32) (Blk.new w1 #[.int .u8 0, .int .u8 0, .int .u8 0, .int .u8 0, .int .u8 0, .int .u8 0, .int .u8 0, .int .u8 0, .int .u8 0, .int .u8 0, .int .u8 0, .int .u8 0, .int .u8 0, .int .u8 0, .int .u8 0, .int .u8 0, .int .u8 0, .int .u8 0, .int .u8 0, .int .u8 0, .int .u8 0, .int .u8 0, .int .u8 0, .int .u8 0, .int .u8 0, .int .u8 0, .int .u8 0, .int .u8 0, .int .u8 0, .int .u8 0, .int .u8 0, .int .u8 0] 23) (by rfl)
  have E1 := hid (hy1.trans HV.out.1.symm)
  have s01 := bB1.lt
  clear hy1 k0 k1 bA bB P1 P2
  go_wp2_with (first | (refine wpList_store_blk rfl _ _ _ rfl rfl rfl Y1 a1 E1.out HV.out.2.2.1 ?_; intro w2 b5 k2; have k12 := k2.fresh; have bB2 := bB1.kept k12 (fun h => h)) | (refine wpList_load_blk (.refl _) _ _ rfl rfl bB2 aB ?_) | fail)
  have k02 := k01.trans k12
  have P22 := hid (P21.out.kept k12)
  clear k01 k2 k12 bB1 Y1 P21
  refine (F2.out w2 P22.out).mono ?_
  rintro e w3 ⟨rfl, k3⟩
  have k03 := k02.trans k3
  have b53 := b5.kept k3 (fun h => h)
  obtain ⟨y2, hy2, Y2⟩ := Blk.any (n := 32) (Blk.new w3 #[.int .u8 0, .int .u8 0, .int .u8 0, .int .u8 0, .int .u8 0, .int .u8 0, .int .u8 0, .int .u8 0, .int .u8 0, .int .u8 0, .int .u8 0, .int .u8 0, .int .u8 0, .int .u8 0, .int .u8 0, .int .u8 0, .int .u8 0, .int .u8 0, .int .u8 0, .int .u8 0, .int .u8 0, .int .u8 0, .int .u8 0, .int .u8 0, .int .u8 0, .int .u8 0, .int .u8 0, .int .u8 0, .int .u8 0, .int .u8 0, .int .u8 0, .int .u8 0] 23) (by rfl)
  have E2 := hid (hy2.trans HV.out.2.1.symm)
  have eq := EQ.out
  clear hy2 k02 k3 b5 bB2 P22
  cases bV with
  | true =>
    go_wp2_with (first | go_skip | (refine wpList_store_blk rfl _ _ _ rfl rfl rfl Y2 a2 E2.out HV.out.2.2.2 ?_; intro w4 b7 k4; have k34 := k4.fresh; have b54 := b53.kept k34 (fun h => h)) | (refine wpList_load_blk rfl _ _ rfl rfl b54 a1 ?_) | (refine wpList_load_blk rfl _ _ rfl rfl b7 a2 ?_) | fail)
    have k04 := k03.trans k34
    go_ret
    exact ⟨by simp, k04⟩
  | false =>
    go_wp2_with (first | go_skip | (refine wpList_store_blk rfl _ _ _ rfl rfl rfl Y2 a2 E2.out HV.out.2.2.2 ?_; intro w4 b7 k4; have k34 := k4.fresh; have b54 := b53.kept k34 (fun h => h)) | (refine wpList_load_blk rfl _ _ rfl rfl b54 a1 ?_) | (refine wpList_load_blk rfl _ _ rfl rfl b7 a2 ?_) | fail)
    have k04 := k03.trans k34
    go_ret
    exact ⟨by simp, k04⟩
set_option maxRecDepth 100000 in
set_option maxHeartbeats 8000000 in
/-- Clash. -/
theorem clash (i : List UInt8) (p q : Pf) (A B : Array Value) (w : World) (hi : i.length = 32) (hA : PV p w A) (hB : PV q w B) :
    Calls Try.prog 30 #[hashV i, .agg A, .agg B] w fun e w' => ∃ u v, e = .returned (.tuple #[u, v, .bool (clashO i p q)]) ∧ Kept None w w' ∧ Rb 0 w' u (clashA i p q) ∧ Rb 0 w' v (clashB i p q) := by
  have aA := PV.agg hA
  have aB := PV.agg hB
  have fr1 := fun W (h : PV p W A) => rightA i p A W hi h
  have fr2 := fun W (h : PV q W B) => rightA i q B W hi h
  have fs := fun W (h : PV p W A) (h' : PV q W B) => sameSaid p q A B W h h'
  have fc1 := fun W (h : PV p W A) (hn : p.path.length ≤ 256) => climbA i p A W hi h hn
  have fc2 := fun W (h : PV q W B) (hn : q.path.length ≤ 256) => climbA i q B W hi h hn
  have l1 : rightP i p = true → p.path.length ≤ 256 := fun h => rightP_len h
  have l2 : rightP i q = true → q.path.length ≤ 256 := fun h => rightP_len h
  have t1 : (textsP i p).length = p.path.length + 1 := by unfold textsP; rw [climbB_len]
  have t2 : (textsP i q).length = q.path.length + 1 := by unfold textsP; rw [climbB_len]
  have q1 : (rootP i p).length = 32 := climbH_len _ _ _ _
  have q2 : (rootP i q).length = 32 := climbH_len _ _ _ _
  have neq := Hk.neqHash (rootP i p) (rootP i q) q1 q2
  have hdef : clashP i p q = if rightP i p && rightP i q && !(sameP p q) && (rootP i p == rootP i q) then partB (textsP i p) (textsP i q) else none := rfl
  obtain ⟨IA, hIA⟩ : ∃ V : Array Value, V = (i.map u8v).toArray := ⟨_, rfl⟩
  have aI : AggTy Try.prog 23 IA.size := by rw [hIA]; exact aH32 hi
  obtain ⟨R1, hR1⟩ : ∃ V : Array Value, V = ((rootP i p).map u8v).toArray := ⟨_, rfl⟩
  obtain ⟨R2, hR2⟩ : ∃ V : Array Value, V = ((rootP i q).map u8v).toArray := ⟨_, rfl⟩
  have a1 : AggTy Try.prog 23 R1.size := by rw [hR1]; exact aH32 q1
  have a2 : AggTy Try.prog 23 R2.size := by rw [hR2]; exact aH32 q2
  have z1 : R1.size = 32 := by rw [hR1]; simpa using q1
  have z2 : R2.size = 32 := by rw [hR2]; simpa using q2
  have o1 : R1.all (·.oneCell') = true := by rw [hR1]; exact u8v_all' _
  have o2 : R2.all (·.oneCell') = true := by rw [hR2]; exact u8v_all' _
  obtain ⟨br, hbr⟩ : ∃ b, b = (rootP i p == rootP i q) := ⟨_, rfl⟩
  obtain ⟨b1, hb1⟩ : ∃ b, b = rightP i p := ⟨_, rfl⟩
  obtain ⟨b2, hb2⟩ : ∃ b, b = rightP i q := ⟨_, rfl⟩
  obtain ⟨bs, hbs⟩ : ∃ b, b = sameP p q := ⟨_, rfl⟩
  obtain ⟨T1, hT1⟩ : ∃ l, l = textsP i p := ⟨_, rfl⟩
  obtain ⟨T2, hT2⟩ : ∃ l, l = textsP i q := ⟨_, rfl⟩
  rw [← hb1] at fr1 l1 hdef
  rw [← hb2] at fr2 l2 hdef
  rw [← hbs] at fs hdef
  rw [← hbr] at neq hdef
  rw [← hT1] at fc1 t1 hdef
  rw [← hT2] at fc2 t2 hdef
  simp only [hashV, ← hIA] at fr1 fr2 fc1 fc2 ⊢
  rw [← hR1] at fc1 neq
  rw [← hR2] at fc2 neq
  have FR1 := hid fr1
  have FR2 := hid fr2
  have FS := hid fs
  have FC1 := hid fc1
  have FC2 := hid fc2
  have HLN := hid (And.intro l1 (And.intro l2 (And.intro t1 t2)))
  have NEQ := hid neq
  have HV := hid (And.intro z1 (And.intro z2 (And.intro o1 o2)))
  have HD := hid hdef
  have k0 : Kept None w (((w.alloc (.cells IA 23)).alloc (.cells A 63)).alloc (.cells B 63)) := (((Kept.refl _ _).alloc _).alloc _).alloc _
  have bI : Blk (((w.alloc (.cells IA 23)).alloc (.cells A 63)).alloc (.cells B 63)) w.heap.size IA 23 := ((Blk.new w _ _).alloc _).alloc _
  have bA : Blk (((w.alloc (.cells IA 23)).alloc (.cells A 63)).alloc (.cells B 63)) (w.heap.size + 1) A 63 := (Blk.new2 w _ _ _).alloc _
  have bB : Blk (((w.alloc (.cells IA 23)).alloc (.cells A 63)).alloc (.cells B 63)) (w.heap.size + 1 + 1) B 63 := Blk.new3 w _ _ _ _
  have P1 := hid (hA.kept k0)
  have P2 := hid (hB.kept k0)
  clear fr1 fr2 fs fc1 fc2 l1 l2 t1 t2 q1 q2 neq hdef hIA hR1 hR2 z1 z2 o1 o2 hbr hb1 hb2 hbs hT1 hT2 hA hB
  go_enter Try.func30, Try.ntmps30
  go_wp2_with (first | go_skip | (refine wpList_load_blk rfl _ _ rfl rfl bI aI ?_) | (refine wpList_load_blk (.refl _) _ _ rfl rfl bA aA ?_) | fail)
  refine Calls.nm ?_
  intro w0 e0
  rw [← e0] at k0 bI bA bB P1 P2
  clear e0
  refine (FR1.out w0 P1.out).mono ?_
  rintro e w1 ⟨rfl, k1⟩
  have k01 := k0.trans k1
  have bI1 := bI.kept k1 (fun h => h)
  have bA1 := bA.kept k1 (fun h => h)
  have bB1 := bB.kept k1 (fun h => h)
  have P11 := hid (P1.out.kept k1)
  have P21 := hid (P2.out.kept k1)
  clear k0 bI bA bB P1 P2 k1
  cases b1 with
  | false =>
    have hno : clashP i p q = none := by rw [HD.out]; simp
    have NN := hid (clash_none hno)
    clear hno
    go_wp2_with (first | go_skip | fail)
    go_ret3
    exact ⟨.slice none 0 0, .slice none 0 0, by rw [NN.out.2.2]; rfl, k01, by rw [NN.out.1]; exact Rb.nil _ _, by rw [NN.out.2.1]; exact Rb.nil _ _⟩
  | true =>
    go_wp2_with (first | go_skip | (refine wpList_load_bw (by kernel_rfl) rfl rfl bI1 aI ?_) | (refine wpList_load_bw (by kernel_rfl) rfl rfl bB1 aB ?_) | fail)
    refine (FR2.out w1 P21.out).mono ?_
    rintro e w2 ⟨rfl, k2⟩
    have k02 := k01.trans k2
    have bI2 := bI1.kept k2 (fun h => h)
    have bA2 := bA1.kept k2 (fun h => h)
    have bB2 := bB1.kept k2 (fun h => h)
    have P12 := hid (P11.out.kept k2)
    have P22 := hid (P21.out.kept k2)
    clear k01 bI1 bA1 bB1 P11 P21 k2
    cases b2 with
    | false =>
      have hno : clashP i p q = none := by rw [HD.out]; simp
      have NN := hid (clash_none hno)
      clear hno
      go_wp2_with (first | go_skip | fail)
      go_ret3
      exact ⟨.slice none 0 0, .slice none 0 0, by rw [NN.out.2.2]; rfl, k02, by rw [NN.out.1]; exact Rb.nil _ _, by rw [NN.out.2.1]; exact Rb.nil _ _⟩
    | true =>
      go_wp2_with (first | go_skip | (refine wpList_load_bw (by kernel_rfl) rfl rfl bA2 aA ?_) | (refine wpList_load_bw (by kernel_rfl) rfl rfl bB2 aB ?_) | fail)
      refine (FS.out w2 P12.out P22.out).mono ?_
      rintro e w3 ⟨rfl, k3⟩
      have k03 := k02.trans k3
      have bI3 := bI2.kept k3 (fun h => h)
      have bA3 := bA2.kept k3 (fun h => h)
      have bB3 := bB2.kept k3 (fun h => h)
      have P13 := hid (P12.out.kept k3)
      have P23 := hid (P22.out.kept k3)
      clear k02 bI2 bA2 bB2 P12 P22 k3 FR1 FR2 FS
      cases bs with
      | true =>
        have hno : clashP i p q = none := by rw [HD.out]; simp
        have NN := hid (clash_none hno)
        clear hno
        go_wp2_with (first | go_skip | fail)
        go_ret3
        exact ⟨.slice none 0 0, .slice none 0 0, by rw [NN.out.2.2]; rfl, k03, by rw [NN.out.1]; exact Rb.nil _ _, by rw [NN.out.2.1]; exact Rb.nil _ _⟩
      | false =>
        have hlp := HLN.out.1 (by simp)
        have hlq := HLN.out.2.1 (by simp)
        go_wp2_with (first | (refine wpList_load_blk rfl _ _ rfl rfl bI3 aI ?_) | (refine wpList_load_blk (.refl _) _ _ rfl rfl bA3 aA ?_) | fail)
        refine (FC1.out w3 P13.out hlp).mono ?_
        rintro e w4 ⟨u1, rfl, k4, r1⟩
        have k04 := k03.trans k4
        have bI4 := bI3.kept k4 (fun h => h)
        have bB4 := bB3.kept k4 (fun h => h)
        have P24 := hid (P23.out.kept k4)
        have RL1 := hid (r1.mono (Nat.zero_le _))
        obtain ⟨y1, hy1, Y1⟩ := Blk.any (n := 32) (Blk.new w4 #[.int .u8 0, .int .u8 0, .int .u8 0, .int .u8 0, .int .u8 0, .int .u8 0, .int .u8 0, .int .u8 0, .int .u8 0, .int .u8 0, .int .u8 0, .int .u8 0, .int .u8 0, .int .u8 0, .int .u8 0, .int .u8 0, .int .u8 0, .int .u8 0, .int .u8 0, .int .u8 0, .int .u8 0, .int .u8 0, .int .u8 0, .int .u8 0, .int .u8 0, .int .u8 0, .int .u8 0, .int .u8 0, .int .u8 0, .int .u8 0, .int .u8 0, .int .u8 0] 23) (by rfl)
        have E1 := hid (hy1.trans HV.out.1.symm)
        obtain ⟨m1, hm1⟩ : ∃ n, n = T1.length := ⟨_, rfl⟩
        obtain ⟨m2, hm2⟩ : ∃ n, n = T2.length := ⟨_, rfl⟩
        have HMM := hid (And.intro hm1 hm2)
        obtain ⟨au1, cu1, rfl⟩ := r1.form
        rw [← hm1] at RL1 ⊢
        have hml : m1 ≤ 257 ∧ m2 ≤ 257 := by have := HLN.out; omega
        clear k03 bI3 bA3 bB3 P13 P23 k4 hy1 FC1 r1 hm1 hm2
        go_wp2_with (first | (refine wpList_store_blk rfl _ _ _ rfl rfl rfl Y1 a1 E1.out HV.out.2.2.1 ?_; intro w5 b9 k5; have k45 := k5.fresh; have bI5 := bI4.kept k45 (fun h => h); have bB5 := bB4.kept k45 (fun h => h)) | (refine wpList_load_blk rfl _ _ rfl rfl bI5 aI ?_) | (refine wpList_load_blk (.refl _) _ _ rfl rfl bB5 aB ?_) | fail)
        have k05 := k04.trans k45
        have P25 := hid (P24.out.kept k45)
        have RL15 := hid (RL1.out.kept k45)
        clear k04 k5 k45 Y1 bI4 bB4 P24 RL1
        refine (FC2.out w5 P25.out hlq).mono ?_
        rintro e w6 ⟨u2, rfl, k6, r2⟩
        have k06 := k05.trans k6
        have b96 := b9.kept k6 (fun h => h)
        have RL16 := hid (RL15.out.kept k6)
        have RL2 := hid (r2.mono (Nat.zero_le _))
        obtain ⟨y2, hy2, Y2⟩ := Blk.any (n := 32) (Blk.new w6 #[.int .u8 0, .int .u8 0, .int .u8 0, .int .u8 0, .int .u8 0, .int .u8 0, .int .u8 0, .int .u8 0, .int .u8 0, .int .u8 0, .int .u8 0, .int .u8 0, .int .u8 0, .int .u8 0, .int .u8 0, .int .u8 0, .int .u8 0, .int .u8 0, .int .u8 0, .int .u8 0, .int .u8 0, .int .u8 0, .int .u8 0, .int .u8 0, .int .u8 0, .int .u8 0, .int .u8 0, .int .u8 0, .int .u8 0, .int .u8 0, .int .u8 0, .int .u8 0] 23) (by rfl)
        have E2 := hid (hy2.trans HV.out.2.1.symm)
        obtain ⟨au2, cu2, rfl⟩ := r2.form
        rw [← HMM.out.2] at RL2 ⊢
        have neq := NEQ.out
        clear k05 k6 b9 bI5 bB5 P25 RL15 hy2 FC2 r2
        cases br with
        | false =>
          have hno : clashP i p q = none := by rw [HD.out]; simp
          have NN := hid (clash_none hno)
          clear hno
          go_wp2_with (first | (refine wpList_store_blk rfl _ _ _ rfl rfl rfl Y2 a2 E2.out HV.out.2.2.2 ?_; intro w7 b11 k7; have k67 := k7.fresh; have b97 := b96.kept k67 (fun h => h)) | (refine wpList_load_blk rfl _ _ rfl rfl b97 a1 ?_) | (refine wpList_load_blk rfl _ _ rfl rfl b11 a2 ?_) | fail)
          have k07 := k06.trans k67
          go_ret3
          exact ⟨.slice none 0 0, .slice none 0 0, by rw [NN.out.2.2]; rfl, k07, by rw [NN.out.1]; exact Rb.nil _ _, by rw [NN.out.2.1]; exact Rb.nil _ _⟩
        | true =>
          have hpt : clashP i p q = partB T1 T2 := by rw [HD.out]; simp
          have HPT := hid hpt
          obtain ⟨M, hM⟩ : ∃ M, M = min m1 m2 := ⟨_, rfl⟩
          have hMi : min (m1 : Int) (m2 : Int) = (M : Int) := by omega
          have HMI := hid (show M ≤ m1 ∧ M ≤ m2 ∧ (M = m1 ∨ M = m2) ∧ M ≤ 257 by omega)
          clear hpt hM
          go_wp2_with (first | (refine wpList_store_blk rfl _ _ _ rfl rfl rfl Y2 a2 E2.out HV.out.2.2.2 ?_; intro w7 b11 k7; have k67 := k7.fresh; have b97 := b96.kept k67 (fun h => h)) | (refine wpList_load_blk rfl _ _ rfl rfl b97 a1 ?_) | (refine wpList_load_blk rfl _ _ rfl rfl b11 a2 ?_) | fail)
          have K07 := hid (k06.trans k67)
          have RL17 := hid (RL16.out.kept k67)
          have RL27 := hid (RL2.out.kept k67)
          clear k06 k7 k67 b96 b97 b11 Y2 neq hMi RL16 RL2
          go_loopg [49] M (fun kx s49 wr => ∃ k : Nat, s49 = .int .i64 k ∧ k ≤ M ∧ M - k ≤ kx ∧ Hid (partB T1 T2 = partB (T1.drop k) (T2.drop k)) ∧ Hid (Kept None w7 wr))
          case atStart => exact ⟨0, rfl, Nat.zero_le _, Nat.le_refl _, rfl, Kept.refl _ _⟩
          case round =>
            obtain ⟨k, rfl, hk, hkx, HPR, HKr⟩ := hrel
            by_cases hlt : k < M
            · have hlz : (k : Int) < (M : Int) := by omega
              have hk1 : k < T1.length := by have := HMI.out; have := HMM.out; omega
              have hk2 : k < T2.length := by have := HMI.out; have := HMM.out; omega
              obtain ⟨g1, g1o, x1, y1, e1, c1, d1⟩ := (RL17.out.kept HKr.out).at hk1
              obtain ⟨g2, g2o, x2, y2, e2, c2, d2⟩ := (RL27.out.kept HKr.out).at hk2
              obtain rfl := e1
              obtain rfl := e2
              have hst := part_step T1 T2 k hk1 hk2
              obtain ⟨t1, ht1⟩ : ∃ t, t = T1[k] := ⟨_, rfl⟩
              obtain ⟨t2, ht2⟩ : ∃ t, t = T2[k] := ⟨_, rfl⟩
              rw [← ht1] at c1 d1 hst
              rw [← ht2] at c2 d2 hst
              have C1 := hid (And.intro c1 c2)
              have D1 := hid (And.intro d1 d2)
              have HST := hid hst
              have hm1k : (k : Int) < (m1 : Int) := by have := HMI.out; omega
              have hm2k : (k : Int) < (m2 : Int) := by have := HMI.out; omega
              clear hk1 hk2 ht1 ht2 hst c1 c2 d1 d2
              obtain ⟨bq, hbq⟩ : ∃ b, b = (t1 == t2) := ⟨_, rfl⟩
              have fe := fun W (h1 : Rb 0 W (.slice x1 t1.length y1) t1) (h2 : Rb 0 W (.slice x2 t2.length y2) t2) => eqBytes t1 t2 _ _ _ _ _ _ W h1.all h2.all
              rw [← hbq] at fe
              have FE := hid fe
              have HBQ := hid hbq
              clear fe hbq
              go_wp2_with fail
              have hs : Steady [.val 8 (.bool bq)] := Go.Pm.Steady.val (Go.Pm.Steady.nil)
              refine wp_region_kn wr _ hs (Kept.refl _ _) (by kernel_rfl) (by kernel_rfl) (by kernel_rfl) ?_
              iterate 8 (refine wpPar_pure rfl (by rfl) _ (fun W hW => by
                  have c1 := (hW.cell (block_lt_of_cell C1.out.1) (fun h => h)).trans C1.out.1
                  have c2 := (hW.cell (block_lt_of_cell C1.out.2) (fun h => h)).trans C1.out.2
                  go_simp
                  exact rfl) ?_; simp only [Act.put, List.setIfInBounds_toArray, List.set_cons_zero, List.set_cons_succ])
              refine wpKn_adds hs rfl (by rfl) (fun W hW hd => ?_) (fun v8 hv => ?_)
              · unfold Gives
                go_simp
                refine gives_call (FE.out W (D1.out.1.kept hW) (D1.out.2.kept hW)) ?_
                rintro e w3 ⟨rfl, k3⟩
                exact ⟨_, rfl, k3, rfl, trivial⟩
              obtain rfl : v8 = .bool bq := hv
              simp only [Act.put, List.setIfInBounds_toArray, List.set_cons_zero, List.set_cons_succ]
              iterate 1 (refine wpPar_pure rfl (by rfl) _ (fun W hW => by
                  have c1 := (hW.cell (block_lt_of_cell C1.out.1) (fun h => h)).trans C1.out.1
                  have c2 := (hW.cell (block_lt_of_cell C1.out.2) (fun h => h)).trans C1.out.2
                  go_simp
                  exact rfl) ?_; simp only [Act.put, List.setIfInBounds_toArray, List.set_cons_zero, List.set_cons_succ])
              refine wpPar_nil (fun W hW hG => ?_)
              have KW := hid (HKr.out.trans hW)
              have D1W := hid (And.intro (D1.out.1.kept hW) (D1.out.2.kept hW))
              have C1W := hid (And.intro ((hW.cell (block_lt_of_cell C1.out.1) (fun h => h)).trans C1.out.1) ((hW.cell (block_lt_of_cell C1.out.2) (fun h => h)).trans C1.out.2))
              clear hG hs hW HKr C1 D1 FE
              cases bq with
              | true =>
                have hn : partB T1 T2 = partB (T1.drop (k + 1)) (T2.drop (k + 1)) := by
                  rw [HPR.out, HST.out, if_pos (by have := HBQ.out; exact eq_of_beq this.symm)]
                have HN := hid hn
                have wk : IntKind.i64.wrap ((k : Int) + 1) = (k : Int) + 1 := by rw [IntKind.wrap_i64]; have := HMI.out; omega
                clear hn
                go_wp2
                go_roundg (M - (k + 1))
                case measure => omega
                case rel => exact ⟨k + 1, by go_num, by omega, Nat.le_refl _, HN, KW⟩
              | false =>
                have hn : clashP i p q = some (t1, t2) := by
                  rw [HPT.out, HPR.out, HST.out, if_neg (fun h => by have := HBQ.out; rw [h] at this; simp at this)]
                have NN := hid (clash_some hn)
                clear hn
                go_wp2_with fail
                have hs : Steady [] := Go.Pm.Steady.nil
                refine wp_region_kn W _ hs (Kept.refl _ _) (by kernel_rfl) (by kernel_rfl) (by kernel_rfl) ?_
                iterate 11 (refine wpPar_pure rfl (by rfl) _ (fun W2 hW => by
                    have c1 := (hW.cell (block_lt_of_cell C1W.out.1) (fun h => h)).trans C1W.out.1
                    have c2 := (hW.cell (block_lt_of_cell C1W.out.2) (fun h => h)).trans C1W.out.2
                    go_simp
                    exact rfl) ?_; simp only [Act.put, List.setIfInBounds_toArray, List.set_cons_zero, List.set_cons_succ])
                refine wpPar_nil (fun W2 hW hG => ?_)
                have KZ := K07.out.trans (KW.out.trans hW)
                have D2 := D1W.out.1.kept hW
                have D3 := D1W.out.2.kept hW
                clear hG hs hW
                go_wp2
                go_ret3
                exact ⟨.slice x1 t1.length y1, .slice x2 t2.length y2, by rw [NN.out.2.2]; rfl, KZ, by rw [NN.out.1]; exact D2, by rw [NN.out.2.1]; exact D3⟩
            · have hlz : ¬ (k : Int) < (M : Int) := by omega
              have hno : clashP i p q = none := by
                rw [HPT.out, HPR.out]
                exact part_done _ _ _ (by have := HMI.out; have := HMM.out; omega)
              have NN := hid (clash_none hno)
              clear hno
              have KZ := K07.out.trans HKr.out
              go_wp2
              go_ret3
              exact ⟨.slice none 0 0, .slice none 0 0, by rw [NN.out.2.2]; rfl, KZ, by rw [NN.out.1]; exact Rb.nil _ _, by rw [NN.out.2.1]; exact Rb.nil _ _⟩
end Pr
end Go.Proofs.Ytidegffdhpdhjaa

namespace Go.Pm
open Go Go.RowKit
/-- It tells lists of bytes, at least one. -/
abbrev Fct.rlq (k lo n : Nat) (ls : List (List UInt8)) (uses : List Nat := []) : Fct := { k := k, uses := uses, pure := fun u => ∃ b o c, u = .slice (some ⟨b, o, none⟩) n c, fact := fun u W => Rl lo W u ls }
theorem Steady.rlq {l : List Fct} {k lo n : Nat} {us : List Nat} {ls : List (List UInt8)} (h : Steady l) : Steady (.rlq k lo n ls us :: l) := .cons ⟨_, 0, 0, 0, rfl⟩ (fun _ _ _ hk hb => Rl.kept hb hk) h
theorem Rl.atP {lo n c : Nat} {w : World} {b o : Nat} {ls : List (List UInt8)} (h : Rl lo w (.slice (some ⟨b, o, none⟩) n c) ls) {i : Nat} (hi : i < ls.length) : ∃ a d, w.cell? ⟨b, o + i, none⟩ = some (.slice a ls[i].length d) ∧ Rb lo w (.slice a ls[i].length d) ls[i] := by
  obtain ⟨b', o', a1, c1, e1, cc, rb⟩ := Rl.at h hi
  obtain ⟨e2, e3⟩ : b = b' ∧ o = o' := by injection e1 with e1; injection e1 with e1 e2; exact ⟨e1, e2⟩
  subst e2 e3
  exact ⟨a1, c1, cc, rb⟩
theorem texts_head (i : List UInt8) (p : Pf) (hp : p.Ok) : ∃ tx rest, textsP i p = tx :: rest ∧ rootP i p = sumB tx ∧ tx.length ≤ 1000 := by
  obtain ⟨tx, rest, htl⟩ : ∃ tx rest, textsP i p = tx :: rest := by
    unfold textsP
    match hpp : p.path with
    | [] => exact ⟨_, _, rfl⟩
    | r :: rs => exact ⟨_, _, rfl⟩
  refine ⟨tx, rest, htl, ?_, ?_⟩
  · unfold rootP climbH
    have h : climbB i (footB p) p.path 0 = tx :: rest := htl
    rw [h]; rfl
  · have h : climbB i (footB p) p.path 0 = tx :: rest := htl
    match hpp : p.path with
    | [] =>
      rw [hpp, climbB] at h
      injection h with h
      rw [← h]
      unfold footB
      have := hp.2
      split <;> simp [textB, lumpB, leB_length] <;> omega
    | r :: rs =>
      rw [hpp, climbB] at h
      injection h with h
      rw [← h]
      have h1 : r.length = 32 := hp.1 r (by rw [hpp]; exact List.mem_cons_self ..)
      have h2 := sumB_len ((climbB i (footB p) rs (0 + 1)).headD [])
      obtain ⟨sb, hsb⟩ : ∃ x, x = sumB ((climbB i (footB p) rs (0 + 1)).headD []) := ⟨_, rfl⟩
      rw [← hsb] at h2 ⊢
      split <;> simp [textB, lumpB, leB_length, h1, h2]
theorem same_nn {p q : Pf} (h : ¬ p.e = 0) (g : ¬ q.e = 0) : sameP p q = true := by
  unfold sameP saysV saysH
  rw [if_neg h, if_neg g]
  simp [h, g]
theorem same_np {p q : Pf} (h : ¬ p.e = 0) (g : q.e = 0) : sameP p q = false := by
  unfold sameP saysH
  simp [h, g]
theorem same_pn {p q : Pf} (h : p.e = 0) (g : ¬ q.e = 0) : sameP p q = false := by
  unfold sameP saysH
  simp [h, g]
theorem same_pp {p q : Pf} (h : p.e = 0) (g : q.e = 0) : sameP p q = (p.x.v == q.x.v) := by
  unfold sameP saysV saysH
  rw [if_pos h, if_pos g]
  simp [h, g]
end Go.Pm
namespace Go.Proofs.Ytidegffdhpdhjaa
open Go.RowKit Go.Pm
namespace RPr
theorem rightA (i : List UInt8) (m : Pf) (A : Array Value) (w : World) (hi : i.length = 32) (h : PV m w A) : Calls Try.prog 69 #[hashV i, .agg A] w fun e w' => e = .returned (.bool (rightP i m)) ∧ Kept None w w' := by
  obtain ⟨h0, u, rfl, h2⟩ := h
  exact right i u m w hi h0 h2
theorem textsA (i : List UInt8) (m : Pf) (A : Array Value) (w : World) (hi : i.length = 32) (h : PV m w A) (hn : m.path.length ≤ 256) : Calls Try.prog 70 #[hashV i, .agg A] w fun e w' => ∃ u, e = .returned u ∧ Kept None w w' ∧ Rl w.heap.size w' u (textsP i m) := by
  obtain ⟨h0, u, rfl, h2⟩ := h
  exact texts i u m w hi h0 h2 hn
theorem rvA {m : Pf} {A : Array Value} {w W : World} {g : Nat} (h : PV m w A) (hb : Blk W g A 63) : W.rangeAt g 34 (m.x.v.map u8v) := by
  obtain ⟨h0, u, rfl, h2⟩ := h
  exact pf_rv hb h0
theorem sumA (t : List UInt8) (v : Value) (W : World) (h : Rb 0 W v t) (hl : t.length ≤ 1000) : Calls Try.prog 71 #[v] W fun e w' => e = .returned (hashV (sumB t)) ∧ Kept None W w' := Ref.sum v _ _ t W h.all (by omega)
set_option maxRecDepth 100000 in
set_option maxHeartbeats 8000000 in
/-- Clash. -/
theorem clash (i : List UInt8) (p q : Pf) (A B : Array Value) (w : World) (hi : i.length = 32) (hA : PV p w A) (hB : PV q w B) :
    Calls Try.prog 31 #[hashV i, .agg A, .agg B] w fun e w' => ∃ u v, e = .returned (.tuple #[u, v, .bool (clashO i p q)]) ∧ Kept None w w' ∧ Rb 0 w' u (clashA i p q) ∧ Rb 0 w' v (clashB i p q) := by
  have aA := Pr.PV.agg hA
  have aB := Pr.PV.agg hB
  have fr1 := fun W (h : PV p W A) => rightA i p A W hi h
  have fr2 := fun W (h : PV q W B) => rightA i q B W hi h
  have ft1 := fun W (h : PV p W A) (hn : p.path.length ≤ 256) => textsA i p A W hi h hn
  have ft2 := fun W (h : PV q W B) (hn : q.path.length ≤ 256) => textsA i q B W hi h hn
  have l1 : rightP i p = true → p.path.length ≤ 256 := fun h => rightP_len h
  have l2 : rightP i q = true → q.path.length ≤ 256 := fun h => rightP_len h
  have n1 : (textsP i p).length = p.path.length + 1 := by unfold textsP; rw [climbB_len]
  have n2 : (textsP i q).length = q.path.length + 1 := by unfold textsP; rw [climbB_len]
  obtain ⟨X1, L1, e1, s1, g1⟩ := texts_head i p hA.1
  obtain ⟨X2, L2, e2, s2, g2⟩ := texts_head i q hB.1
  have fs1 := fun W v (h : Rb 0 W v X1) => sumA X1 v W h g1
  have fs2 := fun W v (h : Rb 0 W v X2) => sumA X2 v W h g2
  rw [← s1] at fs1
  rw [← s2] at fs2
  have q1 : (rootP i p).length = 32 := climbH_len _ _ _ _
  have q2 : (rootP i q).length = 32 := climbH_len _ _ _ _
  have neq := Hk.neqHash (rootP i p) (rootP i q) q1 q2
  have eqv := Hk.eqHash p.x.v q.x.v hA.1.2.2 hB.1.2.2
  have hdef : clashP i p q = if rightP i p && rightP i q && !(sameP p q) && (rootP i p == rootP i q) then partB (textsP i p) (textsP i q) else none := rfl
  obtain ⟨IA, hIA⟩ : ∃ V : Array Value, V = (i.map u8v).toArray := ⟨_, rfl⟩
  have aI : AggTy Try.prog 23 IA.size := by rw [hIA]; exact Pr.aH32 hi
  obtain ⟨R1, hR1⟩ : ∃ V : Array Value, V = ((rootP i p).map u8v).toArray := ⟨_, rfl⟩
  obtain ⟨R2, hR2⟩ : ∃ V : Array Value, V = ((rootP i q).map u8v).toArray := ⟨_, rfl⟩
  obtain ⟨V1, hV1⟩ : ∃ V : List Value, V = p.x.v.map u8v := ⟨_, rfl⟩
  obtain ⟨V2, hV2⟩ : ∃ V : List Value, V = q.x.v.map u8v := ⟨_, rfl⟩
  have aV1 : AggTy Try.prog 23 V1.length := by rw [hV1]; exact Pr.aH32' hA.1.2.2
  have aV2 : AggTy Try.prog 23 V2.length := by rw [hV2]; exact Pr.aH32' hB.1.2.2
  obtain ⟨br, hbr⟩ : ∃ b, b = (rootP i p == rootP i q) := ⟨_, rfl⟩
  obtain ⟨bv, hbv⟩ : ∃ b, b = (p.x.v == q.x.v) := ⟨_, rfl⟩
  obtain ⟨b1, hb1⟩ : ∃ b, b = rightP i p := ⟨_, rfl⟩
  obtain ⟨b2, hb2⟩ : ∃ b, b = rightP i q := ⟨_, rfl⟩
  obtain ⟨T1, hT1⟩ : ∃ l, l = textsP i p := ⟨_, rfl⟩
  obtain ⟨T2, hT2⟩ : ∃ l, l = textsP i q := ⟨_, rfl⟩
  rw [← hb1] at fr1 l1 hdef
  rw [← hb2] at fr2 l2 hdef
  rw [← hbr] at neq hdef
  rw [← hT1] at ft1 n1 hdef
  rw [← hT2] at ft2 n2 hdef
  rw [← hT1] at e1
  rw [← hT2] at e2
  have tp1 : 0 < T1.length := by omega
  have tp2 : 0 < T2.length := by omega
  have h1 : T1[0] = X1 := by simp only [e1, List.getElem_cons_zero]
  have h2 : T2[0] = X2 := by simp only [e2, List.getElem_cons_zero]
  simp only [hashV, ← hIA] at fr1 fr2 ft1 ft2 ⊢
  simp only [hashV, ← hR1] at fs1
  simp only [hashV, ← hR2] at fs2
  rw [← hR1, ← hR2] at neq
  rw [← hV1, ← hV2, ← hbv] at eqv
  have FR1 := hid fr1
  have FR2 := hid fr2
  have FT1 := hid ft1
  have FT2 := hid ft2
  have FS1 := hid fs1
  have FS2 := hid fs2
  obtain ⟨m1, hm1⟩ : ∃ n, n = T1.length := ⟨_, rfl⟩
  obtain ⟨m2, hm2⟩ : ∃ n, n = T2.length := ⟨_, rfl⟩
  have HMM := hid (And.intro hm1 hm2)
  have HT0 := hid (And.intro tp1 tp2)
  have HX := hid (And.intro h1 h2)
  have HLN := hid (And.intro l1 (And.intro l2 (And.intro n1 n2)))
  have NEQ := hid neq
  have EQV := hid eqv
  have HBV := hid hbv
  have HD := hid hdef
  have k0 : Kept None w (((w.alloc (.cells IA 23)).alloc (.cells A 63)).alloc (.cells B 63)) := (((Kept.refl _ _).alloc _).alloc _).alloc _
  have bI : Blk (((w.alloc (.cells IA 23)).alloc (.cells A 63)).alloc (.cells B 63)) w.heap.size IA 23 := ((Blk.new w _ _).alloc _).alloc _
  have bA : Blk (((w.alloc (.cells IA 23)).alloc (.cells A 63)).alloc (.cells B 63)) (w.heap.size + 1) A 63 := (Blk.new2 w _ _ _).alloc _
  have bB : Blk (((w.alloc (.cells IA 23)).alloc (.cells A 63)).alloc (.cells B 63)) (w.heap.size + 1 + 1) B 63 := Blk.new3 w _ _ _ _
  have P1 := hid (hA.kept k0)
  have P2 := hid (hB.kept k0)
  have HV := hid (And.intro hV1 hV2)
  clear fr1 fr2 ft1 ft2 fs1 fs2 l1 l2 n1 n2 e1 e2 s1 s2 g1 g2 q1 q2 neq eqv hdef h1 h2 hIA hR1 hR2 hV1 hV2 hbr hbv hb1 hb2 hT1 hT2 hA hB hm1 hm2
  go_enter Try.func31, Try.ntmps31
  go_wp2_with (first | go_skip | (refine wpList_load_blk rfl _ _ rfl rfl bI aI ?_) | (refine wpList_load_blk (.refl _) _ _ rfl rfl bA aA ?_) | fail)
  refine Calls.nm ?_
  intro w0 e0
  rw [← e0] at k0 bI bA bB P1 P2
  clear e0
  refine (FR1.out w0 P1.out).mono ?_
  rintro e w1 ⟨rfl, k1⟩
  have k01 := k0.trans k1
  have bI1 := bI.kept k1 (fun h => h)
  have bA1 := bA.kept k1 (fun h => h)
  have bB1 := bB.kept k1 (fun h => h)
  have P11 := hid (P1.out.kept k1)
  have P21 := hid (P2.out.kept k1)
  clear k0 bI bA bB P1 P2 k1
  cases b1 with
  | false =>
    have hno : clashP i p q = none := by rw [HD.out]; simp
    have NN := hid (clash_none hno)
    clear hno
    go_wp2_with (first | go_skip | fail)
    go_ret3
    exact ⟨.slice none 0 0, .slice none 0 0, by rw [NN.out.2.2]; rfl, k01, by rw [NN.out.1]; exact Rb.nil _ _, by rw [NN.out.2.1]; exact Rb.nil _ _⟩
  | true =>
    go_wp2_with (first | go_skip | (refine wpList_load_bw (by kernel_rfl) rfl rfl bI1 aI ?_) | (refine wpList_load_bw (by kernel_rfl) rfl rfl bB1 aB ?_) | fail)
    refine (FR2.out w1 P21.out).mono ?_
    rintro e w2 ⟨rfl, k2⟩
    have k02 := k01.trans k2
    have bI2 := bI1.kept k2 (fun h => h)
    have bA2 := bA1.kept k2 (fun h => h)
    have bB2 := bB1.kept k2 (fun h => h)
    have P12 := hid (P11.out.kept k2)
    have P22 := hid (P21.out.kept k2)
    clear k01 bI1 bA1 bB1 P11 P21 k2
    cases b2 with
    | false =>
      have hno : clashP i p q = none := by rw [HD.out]; simp
      have NN := hid (clash_none hno)
      clear hno
      go_wp2_with (first | go_skip | fail)
      go_ret3
      exact ⟨.slice none 0 0, .slice none 0 0, by rw [NN.out.2.2]; rfl, k02, by rw [NN.out.1]; exact Rb.nil _ _, by rw [NN.out.2.1]; exact Rb.nil _ _⟩
    | true =>
      have hlp := HLN.out.1 (by simp)
      have hlq := HLN.out.2.1 (by simp)
      have HMB : Hid (m1 ≤ 257 ∧ m2 ≤ 257) := hid (by have := HLN.out.2.2; have := HMM.out; omega)
      clear FR1 FR2
      have cp : w2.cell? ⟨w.heap.size + 1, 1, none⟩ = some (.int .i64 p.e) := by rw [bA2.cell]; exact P12.out.at1
      have cq : w2.cell? ⟨w.heap.size + 1 + 1, 1, none⟩ = some (.int .i64 q.e) := by rw [bB2.cell]; exact P22.out.at1
      by_cases hp0 : p.e = 0
      · by_cases hq0 : q.e = 0
        · have rv1 := rvA P12.out bA2
          have rv2 := rvA P22.out bB2
          rw [← HV.out.1] at rv1
          rw [← HV.out.2] at rv2
          have hpp := same_pp hp0 hq0
          rw [← HBV.out] at hpp
          rw [hp0] at cp
          rw [hq0] at cq
          have eqv := EQV.out
          clear hp0 hq0
          cases bv with
          | true =>
            have HPP := hid hpp
            clear hpp
            have hno : clashP i p q = none := by rw [HD.out, HPP.out]; simp
            have NN := hid (clash_none hno)
            clear hno
            go_wp2_with (first | go_skip | (refine wpList_load_bw (by kernel_rfl) rfl rfl bI2 aI ?_) | (refine wpList_load_wr (by kernel_rfl) rfl rfl rv1 aV1 ?_) | (refine wpList_load_wr (by kernel_rfl) rfl rfl rv2 aV2 ?_) | fail)
            go_ret3
            exact ⟨.slice none 0 0, .slice none 0 0, by rw [NN.out.2.2]; rfl, k02, by rw [NN.out.1]; exact Rb.nil _ _, by rw [NN.out.2.1]; exact Rb.nil _ _⟩
          | false =>
            have hsame := hpp
            clear hpp
            go_wp2_with (first | go_skip | (refine wpList_load_bw (by kernel_rfl) rfl rfl bI2 aI ?_) | (refine wpList_load_wr (by kernel_rfl) rfl rfl rv1 aV1 ?_) | (refine wpList_load_wr (by kernel_rfl) rfl rfl rv2 aV2 ?_) | fail)
            clear rv1 rv2 cp cq eqv
            have hroot : clashP i p q = if br then partB T1 T2 else none := by rw [HD.out, hsame]; simp
            have HRT := hid hroot
            have BI := hid bI2
            have BA := hid bA2
            have BB := hid bB2
            clear hsame hroot bI2 bA2 bB2
            go_wp2_with fail
            have hs : Steady [.rlq 2 0 m1 T1, .rlq 5 0 m2 T2] := Go.Pm.Steady.rlq (Go.Pm.Steady.rlq (Go.Pm.Steady.nil))
            refine wp_region_kn w2 _ hs (Kept.refl _ _) (by kernel_rfl) (by kernel_rfl) (by kernel_rfl) ?_
            refine wpPar_pure rfl (by rfl) _ (fun W hW => by first | exact exec_load_blk _ _ rfl rfl (BI.out.kept hW (fun h => h)) aI | exact exec_load_blk _ _ rfl rfl (BA.out.kept hW (fun h => h)) aA | exact exec_load_blk _ _ rfl rfl (BB.out.kept hW (fun h => h)) aB | (go_simp; exact rfl)) ?_; simp only [Act.put, List.setIfInBounds_toArray, List.set_cons_zero, List.set_cons_succ]
            refine wpPar_pure rfl (by rfl) _ (fun W hW => by first | exact exec_load_blk _ _ rfl rfl (BI.out.kept hW (fun h => h)) aI | exact exec_load_blk _ _ rfl rfl (BA.out.kept hW (fun h => h)) aA | exact exec_load_blk _ _ rfl rfl (BB.out.kept hW (fun h => h)) aB | (go_simp; exact rfl)) ?_; simp only [Act.put, List.setIfInBounds_toArray, List.set_cons_zero, List.set_cons_succ]
            refine wpKn_adds hs rfl (by rfl) (fun W hW hd => ?_) (fun v2 hv => ?_)
            · unfold Gives
              go_simp
              refine gives_call (FT1.out W (P12.out.kept hW) hlp) ?_
              rintro e w3 ⟨u, rfl, k3, b3⟩
              obtain ⟨a3, c3, rfl⟩ := b3.form
              obtain ⟨b, o, _, _, e1, _, _⟩ := Rl.at b3 (i := 0) HT0.out.1
              obtain rfl := e1
              exact ⟨_, rfl, k3, ⟨b, o, c3, by rw [HMM.out.1]⟩, b3.mono (Nat.zero_le _)⟩
            obtain ⟨b2, o2, c2, rfl⟩ : ∃ b o c, v2 = .slice (some ⟨b, o, none⟩) m1 c := hv
            simp only [Act.put, List.setIfInBounds_toArray, List.set_cons_zero, List.set_cons_succ]
            refine wpPar_pure rfl (by rfl) _ (fun W hW => by first | exact exec_load_blk _ _ rfl rfl (BI.out.kept hW (fun h => h)) aI | exact exec_load_blk _ _ rfl rfl (BA.out.kept hW (fun h => h)) aA | exact exec_load_blk _ _ rfl rfl (BB.out.kept hW (fun h => h)) aB | (go_simp; exact rfl)) ?_; simp only [Act.put, List.setIfInBounds_toArray, List.set_cons_zero, List.set_cons_succ]
            refine wpPar_pure rfl (by rfl) _ (fun W hW => by first | exact exec_load_blk _ _ rfl rfl (BI.out.kept hW (fun h => h)) aI | exact exec_load_blk _ _ rfl rfl (BA.out.kept hW (fun h => h)) aA | exact exec_load_blk _ _ rfl rfl (BB.out.kept hW (fun h => h)) aB | (go_simp; exact rfl)) ?_; simp only [Act.put, List.setIfInBounds_toArray, List.set_cons_zero, List.set_cons_succ]
            refine wpKn_adds hs rfl (by rfl) (fun W hW hd => ?_) (fun v5 hv => ?_)
            · unfold Gives
              go_simp
              refine gives_call (FT2.out W (P22.out.kept hW) hlq) ?_
              rintro e w3 ⟨u, rfl, k3, b3⟩
              obtain ⟨a3, c3, rfl⟩ := b3.form
              obtain ⟨b, o, _, _, e1, _, _⟩ := Rl.at b3 (i := 0) HT0.out.2
              obtain rfl := e1
              exact ⟨_, rfl, k3, ⟨b, o, c3, by rw [HMM.out.2]⟩, b3.mono (Nat.zero_le _)⟩
            obtain ⟨b5, o5, c5, rfl⟩ : ∃ b o c, v5 = .slice (some ⟨b, o, none⟩) m2 c := hv
            simp only [Act.put, List.setIfInBounds_toArray, List.set_cons_zero, List.set_cons_succ]
            iterate 2 (refine wpPar_pure rfl (by rfl) _ (fun W hW => by
                go_simp
                exact rfl) ?_; simp only [Act.put, List.setIfInBounds_toArray, List.set_cons_zero, List.set_cons_succ])
            refine wpPar_nil (fun w3 hW hG => ?_)
            have RL1 : Hid (Rl 0 w3 (.slice (some ⟨b2, o2, none⟩) m1 c2) T1) := hid (hG 2)
            have RL2 : Hid (Rl 0 w3 (.slice (some ⟨b5, o5, none⟩) m2 c5) T2) := hid (hG 5)
            have K3 := hid (k02.trans hW)
            clear hG hs hW BI BA BB P12 P22 k02 FT1 FT2
            obtain ⟨ya, yb, y1, y2⟩ := RL1.out.atP HT0.out.1
            obtain ⟨za, zb, z1, z2⟩ := RL2.out.atP HT0.out.2
            rw [HX.out.1, Nat.add_zero] at y1
            rw [HX.out.1] at y2
            rw [HX.out.2, Nat.add_zero] at z1
            rw [HX.out.2] at z2
            have C1 := hid (And.intro y1 z1)
            have D1 := hid (And.intro y2 z2)
            clear y1 y2 z1 z2
            have hm0 : 0 < m1 ∧ 0 < m2 := by have := HT0.out; have := HMM.out; omega
            obtain ⟨hm1, hm2⟩ := hm0
            cases br with
            | false =>
              go_wp2_with fail
              have hs : Steady [.val 3 (.agg R1), .val 7 (.agg R2)] := Go.Pm.Steady.val (Go.Pm.Steady.val (Go.Pm.Steady.nil))
              refine wp_region_kn w3 _ hs (Kept.refl _ _) (by kernel_rfl) (by kernel_rfl) (by kernel_rfl) ?_
              iterate 3 (refine wpPar_pure rfl (by rfl) _ (fun W hW => by
                  have c1 := (hW.cell (block_lt_of_cell C1.out.1) (fun h => h)).trans C1.out.1
                  have c2 := (hW.cell (block_lt_of_cell C1.out.2) (fun h => h)).trans C1.out.2
                  have q1 := NEQ.out
                  go_simp
                  exact rfl) ?_; simp only [Act.put, List.setIfInBounds_toArray, List.set_cons_zero, List.set_cons_succ])
              refine wpKn_adds hs rfl (by rfl) (fun W hW hd => ?_) (fun v3 hv => ?_)
              · unfold Gives
                go_simp
                refine gives_call (FS1.out W _ (D1.out.1.kept hW)) ?_
                rintro e w3 ⟨rfl, k3⟩
                exact ⟨_, rfl, k3, rfl, trivial⟩
              obtain rfl : v3 = .agg R1 := hv
              simp only [Act.put, List.setIfInBounds_toArray, List.set_cons_zero, List.set_cons_succ]
              iterate 3 (refine wpPar_pure rfl (by rfl) _ (fun W hW => by
                  have c1 := (hW.cell (block_lt_of_cell C1.out.1) (fun h => h)).trans C1.out.1
                  have c2 := (hW.cell (block_lt_of_cell C1.out.2) (fun h => h)).trans C1.out.2
                  have q1 := NEQ.out
                  go_simp
                  exact rfl) ?_; simp only [Act.put, List.setIfInBounds_toArray, List.set_cons_zero, List.set_cons_succ])
              refine wpKn_adds hs rfl (by rfl) (fun W hW hd => ?_) (fun v7 hv => ?_)
              · unfold Gives
                go_simp
                refine gives_call (FS2.out W _ (D1.out.2.kept hW)) ?_
                rintro e w3 ⟨rfl, k3⟩
                exact ⟨_, rfl, k3, rfl, trivial⟩
              obtain rfl : v7 = .agg R2 := hv
              simp only [Act.put, List.setIfInBounds_toArray, List.set_cons_zero, List.set_cons_succ]
              iterate 1 (refine wpPar_pure rfl (by rfl) _ (fun W hW => by
                  have c1 := (hW.cell (block_lt_of_cell C1.out.1) (fun h => h)).trans C1.out.1
                  have c2 := (hW.cell (block_lt_of_cell C1.out.2) (fun h => h)).trans C1.out.2
                  have q1 := NEQ.out
                  go_simp
                  exact rfl) ?_; simp only [Act.put, List.setIfInBounds_toArray, List.set_cons_zero, List.set_cons_succ])
              refine wpPar_nil (fun w4 hW hG => ?_)
              have K4 := hid (K3.out.trans hW)
              clear hG hs hW
              have hno : clashP i p q = none := by rw [HRT.out]; rfl
              have NN := hid (clash_none hno)
              clear hno
              go_wp2_with (first | go_skip | fail)
              go_ret3
              exact ⟨.slice none 0 0, .slice none 0 0, by rw [NN.out.2.2]; rfl, K4.out, by rw [NN.out.1]; exact Rb.nil _ _, by rw [NN.out.2.1]; exact Rb.nil _ _⟩
            | true =>
              go_wp2_with fail
              have hs : Steady [.val 3 (.agg R1), .val 7 (.agg R2)] := Go.Pm.Steady.val (Go.Pm.Steady.val (Go.Pm.Steady.nil))
              refine wp_region_kn w3 _ hs (Kept.refl _ _) (by kernel_rfl) (by kernel_rfl) (by kernel_rfl) ?_
              iterate 3 (refine wpPar_pure rfl (by rfl) _ (fun W hW => by
                  have c1 := (hW.cell (block_lt_of_cell C1.out.1) (fun h => h)).trans C1.out.1
                  have c2 := (hW.cell (block_lt_of_cell C1.out.2) (fun h => h)).trans C1.out.2
                  have q1 := NEQ.out
                  go_simp
                  exact rfl) ?_; simp only [Act.put, List.setIfInBounds_toArray, List.set_cons_zero, List.set_cons_succ])
              refine wpKn_adds hs rfl (by rfl) (fun W hW hd => ?_) (fun v3 hv => ?_)
              · unfold Gives
                go_simp
                refine gives_call (FS1.out W _ (D1.out.1.kept hW)) ?_
                rintro e w3 ⟨rfl, k3⟩
                exact ⟨_, rfl, k3, rfl, trivial⟩
              obtain rfl : v3 = .agg R1 := hv
              simp only [Act.put, List.setIfInBounds_toArray, List.set_cons_zero, List.set_cons_succ]
              iterate 3 (refine wpPar_pure rfl (by rfl) _ (fun W hW => by
                  have c1 := (hW.cell (block_lt_of_cell C1.out.1) (fun h => h)).trans C1.out.1
                  have c2 := (hW.cell (block_lt_of_cell C1.out.2) (fun h => h)).trans C1.out.2
                  have q1 := NEQ.out
                  go_simp
                  exact rfl) ?_; simp only [Act.put, List.setIfInBounds_toArray, List.set_cons_zero, List.set_cons_succ])
              refine wpKn_adds hs rfl (by rfl) (fun W hW hd => ?_) (fun v7 hv => ?_)
              · unfold Gives
                go_simp
                refine gives_call (FS2.out W _ (D1.out.2.kept hW)) ?_
                rintro e w3 ⟨rfl, k3⟩
                exact ⟨_, rfl, k3, rfl, trivial⟩
              obtain rfl : v7 = .agg R2 := hv
              simp only [Act.put, List.setIfInBounds_toArray, List.set_cons_zero, List.set_cons_succ]
              iterate 1 (refine wpPar_pure rfl (by rfl) _ (fun W hW => by
                  have c1 := (hW.cell (block_lt_of_cell C1.out.1) (fun h => h)).trans C1.out.1
                  have c2 := (hW.cell (block_lt_of_cell C1.out.2) (fun h => h)).trans C1.out.2
                  have q1 := NEQ.out
                  go_simp
                  exact rfl) ?_; simp only [Act.put, List.setIfInBounds_toArray, List.set_cons_zero, List.set_cons_succ])
              refine wpPar_nil (fun w4 hW hG => ?_)
              have K4 := hid (K3.out.trans hW)
              have RL14 := hid (RL1.out.kept hW)
              have RL24 := hid (RL2.out.kept hW)
              clear hG hs hW C1 D1 RL1 RL2 K3 FS1 FS2
              go_wp2_with fail
              go_loopg [11] m1 (fun kx s11 wr => ∃ k : Nat, s11 = .int .i64 k ∧ k ≤ m1 ∧ m1 - k ≤ kx ∧ Hid (partB T1 T2 = partB (T1.drop k) (T2.drop k)) ∧ Hid (Kept None w4 wr))
              case atStart => exact ⟨0, rfl, Nat.zero_le _, Nat.le_refl _, rfl, Kept.refl _ _⟩
              case round =>
                obtain ⟨k, rfl, hk, hkx, HPR, HKr⟩ := hrel
                by_cases hlt : k < m1
                · by_cases hlu : k < m2
                  · have hlz : (k : Int) < (m1 : Int) := by omega
                    have hly : (k : Int) < (m2 : Int) := by omega
                    have hk1 : k < T1.length := by have := HMM.out; omega
                    have hk2 : k < T2.length := by have := HMM.out; omega
                    have hkb : k < 1000 := by have := HMB.out; omega
                    obtain ⟨x1, y1, c1, d1⟩ := (RL14.out.kept HKr.out).atP hk1
                    obtain ⟨x2, y2, c3, d2⟩ := (RL24.out.kept HKr.out).atP hk2
                    have hst := part_step T1 T2 k hk1 hk2
                    obtain ⟨t1, ht1⟩ : ∃ t, t = T1[k] := ⟨_, rfl⟩
                    obtain ⟨t2, ht2⟩ : ∃ t, t = T2[k] := ⟨_, rfl⟩
                    rw [← ht1] at c1 d1 hst
                    rw [← ht2] at c3 d2 hst
                    have C2 := hid (And.intro c1 c3)
                    have D2 := hid (And.intro d1 d2)
                    have HST := hid hst
                    clear hk1 hk2 ht1 ht2 hst c1 c3 d1 d2
                    have se := str_eq t1 t2
                    obtain ⟨bq, hbq⟩ : ∃ b, b = (t1 == t2) := ⟨_, rfl⟩
                    rw [← hbq] at se
                    have SE := hid se
                    have HBQ := hid hbq
                    clear se hbq
                    cases bq with
                    | true =>
                      have hn : partB T1 T2 = partB (T1.drop (k + 1)) (T2.drop (k + 1)) := by
                        rw [HPR.out, HST.out, if_pos (by have := HBQ.out; exact eq_of_beq this.symm)]
                      have HN := hid hn
                      have wk : IntKind.i64.wrap ((k : Int) + 1) = (k : Int) + 1 := by rw [IntKind.wrap_i64]; omega
                      clear hn
                      go_wp2_with (first | go_skip | fail)
                      have hs : Steady [] := Go.Pm.Steady.nil
                      refine wp_region_kn wr _ hs (Kept.refl _ _) (by kernel_rfl) (by kernel_rfl) (by kernel_rfl) ?_
                      iterate 4 (refine wpPar_pure rfl (by rfl) _ (fun W hW => by
                          have c1 := (hW.cell (block_lt_of_cell C2.out.1) (fun h => h)).trans C2.out.1
                          have c2 := (hW.cell (block_lt_of_cell C2.out.2) (fun h => h)).trans C2.out.2
                          go_simp
                          exact rfl) ?_; simp only [Act.put, List.setIfInBounds_toArray, List.set_cons_zero, List.set_cons_succ])
                      refine wpPar_pure rfl (by rfl) (.string ⟨t1.toArray⟩) (fun W hW => by have hcv := cvBytes (D2.out.1.kept hW).all; go_simp) ?_; simp only [Act.put, List.setIfInBounds_toArray, List.set_cons_zero, List.set_cons_succ]
                      iterate 4 (refine wpPar_pure rfl (by rfl) _ (fun W hW => by
                          have c1 := (hW.cell (block_lt_of_cell C2.out.1) (fun h => h)).trans C2.out.1
                          have c2 := (hW.cell (block_lt_of_cell C2.out.2) (fun h => h)).trans C2.out.2
                          go_simp
                          exact rfl) ?_; simp only [Act.put, List.setIfInBounds_toArray, List.set_cons_zero, List.set_cons_succ])
                      refine wpPar_pure rfl (by rfl) (.string ⟨t2.toArray⟩) (fun W hW => by have hcv := cvBytes (D2.out.2.kept hW).all; go_simp) ?_; simp only [Act.put, List.setIfInBounds_toArray, List.set_cons_zero, List.set_cons_succ]
                      refine wpPar_pure rfl (by rfl) (.bool false) (fun W hW => by go_simp; exact eq_of_beq HBQ.out.symm) ?_; simp only [Act.put, List.setIfInBounds_toArray, List.set_cons_zero, List.set_cons_succ]
                      refine wpPar_nil (fun W hW hG => ?_)
                      have KW := hid (HKr.out.trans hW)
                      clear hG hs hW HKr C2 D2
                      go_wp2
                      go_roundg (m1 - (k + 1))
                      case measure => omega
                      case rel => exact ⟨k + 1, by go_num, by omega, Nat.le_refl _, HN, KW⟩
                    | false =>
                      have hn : clashP i p q = some (t1, t2) := by
                        rw [show clashP i p q = partB T1 T2 from HRT.out, HPR.out, HST.out, if_neg (fun h => by have := HBQ.out; rw [h] at this; simp at this)]
                      have NN := hid (clash_some hn)
                      clear hn
                      go_wp2_with (first | go_skip | fail)
                      have hs : Steady [] := Go.Pm.Steady.nil
                      refine wp_region_kn wr _ hs (Kept.refl _ _) (by kernel_rfl) (by kernel_rfl) (by kernel_rfl) ?_
                      iterate 4 (refine wpPar_pure rfl (by rfl) _ (fun W hW => by
                          have c1 := (hW.cell (block_lt_of_cell C2.out.1) (fun h => h)).trans C2.out.1
                          have c2 := (hW.cell (block_lt_of_cell C2.out.2) (fun h => h)).trans C2.out.2
                          go_simp
                          exact rfl) ?_; simp only [Act.put, List.setIfInBounds_toArray, List.set_cons_zero, List.set_cons_succ])
                      refine wpPar_pure rfl (by rfl) (.string ⟨t1.toArray⟩) (fun W hW => by have hcv := cvBytes (D2.out.1.kept hW).all; go_simp) ?_; simp only [Act.put, List.setIfInBounds_toArray, List.set_cons_zero, List.set_cons_succ]
                      iterate 4 (refine wpPar_pure rfl (by rfl) _ (fun W hW => by
                          have c1 := (hW.cell (block_lt_of_cell C2.out.1) (fun h => h)).trans C2.out.1
                          have c2 := (hW.cell (block_lt_of_cell C2.out.2) (fun h => h)).trans C2.out.2
                          go_simp
                          exact rfl) ?_; simp only [Act.put, List.setIfInBounds_toArray, List.set_cons_zero, List.set_cons_succ])
                      refine wpPar_pure rfl (by rfl) (.string ⟨t2.toArray⟩) (fun W hW => by have hcv := cvBytes (D2.out.2.kept hW).all; go_simp) ?_; simp only [Act.put, List.setIfInBounds_toArray, List.set_cons_zero, List.set_cons_succ]
                      refine wpPar_pure rfl (by rfl) (.bool true) (fun W hW => by go_simp; intro h; have h1 := HBQ.out; rw [h] at h1; simp at h1) ?_; simp only [Act.put, List.setIfInBounds_toArray, List.set_cons_zero, List.set_cons_succ]
                      refine wpPar_nil (fun W hW hG => ?_)
                      have KW := hid (HKr.out.trans hW)
                      have D3 := hid (And.intro (D2.out.1.kept hW) (D2.out.2.kept hW))
                      have C3 := hid (And.intro ((hW.cell (block_lt_of_cell C2.out.1) (fun h => h)).trans C2.out.1) ((hW.cell (block_lt_of_cell C2.out.2) (fun h => h)).trans C2.out.2))
                      clear hG hs hW HKr C2 D2
                      go_wp2_with fail
                      have hs : Steady [] := Go.Pm.Steady.nil
                      refine wp_region_kn W _ hs (Kept.refl _ _) (by kernel_rfl) (by kernel_rfl) (by kernel_rfl) ?_
                      iterate 11 (refine wpPar_pure rfl (by rfl) _ (fun W2 hW => by
                          have c1 := (hW.cell (block_lt_of_cell C3.out.1) (fun h => h)).trans C3.out.1
                          have c2 := (hW.cell (block_lt_of_cell C3.out.2) (fun h => h)).trans C3.out.2
                          go_simp
                          exact rfl) ?_; simp only [Act.put, List.setIfInBounds_toArray, List.set_cons_zero, List.set_cons_succ])
                      refine wpPar_nil (fun W2 hW hG => ?_)
                      have KZ := K4.out.trans (KW.out.trans hW)
                      have D4 := D3.out.1.kept hW
                      have D5 := D3.out.2.kept hW
                      clear hG hs hW
                      go_wp2
                      go_ret3
                      exact ⟨.slice x1 t1.length y1, .slice x2 t2.length y2, by rw [NN.out.2.2]; rfl, KZ, by rw [NN.out.1]; exact D4, by rw [NN.out.2.1]; exact D5⟩
                  · have hlz : (k : Int) < (m1 : Int) := by omega
                    have hly : ¬ (k : Int) < (m2 : Int) := by omega
                    have KZ := hid (K4.out.trans HKr.out)
                    have hno : clashP i p q = none := by rw [show clashP i p q = partB T1 T2 from HRT.out, HPR.out]; exact part_done _ _ _ (by have := HMM.out; omega)
                    have NN := hid (clash_none hno)
                    clear hno
                    go_wp2_with (first | go_skip | fail)
                    go_ret3
                    exact ⟨.slice none 0 0, .slice none 0 0, by rw [NN.out.2.2]; rfl, KZ.out, by rw [NN.out.1]; exact Rb.nil _ _, by rw [NN.out.2.1]; exact Rb.nil _ _⟩
                · have hlz : ¬ (k : Int) < (m1 : Int) := by omega
                  have KZ := hid (K4.out.trans HKr.out)
                  have hno : clashP i p q = none := by rw [show clashP i p q = partB T1 T2 from HRT.out, HPR.out]; exact part_done _ _ _ (by have := HMM.out; omega)
                  have NN := hid (clash_none hno)
                  clear hno
                  go_wp2_with (first | go_skip | fail)
                  go_ret3
                  exact ⟨.slice none 0 0, .slice none 0 0, by rw [NN.out.2.2]; rfl, KZ.out, by rw [NN.out.1]; exact Rb.nil _ _, by rw [NN.out.2.1]; exact Rb.nil _ _⟩
        · have hez : (q.e == 0) = false := by simpa using hq0
          have hez2 : (0 == q.e) = false := by simpa using (fun h => hq0 h.symm)
          have hsame := same_pn hp0 hq0
          rw [hp0] at cp
          go_wp2_with (first | go_skip | (refine wpList_load_bw (by kernel_rfl) rfl rfl bI2 aI ?_) | (refine wpList_load_wr (by kernel_rfl) rfl rfl rv1 aV1 ?_) | (refine wpList_load_wr (by kernel_rfl) rfl rfl rv2 aV2 ?_) | fail)
          clear cp cq hez hez2 hp0 hq0
          have hroot : clashP i p q = if br then partB T1 T2 else none := by rw [HD.out, hsame]; simp
          have HRT := hid hroot
          have BI := hid bI2
          have BA := hid bA2
          have BB := hid bB2
          clear hsame hroot bI2 bA2 bB2
          go_wp2_with fail
          have hs : Steady [.rlq 2 0 m1 T1, .rlq 5 0 m2 T2] := Go.Pm.Steady.rlq (Go.Pm.Steady.rlq (Go.Pm.Steady.nil))
          refine wp_region_kn w2 _ hs (Kept.refl _ _) (by kernel_rfl) (by kernel_rfl) (by kernel_rfl) ?_
          refine wpPar_pure rfl (by rfl) _ (fun W hW => by first | exact exec_load_blk _ _ rfl rfl (BI.out.kept hW (fun h => h)) aI | exact exec_load_blk _ _ rfl rfl (BA.out.kept hW (fun h => h)) aA | exact exec_load_blk _ _ rfl rfl (BB.out.kept hW (fun h => h)) aB | (go_simp; exact rfl)) ?_; simp only [Act.put, List.setIfInBounds_toArray, List.set_cons_zero, List.set_cons_succ]
          refine wpPar_pure rfl (by rfl) _ (fun W hW => by first | exact exec_load_blk _ _ rfl rfl (BI.out.kept hW (fun h => h)) aI | exact exec_load_blk _ _ rfl rfl (BA.out.kept hW (fun h => h)) aA | exact exec_load_blk _ _ rfl rfl (BB.out.kept hW (fun h => h)) aB | (go_simp; exact rfl)) ?_; simp only [Act.put, List.setIfInBounds_toArray, List.set_cons_zero, List.set_cons_succ]
          refine wpKn_adds hs rfl (by rfl) (fun W hW hd => ?_) (fun v2 hv => ?_)
          · unfold Gives
            go_simp
            refine gives_call (FT1.out W (P12.out.kept hW) hlp) ?_
            rintro e w3 ⟨u, rfl, k3, b3⟩
            obtain ⟨a3, c3, rfl⟩ := b3.form
            obtain ⟨b, o, _, _, e1, _, _⟩ := Rl.at b3 (i := 0) HT0.out.1
            obtain rfl := e1
            exact ⟨_, rfl, k3, ⟨b, o, c3, by rw [HMM.out.1]⟩, b3.mono (Nat.zero_le _)⟩
          obtain ⟨b2, o2, c2, rfl⟩ : ∃ b o c, v2 = .slice (some ⟨b, o, none⟩) m1 c := hv
          simp only [Act.put, List.setIfInBounds_toArray, List.set_cons_zero, List.set_cons_succ]
          refine wpPar_pure rfl (by rfl) _ (fun W hW => by first | exact exec_load_blk _ _ rfl rfl (BI.out.kept hW (fun h => h)) aI | exact exec_load_blk _ _ rfl rfl (BA.out.kept hW (fun h => h)) aA | exact exec_load_blk _ _ rfl rfl (BB.out.kept hW (fun h => h)) aB | (go_simp; exact rfl)) ?_; simp only [Act.put, List.setIfInBounds_toArray, List.set_cons_zero, List.set_cons_succ]
          refine wpPar_pure rfl (by rfl) _ (fun W hW => by first | exact exec_load_blk _ _ rfl rfl (BI.out.kept hW (fun h => h)) aI | exact exec_load_blk _ _ rfl rfl (BA.out.kept hW (fun h => h)) aA | exact exec_load_blk _ _ rfl rfl (BB.out.kept hW (fun h => h)) aB | (go_simp; exact rfl)) ?_; simp only [Act.put, List.setIfInBounds_toArray, List.set_cons_zero, List.set_cons_succ]
          refine wpKn_adds hs rfl (by rfl) (fun W hW hd => ?_) (fun v5 hv => ?_)
          · unfold Gives
            go_simp
            refine gives_call (FT2.out W (P22.out.kept hW) hlq) ?_
            rintro e w3 ⟨u, rfl, k3, b3⟩
            obtain ⟨a3, c3, rfl⟩ := b3.form
            obtain ⟨b, o, _, _, e1, _, _⟩ := Rl.at b3 (i := 0) HT0.out.2
            obtain rfl := e1
            exact ⟨_, rfl, k3, ⟨b, o, c3, by rw [HMM.out.2]⟩, b3.mono (Nat.zero_le _)⟩
          obtain ⟨b5, o5, c5, rfl⟩ : ∃ b o c, v5 = .slice (some ⟨b, o, none⟩) m2 c := hv
          simp only [Act.put, List.setIfInBounds_toArray, List.set_cons_zero, List.set_cons_succ]
          iterate 2 (refine wpPar_pure rfl (by rfl) _ (fun W hW => by
              go_simp
              exact rfl) ?_; simp only [Act.put, List.setIfInBounds_toArray, List.set_cons_zero, List.set_cons_succ])
          refine wpPar_nil (fun w3 hW hG => ?_)
          have RL1 : Hid (Rl 0 w3 (.slice (some ⟨b2, o2, none⟩) m1 c2) T1) := hid (hG 2)
          have RL2 : Hid (Rl 0 w3 (.slice (some ⟨b5, o5, none⟩) m2 c5) T2) := hid (hG 5)
          have K3 := hid (k02.trans hW)
          clear hG hs hW BI BA BB P12 P22 k02 FT1 FT2
          obtain ⟨ya, yb, y1, y2⟩ := RL1.out.atP HT0.out.1
          obtain ⟨za, zb, z1, z2⟩ := RL2.out.atP HT0.out.2
          rw [HX.out.1, Nat.add_zero] at y1
          rw [HX.out.1] at y2
          rw [HX.out.2, Nat.add_zero] at z1
          rw [HX.out.2] at z2
          have C1 := hid (And.intro y1 z1)
          have D1 := hid (And.intro y2 z2)
          clear y1 y2 z1 z2
          have hm0 : 0 < m1 ∧ 0 < m2 := by have := HT0.out; have := HMM.out; omega
          obtain ⟨hm1, hm2⟩ := hm0
          cases br with
          | false =>
            go_wp2_with fail
            have hs : Steady [.val 3 (.agg R1), .val 7 (.agg R2)] := Go.Pm.Steady.val (Go.Pm.Steady.val (Go.Pm.Steady.nil))
            refine wp_region_kn w3 _ hs (Kept.refl _ _) (by kernel_rfl) (by kernel_rfl) (by kernel_rfl) ?_
            iterate 3 (refine wpPar_pure rfl (by rfl) _ (fun W hW => by
                have c1 := (hW.cell (block_lt_of_cell C1.out.1) (fun h => h)).trans C1.out.1
                have c2 := (hW.cell (block_lt_of_cell C1.out.2) (fun h => h)).trans C1.out.2
                have q1 := NEQ.out
                go_simp
                exact rfl) ?_; simp only [Act.put, List.setIfInBounds_toArray, List.set_cons_zero, List.set_cons_succ])
            refine wpKn_adds hs rfl (by rfl) (fun W hW hd => ?_) (fun v3 hv => ?_)
            · unfold Gives
              go_simp
              refine gives_call (FS1.out W _ (D1.out.1.kept hW)) ?_
              rintro e w3 ⟨rfl, k3⟩
              exact ⟨_, rfl, k3, rfl, trivial⟩
            obtain rfl : v3 = .agg R1 := hv
            simp only [Act.put, List.setIfInBounds_toArray, List.set_cons_zero, List.set_cons_succ]
            iterate 3 (refine wpPar_pure rfl (by rfl) _ (fun W hW => by
                have c1 := (hW.cell (block_lt_of_cell C1.out.1) (fun h => h)).trans C1.out.1
                have c2 := (hW.cell (block_lt_of_cell C1.out.2) (fun h => h)).trans C1.out.2
                have q1 := NEQ.out
                go_simp
                exact rfl) ?_; simp only [Act.put, List.setIfInBounds_toArray, List.set_cons_zero, List.set_cons_succ])
            refine wpKn_adds hs rfl (by rfl) (fun W hW hd => ?_) (fun v7 hv => ?_)
            · unfold Gives
              go_simp
              refine gives_call (FS2.out W _ (D1.out.2.kept hW)) ?_
              rintro e w3 ⟨rfl, k3⟩
              exact ⟨_, rfl, k3, rfl, trivial⟩
            obtain rfl : v7 = .agg R2 := hv
            simp only [Act.put, List.setIfInBounds_toArray, List.set_cons_zero, List.set_cons_succ]
            iterate 1 (refine wpPar_pure rfl (by rfl) _ (fun W hW => by
                have c1 := (hW.cell (block_lt_of_cell C1.out.1) (fun h => h)).trans C1.out.1
                have c2 := (hW.cell (block_lt_of_cell C1.out.2) (fun h => h)).trans C1.out.2
                have q1 := NEQ.out
                go_simp
                exact rfl) ?_; simp only [Act.put, List.setIfInBounds_toArray, List.set_cons_zero, List.set_cons_succ])
            refine wpPar_nil (fun w4 hW hG => ?_)
            have K4 := hid (K3.out.trans hW)
            clear hG hs hW
            have hno : clashP i p q = none := by rw [HRT.out]; rfl
            have NN := hid (clash_none hno)
            clear hno
            go_wp2_with (first | go_skip | fail)
            go_ret3
            exact ⟨.slice none 0 0, .slice none 0 0, by rw [NN.out.2.2]; rfl, K4.out, by rw [NN.out.1]; exact Rb.nil _ _, by rw [NN.out.2.1]; exact Rb.nil _ _⟩
          | true =>
            go_wp2_with fail
            have hs : Steady [.val 3 (.agg R1), .val 7 (.agg R2)] := Go.Pm.Steady.val (Go.Pm.Steady.val (Go.Pm.Steady.nil))
            refine wp_region_kn w3 _ hs (Kept.refl _ _) (by kernel_rfl) (by kernel_rfl) (by kernel_rfl) ?_
            iterate 3 (refine wpPar_pure rfl (by rfl) _ (fun W hW => by
                have c1 := (hW.cell (block_lt_of_cell C1.out.1) (fun h => h)).trans C1.out.1
                have c2 := (hW.cell (block_lt_of_cell C1.out.2) (fun h => h)).trans C1.out.2
                have q1 := NEQ.out
                go_simp
                exact rfl) ?_; simp only [Act.put, List.setIfInBounds_toArray, List.set_cons_zero, List.set_cons_succ])
            refine wpKn_adds hs rfl (by rfl) (fun W hW hd => ?_) (fun v3 hv => ?_)
            · unfold Gives
              go_simp
              refine gives_call (FS1.out W _ (D1.out.1.kept hW)) ?_
              rintro e w3 ⟨rfl, k3⟩
              exact ⟨_, rfl, k3, rfl, trivial⟩
            obtain rfl : v3 = .agg R1 := hv
            simp only [Act.put, List.setIfInBounds_toArray, List.set_cons_zero, List.set_cons_succ]
            iterate 3 (refine wpPar_pure rfl (by rfl) _ (fun W hW => by
                have c1 := (hW.cell (block_lt_of_cell C1.out.1) (fun h => h)).trans C1.out.1
                have c2 := (hW.cell (block_lt_of_cell C1.out.2) (fun h => h)).trans C1.out.2
                have q1 := NEQ.out
                go_simp
                exact rfl) ?_; simp only [Act.put, List.setIfInBounds_toArray, List.set_cons_zero, List.set_cons_succ])
            refine wpKn_adds hs rfl (by rfl) (fun W hW hd => ?_) (fun v7 hv => ?_)
            · unfold Gives
              go_simp
              refine gives_call (FS2.out W _ (D1.out.2.kept hW)) ?_
              rintro e w3 ⟨rfl, k3⟩
              exact ⟨_, rfl, k3, rfl, trivial⟩
            obtain rfl : v7 = .agg R2 := hv
            simp only [Act.put, List.setIfInBounds_toArray, List.set_cons_zero, List.set_cons_succ]
            iterate 1 (refine wpPar_pure rfl (by rfl) _ (fun W hW => by
                have c1 := (hW.cell (block_lt_of_cell C1.out.1) (fun h => h)).trans C1.out.1
                have c2 := (hW.cell (block_lt_of_cell C1.out.2) (fun h => h)).trans C1.out.2
                have q1 := NEQ.out
                go_simp
                exact rfl) ?_; simp only [Act.put, List.setIfInBounds_toArray, List.set_cons_zero, List.set_cons_succ])
            refine wpPar_nil (fun w4 hW hG => ?_)
            have K4 := hid (K3.out.trans hW)
            have RL14 := hid (RL1.out.kept hW)
            have RL24 := hid (RL2.out.kept hW)
            clear hG hs hW C1 D1 RL1 RL2 K3 FS1 FS2
            go_wp2_with fail
            go_loopg [11] m1 (fun kx s11 wr => ∃ k : Nat, s11 = .int .i64 k ∧ k ≤ m1 ∧ m1 - k ≤ kx ∧ Hid (partB T1 T2 = partB (T1.drop k) (T2.drop k)) ∧ Hid (Kept None w4 wr))
            case atStart => exact ⟨0, rfl, Nat.zero_le _, Nat.le_refl _, rfl, Kept.refl _ _⟩
            case round =>
              obtain ⟨k, rfl, hk, hkx, HPR, HKr⟩ := hrel
              by_cases hlt : k < m1
              · by_cases hlu : k < m2
                · have hlz : (k : Int) < (m1 : Int) := by omega
                  have hly : (k : Int) < (m2 : Int) := by omega
                  have hk1 : k < T1.length := by have := HMM.out; omega
                  have hk2 : k < T2.length := by have := HMM.out; omega
                  have hkb : k < 1000 := by have := HMB.out; omega
                  obtain ⟨x1, y1, c1, d1⟩ := (RL14.out.kept HKr.out).atP hk1
                  obtain ⟨x2, y2, c3, d2⟩ := (RL24.out.kept HKr.out).atP hk2
                  have hst := part_step T1 T2 k hk1 hk2
                  obtain ⟨t1, ht1⟩ : ∃ t, t = T1[k] := ⟨_, rfl⟩
                  obtain ⟨t2, ht2⟩ : ∃ t, t = T2[k] := ⟨_, rfl⟩
                  rw [← ht1] at c1 d1 hst
                  rw [← ht2] at c3 d2 hst
                  have C2 := hid (And.intro c1 c3)
                  have D2 := hid (And.intro d1 d2)
                  have HST := hid hst
                  clear hk1 hk2 ht1 ht2 hst c1 c3 d1 d2
                  have se := str_eq t1 t2
                  obtain ⟨bq, hbq⟩ : ∃ b, b = (t1 == t2) := ⟨_, rfl⟩
                  rw [← hbq] at se
                  have SE := hid se
                  have HBQ := hid hbq
                  clear se hbq
                  cases bq with
                  | true =>
                    have hn : partB T1 T2 = partB (T1.drop (k + 1)) (T2.drop (k + 1)) := by
                      rw [HPR.out, HST.out, if_pos (by have := HBQ.out; exact eq_of_beq this.symm)]
                    have HN := hid hn
                    have wk : IntKind.i64.wrap ((k : Int) + 1) = (k : Int) + 1 := by rw [IntKind.wrap_i64]; omega
                    clear hn
                    go_wp2_with (first | go_skip | fail)
                    have hs : Steady [] := Go.Pm.Steady.nil
                    refine wp_region_kn wr _ hs (Kept.refl _ _) (by kernel_rfl) (by kernel_rfl) (by kernel_rfl) ?_
                    iterate 4 (refine wpPar_pure rfl (by rfl) _ (fun W hW => by
                        have c1 := (hW.cell (block_lt_of_cell C2.out.1) (fun h => h)).trans C2.out.1
                        have c2 := (hW.cell (block_lt_of_cell C2.out.2) (fun h => h)).trans C2.out.2
                        go_simp
                        exact rfl) ?_; simp only [Act.put, List.setIfInBounds_toArray, List.set_cons_zero, List.set_cons_succ])
                    refine wpPar_pure rfl (by rfl) (.string ⟨t1.toArray⟩) (fun W hW => by have hcv := cvBytes (D2.out.1.kept hW).all; go_simp) ?_; simp only [Act.put, List.setIfInBounds_toArray, List.set_cons_zero, List.set_cons_succ]
                    iterate 4 (refine wpPar_pure rfl (by rfl) _ (fun W hW => by
                        have c1 := (hW.cell (block_lt_of_cell C2.out.1) (fun h => h)).trans C2.out.1
                        have c2 := (hW.cell (block_lt_of_cell C2.out.2) (fun h => h)).trans C2.out.2
                        go_simp
                        exact rfl) ?_; simp only [Act.put, List.setIfInBounds_toArray, List.set_cons_zero, List.set_cons_succ])
                    refine wpPar_pure rfl (by rfl) (.string ⟨t2.toArray⟩) (fun W hW => by have hcv := cvBytes (D2.out.2.kept hW).all; go_simp) ?_; simp only [Act.put, List.setIfInBounds_toArray, List.set_cons_zero, List.set_cons_succ]
                    refine wpPar_pure rfl (by rfl) (.bool false) (fun W hW => by go_simp; exact eq_of_beq HBQ.out.symm) ?_; simp only [Act.put, List.setIfInBounds_toArray, List.set_cons_zero, List.set_cons_succ]
                    refine wpPar_nil (fun W hW hG => ?_)
                    have KW := hid (HKr.out.trans hW)
                    clear hG hs hW HKr C2 D2
                    go_wp2
                    go_roundg (m1 - (k + 1))
                    case measure => omega
                    case rel => exact ⟨k + 1, by go_num, by omega, Nat.le_refl _, HN, KW⟩
                  | false =>
                    have hn : clashP i p q = some (t1, t2) := by
                      rw [show clashP i p q = partB T1 T2 from HRT.out, HPR.out, HST.out, if_neg (fun h => by have := HBQ.out; rw [h] at this; simp at this)]
                    have NN := hid (clash_some hn)
                    clear hn
                    go_wp2_with (first | go_skip | fail)
                    have hs : Steady [] := Go.Pm.Steady.nil
                    refine wp_region_kn wr _ hs (Kept.refl _ _) (by kernel_rfl) (by kernel_rfl) (by kernel_rfl) ?_
                    iterate 4 (refine wpPar_pure rfl (by rfl) _ (fun W hW => by
                        have c1 := (hW.cell (block_lt_of_cell C2.out.1) (fun h => h)).trans C2.out.1
                        have c2 := (hW.cell (block_lt_of_cell C2.out.2) (fun h => h)).trans C2.out.2
                        go_simp
                        exact rfl) ?_; simp only [Act.put, List.setIfInBounds_toArray, List.set_cons_zero, List.set_cons_succ])
                    refine wpPar_pure rfl (by rfl) (.string ⟨t1.toArray⟩) (fun W hW => by have hcv := cvBytes (D2.out.1.kept hW).all; go_simp) ?_; simp only [Act.put, List.setIfInBounds_toArray, List.set_cons_zero, List.set_cons_succ]
                    iterate 4 (refine wpPar_pure rfl (by rfl) _ (fun W hW => by
                        have c1 := (hW.cell (block_lt_of_cell C2.out.1) (fun h => h)).trans C2.out.1
                        have c2 := (hW.cell (block_lt_of_cell C2.out.2) (fun h => h)).trans C2.out.2
                        go_simp
                        exact rfl) ?_; simp only [Act.put, List.setIfInBounds_toArray, List.set_cons_zero, List.set_cons_succ])
                    refine wpPar_pure rfl (by rfl) (.string ⟨t2.toArray⟩) (fun W hW => by have hcv := cvBytes (D2.out.2.kept hW).all; go_simp) ?_; simp only [Act.put, List.setIfInBounds_toArray, List.set_cons_zero, List.set_cons_succ]
                    refine wpPar_pure rfl (by rfl) (.bool true) (fun W hW => by go_simp; intro h; have h1 := HBQ.out; rw [h] at h1; simp at h1) ?_; simp only [Act.put, List.setIfInBounds_toArray, List.set_cons_zero, List.set_cons_succ]
                    refine wpPar_nil (fun W hW hG => ?_)
                    have KW := hid (HKr.out.trans hW)
                    have D3 := hid (And.intro (D2.out.1.kept hW) (D2.out.2.kept hW))
                    have C3 := hid (And.intro ((hW.cell (block_lt_of_cell C2.out.1) (fun h => h)).trans C2.out.1) ((hW.cell (block_lt_of_cell C2.out.2) (fun h => h)).trans C2.out.2))
                    clear hG hs hW HKr C2 D2
                    go_wp2_with fail
                    have hs : Steady [] := Go.Pm.Steady.nil
                    refine wp_region_kn W _ hs (Kept.refl _ _) (by kernel_rfl) (by kernel_rfl) (by kernel_rfl) ?_
                    iterate 11 (refine wpPar_pure rfl (by rfl) _ (fun W2 hW => by
                        have c1 := (hW.cell (block_lt_of_cell C3.out.1) (fun h => h)).trans C3.out.1
                        have c2 := (hW.cell (block_lt_of_cell C3.out.2) (fun h => h)).trans C3.out.2
                        go_simp
                        exact rfl) ?_; simp only [Act.put, List.setIfInBounds_toArray, List.set_cons_zero, List.set_cons_succ])
                    refine wpPar_nil (fun W2 hW hG => ?_)
                    have KZ := K4.out.trans (KW.out.trans hW)
                    have D4 := D3.out.1.kept hW
                    have D5 := D3.out.2.kept hW
                    clear hG hs hW
                    go_wp2
                    go_ret3
                    exact ⟨.slice x1 t1.length y1, .slice x2 t2.length y2, by rw [NN.out.2.2]; rfl, KZ, by rw [NN.out.1]; exact D4, by rw [NN.out.2.1]; exact D5⟩
                · have hlz : (k : Int) < (m1 : Int) := by omega
                  have hly : ¬ (k : Int) < (m2 : Int) := by omega
                  have KZ := hid (K4.out.trans HKr.out)
                  have hno : clashP i p q = none := by rw [show clashP i p q = partB T1 T2 from HRT.out, HPR.out]; exact part_done _ _ _ (by have := HMM.out; omega)
                  have NN := hid (clash_none hno)
                  clear hno
                  go_wp2_with (first | go_skip | fail)
                  go_ret3
                  exact ⟨.slice none 0 0, .slice none 0 0, by rw [NN.out.2.2]; rfl, KZ.out, by rw [NN.out.1]; exact Rb.nil _ _, by rw [NN.out.2.1]; exact Rb.nil _ _⟩
              · have hlz : ¬ (k : Int) < (m1 : Int) := by omega
                have KZ := hid (K4.out.trans HKr.out)
                have hno : clashP i p q = none := by rw [show clashP i p q = partB T1 T2 from HRT.out, HPR.out]; exact part_done _ _ _ (by have := HMM.out; omega)
                have NN := hid (clash_none hno)
                clear hno
                go_wp2_with (first | go_skip | fail)
                go_ret3
                exact ⟨.slice none 0 0, .slice none 0 0, by rw [NN.out.2.2]; rfl, KZ.out, by rw [NN.out.1]; exact Rb.nil _ _, by rw [NN.out.2.1]; exact Rb.nil _ _⟩
      · have hez : (p.e == 0) = false := by simpa using hp0
        by_cases hq0 : q.e = 0
        · have hsame := same_np hp0 hq0
          rw [hq0] at cq
          go_wp2_with (first | go_skip | (refine wpList_load_bw (by kernel_rfl) rfl rfl bI2 aI ?_) | (refine wpList_load_wr (by kernel_rfl) rfl rfl rv1 aV1 ?_) | (refine wpList_load_wr (by kernel_rfl) rfl rfl rv2 aV2 ?_) | fail)
          clear cp cq hez hp0 hq0
          have hroot : clashP i p q = if br then partB T1 T2 else none := by rw [HD.out, hsame]; simp
          have HRT := hid hroot
          have BI := hid bI2
          have BA := hid bA2
          have BB := hid bB2
          clear hsame hroot bI2 bA2 bB2
          go_wp2_with fail
          have hs : Steady [.rlq 2 0 m1 T1, .rlq 5 0 m2 T2] := Go.Pm.Steady.rlq (Go.Pm.Steady.rlq (Go.Pm.Steady.nil))
          refine wp_region_kn w2 _ hs (Kept.refl _ _) (by kernel_rfl) (by kernel_rfl) (by kernel_rfl) ?_
          refine wpPar_pure rfl (by rfl) _ (fun W hW => by first | exact exec_load_blk _ _ rfl rfl (BI.out.kept hW (fun h => h)) aI | exact exec_load_blk _ _ rfl rfl (BA.out.kept hW (fun h => h)) aA | exact exec_load_blk _ _ rfl rfl (BB.out.kept hW (fun h => h)) aB | (go_simp; exact rfl)) ?_; simp only [Act.put, List.setIfInBounds_toArray, List.set_cons_zero, List.set_cons_succ]
          refine wpPar_pure rfl (by rfl) _ (fun W hW => by first | exact exec_load_blk _ _ rfl rfl (BI.out.kept hW (fun h => h)) aI | exact exec_load_blk _ _ rfl rfl (BA.out.kept hW (fun h => h)) aA | exact exec_load_blk _ _ rfl rfl (BB.out.kept hW (fun h => h)) aB | (go_simp; exact rfl)) ?_; simp only [Act.put, List.setIfInBounds_toArray, List.set_cons_zero, List.set_cons_succ]
          refine wpKn_adds hs rfl (by rfl) (fun W hW hd => ?_) (fun v2 hv => ?_)
          · unfold Gives
            go_simp
            refine gives_call (FT1.out W (P12.out.kept hW) hlp) ?_
            rintro e w3 ⟨u, rfl, k3, b3⟩
            obtain ⟨a3, c3, rfl⟩ := b3.form
            obtain ⟨b, o, _, _, e1, _, _⟩ := Rl.at b3 (i := 0) HT0.out.1
            obtain rfl := e1
            exact ⟨_, rfl, k3, ⟨b, o, c3, by rw [HMM.out.1]⟩, b3.mono (Nat.zero_le _)⟩
          obtain ⟨b2, o2, c2, rfl⟩ : ∃ b o c, v2 = .slice (some ⟨b, o, none⟩) m1 c := hv
          simp only [Act.put, List.setIfInBounds_toArray, List.set_cons_zero, List.set_cons_succ]
          refine wpPar_pure rfl (by rfl) _ (fun W hW => by first | exact exec_load_blk _ _ rfl rfl (BI.out.kept hW (fun h => h)) aI | exact exec_load_blk _ _ rfl rfl (BA.out.kept hW (fun h => h)) aA | exact exec_load_blk _ _ rfl rfl (BB.out.kept hW (fun h => h)) aB | (go_simp; exact rfl)) ?_; simp only [Act.put, List.setIfInBounds_toArray, List.set_cons_zero, List.set_cons_succ]
          refine wpPar_pure rfl (by rfl) _ (fun W hW => by first | exact exec_load_blk _ _ rfl rfl (BI.out.kept hW (fun h => h)) aI | exact exec_load_blk _ _ rfl rfl (BA.out.kept hW (fun h => h)) aA | exact exec_load_blk _ _ rfl rfl (BB.out.kept hW (fun h => h)) aB | (go_simp; exact rfl)) ?_; simp only [Act.put, List.setIfInBounds_toArray, List.set_cons_zero, List.set_cons_succ]
          refine wpKn_adds hs rfl (by rfl) (fun W hW hd => ?_) (fun v5 hv => ?_)
          · unfold Gives
            go_simp
            refine gives_call (FT2.out W (P22.out.kept hW) hlq) ?_
            rintro e w3 ⟨u, rfl, k3, b3⟩
            obtain ⟨a3, c3, rfl⟩ := b3.form
            obtain ⟨b, o, _, _, e1, _, _⟩ := Rl.at b3 (i := 0) HT0.out.2
            obtain rfl := e1
            exact ⟨_, rfl, k3, ⟨b, o, c3, by rw [HMM.out.2]⟩, b3.mono (Nat.zero_le _)⟩
          obtain ⟨b5, o5, c5, rfl⟩ : ∃ b o c, v5 = .slice (some ⟨b, o, none⟩) m2 c := hv
          simp only [Act.put, List.setIfInBounds_toArray, List.set_cons_zero, List.set_cons_succ]
          iterate 2 (refine wpPar_pure rfl (by rfl) _ (fun W hW => by
              go_simp
              exact rfl) ?_; simp only [Act.put, List.setIfInBounds_toArray, List.set_cons_zero, List.set_cons_succ])
          refine wpPar_nil (fun w3 hW hG => ?_)
          have RL1 : Hid (Rl 0 w3 (.slice (some ⟨b2, o2, none⟩) m1 c2) T1) := hid (hG 2)
          have RL2 : Hid (Rl 0 w3 (.slice (some ⟨b5, o5, none⟩) m2 c5) T2) := hid (hG 5)
          have K3 := hid (k02.trans hW)
          clear hG hs hW BI BA BB P12 P22 k02 FT1 FT2
          obtain ⟨ya, yb, y1, y2⟩ := RL1.out.atP HT0.out.1
          obtain ⟨za, zb, z1, z2⟩ := RL2.out.atP HT0.out.2
          rw [HX.out.1, Nat.add_zero] at y1
          rw [HX.out.1] at y2
          rw [HX.out.2, Nat.add_zero] at z1
          rw [HX.out.2] at z2
          have C1 := hid (And.intro y1 z1)
          have D1 := hid (And.intro y2 z2)
          clear y1 y2 z1 z2
          have hm0 : 0 < m1 ∧ 0 < m2 := by have := HT0.out; have := HMM.out; omega
          obtain ⟨hm1, hm2⟩ := hm0
          cases br with
          | false =>
            go_wp2_with fail
            have hs : Steady [.val 3 (.agg R1), .val 7 (.agg R2)] := Go.Pm.Steady.val (Go.Pm.Steady.val (Go.Pm.Steady.nil))
            refine wp_region_kn w3 _ hs (Kept.refl _ _) (by kernel_rfl) (by kernel_rfl) (by kernel_rfl) ?_
            iterate 3 (refine wpPar_pure rfl (by rfl) _ (fun W hW => by
                have c1 := (hW.cell (block_lt_of_cell C1.out.1) (fun h => h)).trans C1.out.1
                have c2 := (hW.cell (block_lt_of_cell C1.out.2) (fun h => h)).trans C1.out.2
                have q1 := NEQ.out
                go_simp
                exact rfl) ?_; simp only [Act.put, List.setIfInBounds_toArray, List.set_cons_zero, List.set_cons_succ])
            refine wpKn_adds hs rfl (by rfl) (fun W hW hd => ?_) (fun v3 hv => ?_)
            · unfold Gives
              go_simp
              refine gives_call (FS1.out W _ (D1.out.1.kept hW)) ?_
              rintro e w3 ⟨rfl, k3⟩
              exact ⟨_, rfl, k3, rfl, trivial⟩
            obtain rfl : v3 = .agg R1 := hv
            simp only [Act.put, List.setIfInBounds_toArray, List.set_cons_zero, List.set_cons_succ]
            iterate 3 (refine wpPar_pure rfl (by rfl) _ (fun W hW => by
                have c1 := (hW.cell (block_lt_of_cell C1.out.1) (fun h => h)).trans C1.out.1
                have c2 := (hW.cell (block_lt_of_cell C1.out.2) (fun h => h)).trans C1.out.2
                have q1 := NEQ.out
                go_simp
                exact rfl) ?_; simp only [Act.put, List.setIfInBounds_toArray, List.set_cons_zero, List.set_cons_succ])
            refine wpKn_adds hs rfl (by rfl) (fun W hW hd => ?_) (fun v7 hv => ?_)
            · unfold Gives
              go_simp
              refine gives_call (FS2.out W _ (D1.out.2.kept hW)) ?_
              rintro e w3 ⟨rfl, k3⟩
              exact ⟨_, rfl, k3, rfl, trivial⟩
            obtain rfl : v7 = .agg R2 := hv
            simp only [Act.put, List.setIfInBounds_toArray, List.set_cons_zero, List.set_cons_succ]
            iterate 1 (refine wpPar_pure rfl (by rfl) _ (fun W hW => by
                have c1 := (hW.cell (block_lt_of_cell C1.out.1) (fun h => h)).trans C1.out.1
                have c2 := (hW.cell (block_lt_of_cell C1.out.2) (fun h => h)).trans C1.out.2
                have q1 := NEQ.out
                go_simp
                exact rfl) ?_; simp only [Act.put, List.setIfInBounds_toArray, List.set_cons_zero, List.set_cons_succ])
            refine wpPar_nil (fun w4 hW hG => ?_)
            have K4 := hid (K3.out.trans hW)
            clear hG hs hW
            have hno : clashP i p q = none := by rw [HRT.out]; rfl
            have NN := hid (clash_none hno)
            clear hno
            go_wp2_with (first | go_skip | fail)
            go_ret3
            exact ⟨.slice none 0 0, .slice none 0 0, by rw [NN.out.2.2]; rfl, K4.out, by rw [NN.out.1]; exact Rb.nil _ _, by rw [NN.out.2.1]; exact Rb.nil _ _⟩
          | true =>
            go_wp2_with fail
            have hs : Steady [.val 3 (.agg R1), .val 7 (.agg R2)] := Go.Pm.Steady.val (Go.Pm.Steady.val (Go.Pm.Steady.nil))
            refine wp_region_kn w3 _ hs (Kept.refl _ _) (by kernel_rfl) (by kernel_rfl) (by kernel_rfl) ?_
            iterate 3 (refine wpPar_pure rfl (by rfl) _ (fun W hW => by
                have c1 := (hW.cell (block_lt_of_cell C1.out.1) (fun h => h)).trans C1.out.1
                have c2 := (hW.cell (block_lt_of_cell C1.out.2) (fun h => h)).trans C1.out.2
                have q1 := NEQ.out
                go_simp
                exact rfl) ?_; simp only [Act.put, List.setIfInBounds_toArray, List.set_cons_zero, List.set_cons_succ])
            refine wpKn_adds hs rfl (by rfl) (fun W hW hd => ?_) (fun v3 hv => ?_)
            · unfold Gives
              go_simp
              refine gives_call (FS1.out W _ (D1.out.1.kept hW)) ?_
              rintro e w3 ⟨rfl, k3⟩
              exact ⟨_, rfl, k3, rfl, trivial⟩
            obtain rfl : v3 = .agg R1 := hv
            simp only [Act.put, List.setIfInBounds_toArray, List.set_cons_zero, List.set_cons_succ]
            iterate 3 (refine wpPar_pure rfl (by rfl) _ (fun W hW => by
                have c1 := (hW.cell (block_lt_of_cell C1.out.1) (fun h => h)).trans C1.out.1
                have c2 := (hW.cell (block_lt_of_cell C1.out.2) (fun h => h)).trans C1.out.2
                have q1 := NEQ.out
                go_simp
                exact rfl) ?_; simp only [Act.put, List.setIfInBounds_toArray, List.set_cons_zero, List.set_cons_succ])
            refine wpKn_adds hs rfl (by rfl) (fun W hW hd => ?_) (fun v7 hv => ?_)
            · unfold Gives
              go_simp
              refine gives_call (FS2.out W _ (D1.out.2.kept hW)) ?_
              rintro e w3 ⟨rfl, k3⟩
              exact ⟨_, rfl, k3, rfl, trivial⟩
            obtain rfl : v7 = .agg R2 := hv
            simp only [Act.put, List.setIfInBounds_toArray, List.set_cons_zero, List.set_cons_succ]
            iterate 1 (refine wpPar_pure rfl (by rfl) _ (fun W hW => by
                have c1 := (hW.cell (block_lt_of_cell C1.out.1) (fun h => h)).trans C1.out.1
                have c2 := (hW.cell (block_lt_of_cell C1.out.2) (fun h => h)).trans C1.out.2
                have q1 := NEQ.out
                go_simp
                exact rfl) ?_; simp only [Act.put, List.setIfInBounds_toArray, List.set_cons_zero, List.set_cons_succ])
            refine wpPar_nil (fun w4 hW hG => ?_)
            have K4 := hid (K3.out.trans hW)
            have RL14 := hid (RL1.out.kept hW)
            have RL24 := hid (RL2.out.kept hW)
            clear hG hs hW C1 D1 RL1 RL2 K3 FS1 FS2
            go_wp2_with fail
            go_loopg [11] m1 (fun kx s11 wr => ∃ k : Nat, s11 = .int .i64 k ∧ k ≤ m1 ∧ m1 - k ≤ kx ∧ Hid (partB T1 T2 = partB (T1.drop k) (T2.drop k)) ∧ Hid (Kept None w4 wr))
            case atStart => exact ⟨0, rfl, Nat.zero_le _, Nat.le_refl _, rfl, Kept.refl _ _⟩
            case round =>
              obtain ⟨k, rfl, hk, hkx, HPR, HKr⟩ := hrel
              by_cases hlt : k < m1
              · by_cases hlu : k < m2
                · have hlz : (k : Int) < (m1 : Int) := by omega
                  have hly : (k : Int) < (m2 : Int) := by omega
                  have hk1 : k < T1.length := by have := HMM.out; omega
                  have hk2 : k < T2.length := by have := HMM.out; omega
                  have hkb : k < 1000 := by have := HMB.out; omega
                  obtain ⟨x1, y1, c1, d1⟩ := (RL14.out.kept HKr.out).atP hk1
                  obtain ⟨x2, y2, c3, d2⟩ := (RL24.out.kept HKr.out).atP hk2
                  have hst := part_step T1 T2 k hk1 hk2
                  obtain ⟨t1, ht1⟩ : ∃ t, t = T1[k] := ⟨_, rfl⟩
                  obtain ⟨t2, ht2⟩ : ∃ t, t = T2[k] := ⟨_, rfl⟩
                  rw [← ht1] at c1 d1 hst
                  rw [← ht2] at c3 d2 hst
                  have C2 := hid (And.intro c1 c3)
                  have D2 := hid (And.intro d1 d2)
                  have HST := hid hst
                  clear hk1 hk2 ht1 ht2 hst c1 c3 d1 d2
                  have se := str_eq t1 t2
                  obtain ⟨bq, hbq⟩ : ∃ b, b = (t1 == t2) := ⟨_, rfl⟩
                  rw [← hbq] at se
                  have SE := hid se
                  have HBQ := hid hbq
                  clear se hbq
                  cases bq with
                  | true =>
                    have hn : partB T1 T2 = partB (T1.drop (k + 1)) (T2.drop (k + 1)) := by
                      rw [HPR.out, HST.out, if_pos (by have := HBQ.out; exact eq_of_beq this.symm)]
                    have HN := hid hn
                    have wk : IntKind.i64.wrap ((k : Int) + 1) = (k : Int) + 1 := by rw [IntKind.wrap_i64]; omega
                    clear hn
                    go_wp2_with (first | go_skip | fail)
                    have hs : Steady [] := Go.Pm.Steady.nil
                    refine wp_region_kn wr _ hs (Kept.refl _ _) (by kernel_rfl) (by kernel_rfl) (by kernel_rfl) ?_
                    iterate 4 (refine wpPar_pure rfl (by rfl) _ (fun W hW => by
                        have c1 := (hW.cell (block_lt_of_cell C2.out.1) (fun h => h)).trans C2.out.1
                        have c2 := (hW.cell (block_lt_of_cell C2.out.2) (fun h => h)).trans C2.out.2
                        go_simp
                        exact rfl) ?_; simp only [Act.put, List.setIfInBounds_toArray, List.set_cons_zero, List.set_cons_succ])
                    refine wpPar_pure rfl (by rfl) (.string ⟨t1.toArray⟩) (fun W hW => by have hcv := cvBytes (D2.out.1.kept hW).all; go_simp) ?_; simp only [Act.put, List.setIfInBounds_toArray, List.set_cons_zero, List.set_cons_succ]
                    iterate 4 (refine wpPar_pure rfl (by rfl) _ (fun W hW => by
                        have c1 := (hW.cell (block_lt_of_cell C2.out.1) (fun h => h)).trans C2.out.1
                        have c2 := (hW.cell (block_lt_of_cell C2.out.2) (fun h => h)).trans C2.out.2
                        go_simp
                        exact rfl) ?_; simp only [Act.put, List.setIfInBounds_toArray, List.set_cons_zero, List.set_cons_succ])
                    refine wpPar_pure rfl (by rfl) (.string ⟨t2.toArray⟩) (fun W hW => by have hcv := cvBytes (D2.out.2.kept hW).all; go_simp) ?_; simp only [Act.put, List.setIfInBounds_toArray, List.set_cons_zero, List.set_cons_succ]
                    refine wpPar_pure rfl (by rfl) (.bool false) (fun W hW => by go_simp; exact eq_of_beq HBQ.out.symm) ?_; simp only [Act.put, List.setIfInBounds_toArray, List.set_cons_zero, List.set_cons_succ]
                    refine wpPar_nil (fun W hW hG => ?_)
                    have KW := hid (HKr.out.trans hW)
                    clear hG hs hW HKr C2 D2
                    go_wp2
                    go_roundg (m1 - (k + 1))
                    case measure => omega
                    case rel => exact ⟨k + 1, by go_num, by omega, Nat.le_refl _, HN, KW⟩
                  | false =>
                    have hn : clashP i p q = some (t1, t2) := by
                      rw [show clashP i p q = partB T1 T2 from HRT.out, HPR.out, HST.out, if_neg (fun h => by have := HBQ.out; rw [h] at this; simp at this)]
                    have NN := hid (clash_some hn)
                    clear hn
                    go_wp2_with (first | go_skip | fail)
                    have hs : Steady [] := Go.Pm.Steady.nil
                    refine wp_region_kn wr _ hs (Kept.refl _ _) (by kernel_rfl) (by kernel_rfl) (by kernel_rfl) ?_
                    iterate 4 (refine wpPar_pure rfl (by rfl) _ (fun W hW => by
                        have c1 := (hW.cell (block_lt_of_cell C2.out.1) (fun h => h)).trans C2.out.1
                        have c2 := (hW.cell (block_lt_of_cell C2.out.2) (fun h => h)).trans C2.out.2
                        go_simp
                        exact rfl) ?_; simp only [Act.put, List.setIfInBounds_toArray, List.set_cons_zero, List.set_cons_succ])
                    refine wpPar_pure rfl (by rfl) (.string ⟨t1.toArray⟩) (fun W hW => by have hcv := cvBytes (D2.out.1.kept hW).all; go_simp) ?_; simp only [Act.put, List.setIfInBounds_toArray, List.set_cons_zero, List.set_cons_succ]
                    iterate 4 (refine wpPar_pure rfl (by rfl) _ (fun W hW => by
                        have c1 := (hW.cell (block_lt_of_cell C2.out.1) (fun h => h)).trans C2.out.1
                        have c2 := (hW.cell (block_lt_of_cell C2.out.2) (fun h => h)).trans C2.out.2
                        go_simp
                        exact rfl) ?_; simp only [Act.put, List.setIfInBounds_toArray, List.set_cons_zero, List.set_cons_succ])
                    refine wpPar_pure rfl (by rfl) (.string ⟨t2.toArray⟩) (fun W hW => by have hcv := cvBytes (D2.out.2.kept hW).all; go_simp) ?_; simp only [Act.put, List.setIfInBounds_toArray, List.set_cons_zero, List.set_cons_succ]
                    refine wpPar_pure rfl (by rfl) (.bool true) (fun W hW => by go_simp; intro h; have h1 := HBQ.out; rw [h] at h1; simp at h1) ?_; simp only [Act.put, List.setIfInBounds_toArray, List.set_cons_zero, List.set_cons_succ]
                    refine wpPar_nil (fun W hW hG => ?_)
                    have KW := hid (HKr.out.trans hW)
                    have D3 := hid (And.intro (D2.out.1.kept hW) (D2.out.2.kept hW))
                    have C3 := hid (And.intro ((hW.cell (block_lt_of_cell C2.out.1) (fun h => h)).trans C2.out.1) ((hW.cell (block_lt_of_cell C2.out.2) (fun h => h)).trans C2.out.2))
                    clear hG hs hW HKr C2 D2
                    go_wp2_with fail
                    have hs : Steady [] := Go.Pm.Steady.nil
                    refine wp_region_kn W _ hs (Kept.refl _ _) (by kernel_rfl) (by kernel_rfl) (by kernel_rfl) ?_
                    iterate 11 (refine wpPar_pure rfl (by rfl) _ (fun W2 hW => by
                        have c1 := (hW.cell (block_lt_of_cell C3.out.1) (fun h => h)).trans C3.out.1
                        have c2 := (hW.cell (block_lt_of_cell C3.out.2) (fun h => h)).trans C3.out.2
                        go_simp
                        exact rfl) ?_; simp only [Act.put, List.setIfInBounds_toArray, List.set_cons_zero, List.set_cons_succ])
                    refine wpPar_nil (fun W2 hW hG => ?_)
                    have KZ := K4.out.trans (KW.out.trans hW)
                    have D4 := D3.out.1.kept hW
                    have D5 := D3.out.2.kept hW
                    clear hG hs hW
                    go_wp2
                    go_ret3
                    exact ⟨.slice x1 t1.length y1, .slice x2 t2.length y2, by rw [NN.out.2.2]; rfl, KZ, by rw [NN.out.1]; exact D4, by rw [NN.out.2.1]; exact D5⟩
                · have hlz : (k : Int) < (m1 : Int) := by omega
                  have hly : ¬ (k : Int) < (m2 : Int) := by omega
                  have KZ := hid (K4.out.trans HKr.out)
                  have hno : clashP i p q = none := by rw [show clashP i p q = partB T1 T2 from HRT.out, HPR.out]; exact part_done _ _ _ (by have := HMM.out; omega)
                  have NN := hid (clash_none hno)
                  clear hno
                  go_wp2_with (first | go_skip | fail)
                  go_ret3
                  exact ⟨.slice none 0 0, .slice none 0 0, by rw [NN.out.2.2]; rfl, KZ.out, by rw [NN.out.1]; exact Rb.nil _ _, by rw [NN.out.2.1]; exact Rb.nil _ _⟩
              · have hlz : ¬ (k : Int) < (m1 : Int) := by omega
                have KZ := hid (K4.out.trans HKr.out)
                have hno : clashP i p q = none := by rw [show clashP i p q = partB T1 T2 from HRT.out, HPR.out]; exact part_done _ _ _ (by have := HMM.out; omega)
                have NN := hid (clash_none hno)
                clear hno
                go_wp2_with (first | go_skip | fail)
                go_ret3
                exact ⟨.slice none 0 0, .slice none 0 0, by rw [NN.out.2.2]; rfl, KZ.out, by rw [NN.out.1]; exact Rb.nil _ _, by rw [NN.out.2.1]; exact Rb.nil _ _⟩
        · have hey : (q.e == 0) = false := by simpa using hq0
          have HPP := hid (same_nn hp0 hq0)
          have hno : clashP i p q = none := by rw [HD.out, HPP.out]; simp
          have NN := hid (clash_none hno)
          clear hno
          go_wp2_with (first | go_skip | (refine wpList_load_bw (by kernel_rfl) rfl rfl bI2 aI ?_) | (refine wpList_load_wr (by kernel_rfl) rfl rfl rv1 aV1 ?_) | (refine wpList_load_wr (by kernel_rfl) rfl rfl rv2 aV2 ?_) | fail)
          go_ret3
          exact ⟨.slice none 0 0, .slice none 0 0, by rw [NN.out.2.2]; rfl, k02, by rw [NN.out.1]; exact Rb.nil _ _, by rw [NN.out.2.1]; exact Rb.nil _ _⟩
end RPr
end Go.Proofs.Ytidegffdhpdhjaa

namespace Go.Pm
open Go Go.RowKit
/-- A proof that is another one in a place. -/
def bentP (p : Pf) (what at_ : Nat) (h : List UInt8) : Pf :=
  match what % 7 with
  | 0 => ⟨p.path ++ [h], p.e, p.x⟩
  | 1 => if 0 < p.path.length then ⟨p.path.set (at_ % p.path.length) h, p.e, p.x⟩ else p
  | 2 => if 0 < p.path.length then ⟨p.path.take (at_ % p.path.length), p.e, p.x⟩ else p
  | 3 => ⟨p.path, ((at_ % 5 : Nat) : Int) - 1, p.x⟩
  | 4 => ⟨p.path, p.e, ⟨h, p.x.v⟩⟩
  | 5 => ⟨p.path, p.e, ⟨p.x.i, h⟩⟩
  | _ => ⟨p.path, 0, zeroIt⟩
theorem Hs.cut7 {w : World} {lo hi : Nat} {a : Option Addr} {n cap : Nat} {hs : List (List UInt8)} (h : Hs w lo hi (.slice a n cap) hs) (l m : Nat) (hl : l ≤ m) (hm : m ≤ n) :
    Hs w lo hi (.slice (if cap = l then a else a.map (·.add (l * 32))) (m - l) (cap - l)) ((hs.take m).drop l) := by
  refine ⟨fun x hx => h.1 x (List.mem_of_mem_take (List.mem_of_mem_drop hx)), ?_⟩
  have h2 := Ps.sliced h.2 l m hl hm
  rwa [show hsC ((hs.take m).drop l) = ((hsC hs).take m).drop l by rw [hsC, hsC, List.map_drop, List.map_take]]
end Go.Pm
namespace Go.Proofs.Ytidegffdhpdhjaa
open Go.RowKit Go.Pm
namespace Pr
set_option maxRecDepth 100000 in
set_option maxHeartbeats 16000000 in
theorem bent (p : Pf) (A : Array Value) (what at_ : Nat) (h : List UInt8) (w : World) (hp : PV p w A) (hn : p.path.length ≤ 1000) (hw : what < 256) (ha : at_ < 256) (hh : h.length = 32) :
    Calls Try.prog 29 #[.agg A, .int .u8 what, .int .u8 at_, hashV h] w fun e w' => ∃ A', e = .returned (.agg A') ∧ Kept None w w' ∧ PV (bentP p what at_ h) w' A' := by
  have hpA := PV.agg hp
  have hpS := hp.size
  obtain ⟨hok, u, hA, hu⟩ := hp
  obtain ⟨a, c, rfl⟩ := hu.form
  obtain ⟨n, hnn⟩ : ∃ n, n = p.path.length := ⟨_, rfl⟩
  rw [← hnn] at hA hu
  have hallA : A.all (·.oneCell') = true := by rw [hA]; exact pfC_one hu
  obtain ⟨HA, hHA⟩ : ∃ A : Array Value, A = (h.map u8v).toArray := ⟨_, rfl⟩
  have aHA : AggTy Try.prog 23 HA.size := by rw [hHA]; exact Hk.aH32 hh
  have sHA : HA.size = 32 := by rw [hHA]; simpa using hh
  show Calls Try.prog 29 #[.agg A, .int .u8 what, .int .u8 at_, .agg (h.map u8v).toArray] w _
  rw [← hHA]
  have k0 : Kept None w (((w.alloc (.cells A 63)).alloc (.cells HA 23)).alloc (.cells Try.zeroCells63 63)) := (((Kept.refl _ _).alloc _).alloc _).alloc _
  have bA : Blk (((w.alloc (.cells A 63)).alloc (.cells HA 23)).alloc (.cells Try.zeroCells63 63)) w.heap.size A 63 := ((Blk.new w _ _).alloc _).alloc _
  have bH : Blk (((w.alloc (.cells A 63)).alloc (.cells HA 23)).alloc (.cells Try.zeroCells63 63)) (w.heap.size + 1) HA 23 := (Blk.new2 w _ _ _).alloc _
  obtain ⟨z, hz, hZ⟩ := Blk.any (n := 66) (Blk.new3 w (.cells A 63) (.cells HA 23) Try.zeroCells63 63) (by rfl)
  have hu0 := hu.kept k0
  obtain ⟨hiu, hPs⟩ : ∃ hi, Ps 32 (((w.alloc (.cells A 63)).alloc (.cells HA 23)).alloc (.cells Try.zeroCells63 63)) 0 hi (.slice a n c) (hsC p.path) := by obtain ⟨hi, h1, h2⟩ := hu0; exact ⟨hi, h2⟩
  have hP0 : Blk (((w.alloc (.cells A 63)).alloc (.cells HA 23)).alloc (.cells Try.zeroCells63 63)) w.heap.size (pfC (.slice a n c) p).toArray 63 := by rw [← hA]; exact bA
  have c0 := pf_c0 hP0
  obtain ⟨t7, ht7⟩ : ∃ t, t = what % 7 := ⟨_, rfl⟩
  have m7 : (what : Int).tmod 7 = (t7 : Int) := by rw [ht7]; rfl
  have l7 : t7 < 7 := by rw [ht7]; exact Nat.mod_lt _ (by decide)
  have HL7 := hid (And.intro l7 ht7)
  have HZS := hid hz
  have HPSv := hid hPs
  have HHA := hid (And.intro sHA (And.intro hHA hh))
  have HNN := hid (And.intro hnn hn)
  have HPO := hid (And.intro hP0 (And.intro hok (And.intro hw ha)))
  have hs3 : (((w.alloc (.cells A 63)).alloc (.cells HA 23)).alloc (.cells Try.zeroCells63 63)).heap.size = w.heap.size + 3 := by simp
  have HS3 := hid hs3
  have K0 := hid k0
  have BH := hid bH
  have BZ := hid hZ
  clear hu hu0 hA hallA hHA sHA bA hP0 ht7 l7 hz hPs hnn hn hok hw ha hh hs3 hpS hpA k0 bH hZ
  go_enter Try.func29, Try.ntmps29
  go_upto_region 2 with (first | (at_builtin; refine wpList_append_po rfl _ _ 59 rfl Hk.rtHashes (by decide) rfl rfl (Po.nil 32 23 _ _) HPSv.out (hsC_one _) (by rw [hsC_len]; have := HNN.out; simp; omega) (Nat.le_refl _) ?_; intro a9 n9 c9 w9 p9 k9 o9; have hk9 := k9.mono (T := None) (fun q _ h => by cases h); have hP9 := HPO.out.1.kept hk9 (fun h => h); have c09 := pf_c0 hP9; have f09 := hP9.free 0) | fail)
  have h32 : H32 p.path := HPO.out.2.1.1
  have hO9 : Ho 23 w9 (((w.alloc (.cells A 63)).alloc (.cells HA 23)).alloc (.cells Try.zeroCells63 63)).heap.size (.slice a9 n9 c9) p.path := ⟨h32, p9⟩
  have hn9 : n9 = n := by
    obtain ⟨_, _, h⟩ := hO9.form
    injection h with _ h
    rw [h, HNN.out.1]
  subst hn9
  rw [HS3.out] at hO9
  have kk := Kept.one w9 w.heap.size 0 (.slice a9 n9 c9)
  have hset : Blk (w9.setCell ⟨w.heap.size, 0, none⟩ (.slice a9 n9 c9)) w.heap.size (pfC (.slice a9 n9 c9) p).toArray 63 := by
    have h := hP9.set 0 (.slice a9 n9 c9)
    simpa [pfC] using h
  have hO2 := hO9.kept kk (fun q hq h => by have h : q = w.heap.size := h; have := (hO9.2.own q hq).1; omega)
  have bH2 := (BH.out.kept hk9 (fun h => h)).kept kk (fun h => by have h : w.heap.size + 1 = w.heap.size := h; omega)
  have bZ2 := (BZ.out.kept hk9 (fun h => h)).kept kk (fun h => by have h : w.heap.size + 1 + 1 = w.heap.size := h; omega)
  have k2 := (K0.out.trans hk9).then kk (fun j hj h => by have h : j = w.heap.size := h; omega)
  have hsz2 : w.heap.size + 3 ≤ (w9.setCell ⟨w.heap.size, 0, none⟩ (.slice a9 n9 c9)).heap.size := by
    have h1 := hk9.size
    have h2 := kk.size
    rw [HS3.out] at h1
    omega
  have BH2 := hid bH2
  have BP := hid hset
  have HO := hid hO2
  have K2 := hid k2
  have HQ := hid hsz2
  have HZ2 := hid bZ2
  obtain ⟨w2, hw2⟩ : ∃ x, x = w9.setCell ⟨w.heap.size, 0, none⟩ (.slice a9 n9 c9) := ⟨_, rfl⟩
  rw [← hw2] at BH2 BP HO K2 HQ HZ2 ⊢
  clear h32 hO9 kk hset hO2 bH2 bZ2 k2 hsz2 hw2 hk9 hP9 c09 f09 k9 o9 p9 K0 BH BZ HPSv HS3 c0
  have hl7 := HL7.out.1
  have hcs : t7 = 0 ∨ t7 = 1 ∨ t7 = 2 ∨ t7 = 3 ∨ t7 = 4 ∨ t7 = 5 ∨ t7 = 6 := by omega
  clear hl7
  rcases hcs with rfl | rfl | rfl | rfl | rfl | rfl | rfl
  · have HBT : Hid (bentP p what at_ h = ⟨p.path ++ [h], p.e, p.x⟩) := hid (by unfold bentP; rw [← HL7.out.2]; rfl)
    have ka : Kept None w2 (w2.alloc (.cells HA 23)) := (Kept.refl _ _).alloc _
    have HO10 := hid (HO.out.kept ka (fun _ _ h => h))
    have hrow := Blk.new w2 HA 23
    rw [HHA.out.2.1] at hrow
    have HU10 := hid (Hs.ofBlk hrow HHA.out.2.2)
    rw [← HHA.out.2.1] at HU10
    have HP10 := hid (BP.out.kept ka (fun h => h))
    have HZ10 := hid (HZ2.out.kept ka (fun h => h))
    have KA := hid (K2.out.trans ka)
    have HSA := hid ka.size
    have c10 := pf_c0 BP.out
    have HOW : Hid (∀ q, (Value.slice a9 n9 c9).ownBlock = some q → w.heap.size + 3 ≤ q) := hid (fun q hq => (HO.out.2.own q hq).1)
    clear ka hrow
    go_upto_region 18 with (first | (refine wpList_load_blk rfl _ _ rfl rfl BH2.out aHA ?_) | (refine wpList_one_item rfl _ _ rfl Hk.rtHashes (by decide) rfl HHA.out.1 ?_) | (at_builtin; refine wpList_append_po rfl _ _ 59 rfl Hk.rtHashes (by decide) rfl rfl HO10.out.2 HU10.out.2 (hsC_one _) (by rw [hsC_len, hsC_len]; have := HNN.out; simp; omega) (by have := HQ.out; have := HSA.out; omega) ?_; intro a11 n11 c11 w11 p11 k11 o11; have hP11 := HP10.out.kept k11 (fun h => by have := HOW.out _ h; omega); have c11' := pf_c0 hP11; have f11' := hP11.free 0) | fail)
    have hO11 : Ho 23 w11 (w.heap.size + 3) (.slice a11 n11 c11) (p.path ++ [h]) := ⟨HO10.out.1.append (H32.one HHA.out.2.2), by rw [hsC_append]; exact p11⟩
    have kk := Kept.one w11 w.heap.size 0 (.slice a11 n11 c11)
    have HBF : Hid (Blk (w11.setCell ⟨w.heap.size, 0, none⟩ (.slice a11 n11 c11)) w.heap.size (pfC (.slice a11 n11 c11) ⟨p.path ++ [h], p.e, p.x⟩).toArray 63) := hid (by
      have h := hP11.set 0 (.slice a11 n11 c11)
      simpa [pfC] using h)
    have HZF := hid ((HZ10.out.kept k11 (fun h => by have := HOW.out _ h; omega)).kept kk (fun h => by have h : w.heap.size + 1 + 1 = w.heap.size := h; omega))
    have KF := hid ((KA.out.then k11 (fun j hj h => by have := HOW.out _ h; omega)).then kk (fun j hj h => by have h : j = w.heap.size := h; omega))
    have HRF := hid ((hO11.kept kk (fun q hq h => by have h : q = w.heap.size := h; have := (hO11.2.own q hq).1; omega)).rh)
    have HOK : Hid (Pf.Ok ⟨p.path ++ [h], p.e, p.x⟩) := hid ⟨hO11.1, HPO.out.2.1.2⟩
    clear hO11 kk hP11 c11' f11' k11 o11 p11
    have hokF : Pf.Ok ⟨p.path ++ [h], p.e, p.x⟩ := HOK.out
    have aPF := aP (s := (.slice a11 n11 c11)) hokF
    have hallF : (pfC (.slice a11 n11 c11) ⟨p.path ++ [h], p.e, p.x⟩).toArray.all (·.oneCell') = true := pfC_one (p := ⟨p.path ++ [h], p.e, p.x⟩) HRF.out
    have HAF := hid hallF
    have EF := hid (HZS.out.trans (show 66 = (pfC (.slice a11 n11 c11) ⟨p.path ++ [h], p.e, p.x⟩).toArray.size by simpa using (pfC_len (.slice a11 n11 c11) hokF).symm))
    have hBF := HBF.out
    have hZF := HZF.out
    clear hallF
    go_wp2_with (first | (refine wpList_load_blk rfl _ _ rfl rfl hBF aPF ?_) | (refine wpList_store_blk rfl _ _ _ rfl rfl rfl hZF aPF EF.out HAF.out ?_; intro w9 hR9 k9) | fail)
    exact bodyPost_ret (v := .agg (pfC (.slice a11 n11 c11) ⟨p.path ++ [h], p.e, p.x⟩).toArray) (results_blk rfl _ rfl hR9 aPF) rfl ⟨_, rfl, KF.out.then k9 (fun j hj h => by have h : j = w.heap.size + 1 + 1 := h; omega), by rw [HBT.out]; exact ⟨HOK.out, _, rfl, (HRF.out.keptS k9 (fun q h1 h => by have h : q = w.heap.size + 1 + 1 := h; omega)).mono (Nat.zero_le _)⟩⟩
  · skip
    by_cases h0 : n9 = 0
    · have HBT : Hid (bentP p what at_ h = p) := hid (by unfold bentP; rw [← HL7.out.2]; show (if 0 < p.path.length then _ else p) = p; rw [if_neg (by have := HNN.out.1; omega)])
      have c0 := pf_c0 BP.out
      have HBF := BP
      have HZF := HZ2
      have KF := K2
      have HRF := hid (HO.out.rh)
      have HOK : Hid p.Ok := hid HPO.out.2.1
      subst h0
      go_upto_region 18 with (fail)
      have hokF : Pf.Ok p := HOK.out
      have aPF := aP (s := (.slice a9 0 c9)) hokF
      have hallF : (pfC (.slice a9 0 c9) p).toArray.all (·.oneCell') = true := pfC_one (p := p) HRF.out
      have HAF := hid hallF
      have EF := hid (HZS.out.trans (show 66 = (pfC (.slice a9 0 c9) p).toArray.size by simpa using (pfC_len (.slice a9 0 c9) hokF).symm))
      have hBF := HBF.out
      have hZF := HZF.out
      clear hallF
      go_wp2_with (first | (refine wpList_load_blk rfl _ _ rfl rfl hBF aPF ?_) | (refine wpList_store_blk rfl _ _ _ rfl rfl rfl hZF aPF EF.out HAF.out ?_; intro w9 hR9 k9) | fail)
      exact bodyPost_ret (v := .agg (pfC (.slice a9 0 c9) p).toArray) (results_blk rfl _ rfl hR9 aPF) rfl ⟨_, rfl, KF.out.then k9 (fun j hj h => by have h : j = w.heap.size + 1 + 1 := h; omega), by rw [HBT.out]; exact ⟨HOK.out, _, rfl, (HRF.out.keptS k9 (fun q h1 h => by have h : q = w.heap.size + 1 + 1 := h; omega)).mono (Nat.zero_le _)⟩⟩
    · obtain ⟨gb, hgb⟩ : ∃ g, a9 = some ⟨g, 0, none⟩ := by
        rcases HO.out.2.2.2 with ⟨_, h1⟩ | ⟨g, _, _, h1, _⟩
        · rw [hsC_len] at h1
          exact absurd (HNN.out.1.trans h1) h0
        · injection h1 with h1
          exact ⟨g, h1⟩
      subst hgb
      obtain ⟨ix, hix⟩ : ∃ x : Nat, x = at_ % n9 := ⟨_, rfl⟩
      have mi : (at_ : Int) % (n9 : Int) = (ix : Int) := by rw [hix]; rfl
      have mit : (at_ : Int).tmod (n9 : Int) = (ix : Int) := by rw [hix]; rfl
      have lix : ix < n9 := by rw [hix]; exact Nat.mod_lt _ (by omega)
      have wq : IntKind.i64.wrap (at_ : Int) = (at_ : Int) := by rw [IntKind.wrap_i64]; have := HPO.out.2.2.2; omega
      have lixz : (ix : Int) < (n9 : Int) := by omega
      have h0p : (0 : Int) < (n9 : Int) := by omega
      have h0n : 0 < n9 := by omega
      have HIX := hid (And.intro lix hix)
      have hpos : 0 < p.path.length := by have := HNN.out.1; omega
      have HBT : Hid (bentP p what at_ h = ⟨p.path.set ix h, p.e, p.x⟩) := hid (by unfold bentP; rw [← HL7.out.2]; show (if 0 < p.path.length then _ else p) = _; rw [if_pos hpos, HIX.out.2, HNN.out.1])
      have c0 := pf_c0 BP.out
      clear hix lix hpos
      go_wp2_with fail
      have hs : Steady [] := Go.Pm.Steady.nil
      refine wp_region_kn_tail 10 w2 _ hs (Kept.refl _ _) (by kernel_rfl) (by kernel_rfl) (by kernel_rfl) ?_
      simp only [List.take_succ_cons, List.take_zero, List.drop_succ_cons, List.drop_zero]
      iterate 1 (refine wpPar_pure rfl (by rfl) _ (fun W hW => by
          have c0 := pf_c0 (BP.out.kept hW (fun h => h))
          go_simp
          exact rfl) ?_; simp only [Act.put, List.setIfInBounds_toArray, List.set_cons_zero, List.set_cons_succ])
      refine wpPar_pure rfl (by rfl) _ (fun W hW => by first | exact exec_load_blk _ _ rfl rfl (BH2.out.kept hW (fun h => h)) aHA | (have c0 := pf_c0 (BP.out.kept hW (fun h => h)); go_simp; exact rfl)) ?_; simp only [Act.put, List.setIfInBounds_toArray, List.set_cons_zero, List.set_cons_succ]
      iterate 3 (refine wpPar_pure rfl (by rfl) _ (fun W hW => by
          have c0 := pf_c0 (BP.out.kept hW (fun h => h))
          go_simp
          exact rfl) ?_; simp only [Act.put, List.setIfInBounds_toArray, List.set_cons_zero, List.set_cons_succ])
      refine wpPar_pure rfl (by rfl) _ (fun W hW => by first | exact exec_load_blk _ _ rfl rfl (BH2.out.kept hW (fun h => h)) aHA | (have c0 := pf_c0 (BP.out.kept hW (fun h => h)); go_simp; exact rfl)) ?_; simp only [Act.put, List.setIfInBounds_toArray, List.set_cons_zero, List.set_cons_succ]
      iterate 2 (refine wpPar_pure rfl (by rfl) _ (fun W hW => by
          have c0 := pf_c0 (BP.out.kept hW (fun h => h))
          go_simp
          exact rfl) ?_; simp only [Act.put, List.setIfInBounds_toArray, List.set_cons_zero, List.set_cons_succ])
      refine wpPar_pure rfl (by rfl) _ (fun W hW => by first | exact exec_load_blk _ _ rfl rfl (BH2.out.kept hW (fun h => h)) aHA | (have c0 := pf_c0 (BP.out.kept hW (fun h => h)); go_simp; exact rfl)) ?_; simp only [Act.put, List.setIfInBounds_toArray, List.set_cons_zero, List.set_cons_succ]
      iterate 1 (refine wpPar_pure rfl (by rfl) _ (fun W hW => by
          have c0 := pf_c0 (BP.out.kept hW (fun h => h))
          go_simp
          exact rfl) ?_; simp only [Act.put, List.setIfInBounds_toArray, List.set_cons_zero, List.set_cons_succ])
      refine wpPar_nil (fun W hW hG => ?_)
      have HOW := hid (HO.out.kept hW (fun _ _ h => h))
      have KW := hid (K2.out.trans hW)
      have BPW := hid (BP.out.kept hW (fun h => h))
      have HZW := hid (HZ2.out.kept hW (fun h => h))
      clear hG hs hW
      refine wpList_store_hash rfl _ _ _ rfl HOW.out (by rw [← HNN.out.1]; exact HIX.out.1) HHA.out.2.2 rfl (by rw [← HHA.out.2.1]; rfl) Sp.aH ?_
      intro w11 p11 k11
      have HGB : Hid (w.heap.size + 3 ≤ gb) := hid ((HO.out.2.own gb rfl).1)
      have HBF := hid (BPW.out.kept k11 (fun h => by have h : w.heap.size = gb := h; have := HGB.out; omega))
      have HZF := hid (HZW.out.kept k11 (fun h => by have h : w.heap.size + 1 + 1 = gb := h; have := HGB.out; omega))
      have KF := hid (KW.out.then k11 (fun j hj h => by have h : j = gb := h; have := HGB.out; omega))
      have HRF := hid p11.rh
      have HOK : Hid (Pf.Ok ⟨p.path.set ix h, p.e, p.x⟩) := hid ⟨p11.1, HPO.out.2.1.2⟩
      have HBF : Hid (Blk w11 w.heap.size (pfC (.slice (some ⟨gb, 0, none⟩) n9 c9) ⟨p.path.set ix h, p.e, p.x⟩).toArray 63) := hid HBF.out
      clear p11 k11
      go_upto_region 18 with (fail)
      have hokF : Pf.Ok ⟨p.path.set ix h, p.e, p.x⟩ := HOK.out
      have aPF := aP (s := (.slice (some ⟨gb, 0, none⟩) n9 c9)) hokF
      have hallF : (pfC (.slice (some ⟨gb, 0, none⟩) n9 c9) ⟨p.path.set ix h, p.e, p.x⟩).toArray.all (·.oneCell') = true := pfC_one (p := ⟨p.path.set ix h, p.e, p.x⟩) HRF.out
      have HAF := hid hallF
      have EF := hid (HZS.out.trans (show 66 = (pfC (.slice (some ⟨gb, 0, none⟩) n9 c9) ⟨p.path.set ix h, p.e, p.x⟩).toArray.size by simpa using (pfC_len (.slice (some ⟨gb, 0, none⟩) n9 c9) hokF).symm))
      have hBF := HBF.out
      have hZF := HZF.out
      clear hallF
      go_wp2_with (first | (refine wpList_load_blk rfl _ _ rfl rfl hBF aPF ?_) | (refine wpList_store_blk rfl _ _ _ rfl rfl rfl hZF aPF EF.out HAF.out ?_; intro w9 hR9 k9) | fail)
      exact bodyPost_ret (v := .agg (pfC (.slice (some ⟨gb, 0, none⟩) n9 c9) ⟨p.path.set ix h, p.e, p.x⟩).toArray) (results_blk rfl _ rfl hR9 aPF) rfl ⟨_, rfl, KF.out.then k9 (fun j hj h => by have h : j = w.heap.size + 1 + 1 := h; omega), by rw [HBT.out]; exact ⟨HOK.out, _, rfl, (HRF.out.keptS k9 (fun q h1 h => by have h : q = w.heap.size + 1 + 1 := h; omega)).mono (Nat.zero_le _)⟩⟩
  · skip
    by_cases h0 : n9 = 0
    · have HBT : Hid (bentP p what at_ h = p) := hid (by unfold bentP; rw [← HL7.out.2]; show (if 0 < p.path.length then _ else p) = p; rw [if_neg (by have := HNN.out.1; omega)])
      have c0 := pf_c0 BP.out
      have HBF := BP
      have HZF := HZ2
      have KF := K2
      have HRF := hid (HO.out.rh)
      have HOK : Hid p.Ok := hid HPO.out.2.1
      subst h0
      go_upto_region 18 with (fail)
      have hokF : Pf.Ok p := HOK.out
      have aPF := aP (s := (.slice a9 0 c9)) hokF
      have hallF : (pfC (.slice a9 0 c9) p).toArray.all (·.oneCell') = true := pfC_one (p := p) HRF.out
      have HAF := hid hallF
      have EF := hid (HZS.out.trans (show 66 = (pfC (.slice a9 0 c9) p).toArray.size by simpa using (pfC_len (.slice a9 0 c9) hokF).symm))
      have hBF := HBF.out
      have hZF := HZF.out
      clear hallF
      go_wp2_with (first | (refine wpList_load_blk rfl _ _ rfl rfl hBF aPF ?_) | (refine wpList_store_blk rfl _ _ _ rfl rfl rfl hZF aPF EF.out HAF.out ?_; intro w9 hR9 k9) | fail)
      exact bodyPost_ret (v := .agg (pfC (.slice a9 0 c9) p).toArray) (results_blk rfl _ rfl hR9 aPF) rfl ⟨_, rfl, KF.out.then k9 (fun j hj h => by have h : j = w.heap.size + 1 + 1 := h; omega), by rw [HBT.out]; exact ⟨HOK.out, _, rfl, (HRF.out.keptS k9 (fun q h1 h => by have h : q = w.heap.size + 1 + 1 := h; omega)).mono (Nat.zero_le _)⟩⟩
    · obtain ⟨gb, hgb⟩ : ∃ g, a9 = some ⟨g, 0, none⟩ := by
        rcases HO.out.2.2.2 with ⟨_, h1⟩ | ⟨g, _, _, h1, _⟩
        · rw [hsC_len] at h1
          exact absurd (HNN.out.1.trans h1) h0
        · injection h1 with h1
          exact ⟨g, h1⟩
      subst hgb
      obtain ⟨ix, hix⟩ : ∃ x : Nat, x = at_ % n9 := ⟨_, rfl⟩
      have mi : (at_ : Int) % (n9 : Int) = (ix : Int) := by rw [hix]; rfl
      have mit : (at_ : Int).tmod (n9 : Int) = (ix : Int) := by rw [hix]; rfl
      have lix : ix < n9 := by rw [hix]; exact Nat.mod_lt _ (by omega)
      have wq : IntKind.i64.wrap (at_ : Int) = (at_ : Int) := by rw [IntKind.wrap_i64]; have := HPO.out.2.2.2; omega
      have lixz : (ix : Int) < (n9 : Int) := by omega
      have h0p : (0 : Int) < (n9 : Int) := by omega
      have h0n : 0 < n9 := by omega
      have HIX := hid (And.intro lix hix)
      have hpos : 0 < p.path.length := by have := HNN.out.1; omega
      have HBT : Hid (bentP p what at_ h = ⟨p.path.take ix, p.e, p.x⟩) := hid (by unfold bentP; rw [← HL7.out.2]; show (if 0 < p.path.length then _ else p) = _; rw [if_pos hpos, HIX.out.2, HNN.out.1])
      have c0 := pf_c0 BP.out
      have hnc : n9 ≤ c9 := by
        obtain ⟨_, h⟩ := HO.out.rh
        obtain ⟨_, _, h1, h2, _⟩ := h.form
        injection h1 with _ h3 h4
        omega
      have hic : (ix : Int) ≤ (c9 : Int) := by omega
      clear hix lix hpos
      go_wp2_with fail
      have hs : Steady [] := Go.Pm.Steady.nil
      refine wp_region_kn_tail 10 w2 _ hs (Kept.refl _ _) (by kernel_rfl) (by kernel_rfl) (by kernel_rfl) ?_
      simp only [List.take_succ_cons, List.take_zero, List.drop_succ_cons, List.drop_zero]
      iterate 1 (refine wpPar_pure rfl (by rfl) _ (fun W hW => by
          have c0 := pf_c0 (BP.out.kept hW (fun h => h))
          go_simp
          exact rfl) ?_; simp only [Act.put, List.setIfInBounds_toArray, List.set_cons_zero, List.set_cons_succ])
      refine wpPar_pure rfl (by rfl) _ (fun W hW => by first | exact exec_load_blk _ _ rfl rfl (BH2.out.kept hW (fun h => h)) aHA | (have c0 := pf_c0 (BP.out.kept hW (fun h => h)); go_simp; exact rfl)) ?_; simp only [Act.put, List.setIfInBounds_toArray, List.set_cons_zero, List.set_cons_succ]
      iterate 3 (refine wpPar_pure rfl (by rfl) _ (fun W hW => by
          have c0 := pf_c0 (BP.out.kept hW (fun h => h))
          go_simp
          exact rfl) ?_; simp only [Act.put, List.setIfInBounds_toArray, List.set_cons_zero, List.set_cons_succ])
      refine wpPar_pure rfl (by rfl) _ (fun W hW => by first | exact exec_load_blk _ _ rfl rfl (BH2.out.kept hW (fun h => h)) aHA | (have c0 := pf_c0 (BP.out.kept hW (fun h => h)); go_simp; exact rfl)) ?_; simp only [Act.put, List.setIfInBounds_toArray, List.set_cons_zero, List.set_cons_succ]
      iterate 4 (refine wpPar_pure rfl (by rfl) _ (fun W hW => by
          have c0 := pf_c0 (BP.out.kept hW (fun h => h))
          go_simp
          exact rfl) ?_; simp only [Act.put, List.setIfInBounds_toArray, List.set_cons_zero, List.set_cons_succ])
      refine wpPar_nil (fun W hW hG => ?_)
      have hPW := BP.out.kept hW (fun h => h)
      have hZW := HZ2.out.kept hW (fun h => h)
      have kW := K2.out.trans hW
      have hOW := HO.out.kept hW (fun _ _ h => h)
      have kk := Kept.one W w.heap.size 0 (.slice (some ⟨gb, 0, none⟩) ix c9)
      have HBF : Hid (Blk (W.setCell ⟨w.heap.size, 0, none⟩ (.slice (some ⟨gb, 0, none⟩) ix c9)) w.heap.size (pfC (.slice (some ⟨gb, 0, none⟩) ix c9) ⟨p.path.take ix, p.e, p.x⟩).toArray 63) := hid (by
        have h := hPW.set 0 (.slice (some ⟨gb, 0, none⟩) ix c9)
        simpa [pfC] using h)
      have HZF := hid (hZW.kept kk (fun h => by have h : w.heap.size + 1 + 1 = w.heap.size := h; omega))
      have KF := hid (kW.then kk (fun j hj h => by have h : j = w.heap.size := h; omega))
      have HRF : Hid (Rh (w.heap.size + 3) (W.setCell ⟨w.heap.size, 0, none⟩ (.slice (some ⟨gb, 0, none⟩) ix c9)) (.slice (some ⟨gb, 0, none⟩) ix c9) (p.path.take ix)) := hid (by
        obtain ⟨h9, hr⟩ := (hOW.kept kk (fun q hq h => by have h : q = w.heap.size := h; have := (hOW.2.own q hq).1; omega)).rh
        have h2 := Hs.cut7 hr 0 ix (Nat.zero_le _) (Nat.le_of_lt HIX.out.1)
        have e : (if c9 = 0 then some (⟨gb, 0, none⟩ : Addr) else some ((⟨gb, 0, none⟩ : Addr).add 0)) = some ⟨gb, 0, none⟩ := by split <;> rfl
        simp only [Option.map_some, Nat.zero_mul, Nat.sub_zero, List.drop_zero] at h2
        rw [e] at h2
        exact ⟨h9, h2⟩)
      have HOK : Hid (Pf.Ok ⟨p.path.take ix, p.e, p.x⟩) := hid ⟨HPO.out.2.1.1.take ix, HPO.out.2.1.2⟩
      have c0 := pf_c0 hPW
      have f0 := hPW.free 0
      clear hG hs hW hPW hZW kW hOW kk
      go_upto_region 18 with (fail)
      have hokF : Pf.Ok ⟨p.path.take ix, p.e, p.x⟩ := HOK.out
      have aPF := aP (s := (.slice (some ⟨gb, 0, none⟩) ix c9)) hokF
      have hallF : (pfC (.slice (some ⟨gb, 0, none⟩) ix c9) ⟨p.path.take ix, p.e, p.x⟩).toArray.all (·.oneCell') = true := pfC_one (p := ⟨p.path.take ix, p.e, p.x⟩) HRF.out
      have HAF := hid hallF
      have EF := hid (HZS.out.trans (show 66 = (pfC (.slice (some ⟨gb, 0, none⟩) ix c9) ⟨p.path.take ix, p.e, p.x⟩).toArray.size by simpa using (pfC_len (.slice (some ⟨gb, 0, none⟩) ix c9) hokF).symm))
      have hBF := HBF.out
      have hZF := HZF.out
      clear hallF
      go_wp2_with (first | (refine wpList_load_blk rfl _ _ rfl rfl hBF aPF ?_) | (refine wpList_store_blk rfl _ _ _ rfl rfl rfl hZF aPF EF.out HAF.out ?_; intro w9 hR9 k9) | fail)
      exact bodyPost_ret (v := .agg (pfC (.slice (some ⟨gb, 0, none⟩) ix c9) ⟨p.path.take ix, p.e, p.x⟩).toArray) (results_blk rfl _ rfl hR9 aPF) rfl ⟨_, rfl, KF.out.then k9 (fun j hj h => by have h : j = w.heap.size + 1 + 1 := h; omega), by rw [HBT.out]; exact ⟨HOK.out, _, rfl, (HRF.out.keptS k9 (fun q h1 h => by have h : q = w.heap.size + 1 + 1 := h; omega)).mono (Nat.zero_le _)⟩⟩
  · obtain ⟨f5, hf5⟩ : ∃ t, t = at_ % 5 := ⟨_, rfl⟩
    have HBT : Hid (bentP p what at_ h = ⟨p.path, (f5 : Int) - 1, p.x⟩) := hid (by unfold bentP; rw [← HL7.out.2, hf5]; rfl)
    have m5 : (at_ : Int).tmod 5 = (f5 : Int) := by rw [hf5]; rfl
    have l5 : f5 < 5 := by rw [hf5]; exact Nat.mod_lt _ (by decide)
    have w5 : wrap64 (f5 : Int) = (f5 : Int) := by unfold wrap64; omega
    have w5s : wrap64 ((f5 : Int) - 1) = (f5 : Int) - 1 := by unfold wrap64; omega
    have c1 := pf_c1 BP.out
    have f1 := BP.out.free 1
    have kk := Kept.one w2 w.heap.size 1 (.int .i64 ((f5 : Int) - 1))
    have HBF : Hid (Blk (w2.setCell ⟨w.heap.size, 1, none⟩ (.int .i64 ((f5 : Int) - 1))) w.heap.size (pfC (.slice a9 n9 c9) ⟨p.path, (f5 : Int) - 1, p.x⟩).toArray 63) := hid (by
      have h := BP.out.set 1 (.int .i64 ((f5 : Int) - 1))
      simpa [pfC] using h)
    have HZF := hid (HZ2.out.kept kk (fun h => by have h : w.heap.size + 1 + 1 = w.heap.size := h; omega))
    have KF := hid (K2.out.then kk (fun j hj h => by have h : j = w.heap.size := h; omega))
    have HRF := hid ((HO.out.kept kk (fun q hq h => by have h : q = w.heap.size := h; have := (HO.out.2.own q hq).1; omega)).rh)
    have HOK : Hid (Pf.Ok ⟨p.path, (f5 : Int) - 1, p.x⟩) := hid ⟨HPO.out.2.1.1, HPO.out.2.1.2⟩
    clear kk hf5 l5
    go_upto_region 18 with (fail)
    have hokF : Pf.Ok ⟨p.path, (f5 : Int) - 1, p.x⟩ := HOK.out
    have aPF := aP (s := (.slice a9 n9 c9)) hokF
    have hallF : (pfC (.slice a9 n9 c9) ⟨p.path, (f5 : Int) - 1, p.x⟩).toArray.all (·.oneCell') = true := pfC_one (p := ⟨p.path, (f5 : Int) - 1, p.x⟩) HRF.out
    have HAF := hid hallF
    have EF := hid (HZS.out.trans (show 66 = (pfC (.slice a9 n9 c9) ⟨p.path, (f5 : Int) - 1, p.x⟩).toArray.size by simpa using (pfC_len (.slice a9 n9 c9) hokF).symm))
    have hBF := HBF.out
    have hZF := HZF.out
    clear hallF
    go_wp2_with (first | (refine wpList_load_blk rfl _ _ rfl rfl hBF aPF ?_) | (refine wpList_store_blk rfl _ _ _ rfl rfl rfl hZF aPF EF.out HAF.out ?_; intro w9 hR9 k9) | fail)
    exact bodyPost_ret (v := .agg (pfC (.slice a9 n9 c9) ⟨p.path, (f5 : Int) - 1, p.x⟩).toArray) (results_blk rfl _ rfl hR9 aPF) rfl ⟨_, rfl, KF.out.then k9 (fun j hj h => by have h : j = w.heap.size + 1 + 1 := h; omega), by rw [HBT.out]; exact ⟨HOK.out, _, rfl, (HRF.out.keptS k9 (fun q h1 h => by have h : q = w.heap.size + 1 + 1 := h; omega)).mono (Nat.zero_le _)⟩⟩
  · have HBT : Hid (bentP p what at_ h = ⟨p.path, p.e, ⟨h, p.x.v⟩⟩) := hid (by unfold bentP; rw [← HL7.out.2]; rfl)
    have HCI := hid (pf_cut_i (.slice a9 n9 c9) HPO.out.2.1 h)
    go_upto_region 18 with (first | (refine wpList_load_blk rfl _ _ rfl rfl BH2.out aHA ?_) | (refine pf_store (h := h) rfl _ _ _ rfl rfl (by rw [hashV, ← HHA.out.2.1]; rfl) BP.out HPO.out.2.1 HHA.out.2.2 (by kernel_rfl) (by decide) HCI.out ?_; intro w5 hP5 k5) | fail)
    have HBF := hid hP5
    have HZF := hid (HZ2.out.kept k5 (fun h => by have h : w.heap.size + 1 + 1 = w.heap.size := h; omega))
    have KF := hid (K2.out.then k5 (fun j hj h => by have h : j = w.heap.size := h; omega))
    have HRF := hid ((HO.out.kept k5 (fun q hq h => by have h : q = w.heap.size := h; have := (HO.out.2.own q hq).1; omega)).rh)
    have HOK : Hid (Pf.Ok ⟨p.path, p.e, ⟨h, p.x.v⟩⟩) := hid ⟨HPO.out.2.1.1, HHA.out.2.2, HPO.out.2.1.2.2⟩
    clear hP5 k5
    have hokF : Pf.Ok ⟨p.path, p.e, ⟨h, p.x.v⟩⟩ := HOK.out
    have aPF := aP (s := (.slice a9 n9 c9)) hokF
    have hallF : (pfC (.slice a9 n9 c9) ⟨p.path, p.e, ⟨h, p.x.v⟩⟩).toArray.all (·.oneCell') = true := pfC_one (p := ⟨p.path, p.e, ⟨h, p.x.v⟩⟩) HRF.out
    have HAF := hid hallF
    have EF := hid (HZS.out.trans (show 66 = (pfC (.slice a9 n9 c9) ⟨p.path, p.e, ⟨h, p.x.v⟩⟩).toArray.size by simpa using (pfC_len (.slice a9 n9 c9) hokF).symm))
    have hBF := HBF.out
    have hZF := HZF.out
    clear hallF
    go_wp2_with (first | (refine wpList_load_blk rfl _ _ rfl rfl hBF aPF ?_) | (refine wpList_store_blk rfl _ _ _ rfl rfl rfl hZF aPF EF.out HAF.out ?_; intro w9 hR9 k9) | fail)
    exact bodyPost_ret (v := .agg (pfC (.slice a9 n9 c9) ⟨p.path, p.e, ⟨h, p.x.v⟩⟩).toArray) (results_blk rfl _ rfl hR9 aPF) rfl ⟨_, rfl, KF.out.then k9 (fun j hj h => by have h : j = w.heap.size + 1 + 1 := h; omega), by rw [HBT.out]; exact ⟨HOK.out, _, rfl, (HRF.out.keptS k9 (fun q h1 h => by have h : q = w.heap.size + 1 + 1 := h; omega)).mono (Nat.zero_le _)⟩⟩
  · have HBT : Hid (bentP p what at_ h = ⟨p.path, p.e, ⟨p.x.i, h⟩⟩) := hid (by unfold bentP; rw [← HL7.out.2]; rfl)
    have HCI := hid (pf_cut_v (.slice a9 n9 c9) HPO.out.2.1 h)
    go_upto_region 18 with (first | (refine wpList_load_blk rfl _ _ rfl rfl BH2.out aHA ?_) | (refine pf_store (h := h) rfl _ _ _ rfl rfl (by rw [hashV, ← HHA.out.2.1]; rfl) BP.out HPO.out.2.1 HHA.out.2.2 (by kernel_rfl) (by decide) HCI.out ?_; intro w5 hP5 k5) | fail)
    have HBF := hid hP5
    have HZF := hid (HZ2.out.kept k5 (fun h => by have h : w.heap.size + 1 + 1 = w.heap.size := h; omega))
    have KF := hid (K2.out.then k5 (fun j hj h => by have h : j = w.heap.size := h; omega))
    have HRF := hid ((HO.out.kept k5 (fun q hq h => by have h : q = w.heap.size := h; have := (HO.out.2.own q hq).1; omega)).rh)
    have HOK : Hid (Pf.Ok ⟨p.path, p.e, ⟨p.x.i, h⟩⟩) := hid ⟨HPO.out.2.1.1, HPO.out.2.1.2.1, HHA.out.2.2⟩
    clear hP5 k5
    have hokF : Pf.Ok ⟨p.path, p.e, ⟨p.x.i, h⟩⟩ := HOK.out
    have aPF := aP (s := (.slice a9 n9 c9)) hokF
    have hallF : (pfC (.slice a9 n9 c9) ⟨p.path, p.e, ⟨p.x.i, h⟩⟩).toArray.all (·.oneCell') = true := pfC_one (p := ⟨p.path, p.e, ⟨p.x.i, h⟩⟩) HRF.out
    have HAF := hid hallF
    have EF := hid (HZS.out.trans (show 66 = (pfC (.slice a9 n9 c9) ⟨p.path, p.e, ⟨p.x.i, h⟩⟩).toArray.size by simpa using (pfC_len (.slice a9 n9 c9) hokF).symm))
    have hBF := HBF.out
    have hZF := HZF.out
    clear hallF
    go_wp2_with (first | (refine wpList_load_blk rfl _ _ rfl rfl hBF aPF ?_) | (refine wpList_store_blk rfl _ _ _ rfl rfl rfl hZF aPF EF.out HAF.out ?_; intro w9 hR9 k9) | fail)
    exact bodyPost_ret (v := .agg (pfC (.slice a9 n9 c9) ⟨p.path, p.e, ⟨p.x.i, h⟩⟩).toArray) (results_blk rfl _ rfl hR9 aPF) rfl ⟨_, rfl, KF.out.then k9 (fun j hj h => by have h : j = w.heap.size + 1 + 1 := h; omega), by rw [HBT.out]; exact ⟨HOK.out, _, rfl, (HRF.out.keptS k9 (fun q h1 h => by have h : q = w.heap.size + 1 + 1 := h; omega)).mono (Nat.zero_le _)⟩⟩
  · have HBT : Hid (bentP p what at_ h = ⟨p.path, 0, zeroIt⟩) := hid (by unfold bentP; rw [← HL7.out.2]; rfl)
    have c0 := pf_c0 BP.out
    have hokP := HPO.out.2.1
    have e6 : Try.zeroCells63.setIfInBounds 0 (.slice a9 n9 c9) = (pfC (.slice a9 n9 c9) ⟨p.path, 0, zeroIt⟩).toArray := rfl
    have hok6 : Pf.Ok ⟨p.path, 0, zeroIt⟩ := ⟨hokP.1, rfl, rfl⟩
    have A6 := hid (show AggTy Try.prog 63 (Try.zeroCells63.setIfInBounds 0 (.slice a9 n9 c9)).size by rw [e6]; exact aP hok6)
    have S6 := hid (show (pfC (.slice a9 n9 c9) p).toArray.size = (Try.zeroCells63.setIfInBounds 0 (.slice a9 n9 c9)).size by rw [e6]; have h1 := pfC_len (.slice a9 n9 c9) hokP; have h2 := pfC_len (.slice a9 n9 c9) hok6; simp only [List.size_toArray, h1, h2])
    have hr6 := HO.out.rh
    have L6 := hid (show (Try.zeroCells63.setIfInBounds 0 (.slice a9 n9 c9)).all (·.oneCell') = true by rw [e6]; exact pfC_one (p := ⟨p.path, 0, zeroIt⟩) hr6)
    have E6 := hid e6
    clear e6 hr6
    go_upto_region 18 with (first | (refine wpList_store_blk rfl _ _ _ rfl rfl rfl BP.out A6.out S6.out L6.out ?_; intro w5 hP5 k5) | fail)
    rw [E6.out] at hP5
    have HBF := hid hP5
    have HZF := hid (HZ2.out.kept k5 (fun h => by have h : w.heap.size + 1 + 1 = w.heap.size := h; omega))
    have KF := hid (K2.out.then k5 (fun j hj h => by have h : j = w.heap.size := h; omega))
    have HRF := hid ((HO.out.kept k5 (fun q hq h => by have h : q = w.heap.size := h; have := (HO.out.2.own q hq).1; omega)).rh)
    have HOK := hid hok6
    clear hP5 k5 hok6
    have hokF : Pf.Ok ⟨p.path, 0, zeroIt⟩ := HOK.out
    have aPF := aP (s := (.slice a9 n9 c9)) hokF
    have hallF : (pfC (.slice a9 n9 c9) ⟨p.path, 0, zeroIt⟩).toArray.all (·.oneCell') = true := pfC_one (p := ⟨p.path, 0, zeroIt⟩) HRF.out
    have HAF := hid hallF
    have EF := hid (HZS.out.trans (show 66 = (pfC (.slice a9 n9 c9) ⟨p.path, 0, zeroIt⟩).toArray.size by simpa using (pfC_len (.slice a9 n9 c9) hokF).symm))
    have hBF := HBF.out
    have hZF := HZF.out
    clear hallF
    go_wp2_with (first | (refine wpList_load_blk rfl _ _ rfl rfl hBF aPF ?_) | (refine wpList_store_blk rfl _ _ _ rfl rfl rfl hZF aPF EF.out HAF.out ?_; intro w9 hR9 k9) | fail)
    exact bodyPost_ret (v := .agg (pfC (.slice a9 n9 c9) ⟨p.path, 0, zeroIt⟩).toArray) (results_blk rfl _ rfl hR9 aPF) rfl ⟨_, rfl, KF.out.then k9 (fun j hj h => by have h : j = w.heap.size + 1 + 1 := h; omega), by rw [HBT.out]; exact ⟨HOK.out, _, rfl, (HRF.out.keptS k9 (fun q h1 h => by have h : q = w.heap.size + 1 + 1 := h; omega)).mono (Nat.zero_le _)⟩⟩
end Pr
end Go.Proofs.Ytidegffdhpdhjaa

namespace Go.Pm
open Go Go.RowKit
theorem clash_true {i : List UInt8} {p q : Pf} (hp : p.Ok) (hq : q.Ok) (h : clashO i p q = true) : clashA i p q ≠ clashB i p q ∧ sumB (clashA i p q) = sumB (clashB i p q) := by
  cases hc : clashP i p q with
  | none => rw [(clash_none hc).2.2] at h; cases h
  | some ab =>
    obtain ⟨a, b⟩ := ab
    obtain ⟨e1, e2, _⟩ := clash_some hc
    rw [e1, e2]
    exact clash_is hp hq hc
theorem fill_pair (z A B : Array Value) (hz : z.size = 132) (hA : A.size = 66) (hB : B.size = 66) : Instr.fill (fun i => some (i * 66, 66)) z [(0, .agg A), (1, .agg B)] = some (A ++ B) := by
  have h := Go.Great.fill_whole (s := 66) (by decide) [.agg A, .agg B] z (by
    intro v hv
    simp only [List.mem_cons, List.not_mem_nil, or_false] at hv
    rcases hv with rfl | rfl
    · exact hA
    · exact hB) (by simp [hz])
  have e : (([Value.agg A, Value.agg B].zipIdx 0).map fun x => (x.2, x.1)) = [(0, Value.agg A), (1, Value.agg B)] := rfl
  rw [e] at h
  rw [h]
  congr 1
  apply Array.ext'
  simp [Value.cells]
theorem fill_five (k : Nat) (hk : 0 < k) (z A B C D E : Array Value) (hz : z.size = 5 * k) (hA : A.size = k) (hB : B.size = k) (hC : C.size = k) (hD : D.size = k) (hE : E.size = k) : Instr.fill (fun i => some (i * k, k)) z [(0, .agg A), (1, .agg B), (2, .agg C), (3, .agg D), (4, .agg E)] = some (A ++ (B ++ (C ++ (D ++ E)))) := by
  have h := Go.Great.fill_whole (s := k) hk [.agg A, .agg B, .agg C, .agg D, .agg E] z (by
    intro v hv
    simp only [List.mem_cons, List.not_mem_nil, or_false] at hv
    rcases hv with rfl | rfl | rfl | rfl | rfl
    · exact hA
    · exact hB
    · exact hC
    · exact hD
    · exact hE) (by simp [hz])
  have e : (([Value.agg A, Value.agg B, Value.agg C, Value.agg D, Value.agg E].zipIdx 0).map fun x => (x.2, x.1)) = [(0, Value.agg A), (1, Value.agg B), (2, Value.agg C), (3, Value.agg D), (4, Value.agg E)] := rfl
  rw [e] at h
  rw [h]
  congr 1
  apply Array.ext'
  simp [Value.cells]
theorem exec_pair {P : Program} {o : Oper} {ev : Operand → Value} {w : World} (t : TypeId) (x y : Operand) (ho : o.op = .build t #[(0, x), (1, y)]) {z : Array Value} (hz : z.size = 132) (hb : ∀ parts, P.built t parts = Instr.fill (fun i => some (i * 66, 66)) z parts)
    {A B : Array Value} (hx : ev x = .agg A) (hy : ev y = .agg B) (hA : A.size = 66) (hB : B.size = 66) : (execOp ev o).run P w = .ok (.value (.agg (A ++ B))) w := by
  refine run_execOp_build ho ?_
  rw [show (#[(0, x), (1, y)] : Array (Nat × Operand)).map (fun (i, x) => (i, ev x)) = #[(0, .agg A), (1, .agg B)] by simp [hx, hy]]
  refine run_build w _ _ _ ?_
  rw [hb]
  exact fill_pair z A B hz hA hB
theorem exec_five {P : Program} {o : Oper} {ev : Operand → Value} {w : World} (t : TypeId) (x y u v s : Operand) (ho : o.op = .buildSlice t 5 #[(0, x), (1, y), (2, u), (3, v), (4, s)])
    {e : TypeId} {z : Value} {k bytes : Nat} (hT : RowTyK P t e z k bytes) (hk : k ≤ 1000) {A B C D E : Array Value} (hx : ev x = .agg A) (hy : ev y = .agg B) (hu : ev u = .agg C) (hv : ev v = .agg D) (hs' : ev s = .agg E) (hA : A.size = k) (hB : B.size = k) (hC : C.size = k) (hD : D.size = k) (hE : E.size = k) :
    (execOp ev o).run P w = .ok (.value (.slice (some ⟨w.heap.size, 0, none⟩) 5 5)) (w.alloc (.cells (A ++ (B ++ (C ++ (D ++ E)))) e)) := by
  obtain ⟨i, hi, hz, hs, hb⟩ := hT.info
  have hp := hT.pos
  have hr := run_buildSlice (P := P) w t e 5 #[(0, .agg A), (1, .agg B), (2, .agg C), (3, .agg D), (4, .agg E)] (A ++ (B ++ (C ++ (D ++ E)))) i z hT.sl hi hz (by omega) (by omega) (by rw [hs]; exact fill_five k hp _ A B C D E (by simp) hA hB hC hD hE)
  unfold execOp
  simp only [ho, Sem.run_bind]
  rw [show (#[(0, x), (1, y), (2, u), (3, v), (4, s)] : Array (Nat × Operand)).map (fun (i, x) => (i, ev x)) = #[(0, .agg A), (1, .agg B), (2, .agg C), (3, .agg D), (4, .agg E)] by simp [hx, hy, hu, hv, hs']]
  rw [hr]
  rfl
theorem range_mid {w : World} {g k : Nat} {t : TypeId} {L M R X : Array Value} (hb : Blk w g X t) (hX : X = L ++ (M ++ R)) (hL : L.size = k) : w.rangeAt g k M.toList := fun j v hv => by
  have h := hb.cell (k + j)
  rw [h]
  have hj : j < M.size := by simpa using (List.getElem?_eq_some_iff.1 hv).1
  have : X[k + j]? = some v := by
    rw [hX, Array.getElem?_append_right (by omega), show k + j - L.size = j by omega, Array.getElem?_append_left hj, ← Array.getElem?_toList]; exact hv
  exact this
theorem five_at {w : World} {g k : Nat} {t : TypeId} {A B C D E : Array Value} (hb : Blk w g (A ++ (B ++ (C ++ (D ++ E)))) t) (hA : A.size = k) (hB : B.size = k) (hC : C.size = k) (hD : D.size = k) {Q : Array Value → Prop} (qA : Q A) (qB : Q B) (qC : Q C) (qD : Q D) (qE : Q E) (j : Nat) (hj : j < 5) :
    ∃ X, Q X ∧ w.rangeAt g (j * k) X.toList := by
  have h0 : j = 0 ∨ j = 1 ∨ j = 2 ∨ j = 3 ∨ j = 4 := by omega
  rcases h0 with rfl | rfl | rfl | rfl | rfl
  · exact ⟨A, qA, range_mid (L := #[]) (R := B ++ (C ++ (D ++ E))) hb (by simp) (by simp)⟩
  · exact ⟨B, qB, range_mid (L := A) hb rfl (by omega)⟩
  · exact ⟨C, qC, range_mid (L := A ++ B) (R := D ++ E) hb (by simp) (by simp; omega)⟩
  · exact ⟨D, qD, range_mid (L := A ++ B ++ C) (R := E) hb (by simp) (by simp; omega)⟩
  · exact ⟨E, qE, range_mid (L := A ++ B ++ C ++ D) (R := #[]) hb (by simp) (by simp; omega)⟩
/-- It is a proof, whichever. -/
def PVs (w : World) (A : Array Value) : Prop := ∃ m, PV m w A
theorem PVs.kept {w w' : World} {A : Array Value} (h : PVs w A) (hk : Kept None w w') : PVs w' A := by
  obtain ⟨m, h⟩ := h
  exact ⟨m, h.kept hk⟩
theorem PVs.size {w : World} {A : Array Value} (h : PVs w A) : A.size = 66 := by
  obtain ⟨m, h⟩ := h
  exact h.size
theorem PVs.all {w : World} {A : Array Value} (h : PVs w A) : A.all (·.oneCell') = true := by
  obtain ⟨m, h⟩ := h
  exact h.all
/-- It is a pair of them. -/
def Pair (w : World) (C : Array Value) : Prop := ∃ A B, C = A ++ B ∧ PVs w A ∧ PVs w B
theorem Pair.kept {w w' : World} {C : Array Value} (h : Pair w C) (hk : Kept None w w') : Pair w' C := by
  obtain ⟨A, B, h1, h2, h3⟩ := h
  exact ⟨A, B, h1, h2.kept hk, h3.kept hk⟩
theorem Pair.size {w : World} {C : Array Value} (h : Pair w C) : C.size = 132 := by
  obtain ⟨A, B, rfl, h2, h3⟩ := h
  simp [h2.size, h3.size]
abbrev Fct.pvs (k : Nat) (uses : List Nat := []) : Fct := { k := k, uses := uses, pure := fun u => ∃ A, u = .agg A, fact := fun u W => ∃ A, u = .agg A ∧ PVs W A }
theorem Steady.pvs {l : List Fct} {k : Nat} {us : List Nat} (h : Steady l) : Steady (.pvs k us :: l) := .cons ⟨_, #[], rfl⟩ (fun _ _ _ hk ⟨A, h1, h2⟩ => ⟨A, h1, h2.kept hk⟩) h
abbrev Fct.pair (k : Nat) (uses : List Nat := []) : Fct := { k := k, uses := uses, pure := fun u => ∃ A, u = .agg A, fact := fun u W => ∃ A, u = .agg A ∧ Pair W A }
theorem Steady.pair {l : List Fct} {k : Nat} {us : List Nat} (h : Steady l) : Steady (.pair k us :: l) := .cons ⟨_, #[], rfl⟩ (fun _ _ _ hk ⟨A, h1, h2⟩ => ⟨A, h1, h2.kept hk⟩) h
abbrev Fct.five (k : Nat) (uses : List Nat := []) : Fct := { k := k, uses := uses, pure := fun u => ∃ g, u = .slice (some ⟨g, 0, none⟩) 5 5, fact := fun u W => ∃ g, u = .slice (some ⟨g, 0, none⟩) 5 5 ∧ ∀ j, j < 5 → ∃ X, Pair W X ∧ W.rangeAt g (j * 132) X.toList }
theorem Steady.five {l : List Fct} {k : Nat} {us : List Nat} (h : Steady l) : Steady (.five k us :: l) := .cons ⟨_, 0, rfl⟩ (fun _ _ _ hk ⟨g, h1, h2⟩ => ⟨g, h1, fun j hj => by
  obtain ⟨X, p, r⟩ := h2 j hj
  exact ⟨X, p.kept hk, rangeAt_kept r hk⟩⟩) h
end Go.Pm
namespace Go.Proofs.Ytidegffdhpdhjaa
open Go.RowKit Go.Pm
namespace Pr
theorem rmakeC7 (l : List It) (i : List UInt8) (v : Value) (lo hi : Nat) (w : World) (hv : Its w lo hi v l) (hl : l.length ≤ 549755813888) (hi32 : i.length = 32) :
    Calls Try.prog 28 #[v, hashV i] w fun e w' => ∃ A, e = .returned (.agg A) ∧ Kept None w w' ∧ PV (makeP l i) w' A := by
  refine (RPr.make l i v lo hi w hv hl hi32).mono ?_
  rintro e w' ⟨u, rfl, k, r⟩
  exact ⟨_, rfl, k, ok_make l hv.1 i, u, rfl, r.mono (Nat.zero_le _)⟩
theorem built_pair (parts : List (Nat × Value)) : Try.prog.built 69 parts = Instr.fill (fun i => some (i * 66, 66)) (Try.zeroCells63 ++ Try.zeroCells63) parts := by kernel_rfl
theorem rtPairs : RowTyK Try.prog 70 69 (.agg (Try.zeroCells63 ++ Try.zeroCells63)) 132 192 := Hk.rtyK (by kernel_rfl) (by kernel_rfl) (by rfl) (by decide)
theorem aP2 : AggTy Try.prog 69 132 := aggOf (by kernel_rfl) (by kernel_rfl)
set_option maxRecDepth 100000 in
set_option maxHeartbeats 16000000 in
theorem pclash (v : Value) (lo hi : Nat) (ns : List Int) (k : Nat) (raw : List UInt8) (p q : Pf) (PA QA : Array Value) (what at_ : Nat) (w : World) (hv : U16s w lo hi v ns) (hk : k < 65536) (hraw : raw.length = 32) (hp : PV p w PA) (hq : PV q w QA) (hwh : what < 256) (hat : at_ < 256) : Calls Try.prog 6 #[v, .int .u16 k, hashV raw, .agg PA, .agg QA, .int .u8 what, .int .u8 at_] w fun e w' => e = .returned (.bool true) ∧ Kept None w w' := by
  obtain ⟨a, cap, rfl, g1, g2⟩ := hv.form
  obtain ⟨N, hN⟩ : ∃ n, n = ns.length := ⟨_, rfl⟩
  rw [← hN] at hv g1 ⊢
  obtain ⟨WA, hWA⟩ : ∃ A : Array Value, A = (raw.map u8v).toArray := ⟨_, rfl⟩
  have aWA : AggTy Try.prog 23 WA.size := by rw [hWA]; exact aH32 hraw
  have aPA := PV.agg hp
  have aQA := PV.agg hq
  show Calls Try.prog 6 #[.slice a N cap, .int .u16 k, .agg (raw.map u8v).toArray, .agg PA, .agg QA, .int .u8 what, .int .u8 at_] w _
  rw [← hWA]
  have k0 : Kept None w (((w.alloc (.cells WA 23)).alloc (.cells PA 63)).alloc (.cells QA 63)) := (((Kept.refl _ _).alloc _).alloc _).alloc _
  have b9 : Blk (((w.alloc (.cells WA 23)).alloc (.cells PA 63)).alloc (.cells QA 63)) w.heap.size WA 23 := ((Blk.new w _ _).alloc _).alloc _
  have b10 : Blk (((w.alloc (.cells WA 23)).alloc (.cells PA 63)).alloc (.cells QA 63)) (w.heap.size + 1) PA 63 := (Blk.new2 w _ _ _).alloc _
  have b11 : Blk (((w.alloc (.cells WA 23)).alloc (.cells PA 63)).alloc (.cells QA 63)) (w.heap.size + 1 + 1) QA 63 := Blk.new3 w _ _ _ _
  have HWA := hid (And.intro hWA hraw)
  have HV := hid hv
  have HN := hid hN
  have HKW := hid (And.intro hk (And.intro hwh hat))
  have HPV := hid (And.intro (hp.kept k0) (hq.kept k0))
  clear hv hN hWA hraw hk hwh hat hp hq
  go_enter Try.func6, Try.ntmps6
  go_wp2_with fail
  refine (known _).mono ?_
  rintro e w1 ⟨rfl, k1⟩
  have K1 := hid (k0.trans k1)
  have B9 := hid (b9.kept k1 (fun h => h))
  have B10 := hid (b10.kept k1 (fun h => h))
  have B11 := hid (b11.kept k1 (fun h => h))
  have PV1 := hid (HPV.out.1.kept k1)
  have QV1 := hid (HPV.out.2.kept k1)
  obtain ⟨g9, hg9⟩ : ∃ g, g = w.heap.size := ⟨_, rfl⟩
  obtain ⟨g10, hg10⟩ : ∃ g, g = w.heap.size + 1 := ⟨_, rfl⟩
  obtain ⟨g11, hg11⟩ : ∃ g, g = w.heap.size + 1 + 1 := ⟨_, rfl⟩
  rw [← hg11] at B11 ⊢
  rw [← hg10] at B10 ⊢
  rw [← hg9] at B9 ⊢
  clear k0 b9 b10 b11 k1 hg9 hg10 hg11 HPV
  obtain ⟨pa, pc, hp0⟩ := PV1.out.at0
  obtain ⟨qa, qc, hq0⟩ := QV1.out.at0
  obtain ⟨P, hP⟩ : ∃ P, P = p.path.length := ⟨_, rfl⟩
  obtain ⟨Q, hQ⟩ : ∃ Q, Q = q.path.length := ⟨_, rfl⟩
  rw [← hP] at hp0
  rw [← hQ] at hq0
  have c0 := B10.out.cell 0
  rw [hp0] at c0
  have d0 := B11.out.cell 0
  rw [hq0] at d0
  clear hp0 hq0
  by_cases h1 : 20 < N
  · have zh1 : decide ((20 : Int) < (N : Int)) = true := by rw [decide_eq_true_eq]; omega
    clear hP hQ
    go_wp2_with (first | go_skip | fail)
    go_ret
    exact ⟨rfl, K1.out⟩
  have zh1 : decide ((20 : Int) < (N : Int)) = false := by rw [decide_eq_false_iff_not]; omega
  by_cases h2 : 10 < P
  · have zh2 : decide ((10 : Int) < (P : Int)) = true := by rw [decide_eq_true_eq]; omega
    clear hP hQ
    go_wp2_with (first | go_skip | fail)
    go_ret
    exact ⟨rfl, K1.out⟩
  have zh2 : decide ((10 : Int) < (P : Int)) = false := by rw [decide_eq_false_iff_not]; omega
  by_cases h3 : 10 < Q
  · have zh3 : decide ((10 : Int) < (Q : Int)) = true := by rw [decide_eq_true_eq]; omega
    clear hP hQ
    go_wp2_with (first | go_skip | fail)
    go_ret
    exact ⟨rfl, K1.out⟩
  have zh3 : decide ((10 : Int) < (Q : Int)) = false := by rw [decide_eq_false_iff_not]; omega
  have HP10 := hid (show p.path.length ≤ 10 by omega)
  have hN20 : N ≤ 20 := by omega
  clear hP hQ h1 h2 h3
  go_wp2_with (first | go_skip | fail)
  refine (Tr.items (.slice a N cap) lo hi ns w1 (HV.out.kept K1.out (fun _ _ _ h => h)) (by have := HN.out; omega)).mono ?_
  rintro e w2 ⟨v2, l, rfl, h3, hxl, k2⟩
  obtain ⟨a3, c3, rfl⟩ := h3.form
  have hl20 : l.length ≤ 20 := by rw [hxl, ← HN.out]; exact hN20
  have hfull : Len l := h3.1
  have hL := h3.its (Nat.le_refl _)
  obtain ⟨ln, hln⟩ : ∃ n, n = l.length := ⟨_, rfl⟩
  rw [← hln] at hL ⊢
  have K2 := hid (K1.out.trans k2)
  have B9 := hid (B9.out.kept k2 (fun h => h))
  have B10 := hid (B10.out.kept k2 (fun h => h))
  have B11 := hid (B11.out.kept k2 (fun h => h))
  have PV2 := hid (PV1.out.kept k2)
  have QV2 := hid (QV1.out.kept k2)
  have HL2 := hid hL
  have HLS := hid (And.intro hln (And.intro hl20 hfull))
  clear k2 h3 hxl hl20 hfull hL hln zh1 zh2 zh3 hN20 c0 d0 PV1 QV1 K1
  have fI := fun W (h : Its W w1.heap.size w2.heap.size (.slice a3 ln c3) l) => index _ _ _ l k raw W h HKW.out.1 HWA.out.2
  simp only [hashV, ← HWA.out.1] at fI
  have FI := hid fI
  clear fI
  go_wp2_with (first | (refine wpList_load_blk rfl _ _ rfl rfl B9.out aWA ?_) | fail)
  refine (FI.out w2 HL2.out).mono ?_
  rintro e w3 ⟨i, i32, rfl, k3⟩
  obtain ⟨IA, hIA⟩ : ∃ A : Array Value, A = (i.map u8v).toArray := ⟨_, rfl⟩
  have aIA : AggTy Try.prog 23 IA.size := by rw [hIA]; exact aH32 i32
  have sIA : IA.size = 32 := by rw [hIA]; simpa using i32
  have allIA : IA.all (·.oneCell') = true := by rw [hIA]; exact u8v_all' _
  obtain ⟨m, hm⟩ : ∃ m, m = makeP l i := ⟨_, rfl⟩
  have hpath : m.path.length ≤ 256 := rightP_len (i := i) (by rw [hm]; exact right_make l HLS.out.2.2 i)
  have fM := fun W (h : Its W w1.heap.size w2.heap.size (.slice a3 ln c3) l) => rmakeC7 l i _ _ _ W h (by have := HLS.out; omega) i32
  rw [← hm] at fM
  simp only [hashV, ← hIA] at fM
  have FM := hid fM
  have HIA := hid (And.intro hIA (And.intro i32 (And.intro sIA allIA)))
  have HM := hid hpath
  have K3 := hid (K2.out.trans k3)
  have L3 := hid (HL2.out.kept k3 (fun _ _ _ h => h))
  have B9 := hid (B9.out.kept k3 (fun h => h))
  have B10 := hid (B10.out.kept k3 (fun h => h))
  have B11 := hid (B11.out.kept k3 (fun h => h))
  have PV3 := hid (PV2.out.kept k3)
  have QV3 := hid (QV2.out.kept k3)
  obtain ⟨z3, hz3, hZ3⟩ := Blk.any (n := 32) (Blk.new w3 #[.int .u8 0, .int .u8 0, .int .u8 0, .int .u8 0, .int .u8 0, .int .u8 0, .int .u8 0, .int .u8 0, .int .u8 0, .int .u8 0, .int .u8 0, .int .u8 0, .int .u8 0, .int .u8 0, .int .u8 0, .int .u8 0, .int .u8 0, .int .u8 0, .int .u8 0, .int .u8 0, .int .u8 0, .int .u8 0, .int .u8 0, .int .u8 0, .int .u8 0, .int .u8 0, .int .u8 0, .int .u8 0, .int .u8 0, .int .u8 0, .int .u8 0, .int .u8 0] 23) (by rfl)
  have E3 := hid (hz3.trans sIA.symm)
  rw [show (Value.agg (i.map u8v).toArray) = .agg IA by rw [hIA]]
  clear hIA i32 sIA allIA hm hpath fM k3 K2 HL2 PV2 QV2 FI hz3
  go_wp2_with (first | (refine wpList_store_blk rfl _ _ _ rfl rfl rfl hZ3 aIA E3.out HIA.out.2.2.2 ?_; intro w4 h16 k4; have k34 := k4.fresh) | (refine wpList_load_blk rfl _ _ rfl rfl h16 aIA ?_) | fail)
  have K4 := hid (K3.out.trans k34)
  have L4 := hid (L3.out.kept k34 (fun _ _ _ h => h))
  have B9 := hid (B9.out.kept k34 (fun h => h))
  have B10 := hid (B10.out.kept k34 (fun h => h))
  have B11 := hid (B11.out.kept k34 (fun h => h))
  have PV4 := hid (PV3.out.kept k34)
  have QV4 := hid (QV3.out.kept k34)
  have B16 := hid h16
  obtain ⟨g16, hg16⟩ : ∃ g, g = w3.heap.size := ⟨_, rfl⟩
  rw [← hg16] at B16 ⊢
  clear k4 k34 h16 hg16 hZ3 E3 L3 PV3 QV3 K3
  refine (FM.out w4 L4.out).mono ?_
  rintro e w5 ⟨AM, rfl, k5, p5⟩
  have K5 := hid (K4.out.trans k5)
  have B9 := hid (B9.out.kept k5 (fun h => h))
  have B10 := hid (B10.out.kept k5 (fun h => h))
  have B11 := hid (B11.out.kept k5 (fun h => h))
  have B16 := hid (B16.out.kept k5 (fun h => h))
  have PV5 := hid (PV4.out.kept k5)
  have QV5 := hid (QV4.out.kept k5)
  have aAM := PV.agg p5
  have HAM := hid (And.intro p5.size p5.all)
  have PM5 := hid p5
  obtain ⟨z5, hz5, hZ5⟩ := Blk.any (n := 66) (Blk.new w5 Try.zeroCells63 63) (by rfl)
  have E5 := hid (hz5.trans p5.size.symm)
  clear k5 p5 hz5 L4 PV4 QV4 K4 FM
  go_wp2_with (first | (refine wpList_store_blk (.refl _) _ _ _ rfl rfl rfl hZ5 aAM E5.out HAM.out.2 ?_; intro w6 h17 k6; have k56 := k6.fresh) | fail)
  have K6 := hid (K5.out.trans k56)
  have B9 := hid (B9.out.kept k56 (fun h => h))
  have B10 := hid (B10.out.kept k56 (fun h => h))
  have B11 := hid (B11.out.kept k56 (fun h => h))
  have B16 := hid (B16.out.kept k56 (fun h => h))
  have PV6 := hid (PV5.out.kept k56)
  have QV6 := hid (QV5.out.kept k56)
  have PM6 := hid (PM5.out.kept k56)
  have B17 := hid h17
  obtain ⟨g17, hg17⟩ : ∃ g, g = w5.heap.size := ⟨_, rfl⟩
  rw [← hg17] at B17 ⊢
  clear k6 k56 h17 hg17 hZ5 E5 PV5 QV5 PM5 K5
  have fB1 := fun W (h : PV m W AM) => bent m AM what at_ raw W h (by have := HM.out; omega) HKW.out.2.1 HKW.out.2.2 HWA.out.2
  have fB2 := fun W (h : PV m W AM) => bent m AM at_ what raw W h (by have := HM.out; omega) HKW.out.2.2 HKW.out.2.1 HWA.out.2
  simp only [hashV, ← HWA.out.1] at fB1 fB2
  have FB1 := hid fB1
  have FB2 := hid fB2
  have HPQ := hid (And.intro PV6.out.size QV6.out.size)
  clear fB1 fB2
  have hs : Steady [.pvs 5, .pair 6 [5], .pvs 20, .pvs 25, .pair 26 [20, 25], .five 27 [6, 26]] := Go.Pm.Steady.pvs (Go.Pm.Steady.pair (Go.Pm.Steady.pvs (Go.Pm.Steady.pvs (Go.Pm.Steady.pair (Go.Pm.Steady.five (Go.Pm.Steady.nil))))))
  refine wp_region_kn w6 _ hs (Kept.refl _ _) (by kernel_rfl) (by kernel_rfl) (by kernel_rfl) ?_
  refine wpPar_pure rfl (by rfl) _ (fun W hW => by first | exact exec_load_blk _ _ rfl rfl (B17.out.kept hW (fun h => h)) aAM | exact exec_load_blk _ _ rfl rfl (B10.out.kept hW (fun h => h)) aPA | exact exec_load_blk _ _ rfl rfl (B11.out.kept hW (fun h => h)) aQA | exact exec_load_blk _ _ rfl rfl (B9.out.kept hW (fun h => h)) aWA | (go_simp; exact rfl)) ?_; simp only [Act.put, List.setIfInBounds_toArray, List.set_cons_zero, List.set_cons_succ]
  refine wpPar_pure rfl (by rfl) _ (fun W hW => by first | exact exec_load_blk _ _ rfl rfl (B17.out.kept hW (fun h => h)) aAM | exact exec_load_blk _ _ rfl rfl (B10.out.kept hW (fun h => h)) aPA | exact exec_load_blk _ _ rfl rfl (B11.out.kept hW (fun h => h)) aQA | exact exec_load_blk _ _ rfl rfl (B9.out.kept hW (fun h => h)) aWA | (go_simp; exact rfl)) ?_; simp only [Act.put, List.setIfInBounds_toArray, List.set_cons_zero, List.set_cons_succ]
  iterate 2 (refine wpPar_pure rfl (by rfl) _ (fun W hW => by
      go_simp
      exact rfl) ?_; simp only [Act.put, List.setIfInBounds_toArray, List.set_cons_zero, List.set_cons_succ])
  refine wpPar_pure rfl (by rfl) _ (fun W hW => by first | exact exec_load_blk _ _ rfl rfl (B17.out.kept hW (fun h => h)) aAM | exact exec_load_blk _ _ rfl rfl (B10.out.kept hW (fun h => h)) aPA | exact exec_load_blk _ _ rfl rfl (B11.out.kept hW (fun h => h)) aQA | exact exec_load_blk _ _ rfl rfl (B9.out.kept hW (fun h => h)) aWA | (go_simp; exact rfl)) ?_; simp only [Act.put, List.setIfInBounds_toArray, List.set_cons_zero, List.set_cons_succ]
  refine wpKn_adds hs rfl (by rfl) (fun W hW hd => ?_) (fun v5 hv => ?_)
  · unfold Gives
    go_simp
    refine gives_call (FB1.out W (PM6.out.kept hW)) ?_
    rintro e w3 ⟨A3, rfl, k3, p3⟩
    exact ⟨_, rfl, k3, ⟨_, rfl⟩, _, rfl, _, p3⟩
  obtain ⟨A5v, rfl⟩ : ∃ A, v5 = .agg A := hv
  simp only [Act.put, List.setIfInBounds_toArray, List.set_cons_zero, List.set_cons_succ]
  refine wpKn_adds hs rfl (by rfl) (fun W hW hd => ?_) (fun v6 hv => ?_)
  · unfold Gives
    obtain ⟨A, eA, pA⟩ : ∃ A, Value.agg A5v = .agg A ∧ PVs W A := hd 5 (List.Mem.head _)
    obtain rfl : A5v = A := by simpa using eA
    rw [exec_pair 69 (.tmp 52) (.tmp 57) rfl (by rfl) built_pair rfl rfl HAM.out.1 pA.size]
    exact ⟨Kept.refl _ _, ⟨_, rfl⟩, _, rfl, _, _, rfl, ⟨_, PM6.out.kept hW⟩, pA⟩
  obtain ⟨A6v, rfl⟩ : ∃ A, v6 = .agg A := hv
  simp only [Act.put, List.setIfInBounds_toArray, List.set_cons_zero, List.set_cons_succ]
  refine wpPar_pure rfl (by rfl) _ (fun W hW => by first | exact exec_load_blk _ _ rfl rfl (B17.out.kept hW (fun h => h)) aAM | exact exec_load_blk _ _ rfl rfl (B10.out.kept hW (fun h => h)) aPA | exact exec_load_blk _ _ rfl rfl (B11.out.kept hW (fun h => h)) aQA | exact exec_load_blk _ _ rfl rfl (B9.out.kept hW (fun h => h)) aWA | (go_simp; exact rfl)) ?_; simp only [Act.put, List.setIfInBounds_toArray, List.set_cons_zero, List.set_cons_succ]
  refine wpPar_pure rfl (by rfl) _ (fun W hW => by first | exact exec_load_blk _ _ rfl rfl (B17.out.kept hW (fun h => h)) aAM | exact exec_load_blk _ _ rfl rfl (B10.out.kept hW (fun h => h)) aPA | exact exec_load_blk _ _ rfl rfl (B11.out.kept hW (fun h => h)) aQA | exact exec_load_blk _ _ rfl rfl (B9.out.kept hW (fun h => h)) aWA | (go_simp; exact rfl)) ?_; simp only [Act.put, List.setIfInBounds_toArray, List.set_cons_zero, List.set_cons_succ]
  refine wpPar_pure rfl (by rfl) (.agg (PA ++ QA)) (fun W hW => exec_pair 69 (.tmp 59) (.tmp 60) rfl (by rfl) built_pair rfl rfl HPQ.out.1 HPQ.out.2) ?_; simp only [Act.put, List.setIfInBounds_toArray, List.set_cons_zero, List.set_cons_succ]
  refine wpPar_pure rfl (by rfl) _ (fun W hW => by first | exact exec_load_blk _ _ rfl rfl (B17.out.kept hW (fun h => h)) aAM | exact exec_load_blk _ _ rfl rfl (B10.out.kept hW (fun h => h)) aPA | exact exec_load_blk _ _ rfl rfl (B11.out.kept hW (fun h => h)) aQA | exact exec_load_blk _ _ rfl rfl (B9.out.kept hW (fun h => h)) aWA | (go_simp; exact rfl)) ?_; simp only [Act.put, List.setIfInBounds_toArray, List.set_cons_zero, List.set_cons_succ]
  refine wpPar_pure rfl (by rfl) _ (fun W hW => by first | exact exec_load_blk _ _ rfl rfl (B17.out.kept hW (fun h => h)) aAM | exact exec_load_blk _ _ rfl rfl (B10.out.kept hW (fun h => h)) aPA | exact exec_load_blk _ _ rfl rfl (B11.out.kept hW (fun h => h)) aQA | exact exec_load_blk _ _ rfl rfl (B9.out.kept hW (fun h => h)) aWA | (go_simp; exact rfl)) ?_; simp only [Act.put, List.setIfInBounds_toArray, List.set_cons_zero, List.set_cons_succ]
  refine wpPar_pure rfl (by rfl) (.agg (AM ++ PA)) (fun W hW => exec_pair 69 (.tmp 62) (.tmp 63) rfl (by rfl) built_pair rfl rfl HAM.out.1 HPQ.out.1) ?_; simp only [Act.put, List.setIfInBounds_toArray, List.set_cons_zero, List.set_cons_succ]
  refine wpPar_pure rfl (by rfl) _ (fun W hW => by first | exact exec_load_blk _ _ rfl rfl (B17.out.kept hW (fun h => h)) aAM | exact exec_load_blk _ _ rfl rfl (B10.out.kept hW (fun h => h)) aPA | exact exec_load_blk _ _ rfl rfl (B11.out.kept hW (fun h => h)) aQA | exact exec_load_blk _ _ rfl rfl (B9.out.kept hW (fun h => h)) aWA | (go_simp; exact rfl)) ?_; simp only [Act.put, List.setIfInBounds_toArray, List.set_cons_zero, List.set_cons_succ]
  refine wpPar_pure rfl (by rfl) _ (fun W hW => by first | exact exec_load_blk _ _ rfl rfl (B17.out.kept hW (fun h => h)) aAM | exact exec_load_blk _ _ rfl rfl (B10.out.kept hW (fun h => h)) aPA | exact exec_load_blk _ _ rfl rfl (B11.out.kept hW (fun h => h)) aQA | exact exec_load_blk _ _ rfl rfl (B9.out.kept hW (fun h => h)) aWA | (go_simp; exact rfl)) ?_; simp only [Act.put, List.setIfInBounds_toArray, List.set_cons_zero, List.set_cons_succ]
  refine wpPar_pure rfl (by rfl) (.agg (AM ++ AM)) (fun W hW => exec_pair 69 (.tmp 65) (.tmp 66) rfl (by rfl) built_pair rfl rfl HAM.out.1 HAM.out.1) ?_; simp only [Act.put, List.setIfInBounds_toArray, List.set_cons_zero, List.set_cons_succ]
  refine wpPar_pure rfl (by rfl) _ (fun W hW => by first | exact exec_load_blk _ _ rfl rfl (B17.out.kept hW (fun h => h)) aAM | exact exec_load_blk _ _ rfl rfl (B10.out.kept hW (fun h => h)) aPA | exact exec_load_blk _ _ rfl rfl (B11.out.kept hW (fun h => h)) aQA | exact exec_load_blk _ _ rfl rfl (B9.out.kept hW (fun h => h)) aWA | (go_simp; exact rfl)) ?_; simp only [Act.put, List.setIfInBounds_toArray, List.set_cons_zero, List.set_cons_succ]
  iterate 2 (refine wpPar_pure rfl (by rfl) _ (fun W hW => by
      go_simp
      exact rfl) ?_; simp only [Act.put, List.setIfInBounds_toArray, List.set_cons_zero, List.set_cons_succ])
  refine wpPar_pure rfl (by rfl) _ (fun W hW => by first | exact exec_load_blk _ _ rfl rfl (B17.out.kept hW (fun h => h)) aAM | exact exec_load_blk _ _ rfl rfl (B10.out.kept hW (fun h => h)) aPA | exact exec_load_blk _ _ rfl rfl (B11.out.kept hW (fun h => h)) aQA | exact exec_load_blk _ _ rfl rfl (B9.out.kept hW (fun h => h)) aWA | (go_simp; exact rfl)) ?_; simp only [Act.put, List.setIfInBounds_toArray, List.set_cons_zero, List.set_cons_succ]
  refine wpKn_adds hs rfl (by rfl) (fun W hW hd => ?_) (fun v20 hv => ?_)
  · unfold Gives
    go_simp
    refine gives_call (FB1.out W (PM6.out.kept hW)) ?_
    rintro e w3 ⟨A3, rfl, k3, p3⟩
    exact ⟨_, rfl, k3, ⟨_, rfl⟩, _, rfl, _, p3⟩
  obtain ⟨A20v, rfl⟩ : ∃ A, v20 = .agg A := hv
  simp only [Act.put, List.setIfInBounds_toArray, List.set_cons_zero, List.set_cons_succ]
  refine wpPar_pure rfl (by rfl) _ (fun W hW => by first | exact exec_load_blk _ _ rfl rfl (B17.out.kept hW (fun h => h)) aAM | exact exec_load_blk _ _ rfl rfl (B10.out.kept hW (fun h => h)) aPA | exact exec_load_blk _ _ rfl rfl (B11.out.kept hW (fun h => h)) aQA | exact exec_load_blk _ _ rfl rfl (B9.out.kept hW (fun h => h)) aWA | (go_simp; exact rfl)) ?_; simp only [Act.put, List.setIfInBounds_toArray, List.set_cons_zero, List.set_cons_succ]
  iterate 2 (refine wpPar_pure rfl (by rfl) _ (fun W hW => by
      go_simp
      exact rfl) ?_; simp only [Act.put, List.setIfInBounds_toArray, List.set_cons_zero, List.set_cons_succ])
  refine wpPar_pure rfl (by rfl) _ (fun W hW => by first | exact exec_load_blk _ _ rfl rfl (B17.out.kept hW (fun h => h)) aAM | exact exec_load_blk _ _ rfl rfl (B10.out.kept hW (fun h => h)) aPA | exact exec_load_blk _ _ rfl rfl (B11.out.kept hW (fun h => h)) aQA | exact exec_load_blk _ _ rfl rfl (B9.out.kept hW (fun h => h)) aWA | (go_simp; exact rfl)) ?_; simp only [Act.put, List.setIfInBounds_toArray, List.set_cons_zero, List.set_cons_succ]
  refine wpKn_adds hs rfl (by rfl) (fun W hW hd => ?_) (fun v25 hv => ?_)
  · unfold Gives
    go_simp
    refine gives_call (FB2.out W (PM6.out.kept hW)) ?_
    rintro e w3 ⟨A3, rfl, k3, p3⟩
    exact ⟨_, rfl, k3, ⟨_, rfl⟩, _, rfl, _, p3⟩
  obtain ⟨A25v, rfl⟩ : ∃ A, v25 = .agg A := hv
  simp only [Act.put, List.setIfInBounds_toArray, List.set_cons_zero, List.set_cons_succ]
  refine wpKn_adds hs rfl (by rfl) (fun W hW hd => ?_) (fun v26 hv => ?_)
  · unfold Gives
    obtain ⟨A, eA, pA⟩ : ∃ A, Value.agg A20v = .agg A ∧ PVs W A := hd 20 (List.Mem.head _)
    obtain rfl : A20v = A := by simpa using eA
    obtain ⟨B, eB, pB⟩ : ∃ A, Value.agg A25v = .agg A ∧ PVs W A := hd 25 (List.Mem.tail _ (List.Mem.head _))
    obtain rfl : A25v = B := by simpa using eB
    rw [exec_pair 69 (.tmp 72) (.tmp 77) rfl (by rfl) built_pair rfl rfl pA.size pB.size]
    exact ⟨Kept.refl _ _, ⟨_, rfl⟩, _, rfl, _, _, rfl, pA, pB⟩
  obtain ⟨A26v, rfl⟩ : ∃ A, v26 = .agg A := hv
  simp only [Act.put, List.setIfInBounds_toArray, List.set_cons_zero, List.set_cons_succ]
  refine wpKn_adds hs rfl (by rfl) (fun W hW hd => ?_) (fun v27 hv => ?_)
  · unfold Gives
    obtain ⟨A, eA, pA⟩ : ∃ A, Value.agg A6v = .agg A ∧ Pair W A := hd 6 (List.Mem.head _)
    obtain rfl : A6v = A := by simpa using eA
    obtain ⟨B, eB, pB⟩ : ∃ A, Value.agg A26v = .agg A ∧ Pair W A := hd 26 (List.Mem.tail _ (List.Mem.head _))
    obtain rfl : A26v = B := by simpa using eB
    have pp : PVs W PA := ⟨_, PV6.out.kept hW⟩
    have pq : PVs W QA := ⟨_, QV6.out.kept hW⟩
    have pm : PVs W AM := ⟨_, PM6.out.kept hW⟩
    have t1 : Pair W (PA ++ QA) := ⟨_, _, rfl, pp, pq⟩
    have t2 : Pair W (AM ++ PA) := ⟨_, _, rfl, pm, pp⟩
    have t3 : Pair W (AM ++ AM) := ⟨_, _, rfl, pm, pm⟩
    rw [exec_five 70 (.tmp 58) (.tmp 61) (.tmp 64) (.tmp 67) (.tmp 78) rfl rtPairs (by decide) rfl rfl rfl rfl rfl pA.size t1.size t2.size t3.size pB.size]
    have kA : ∀ c, Kept None W (W.alloc c) := fun c => (Kept.refl None W).alloc c
    exact ⟨kA _, ⟨_, rfl⟩, _, rfl, five_at (Blk.new W _ _) pA.size t1.size t2.size t3.size (pA.kept (kA _)) (t1.kept (kA _)) (t2.kept (kA _)) (t3.kept (kA _)) (pB.kept (kA _))⟩
  obtain ⟨g27, rfl⟩ : ∃ g, v27 = .slice (some ⟨g, 0, none⟩) 5 5 := hv
  simp only [Act.put, List.setIfInBounds_toArray, List.set_cons_zero, List.set_cons_succ]
  iterate 2 (refine wpPar_pure rfl (by rfl) _ (fun W hW => by
      go_simp
      exact rfl) ?_; simp only [Act.put, List.setIfInBounds_toArray, List.set_cons_zero, List.set_cons_succ])
  refine wpPar_nil (fun wR hW hG => ?_)
  obtain ⟨g, hg3, hrow⟩ : ∃ g, Value.slice (some ⟨g27, 0, none⟩) 5 5 = .slice (some ⟨g, 0, none⟩) 5 5 ∧ ∀ j, j < 5 → ∃ X, Pair wR X ∧ wR.rangeAt g (j * 132) X.toList := hG 27
  obtain rfl : g27 = g := by simpa using hg3
  have KR := hid (K6.out.trans hW)
  have BI := hid (B16.out.kept hW (fun h => h))
  have ROW := hid hrow
  clear hG hs hW hg3 hrow K6 B9 B10 B11 B16 B17 PV6 QV6 PM6 FB1 FB2
  go_wp2
  have BASE := hid (Kept.refl None wR)
  go_loopg [81] 5 (fun kx s81 wr => ∃ j : Nat, s81 = .int .i64 j ∧ j ≤ 5 ∧ 5 - j ≤ kx ∧ Hid (Kept None wR wr))
  case atStart => exact ⟨0, rfl, by omega, by omega, BASE.out⟩
  case round =>
    obtain ⟨j, rfl, hj, hjx, HKr⟩ := hrel
    by_cases hlt : j < 5
    · have hjz : (j : Int) < 5 := by omega
      obtain ⟨wo, rfl⟩ : ∃ wo : World, wo = wr := ⟨_, rfl⟩
      obtain ⟨C, hpc, hrc⟩ := ROW.out j hlt
      have hpc := hpc.kept HKr.out
      have hrc := rangeAt_kept hrc HKr.out
      have sC := hpc.size
      obtain ⟨A1, A2, hC, ⟨p1, hp1⟩, ⟨p2, hp2⟩⟩ := hpc
      have allC : C.all (·.oneCell') = true := by rw [hC, Array.all_append, hp1.all, hp2.all]; rfl
      obtain ⟨CQ, hCQ⟩ : ∃ c, c = C.toList := ⟨_, rfl⟩
      rw [← hCQ] at hrc
      have hQ : CQ.toArray = C := by rw [hCQ]
      have aC : AggTy Try.prog 69 C.size := by rw [sC]; exact aP2
      have aCQ : AggTy Try.prog 69 CQ.length := by rw [hCQ, Array.length_toList]; exact aC
      have a1 := PV.agg hp1
      have a2 := PV.agg hp2
      have RQ := hid hrc
      have HQ := hid hQ
      have HC := hid (And.intro sC (And.intro allC hC))
      have PV1 := hid hp1
      have PV2 := hid hp2
      clear hCQ hrc hQ sC allC hC hp1 hp2
      go_upto_region 11 with (first | (refine wpList_load_at rfl _ _ rfl rfl RQ.out aCQ ?_; rw [HQ.out]) | (refine wpList_store_blk (.refl _) _ _ _ rfl rfl rfl (Blk.new _ _ _) aC (HC.out.1.symm ▸ rfl) HC.out.2.1 ?_; intro wa h19 ka; have koa := ka.fresh) | fail)
      have Ka := hid (HKr.out.trans koa)
      have PVa := hid (PV1.out.kept koa)
      have QVa := hid (PV2.out.kept koa)
      have B19 := hid h19
      obtain ⟨g19, hg19⟩ : ∃ g, g = wo.heap.size := ⟨_, rfl⟩
      rw [← hg19] at B19 ⊢
      obtain ⟨C1, hC1⟩ : ∃ c, c = A1.toList := ⟨_, rfl⟩
      obtain ⟨C2, hC2⟩ : ∃ c, c = A2.toList := ⟨_, rfl⟩
      have r1 : wa.rangeAt g19 0 C1 := by rw [hC1]; exact range_mid (L := #[]) (R := A2) B19.out (by rw [HC.out.2.2]; simp) rfl
      have r2 : wa.rangeAt g19 66 C2 := by rw [hC2]; exact range_mid (L := A1) (R := #[]) B19.out (by rw [HC.out.2.2]; simp) PV1.out.size
      have x1 : AggTy Try.prog 63 C1.length := by rw [hC1, Array.length_toList]; exact a1
      have x2 : AggTy Try.prog 63 C2.length := by rw [hC2, Array.length_toList]; exact a2
      have HX := hid (And.intro (show C1.toArray = A1 by rw [hC1]) (show C2.toArray = A2 by rw [hC2]))
      have R1 := hid r1
      have R2 := hid r2
      have BIa := hid (BI.out.kept Ka.out (fun h => h))
      obtain ⟨bo, hbo⟩ : ∃ b, b = clashO i p1 p2 := ⟨_, rfl⟩
      obtain ⟨TA, hTA⟩ : ∃ b, b = clashA i p1 p2 := ⟨_, rfl⟩
      obtain ⟨TB, hTB⟩ : ∃ b, b = clashB i p1 p2 := ⟨_, rfl⟩
      have htr : bo = true → TA ≠ TB ∧ sumB TA = sumB TB := by rw [hbo, hTA, hTB]; exact fun h => clash_true PV1.out.1 PV2.out.1 h
      have f1 := fun W (h : PV p1 W A1) (h' : PV p2 W A2) => clash i p1 p2 A1 A2 W HIA.out.2.1 h h'
      have f2 := fun W (h : PV p1 W A1) (h' : PV p2 W A2) => RPr.clash i p1 p2 A1 A2 W HIA.out.2.1 h h'
      rw [← hbo, ← hTA, ← hTB] at f1 f2
      simp only [hashV, ← HIA.out.1] at f1 f2
      have F1 := hid f1
      have F2 := hid f2
      have HTR := hid htr
      clear ka koa h19 hg19 RQ aCQ hC1 hC2 r1 r2 hbo hTA hTB htr f1 f2 a1 a2 PV1 PV2 HKr
      simp only [Act.put]
      go_wp2_with (first | (refine wpList_load_blk rfl _ _ rfl rfl BIa.out aIA ?_) | (refine wpList_load_at rfl _ _ rfl rfl R1.out x1 ?_; rw [HX.out.1]) | (refine wpList_load_at rfl _ _ rfl rfl R2.out x2 ?_; rw [HX.out.2]) | fail)
      refine (F1.out wa PVa.out QVa.out).mono ?_
      rintro e wb ⟨u1, v1, rfl, kb, ru1, rv1⟩
      have Kb := hid (Ka.out.trans kb)
      have PVb := hid (PVa.out.kept kb)
      have QVb := hid (QVa.out.kept kb)
      have R1 := hid (rangeAt_kept R1.out kb)
      have R2 := hid (rangeAt_kept R2.out kb)
      have BIb := hid (BIa.out.kept kb (fun h => h))
      obtain ⟨a20, c20, rfl⟩ := ru1.form
      obtain ⟨a21, c21, rfl⟩ := rv1.form
      have U1 := hid ru1
      have V1 := hid rv1
      clear kb ru1 rv1 Ka PVa QVa BIa F1
      go_wp2_with (first | (refine wpList_load_blk rfl _ _ rfl rfl BIb.out aIA ?_) | (refine wpList_load_at rfl _ _ rfl rfl R1.out x1 ?_; rw [HX.out.1]) | (refine wpList_load_at rfl _ _ rfl rfl R2.out x2 ?_; rw [HX.out.2]) | fail)
      refine (F2.out wb PVb.out QVb.out).mono ?_
      rintro e wc ⟨u2, v2, rfl, kc, ru2, rv2⟩
      have Kc := hid (Kb.out.trans kc)
      obtain ⟨a23, c23, rfl⟩ := ru2.form
      obtain ⟨a24, c24, rfl⟩ := rv2.form
      have U2 := hid ru2
      have V2 := hid rv2
      have U1 := hid (U1.out.kept kc)
      have V1 := hid (V1.out.kept kc)
      have cu1 := cvBytes U1.out.all
      have cv1 := cvBytes V1.out.all
      have cu2 := cvBytes U2.out.all
      have cv2 := cvBytes V2.out.all
      clear kc ru2 rv2 Kb PVb QVb BIb F2 R1 R2 x1 x2 HX
      have kx : ∀ W, Kept None wc W → Kept None wR W := fun W h => Kc.out.trans h
      cases bo with
      | false =>
        have wk : IntKind.i64.wrap ((j : Int) + 1) = (j : Int) + 1 := by rw [IntKind.wrap_i64]; omega
        go_wp2_with (first | go_skip | fail)
        go_roundg (5 - (j + 1))
        case measure => omega
        case rel => exact ⟨j + 1, by go_num, by omega, Nat.le_refl _, Kc.out⟩
      | true =>
        obtain ⟨hne, hsum⟩ := HTR.out rfl
        have hse : (TA == TB) = false := by rw [beq_eq_false_iff_ne]; exact hne
        have fs1 := fun W (h : Rb 0 W (.slice a20 TA.length c20) TA) => Sp.sum _ _ _ TA W h.all
        have fs2 := fun W (h : Rb 0 W (.slice a21 TB.length c21) TB) => Sp.sum _ _ _ TB W h.all
        rw [← hsum] at fs2
        obtain ⟨SA, hSA⟩ : ∃ A : Array Value, A = ((sumB TA).map u8v).toArray := ⟨_, rfl⟩
        have e1 := Hk.neqHash (sumB TA) (sumB TA) (sumB_len _) (sumB_len _)
        rw [beq_self_eq_true, ← hSA] at e1
        simp only [hashV, ← hSA] at fs1 fs2
        have FS1 := hid fs1
        have FS2 := hid fs2
        clear hSA fs1 fs2 hsum HTR
        go_wp2_with (first | go_skip | fail)
        refine (FS1.out wc U1.out).mono ?_
        rintro e wd ⟨rfl, kd⟩
        have Kd := hid (Kc.out.trans kd)
        have V1 := hid (V1.out.kept kd)
        clear kd cu1 cv1 cu2 cv2 Kc U1
        go_wp2_with (first | go_skip | fail)
        refine (FS2.out wd V1.out).mono ?_
        rintro e we ⟨rfl, ke⟩
        have Ke := hid (Kd.out.trans ke)
        have wk : IntKind.i64.wrap ((j : Int) + 1) = (j : Int) + 1 := by rw [IntKind.wrap_i64]; omega
        clear ke
        go_wp2_with (first | go_skip | fail)
        go_roundg (5 - (j + 1))
        case measure => omega
        case rel => exact ⟨j + 1, by go_num, by omega, Nat.le_refl _, Ke.out⟩
    · have hjz : ¬ (j : Int) < 5 := by omega
      have KZ := hid (KR.out.trans HKr.out)
      go_wp2
      go_ret
      exact ⟨rfl, KZ.out⟩
end Pr
end Go.Proofs.Ytidegffdhpdhjaa
