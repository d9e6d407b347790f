/- postmarkhelp.Hashes; a hash stored over in a row of the call's own. -/
import Derived.Test.YtkogkcaflhjlhaaHk8
namespace Go.Pm
open Go Go.RowKit
theorem hsC_set : ∀ {l : List (List UInt8)}, H32 l → ∀ {k : Nat} (x : List UInt8), k < l.length → x.length = 32 → (hsC (l.set k x)).flatten = (hsC l).flatten.take (k * 32) ++ x.map u8v ++ (hsC l).flatten.drop (k * 32 + 32)
  | [], _, k, x, hk, _ => by simp at hk
  | y :: l, h, 0, x, _, hx => by
    have h1 := h.head
    simp [hsC, h1]
  | y :: l, h, k + 1, x, hk, hx => by
    have h1 := h.head
    have h2 := hsC_set (l := l) h.tail (k := k) x (by simpa using hk) hx
    have t1 : (y.map u8v).take ((k + 1) * 32) = y.map u8v := List.take_of_length_le (by simp; omega)
    have d1 : (y.map u8v).drop ((k + 1) * 32 + 32) = [] := List.drop_of_length_le (by simp; omega)
    have e1 : hsC ((y :: l).set (k + 1) x) = y.map u8v :: hsC (l.set k x) := by simp [hsC]
    have e2 : hsC (y :: l) = y.map u8v :: hsC l := by simp [hsC]
    rw [e1, e2, List.flatten_cons, List.flatten_cons, h2, List.take_append, List.drop_append, t1, d1, List.length_map, h1,
      show (k + 1) * 32 - 32 = k * 32 by omega, show (k + 1) * 32 + 32 - 32 = k * 32 + 32 by omega]
    simp
theorem H32.set {l : List (List UInt8)} (h : H32 l) (k : Nat) {x : List UInt8} (hx : x.length = 32) : H32 (l.set k x) := fun z hz => by
  rcases List.mem_or_eq_of_mem_set hz with h2 | rfl
  · exact h z h2
  · exact hx
theorem hsC_flat {l : List (List UInt8)} (h : H32 l) : (hsC l).flatten.length = l.length * 32 := by rw [flat_len (hsC_each h), hsC_len]
/-- One of the call's own hashes, stored over, for the walk. -/
theorem wpList_store_hash {P : Program} {ops : Array Oper} {rest : List Oper} {op : Oper} {a : Act} {w : World} {Q : Exit → Act → World → Prop} (hgd : op.guard = none) (ty : TypeId) (x y : Operand) (ho : op.op = .store ty x y)
    {e : TypeId} {base g n cap : Nat} {l : List (List UInt8)} (hown : Ho e w base (.slice (some ⟨g, 0, none⟩) n cap) l) {k : Nat} (hk : k < l.length) {v : List UInt8} (hv : v.length = 32)
    (hx : a.eval x = .pointer (some ⟨g, k * 32, none⟩)) (hy : a.eval y = .agg (v.map u8v).toArray) (hT : AggTy P ty 32)
    (h : ∀ w', Ho e w' base (.slice (some ⟨g, 0, none⟩) n cap) (l.set k v) → Kept (Just g) w w' → wpList P ops Q rest (a.put op.dst undef) w') : wpList P ops Q (op :: rest) a w := by
  obtain ⟨h32, hf, hlen, h2⟩ := hown
  rcases h2 with ⟨h3, _⟩ | ⟨g', cap', cur, hvv, hb, hg, hnc, hcm, hcs, htake⟩
  · cases h3
  injection hvv with e1 e2 e3
  obtain rfl : g = g' := by simpa using e1
  subst e2 e3
  rw [hsC_len] at hlen hnc htake h
  have hblk : Blk w g cur e := hg
  have hL := hsC_flat h32
  have hfit : k * 32 + 32 ≤ cur.size := by omega
  refine wpList_store_mid hgd ty x y ho g (k * 32) (v.map u8v).toArray hx hy (fun j hj => ?_) (by simpa [hv] using hT.size) (u8v_all' v) ?_
  · simp only [List.size_toArray, List.length_map, hv] at hj
    refine ⟨?_, hblk.free _⟩
    rw [hblk.cell]
    simp [show k * 32 + j < cur.size by omega]
  · refine h _ ⟨h32.set k hv, hsC_each (h32.set k hv), ?_, ?_⟩ (kept_setCells (S := Just g) (fun _ => rfl) _ _ _ (Kept.refl _ _))
    · rw [hsC_flat (h32.set k hv), hsC_len]
    · refine .inr ⟨g, cap, _, by rw [hsC_len, List.length_set], hb, Blk.setCells (v.map u8v) (k * 32) w cur hblk (by rw [List.length_map, hv]; omega), by rw [hsC_len, List.length_set]; exact hnc, hcm, ?_, ?_⟩
      · simp only [List.size_toArray, List.length_append, List.length_take, List.length_drop, Array.length_toList, List.length_map, hv]
        omega
      · rw [hsC_len, List.length_set, hsC_set h32 v hk hv, ← htake]
        have q1 : (cur.toList.take (l.length * 32)).take (k * 32) = cur.toList.take (k * 32) := by rw [List.take_take, Nat.min_eq_left (by omega)]
        rw [q1]
        rw [List.take_append, List.take_append]
        simp only [List.length_append, List.length_take, Array.length_toList, List.length_map, hv]
        rw [Nat.min_eq_left (by omega), List.take_of_length_le (by simp; omega), List.take_of_length_le (l := v.map u8v) (by simp; omega), List.drop_take, show k * 32 + 32 = k * 32 + 32 from rfl]
end Go.Pm
namespace Go.Proofs.Ytkogkcaflhjlhaa
open Go.RowKit Go.Pm
namespace Hk
set_option maxRecDepth 100000 in
set_option maxHeartbeats 1000000 in
/-- Hashes. -/
theorem hashes (va vb : Value) (xs ys : List (List UInt8)) (w : World) (ha : Rh 0 w va xs) (hb : Rh 0 w vb ys) : Calls Try.prog 14 #[va, vb] w fun e w' => e = .returned (.bool (decide (xs = ys))) ∧ Kept None w w' := by
  obtain ⟨h1, ha⟩ := ha
  obtain ⟨h2, hb⟩ := hb
  obtain ⟨a1, c1, rfl, p1, p2, _⟩ := ha.form
  obtain ⟨a2, c2, rfl, p3, p4, _⟩ := hb.form
  obtain ⟨n, hn⟩ : ∃ n, n = xs.length := ⟨_, rfl⟩
  obtain ⟨m, hm⟩ : ∃ n, n = ys.length := ⟨_, rfl⟩
  rw [← hn] at ha p1 ⊢
  rw [← hm] at hb p3 ⊢
  obtain ⟨r, hr⟩ : ∃ r, r = decide (xs = ys) := ⟨_, rfl⟩
  rw [← hr]
  have HA := hid ha
  have HB := hid hb
  have HN := hid (And.intro hn hm)
  have HR := hid hr
  clear ha hb hn hm hr
  by_cases hnm : n = m
  · subst hnm
    go_enter Try.func14, Try.ntmps14
    go_wp2
    go_loopg [5] n (fun kx s5 wr => ∃ k : Nat, s5 = .int .i64 k ∧ k ≤ n ∧ n - k ≤ kx ∧ Hid (Kept None w wr) ∧ Hid (xs.take k = ys.take k))
    case atStart => exact ⟨0, rfl, Nat.zero_le _, Nat.le_refl _, Kept.refl _ _, hid (by simp)⟩
    case round =>
      obtain ⟨k, rfl, hk, hkx, HK, HT⟩ := hrel
      by_cases hlt : k < n
      · have hz : (k : Int) < (n : Int) := by omega
        have i1 := HA.out.kept HK.out (fun _ _ _ h => h)
        have i2 := HB.out.kept HK.out (fun _ _ _ h => h)
        have l1 : k < xs.length := by have := HN.out; omega
        have l2 : k < ys.length := by have := HN.out; omega
        obtain ⟨b1, o1, q1, _, _, _, s1⟩ := i1.lo (by omega)
        obtain ⟨b2, o2, q2, _, _, _, s2⟩ := i2.lo (by omega)
        obtain rfl := q1
        obtain rfl := q2
        have r1 := s1 k l1
        have r2 := s2 k l2
        have e1 := Hk.neqHash xs[k] ys[k] (HA.out.1 _ (List.getElem_mem l1)) (HB.out.1 _ (List.getElem_mem l2))
        have aX := Hk.aH32' (HA.out.1 _ (List.getElem_mem l1))
        have aY := Hk.aH32' (HB.out.1 _ (List.getElem_mem l2))
        have t1 := List.take_succ_eq_append_getElem l1
        have t2 := List.take_succ_eq_append_getElem l2
        obtain ⟨x, hx⟩ : ∃ x, x = xs[k] := ⟨_, rfl⟩
        obtain ⟨y, hy⟩ : ∃ y, y = ys[k] := ⟨_, rfl⟩
        rw [← hx] at r1 e1 aX t1
        rw [← hy] at r2 e1 aY t2
        obtain ⟨CX, hCX⟩ : ∃ C, C = x.map u8v := ⟨_, rfl⟩
        obtain ⟨CY, hCY⟩ : ∃ C, C = y.map u8v := ⟨_, rfl⟩
        rw [← hCX] at r1 e1 aX
        rw [← hCY] at r2 e1 aY
        have HXY := hid (And.intro hx (And.intro hy (And.intro t1 t2)))
        have R1 := hid r1
        have R2 := hid r2
        obtain ⟨bE, hbE⟩ : ∃ b, b = (x == y) := ⟨_, rfl⟩
        rw [← hbE] at e1
        have HBE := hid hbE
        clear hCX hCY i1 i2 hx hy t1 t2 r1 r2 hbE s1 s2
        go_wp2_with fail
        have hs : Steady [] := Steady.nil
        refine wp_region_kn wr _ hs (Kept.refl _ _) (by kernel_rfl) (by kernel_rfl) (by kernel_rfl) ?_
        iterate 3 (refine wpPar_pure rfl (by rfl) _ (fun W hW => by
            go_simp
            exact rfl) ?_; simp only [Act.put, List.setIfInBounds_toArray, List.set_cons_zero, List.set_cons_succ])
        refine wpPar_pure rfl (by rfl) _ (fun W hW => exec_load_at rfl rfl (rangeAt_kept R1.out hW) aX) ?_; simp only [Act.put, List.setIfInBounds_toArray, List.set_cons_zero, List.set_cons_succ]
        iterate 3 (refine wpPar_pure rfl (by rfl) _ (fun W hW => by
            go_simp
            exact rfl) ?_; simp only [Act.put, List.setIfInBounds_toArray, List.set_cons_zero, List.set_cons_succ])
        refine wpPar_pure rfl (by rfl) _ (fun W hW => exec_load_at rfl rfl (rangeAt_kept R2.out hW) aY) ?_; simp only [Act.put, List.setIfInBounds_toArray, List.set_cons_zero, List.set_cons_succ]
        cases bE with
        | true =>
          iterate 1 (refine wpPar_pure rfl (by rfl) _ (fun W hW => by
              go_simp
              exact rfl) ?_; simp only [Act.put, List.setIfInBounds_toArray, List.set_cons_zero, List.set_cons_succ])
          refine wpPar_nil (fun w6 hW hG => ?_)
          have HW := hid (HK.out.trans hW)
          have HT2 : Hid (xs.take (k + 1) = ys.take (k + 1)) := hid (by
            have hxy : x = y := by have := HBE.out; simpa using this.symm
            rw [HXY.out.2.2.1, HXY.out.2.2.2, HT.out, hxy])
          clear hG hs hW HK e1 R1 R2
          go_wp2
          go_roundg (n - (k + 1))
          case measure => omega
          case rel => exact ⟨k + 1, by go_num, by omega, Nat.le_refl _, HW, HT2⟩
        | false =>
          iterate 1 (refine wpPar_pure rfl (by rfl) _ (fun W hW => by
              go_simp
              exact rfl) ?_; simp only [Act.put, List.setIfInBounds_toArray, List.set_cons_zero, List.set_cons_succ])
          refine wpPar_nil (fun w6 hW hG => ?_)
          have HW := hid (HK.out.trans hW)
          clear hG hs hW HK e1 R1 R2
          go_wp2
          go_ret
          exact ⟨by rw [HR.out, decide_eq_false (fun h => by
            have hxy : x ≠ y := by have := HBE.out; simpa using this.symm
            apply hxy
            rw [HXY.out.1, HXY.out.2.1]
            simp [h])]; rfl, HW.out⟩
      · have hz : ¬ (k : Int) < (n : Int) := by omega
        obtain rfl : k = n := by omega
        go_wp2
        go_ret
        exact ⟨by rw [HR.out, decide_eq_true (by
          have := HT.out
          rwa [List.take_of_length_le (by have := HN.out; omega), List.take_of_length_le (by have := HN.out; omega)] at this)]; rfl, HK.out⟩
  · have e1 : ((n : Int) == (m : Int)) = false := by rw [beq_eq_false_iff_ne]; omega
    have e2 : ((n : Int) != (m : Int)) = true := by rw [bne_iff_ne]; omega
    go_enter Try.func14, Try.ntmps14
    go_wp2
    go_ret
    exact ⟨by rw [HR.out, decide_eq_false (fun h => hnm (by rw [HN.out.1, HN.out.2, h]))]; rfl, Kept.refl _ _⟩

end Hk
end Go.Proofs.Ytkogkcaflhjlhaa
