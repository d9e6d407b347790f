/- tree.Set: by contract. -/
import Derived.Test.YtidegffdhpdhjaaTreeCat6
import Derived.Test.YtidegffdhpdhjaaTreeCmp6
namespace Go.Pm
open Go Go.RowKit
theorem lastsTo_keep {r : List It} {k : Nat} {x : It} (h1 : r[k]? = some x) (h2 : ∀ y, r[k + 1]? = some y → y.i ≠ x.i) : lastsTo r (k + 1) = lastsTo r k ++ [x] := by
  rw [lastsTo_succ, h1]
  cases h : r[k + 1]? with
  | none => rfl
  | some y => simp [h2 y h]
theorem lastsTo_drop {r : List It} {k : Nat} {x y : It} (h1 : r[k]? = some x) (h2 : r[k + 1]? = some y) (h : y.i = x.i) : lastsTo r (k + 1) = lastsTo r k := by
  rw [lastsTo_succ, h1, h2]
  simp [h]
/-- What stands between two rounds of Set: the last ones so far, then what is still to be asked. -/
structure Mid (e : TypeId) (w0 : World) (g c : Nat) (r : List It) (k o : Nat) (w : World) (X : List It) : Prop where
  len : X.length = r.length
  many : o = (lastsTo r k).length
  take : X.take o = lastsTo r k
  drop : X.drop k = r.drop k
  ito : Ito e w w0.heap.size (.slice (some ⟨g, 0, none⟩) r.length c) X
  kept : Kept None w0 w
theorem Mid.ok {e : TypeId} {w0 w : World} {g c : Nat} {r X : List It} {k o : Nat} (h : Mid e w0 g c r k o w X) : o ≤ k := by rw [h.many]; exact lastsTo_len r k
theorem Mid.at {e : TypeId} {w0 w : World} {g c : Nat} {r X : List It} {k o : Nat} (h : Mid e w0 g c r k o w X) (j : Nat) (hj : k ≤ j) : X[j]? = r[j]? := by
  have h1 : (X.drop k)[j - k]? = (r.drop k)[j - k]? := by rw [h.drop]
  rwa [List.getElem?_drop, List.getElem?_drop, show k + (j - k) = j by omega] at h1
theorem Mid.go {e : TypeId} {w0 w w' : World} {g c : Nat} {r X : List It} {k o : Nat} (h : Mid e w0 g c r k o w X) (hk : Kept None w w') : Mid e w0 g c r k o w' X :=
  ⟨h.len, h.many, h.take, h.drop, h.ito.kept hk (fun _ _ h => h), h.kept.trans hk⟩
theorem Mid.skip {e : TypeId} {w0 w : World} {g c : Nat} {r X : List It} {k o : Nat} {x y : It} (h : Mid e w0 g c r k o w X) (h1 : r[k]? = some x) (h2 : r[k + 1]? = some y) (hxy : y.i = x.i) : Mid e w0 g c r (k + 1) o w X := by
  have e1 := lastsTo_drop h1 h2 hxy
  refine ⟨h.len, by rw [e1]; exact h.many, by rw [e1]; exact h.take, ?_, h.ito, h.kept⟩
  rw [← List.drop_drop, h.drop, List.drop_drop]
theorem Mid.put {e : TypeId} {w0 w w' : World} {g c : Nat} {r X : List It} {k o : Nat} {x : It} (h : Mid e w0 g c r k o w X) (hkr : k < r.length) (h1 : r[k]? = some x) (h2 : ∀ y, r[k + 1]? = some y → y.i ≠ x.i)
    (hi : Ito e w' w0.heap.size (.slice (some ⟨g, 0, none⟩) r.length c) (X.set o x)) (hk : Kept (Just g) w w') : Mid e w0 g c r (k + 1) (o + 1) w' (X.set o x) := by
  have e1 := lastsTo_keep h1 h2
  have ho := h.ok
  have hoX : o < X.length := by have := h.len; omega
  refine ⟨by rw [List.length_set]; exact h.len, by rw [e1, List.length_append, ← h.many]; rfl, ?_, ?_, hi, ?_⟩
  · rw [e1, List.take_succ_eq_append_getElem (by rw [List.length_set]; exact hoX), List.getElem_set_self, List.take_set_of_le (Nat.le_refl _), h.take]
  · rw [List.drop_set_of_lt (by omega), ← List.drop_drop, h.drop, List.drop_drop]
  · exact h.kept.then hk (fun i hi2 (e : i = g) => by
      have := (h.ito.own g (by rfl)).1
      omega)
end Go.Pm
namespace Go.Proofs.Ytidegffdhpdhjaa
open Go.RowKit Go.Pm

namespace Tr
theorem uHash : Try.prog.underlying 23 = some (.array 32 5) := by kernel_rfl
theorem uByte : Try.prog.underlying 5 = some (.int .u8) := by kernel_rfl
theorem zByte : ∀ w, (sizeOf 5).run Try.prog w = .ok 1 w := fun _ => by kernel_rfl
/-- Two hashes, held against one another. -/
theorem eqHash (xs ys : List UInt8) (hx : xs.length = 32) (hy : ys.length = 32) : ∀ w, (binOp .eql 23 (.agg (xs.map u8v).toArray) (.agg (ys.map u8v).toArray)).run Try.prog w = .ok (.bool (xs == ys)) w := run_eql_hash uByte zByte uHash xs ys hx hy
theorem neqHash (xs ys : List UInt8) (hx : xs.length = 32) (hy : ys.length = 32) : ∀ w, (binOp .neq 23 (.agg (xs.map u8v).toArray) (.agg (ys.map u8v).toArray)).run Try.prog w = .ok (.bool (!(xs == ys))) w := run_neq_hash uByte zByte uHash xs ys hx hy
theorem tail_none (w : World) (r : List It) (base n c : Nat) (h : Ito 61 w base (.slice none n c) r) : n = 0 ∧ c = 0 ∧ r = [] := by
  rcases h.2.2 with ⟨h1, h0⟩ | ⟨g, cap, cur, h1, _⟩
  · injection h1 with e1 e2 e3
    exact ⟨e2, e3, List.eq_nil_of_length_eq_zero h0⟩
  · injection h1 with e1; cases e1

set_option maxRecDepth 100000 in
set_option maxHeartbeats 8000000 in
/-- tree.Set. -/
theorem set (v1 v2 : Value) (lo hi lo' hi' : Nat) (l m : List It) (w : World) (h1 : Its w lo hi v1 l) (h2 : Its w lo' hi' v2 m) (hl : l.length + m.length ≤ 1099511627776) :
    Calls Try.prog 103 #[v1, v2] w fun e w' => ∃ v, e = .returned v ∧ Ito 61 w' w.heap.size v (setI (l ++ m)) ∧ Kept None w w' := by
  obtain ⟨a1, c1, rfl, _, _, _⟩ := h1.form
  obtain ⟨a2, c2, rfl, _, _, _⟩ := h2.form
  have k0 : Kept None w (w.alloc (.cells #[.slice a1 l.length c1, .slice a2 m.length c2] 64)) := (Kept.refl _ _).alloc _
  have hb := Blk.new w #[.slice a1 l.length c1, .slice a2 m.length c2] 64
  have i1 := h1.kept k0 (fun _ _ _ h => h)
  have i2 := h2.kept k0 (fun _ _ _ h => h)
  have HC := hid (concat _ _ _ _ _ _ _ _ l m _ hb i1 i2 hl)
  clear hb i1 i2 h1 h2
  go_enter Try.func103, Try.ntmps103
  go_wp2_with fail
  refine HC.out.mono ?_
  rintro e w1 ⟨v, rfl, hO1, k1⟩
  have hO1' := hO1.base (base' := w.heap.size) (by simp)
  have k01 := k0.trans k1
  clear HC hO1 k0 k1
  go_wp2_with fail
  refine (sort hO1' (by simpa using hl)).mono ?_
  rintro e w2 ⟨rfl, r, hst, hO, k2⟩
  have k02 : Kept None w w2 := Kept.own k01 k2 (fun q hq => (hO1'.own q hq).1)
  have hlen : r.length ≤ 1099511627776 := by rw [hst.1.length_eq]; simpa using hl
  have HS := hid (set_stable hst)
  clear hst hO1' k01 k2 hl
  rcases hO.2.2 with ⟨rfl, h0⟩ | ⟨g, c, cur, rfl, hgb, _, hnc, hcm, _⟩
  · obtain rfl := List.eq_nil_of_length_eq_zero h0
    have HO := hid hO
    have K2 := hid k02
    clear hO k02 h0 hlen
    go_wp2
    go_loopg [6, 7, 8, 19] 0 (fun _ s6 s7 s8 s19 wr => s6 = .slice none 0 0 ∧ (∃ v, s7 = v) ∧ (∃ v, s8 = v) ∧ s19 = .int .i64 0 ∧ w2 = wr)
    case atStart => exact ⟨rfl, ⟨_, rfl⟩, ⟨_, rfl⟩, rfl, rfl⟩
    case round =>
      obtain ⟨rfl, ⟨_, rfl⟩, ⟨_, rfl⟩, rfl, rfl⟩ := hrel
      go_wp2
      go_ret
      exact ⟨_, rfl, by rw [← HS.out]; exact HO.out, K2.out⟩
  · have hcm' : c ≤ 9223372036854775807 := hcm
    have hM : Mid 61 w g c r 0 0 w2 r := ⟨rfl, rfl, rfl, rfl, hO, k02⟩
    have HM := hid hM
    obtain ⟨n, hn⟩ : ∃ n, n = r.length := ⟨_, rfl⟩
    rw [← hn] at hnc hlen ⊢
    have HN := hid hn
    clear hO k02 hM hn hcm
    go_wp2
    go_loopg [6, 7, 8, 19] n (fun kx s6 s7 s8 s19 wr => ∃ (k o : Nat) (X : List It) (v7 v8 : Value), s6 = .slice (some ⟨g, 0, none⟩) o c ∧ s7 = v7 ∧ s8 = v8 ∧ s19 = .int .i64 k ∧ k ≤ n ∧ o ≤ k ∧ n - k ≤ kx ∧ Hid (Mid 61 w g c r k o wr X))
    case atStart => exact ⟨0, 0, r, _, _, rfl, rfl, rfl, rfl, Nat.zero_le _, Nat.le_refl _, Nat.le_refl _, HM⟩
    case round =>
      obtain ⟨k, o, X, v7, v8, rfl, rfl, rfl, rfl, hkn, hok, hkx, HX⟩ := hrel
      clear HM
      by_cases hlt : k < n
      · have hltz : (k : Int) < (n : Int) := by omega
        have rk : IntKind.i64.wrap ((k : Int) + 1) = (k : Int) + 1 := by rw [IntKind.wrap_i64]; omega
        obtain ⟨x, hx⟩ : ∃ x, r[k]? = some x := ⟨_, List.getElem?_eq_getElem (by have := HN.out; omega)⟩
        have hIx := HX.out.ito.its (Nat.le_refl _)
        obtain ⟨b, o', hbo, _, _, q3, hc⟩ := hIx.ne (by have := HX.out.len; have := HN.out; omega)
        obtain ⟨rfl, rfl⟩ : g = b ∧ 0 = o' := by injection hbo with e1; injection e1 with e1 e2; exact ⟨e1, e2⟩
        have hxX : X[k]? = some x := by rw [HX.out.at k (Nat.le_refl _)]; exact hx
        have hxl := hIx.1 x (List.mem_of_getElem? hxX)
        have hcx := hc k x hxX
        simp only [Nat.zero_add] at hcx
        have h64 := itC_len hxl
        have aY : AggTy Try.prog 61 (itC x).length := by rw [h64]; exact RTr.aI64
        have aY' : AggTy Try.prog 61 (itC x).toArray.size := by simpa using aY
        have k0 : Kept None wr (wr.alloc (.cells #[.int .u8 0, .int .u8 0, .int .u8 0, .int .u8 0, .int .u8 0, .int .u8 0, .int .u8 0, .int .u8 0, .int .u8 0, .int .u8 0, .int .u8 0, .int .u8 0, .int .u8 0, .int .u8 0, .int .u8 0, .int .u8 0, .int .u8 0, .int .u8 0, .int .u8 0, .int .u8 0, .int .u8 0, .int .u8 0, .int .u8 0, .int .u8 0, .int .u8 0, .int .u8 0, .int .u8 0, .int .u8 0, .int .u8 0, .int .u8 0, .int .u8 0, .int .u8 0, .int .u8 0, .int .u8 0, .int .u8 0, .int .u8 0, .int .u8 0, .int .u8 0, .int .u8 0, .int .u8 0, .int .u8 0, .int .u8 0, .int .u8 0, .int .u8 0, .int .u8 0, .int .u8 0, .int .u8 0, .int .u8 0, .int .u8 0, .int .u8 0, .int .u8 0, .int .u8 0, .int .u8 0, .int .u8 0, .int .u8 0, .int .u8 0, .int .u8 0, .int .u8 0, .int .u8 0, .int .u8 0, .int .u8 0, .int .u8 0, .int .u8 0, .int .u8 0] 61)) := (Kept.refl _ _).alloc _
        have v0 := Blk.new wr #[.int .u8 0, .int .u8 0, .int .u8 0, .int .u8 0, .int .u8 0, .int .u8 0, .int .u8 0, .int .u8 0, .int .u8 0, .int .u8 0, .int .u8 0, .int .u8 0, .int .u8 0, .int .u8 0, .int .u8 0, .int .u8 0, .int .u8 0, .int .u8 0, .int .u8 0, .int .u8 0, .int .u8 0, .int .u8 0, .int .u8 0, .int .u8 0, .int .u8 0, .int .u8 0, .int .u8 0, .int .u8 0, .int .u8 0, .int .u8 0, .int .u8 0, .int .u8 0, .int .u8 0, .int .u8 0, .int .u8 0, .int .u8 0, .int .u8 0, .int .u8 0, .int .u8 0, .int .u8 0, .int .u8 0, .int .u8 0, .int .u8 0, .int .u8 0, .int .u8 0, .int .u8 0, .int .u8 0, .int .u8 0, .int .u8 0, .int .u8 0, .int .u8 0, .int .u8 0, .int .u8 0, .int .u8 0, .int .u8 0, .int .u8 0, .int .u8 0, .int .u8 0, .int .u8 0, .int .u8 0, .int .u8 0, .int .u8 0, .int .u8 0, .int .u8 0] 61
        obtain ⟨z, hz, hR⟩ : ∃ z : Array Value, z.size = 64 ∧ Blk (wr.alloc (.cells #[.int .u8 0, .int .u8 0, .int .u8 0, .int .u8 0, .int .u8 0, .int .u8 0, .int .u8 0, .int .u8 0, .int .u8 0, .int .u8 0, .int .u8 0, .int .u8 0, .int .u8 0, .int .u8 0, .int .u8 0, .int .u8 0, .int .u8 0, .int .u8 0, .int .u8 0, .int .u8 0, .int .u8 0, .int .u8 0, .int .u8 0, .int .u8 0, .int .u8 0, .int .u8 0, .int .u8 0, .int .u8 0, .int .u8 0, .int .u8 0, .int .u8 0, .int .u8 0, .int .u8 0, .int .u8 0, .int .u8 0, .int .u8 0, .int .u8 0, .int .u8 0, .int .u8 0, .int .u8 0, .int .u8 0, .int .u8 0, .int .u8 0, .int .u8 0, .int .u8 0, .int .u8 0, .int .u8 0, .int .u8 0, .int .u8 0, .int .u8 0, .int .u8 0, .int .u8 0, .int .u8 0, .int .u8 0, .int .u8 0, .int .u8 0, .int .u8 0, .int .u8 0, .int .u8 0, .int .u8 0, .int .u8 0, .int .u8 0, .int .u8 0, .int .u8 0] 61)) wr.heap.size z 61 := ⟨_, by rfl, v0⟩
        have E := hid (hz.trans (show 64 = (itC x).toArray.size by simpa using h64.symm))
        have A1 : (itC x).toArray.all (·.oneCell') = true := all_oneCell_toArray (fun c hc => itsC_one [x] c (by simpa [itsC] using hc))
        have HXX := hid hx
        have HX0 := hid (HX.out.go k0)
        have C0 := hid hc
        have HXL := hid hxl
        have K0 := hid k0
        have H64 := hid h64
        clear v0 hc hxX hbo hz hx hIx q3 k0 h64 hxl
        go_wp2_with (first | (refine wpList_load_at (.refl _) _ _ rfl rfl hcx aY ?_) | (refine wpList_store_blk (.refl _) _ _ _ rfl rfl rfl hR aY' E.out A1 ?_; intro w5 hB5 k5) | fail)
        have hk5 : Kept None wr w5 := K0.out.then k5 (fun i hi (e : i = wr.heap.size) => by omega)
        have HX5 := hid (HX.out.go hk5)
        have HB5 := hid hB5
        have K5 := hid hk5
        clear hR k5 E hcx hk5 HX HX0 K0
        by_cases hlast : k + 1 = n
        · have hd : ((k : Int) + 1 == (n : Int)) = true := by rw [beq_iff_eq]; omega
          have HLAST := hid hlast
          clear hB5 hlast
          go_wp2_with fail
          go_quiet (fail)
          have hB6 : Blk (w5.drewN nq) wr.heap.size (itC x).toArray 61 := HB5.out.drewN nq
          have HX6 := HX5.out.go (Kept.toDrewN None w5 nq)
          generalize w5.drewN nq = w6 at hB6 HX6 ⊢
          have hO1 := Its.one w6 61 x HXL.out
          have HX7 := HX6.go ((Kept.refl None w6).alloc (.cells (itC x).toArray 61))
          have hoX : o < X.length := by have := HX7.len; have := HN.out; omega
          have hto := HX7.ito
          rw [← HN.out] at hto
          have HX8 := hid HX7
          clear HX6 HX7 HX5 HB5 K5 hd
          go_wp2_with (first | (refine wpList_load_blk (.refl _) _ _ rfl rfl hB6 aY' ?_) | (refine wpList_one_item (.refl _) _ _ rfl RTr.rtItems (by decide) rfl (by simpa using H64.out) ?_) | (at_builtin; refine wpList_append_over (u := .slice (some ⟨w6.heap.size, 0, none⟩) 1 1) (.refl _) _ _ 64 rfl RTr.rtItems hto o hoX rfl rfl hO1 ?_; intro w9 hI9 k9) | fail)
          go_roundg (n - (k + 1))
          case measure => omega
          case rel =>
            rw [HN.out] at hI9
            exact ⟨k + 1, o + 1, X.set o x, _, _, rfl, rfl, rfl, by go_num, by omega, by omega, Nat.le_refl _, HX8.out.put (by have := HN.out; omega) HXX.out (fun y hy => by
              rw [List.getElem?_eq_none (by have := HN.out; have := HLAST.out; omega)] at hy; cases hy) hI9 k9⟩
        · have hlt1 : k + 1 < n := by omega
          have hd : ((k : Int) + 1 == (n : Int)) = false := by rw [beq_eq_false_iff_ne]; omega
          have hlz : (k : Int) + 1 < (n : Int) := by omega
          obtain ⟨y, hy⟩ : ∃ y, r[k + 1]? = some y := ⟨_, List.getElem?_eq_getElem (by have := HN.out; omega)⟩
          have hI5 := HX5.out.ito.its (Nat.le_refl _)
          obtain ⟨b, o', hbo, _, _, q3, hc⟩ := hI5.ne (by have := HX5.out.len; have := HN.out; omega)
          obtain ⟨rfl, rfl⟩ : g = b ∧ 0 = o' := by injection hbo with e1; injection e1 with e1 e2; exact ⟨e1, e2⟩
          have hyX : X[k + 1]? = some y := by rw [HX5.out.at (k + 1) (by omega)]; exact hy
          have hyl := hI5.1 y (List.mem_of_getElem? hyX)
          have hcy : w5.rangeAt g ((k + 1) * 64) (y.i.map u8v) := by
            have h := rangeAt_take (hc (k + 1) y hyX) 32
            rw [Nat.zero_add] at h
            rwa [show (itC y).take 32 = y.i.map u8v from List.take_left' (by simp [hyl.1])] at h
          have hcb : w5.rangeAt wr.heap.size 0 (x.i.map u8v) := fun j c hj => by
            have hi := (List.getElem?_eq_some_iff.1 hj).1
            rw [Nat.zero_add, HB5.out.cell]
            simp only [itC, List.getElem?_toArray]
            rw [List.getElem?_append_left hi]
            exact hj
          have aHy : AggTy Try.prog 23 (y.i.map u8v).length := by rw [List.length_map, hyl.1]; exact Sp.aH
          have aHx : AggTy Try.prog 23 (x.i.map u8v).length := by rw [List.length_map, HXL.out.1]; exact Sp.aH
          have e1 := neqHash y.i x.i hyl.1 HXL.out.1
          have HY := hid hy
          clear hB5 hc hyX hy hbo q3 hI5 hlast
          go_wp2_with fail
          refine wp_region_kn w5 [] Steady.nil (Kept.refl _ _) (by kernel_rfl) (by kernel_rfl) (by kernel_rfl) ?_
          iterate 11 (refine wpPar_pure rfl (by rfl) _ (fun W hW => by
              go_simp
              exact rfl) ?_; simp only [Act.put, List.setIfInBounds_toArray, List.set_cons_zero, List.set_cons_succ])
          refine wpPar_pure rfl (by rfl) _ (fun W hW => exec_load_at rfl rfl (rangeAt_kept hcy hW) aHy) ?_; simp only [Act.put, List.setIfInBounds_toArray, List.set_cons_zero, List.set_cons_succ]
          iterate 1 (refine wpPar_pure rfl (by rfl) _ (fun W hW => by
              go_simp
              exact rfl) ?_; simp only [Act.put, List.setIfInBounds_toArray, List.set_cons_zero, List.set_cons_succ])
          refine wpPar_pure rfl (by rfl) _ (fun W hW => exec_load_at rfl rfl (rangeAt_kept hcb hW) aHx) ?_; simp only [Act.put, List.setIfInBounds_toArray, List.set_cons_zero, List.set_cons_succ]
          obtain ⟨yv, hyv⟩ : ∃ yv, yv = (y.i.map u8v).toArray := ⟨_, rfl⟩
          obtain ⟨xv, hxv⟩ : ∃ xv, xv = (x.i.map u8v).toArray := ⟨_, rfl⟩
          rw [← hyv, ← hxv] at e1
          simp only [← hyv, ← hxv]
          clear hyv hxv
          iterate 2 (refine wpPar_pure rfl (by rfl) _ (fun W hW => by
              go_simp
              exact rfl) ?_; simp only [Act.put, List.setIfInBounds_toArray, List.set_cons_zero, List.set_cons_succ])
          refine wpPar_nil (fun w6 hW hG => ?_)
          have hB6 := HB5.out.kept hW (fun h => h)
          have HX6 := HX5.out.go hW
          clear hG hW e1 hcy hcb
          have hO1 := Its.one w6 61 x HXL.out
          have HX7 := HX6.go ((Kept.refl None w6).alloc (.cells (itC x).toArray 61))
          have hoX : o < X.length := by have := HX7.len; have := HN.out; omega
          have hto := HX7.ito
          rw [← HN.out] at hto
          have HX8 := hid HX7
          have HX9 := hid HX6
          clear HX6 HX7 HX5 HB5 K5 hd
          by_cases hxy : y.i = x.i
          · have hb : (!(y.i == x.i)) = false := by simp [hxy]
            have HXY := hid hxy
            clear hxy
            rw [hb]
            go_wp2
            go_roundg (n - (k + 1))
            case measure => omega
            case rel => exact ⟨k + 1, o, X, _, _, rfl, rfl, rfl, by go_num, by omega, by omega, Nat.le_refl _, HX9.out.skip HXX.out HY.out HXY.out⟩
          · have hb : (!(y.i == x.i)) = true := by simp [hxy]
            have HXY := hid hxy
            clear hxy
            rw [hb]
            go_wp2_with (first | (refine wpList_load_blk (.refl _) _ _ rfl rfl hB6 aY' ?_) | (refine wpList_one_item (.refl _) _ _ rfl RTr.rtItems (by decide) rfl (by simpa using H64.out) ?_) | (at_builtin; refine wpList_append_over (u := .slice (some ⟨w6.heap.size, 0, none⟩) 1 1) (.refl _) _ _ 64 rfl RTr.rtItems hto o hoX rfl rfl hO1 ?_; intro w9 hI9 k9) | fail)
            go_roundg (n - (k + 1))
            case measure => omega
            case rel =>
              rw [HN.out] at hI9
              exact ⟨k + 1, o + 1, X.set o x, _, _, rfl, rfl, rfl, by go_num, by omega, by omega, Nat.le_refl _, HX8.out.put (by have := HN.out; omega) HXX.out (fun y' hy' => by
                rw [HY.out] at hy'; cases hy'; exact HXY.out) hI9 k9⟩
      · have hltz : ¬ (k : Int) < (n : Int) := by omega
        go_wp2
        go_ret
        have hk : k = r.length := by have := HN.out; omega
        have ho := HX.out.many
        refine ⟨_, rfl, ?_, HX.out.kept⟩
        have h3 := HX.out.ito.take o (by rw [HX.out.len]; have := HX.out.ok; omega)
        rw [HX.out.take, hk, lastsTo_all, HS.out] at h3
        exact h3
end Tr
end Go.Proofs.Ytidegffdhpdhjaa
