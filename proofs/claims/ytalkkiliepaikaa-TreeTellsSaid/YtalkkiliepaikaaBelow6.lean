/- postmarkhelp.Items of the same items; postmarklaw6.below: by contract. -/
import Derived.Test.YtalkkiliepaikaaKnown6
import Derived.Test.YtalkkiliepaikaaItems6
namespace Go.Proofs.Ytalkkiliepaikaa
open Go.RowKit Go.Pm

namespace Tr
theorem uItem : Try.prog.underlying 35 = some (.struct (Try.prog.fieldsOf 35)) := by kernel_rfl
theorem fItem : (Try.prog.fieldsOf 35).toList.map (fun f => (f.name == "_", f.type, f.offset)) = [(false, 24, 0), (false, 24, 32)] := by kernel_rfl
theorem hItem : Try.prog.stoodInHeld 35 = false := by kernel_rfl
theorem eqFields_two {P : Program} {w : World} {xs ys : Array Value} {t : TypeId} {d : Nat} : ∀ {fs : List Field}, fs.map (fun f => (f.name == "_", f.type, f.offset)) = [(false, t, 0), (false, t, 32)] → (∀ w, (isAgg t).run P w = .ok true w) → (∀ w, (sizeOf t).run P w = .ok 32 w) →
    (Op.equalIn d t (.agg (xs.extract 0 32)) (.agg (ys.extract 0 32))).run P w = .ok true w → (Op.equalIn d t (.agg (xs.extract 32 64)) (.agg (ys.extract 32 64))).run P w = .ok true w → (Op.eqFields d xs ys fs).run P w = .ok true w
  | [f, g], h, ha, hs, h1, h2 => by
    simp only [List.map_cons, List.map_nil, List.cons.injEq, Prod.mk.injEq, and_true, beq_eq_false_iff_ne] at h
    obtain ⟨⟨f1, f2, f3⟩, g1, g2, g3⟩ := h
    simp only [Op.eqFields, f1, g1, ne_eq, not_false_eq_true, if_true, part, f2, f3, g2, g3, Sem.run_bind, ha, hs, Result.andThen_ok, Sem.run_pure, Nat.zero_add, h1, h2, Bool.not_true, Bool.false_eq_true, if_false]
  | [], h, _, _, _, _ => by simp at h
  | [_], h, _, _, _, _ => by simp at h
  | _ :: _ :: _ :: _, h, _, _, _, _ => by simp at h
/-- An item isn't unlike itself. -/
theorem neqItem (x : It) (hx : x.i.length = 32 ∧ x.v.length = 32) (w : World) : (binOp .neq 35 (.agg (itC x).toArray) (.agg (itC x).toArray)).run Try.prog w = .ok (.bool false) w := by
  rw [run_neq_struct, run_equalIn_struct w 9999 35 _ _ uItem hItem]
  have e1 : (itC x).toArray.extract 0 32 = (x.i.map u8v).toArray := by
    rw [List.extract_toArray, List.extract_eq_take_drop]
    simp only [List.drop_zero, Nat.sub_zero]
    rw [show (itC x).take 32 = x.i.map u8v from List.take_left' (by rw [List.length_map]; exact hx.1)]
  have e2 : (itC x).toArray.extract 32 64 = (x.v.map u8v).toArray := by
    rw [List.extract_toArray, List.extract_eq_take_drop]
    rw [show (itC x).drop 32 = x.v.map u8v from List.drop_left' (by rw [List.length_map]; exact hx.1), List.take_of_length_le (by rw [List.length_map]; omega)]
  rw [eqFields_two (t := 24) fItem Try.isAgg24 Try.sizeOf24]
  · rfl
  · rw [e1]
    have h := run_equalIn_bytes (P := Try.prog) w 9997 24 5 32 uHash uByte zByte x.i x.i hx.1 hx.1
    rw [beq_self_eq_true] at h
    exact h
  · rw [e2]
    have h := run_equalIn_bytes (P := Try.prog) w 9997 24 5 32 uHash uByte zByte x.v x.v hx.2 hx.2
    rw [beq_self_eq_true] at h
    exact h
set_option maxRecDepth 100000 in
set_option maxHeartbeats 4000000 in
/-- postmarkhelp.Items: the same items are the same. -/
theorem same (va vb : Value) (lo hi lo' hi' : Nat) (l : List It) (w : World) (ha : Its w lo hi va l) (hb : Its w lo' hi' vb l) (hl : l.length ≤ 1099511627776) : Calls Try.prog 9 #[va, vb] w fun e w' => e = .returned (.bool true) ∧ Kept None w w' := by
  obtain ⟨a1, c1, rfl, p1, p2, _⟩ := ha.form
  obtain ⟨a2, c2, rfl, p3, p4, _⟩ := hb.form
  have p2' : c1 ≤ 9223372036854775807 := p2
  have p4' : c2 ≤ 9223372036854775807 := p4
  obtain ⟨n, hn⟩ : ∃ n, n = l.length := ⟨_, rfl⟩
  rw [← hn] at ha hb hl p1 p3 ⊢
  have HA := hid ha
  have HB := hid hb
  have HN := hid hn
  clear ha hb hn p2 p4
  go_enter Try.func9, Try.ntmps9
  go_wp2
  go_loopg [5] n (fun kx s5 wr => ∃ k : Nat, s5 = .int .i64 k ∧ k ≤ n ∧ n - k ≤ kx ∧ Hid (Kept None w wr))
  case atStart => exact ⟨0, rfl, Nat.zero_le _, Nat.le_refl _, Kept.refl _ _⟩
  case round =>
    obtain ⟨k, rfl, hk, hkx, HK⟩ := hrel
    by_cases hlt : k < n
    · have hz : (k : Int) < (n : Int) := by omega
      obtain ⟨x, hx⟩ : ∃ x, l[k]? = some x := ⟨_, List.getElem?_eq_getElem (by have := HN.out; omega)⟩
      have hxl := HA.out.1 x (List.mem_of_getElem? hx)
      have i1 := HA.out.kept HK.out (fun _ _ _ h => h)
      have i2 := HB.out.kept HK.out (fun _ _ _ h => h)
      obtain ⟨b1, o1, h1, _, _, _, hc1⟩ := i1.ne (by have := HN.out; omega)
      obtain ⟨b2, o2, h2, _, _, _, hc2⟩ := i2.ne (by have := HN.out; omega)
      obtain rfl := h1
      obtain rfl := h2
      have hcx := hc1 k x hx
      have hcy := hc2 k x hx
      have h64 := itC_len hxl
      have aY : AggTy Try.prog 35 (itC x).length := by rw [h64]; exact RTr.aI64
      have e1 := neqItem x hxl
      obtain ⟨C, hC⟩ : ∃ C, C = itC x := ⟨_, rfl⟩
      rw [← hC] at hcx hcy aY e1
      clear hx hxl i1 i2 hc1 hc2 h64 hC
      go_wp2_with fail
      refine wp_region_kn wr [] Steady.nil (Kept.refl _ _) (by kernel_rfl) (by kernel_rfl) (by kernel_rfl) ?_
      iterate 3 (refine wpPar_pure rfl (by rfl) _ (fun W hW => by
          go_simp
          exact rfl) ?_; simp only [Act.put, List.setIfInBounds_toArray, List.set_cons_zero, List.set_cons_succ])
      refine wpPar_pure rfl (by rfl) _ (fun W hW => exec_load_at rfl rfl (rangeAt_kept hcx hW) aY) ?_; simp only [Act.put, List.setIfInBounds_toArray, List.set_cons_zero, List.set_cons_succ]
      iterate 3 (refine wpPar_pure rfl (by rfl) _ (fun W hW => by
          go_simp
          exact rfl) ?_; simp only [Act.put, List.setIfInBounds_toArray, List.set_cons_zero, List.set_cons_succ])
      refine wpPar_pure rfl (by rfl) _ (fun W hW => exec_load_at rfl rfl (rangeAt_kept hcy hW) aY) ?_; simp only [Act.put, List.setIfInBounds_toArray, List.set_cons_zero, List.set_cons_succ]
      iterate 1 (refine wpPar_pure rfl (by rfl) _ (fun W hW => by
          go_simp
          exact rfl) ?_; simp only [Act.put, List.setIfInBounds_toArray, List.set_cons_zero, List.set_cons_succ])
      refine wpPar_nil (fun w7 hW hG => ?_)
      have HW := hid (HK.out.trans hW)
      clear hG hW HK e1 hcx hcy
      go_wp2
      go_roundg (n - (k + 1))
      case measure => omega
      case rel => exact ⟨k + 1, by go_num, by omega, Nat.le_refl _, HW⟩
    · have hz : ¬ (k : Int) < (n : Int) := by omega
      go_wp2
      go_ret
      exact ⟨rfl, HK.out⟩

set_option maxRecDepth 100000 in
set_option maxHeartbeats 2000000 in
theorem below_nil (j : Nat) (v : Value) (lo hi : Nat) (w : World) (hv : Its w lo hi v []) : Calls Try.prog 26 #[v, .int .i64 j] w fun e w' => e = .returned (hashV emptyH) ∧ Kept None w w' := by
  obtain ⟨a, cap, rfl, g1, g2, g3⟩ := hv.form
  have k0 : Kept None w (w.alloc (.cells #[.int .u8 0, .int .u8 0, .int .u8 0, .int .u8 0, .int .u8 0, .int .u8 0, .int .u8 0, .int .u8 0, .int .u8 0, .int .u8 0, .int .u8 0, .int .u8 0, .int .u8 0, .int .u8 0, .int .u8 0, .int .u8 0, .int .u8 0, .int .u8 0, .int .u8 0, .int .u8 0, .int .u8 0, .int .u8 0, .int .u8 0, .int .u8 0, .int .u8 0, .int .u8 0, .int .u8 0, .int .u8 0, .int .u8 0, .int .u8 0, .int .u8 0, .int .u8 0] 24)) := (Kept.refl _ _).alloc _
  have v0 := Blk.new w #[.int .u8 0, .int .u8 0, .int .u8 0, .int .u8 0, .int .u8 0, .int .u8 0, .int .u8 0, .int .u8 0, .int .u8 0, .int .u8 0, .int .u8 0, .int .u8 0, .int .u8 0, .int .u8 0, .int .u8 0, .int .u8 0, .int .u8 0, .int .u8 0, .int .u8 0, .int .u8 0, .int .u8 0, .int .u8 0, .int .u8 0, .int .u8 0, .int .u8 0, .int .u8 0, .int .u8 0, .int .u8 0, .int .u8 0, .int .u8 0, .int .u8 0, .int .u8 0] 24
  obtain ⟨z, hz, hR⟩ : ∃ z : Array Value, z.size = 32 ∧ Blk (w.alloc (.cells #[.int .u8 0, .int .u8 0, .int .u8 0, .int .u8 0, .int .u8 0, .int .u8 0, .int .u8 0, .int .u8 0, .int .u8 0, .int .u8 0, .int .u8 0, .int .u8 0, .int .u8 0, .int .u8 0, .int .u8 0, .int .u8 0, .int .u8 0, .int .u8 0, .int .u8 0, .int .u8 0, .int .u8 0, .int .u8 0, .int .u8 0, .int .u8 0, .int .u8 0, .int .u8 0, .int .u8 0, .int .u8 0, .int .u8 0, .int .u8 0, .int .u8 0, .int .u8 0] 24)) w.heap.size z 24 := ⟨_, by rfl, v0⟩
  have hV := hv.kept k0 (fun _ _ _ h => h)
  clear v0 hv
  have he := fun w => empty w
  obtain ⟨res, hres⟩ : ∃ res, res = emptyH := ⟨_, rfl⟩
  have H32 : res.length = 32 := by rw [hres]; exact sumB_len _
  rw [← hres] at he ⊢
  have HS := hid he
  replace H32 := hid H32
  clear he hres
  clear hV
  go_enter Try.func26, Try.ntmps26
  go_wp2_with fail
  refine (HS.out _).mono ?_
  rintro e w4 ⟨rfl, k4⟩
  have k04 := k0.trans k4
  have hR4 := hR.kept k4 (fun h => h)
  clear k0 k4 hR
  have e32' : (res.map u8v).toArray.size = 32 := by simpa using H32.out
  have aH' : AggTy Try.prog 24 (res.map u8v).toArray.size := by rw [e32']; exact Sp.aH
  have E := hid (hz.trans e32'.symm)
  clear e32' hz
  go_wp2_with (first | (refine wpList_store_blk (.refl _) _ _ _ rfl rfl rfl hR4 aH' E.out (u8v_all _) ?_; intro w9 hR9 k9) | fail)
  exact bodyPost_ret (v := hashV res) (results_blk rfl _ rfl hR9 aH') rfl ⟨rfl, k04.then k9 (fun i hi (h : i = w.heap.size) => by omega)⟩

set_option maxRecDepth 100000 in
set_option maxHeartbeats 2000000 in
theorem below_one (x : It) (j : Nat) (v : Value) (lo hi : Nat) (w : World) (hv : Its w lo hi v [x]) : Calls Try.prog 26 #[v, .int .i64 j] w fun e w' => e = .returned (hashV (leafH x)) ∧ Kept None w w' := by
  obtain ⟨a, cap, rfl, g1, g2, g3⟩ := hv.form
  obtain ⟨b, o, rfl, q1, q2, q3, hc⟩ := hv.ne (by simp)
  have hx := hc 0 x rfl
  have hlen := hv.1 x (by simp)
  have h64 := itC_len hlen
  simp only [Nat.zero_mul, Nat.add_zero] at hx
  have k0 : Kept None w (w.alloc (.cells #[.int .u8 0, .int .u8 0, .int .u8 0, .int .u8 0, .int .u8 0, .int .u8 0, .int .u8 0, .int .u8 0, .int .u8 0, .int .u8 0, .int .u8 0, .int .u8 0, .int .u8 0, .int .u8 0, .int .u8 0, .int .u8 0, .int .u8 0, .int .u8 0, .int .u8 0, .int .u8 0, .int .u8 0, .int .u8 0, .int .u8 0, .int .u8 0, .int .u8 0, .int .u8 0, .int .u8 0, .int .u8 0, .int .u8 0, .int .u8 0, .int .u8 0, .int .u8 0] 24)) := (Kept.refl _ _).alloc _
  have v0 := Blk.new w #[.int .u8 0, .int .u8 0, .int .u8 0, .int .u8 0, .int .u8 0, .int .u8 0, .int .u8 0, .int .u8 0, .int .u8 0, .int .u8 0, .int .u8 0, .int .u8 0, .int .u8 0, .int .u8 0, .int .u8 0, .int .u8 0, .int .u8 0, .int .u8 0, .int .u8 0, .int .u8 0, .int .u8 0, .int .u8 0, .int .u8 0, .int .u8 0, .int .u8 0, .int .u8 0, .int .u8 0, .int .u8 0, .int .u8 0, .int .u8 0, .int .u8 0, .int .u8 0] 24
  obtain ⟨z, hz, hR⟩ : ∃ z : Array Value, z.size = 32 ∧ Blk (w.alloc (.cells #[.int .u8 0, .int .u8 0, .int .u8 0, .int .u8 0, .int .u8 0, .int .u8 0, .int .u8 0, .int .u8 0, .int .u8 0, .int .u8 0, .int .u8 0, .int .u8 0, .int .u8 0, .int .u8 0, .int .u8 0, .int .u8 0, .int .u8 0, .int .u8 0, .int .u8 0, .int .u8 0, .int .u8 0, .int .u8 0, .int .u8 0, .int .u8 0, .int .u8 0, .int .u8 0, .int .u8 0, .int .u8 0, .int .u8 0, .int .u8 0, .int .u8 0, .int .u8 0] 24)) w.heap.size z 24 := ⟨_, by rfl, v0⟩
  have hV := hv.kept k0 (fun _ _ _ h => h)
  clear v0 hv
  have hx3 := rangeAt_kept hx k0
  have aY : AggTy Try.prog 35 (itC x).length := by rw [h64]; exact RTr.aI64
  have he : ∀ w, Calls Try.prog 18 #[.agg (itC x).toArray] w fun e w' => e = .returned (hashV (leafH x)) ∧ Kept None w w' := fun w => by
    have h := leaf x w hlen
    rwa [show itemV x = .agg (itC x).toArray by simp [itemV, itC]] at h
  obtain ⟨res, hres⟩ : ∃ res, res = leafH x := ⟨_, rfl⟩
  have H32 : res.length = 32 := by rw [hres]; exact sumB_len _
  rw [← hres] at he ⊢
  have HS := hid he
  replace H32 := hid H32
  clear he hres
  clear hc hx hV
  go_enter Try.func26, Try.ntmps26
  go_wp2_with (first | (refine wpList_load_at (.refl _) _ _ rfl rfl hx3 aY ?_) | fail)
  refine (HS.out _).mono ?_
  rintro e w4 ⟨rfl, k4⟩
  have k04 := k0.trans k4
  have hR4 := hR.kept k4 (fun h => h)
  clear k0 k4 hR hx3 aY
  have e32' : (res.map u8v).toArray.size = 32 := by simpa using H32.out
  have aH' : AggTy Try.prog 24 (res.map u8v).toArray.size := by rw [e32']; exact Sp.aH
  have E := hid (hz.trans e32'.symm)
  clear e32' hz
  go_wp2_with (first | (refine wpList_store_blk (.refl _) _ _ _ rfl rfl rfl hR4 aH' E.out (u8v_all _) ?_; intro w9 hR9 k9) | fail)
  exact bodyPost_ret (v := hashV res) (results_blk rfl _ rfl hR9 aH') rfl ⟨rfl, k04.then k9 (fun i hi (h : i = w.heap.size) => by omega)⟩

set_option maxRecDepth 100000 in
set_option maxHeartbeats 4000000 in
theorem below_more (l : List It) (A B : List UInt8) (j : Nat) (v : Value) (lo hi : Nat) (w : World) (hv : Its w lo hi v l) (h2 : 2 ≤ l.length) (hl : l.length ≤ 549755813888) (hj : j < 256) (hA32 : A.length = 32) (hB32 : B.length = 32)
    (ihA : ∀ v lo hi w, Its w lo hi v (half l j 0) → Calls Try.prog 26 #[v, .int .i64 ((j : Int) + 1)] w fun e w' => e = .returned (hashV A) ∧ Kept None w w')
    (ihB : ∀ v lo hi w, Its w lo hi v (half l j 1) → Calls Try.prog 26 #[v, .int .i64 ((j : Int) + 1)] w fun e w' => e = .returned (hashV B) ∧ Kept None w w') :
    Calls Try.prog 26 #[v, .int .i64 j] w fun e w' => e = .returned (hashV (nodeH A B)) ∧ Kept None w w' := by
  obtain ⟨a, cap, rfl, g1, g2, g3⟩ := hv.form
  have g2' : cap ≤ 9223372036854775807 := g2
  have h2' : (2 : Int) ≤ l.length := by omega
  have k0 : Kept None w (w.alloc (.cells #[.int .u8 0, .int .u8 0, .int .u8 0, .int .u8 0, .int .u8 0, .int .u8 0, .int .u8 0, .int .u8 0, .int .u8 0, .int .u8 0, .int .u8 0, .int .u8 0, .int .u8 0, .int .u8 0, .int .u8 0, .int .u8 0, .int .u8 0, .int .u8 0, .int .u8 0, .int .u8 0, .int .u8 0, .int .u8 0, .int .u8 0, .int .u8 0, .int .u8 0, .int .u8 0, .int .u8 0, .int .u8 0, .int .u8 0, .int .u8 0, .int .u8 0, .int .u8 0] 24)) := (Kept.refl _ _).alloc _
  have v0 := Blk.new w #[.int .u8 0, .int .u8 0, .int .u8 0, .int .u8 0, .int .u8 0, .int .u8 0, .int .u8 0, .int .u8 0, .int .u8 0, .int .u8 0, .int .u8 0, .int .u8 0, .int .u8 0, .int .u8 0, .int .u8 0, .int .u8 0, .int .u8 0, .int .u8 0, .int .u8 0, .int .u8 0, .int .u8 0, .int .u8 0, .int .u8 0, .int .u8 0, .int .u8 0, .int .u8 0, .int .u8 0, .int .u8 0, .int .u8 0, .int .u8 0, .int .u8 0, .int .u8 0] 24
  obtain ⟨z, hz, hR⟩ : ∃ z : Array Value, z.size = 32 ∧ Blk (w.alloc (.cells #[.int .u8 0, .int .u8 0, .int .u8 0, .int .u8 0, .int .u8 0, .int .u8 0, .int .u8 0, .int .u8 0, .int .u8 0, .int .u8 0, .int .u8 0, .int .u8 0, .int .u8 0, .int .u8 0, .int .u8 0, .int .u8 0, .int .u8 0, .int .u8 0, .int .u8 0, .int .u8 0, .int .u8 0, .int .u8 0, .int .u8 0, .int .u8 0, .int .u8 0, .int .u8 0, .int .u8 0, .int .u8 0, .int .u8 0, .int .u8 0, .int .u8 0, .int .u8 0] 24)) w.heap.size z 24 := ⟨_, by rfl, v0⟩
  have hV := hv.kept k0 (fun _ _ _ h => h)
  clear v0 hv
  have he := fun w => node A B w hA32 hB32
  obtain ⟨res, hres⟩ : ∃ res, res = nodeH A B := ⟨_, rfl⟩
  have H32 : res.length = 32 := by rw [hres]; exact sumB_len _
  rw [← hres] at he ⊢
  have HS := hid he
  replace H32 := hid H32
  clear he hres
  obtain ⟨VA, hVA⟩ : ∃ VA, VA = hashV A := ⟨_, rfl⟩
  obtain ⟨VB, hVB⟩ : ∃ VB, VB = hashV B := ⟨_, rfl⟩
  rw [← hVA, ← hVB] at HS
  rw [← hVA] at ihA
  rw [← hVB] at ihB
  have IH := hid (And.intro ihA ihB)
  have n1 : ((l.length : Int) == 0) = false := beq_eq_false_iff_ne.2 (by omega)
  have n2 : ((l.length : Int) == 1) = false := beq_eq_false_iff_ne.2 (by omega)
  obtain ⟨w1, hw1⟩ : ∃ w1, w1 = (w.alloc (.cells #[.int .u8 0, .int .u8 0, .int .u8 0, .int .u8 0, .int .u8 0, .int .u8 0, .int .u8 0, .int .u8 0, .int .u8 0, .int .u8 0, .int .u8 0, .int .u8 0, .int .u8 0, .int .u8 0, .int .u8 0, .int .u8 0, .int .u8 0, .int .u8 0, .int .u8 0, .int .u8 0, .int .u8 0, .int .u8 0, .int .u8 0, .int .u8 0, .int .u8 0, .int .u8 0, .int .u8 0, .int .u8 0, .int .u8 0, .int .u8 0, .int .u8 0, .int .u8 0] 24)) := ⟨_, rfl⟩
  have HB := hid (show w.heap.size < w1.heap.size by rw [hw1]; simp)
  have HW1 := hid hw1
  rw [← hw1] at k0 hR hV
  clear ihA ihB hVA hVB g3 hw1
  go_enter Try.func26, Try.ntmps26
  go_wp2
  rw [← HW1.out]
  clear n1 n2
  go_loopw [5, 6, 7] (fun va vb i wr => ∃ k : Nat, k ≤ l.length ∧ i = .int .i64 k ∧ (∃ a n c, va = .slice a n c) ∧ (∃ a n c, vb = .slice a n c) ∧ Ito 35 wr w1.heap.size va (half (l.take k) j 0) ∧ Ito 35 wr w1.heap.size vb (half (l.take k) j 1) ∧ (∀ q, va.ownBlock = some q → vb.ownBlock ≠ some q) ∧ Kept None w1 wr ∧ Blk wr w.heap.size z 24) (fun _ _ i _ => l.length - (intOf i).toNat)
  case atStart => exact ⟨0, Nat.zero_le _, rfl, ⟨_, _, _, rfl⟩, ⟨_, _, _, rfl⟩, Ito.nil _ _ _, Ito.nil _ _ _, (fun q h => by cases h), Kept.refl _ _, hR⟩
  case round =>
    obtain ⟨k, hk, rfl, ⟨a1, n1, c1, rfl⟩, ⟨a2, n2, c2, rfl⟩, hA, hB, hne, hkk, hRr⟩ := hrel
    have hsz := hkk.size
    by_cases hlt : k < l.length
    · have hvr := hV.kept hkk (fun _ _ _ h => h)
      obtain ⟨b, o, hbo, q1, q2, q3, hc⟩ := hvr.ne (by omega)
      obtain rfl := hbo
      have hx := hc k l[k] (List.getElem?_eq_getElem hlt)
      have hlen := hvr.1 l[k] (List.getElem_mem hlt)
      have h0 := RTr.half_take l j 0 k hlt
      have h1 := RTr.half_take l j 1 k hlt
      have e0 : (half (l.take k) j 0).length ≤ k := Nat.le_trans (RTr.half_len _ _ _) (by simp; omega)
      have e1 : (half (l.take k) j 1).length ≤ k := Nat.le_trans (RTr.half_len _ _ _) (by simp; omega)
      have hlt' : (k : Int) < l.length := by omega
      generalize l[k] = x at *
      have h64 := itC_len hlen
      have hxi : wr.rangeAt b (o + k * 64) (x.i.map u8v) := by
        have h := rangeAt_take hx 32
        rwa [show (itC x).take 32 = x.i.map u8v from List.take_left' (by simp [hlen.1])] at h
      have aX : AggTy Try.prog 24 (x.i.map u8v).length := by rw [List.length_map, hlen.1]; exact Sp.aH
      have aY : AggTy Try.prog 35 (itC x).length := by rw [h64]; exact RTr.aI64
      have HF := hid (And.intro h0 h1)
      clear hc hvr hlt h0 h1
      go_wp2_with (first | (refine wpList_load_at (.refl _) _ _ rfl rfl hxi aX ?_) | fail)
      refine (bit x.i hlen.1 j hj wr).mono ?_
      rintro e w3 ⟨rfl, k3⟩
      have hx3 := rangeAt_kept hx k3
      have hA3 := hA.kept k3 (fun _ _ h => h)
      have hB3 := hB.kept k3 (fun _ _ h => h)
      have k03 := hkk.trans k3
      have hR3 := hRr.kept k3 (fun h => h)
      clear hx hxi aX hA hB hkk k3 hsz hRr
      have hsz := k03.size
      rcases bitI_two x.i j with hb | hb
      · rw [hb]
        have hO := Its.one w3 35 x hlen
        have hA4 := hA3.alloc (.cells (itC x).toArray 35)
        have hB4 := hB3.alloc (.cells (itC x).toArray 35)
        have k04 := k03.alloc (.cells (itC x).toArray 35)
        have hsz4 := k04.size
        have hR4 := hR3.alloc (.cells (itC x).toArray 35)
        clear hA3 hB3 k03 hR3
        go_wp2_with (first | (refine wpList_load_at (.refl _) _ _ rfl rfl hx3 aY ?_) | (refine wpList_one_item (.refl _) _ _ rfl RTr.rtItems (by decide) rfl (by simpa using h64) ?_) | (at_builtin; refine wpList_append_ito (v := .slice a1 n1 c1) (u := .slice (some ⟨w3.heap.size, 0, none⟩) 1 1) (.refl _) _ _ 25 rfl RTr.rtItems rfl rfl hA4 hO (by simp; omega) hsz4 ?_; intro a5 n5 c5 w5 hN5 k5 f5) | fail)
        have hM5 := hB4.kept k5 (fun q hq h => hne q h hq)
        have k05 := Kept.own k04 k5 (fun q hq => (hA4.own q hq).1)
        have hR5 := hR4.kept k5 (fun h => by have := (hA4.own w.heap.size h).1; have := HB.out; omega)
        refine ⟨⟨k + 1, by omega, by go_num, ⟨_, _, _, rfl⟩, ⟨_, _, _, rfl⟩, ?_, ?_, ?_, k05, hR5⟩, by simp only [intOf]; omega⟩
        · rw [HF.out.1]
          simpa [hb] using hN5
        · rw [HF.out.2]
          simpa [hb] using hM5
        · intro q hq h
          rcases f5 q hq with h1 | h1
          · exact hne q h1 h
          · have := (hB4.own q h).2
            omega
      · rw [hb]
        have hO := Its.one w3 35 x hlen
        have hA4 := hA3.alloc (.cells (itC x).toArray 35)
        have hB4 := hB3.alloc (.cells (itC x).toArray 35)
        have k04 := k03.alloc (.cells (itC x).toArray 35)
        have hsz4 := k04.size
        have hR4 := hR3.alloc (.cells (itC x).toArray 35)
        clear hA3 hB3 k03 hR3
        go_wp2_with (first | (refine wpList_load_at (.refl _) _ _ rfl rfl hx3 aY ?_) | (refine wpList_one_item (.refl _) _ _ rfl RTr.rtItems (by decide) rfl (by simpa using h64) ?_) | (at_builtin; refine wpList_append_ito (v := .slice a2 n2 c2) (u := .slice (some ⟨w3.heap.size, 0, none⟩) 1 1) (.refl _) _ _ 25 rfl RTr.rtItems rfl rfl hB4 hO (by simp; omega) hsz4 ?_; intro a5 n5 c5 w5 hN5 k5 f5) | fail)
        have hM5 := hA4.kept k5 (fun q hq h => hne q hq h)
        have k05 := Kept.own k04 k5 (fun q hq => (hB4.own q hq).1)
        have hR5 := hR4.kept k5 (fun h => by have := (hB4.own w.heap.size h).1; have := HB.out; omega)
        refine ⟨⟨k + 1, by omega, by go_num, ⟨_, _, _, rfl⟩, ⟨_, _, _, rfl⟩, ?_, ?_, ?_, k05, hR5⟩, by simp only [intOf]; omega⟩
        · rw [HF.out.1]
          simpa [hb] using hM5
        · rw [HF.out.2]
          simpa [hb] using hN5
        · intro q hq h
          rcases f5 q h with h1 | h1
          · exact hne q hq h1
          · have := (hA4.own q hq).2
            omega
    · have hkl : k = l.length := by omega
      subst hkl
      rw [List.take_length] at hA hB
      have rj : IntKind.i64.wrap ((j : Int) + 1) = (j : Int) + 1 := by rw [IntKind.wrap_i64]; omega
      have iA := hA.its (Nat.le_refl _)
      have iB := hB.its (Nat.le_refl _)
      have k00 := k0.trans hkk
      clear hV hne hA hB hkk hR k0
      go_wp2_with fail
      refine (IH.out.1 _ _ _ _ iA).mono ?_
      rintro e w4 ⟨rfl, k4⟩
      have iB4 := iB.kept k4 (fun _ _ _ h => h)
      have k04 := k00.trans k4
      have hR4 := hRr.kept k4 (fun h => h)
      clear k00 k4 hRr iA iB
      go_wp2_with fail
      refine (IH.out.2 _ _ _ _ iB4).mono ?_
      rintro e w5 ⟨rfl, k5⟩
      have k05 := k04.trans k5
      have hR5 := hR4.kept k5 (fun h => h)
      clear k04 k5 hR4 iB4
      go_wp2_with fail
      refine (HS.out _).mono ?_
      rintro e w6 ⟨rfl, k6⟩
      have k06 := k05.trans k6
      have hR6 := hR5.kept k6 (fun h => h)
      clear k05 k6 hR5 rj
      have e32' : (res.map u8v).toArray.size = 32 := by simpa using H32.out
      have aH' : AggTy Try.prog 24 (res.map u8v).toArray.size := by rw [e32']; exact Sp.aH
      have E := hid (hz.trans e32'.symm)
      clear e32' hz
      go_wp2_with (first | (refine wpList_store_blk (.refl _) _ _ _ rfl rfl rfl hR6 aH' E.out (u8v_all _) ?_; intro w9 hR9 k9) | fail)
      exact bodyPost_ret (v := hashV res) (results_blk rfl _ rfl hR9 aH') rfl ⟨rfl, k06.then k9 (fun i hi (h : i = w.heap.size) => by omega)⟩

/-- below. -/
theorem below : ∀ (f : Nat) (l : List It) (j : Nat) (v : Value) (lo hi : Nat) (w : World), Its w lo hi v l → Srt l → Agree l j → 256 ≤ f + j → j ≤ 256 → l.length ≤ 549755813888 →
    Calls Try.prog 26 #[v, .int .i64 j] w fun e w' => e = .returned (hashV (rootI f l j)) ∧ Kept None w w' := by
  intro f
  induction f with
  | zero =>
    intro l j v lo hi w hv hs ha hf hj hl
    match l, hv, hs, ha with
    | [], hv, _, _ => exact RTr.rootI_nil 0 j ▸ below_nil j v lo hi w hv
    | [x], hv, _, _ => exact RTr.rootI_one 0 j x ▸ below_one x j v lo hi w hv
    | x :: y :: l, hv, hs, ha => have := agree_lt hs hv.1 ha (by simp); omega
  | succ f ih =>
    intro l j v lo hi w hv hs ha hf hj hl
    by_cases h0 : l.length = 0
    · obtain rfl := List.eq_nil_of_length_eq_zero h0
      exact RTr.rootI_nil (f + 1) j ▸ below_nil j v lo hi w hv
    by_cases h1 : l.length = 1
    · obtain ⟨x, rfl⟩ := List.length_eq_one_iff.1 h1
      exact RTr.rootI_one (f + 1) j x ▸ below_one x j v lo hi w hv
    have h2 : 2 ≤ l.length := by omega
    have hj' := agree_lt hs hv.1 ha h2
    rw [RTr.rootI_more' f j h2]
    have side : ∀ b, (half l j b).length ≤ 549755813888 := fun b => Nat.le_trans (RTr.half_len l j b) hl
    have len : ∀ b, (rootI f (half l j b) (j + 1)).length = 32 := fun b => RTr.rootI_len f _ _ (srt_half hs j b) (len_half hv.1 j b) (agree_half ha b) (by omega)
    refine below_more l _ _ j v lo hi w hv h2 hl hj' (len 0) (len 1) (fun v lo hi w h => ?_) (fun v lo hi w h => ?_)
    · exact ih _ (j + 1) v lo hi w h (srt_half hs j 0) (agree_half ha 0) (by omega) (by omega) (side 0)
    · exact ih _ (j + 1) v lo hi w h (srt_half hs j 1) (agree_half ha 1) (by omega) (by omega) (side 1)
end Tr
end Go.Proofs.Ytalkkiliepaikaa
