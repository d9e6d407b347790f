/- Package postmarkref5, hashes of trees: each function by its contract. -/
import Derived.Test.YtibkijloibnkfaaTree6
import Derived.Test.YtibkijloibnkfaaLowRefSponge
import Derived.Test.YtibkijloibnkfaaLowSponge
namespace Go.Pm
/-- A name's index, a version's value. -/
def indexH (n : ByteArray) : List UInt8 := sumB (textB 105 [strB n])
def valueH (a : Int) (k : Nat) : List UInt8 := sumB (textB 118 [leB (U6 a), leB k])
theorem indexH_len (n : ByteArray) : (indexH n).length = 32 := sumB_len _
theorem valueH_len (a : Int) (k : Nat) : (valueH a k).length = 32 := sumB_len _
open Go Go.RowKit
/-- An item as a value. -/
abbrev itemV (x : It) : Value := .agg ((x.i ++ x.v).map u8v).toArray
/-- A part of a block of bytes. -/
theorem Blk.bs {W : World} {g : Nat} {l : List UInt8} {t : TypeId} (h : Blk W g (l.map u8v).toArray t) (off n : Nat) (hn : off + n ≤ l.length) (hm : n ≤ 9223372036854775807) : Bs W g (g + 1) (.slice (some ⟨g, off, none⟩) n n) ((l.drop off).take n) := by
  have hl : ((l.drop off).take n).length = n := by rw [List.length_take, List.length_drop]; omega
  refine ⟨some ⟨g, off, none⟩, n, by rw [List.length_map, hl], by rw [List.length_map, hl]; exact Nat.le_refl _, by unfold maxLen; omega, (fun h => by cases h), fun ad had i x hx => ?_⟩
  obtain rfl := Option.some.inj had
  refine ⟨Nat.le_refl _, Nat.lt_succ_self _, ?_⟩
  rw [Addr.add_lit, h.cell]
  have hi := (List.getElem?_eq_some_iff.1 hx).1
  rw [List.length_map, hl] at hi
  rw [List.getElem?_map, List.getElem?_take, if_pos hi, List.getElem?_drop] at hx
  rw [List.getElem?_toArray, List.getElem?_map]
  exact hx
/-- A region of which the head is walked by what is said upfront. -/
theorem wp_region_kn_tail {P : Program} {id : Nat} {Q : Exit → Act → World → Prop} {a : Act} {w : World} {ops : List Oper} (n : Nat) (w0 : World) (l : List Fct) (hs : Steady l) (hk : Kept None w0 w) (hm : P.follows .mixedOrders = true) (hB : Region.lexTailB .any ops.toArray n = true) (hok : (planOf (Kept None w0) l).ok .any ops.toArray = true)
    (h : wpPar P (planOf (Kept None w0) l) ops.toArray (fun a' w' => wpList P ops.toArray Q (ops.drop n) a' w') 0 (ops.take n) a (starts (planOf (Kept None w0) l) [])) : (Code.region id ops.toArray true).wp P Q a w :=
  wp_region_plan_tail n (Kept None w0) l [] hm hB hok rfl hs.pure hk.drew (fun j hj => by cases hj) h
end Go.Pm
namespace Go.Proofs.Ytibkijloibnkfaa
open Go.RowKit Go.Pm

namespace RTr
set_option maxRecDepth 100000 in
set_option maxHeartbeats 2000000 in
/-- Index. -/
theorem index (n : ByteArray) (w : World) (hn : n.size ≤ 274877906944) : Calls Try.prog 116 #[.string n] w fun e w' => e = .returned (hashV (indexH n)) ∧ Kept None w w' := by
  have hsn := strB_len n
  have hs := fun v lo hi lo' hi' w hv => Ref.tag 105 v lo hi lo' hi' [strB n] w (by decide) (by decide) hv (by simp) (by simp [total]; omega)
  have e32 := indexH_len n
  rw [show sumB (textB 105 [strB n]) = indexH n from rfl] at hs
  obtain ⟨res, hres⟩ : ∃ res, res = indexH n := ⟨_, rfl⟩
  rw [← hres] at hs e32 ⊢
  have HS := hid hs
  have H32 := hid e32
  have HN := hid hn
  clear hs e32 hres hn
  have k0 : Kept None w (w.alloc (.cells (Array.replicate 32 (.int .u8 0)) 23)) := (Kept.refl _ _).alloc _
  have v0 := Blk.new w (Array.replicate 32 (.int .u8 0)) 23
  go_enter Try.func116, Try.ntmps116
  go_wp2_with (first | (refine wpList_bytes rfl 9 29 5 _ rfl tString tBytes' tByte rfl (by have := HN.out; omega) ?k1) | fail)
  case k1 =>
    intro gB cB w2 hgB kB bB
    have k02 := k0.trans kB
    have v2 := v0.kept kB (fun h => h)
    obtain ⟨z, hz, hR⟩ : ∃ z : Array Value, z.size = 32 ∧ Blk w2 w.heap.size z 23 := ⟨_, by simp, v2⟩
    have hbs := Bss.new w2 #[.slice (some ⟨gB, 0, none⟩) n.size cB] 29 [strB n] 1 rfl (by decide) ⟨bB.all, trivial⟩
    have k03 := k02.alloc (.cells #[.slice (some ⟨gB, 0, none⟩) n.size cB] 29)
    have hR3 := hR.alloc (.cells #[.slice (some ⟨gB, 0, none⟩) n.size cB] 29)
    clear k0 v0 kB bB k02 v2 hR
    go_wp2_with fail
    refine (HS.out _ _ _ _ _ _ hbs).mono ?_
    rintro e w4 ⟨rfl, k4⟩
    have k04 := k03.trans k4
    have hR4 := hR3.kept k4 (fun h => h)
    clear k03 k4 hR3 hbs
    have e32' : (res.map u8v).toArray.size = 32 := by simpa using H32.out
    have aH' : AggTy Try.prog 23 (res.map u8v).toArray.size := by rw [e32']; exact Sp.aH
    have E := hid (hz.trans e32'.symm)
    clear e32' hz
    go_wp2_with (first | (refine wpList_store_blk rfl _ _ _ rfl rfl rfl hR4 aH' E.out (u8v_all _) ?_; intro w6 hR6 k6) | fail)
    exact bodyPost_ret (v := hashV res) (results_blk rfl _ rfl hR6 aH') rfl ⟨rfl, k04.then k6 (fun i hi (h : i = w.heap.size) => by omega)⟩

set_option maxRecDepth 100000 in
set_option maxHeartbeats 2000000 in
/-- Empty. -/
theorem empty (w : World) : Calls Try.prog 111 #[] w fun e w' => e = .returned (hashV emptyH) ∧ Kept None w w' := by
  have hs := fun w => Ref.tag 122 (.slice none 0 0) 0 0 0 0 [] w (by decide) (by decide) ⟨[], Vs.nil w 0 0, rfl, fun i x l h _ => by simp at h⟩ (by simp) (by simp [total])
  have e32 : emptyH.length = 32 := sumB_len _
  rw [show sumB (textB 122 []) = emptyH from rfl] at hs
  obtain ⟨res, hres⟩ : ∃ res, res = emptyH := ⟨_, rfl⟩
  rw [← hres] at hs e32 ⊢
  have HS := hid hs
  have H32 := hid e32
  clear hs e32 hres
  have k0 : Kept None w (w.alloc (.cells (Array.replicate 32 (.int .u8 0)) 23)) := (Kept.refl _ _).alloc _
  have v0 := Blk.new w (Array.replicate 32 (.int .u8 0)) 23
  obtain ⟨z, hz, hR⟩ : ∃ z : Array Value, z.size = 32 ∧ Blk (w.alloc (.cells (Array.replicate 32 (.int .u8 0)) 23)) w.heap.size z 23 := ⟨_, by simp, v0⟩
  clear v0
  go_enter Try.func111, Try.ntmps111
  go_wp2_with fail
  refine (HS.out _).mono ?_
  rintro e w4 ⟨rfl, k4⟩
  have k04 := k0.trans k4
  have hR4 := hR.kept k4 (fun h => h)
  clear k0 k4 hR
  have e32' : (res.map u8v).toArray.size = 32 := by simpa using H32.out
  have aH' : AggTy Try.prog 23 (res.map u8v).toArray.size := by rw [e32']; exact Sp.aH
  have E := hid (hz.trans e32'.symm)
  clear e32' hz
  go_wp2_with (first | (refine wpList_store_blk rfl _ _ _ rfl rfl rfl hR4 aH' E.out (u8v_all _) ?_; intro w6 hR6 k6) | fail)
  exact bodyPost_ret (v := hashV res) (results_blk rfl _ rfl hR6 aH') rfl ⟨rfl, k04.then k6 (fun i hi (h : i = w.heap.size) => by omega)⟩

set_option maxRecDepth 100000 in
set_option maxHeartbeats 2000000 in
/-- Value. -/
theorem value (a : Int) (k : Nat) (w : World) (hk : k < 18446744073709551616) : Calls Try.prog 117 #[.int .i64 a, .int .u64 k] w fun e w' => e = .returned (hashV (valueH a k)) ∧ Kept None w w' := by
  have hw1 : IntKind.u64.wrap a = U6 a := by rw [IntKind.wrap_u64]
  have hs := fun v lo hi lo' hi' w hv => Ref.tag 118 v lo hi lo' hi' [leB (U6 a), leB k] w (by decide) (by decide) hv (by simp) (by simp [total, leB_length])
  have e32 := valueH_len a k
  rw [show sumB (textB 118 [leB (U6 a), leB k]) = valueH a k from rfl] at hs
  obtain ⟨res, hres⟩ : ∃ res, res = valueH a k := ⟨_, rfl⟩
  rw [← hres] at hs e32 ⊢
  have hV := And.intro (U6_ge a) (And.intro (U6_lt a) hk)
  obtain ⟨V, hVV⟩ : ∃ V, V = U6 a := ⟨_, rfl⟩
  rw [← hVV] at hw1 hs hV
  have HS := hid hs
  have H32 := hid e32
  have HV := hid hV
  clear hs e32 hres hV hVV hk
  have k0 : Kept None w (w.alloc (.cells (Array.replicate 32 (.int .u8 0)) 23)) := (Kept.refl _ _).alloc _
  have v0 := Blk.new w (Array.replicate 32 (.int .u8 0)) 23
  obtain ⟨z, hz, hR⟩ : ∃ z : Array Value, z.size = 32 ∧ Blk (w.alloc (.cells (Array.replicate 32 (.int .u8 0)) 23)) w.heap.size z 23 := ⟨_, by simp, v0⟩
  clear v0
  go_enter Try.func117, Try.ntmps117
  go_wp2_with fail
  refine (Ref.num V _ HV.out.1 HV.out.2.1).mono ?_
  rintro e w1 ⟨u1, rfl, k1, b1⟩
  have k01 := k0.trans k1
  have hR1 := hR.kept k1 (fun h => h)
  have d1 := b1.bs (Nat.le_refl _)
  obtain ⟨a1, c1, rfl⟩ := b1.form
  rw [leB_length] at d1 ⊢
  clear k0 k1 hR b1
  go_wp2_with fail
  refine (Ref.num k _ (by omega) (by have := HV.out; omega)).mono ?_
  rintro e w2 ⟨u2, rfl, k2, b2⟩
  have k02 := k01.trans k2
  have hR2 := hR1.kept k2 (fun h => h)
  have d1' := d1.kept k2 (fun _ _ _ h => h)
  have d2 := b2.bs (Nat.le_refl _)
  obtain ⟨a2, c2, rfl⟩ := b2.form
  rw [leB_length] at d2 ⊢
  have hbs := Bss.new w2 #[.slice a1 8 c1, .slice a2 8 c2] 29 [leB V, leB k] 2 rfl (by decide) ⟨d1'.all, d2.all, trivial⟩
  have k03 := k02.alloc (.cells #[.slice a1 8 c1, .slice a2 8 c2] 29)
  have hR3 := hR2.alloc (.cells #[.slice a1 8 c1, .slice a2 8 c2] 29)
  clear k01 k2 hR1 d1 b2 k02 hR2 d1' d2
  go_wp2_with fail
  refine (HS.out _ _ _ _ _ _ hbs).mono ?_
  rintro e w4 ⟨rfl, k4⟩
  have k04 := k03.trans k4
  have hR4 := hR3.kept k4 (fun h => h)
  clear k03 k4 hR3 hbs
  have e32' : (res.map u8v).toArray.size = 32 := by simpa using H32.out
  have aH' : AggTy Try.prog 23 (res.map u8v).toArray.size := by rw [e32']; exact Sp.aH
  have E := hid (hz.trans e32'.symm)
  clear e32' hz
  go_wp2_with (first | (refine wpList_store_blk rfl _ _ _ rfl rfl rfl hR4 aH' E.out (u8v_all _) ?_; intro w6 hR6 k6) | fail)
  exact bodyPost_ret (v := hashV res) (results_blk rfl _ rfl hR6 aH') rfl ⟨rfl, k04.then k6 (fun i hi (h : i = w.heap.size) => by omega)⟩
end RTr

namespace RTr
set_option maxRecDepth 100000 in
set_option maxHeartbeats 2000000 in
/-- Leaf. -/
theorem leaf (x : It) (w : World) (hx : x.i.length = 32 ∧ x.v.length = 32) : Calls Try.prog 112 #[itemV x] w fun e w' => e = .returned (hashV (leafH x)) ∧ Kept None w w' := by
  have hl := hx.1
  have hr := hx.2
  show Calls Try.prog 112 #[.agg ((x.i ++ x.v).map u8v).toArray] w fun e w' => e = .returned (hashV (leafH x)) ∧ Kept None w w'
  obtain ⟨X, hXX⟩ : ∃ X : Array Value, X = ((x.i ++ x.v).map u8v).toArray := ⟨_, rfl⟩
  rw [← hXX]
  have HXX := hid hXX
  clear hXX
  have hs := fun v lo hi lo' hi' w hv => Ref.tag 108 v lo hi lo' hi' [x.i, x.v] w (by decide) (by decide) hv (by simp) (by simp [total]; omega)
  have e32 : (leafH x).length = 32 := sumB_len _
  rw [show sumB (textB 108 [x.i, x.v]) = leafH x from rfl] at hs
  obtain ⟨res, hres⟩ : ∃ res, res = leafH x := ⟨_, rfl⟩
  rw [← hres] at hs e32 ⊢
  have HS := hid hs
  have H32 := hid e32
  clear hs e32 hres
  have k0 : Kept None w ((w.alloc (.cells X 139)).alloc (.cells #[.int .u8 0, .int .u8 0, .int .u8 0, .int .u8 0, .int .u8 0, .int .u8 0, .int .u8 0, .int .u8 0, .int .u8 0, .int .u8 0, .int .u8 0, .int .u8 0, .int .u8 0, .int .u8 0, .int .u8 0, .int .u8 0, .int .u8 0, .int .u8 0, .int .u8 0, .int .u8 0, .int .u8 0, .int .u8 0, .int .u8 0, .int .u8 0, .int .u8 0, .int .u8 0, .int .u8 0, .int .u8 0, .int .u8 0, .int .u8 0, .int .u8 0, .int .u8 0] 23)) := ((Kept.refl _ _).alloc _).alloc _
  have hX : Blk ((w.alloc (.cells X 139)).alloc (.cells #[.int .u8 0, .int .u8 0, .int .u8 0, .int .u8 0, .int .u8 0, .int .u8 0, .int .u8 0, .int .u8 0, .int .u8 0, .int .u8 0, .int .u8 0, .int .u8 0, .int .u8 0, .int .u8 0, .int .u8 0, .int .u8 0, .int .u8 0, .int .u8 0, .int .u8 0, .int .u8 0, .int .u8 0, .int .u8 0, .int .u8 0, .int .u8 0, .int .u8 0, .int .u8 0, .int .u8 0, .int .u8 0, .int .u8 0, .int .u8 0, .int .u8 0, .int .u8 0] 23)) w.heap.size X 139 := (Blk.new w _ _).alloc _
  have v0 := Blk.new2 w (.cells X 139) #[.int .u8 0, .int .u8 0, .int .u8 0, .int .u8 0, .int .u8 0, .int .u8 0, .int .u8 0, .int .u8 0, .int .u8 0, .int .u8 0, .int .u8 0, .int .u8 0, .int .u8 0, .int .u8 0, .int .u8 0, .int .u8 0, .int .u8 0, .int .u8 0, .int .u8 0, .int .u8 0, .int .u8 0, .int .u8 0, .int .u8 0, .int .u8 0, .int .u8 0, .int .u8 0, .int .u8 0, .int .u8 0, .int .u8 0, .int .u8 0, .int .u8 0, .int .u8 0] 23
  go_enter Try.func112, Try.ntmps112
  go_wp2_with fail
  obtain ⟨wB, hwB⟩ : ∃ wB, wB = ((w.alloc (.cells X 139)).alloc (.cells #[.int .u8 0, .int .u8 0, .int .u8 0, .int .u8 0, .int .u8 0, .int .u8 0, .int .u8 0, .int .u8 0, .int .u8 0, .int .u8 0, .int .u8 0, .int .u8 0, .int .u8 0, .int .u8 0, .int .u8 0, .int .u8 0, .int .u8 0, .int .u8 0, .int .u8 0, .int .u8 0, .int .u8 0, .int .u8 0, .int .u8 0, .int .u8 0, .int .u8 0, .int .u8 0, .int .u8 0, .int .u8 0, .int .u8 0, .int .u8 0, .int .u8 0, .int .u8 0] 23)) := ⟨_, rfl⟩
  rw [← hwB] at k0 hX v0 ⊢
  clear hwB
  have hL : ∀ W, Kept None wB W → Bs W w.heap.size (w.heap.size + 1) (.slice (some ⟨w.heap.size, 0, none⟩) 32 32) x.i := fun W hW => by
    have h := (HXX.out ▸ (hX.kept hW (fun h => h)) : Blk W w.heap.size ((x.i ++ x.v).map u8v).toArray 139).bs 0 32 (by rw [List.length_append]; omega) (by decide)
    rwa [List.drop_zero, List.take_left' hl] at h
  have hR : ∀ W, Kept None wB W → Bs W w.heap.size (w.heap.size + 1) (.slice (some ⟨w.heap.size, 32, none⟩) 32 32) x.v := fun W hW => by
    have h := (HXX.out ▸ (hX.kept hW (fun h => h)) : Blk W w.heap.size ((x.i ++ x.v).map u8v).toArray 139).bs 32 32 (by rw [List.length_append]; omega) (by decide)
    rwa [List.drop_left' hl, List.take_of_length_le (by omega)] at h
  have hs : Steady [.lists 4 ([x.i, x.v]), .val 5 (hashV res) [4]] := Steady.lists (Steady.val (Steady.nil))
  refine wp_region_kn_tail 6 wB _ hs (Kept.refl _ _) (by kernel_rfl) (by kernel_rfl) (by kernel_rfl) ?_
  simp only [List.take_succ_cons, List.take_zero, List.drop_succ_cons, List.drop_zero]
  iterate 4 (refine wpPar_pure rfl (by rfl) _ (fun W hW => by
      go_simp
      exact rfl) ?_; simp only [Act.put, List.setIfInBounds_toArray, List.set_cons_zero, List.set_cons_succ])
  refine wpKn_adds hs rfl (by rfl) (fun W hW hd => ?_) (fun v4 hv => ?_)
  · unfold Gives
    have h1 := hL W hW
    have h2 := hR W hW
    go_simp
    exact ⟨(Kept.refl None W).alloc _, ⟨_, _, rfl⟩, _, _, _, _, Bss.new W #[.slice (some ⟨w.heap.size, 0, none⟩) 32 32, .slice (some ⟨w.heap.size, 32, none⟩) 32 32] 29 [x.i, x.v] 2 rfl (by decide) ⟨h1.all, h2.all, trivial⟩⟩
  obtain ⟨a4, c4, rfl⟩ : ∃ a c, v4 = .slice a 2 c := hv
  simp only [Act.put, List.setIfInBounds_toArray, List.set_cons_zero, List.set_cons_succ]
  refine wpKn_adds hs rfl (by rfl) (fun W hW hd => ?_) (fun v5 hv => ?_)
  · unfold Gives
    obtain ⟨lo1, hi1, lo2, hi2, h1⟩ : ∃ lo hi lo' hi', Bss W lo hi lo' hi' (.slice a4 2 c4) [x.i, x.v] := hd 4 (List.Mem.head _)
    go_simp
    refine gives_call (HS.out _ _ _ _ _ _ h1) ?_
    rintro e w3 ⟨rfl, k3⟩
    exact ⟨_, rfl, k3, rfl, trivial⟩
  obtain rfl : v5 = hashV res := hv
  simp only [Act.put, List.setIfInBounds_toArray, List.set_cons_zero, List.set_cons_succ]
  refine wpPar_nil (fun W hW hG => ?_)
  have k04 := k0.trans hW
  have v4 := v0.kept hW (fun h => h)
  obtain ⟨z, hz, hR4⟩ : ∃ z : Array Value, z.size = 32 ∧ Blk W (w.heap.size + 1) z 23 := ⟨_, by simp, v4⟩
  clear hG hs hW k0 v0 v4 hL hR hX
  have e32' : (res.map u8v).toArray.size = 32 := by simpa using H32.out
  have aH' : AggTy Try.prog 23 (res.map u8v).toArray.size := by rw [e32']; exact Sp.aH
  have E := hid (hz.trans e32'.symm)
  clear e32' hz
  go_wp2_with (first | (refine wpList_store_blk rfl _ _ _ rfl rfl rfl hR4 aH' E.out (u8v_all _) ?_; intro w6 hR6 k6) | fail)
  exact bodyPost_ret (v := hashV res) (results_blk rfl _ rfl hR6 aH') rfl ⟨rfl, k04.then k6 (fun i hi (h : i = w.heap.size + 1) => by omega)⟩
end RTr

namespace RTr
set_option maxRecDepth 100000 in
set_option maxHeartbeats 2000000 in
/-- Node. -/
theorem node (l r : List UInt8) (w : World) (hl : l.length = 32) (hr : r.length = 32) : Calls Try.prog 114 #[hashV l, hashV r] w fun e w' => e = .returned (hashV (nodeH l r)) ∧ Kept None w w' := by
  show Calls Try.prog 114 #[.agg (l.map u8v).toArray, .agg (r.map u8v).toArray] w fun e w' => e = .returned (hashV (nodeH l r)) ∧ Kept None w w'
  obtain ⟨L, hLL⟩ : ∃ L : Array Value, L = (l.map u8v).toArray := ⟨_, rfl⟩
  obtain ⟨R, hRR⟩ : ∃ R : Array Value, R = (r.map u8v).toArray := ⟨_, rfl⟩
  rw [← hLL, ← hRR]
  have HLL := hid (And.intro hLL hRR)
  clear hLL hRR
  have hs := fun v lo hi lo' hi' w hv => Ref.tag 110 v lo hi lo' hi' [l, r] w (by decide) (by decide) hv (by simp) (by simp [total]; omega)
  have e32 : (nodeH l r).length = 32 := sumB_len _
  rw [show sumB (textB 110 [l, r]) = nodeH l r from rfl] at hs
  obtain ⟨res, hres⟩ : ∃ res, res = nodeH l r := ⟨_, rfl⟩
  rw [← hres] at hs e32 ⊢
  have HS := hid hs
  have H32 := hid e32
  clear hs e32 hres
  have k0 : Kept None w (((w.alloc (.cells L 23)).alloc (.cells R 23)).alloc (.cells #[.int .u8 0, .int .u8 0, .int .u8 0, .int .u8 0, .int .u8 0, .int .u8 0, .int .u8 0, .int .u8 0, .int .u8 0, .int .u8 0, .int .u8 0, .int .u8 0, .int .u8 0, .int .u8 0, .int .u8 0, .int .u8 0, .int .u8 0, .int .u8 0, .int .u8 0, .int .u8 0, .int .u8 0, .int .u8 0, .int .u8 0, .int .u8 0, .int .u8 0, .int .u8 0, .int .u8 0, .int .u8 0, .int .u8 0, .int .u8 0, .int .u8 0, .int .u8 0] 23)) := (((Kept.refl _ _).alloc _).alloc _).alloc _
  have hX : Blk (((w.alloc (.cells L 23)).alloc (.cells R 23)).alloc (.cells #[.int .u8 0, .int .u8 0, .int .u8 0, .int .u8 0, .int .u8 0, .int .u8 0, .int .u8 0, .int .u8 0, .int .u8 0, .int .u8 0, .int .u8 0, .int .u8 0, .int .u8 0, .int .u8 0, .int .u8 0, .int .u8 0, .int .u8 0, .int .u8 0, .int .u8 0, .int .u8 0, .int .u8 0, .int .u8 0, .int .u8 0, .int .u8 0, .int .u8 0, .int .u8 0, .int .u8 0, .int .u8 0, .int .u8 0, .int .u8 0, .int .u8 0, .int .u8 0] 23)) w.heap.size L 23 := ((Blk.new w _ _).alloc _).alloc _
  have hY : Blk (((w.alloc (.cells L 23)).alloc (.cells R 23)).alloc (.cells #[.int .u8 0, .int .u8 0, .int .u8 0, .int .u8 0, .int .u8 0, .int .u8 0, .int .u8 0, .int .u8 0, .int .u8 0, .int .u8 0, .int .u8 0, .int .u8 0, .int .u8 0, .int .u8 0, .int .u8 0, .int .u8 0, .int .u8 0, .int .u8 0, .int .u8 0, .int .u8 0, .int .u8 0, .int .u8 0, .int .u8 0, .int .u8 0, .int .u8 0, .int .u8 0, .int .u8 0, .int .u8 0, .int .u8 0, .int .u8 0, .int .u8 0, .int .u8 0] 23)) (w.heap.size + 1) R 23 := (Blk.new2 w _ _ _).alloc _
  have v0 := Blk.new3 w (.cells L 23) (.cells R 23) #[.int .u8 0, .int .u8 0, .int .u8 0, .int .u8 0, .int .u8 0, .int .u8 0, .int .u8 0, .int .u8 0, .int .u8 0, .int .u8 0, .int .u8 0, .int .u8 0, .int .u8 0, .int .u8 0, .int .u8 0, .int .u8 0, .int .u8 0, .int .u8 0, .int .u8 0, .int .u8 0, .int .u8 0, .int .u8 0, .int .u8 0, .int .u8 0, .int .u8 0, .int .u8 0, .int .u8 0, .int .u8 0, .int .u8 0, .int .u8 0, .int .u8 0, .int .u8 0] 23
  go_enter Try.func114, Try.ntmps114
  go_wp2_with fail
  obtain ⟨wB, hwB⟩ : ∃ wB, wB = (((w.alloc (.cells L 23)).alloc (.cells R 23)).alloc (.cells #[.int .u8 0, .int .u8 0, .int .u8 0, .int .u8 0, .int .u8 0, .int .u8 0, .int .u8 0, .int .u8 0, .int .u8 0, .int .u8 0, .int .u8 0, .int .u8 0, .int .u8 0, .int .u8 0, .int .u8 0, .int .u8 0, .int .u8 0, .int .u8 0, .int .u8 0, .int .u8 0, .int .u8 0, .int .u8 0, .int .u8 0, .int .u8 0, .int .u8 0, .int .u8 0, .int .u8 0, .int .u8 0, .int .u8 0, .int .u8 0, .int .u8 0, .int .u8 0] 23)) := ⟨_, rfl⟩
  rw [← hwB] at k0 hX hY v0 ⊢
  clear hwB
  have hL : ∀ W, Kept None wB W → Bs W w.heap.size (w.heap.size + 1) (.slice (some ⟨w.heap.size, 0, none⟩) 32 32) l := fun W hW => by
    have h := (HLL.out.1 ▸ (hX.kept hW (fun h => h)) : Blk W w.heap.size (l.map u8v).toArray 23).bs 0 32 (by omega) (by decide)
    rwa [List.drop_zero, List.take_of_length_le (by omega)] at h
  have hR : ∀ W, Kept None wB W → Bs W (w.heap.size + 1) (w.heap.size + 1 + 1) (.slice (some ⟨w.heap.size + 1, 0, none⟩) 32 32) r := fun W hW => by
    have h := (HLL.out.2 ▸ (hY.kept hW (fun h => h)) : Blk W (w.heap.size + 1) (r.map u8v).toArray 23).bs 0 32 (by omega) (by decide)
    rwa [List.drop_zero, List.take_of_length_le (by omega)] at h
  have hs : Steady [.lists 2 ([l, r]), .val 3 (hashV res) [2]] := Steady.lists (Steady.val (Steady.nil))
  refine wp_region_kn_tail 4 wB _ hs (Kept.refl _ _) (by kernel_rfl) (by kernel_rfl) (by kernel_rfl) ?_
  simp only [List.take_succ_cons, List.take_zero, List.drop_succ_cons, List.drop_zero]
  iterate 2 (refine wpPar_pure rfl (by rfl) _ (fun W hW => by
      go_simp
      exact rfl) ?_; simp only [Act.put, List.setIfInBounds_toArray, List.set_cons_zero, List.set_cons_succ])
  refine wpKn_adds hs rfl (by rfl) (fun W hW hd => ?_) (fun v2 hv => ?_)
  · unfold Gives
    have h1 := hL W hW
    have h2 := hR W hW
    go_simp
    exact ⟨(Kept.refl None W).alloc _, ⟨_, _, rfl⟩, _, _, _, _, Bss.new W #[.slice (some ⟨w.heap.size, 0, none⟩) 32 32, .slice (some ⟨w.heap.size + 1, 0, none⟩) 32 32] 29 [l, r] 2 rfl (by decide) ⟨h1.all, h2.all, trivial⟩⟩
  obtain ⟨a2, c2, rfl⟩ : ∃ a c, v2 = .slice a 2 c := hv
  simp only [Act.put, List.setIfInBounds_toArray, List.set_cons_zero, List.set_cons_succ]
  refine wpKn_adds hs rfl (by rfl) (fun W hW hd => ?_) (fun v3 hv => ?_)
  · unfold Gives
    obtain ⟨lo1, hi1, lo2, hi2, h1⟩ : ∃ lo hi lo' hi', Bss W lo hi lo' hi' (.slice a2 2 c2) [l, r] := hd 2 (List.Mem.head _)
    go_simp
    refine gives_call (HS.out _ _ _ _ _ _ h1) ?_
    rintro e w3 ⟨rfl, k3⟩
    exact ⟨_, rfl, k3, rfl, trivial⟩
  obtain rfl : v3 = hashV res := hv
  simp only [Act.put, List.setIfInBounds_toArray, List.set_cons_zero, List.set_cons_succ]
  refine wpPar_nil (fun W hW hG => ?_)
  have k04 := k0.trans hW
  have v4 := v0.kept hW (fun h => h)
  obtain ⟨z, hz, hR4⟩ : ∃ z : Array Value, z.size = 32 ∧ Blk W (w.heap.size + 1 + 1) z 23 := ⟨_, by simp, v4⟩
  clear hG hs hW k0 v0 v4 hL hR hX hY
  have e32' : (res.map u8v).toArray.size = 32 := by simpa using H32.out
  have aH' : AggTy Try.prog 23 (res.map u8v).toArray.size := by rw [e32']; exact Sp.aH
  have E := hid (hz.trans e32'.symm)
  clear e32' hz
  go_wp2_with (first | (refine wpList_store_blk rfl _ _ _ rfl rfl rfl hR4 aH' E.out (u8v_all _) ?_; intro w6 hR6 k6) | fail)
  exact bodyPost_ret (v := hashV res) (results_blk rfl _ rfl hR6 aH') rfl ⟨rfl, k04.then k6 (fun i hi (h : i = w.heap.size + 1 + 1) => by omega)⟩
end RTr
end Go.Proofs.Ytibkijloibnkfaa
