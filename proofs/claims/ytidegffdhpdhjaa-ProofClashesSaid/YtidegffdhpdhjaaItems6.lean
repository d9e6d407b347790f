/- postmarkseat.Items: by contract. -/
import Derived.Test.YtidegffdhpdhjaaRefItem6
import Derived.Test.YtidegffdhpdhjaaNm7
import Derived.Test.YtidegffdhpdhjaaTreeCat6
import Derived.Deep.LoopGhost
namespace Go.Pm
open Go Go.RowKit
/-- Numbers of two bytes. -/
def U16s (w : World) (lo hi : Nat) (v : Value) (ns : List Int) : Prop := Vs w lo hi v (ns.map (Value.int .u16)) ∧ ∀ n ∈ ns, 0 ≤ n ∧ n < 65536
theorem U16s.kept {S : Nat → Prop} {w w' : World} {lo hi : Nat} {v : Value} {ns : List Int} (h : U16s w lo hi v ns) (hk : Kept S w w') (hs : ∀ k, lo ≤ k → k < hi → ¬ S k) : U16s w' lo hi v ns := ⟨Vs.kept h.1 hk hs, h.2⟩
theorem U16s.form {w : World} {lo hi : Nat} {v : Value} {ns : List Int} (h : U16s w lo hi v ns) : ∃ a cap, v = .slice a ns.length cap ∧ ns.length ≤ cap ∧ cap ≤ 9223372036854775807 := by
  obtain ⟨a, cap, hv, h1, h2, _⟩ := h.1
  rw [List.length_map] at hv h1
  exact ⟨a, cap, hv, h1, h2⟩
theorem byte_and (x : Int) (h0 : 0 ≤ x) (h1 : x < 256) : 0 ≤ bits .and .u8 x 240 ∧ bits .and .u8 x 240 < 256 := by
  have h : ∀ y : Fin 256, 0 ≤ bits .and .u8 (y.1 : Int) 240 ∧ bits .and .u8 (y.1 : Int) 240 < 256 := by decide +kernel
  have := h ⟨x.toNat, by omega⟩
  simpa only [Int.toNat_of_nonneg h0] using this
end Go.Pm
namespace Go.Proofs.Ytidegffdhpdhjaa
open Go.RowKit Go.Pm

namespace Tr
set_option maxRecDepth 100000 in
set_option maxHeartbeats 4000000 in
/-- postmarkseat.Items: so many items. -/
theorem items (v : Value) (lo hi : Nat) (ns : List Int) (w : World) (hv : U16s w lo hi v ns) (hl : ns.length ≤ 1000000) :
    Calls Try.prog 26 #[v] w fun e w' => ∃ v' xs, e = .returned v' ∧ Ito 61 w' w.heap.size v' xs ∧ xs.length = ns.length ∧ Kept None w w' := by
  obtain ⟨a, cap, rfl, g1, g2⟩ := hv.form
  obtain ⟨n, hn⟩ : ∃ n, n = ns.length := ⟨_, rfl⟩
  rw [← hn] at hv hl g1 ⊢
  have HV := hid hv
  have HN := hid hn
  clear hv hn
  go_enter Try.func26, Try.ntmps26
  go_wp2
  go_loopg [3, 4, 5] n (fun kx s3 s4 s5 wr => ∃ (k : Nat) (ao : Option Addr) (no co : Nat) (v5 : Value) (xs : List It), s3 = .slice ao no co ∧ s4 = .int .i64 k ∧ s5 = v5 ∧ k ≤ n ∧ n - k ≤ kx ∧ Hid (Ito 61 wr w.heap.size (.slice ao no co) xs ∧ xs.length = k ∧ Kept None w wr))
  case atStart => exact ⟨0, none, 0, 0, _, [], rfl, rfl, rfl, Nat.zero_le _, Nat.le_refl _, ⟨Ito.nil _ _ _, rfl, Kept.refl _ _⟩⟩
  case round =>
    obtain ⟨k, ao, no, co, v5, xs, rfl, rfl, rfl, hk, hkx, HR⟩ := hrel
    by_cases hlt : k < n
    · have hz : (k : Int) < (n : Int) := by omega
      have hU := HV.out.kept HR.out.2.2 (fun _ _ _ h => h)
      obtain ⟨c, hc⟩ : ∃ c, ns[k]? = some c := ⟨_, List.getElem?_eq_getElem (by have := HN.out; omega)⟩
      have hcb := hU.2 c (List.mem_of_getElem? hc)
      obtain ⟨b, o, hbo, _, _, q3, hcell⟩ := hU.1.ne (by rw [List.length_map]; have := HN.out; omega)
      obtain rfl := hbo
      have hck := hcell k (.int .u16 c) (by rw [List.getElem?_map, hc]; rfl)
      have hK : ∀ W, Kept None wr W → W.cell? ⟨b, o + k, none⟩ = some (.int .u16 c) := fun W hW => by rw [hW.cell (block_lt_of_cell hck) (fun h => h)]; exact hck
      obtain ⟨c0, c1⟩ := hcb
      have hw8 : IntKind.u8.wrap c = c % 256 := by rw [IntKind.wrap_u8]
      have hwc : IntKind.i64.wrap (c / 256) = c / 256 := by rw [IntKind.wrap_i64]; omega
      obtain ⟨y, hy⟩ : ∃ y : It, y = ⟨indexH ⟨#[Go.Pm.byteOf c]⟩, valueH (c / 256) 1⟩ := ⟨_, rfl⟩
      have hyl : y.i.length = 32 ∧ y.v.length = 32 := by rw [hy]; exact ⟨indexH_len _, valueH_len _ _⟩
      have hit : ∀ W, Calls Try.prog 56 #[.agg #[.string ⟨#[Go.Pm.byteOf c]⟩, .int .i64 (c / 256), .int .u64 1]] W fun e w' => e = .returned (itemV y) ∧ Kept None W w' := fun W => by
        rw [hy]; exact RTr.item ⟨#[Go.Pm.byteOf c]⟩ (c / 256) 1 W (by show 1 ≤ _; omega) (by omega)
      have HIT := hid hit
      have HYL := hid hyl
      have HCB := hid (And.intro c0 c1)
      clear hU hc q3 hcell hck hy hit hyl
      go_wp2_with fail
      have hs : Steady [.raw 5 5 (wr.heap.size) ([Go.Pm.byteOf c]), .val 6 (.string ⟨#[Go.Pm.byteOf c]⟩) [5], .val 14 (itemV y), .room 15 wr.heap.size 64 61] := Steady.raw (Steady.val (Steady.val (Steady.room (Steady.nil))))
      refine wp_region_kn_tail 16 wr _ hs (Kept.refl _ _) (by kernel_rfl) (by kernel_rfl) (by kernel_rfl) ?_
      simp only [List.take_succ_cons, List.take_zero, List.drop_succ_cons, List.drop_zero]
      iterate 5 (refine wpPar_pure rfl (by rfl) _ (fun W hW => by
          have c0 := hK W hW
          go_simp
          exact rfl) ?_; simp only [Act.put, List.setIfInBounds_toArray, List.set_cons_zero, List.set_cons_succ])
      refine wpKn_adds hs rfl (by rfl) (fun W hW hd => ?_) (fun v5 hv => ?_)
      · unfold Gives
        go_simp
        have e : (#[.int .u8 (c % 256)] : Array Value) = (([Go.Pm.byteOf c] : List UInt8).map u8v).toArray := by rw [List.map_singleton, u8v_byteOf]
        exact ⟨(Kept.refl None W).alloc _, ⟨_, _, rfl⟩, Raw.new 5 W wr.heap.size [Go.Pm.byteOf c] #[.int .u8 (c % 256)] e hW.size⟩
      obtain ⟨a5, c5, rfl⟩ : ∃ a c, v5 = .slice a 1 c := hv
      simp only [Act.put, List.setIfInBounds_toArray, List.set_cons_zero, List.set_cons_succ]
      refine wpKn_adds hs rfl (by rfl) (fun W hW hd => ?_) (fun v6 hv => ?_)
      · unfold Gives
        have hr : Raw 5 W wr.heap.size (.slice a5 1 c5) [Go.Pm.byteOf c] := hd 5 (List.Mem.head _)
        have hcv := cvBytes (hr.bs (by unfold maxLen; simp))
        go_simp
        exact ⟨Kept.refl _ _, rfl, trivial⟩
      obtain rfl : v6 = .string ⟨#[Go.Pm.byteOf c]⟩ := hv
      simp only [Act.put, List.setIfInBounds_toArray, List.set_cons_zero, List.set_cons_succ]
      iterate 7 (refine wpPar_pure rfl (by rfl) _ (fun W hW => by
          have c0 := hK W hW
          go_simp
          exact rfl) ?_; simp only [Act.put, List.setIfInBounds_toArray, List.set_cons_zero, List.set_cons_succ])
      refine wpKn_adds hs rfl (by rfl) (fun W hW hd => ?_) (fun v14 hv => ?_)
      · unfold Gives
        go_simp
        refine gives_call (HIT.out W) ?_
        rintro e w3 ⟨rfl, k3⟩
        exact ⟨_, rfl, k3, rfl, trivial⟩
      obtain rfl : v14 = itemV y := hv
      simp only [Act.put, List.setIfInBounds_toArray, List.set_cons_zero, List.set_cons_succ]
      refine wpKn_adds hs rfl (by rfl) (fun W hW hd => ?_) (fun v15 hv => ?_)
      · unfold Gives
        go_simp
        exact ⟨(Kept.refl None W).alloc _, ⟨_, rfl⟩, _, _, rfl, hW.size, by rfl, Blk.new W #[.int .u8 0, .int .u8 0, .int .u8 0, .int .u8 0, .int .u8 0, .int .u8 0, .int .u8 0, .int .u8 0, .int .u8 0, .int .u8 0, .int .u8 0, .int .u8 0, .int .u8 0, .int .u8 0, .int .u8 0, .int .u8 0, .int .u8 0, .int .u8 0, .int .u8 0, .int .u8 0, .int .u8 0, .int .u8 0, .int .u8 0, .int .u8 0, .int .u8 0, .int .u8 0, .int .u8 0, .int .u8 0, .int .u8 0, .int .u8 0, .int .u8 0, .int .u8 0, .int .u8 0, .int .u8 0, .int .u8 0, .int .u8 0, .int .u8 0, .int .u8 0, .int .u8 0, .int .u8 0, .int .u8 0, .int .u8 0, .int .u8 0, .int .u8 0, .int .u8 0, .int .u8 0, .int .u8 0, .int .u8 0, .int .u8 0, .int .u8 0, .int .u8 0, .int .u8 0, .int .u8 0, .int .u8 0, .int .u8 0, .int .u8 0, .int .u8 0, .int .u8 0, .int .u8 0, .int .u8 0, .int .u8 0, .int .u8 0, .int .u8 0, .int .u8 0] 61⟩
      obtain ⟨g, rfl⟩ : ∃ g, v15 = .pointer (some ⟨g, 0, none⟩) := hv
      simp only [Act.put, List.setIfInBounds_toArray, List.set_cons_zero, List.set_cons_succ]
      refine wpPar_nil (fun w6 hW hG => ?_)
      have hy64 := itC_len HYL.out
      have aY0 : AggTy Try.prog 61 (itC y).toArray.size := by simpa [hy64] using RTr.aI64
      obtain ⟨g', z, hgg, hlo, hz6, hR⟩ : ∃ (g' : Nat) (z : Array Value), Value.pointer (some ⟨g, 0, none⟩) = .pointer (some ⟨g', 0, none⟩) ∧ wr.heap.size ≤ g' ∧ z.size = 64 ∧ Blk w6 g' z 61 := hG 15
      obtain rfl : g = g' := by injection hgg with e; injection e with e; injection e
      have E := hid (hz6.trans (show 64 = (itC y).toArray.size by simpa using hy64.symm))
      have A1 : (itC y).toArray.all (·.oneCell') = true := all_oneCell_toArray (fun c hc => itsC_one [y] c (by simpa [itsC] using hc))
      have HKK := hid hK
      have HW := hid hW
      rw [show itemV y = .agg (itC y).toArray by simp [itemV, itC]]
      clear hG hs hW hz6 hK HIT hw8 hwc hgg
      by_cases h3 : c % 3 = 0
      · have hb3 : (c % 3 == 0) = true := by rw [h3]; rfl
        go_wp2_with (first | (refine wpList_store_blk (.refl _) _ _ _ rfl rfl rfl hR aY0 E.out A1 ?_; intro w7 hB7 k7; have hk7 : Kept None wr w7 := HW.out.then k7 (fun i hi (e : i = g) => by omega); have hck := HKK.out w7 hk7) | fail)
        have HOLD := hid (show ∀ q, (Value.slice ao no co).ownBlock = some q → q < wr.heap.size from fun q hq => (HR.out.1.own q hq).2)
        have HRw7 := hid (And.intro (HR.out.1.kept hk7 (fun _ _ h => h)) (And.intro HR.out.2.1 (HR.out.2.2.trans hk7)))
        have HWS := hid HR.out.2.2.size
        clear HR k7 hR E HW HKK hb3 h3 hk7
        obtain ⟨P, hP⟩ : ∃ P, P = c / 4 % 256 := ⟨_, rfl⟩
        have p0 : 0 ≤ P := by omega
        have p1 : P < 256 := by omega
        obtain ⟨x0, x1⟩ := byte_and P p0 p1
        obtain ⟨X, hX⟩ : ∃ X, X = bits .and .u8 P 240 := ⟨_, rfl⟩
        rw [← hX] at x0 x1
        obtain ⟨Y, hY⟩ : ∃ Y, Y = c / 128 % 256 := ⟨_, rfl⟩
        have y0 : 0 ≤ Y := by omega
        have y1 : Y < 256 := by omega
        have q1 : IntKind.u8.wrap (c / 4) = P := by rw [IntKind.wrap_u8, hP]
        have q2 : bits .and .u8 P 240 = X := hX.symm
        have q3 : IntKind.u8.wrap (c / 128) = Y := by rw [IntKind.wrap_u8, hY]
        have hK7 : ∀ W, Kept None w7 W → W.cell? ⟨b, o + k, none⟩ = some (.int .u16 c) := fun W hW => by rw [hW.cell (block_lt_of_cell hck) (fun h => h)]; exact hck
        obtain ⟨x, hx⟩ : ∃ x : It, x = ⟨Go.Pm.byteOf X :: 0 :: Go.Pm.byteOf Y :: List.replicate 29 0, y.v⟩ := ⟨_, rfl⟩
        have hxl : x.i.length = 32 ∧ x.v.length = 32 := by rw [hx]; exact ⟨by simp, HYL.out.2⟩
        obtain ⟨C0, hC0⟩ : ∃ C0 : Array Value, C0 = #[.int .u8 X, .int .u8 0, .int .u8 Y, .int .u8 0, .int .u8 0, .int .u8 0, .int .u8 0, .int .u8 0, .int .u8 0, .int .u8 0, .int .u8 0, .int .u8 0, .int .u8 0, .int .u8 0, .int .u8 0, .int .u8 0, .int .u8 0, .int .u8 0, .int .u8 0, .int .u8 0, .int .u8 0, .int .u8 0, .int .u8 0, .int .u8 0, .int .u8 0, .int .u8 0, .int .u8 0, .int .u8 0, .int .u8 0, .int .u8 0, .int .u8 0, .int .u8 0] := ⟨_, rfl⟩
        have hC1 : C0.toList = x.i.map u8v := by
          rw [hC0, hx]
          simp only [List.map_cons, List.map_replicate, u8v_byteOf' x0 x1, u8v_byteOf' y0 y1]
          rfl
        have hCX : itC x = C0.toList ++ y.v.map u8v := by rw [hC1, hx]; rfl
        have hCs : C0.size = 32 := by rw [hC0]; rfl
        have HC := hid (And.intro hC0 (And.intro hCX hCs))
        have HXL := hid hxl
        have HYC := hid (show itC y = y.i.map u8v ++ y.v.map u8v from rfl)
        clear hck hP hX hY hx hxl hC0 hC1 hCX hCs p0 p1 x0 x1 y0 y1
        refine wp_region_kn_tail 15 w7 [] Steady.nil (Kept.refl _ _) (by kernel_rfl) (by kernel_rfl) (by kernel_rfl) ?_
        simp only [List.take_succ_cons, List.take_zero, List.drop_succ_cons, List.drop_zero]
        iterate 15 (refine wpPar_pure rfl (by rfl) _ (fun W hW => by
            have c0 := hK7 W hW
            go_simp
            exact rfl) ?_; simp only [Act.put, List.setIfInBounds_toArray, List.set_cons_zero, List.set_cons_succ])
        refine wpPar_nil (fun w8 hW hG => ?_)
        have HRw8 := hid (And.intro (HRw7.out.1.kept hW (fun _ _ h => h)) (And.intro HRw7.out.2.1 (HRw7.out.2.2.trans hW)))
        have hB8 := hB7.kept hW (fun h => h)
        have hb8 := hB8.lt
        have hs8 : (itC y).toArray.size = 64 := by simpa using itC_len HYL.out
        have aH0 : (Try.prog.info? 23).map (·.size) = some C0.size := by rw [HC.out.2.2]; exact Sp.aH.size
        have all0 : C0.all (·.oneCell') = true := by
          have h := all_oneCell_toArray (cs := C0.toList) (fun c hc => itsC_one [x] c (by rw [show itsC [x] = itC x by simp [itsC], HC.out.2.1]; exact List.mem_append_left _ hc))
          simpa using h
        have th0 : w8.there g 0 C0.size := fun j hj => by
          have hj' : j < 32 := by rw [HC.out.2.2] at hj; exact hj
          refine ⟨?_, hB8.free _⟩
          rw [hB8.cell]
          rw [Array.getElem?_eq_getElem (by omega)]
          rfl
        rw [← HC.out.1]
        clear hG hW HRw7 hB7 q1 q2 q3 hK7
        have hB9 := Blk.setCells C0.toList 0 w8 (itC y).toArray hB8 (by rw [hs8]; simp [HC.out.2.2])
        have eB : ((itC y).toArray.toList.take 0 ++ C0.toList ++ (itC y).toArray.toList.drop (0 + C0.toList.length)).toArray = (itC x).toArray := by
          rw [HC.out.2.1, List.take_zero, List.nil_append, Nat.zero_add, List.toList_toArray, HYC.out, show C0.toList.length = 32 by simpa using HC.out.2.2, List.drop_left' (by rw [List.length_map]; exact HYL.out.1)]
        rw [eB] at hB9
        have hk8 := kept_setCells (S := Just g) (a := w8) (b := g) (fun _ => rfl) C0.toList 0 w8 (Kept.refl _ _)
        have hne : ∀ q, (Value.slice ao no co).ownBlock = some q → ¬ Just g q := fun q hq (e : q = g) => by
          have := HOLD.out _ hq
          omega
        have hO10 := HRw8.out.1.kept hk8 hne
        have hk10 : Kept None w (w8.setCells g 0 C0.toList) := HRw8.out.2.2.then hk8 (fun i hi (e : i = g) => by have := HWS.out; omega)
        have hxs : xs.length + 1 ≤ 1099511627776 := by have := HRw8.out.2.1; omega
        have aY : AggTy Try.prog 61 (itC x).toArray.size := by
          have := itC_len HXL.out
          simpa [this] using RTr.aI64
        have h64 : (itC x).toArray.size = 64 := by simpa using itC_len HXL.out
        have HXS := hid HRw8.out.2.1
        clear HRw8
        go_wp2_with (first | (refine wpList_store_mid (.refl _) _ _ _ rfl g 0 C0 rfl rfl th0 aH0 all0 ?_; generalize w8.setCells g 0 C0.toList = w10 at hB9 hO10 hk10 ⊢; have hO1 := Its.one w10 61 x HXL.out; have hO4 := Ito.alloc hO10 (.cells (itC x).toArray 61); have k04 := Kept.alloc hk10 (.cells (itC x).toArray 61); have hsz4 := k04.size) | (refine wpList_load_blk (.refl _) _ _ rfl rfl hB9 aY ?_) | (refine wpList_one_item (.refl _) _ _ rfl RTr.rtItems (by decide) rfl h64 ?_) | (at_builtin; refine wpList_append_ito (v := .slice ao no co) (u := .slice (some ⟨w10.heap.size, 0, none⟩) 1 1) (.refl _) _ _ 64 rfl RTr.rtItems rfl rfl hO4 hO1 (by simpa using hxs) hsz4 ?_; intro a9 n9 c9 w9 hO9 k9 f9) | fail)
        have k09 := Kept.own k04 k9 (fun q hq => (hO4.own q hq).1)
        go_roundg (n - (k + 1))
        case measure => omega
        case rel => exact ⟨k + 1, a9, n9, c9, _, xs ++ [x], rfl, by go_num, rfl, by omega, Nat.le_refl _, ⟨hO9, by rw [List.length_append, HXS.out]; rfl, k09⟩⟩
      · have hb3 : (c % 3 == 0) = false := by rw [beq_eq_false_iff_ne]; exact h3
        have hxs : xs.length + 1 ≤ 1099511627776 := by have := HR.out.2.1; omega
        have aY : AggTy Try.prog 61 (itC y).toArray.size := by
          have := itC_len HYL.out
          simpa [this] using RTr.aI64
        have h64 : (itC y).toArray.size = 64 := by simpa using itC_len HYL.out
        have HXS := hid HR.out.2.1
        go_wp2_with (first | (refine wpList_store_blk (.refl _) _ _ _ rfl rfl rfl hR aY0 E.out A1 ?_; intro w7 hB7 k7; have hk7 : Kept None wr w7 := HW.out.then k7 (fun i hi (e : i = g) => by omega); have hck := HKK.out w7 hk7; have hO1 := Its.one w7 61 y HYL.out; have hO4 := Ito.alloc (HR.out.1.kept hk7 (fun _ _ h => h)) (.cells (itC y).toArray 61); have k04 := Kept.alloc (HR.out.2.2.trans hk7) (.cells (itC y).toArray 61); have hsz4 := k04.size) | (refine wpList_load_blk (.refl _) _ _ rfl rfl hB7 aY ?_) | (refine wpList_one_item (.refl _) _ _ rfl RTr.rtItems (by decide) rfl h64 ?_) | (at_builtin; refine wpList_append_ito (v := .slice ao no co) (u := .slice (some ⟨w7.heap.size, 0, none⟩) 1 1) (.refl _) _ _ 64 rfl RTr.rtItems rfl rfl hO4 hO1 (by simpa using hxs) hsz4 ?_; intro a9 n9 c9 w9 hO9 k9 f9) | fail)
        have k09 := Kept.own k04 k9 (fun q hq => (hO4.own q hq).1)
        go_roundg (n - (k + 1))
        case measure => omega
        case rel => exact ⟨k + 1, a9, n9, c9, _, xs ++ [y], rfl, by go_num, rfl, by omega, Nat.le_refl _, ⟨hO9, by rw [List.length_append, HXS.out]; rfl, k09⟩⟩
    · have hz : ¬ (k : Int) < (n : Int) := by omega
      go_wp2
      go_ret
      have hkn : k = n := by omega
      exact ⟨_, rfl, xs, HR.out.1, by rw [HR.out.2.1, hkn], HR.out.2.2⟩
end Tr
end Go.Proofs.Ytidegffdhpdhjaa
