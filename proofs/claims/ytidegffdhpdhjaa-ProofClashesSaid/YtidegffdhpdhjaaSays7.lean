/- Package proof: says, alike, Right. By contract. -/
import Derived.Test.YtidegffdhpdhjaaFoot7
import Derived.Deep.LoopGhost
namespace Go.Pm
open Go Go.RowKit
theorem eqFields_twoB {P : Program} {w : World} {xs ys : Array Value} {t : TypeId} {d : Nat} {b c : Bool} : ∀ {fs : List Field}, fs.map (fun f => (f.name == "_", f.type, f.offset)) = [(false, t, 0), (false, t, 32)] → (∀ w, (isAgg t).run P w = .ok true w) → (∀ w, (sizeOf t).run P w = .ok 32 w) →
    (Op.equalIn d t (.agg (xs.extract 0 32)) (.agg (ys.extract 0 32))).run P w = .ok b w → (Op.equalIn d t (.agg (xs.extract 32 64)) (.agg (ys.extract 32 64))).run P w = .ok c w → (Op.eqFields d xs ys fs).run P w = .ok (b && c) w
  | [f, g], h, ha, hs, h1, h2 => by
    simp only [List.map_cons, List.map_nil, List.cons.injEq, Prod.mk.injEq, and_true, beq_eq_false_iff_ne] at h
    obtain ⟨⟨f1, f2, f3⟩, g1, g2, g3⟩ := h
    cases b <;> cases c <;> simp only [Op.eqFields, f1, g1, ne_eq, not_false_eq_true, if_true, part, f2, f3, g2, g3, Sem.run_bind, ha, hs, Result.andThen_ok, Sem.run_pure, Nat.zero_add, h1, h2, Bool.not_true, Bool.not_false, Bool.false_eq_true, if_false, Bool.and_self, Bool.and_true, Bool.and_false]
  | [], h, _, _, _, _ => by simp at h
  | [_], h, _, _, _, _ => by simp at h
  | _ :: _ :: _ :: _, h, _, _, _, _ => by simp at h
/-- Are two items the same? -/
def itEq (x y : It) : Bool := (x.i == y.i) && (x.v == y.v)
theorem itEq_is (x y : It) : itEq x y = (x == y) := by
  cases x; cases y
  unfold itEq
  rw [Bool.eq_iff_iff]
  simp
end Go.Pm
namespace Go.Proofs.Ytidegffdhpdhjaa
open Go.RowKit Go.Pm
namespace Pr
theorem uItem : Try.prog.underlying 61 = some (.struct (Try.prog.fieldsOf 61)) := by kernel_rfl
theorem fItem : (Try.prog.fieldsOf 61).toList.map (fun f => (f.name == "_", f.type, f.offset)) = [(false, 23, 0), (false, 23, 32)] := by kernel_rfl
theorem hItem : Try.prog.stoodInHeld 61 = false := by kernel_rfl
theorem cut0 (x : It) (hx : x.i.length = 32) : (itC x).toArray.extract 0 32 = (x.i.map u8v).toArray := by
  rw [List.extract_toArray, List.extract_eq_take_drop]
  simp only [List.drop_zero, Nat.sub_zero]
  rw [show (itC x).take 32 = x.i.map u8v from List.take_left' (by rw [List.length_map]; exact hx)]
theorem cut32 (x : It) (hx : x.i.length = 32) (hv : x.v.length = 32) : (itC x).toArray.extract 32 64 = (x.v.map u8v).toArray := by
  rw [List.extract_toArray, List.extract_eq_take_drop]
  rw [show (itC x).drop 32 = x.v.map u8v from List.drop_left' (by rw [List.length_map]; exact hx), List.take_of_length_le (by rw [List.length_map]; omega)]
theorem equalIn_item (x y : It) (hx : x.i.length = 32 ∧ x.v.length = 32) (hy : y.i.length = 32 ∧ y.v.length = 32) (w : World) : (Op.equalIn 10000 61 (.agg (itC x).toArray) (.agg (itC y).toArray)).run Try.prog w = .ok (itEq x y) w := by
  rw [run_equalIn_struct w 9999 61 _ _ uItem hItem]
  rw [eqFields_twoB (t := 23) (b := x.i == y.i) (c := x.v == y.v) fItem Try.isAgg23 Try.sizeOf23]
  · rfl
  · rw [cut0 x hx.1, cut0 y hy.1]
    exact run_equalIn_bytes (P := Try.prog) w 9997 23 5 32 Tr.uHash Tr.uByte Tr.zByte x.i y.i hx.1 hy.1
  · rw [cut32 x hx.1 hx.2, cut32 y hy.1 hy.2]
    exact run_equalIn_bytes (P := Try.prog) w 9997 23 5 32 Tr.uHash Tr.uByte Tr.zByte x.v y.v hx.2 hy.2
theorem eqItem (x y : It) (hx : x.i.length = 32 ∧ x.v.length = 32) (hy : y.i.length = 32 ∧ y.v.length = 32) (w : World) : (binOp .eql 61 (.agg (itC x).toArray) (.agg (itC y).toArray)).run Try.prog w = .ok (.bool (itEq x y)) w := by
  rw [run_eql_struct, equalIn_item x y hx hy]; rfl
theorem neqItem (x y : It) (hx : x.i.length = 32 ∧ x.v.length = 32) (hy : y.i.length = 32 ∧ y.v.length = 32) (w : World) : (binOp .neq 61 (.agg (itC x).toArray) (.agg (itC y).toArray)).run Try.prog w = .ok (.bool (!(itEq x y))) w := by
  rw [run_neq_struct, equalIn_item x y hx hy]; rfl
theorem zero_all32 : (#[.int .u8 0, .int .u8 0, .int .u8 0, .int .u8 0, .int .u8 0, .int .u8 0, .int .u8 0, .int .u8 0, .int .u8 0, .int .u8 0, .int .u8 0, .int .u8 0, .int .u8 0, .int .u8 0, .int .u8 0, .int .u8 0, .int .u8 0, .int .u8 0, .int .u8 0, .int .u8 0, .int .u8 0, .int .u8 0, .int .u8 0, .int .u8 0, .int .u8 0, .int .u8 0, .int .u8 0, .int .u8 0, .int .u8 0, .int .u8 0, .int .u8 0, .int .u8 0] : Array Value).all (·.oneCell') = true := u8v_all' zero32
theorem zero_hash : hashV zero32 = .agg #[.int .u8 0, .int .u8 0, .int .u8 0, .int .u8 0, .int .u8 0, .int .u8 0, .int .u8 0, .int .u8 0, .int .u8 0, .int .u8 0, .int .u8 0, .int .u8 0, .int .u8 0, .int .u8 0, .int .u8 0, .int .u8 0, .int .u8 0, .int .u8 0, .int .u8 0, .int .u8 0, .int .u8 0, .int .u8 0, .int .u8 0, .int .u8 0, .int .u8 0, .int .u8 0, .int .u8 0, .int .u8 0, .int .u8 0, .int .u8 0, .int .u8 0, .int .u8 0] := by rfl
theorem zero_item : (itC zeroIt).toArray = #[.int .u8 0, .int .u8 0, .int .u8 0, .int .u8 0, .int .u8 0, .int .u8 0, .int .u8 0, .int .u8 0, .int .u8 0, .int .u8 0, .int .u8 0, .int .u8 0, .int .u8 0, .int .u8 0, .int .u8 0, .int .u8 0, .int .u8 0, .int .u8 0, .int .u8 0, .int .u8 0, .int .u8 0, .int .u8 0, .int .u8 0, .int .u8 0, .int .u8 0, .int .u8 0, .int .u8 0, .int .u8 0, .int .u8 0, .int .u8 0, .int .u8 0, .int .u8 0, .int .u8 0, .int .u8 0, .int .u8 0, .int .u8 0, .int .u8 0, .int .u8 0, .int .u8 0, .int .u8 0, .int .u8 0, .int .u8 0, .int .u8 0, .int .u8 0, .int .u8 0, .int .u8 0, .int .u8 0, .int .u8 0, .int .u8 0, .int .u8 0, .int .u8 0, .int .u8 0, .int .u8 0, .int .u8 0, .int .u8 0, .int .u8 0, .int .u8 0, .int .u8 0, .int .u8 0, .int .u8 0, .int .u8 0, .int .u8 0, .int .u8 0, .int .u8 0] := by rfl

set_option maxRecDepth 100000 in
set_option maxHeartbeats 4000000 in
/-- says. -/
theorem says (s : Value) (p : Pf) (w : World) (hp : p.Ok) : Calls Try.prog 104 #[pfV s p] w fun e w' => e = .returned (.tuple #[hashV (saysV p), .bool (saysH p)]) ∧ Kept None w w' := by
  obtain ⟨X, hX⟩ : ∃ X, X = (pfC s p).toArray := ⟨_, rfl⟩
  show Calls Try.prog 104 #[.agg (pfC s p).toArray] w _
  rw [← hX]
  have HX := hid hX
  have k0 : Kept None w ((w.alloc (.cells X 63)).alloc (.cells #[.int .u8 0, .int .u8 0, .int .u8 0, .int .u8 0, .int .u8 0, .int .u8 0, .int .u8 0, .int .u8 0, .int .u8 0, .int .u8 0, .int .u8 0, .int .u8 0, .int .u8 0, .int .u8 0, .int .u8 0, .int .u8 0, .int .u8 0, .int .u8 0, .int .u8 0, .int .u8 0, .int .u8 0, .int .u8 0, .int .u8 0, .int .u8 0, .int .u8 0, .int .u8 0, .int .u8 0, .int .u8 0, .int .u8 0, .int .u8 0, .int .u8 0, .int .u8 0] 23)) := ((Kept.refl _ _).alloc _).alloc _
  have v0 : Blk ((w.alloc (.cells X 63)).alloc (.cells #[.int .u8 0, .int .u8 0, .int .u8 0, .int .u8 0, .int .u8 0, .int .u8 0, .int .u8 0, .int .u8 0, .int .u8 0, .int .u8 0, .int .u8 0, .int .u8 0, .int .u8 0, .int .u8 0, .int .u8 0, .int .u8 0, .int .u8 0, .int .u8 0, .int .u8 0, .int .u8 0, .int .u8 0, .int .u8 0, .int .u8 0, .int .u8 0, .int .u8 0, .int .u8 0, .int .u8 0, .int .u8 0, .int .u8 0, .int .u8 0, .int .u8 0, .int .u8 0] 23)) (w.heap.size + 1) #[.int .u8 0, .int .u8 0, .int .u8 0, .int .u8 0, .int .u8 0, .int .u8 0, .int .u8 0, .int .u8 0, .int .u8 0, .int .u8 0, .int .u8 0, .int .u8 0, .int .u8 0, .int .u8 0, .int .u8 0, .int .u8 0, .int .u8 0, .int .u8 0, .int .u8 0, .int .u8 0, .int .u8 0, .int .u8 0, .int .u8 0, .int .u8 0, .int .u8 0, .int .u8 0, .int .u8 0, .int .u8 0, .int .u8 0, .int .u8 0, .int .u8 0, .int .u8 0] 23 := Blk.new2 w _ _ _
  have bX : Blk ((w.alloc (.cells X 63)).alloc (.cells #[.int .u8 0, .int .u8 0, .int .u8 0, .int .u8 0, .int .u8 0, .int .u8 0, .int .u8 0, .int .u8 0, .int .u8 0, .int .u8 0, .int .u8 0, .int .u8 0, .int .u8 0, .int .u8 0, .int .u8 0, .int .u8 0, .int .u8 0, .int .u8 0, .int .u8 0, .int .u8 0, .int .u8 0, .int .u8 0, .int .u8 0, .int .u8 0, .int .u8 0, .int .u8 0, .int .u8 0, .int .u8 0, .int .u8 0, .int .u8 0, .int .u8 0, .int .u8 0] 23)) w.heap.size X 63 := (Blk.new w _ _).alloc _
  clear hX
  by_cases he : p.e = 0
  · have hc1 : X[1]? = some (.int .i64 0) := by rw [HX.out]; simp [pfC, he]
    have hV : saysV p = p.x.v := by unfold saysV; rw [if_pos he]
    have hH : saysH p = true := by unfold saysH; simpa using he
    rw [hV, hH]
    have hr := pf_rv (HX.out ▸ bX : Blk ((w.alloc (.cells X 63)).alloc (.cells #[.int .u8 0, .int .u8 0, .int .u8 0, .int .u8 0, .int .u8 0, .int .u8 0, .int .u8 0, .int .u8 0, .int .u8 0, .int .u8 0, .int .u8 0, .int .u8 0, .int .u8 0, .int .u8 0, .int .u8 0, .int .u8 0, .int .u8 0, .int .u8 0, .int .u8 0, .int .u8 0, .int .u8 0, .int .u8 0, .int .u8 0, .int .u8 0, .int .u8 0, .int .u8 0, .int .u8 0, .int .u8 0, .int .u8 0, .int .u8 0, .int .u8 0, .int .u8 0] 23)) w.heap.size (pfC s p).toArray 63) hp
    have aX := aH32' hp.2.2
    have aX' := aH32 hp.2.2
    obtain ⟨z, hz, hR⟩ := Blk.any (n := 32) v0 (by rfl)
    have E := hid (hz.trans (show 32 = (p.x.v.map u8v).toArray.size by simpa using hp.2.2.symm))
    clear he hV hH v0 bX hz
    go_enter Try.func104, Try.ntmps104
    go_wp2_with (first | (refine wpList_load_at rfl _ _ rfl rfl hr aX ?_) | (refine wpList_store_blk rfl _ _ _ rfl rfl rfl hR aX' E.out (u8v_all _) ?_; intro w9 hR9 k9) | fail)
    exact bodyPost_ret (v := .tuple #[hashV p.x.v, .bool true]) (res_cell_tmp rfl _ rfl rfl hR9 aX') rfl ⟨rfl, k0.then k9 (fun i hi (h : i = w.heap.size + 1) => by omega)⟩
  · have hc1 : X[1]? = some (.int .i64 p.e) := by rw [HX.out]; simp [pfC]
    have he0 : (p.e == 0) = false := by simpa using he
    have he1 : (p.e != 0) = true := by simpa using he
    have hV : saysV p = zero32 := by unfold saysV; rw [if_neg he]
    have hH : saysH p = false := by unfold saysH; simpa using he
    rw [hV, hH, zero_hash]
    obtain ⟨z, hz, hR⟩ := Blk.any (n := 32) v0 (by rfl)
    clear hV hH v0 bX
    go_enter Try.func104, Try.ntmps104
    go_wp2_with (first | (refine wpList_store_blk rfl _ _ _ rfl rfl rfl hR Sp.aH hz zero_all32 ?_; intro w9 hR9 k9) | fail)
    exact bodyPost_ret (v := .tuple #[.agg #[.int .u8 0, .int .u8 0, .int .u8 0, .int .u8 0, .int .u8 0, .int .u8 0, .int .u8 0, .int .u8 0, .int .u8 0, .int .u8 0, .int .u8 0, .int .u8 0, .int .u8 0, .int .u8 0, .int .u8 0, .int .u8 0, .int .u8 0, .int .u8 0, .int .u8 0, .int .u8 0, .int .u8 0, .int .u8 0, .int .u8 0, .int .u8 0, .int .u8 0, .int .u8 0, .int .u8 0, .int .u8 0, .int .u8 0, .int .u8 0, .int .u8 0, .int .u8 0], .bool false]) (res_cell_tmp rfl _ rfl rfl hR9 Sp.aH) rfl ⟨rfl, k0.then k9 (fun i hi (h : i = w.heap.size + 1) => by omega)⟩

set_option maxRecDepth 100000 in
set_option maxHeartbeats 4000000 in
/-- alike. -/
theorem alike (a b : List UInt8) (n : Nat) (w : World) (ha : a.length = 32) (hb : b.length = 32) (hn : n ≤ 256) : Calls Try.prog 105 #[hashV a, hashV b, .int .i64 n] w fun e w' => e = .returned (.bool (alikeB a b n)) ∧ Kept None w w' := by
  obtain ⟨r, hr⟩ : ∃ r, r = alikeB a b n := ⟨_, rfl⟩
  rw [← hr]
  obtain ⟨L, hL⟩ : ∃ L : Array Value, L = (a.map u8v).toArray := ⟨_, rfl⟩
  obtain ⟨R, hR⟩ : ∃ R : Array Value, R = (b.map u8v).toArray := ⟨_, rfl⟩
  have hba := fun j (hj : j < 256) W => Tr.bit a ha j hj W
  have hbb := fun j (hj : j < 256) W => Tr.bit b hb j hj W
  have aL := aH32 ha
  have aR := aH32 hb
  show Calls Try.prog 105 #[.agg (a.map u8v).toArray, .agg (b.map u8v).toArray, .int .i64 n] w _
  have hba : ∀ j : Nat, j < 256 → ∀ W, Calls Try.prog 109 #[.agg (a.map u8v).toArray, .int .i64 j] W fun e w' => e = .returned (.int .i64 (bitI a j : Nat)) ∧ Kept None W w' := hba
  have hbb : ∀ j : Nat, j < 256 → ∀ W, Calls Try.prog 109 #[.agg (b.map u8v).toArray, .int .i64 j] W fun e w' => e = .returned (.int .i64 (bitI b j : Nat)) ∧ Kept None W w' := hbb
  rw [← hL] at aL hba ⊢
  rw [← hR] at aR hbb ⊢
  have HR := hid hr
  have HB := hid (And.intro hba hbb)
  clear hr hL hR hba hbb
  go_enter Try.func105, Try.ntmps105
  go_wp2
  go_loopg [7, 9] n (fun kx s7 s9 wr => ∃ (k : Nat) (v7 : Value), s7 = v7 ∧ s9 = .int .i64 k ∧ k ≤ n ∧ n - k ≤ kx ∧ Hid (∀ q, q < k → bitI a q = bitI b q) ∧ Hid (Kept None w wr) ∧ Blk wr w.heap.size L 23 ∧ Blk wr (w.heap.size + 1) R 23)
  case atStart => exact ⟨0, _, rfl, rfl, Nat.zero_le _, Nat.le_refl _, fun q h => by omega, ((Kept.refl _ _).alloc _).alloc _, (Blk.new w _ _).alloc _, Blk.new2 w _ _ _⟩
  case round =>
    obtain ⟨k, v7, rfl, rfl, hk, hkx, HQ, HK, bL, bR⟩ := hrel
    by_cases hlt : k < n
    · have hz : (k : Int) < (n : Int) := by omega
      have h256 : k < 256 := by omega
      have BL := hid bL
      have BR := hid bR
      clear bL bR
      go_wp2_with fail
      have hs : Steady [.val 2 (.int .i64 (bitI a k : Nat)), .val 5 (.int .i64 (bitI b k : Nat))] := Steady.val (Steady.val (Steady.nil))
      refine wp_region_kn wr _ hs (Kept.refl _ _) (by kernel_rfl) (by kernel_rfl) (by kernel_rfl) ?_
      refine wpPar_pure rfl (by rfl) _ (fun W hW => exec_load_blk _ _ rfl rfl (BL.out.kept hW (fun h => h)) aL) ?_; simp only [Act.put, List.setIfInBounds_toArray, List.set_cons_zero, List.set_cons_succ]
      iterate 1 (refine wpPar_pure rfl (by rfl) _ (fun W hW => by
          go_simp
          exact rfl) ?_; simp only [Act.put, List.setIfInBounds_toArray, List.set_cons_zero, List.set_cons_succ])
      refine wpKn_adds hs rfl (by rfl) (fun W hW hd => ?_) (fun v2 hv => ?_)
      · unfold Gives
        go_simp
        refine gives_call (HB.out.1 k h256 W) ?_
        rintro e w3 ⟨rfl, k3⟩
        exact ⟨_, rfl, k3, rfl, trivial⟩
      obtain rfl : v2 = .int .i64 (bitI a k : Nat) := hv
      simp only [Act.put, List.setIfInBounds_toArray, List.set_cons_zero, List.set_cons_succ]
      refine wpPar_pure rfl (by rfl) _ (fun W hW => exec_load_blk _ _ rfl rfl (BR.out.kept hW (fun h => h)) aR) ?_; simp only [Act.put, List.setIfInBounds_toArray, List.set_cons_zero, List.set_cons_succ]
      iterate 1 (refine wpPar_pure rfl (by rfl) _ (fun W hW => by
          go_simp
          exact rfl) ?_; simp only [Act.put, List.setIfInBounds_toArray, List.set_cons_zero, List.set_cons_succ])
      refine wpKn_adds hs rfl (by rfl) (fun W hW hd => ?_) (fun v5 hv => ?_)
      · unfold Gives
        go_simp
        refine gives_call (HB.out.2 k h256 W) ?_
        rintro e w3 ⟨rfl, k3⟩
        exact ⟨_, rfl, k3, rfl, trivial⟩
      obtain rfl : v5 = .int .i64 (bitI b k : Nat) := hv
      simp only [Act.put, List.setIfInBounds_toArray, List.set_cons_zero, List.set_cons_succ]
      by_cases he : bitI a k = bitI b k
      · rw [he]
        iterate 1 (refine wpPar_pure rfl (by rfl) _ (fun W hW => by
            go_simp
            exact rfl) ?_; simp only [Act.put, List.setIfInBounds_toArray, List.set_cons_zero, List.set_cons_succ])
        refine wpPar_nil (fun w6 hW hG => ?_)
        have HW := hid (HK.out.trans hW)
        have hBL := BL.out.kept hW (fun h => h)
        have hBR := BR.out.kept hW (fun h => h)
        have HQ' : Hid (∀ q, q < k + 1 → bitI a q = bitI b q) := hid (fun q h => by
          rcases Nat.lt_or_ge q k with h1 | h1
          · exact HQ.out q h1
          · obtain rfl : q = k := by omega
            exact he)
        clear hG hs hW HK BL BR he HQ
        go_wp2
        go_roundg (n - (k + 1))
        case measure => omega
        case rel => exact ⟨k + 1, _, rfl, by go_num, by omega, Nat.le_refl _, HQ', HW, hBL, hBR⟩
      · have hne : (((bitI a k : Nat) : Int) == ((bitI b k : Nat) : Int)) = false := by rw [beq_eq_false_iff_ne]; omega
        have hne2 : (((bitI a k : Nat) : Int) != ((bitI b k : Nat) : Int)) = true := by rw [bne_iff_ne]; omega
        iterate 1 (refine wpPar_pure rfl (by rfl) _ (fun W hW => by
            go_simp
            exact rfl) ?_; simp only [Act.put, List.setIfInBounds_toArray, List.set_cons_zero, List.set_cons_succ])
        refine wpPar_nil (fun w6 hW hG => ?_)
        have HW := hid (HK.out.trans hW)
        have HE := hid he
        clear hG hs hW HK BL BR he
        go_wp2
        go_ret
        exact ⟨by rw [HR.out]; unfold alikeB; rw [decide_eq_false (fun h => HE.out (h k hlt))]; rfl, HW.out⟩
    · have hz : ¬ (k : Int) < (n : Int) := by omega
      obtain rfl : k = n := by omega
      clear bL bR
      go_wp2
      go_ret
      exact ⟨by rw [HR.out]; unfold alikeB; rw [decide_eq_true HQ.out]; rfl, HK.out⟩
end Pr
end Go.Proofs.Ytidegffdhpdhjaa
