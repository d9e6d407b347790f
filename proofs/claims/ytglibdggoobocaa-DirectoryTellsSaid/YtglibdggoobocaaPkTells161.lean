/- Rows.DirectoryTellsSaid: what any directory has, what comes of it by any batch, and which may be, is the document's, whatever the lists and numbers. No condition. -/
import Derived.Test.YtglibdggoobocaaPk4
import Derived.Deep.LoopGhost
import Derived.Test.YtglibdggoobocaaPk2
import Derived.Shelf.SlSortCmp.KitK
import Derived.Test.YtglibdggoobocaaPk3
import Derived.Test.YtglibdggoobocaaPk5
import Derived.Test.YtglibdggoobocaaPk6
import Derived.Shelf.RegionOpenPlain
import Derived.Test.YtglibdggoobocaaRows
import Derived.Test.YtglibdggoobocaaPk8
namespace Go.Proofs.Ytglibdggoobocaa
open Go.RowKit Go.Pm
namespace Tr
theorem uItem : Try.prog.underlying 54 = some (.struct (Try.prog.fieldsOf 54)) := by kernel_rfl
theorem fItem : (Try.prog.fieldsOf 54).toList.map (fun f => (f.name == "_", f.type, f.offset)) = [(false, 52, 0), (false, 52, 32)] := by kernel_rfl
theorem hItem : Try.prog.stoodInHeld 54 = false := by kernel_rfl
theorem eqFields_two {P : Program} {w : World} {xs ys : Array Value} {t : TypeId} {d : Nat} : ∀ {fs : List Field}, fs.map (fun f => (f.name == "_", f.type, f.offset)) = [(false, t, 0), (false, t, 32)] → (∀ w, (isAgg t).run P w = .ok true w) → (∀ w, (sizeOf t).run P w = .ok 32 w) →
    (Op.equalIn d t (.agg (xs.extract 0 32)) (.agg (ys.extract 0 32))).run P w = .ok true w → (Op.equalIn d t (.agg (xs.extract 32 64)) (.agg (ys.extract 32 64))).run P w = .ok true w → (Op.eqFields d xs ys fs).run P w = .ok true w
  | [f, g], h, ha, hs, h1, h2 => by
    simp only [List.map_cons, List.map_nil, List.cons.injEq, Prod.mk.injEq, and_true, beq_eq_false_iff_ne] at h
    obtain ⟨⟨f1, f2, f3⟩, g1, g2, g3⟩ := h
    simp only [Op.eqFields, f1, g1, ne_eq, not_false_eq_true, if_true, part, f2, f3, g2, g3, Sem.run_bind, ha, hs, Result.andThen_ok, Sem.run_pure, Nat.zero_add, h1, h2, Bool.not_true, Bool.false_eq_true, if_false]
  | [], h, _, _, _, _ => by simp at h
  | [_], h, _, _, _, _ => by simp at h
  | _ :: _ :: _ :: _, h, _, _, _, _ => by simp at h
/-- An item isn't unlike itself. -/
theorem neqItem (x : It) (hx : x.i.length = 32 ∧ x.v.length = 32) (w : World) : (binOp .neq 54 (.agg (itC x).toArray) (.agg (itC x).toArray)).run Try.prog w = .ok (.bool false) w := by
  rw [run_neq_struct, run_equalIn_struct w 9999 54 _ _ uItem hItem]
  have e1 : (itC x).toArray.extract 0 32 = (x.i.map u8v).toArray := by
    rw [List.extract_toArray, List.extract_eq_take_drop]
    simp only [List.drop_zero, Nat.sub_zero]
    rw [show (itC x).take 32 = x.i.map u8v from List.take_left' (by rw [List.length_map]; exact hx.1)]
  have e2 : (itC x).toArray.extract 32 64 = (x.v.map u8v).toArray := by
    rw [List.extract_toArray, List.extract_eq_take_drop]
    rw [show (itC x).drop 32 = x.v.map u8v from List.drop_left' (by rw [List.length_map]; exact hx.1), List.take_of_length_le (by rw [List.length_map]; omega)]
  rw [eqFields_two (t := 52) fItem Try.isAgg52 Try.sizeOf52]
  · rfl
  · rw [e1]
    have h := run_equalIn_bytes (P := Try.prog) w 9997 52 5 32 uHash uByte zByte x.i x.i hx.1 hx.1
    rw [beq_self_eq_true] at h
    exact h
  · rw [e2]
    have h := run_equalIn_bytes (P := Try.prog) w 9997 52 5 32 uHash uByte zByte x.v x.v hx.2 hx.2
    rw [beq_self_eq_true] at h
    exact h
set_option maxRecDepth 100000 in
set_option maxHeartbeats 4000000 in
/-- postmarkhelp.Items: the same items are the same. -/
theorem same (va vb : Value) (lo hi lo' hi' : Nat) (l : List It) (w : World) (ha : Its w lo hi va l) (hb : Its w lo' hi' vb l) (hl : l.length ≤ 1099511627776) : Calls Try.prog 21 #[va, vb] w fun e w' => e = .returned (.bool true) ∧ Kept None w w' := by
  obtain ⟨a1, c1, rfl, p1, p2, _⟩ := ha.form
  obtain ⟨a2, c2, rfl, p3, p4, _⟩ := hb.form
  have p2' : c1 ≤ 9223372036854775807 := p2
  have p4' : c2 ≤ 9223372036854775807 := p4
  obtain ⟨n, hn⟩ : ∃ n, n = l.length := ⟨_, rfl⟩
  rw [← hn] at ha hb hl p1 p3 ⊢
  have HA := hid ha
  have HB := hid hb
  have HN := hid hn
  clear ha hb hn p2 p4
  go_enter Try.func21, Try.ntmps21
  go_wp2
  go_loopg [5] n (fun kx s5 wr => ∃ k : Nat, s5 = .int .i64 k ∧ k ≤ n ∧ n - k ≤ kx ∧ Hid (Kept None w wr))
  case atStart => exact ⟨0, rfl, Nat.zero_le _, Nat.le_refl _, Kept.refl _ _⟩
  case round =>
    obtain ⟨k, rfl, hk, hkx, HK⟩ := hrel
    by_cases hlt : k < n
    · have hz : (k : Int) < (n : Int) := by omega
      obtain ⟨x, hx⟩ : ∃ x, l[k]? = some x := ⟨_, List.getElem?_eq_getElem (by have := HN.out; omega)⟩
      have hxl := HA.out.1 x (List.mem_of_getElem? hx)
      have i1 := HA.out.kept HK.out (fun _ _ _ h => h)
      have i2 := HB.out.kept HK.out (fun _ _ _ h => h)
      obtain ⟨b1, o1, h1, _, _, _, hc1⟩ := i1.ne (by have := HN.out; omega)
      obtain ⟨b2, o2, h2, _, _, _, hc2⟩ := i2.ne (by have := HN.out; omega)
      obtain rfl := h1
      obtain rfl := h2
      have hcx := hc1 k x hx
      have hcy := hc2 k x hx
      have h64 := itC_len hxl
      have aY : AggTy Try.prog 54 (itC x).length := by rw [h64]; exact RTr.aI64
      have e1 := neqItem x hxl
      obtain ⟨C, hC⟩ : ∃ C, C = itC x := ⟨_, rfl⟩
      rw [← hC] at hcx hcy aY e1
      clear hx hxl i1 i2 hc1 hc2 h64 hC
      go_wp2_with fail
      refine wp_region_kn wr [] Steady.nil (Kept.refl _ _) (by kernel_rfl) (by kernel_rfl) (by kernel_rfl) ?_
      iterate 3 (refine wpPar_pure rfl (by rfl) _ (fun W hW => by
          go_simp
          exact rfl) ?_; simp only [Act.put, List.setIfInBounds_toArray, List.set_cons_zero, List.set_cons_succ])
      refine wpPar_pure rfl (by rfl) _ (fun W hW => exec_load_at rfl rfl (rangeAt_kept hcx hW) aY) ?_; simp only [Act.put, List.setIfInBounds_toArray, List.set_cons_zero, List.set_cons_succ]
      iterate 3 (refine wpPar_pure rfl (by rfl) _ (fun W hW => by
          go_simp
          exact rfl) ?_; simp only [Act.put, List.setIfInBounds_toArray, List.set_cons_zero, List.set_cons_succ])
      refine wpPar_pure rfl (by rfl) _ (fun W hW => exec_load_at rfl rfl (rangeAt_kept hcy hW) aY) ?_; simp only [Act.put, List.setIfInBounds_toArray, List.set_cons_zero, List.set_cons_succ]
      iterate 1 (refine wpPar_pure rfl (by rfl) _ (fun W hW => by
          go_simp
          exact rfl) ?_; simp only [Act.put, List.setIfInBounds_toArray, List.set_cons_zero, List.set_cons_succ])
      refine wpPar_nil (fun w7 hW hG => ?_)
      have HW := hid (HK.out.trans hW)
      clear hG hW HK e1 hcx hcy
      go_wp2
      go_roundg (n - (k + 1))
      case measure => omega
      case rel => exact ⟨k + 1, by go_num, by omega, Nat.le_refl _, HW⟩
    · have hz : ¬ (k : Int) < (n : Int) := by omega
      go_wp2
      go_ret
      exact ⟨rfl, HK.out⟩

end Tr
end Go.Proofs.Ytglibdggoobocaa
namespace Go.Pm
open Go Go.RowKit
theorem loads_of {P : Program} {w : World} {b o : Nat} {cs : List Value} (h : w.rangeAt b o cs) : Sem.run P (loadCellsFrom ⟨b, o, none⟩ 0 cs.length #[]) w = .ok cs.toArray w :=
  Go.Proofs.run_loadCellsFrom_list P w ⟨b, o, none⟩ cs _ rfl (fun j v hj => by rw [Addr.add_lit]; exact h j v hj)
theorem stores_of {P : Program} {w : World} {g o : Nat} {cs : List Value} {cur : Array Value} {t : TypeId} (hb : Blk w g cur t) (h : o + cs.length ≤ cur.size) (h1 : ∀ v ∈ cs, v.oneCell' = true) :
    Sem.run P (storeCells ⟨g, o, none⟩ cs 0) w = .ok () (w.setCells g o cs) := by
  have h2 := run_storeCells_cells (P := P) g o cs 0 w (fun c hc => by rw [Nat.add_zero, hb.cell, Array.getElem?_eq_getElem (show o + c < cur.size by omega)]; rfl) (fun c hc => by rw [Nat.add_zero]; exact hb.free _) h1
  rwa [Nat.add_zero] at h2
theorem knosC_cons (y : Kno) (l : List Kno) : (knosC (y :: l)).flatten = knoC y ++ (knosC l).flatten := rfl
theorem kset_cells {x : Kno} {j : Nat} {v : Value} (hj : j < 4) : ∀ (l : List Kno) (i : Nat) (hi : i < l.length), (knoC l[i]).set j v = knoC x → (knosC (l.set i x)).flatten = (knosC l).flatten.set (i * 4 + j) v
  | [], _, hi, _ => absurd hi (Nat.not_lt_zero _)
  | y :: l, 0, _, h => by
    rw [List.set_cons_zero, knosC_cons, knosC_cons, ← h, List.set_append_left _ _ (by show 0 * 4 + j < 4; omega)]
    congr 2
    show j = 0 * 4 + j
    omega
  | y :: l, i + 1, hi, h => by
    rw [List.set_cons_succ, knosC_cons, knosC_cons, List.set_append_right _ _ (by show 4 ≤ _; omega), kset_cells hj l i (by simpa using hi) h]
    congr 2
    show i * 4 + j = (i + 1) * 4 + j - 4
    omega
theorem kset_row {x : Kno} : ∀ (l : List Kno) (i : Nat), i < l.length → (knosC (l.set i x)).flatten = (knosC l).flatten.take (i * 4) ++ knoC x ++ (knosC l).flatten.drop (i * 4 + 4)
  | [], _, hi => absurd hi (Nat.not_lt_zero _)
  | y :: l, 0, _ => by
    rw [List.set_cons_zero, knosC_cons, knosC_cons]
    rfl
  | y :: l, i + 1, hi => by
    have e1 : (i + 1) * 4 = 4 + i * 4 := by omega
    have e2 : (i + 1) * 4 + 4 = 4 + (i * 4 + 4) := by omega
    rw [List.set_cons_succ, knosC_cons, knosC_cons, kset_row l i (by simpa using hi), e2, e1]
    have t : ∀ m, (knoC y ++ (knosC l).flatten).take (4 + m) = knoC y ++ (knosC l).flatten.take m := fun m => List.take_length_add_append (l₁ := knoC y) m
    have d : ∀ m, (knoC y ++ (knosC l).flatten).drop (4 + m) = (knosC l).flatten.drop m := fun m => List.drop_length_add_append (l₁ := knoC y) m
    rw [t, d]
    simp [List.append_assoc]
theorem knos_flen (l : List Kno) : (knosC l).flatten.length = l.length * 4 := by
  induction l with
  | nil => rfl
  | cons y l ih => rw [knosC_cons, List.length_append, ih, List.length_cons]; show 4 + l.length * 4 = (l.length + 1) * 4; omega
/-- Where an own row of them lies, and that its block may be set. -/
structure KRow (e : TypeId) (w : World) (base g n cap : Nat) (l : List Kno) (cur : Array Value) : Prop where
  len : n = l.length
  room : n ≤ cap ∧ cap ≤ 9223372036854775807
  base : base ≤ g
  blk : Blk w g cur e
  size : cur.size = cap * 4
  take : cur.toList.take (l.length * 4) = (knosC l).flatten
theorem Po.krow {e : TypeId} {w : World} {base n cap : Nat} {a : Option Addr} {l : List Kno} (h : Po 4 e w base (.slice a n cap) (knosC l)) (hn : 0 < l.length) : ∃ g cur, a = some ⟨g, 0, none⟩ ∧ KRow e w base g n cap l cur := by
  obtain ⟨a', c', hf⟩ := h.form
  injection hf with f1 f2 f3
  rw [knosC_len] at f2
  rcases h.2.2 with ⟨hn', _⟩ | ⟨g', cap', cur, hv, hbg, hg, hnc, hcm, hcs, htake⟩
  · rw [f1] at hn'
    injection hn' with q1 q2 q3
    omega
  · injection hv with e1 e2 e3
    subst e3
    rw [knosC_len] at htake hnc
    exact ⟨g', cur, e1, f2, ⟨by omega, hcm⟩, hbg, hg, hcs, htake⟩
theorem KRow.po {e : TypeId} {w : World} {base g n cap : Nat} {l : List Kno} {cur : Array Value} (h : KRow e w base g n cap l cur) : Po 4 e w base (.slice (some ⟨g, 0, none⟩) n cap) (knosC l) := by
  refine ⟨knosC_each _, by rw [knos_flen, knosC_len], .inr ⟨g, cap, cur, by rw [knosC_len, h.len], h.base, h.blk, by rw [knosC_len, ← h.len]; exact h.room.1, h.room.2, h.size, ?_⟩⟩
  rw [knosC_len]
  exact h.take
theorem KRow.cell {e : TypeId} {w : World} {base g n cap : Nat} {l : List Kno} {cur : Array Value} (h : KRow e w base g n cap l cur) {i : Nat} (hi : i < l.length) : w.rangeAt g (i * 4) (knoC l[i]) := by
  obtain ⟨b, o, q, _, _, _, hr⟩ := (h.po.ps (Nat.le_refl _)).ne (by decide) (by rw [knosC_len]; omega)
  injection q with q
  injection q with q1 q2
  subst q1 q2
  have := hr i _ (knosC_at l i hi)
  rwa [Nat.zero_add] at this
/-- One cell is set. -/
theorem KRow.one {e : TypeId} {w : World} {base g n cap : Nat} {l : List Kno} {cur : Array Value} (h : KRow e w base g n cap l cur) {i j : Nat} (hi : i < l.length) (hj : j < 4) {v : Value} {x : Kno} (hx : (knoC l[i]).set j v = knoC x) :
    KRow e (w.setCell ⟨g, i * 4 + j, none⟩ v) base g n cap (l.set i x) (cur.setIfInBounds (i * 4 + j) v) :=
  ⟨by rw [List.length_set]; exact h.len, h.room, h.base, h.blk.set _ _, by simpa using h.size, by rw [List.length_set, Array.toList_setIfInBounds, List.take_set, h.take, kset_cells hj l i hi hx]⟩
/-- One of them is set. -/
theorem KRow.row {e : TypeId} {w : World} {base g n cap : Nat} {l : List Kno} {cur : Array Value} (h : KRow e w base g n cap l cur) {i : Nat} (hi : i < l.length) (x : Kno) :
    ∃ cur', KRow e (w.setCells g (i * 4) (knoC x)) base g n cap (l.set i x) cur' := by
  have hsz : i * 4 + (knoC x).length ≤ cur.size := by have := h.size; have := h.room.1; have := h.len; show i * 4 + 4 ≤ _; omega
  have hb := Blk.setCells (knoC x) (i * 4) w cur h.blk hsz
  refine ⟨_, by rw [List.length_set]; exact h.len, h.room, h.base, hb, ?_, ?_⟩
  · have h4 : (knoC x).length = 4 := rfl
    simp only [List.size_toArray, List.length_append, List.length_take, List.length_drop, Array.length_toList, h4]
    have := h.size
    omega
  · have hl : (cur.toList.take (l.length * 4)).length = l.length * 4 := by rw [h.take, knos_flen]
    have e1 : cur.toList.take (i * 4) = (knosC l).flatten.take (i * 4) := by rw [← h.take, List.take_take, Nat.min_eq_left (by omega)]
    have e2 : ∀ m, ((knosC l).flatten.drop (i * 4 + 4)).length = m → (cur.toList.drop (i * 4 + 4)).take m = (knosC l).flatten.drop (i * 4 + 4) := fun m hm => by
      rw [← h.take, List.drop_take, ← hm, List.length_drop, knos_flen]
    have e3 : ((knosC l).flatten.take (i * 4)).length = i * 4 := by rw [List.length_take, knos_flen]; omega
    rw [List.length_set, kset_row l i hi]
    show List.take (l.length * 4) (cur.toList.take (i * 4) ++ knoC x ++ cur.toList.drop (i * 4 + 4)) = _
    rw [e1, List.take_append]
    have e4 : ((knosC l).flatten.take (i * 4) ++ knoC x).length = i * 4 + 4 := by rw [List.length_append, e3, show (knoC x).length = 4 from rfl]
    rw [List.take_of_length_le (by rw [e4]; omega), e4]
    congr 1
    exact e2 _ (by rw [List.length_drop, knos_flen])
theorem KRow.drew {e : TypeId} {w : World} {base g n cap : Nat} {l : List Kno} {cur : Array Value} (h : KRow e w base g n cap l cur) : KRow e w.drew base g n cap l cur := ⟨h.len, h.room, h.base, h.blk.kept ((Kept.refl None w).drew) (fun h => h), h.size, h.take⟩
/-- .. whatever stands behind them. -/
def KRw (e : TypeId) (base g n cap : Nat) (l : List Kno) (w : World) : Prop := ∃ cur, KRow e w base g n cap l cur
theorem KRw.at {e : TypeId} {w : World} {base g n cap : Nat} {l : List Kno} (h : KRw e base g n cap l w) {i : Nat} (hi : i < l.length) : w.rangeAt g (i * 4) (knoC l[i]) := by
  obtain ⟨_, h⟩ := h
  exact h.cell hi
theorem KRw.po {e : TypeId} {w : World} {base g n cap : Nat} {l : List Kno} (h : KRw e base g n cap l w) : Po 4 e w base (.slice (some ⟨g, 0, none⟩) n cap) (knosC l) := by
  obtain ⟨_, h⟩ := h
  exact h.po
theorem KRw.put {P : Program} {e : TypeId} {w : World} {base g n cap : Nat} {l : List Kno} (h : KRw e base g n cap l w) {i : Nat} (hi : i < l.length) (x : Kno) :
    Sem.run P (storeCells ⟨g, i * 4, none⟩ (knoC x) 0) w = .ok () (w.setCells g (i * 4) (knoC x)) ∧ KRw e base g n cap (l.set i x) (w.setCells g (i * 4) (knoC x)) := by
  obtain ⟨cur, h⟩ := h
  refine ⟨stores_of h.blk (by have := h.size; have := h.room.1; have := h.len; show i * 4 + 4 ≤ _; omega) (knoC_one _), h.row hi x⟩
end Go.Pm
namespace Go.Pm
open Go Go.RowKit
def hitK (nm : ByteArray) (v : Int) (x : Kno) : Bool := eqN x.e.n nm && decide (x.e.v = v)
theorem finK_at {l : List Kno} {nm : ByteArray} {v : Int} {k : Nat} (hk : k < l.length) (h0 : ∀ j (h : j < l.length), j < k → hitK nm v l[j] = false) (h1 : hitK nm v l[k] = true) : finK l nm v = (l[k], true) := by
  unfold finK
  rw [show l.find? (fun x => eqN x.e.n nm && decide (x.e.v = v)) = some l[k] from List.find?_eq_some_iff_getElem.2 ⟨h1, k, hk, rfl, fun j hj => by
    have := h0 j (by omega) hj
    unfold hitK at this
    rw [this]
    rfl⟩]
theorem finK_end {l : List Kno} {nm : ByteArray} {v : Int} (h0 : ∀ j (h : j < l.length), hitK nm v l[j] = false) : finK l nm v = (Kno.none, false) := by
  refine finK_none (fun x hx hn hv => ?_)
  obtain ⟨j, hj, rfl⟩ := List.getElem_of_mem hx
  have := h0 j hj
  unfold hitK at this
  rw [eqN_iff.2 hn, decide_eq_true hv] at this
  cases this
theorem hit_step {l : List Kno} {nm : ByteArray} {v : Int} {k : Nat} (h0 : ∀ j (h : j < l.length), j < k → hitK nm v l[j] = false) (hk : k < l.length) (h1 : hitK nm v l[k] = false) : ∀ j (h : j < l.length), j < k + 1 → hitK nm v l[j] = false := fun j h hj => by
  rcases Nat.lt_or_ge j k with g | g
  · exact h0 j h g
  · obtain rfl : j = k := by omega
    exact h1
end Go.Pm
namespace Go.Proofs.Ytglibdggoobocaa
open Go.RowKit Go.Pm
namespace R16
set_option maxRecDepth 100000 in
set_option maxHeartbeats 8000000 in
/-- Find. -/
theorem find (v : Value) (lo hi : Nat) (l : List Kno) (nm : ByteArray) (ver : Int) (w : World) (hv : Ps 4 w lo hi v (knosC l)) (hlen : l.length ≤ 1099511627776) :
    Calls Try.prog 20 #[v, .string nm, .int .i64 ver] w fun e w' => e = .returned (.tuple #[(finK l nm ver).1.V, .bool (finK l nm ver).2]) ∧ Kept None w w' := by
  obtain ⟨a, cap, rfl, g1, g2, g3⟩ := hv.form
  rw [knosC_len] at g1 hv ⊢
  obtain ⟨n, hn⟩ : ∃ n, n = l.length := ⟨_, rfl⟩
  rw [← hn] at g1 hlen hv ⊢
  have k0 : Kept None w (w.alloc (.cells #[.string ⟨#[]⟩, .int .i64 0, .int .u64 0, .int .i64 0] 31)) := (Kept.refl _ _).alloc _
  have z0 : Blk (w.alloc (.cells #[.string ⟨#[]⟩, .int .i64 0, .int .u64 0, .int .i64 0] 31)) w.heap.size (knoC Kno.none).toArray 31 := Blk.new w _ _
  have HV := hid hv
  have HN := hid (And.intro hn hlen)
  clear hv hn g3
  have K0 := hid k0
  have Z0 := hid z0
  clear k0 z0
  go_enter Try.func20, Try.ntmps20
  go_wp2
  go_loopg [8] n (fun kx s8 wr => ∃ (k : Nat), s8 = .int .i64 k ∧ k ≤ n ∧ n - k ≤ kx ∧ Hid (Kept None w wr) ∧ Hid (Blk wr w.heap.size (knoC Kno.none).toArray 31) ∧ Hid (∀ j (h : j < l.length), j < k → hitK nm ver l[j] = false))
  case atStart => exact ⟨0, rfl, Nat.zero_le _, Nat.le_refl _, K0, Z0, hid (fun j _ h => absurd h (Nat.not_lt_zero j))⟩
  case round =>
    obtain ⟨k, rfl, hk, hkx, HK, HZ, HT⟩ := hrel
    by_cases hlt : k < n
    · have hz : (k : Int) < (n : Int) := by omega
      have wk : IntKind.i64.wrap ((k : Int) + 1) = (k : Int) + 1 := by rw [IntKind.wrap_i64]; have := HN.out.2; omega
      have kl : k < l.length := by have := HN.out.1; omega
      obtain ⟨bb, o, q1, hc⟩ := (HV.out.kept HK.out (fun _ _ _ h => h)).kno (by omega)
      obtain rfl := q1
      obtain ⟨c0, c1, _, _, rx, _⟩ := hc k kl
      have HR := hid rx
      obtain ⟨E, hE⟩ : ∃ E, E = eqN l[k].e.n nm := ⟨_, rfl⟩
      obtain ⟨G, hG⟩ : ∃ G, G = decide (l[k].e.v = ver) := ⟨_, rfl⟩
      have hit : hitK nm ver l[k] = (E && G) := by rw [hE, hG]; rfl
      obtain ⟨x0, hx0⟩ : ∃ x, x = l[k].e.n := ⟨_, rfl⟩
      obtain ⟨x1, hx1⟩ : ∃ x, x = l[k].e.v := ⟨_, rfl⟩
      rw [← hx0] at c0
      rw [← hx1] at c1
      have hE' : (x0.toList == nm.toList) = E := by rw [hx0, hE]; rfl
      have hG' : (x1 == ver) = G := by rw [hx1, hG]; rfl
      have hG2 : decide (x1 = ver) = G := by rw [hx1, hG]
      have HX := hid hit
      clear rx hc hit hE hG hx0 hx1
      have HS : Hid (hitK nm ver l[k] = false → ∀ j (h : j < l.length), j < k + 1 → hitK nm ver l[j] = false) := hid (fun h => hit_step HT.out kl h)
      cases E with
      | false =>
        have HT2 := hid (HS.out HX.out)
        clear HS HX
        go_wp2_with fail
        go_roundg (n - (k + 1))
        case measure => omega
        case rel => exact ⟨k + 1, by go_num, by omega, Nat.le_refl _, HK, HZ, HT2⟩
      | true =>
        cases G with
        | false =>
          have HT2 := hid (HS.out HX.out)
          clear HS HX
          go_wp2_with fail
          go_roundg (n - (k + 1))
          case measure => omega
          case rel => exact ⟨k + 1, by go_num, by omega, Nat.le_refl _, HK, HZ, HT2⟩
        | true =>
          have HF := hid (finK_at kl HT.out HX.out)
          have rx := HR.out
          have z6 := HZ.out
          clear HS HX HT
          go_wp2_with (first | (refine wpList_load_at (.refl _) _ _ rfl rfl rx aKno ?_) | (refine wpList_store_blk rfl _ _ _ rfl rfl rfl z6 aKno rfl (kno_all _) ?_; intro w7 z7 k7) | fail)
          exact bodyPost_ret (v := .tuple #[(l[k]).V, .bool true]) (res_ct rfl _ rfl rfl z7 aKno) rfl ⟨by rw [HF.out], HK.out.then k7 (fun i hi (h : i = w.heap.size) => by omega)⟩
    · have hz : ¬ (k : Int) < (n : Int) := by omega
      obtain rfl : k = n := by omega
      have HF : Hid (finK l nm ver = (Kno.none, false)) := hid (finK_end (fun j h => HT.out j h (by have := HN.out.1; omega)))
      have z6 := HZ.out
      clear HT
      go_wp2_with (first | (refine wpList_store_blk rfl _ _ _ rfl rfl rfl z6 aKno rfl (kno_all Kno.none) ?_; intro w7 z7 k7) | fail)
      exact bodyPost_ret (v := .tuple #[Kno.none.V, .bool false]) (res_ct rfl _ rfl rfl z7 aKno) rfl ⟨by rw [HF.out], HK.out.then k7 (fun i hi (h : i = w.heap.size) => by omega)⟩
end R16
end Go.Proofs.Ytglibdggoobocaa
namespace Go.Proofs.Ytglibdggoobocaa
open Go.RowKit Go.Pm
namespace P16
open Dr
theorem mod_nat {k n : Nat} (h : 0 < n) : ∃ i : Nat, (k : Int) % (n : Int) = (i : Int) ∧ i < n := ⟨k % n, by omega, Nat.mod_lt _ h⟩
theorem wrap_byte {k : Nat} (h : k < 256) : wrap64 (k : Int) = (k : Int) ∧ IntKind.i64.wrap (k : Int) = (k : Int) := by
  rw [IntKind.wrap_i64]
  unfold wrap64
  omega
theorem tmod_nat {k n i : Nat} (h : (k : Int) % (n : Int) = (i : Int)) : (k : Int).tmod (n : Int) = (i : Int) := by rw [Int.tmod_eq_emod_of_nonneg (Int.natCast_nonneg _)]; exact h
theorem wrap_u64n (z : Int) : ∃ K : Nat, IntKind.u64.wrap z = (K : Int) ∧ K < 18446744073709551616 := by
  refine ⟨(IntKind.u64.wrap z).toNat, ?_, ?_⟩ <;> rw [IntKind.wrap_u64] <;> omega
theorem quo_nat (x : Nat) : ∃ q : Nat, (x : Int) / 120 = (q : Int) ∧ (x : Int).tdiv 120 = (q : Int) := ⟨x / 120, by omega, by rw [Int.tdiv_eq_ediv_of_nonneg (Int.natCast_nonneg _)]; omega⟩
theorem of_five {w : Nat} : (w : Int) % 5 = 0 ∨ (w : Int) % 5 = 1 ∨ (w : Int) % 5 = 2 ∨ (w : Int) % 5 = 3 ∨ (w : Int) % 5 = 4 := by omega
theorem tops_step {l : List Kno} {k : Nat} {T : Int} (h : ∀ j (hj : j < l.length), j < k → l[j].p ≤ T) (hk : k < l.length) : ∀ j (hj : j < l.length), j < k + 1 → l[j].p ≤ max T l[k].p := fun j hj hjk => by
  rcases Nat.lt_or_ge j k with g | g
  · have := h j hj g
    omega
  · obtain rfl : j = k := by omega
    omega
theorem kok_set {l : List Kno} (h : KW l) (i : Nat) {x : Kno} (hx : x.e.k < 18446744073709551616) : KW (l.set i x) := fun y hy => by
  rcases List.mem_or_eq_of_mem_set hy with q | q
  · exact h y q
  · rw [q]; exact hx
def Halt (p : Prop) : Prop := p
theorem Halt.mk {p : Prop} (h : Halt p) : p := h
/-- A row of what is known, at whatever later world. -/
structure KnoAt (w : World) (v : Value) (l : List Kno) : Prop where
  ps : ∀ W, Kept None w W → Ps 4 W 0 w.heap.size v (knosC l)
  ok : KW l
  len : l.length ≤ 1000
theorem KnoAt.of {w : World} {v : Value} {l : List Kno} {lo hi : Nat} (h : Ps 4 w lo hi v (knosC l)) (ho : KW l) (hl : l.length ≤ 1000) : KnoAt w v l := ⟨fun _W hW => (h.lt.kept hW (fun _ _ _ h => h)).wider (Nat.zero_le _) (Nat.min_le_right _ _), ho, hl⟩
theorem KnoAt.later {w w' : World} {v : Value} {l : List Kno} (h : KnoAt w v l) (hk : Kept None w w') : KnoAt w' v l := ⟨fun W hW => (h.ps W (hk.trans hW)).wider (Nat.le_refl _) hk.size, h.ok, h.len⟩
structure EntAt (w : World) (v : Value) (l : List Ent) : Prop where
  ps : ∀ W, Kept None w W → Ps 3 W 0 w.heap.size v (entsC l)
  ok : EW l
  len : l.length ≤ 1000
theorem EntAt.of {w : World} {v : Value} {l : List Ent} {lo hi : Nat} (h : Ps 3 w lo hi v (entsC l)) (ho : EW l) (hl : l.length ≤ 1000) : EntAt w v l := ⟨fun _W hW => (h.lt.kept hW (fun _ _ _ h => h)).wider (Nat.zero_le _) (Nat.min_le_right _ _), ho, hl⟩
theorem EntAt.later {w w' : World} {v : Value} {l : List Ent} (h : EntAt w v l) (hk : Kept None w w') : EntAt w' v l := ⟨fun W hW => (h.ps W (hk.trans hW)).wider (Nat.le_refl _) hk.size, h.ok, h.len⟩
theorem Facts.later' {wd w1 : World} {v : Value} {d : List Kno} (h : Facts wd v d) (hk : Kept None wd w1) : Facts w1 v d := ⟨fun W hW => (h.ps W (hk.trans hW)).wider (Nat.le_refl _) hk.size, h.rt, h.ok, h.len⟩
theorem three_at {w : World} {g : Nat} {t : TypeId} {x y z : Value} (h : Blk w g #[x, y, z] t) {j : Nat} (hj : j < 3) : ∃ u, w.cell? ⟨g, j, none⟩ = some u ∧ (u = x ∨ u = y ∨ u = z) := by
  rcases (show j = 0 ∨ j = 1 ∨ j = 2 by omega) with rfl | rfl | rfl
  · exact ⟨x, h.cell 0, .inl rfl⟩
  · exact ⟨y, h.cell 1, .inr (.inl rfl)⟩
  · exact ⟨z, h.cell 2, .inr (.inr rfl)⟩
theorem two_at {w : World} {g : Nat} {t : TypeId} {x y : Value} (h : Blk w g #[x, y] t) {j : Nat} (hj : j < 2) : ∃ u, w.cell? ⟨g, j, none⟩ = some u ∧ (u = x ∨ u = y) := by
  rcases (show j = 0 ∨ j = 1 by omega) with rfl | rfl
  · exact ⟨x, h.cell 0, .inl rfl⟩
  · exact ⟨y, h.cell 1, .inr rfl⟩
set_option maxRecDepth 100000 in
set_option maxHeartbeats 32000000 in
theorem tells (hR : RightC) (hL : LatestC) (hF : FindC) (hA : AddC) (hI : ItemsC) (v vr vb vk : Value) (lo1 hi1 lo2 hi2 lo3 hi3 lo4 hi4 : Nat) (l : List UInt8) (raw : List Kno) (batch : List Ent) (ks : List UInt8) (ep : Int) (nm : ByteArray) (kk what : Nat) (vv : Int) (w : World)
    (hv : Bs w lo1 hi1 v l) (hvr : Ps 4 w lo2 hi2 vr (knosC raw)) (hvb : Ps 3 w lo3 hi3 vb (entsC batch)) (hvk : Bs w lo4 hi4 vk ks) (hraw : KW raw) (hbat : EW batch) (hkk : kk < 256) :
    Calls Try.prog 3 #[v, vr, vb, vk, .int .i64 ep, .string nm, .int .u8 (kk : Int), .int .u8 (what : Int), .int .i64 vv] w fun e w' => e = .returned (.bool true) ∧ Kept None w w' := by
  obtain ⟨a, cap, rfl, q1, q2, q3⟩ := hv.shape
  obtain ⟨ak, ck, rfl, r1, r2, r3⟩ := hvk.shape
  obtain ⟨ar, cr, hur, _⟩ := hvr.form
  rw [knosC_len] at hur
  subst hur
  obtain ⟨ab0, cb0, hub, _⟩ := hvb.form
  rw [entsC_len] at hub
  subst hub
  have HK := hid (known hR hL hA hI w)
  have HV := hid hv
  have HVK := hid hvk
  have HVR := hid (And.intro hvr hraw)
  have HVB := hid (And.intro hvb hbat)
  have HC := hid (And.intro hR (And.intro hL (And.intro hF (And.intro hA hI))))
  have HKB := hid hkk
  clear hv q3 hvk r3 hR hL hF hA hI hvr hraw hvb hbat hkk
  go_enter Try.func3, Try.ntmps3
  go_wp2_with fail
  refine HK.out.mono ?_
  rintro e w0 ⟨rfl, k0⟩
  have K0 := hid k0
  clear k0 HK
  by_cases g0 : 20 < l.length
  · have z0 : (20 : Int) < (l.length : Int) := by omega
    have y0 : decide ((20 : Int) < (l.length : Int)) = true := decide_eq_true z0
    go_wp2_with (first | go_skip | fail)
    go_ret
    exact ⟨rfl, K0.out⟩
  · have z0 : ¬ (20 : Int) < (l.length : Int) := by omega
    have y0 : decide ((20 : Int) < (l.length : Int)) = false := decide_eq_false z0
    by_cases g1 : 12 < raw.length
    · have z1 : (12 : Int) < (raw.length : Int) := by omega
      have y1 : decide ((12 : Int) < (raw.length : Int)) = true := decide_eq_true z1
      go_wp2_with (first | go_skip | fail)
      go_ret
      exact ⟨rfl, K0.out⟩
    · have z1 : ¬ (12 : Int) < (raw.length : Int) := by omega
      have y1 : decide ((12 : Int) < (raw.length : Int)) = false := decide_eq_false z1
      by_cases g2 : 10 < batch.length
      · have z2 : (10 : Int) < (batch.length : Int) := by omega
        have y2 : decide ((10 : Int) < (batch.length : Int)) = true := decide_eq_true z2
        go_wp2_with (first | go_skip | fail)
        go_ret
        exact ⟨rfl, K0.out⟩
      · have z2 : ¬ (10 : Int) < (batch.length : Int) := by omega
        have y2 : decide ((10 : Int) < (batch.length : Int)) = false := decide_eq_false z2
        by_cases g3 : 10 < ks.length
        · have z3 : (10 : Int) < (ks.length : Int) := by omega
          have y3 : decide ((10 : Int) < (ks.length : Int)) = true := decide_eq_true z3
          go_wp2_with (first | go_skip | fail)
          go_ret
          exact ⟨rfl, K0.out⟩
        · have z3 : ¬ (10 : Int) < (ks.length : Int) := by omega
          have y3 : decide ((10 : Int) < (ks.length : Int)) = false := decide_eq_false z3
          by_cases g4 : 40 < nm.size
          · have z4 : (40 : Int) < (nm.size : Int) := by omega
            have y4 : decide ((40 : Int) < (nm.size : Int)) = true := decide_eq_true z4
            go_wp2_with (first | go_skip | fail)
            go_ret
            exact ⟨rfl, K0.out⟩
          · have z4 : ¬ (40 : Int) < (nm.size : Int) := by omega
            have y4 : decide ((40 : Int) < (nm.size : Int)) = false := decide_eq_false z4
            have HD := hid (Es.directory (.slice a l.length cap) lo1 hi1 l w0 (HV.out.kept K0.out (fun _ _ _ h => h)) (by omega))
            have HNM := hid (show nm.size ≤ 40 by omega)
            have HL := hid (show l.length ≤ 20 ∧ raw.length ≤ 12 ∧ batch.length ≤ 10 ∧ ks.length ≤ 10 by omega)
            clear HV
            go_wp2_with (first | go_skip | fail)
            refine HD.out.mono ?_
            rintro e wd ⟨u, d, rfl, k1, p1, o1, n1⟩
            obtain ⟨ad, cd, hu, _⟩ := p1.form
            rw [knosC_len] at hu
            subst hu
            have K1 := hid (K0.out.trans k1)
            have FA := hid (Facts.of p1 o1 (by have := HL.out; omega))
            have HPL : Hid (∀ x ∈ d, x.p ≤ 21) := hid (fun x hx => by have := o1.lt x hx; have := HL.out; omega)
            have hu0 := p1
            have hlen0 : (knosC ([] : List Kno)).length + (knosC d).length ≤ 1099511627776 := by rw [knosC_len, knosC_len]; have := HL.out; simp; omega
            have hpo0 : Po 4 31 wd wd.heap.size (.slice none 0 0) (knosC []) := Po.nil ..
            have HNL := hid (show d.length ≤ 20 by have := HL.out; omega)
            have KR0 := hid (HVR.out.1.kept K1.out (fun _ _ _ h => h))
            have KB0 := hid (HVB.out.1.kept K1.out (fun _ _ _ h => h))
            have HKS0 := hid (HVK.out.kept K1.out (fun _ _ _ h => h))
            clear k1 p1 o1 n1 HD K0 z0 z1 z2 z3 z4 y0 y1 y2 y3 y4 g0 g1 g2 g3 g4 HVK
            go_wp2_with (first | (at_builtin; refine wpList_append_po rfl _ _ 23 rfl R16.rtKnown (by decide) rfl rfl hpo0 hu0 (knosC_one _) hlen0 (Nat.le_refl _) ?_; intro a2 n2 c2 w2 hP2 hK2 _; refine Halt.mk ?_) | fail)
            unfold Halt
            rw [← knosC_app, List.nil_append] at hP2
            have hK2n : Kept None wd w2 := hK2.mono (fun k _ h => by cases h)
            have PY := hid hP2
            have K2 := hid hK2n
            have hn2 : n2 = d.length := by
              obtain ⟨a', c', h⟩ := hP2.form
              rw [knosC_len] at h
              injection h
            subst hn2
            clear hu0 hlen0 hpo0 hP2 hK2 hK2n
            obtain ⟨N, hN⟩ : ∃ z, z = d.length := ⟨_, rfl⟩
            rw [← hN] at FA PY ⊢
            have HN := hid (show N = d.length ∧ N ≤ 20 from ⟨hN, by have := HNL.out; omega⟩)
            clear hN HNL
            go_upto_if 79 with fail
            go_cut [20] (fun s20 wx => ∃ (ay : Option Addr) (cy : Nat) (Y : List Kno), s20 = .slice ay N cy ∧ Hid (Po 4 31 wx wd.heap.size (.slice ay N cy) (knosC Y)) ∧ Hid (KW Y ∧ Y.length = N) ∧ Hid (Kept None wd wx))
            case first => as_aux_lemma =>
              by_cases h0 : N = 0
              · have z0 : decide ((0 : Int) < (N : Int)) = false := by rw [h0]; rfl
                have z1 : decide (0 < N) = false := by rw [h0]; rfl
                go_wp2_with (first | go_skip | fail)
                go_meet
                exact ⟨_, _, d, rfl, PY, hid ⟨FA.out.ok.w, HN.out.1.symm⟩, K2⟩
              · have hpos : 0 < N := by omega
                have hpd : 0 < d.length := by rw [← HN.out.1]; exact hpos
                obtain ⟨g, cur, rfl, hkr⟩ := PY.out.krow hpd
                obtain ⟨i, hi, hil0⟩ := mod_nat (k := kk) hpos
                have hil : i < d.length := by rw [← HN.out.1]; exact hil0
                have hrow := hkr.cell hil
                have hrow0 := hkr.cell hpd
                have HKW := hid hkr
                have HIL := hid (And.intro hil hpd)
                have hok := FA.out.ok _ (List.getElem_mem hil)
                obtain ⟨X, hX⟩ : ∃ z, z = d[i] := ⟨_, rfl⟩
                rw [← hX] at hrow hok
                obtain ⟨⟨xn, xv, xk⟩, xp⟩ := X
                have HX := hid hX
                have HOX := hid hok
                have z0 : decide ((0 : Int) < (N : Int)) = true := by simp; omega
                have z1 : decide (0 < N) = true := by simp; omega
                have hne : (N : Int) ≠ 0 := by omega
                have hiz : (i : Int) < (N : Int) := by omega
                have hpz : (0 : Int) < (N : Int) := by omega
                have c0 : w2.cell? ⟨g, i * 4, none⟩ = some (.string xn) := hrow 0 _ rfl
                have c1 := hrow 1 _ rfl
                have c2' := hrow 2 _ rfl
                have c3 := hrow 3 _ rfl
                have f0 : ∀ o, w2.frozen? ⟨g, o, none⟩ = false := fun o => hkr.blk.free o
                obtain ⟨hwk, hwk2⟩ := wrap_byte HKB.out
                have hit : (kk : Int).tmod (N : Int) = (i : Int) := tmod_nat hi
                clear h0 hX hok hrow hkr
                rcases (of_five (w := what)) with h5 | h5 | h5 | h5 | h5
                · as_aux_lemma =>
                  clear hrow0
                  go_wp2_with (first | go_skip | fail)
                  go_meet
                  have hone := HKW.out.one (i := i) (j := 3) HIL.out.1 (by decide) (x := ⟨⟨xn, xv, xk⟩, vv⟩) (v := .int .i64 vv) (by rw [← HX.out]; rfl)
                  exact ⟨_, _, d.set i ⟨⟨xn, xv, xk⟩, vv⟩, rfl, hid hone.po, hid ⟨kok_set FA.out.ok.w i HOX.out.2, by rw [List.length_set]; exact HN.out.1.symm⟩, hid (K2.out.then (Kept.one _ g _ _) (fun q hq h => by have := HKW.out.base; omega))⟩
                · as_aux_lemma =>
                  clear hrow0
                  go_wp2_with (first | go_skip | fail)
                  go_meet
                  have hone := HKW.out.one (i := i) (j := 1) HIL.out.1 (by decide) (x := ⟨⟨xn, bits .and .i64 vv 7, xk⟩, xp⟩) (v := .int .i64 (bits .and .i64 vv 7)) (by rw [← HX.out]; rfl)
                  exact ⟨_, _, d.set i ⟨⟨xn, bits .and .i64 vv 7, xk⟩, xp⟩, rfl, hid hone.po, hid ⟨kok_set FA.out.ok.w i HOX.out.2, by rw [List.length_set]; exact HN.out.1.symm⟩, hid (K2.out.then (Kept.one _ g _ _) (fun q hq h => by have := HKW.out.base; omega))⟩
                · as_aux_lemma =>
                  clear hrow0
                  go_wp2_with (first | go_skip | fail)
                  go_meet
                  have hone := HKW.out.one (i := i) (j := 0) HIL.out.1 (by decide) (x := ⟨⟨nm, xv, xk⟩, xp⟩) (v := .string nm) (by rw [← HX.out]; rfl)
                  exact ⟨_, _, d.set i ⟨⟨nm, xv, xk⟩, xp⟩, rfl, hid hone.po, hid ⟨kok_set FA.out.ok.w i HOX.out.2, by rw [List.length_set]; exact HN.out.1.symm⟩, hid (K2.out.then (Kept.one _ g _ _) (fun q hq h => by have := HKW.out.base; omega))⟩
                · as_aux_lemma =>
                  clear hrow0
                  obtain ⟨K, hKe, hK⟩ := wrap_u64n vv
                  go_wp2_with (first | go_skip | fail)
                  go_meet
                  have hone := HKW.out.one (i := i) (j := 2) HIL.out.1 (by decide) (x := ⟨⟨xn, xv, K⟩, xp⟩) (v := .int .u64 (K : Int)) (by rw [← HX.out]; rfl)
                  exact ⟨_, _, d.set i ⟨⟨xn, xv, K⟩, xp⟩, rfl, hid hone.po, hid ⟨kok_set FA.out.ok.w i hK, by rw [List.length_set]; exact HN.out.1.symm⟩, hid (K2.out.then (Kept.one _ g _ _) (fun q hq h => by have := HKW.out.base; omega))⟩
                · as_aux_lemma =>
                  have hx0 : d[0].e.Ok := FA.out.ok _ (List.getElem_mem HIL.out.2)
                  have hxo : d[i].e.Ok := FA.out.ok _ (List.getElem_mem HIL.out.1)
                  obtain ⟨X0, hX0⟩ : ∃ z, z = d[0] := ⟨_, rfl⟩
                  obtain ⟨XI, hXI⟩ : ∃ z, z = d[i] := ⟨_, rfl⟩
                  rw [← hX0] at hx0
                  rw [← hXI] at hxo
                  have HXX := hid (And.intro hx0 (And.intro hxo (And.intro hX0 hXI)))
                  have HK0 : Hid (KRw 31 wd.heap.size g N c2 d w2.drew) := hid ⟨_, HKW.out.drew⟩
                  have aK4 : AggTy Try.prog 31 4 := R16.aKno
                  have lX : ∀ x : Kno, (knoC x).length = 4 := fun _ => rfl
                  have zK : ∀ W, (sizeOf 31).run Try.prog W = .ok 4 W := fun _ => by kernel_rfl
                  have HXQ := hid (show (∀ W, KRw 31 wd.heap.size g N c2 d W → W.rangeAt g (i * 4) (knoC XI) ∧ W.rangeAt g 0 (knoC X0)) ∧ (∀ W, KRw 31 wd.heap.size g N c2 d W → Sem.run Try.prog (storeCells ⟨g, 0, none⟩ (knoC XI) 0) W = .ok () (W.setCells g 0 (knoC XI)) ∧ KRw 31 wd.heap.size g N c2 (d.set 0 XI) (W.setCells g 0 (knoC XI))) from ⟨fun W h => ⟨by rw [hXI]; exact h.at HIL.out.1, by have := h.at HIL.out.2; rw [Nat.zero_mul] at this; rw [hX0]; exact this⟩, fun W h => by have := h.put (P := Try.prog) HIL.out.2 XI; rw [Nat.zero_mul] at this; exact this⟩)
                  have HXR := hid (show ∀ W, KRw 31 wd.heap.size g N c2 (d.set 0 XI) W → Sem.run Try.prog (storeCells ⟨g, i * 4, none⟩ (knoC X0) 0) W = .ok () (W.setCells g (i * 4) (knoC X0)) ∧ KRw 31 wd.heap.size g N c2 ((d.set 0 XI).set i X0) (W.setCells g (i * 4) (knoC X0)) from fun W h => h.put (by rw [List.length_set]; exact HIL.out.1) X0)
                  obtain ⟨CI, hCI⟩ : ∃ z, z = knoC XI := ⟨_, rfl⟩
                  obtain ⟨CJ, hCJ⟩ : ∃ z, z = knoC X0 := ⟨_, rfl⟩
                  rw [← hCI] at HXQ
                  rw [← hCJ] at HXQ HXR
                  have lCI : CI.length = 4 := by rw [hCI]; rfl
                  have lCJ : CJ.length = 4 := by rw [hCJ]; rfl
                  have aI : AggTy Try.prog 31 CI.length := by rw [lCI]; exact aK4
                  have aJ : AggTy Try.prog 31 CJ.length := by rw [lCJ]; exact aK4
                  clear hx0 hxo hX0 hXI hCI hCJ c0 c1 c2' c3 f0 hrow0 HX HOX
                  go_upto_region 10 with (first | go_skip | fail)
                  refine wp_region_plan_tail 13 (Kept (Just g) w2) [{ k := 6, uses := [100], pure := fun u => u = .agg CI.toArray }, { k := 9, uses := [100], pure := fun u => u = .agg CJ.toArray }, { k := 11, uses := [100], spends := [100], fact := fun _ W => KRw 31 wd.heap.size g N c2 (d.set 0 XI) W }, { k := 100, uses := [], fact := fun _ W => KRw 31 wd.heap.size g N c2 d W }] [100] (by kernel_rfl) (by kernel_rfl) (by kernel_rfl) (by rfl) ?pures ((Kept.refl _ w2).drew) ?starts ?walk
                  case pures =>
                    intro f hf
                    simp only [List.mem_cons, List.not_mem_nil, or_false] at hf
                    rcases hf with rfl | rfl | rfl | rfl
                    · exact ⟨_, rfl⟩
                    · exact ⟨_, rfl⟩
                    · exact ⟨undef, trivial⟩
                    · exact ⟨undef, trivial⟩
                  case starts =>
                    intro k hk
                    have hk : k = 100 := by simpa using hk
                    subst hk
                    exact HK0.out
                  simp only [List.take_succ_cons, List.take_zero, List.drop_succ_cons, List.drop_zero]
                  iterate 6 (refine wpPar_pure rfl (by rfl) _ (fun W hW => by
                      go_simp
                      exact rfl) ?_; simp only [Act.put, List.setIfInBounds_toArray, List.set_cons_zero, List.set_cons_succ])
                  refine wpPar_adds rfl (by rfl) (fun W hW hd => ?_) (fun v6 hv => ?_)
                  · have h0 : KRw 31 wd.heap.size g N c2 d W := hd 100 (List.Mem.head _)
                    unfold Gives
                    rw [exec_load_at rfl rfl (HXQ.out.1 W h0).1 aI]
                    exact ⟨hW, rfl, trivial, keeps_of fun f hf hs hl hne u hfu => hfu⟩
                  obtain rfl : v6 = .agg CI.toArray := hv
                  simp only [Act.put, List.setIfInBounds_toArray, List.set_cons_zero, List.set_cons_succ]
                  iterate 2 (refine wpPar_pure rfl (by rfl) _ (fun W hW => by
                      go_simp
                      exact rfl) ?_; simp only [Act.put, List.setIfInBounds_toArray, List.set_cons_zero, List.set_cons_succ])
                  refine wpPar_adds rfl (by rfl) (fun W hW hd => ?_) (fun v9 hv => ?_)
                  · have h0 : KRw 31 wd.heap.size g N c2 d W := hd 100 (List.Mem.head _)
                    unfold Gives
                    rw [exec_load_at rfl rfl (HXQ.out.1 W h0).2 aJ]
                    exact ⟨hW, rfl, trivial, keeps_of fun f hf hs hl hne u hfu => hfu⟩
                  obtain rfl : v9 = .agg CJ.toArray := hv
                  simp only [Act.put, List.setIfInBounds_toArray, List.set_cons_zero, List.set_cons_succ]
                  iterate 1 (refine wpPar_pure rfl (by rfl) _ (fun W hW => by
                      go_simp
                      exact rfl) ?_; simp only [Act.put, List.setIfInBounds_toArray, List.set_cons_zero, List.set_cons_succ])
                  refine wpPar_adds rfl (by rfl) (fun W hW hd => ?_) (fun v11 hv => ?_)
                  · have h0 : KRw 31 wd.heap.size g N c2 d W := hd 100 (List.Mem.head _)
                    obtain ⟨hst, hr2⟩ := HXQ.out.2 W h0
                    have HR2 := hid hr2
                    have KW := hid (kept_setCells (S := Just g) (fun _ => rfl) CI 0 W hW)
                    clear hr2 h0
                    unfold Gives
                    go_simp
                    refine ⟨KW.out, trivial, HR2.out, keeps_of fun f hf hs _ hne u hfu => ?_⟩
                    simp only [List.mem_cons, List.not_mem_nil, or_false] at hf
                    rcases hf with rfl | rfl | rfl | rfl
                    · exact hfu
                    · exact hfu
                    · exact absurd rfl hne
                    · exact absurd (List.Mem.head _) hs
                  simp only [Act.put]
                  iterate 1 (refine wpPar_pure rfl (by rfl) _ (fun W hW => by
                      go_simp
                      exact rfl) ?_; simp only [Act.put, List.setIfInBounds_toArray, List.set_cons_zero, List.set_cons_succ])
                  refine wpPar_nil (fun w5 hW hG => ?_)
                  have h1 : KRw 31 wd.heap.size g N c2 (d.set 0 XI) w5 := hG 11
                  obtain ⟨hst, hr2⟩ := HXR.out w5 h1
                  have HR2 := hid hr2
                  have KW := hid (kept_setCells (S := Just g) (fun _ => rfl) CJ (i * 4) w5 hW)
                  clear hG hW h1 hr2
                  go_wp2
                  go_meet
                  exact ⟨_, _, (d.set 0 XI).set i X0, rfl, hid HR2.out.po, hid ⟨kok_set (kok_set FA.out.ok.w 0 HXX.out.2.1.2) i HXX.out.1.2, by rw [List.length_set, List.length_set]; exact HN.out.1.symm⟩, hid (K2.out.then KW.out (fun q hq h => by have h2 : q = g := h; have := HKW.out.base; omega))⟩
            case rest =>
              obtain ⟨ay, cy, Y, rfl, PYc, HYO, KC⟩ := hcut
              have HY := hid (KnoAt.of (PYc.out.ps (Nat.le_refl _)) HYO.out.1 (by rw [HYO.out.2]; have := HN.out.2; omega))
              have FX := hid (KnoAt.mk FA.out.ps FA.out.ok.w FA.out.len)
              have FB := hid (Facts.later' FA.out KC.out)
              have FX := hid (FX.out.later KC.out)
              have HRW := hid ((KnoAt.of KR0.out HVR.out.2 (by have := HL.out; omega)).later KC.out)
              have HBT := hid ((EntAt.of KB0.out HVB.out.2 (by have := HL.out; omega)).later KC.out)
              have HKS := hid (HKS0.out.kept KC.out (fun _ _ _ h => h))
              have KD := hid (K1.out.trans KC.out)
              clear PYc HYO KC KR0 KB0 HKS0 K1 K2 PY FA HVR HVB
              go_wp2
              obtain ⟨w3, hw3⟩ : ∃ z, z = wc.alloc (.cells #[.slice ar raw.length cr, .slice ad N cd, .slice ay N cy] 23) := ⟨_, rfl⟩
              obtain ⟨g3, hg3⟩ : ∃ z, z = wc.heap.size := ⟨_, rfl⟩
              have k3 : Kept None wc w3 := by rw [hw3]; exact (Kept.refl _ _).alloc _
              have b3 : Blk w3 g3 #[.slice ar raw.length cr, .slice ad N cd, .slice ay N cy] 23 := by rw [hw3, hg3]; exact Blk.new _ _ _
              rw [← hw3, ← hg3]
              have B3 := hid b3
              have HY := hid (HY.out.later k3)
              have FX := hid (FX.out.later k3)
              have HRW := hid (HRW.out.later k3)
              have HBT := hid (HBT.out.later k3)
              have FB := hid (Facts.later' FB.out k3)
              have HKS := hid (HKS.out.kept k3 (fun _ _ _ h => h))
              have KD := hid (KD.out.trans k3)
              have KR := hid (Kept.refl None w3)
              clear hw3 hg3 k3 b3
              go_loopg [137] 3 (fun kx s137 wr => ∃ j : Nat, s137 = .int .i64 (j : Int) ∧ j ≤ 3 ∧ 3 - j ≤ kx ∧ Hid (Kept None w3 wr))
              case atStart => exact ⟨0, rfl, by decide, Nat.le_refl _, KR⟩
              case round =>
                obtain ⟨j, rfl, hj, hjx, HW⟩ := hrel
                by_cases hlt : j < 3
                · as_aux_lemma =>
                  have hz : (j : Int) < 3 := by omega
                  have hzd : decide ((j : Int) < 3) = true := decide_eq_true hz
                  have wj : IntKind.i64.wrap ((j : Int) + 1) = (j : Int) + 1 := by rw [IntKind.wrap_i64]; omega
                  obtain ⟨Z, cz, hZ⟩ := three_at (B3.out.kept HW.out (fun h => h)) hlt
                  obtain ⟨L, HZ⟩ : ∃ L, Hid (KnoAt w3 Z L) := by
                    rcases hZ with rfl | rfl | rfl
                    · exact ⟨_, HRW⟩
                    · exact ⟨_, FX⟩
                    · exact ⟨_, HY⟩
                  obtain ⟨az, nz, cz', rfl⟩ : ∃ a n c, Z = .slice a n c := by
                    obtain ⟨a', c', h, _⟩ := (HZ.out.ps _ (Kept.refl _ _)).form
                    exact ⟨a', _, c', h⟩
                  have hr1 := fun W (hW : Kept None w3 W) => HC.out.1 (.slice az nz cz') _ _ L W (HZ.out.ps W hW) HZ.out.ok (Nat.le_trans HZ.out.len (by decide))
                  have hr2 := fun W (hW : Kept None w3 W) => R16.right (.slice az nz cz') _ _ L W (HZ.out.ps W hW) (Nat.le_trans HZ.out.len (by decide))
                  obtain ⟨B, hB⟩ : ∃ B, B = rightK L := ⟨_, rfl⟩
                  rw [← hB] at hr1 hr2
                  have HR1 := hid hr1
                  have HR2 := hid hr2
                  have hnb : (B != B) = false := by cases B <;> rfl
                  clear hr1 hr2 hB hZ
                  go_wp2_with fail
                  refine (HR1.out wr HW.out).mono ?_
                  rintro e w4 ⟨rfl, k4⟩
                  have K4 := hid (HW.out.trans k4)
                  clear k4
                  go_wp2_with fail
                  refine (HR2.out w4 K4.out).mono ?_
                  rintro e w5 ⟨rfl, k5⟩
                  have K5 := hid (K4.out.trans k5)
                  clear k5 HR1 HR2 K4
                  go_wp2_with (first | go_skip | fail)
                  go_roundg (3 - (j + 1))
                  case measure => omega
                  case rel => exact ⟨j + 1, by go_num, by omega, Nat.le_refl _, K5⟩
                · as_aux_lemma =>
                  have hz : ¬ (j : Int) < 3 := by omega
                  have hzd : decide ((j : Int) < 3) = false := decide_eq_false hz
                  have FB := hid (Facts.later' FB.out HW.out)
                  have FX := hid (FX.out.later HW.out)
                  have HBT := hid (HBT.out.later HW.out)
                  have HKS := hid (HKS.out.kept HW.out (fun _ _ _ h => h))
                  have KD := hid (KD.out.trans HW.out)
                  obtain ⟨wo, hwo⟩ : ∃ z : World, z = wr := ⟨_, rfl⟩
                  rw [← hwo] at FB FX HBT HKS KD ⊢
                  have KT := hid (Kept.refl None wo)
                  clear hwo HW hlt hj hjx B3 HY HRW KR
                  go_wp2
                  go_loopg [24, 25] N (fun kx s24 s25 wr => ∃ (k : Nat) (T : Int), s25 = .int .i64 k ∧ s24 = .int .i64 T ∧ k ≤ N ∧ N - k ≤ kx ∧ Hid (Kept None wo wr) ∧ Hid ((0 ≤ T ∧ T ≤ 1000) ∧ ∀ j (hj : j < d.length), j < k → d[j].p ≤ T))
                  case atStart => exact ⟨0, 0, rfl, rfl, Nat.zero_le _, Nat.le_refl _, KT, hid ⟨by decide, fun j _ h => absurd h (Nat.not_lt_zero j)⟩⟩
                  case round =>
                    obtain ⟨k, T, rfl, rfl, hk, hkx, HW, HT⟩ := hrel
                    by_cases hlt : k < N
                    · as_aux_lemma =>
                      have hz : (k : Int) < (N : Int) := by omega
                      have wk : IntKind.i64.wrap ((k : Int) + 1) = (k : Int) + 1 := by rw [IntKind.wrap_i64]; have := HN.out.2; omega
                      have kl : k < d.length := by have := HN.out.1; omega
                      obtain ⟨bb, o, q1, hc⟩ := (FX.out.ps wr HW.out).kno (by omega)
                      obtain rfl := q1
                      have c3 := (hc k kl).2.2.2.1
                      have hst := tops_step HT.out.2 kl
                      have hpl := HPL.out _ (List.getElem_mem kl)
                      obtain ⟨P, hP⟩ : ∃ z, z = d[k].p := ⟨_, rfl⟩
                      rw [← hP] at c3 hst hpl
                      have HST := hid (show (0 ≤ max T P ∧ max T P ≤ 1000) ∧ ∀ j (hj : j < d.length), j < k + 1 → d[j].p ≤ max T P from ⟨by have := HT.out.1; omega, hst⟩)
                      clear hc hP hst hpl
                      go_wp2_with fail
                      go_roundg (N - (k + 1))
                      case measure => omega
                      case rel => exact ⟨k + 1, max T P, by go_num, by rfl, by omega, Nat.le_refl _, HW, HST⟩
                    · as_aux_lemma =>
                      have hz : ¬ (k : Int) < (N : Int) := by omega
                      have FB := hid (Facts.later' FB.out HW.out)
                      have FX := hid (FX.out.later HW.out)
                      have HBT := hid (HBT.out.later HW.out)
                      have HKS := hid (HKS.out.kept HW.out (fun _ _ _ h => h))
                      have KD := hid (KD.out.trans HW.out)
                      obtain ⟨w1, hw1⟩ : ∃ z : World, z = wr := ⟨_, rfl⟩
                      rw [← hw1] at FB FX HBT HKS KD ⊢
                      obtain ⟨M, hM⟩ : ∃ z, z = ks.length := ⟨_, rfl⟩
                      rw [← hM] at HKS ⊢
                      have HKS := hid (And.intro HKS.out hM)
                      have HM := hid (show M ≤ 10 by have := HL.out; omega)
                      clear hw1 hM HW hlt hk hkx HT KT
                      have KR := hid (Kept.refl None w1)
                      have P0 : Hid (Po 3 29 w1 w1.heap.size (.slice none 0 0) (entsC [])) := hid (Po.nil ..)
                      go_wp2
                      go_loopg [26, 27] M (fun kx s26 s27 wr => ∃ (i : Nat) (ab : Option Addr) (nb cb : Nat) (b : List Ent), s27 = .int .i64 i ∧ s26 = .slice ab nb cb ∧ i ≤ M ∧ M - i ≤ kx ∧ Hid (Kept None w1 wr) ∧ Hid (Po 3 29 wr w1.heap.size (.slice ab nb cb) (entsC b)) ∧ Hid (EntSix b ∧ b.length ≤ i))
                      case atStart => exact ⟨0, none, 0, 0, [], rfl, rfl, Nat.zero_le _, Nat.le_refl _, KR, P0, hid ⟨(fun _ h => by cases h), Nat.le_refl _⟩⟩
                      case round =>
                        obtain ⟨i, ab, nb, cb, b, rfl, rfl, hiM, hkx, HW, HP, HB⟩ := hrel
                        by_cases hlt : i < M
                        · as_aux_lemma =>
                          have hz : (i : Int) < (M : Int) := by omega
                          have wi : IntKind.i64.wrap ((i : Int) + 1) = (i : Int) + 1 := by rw [IntKind.wrap_i64]; have := HM.out; omega
                          have HL := hid (show i < 1000 by have := HM.out; omega)
                          obtain ⟨bb, oo, qa, _, _, hbb, hc⟩ := HKS.out.1.ne (by have := HKS.out.2; omega)
                          obtain rfl := qa
                          have cw := hc i (by have := HKS.out.2; omega)
                          obtain ⟨x, hx, hx256⟩ : ∃ x : Nat, bAt ks i = (x : Int) ∧ x < 256 := ⟨(bAt ks i).toNat, by have := bAt_ge ks i; omega, by have := bAt_lt ks i; omega⟩
                          rw [hx] at cw
                          have HC0 : Hid (∀ W, Kept None w1 W → W.cell? ⟨bb, oo + i, none⟩ = some (.int .u8 (x : Int))) := hid (fun W hW => (hW.cell (p := ⟨bb, oo + i, none⟩) hbb (fun h => h)).trans cw)
                          have c0 := HC0.out wr HW.out
                          have HBB := hid hbb
                          clear hc hx hx256 hbb cw
                          go_wp2_with fail
                          refine (Es.name6 x _).mono ?_
                          rintro e w3 ⟨nm, rfl, _, k3⟩
                          have K3 := hid (HW.out.trans k3)
                          have hLat := R16.latest _ _ _ d nm w3 (FX.out.ps w3 K3.out) (Nat.le_trans FX.out.len (by decide))
                          obtain ⟨X, hX⟩ : ∃ X, X = latF d nm := ⟨_, rfl⟩
                          rw [← hX] at hLat
                          have HLA := hid hLat
                          clear hLat hX c0
                          go_wp2_with fail
                          refine HLA.out.mono ?_
                          rintro e w4 ⟨rfl, k4⟩
                          have K4 := hid (K3.out.trans k4)
                          have P4 := hid (HP.out.kept (k3.trans k4) (fun _ _ h => h))
                          have c4 := HC0.out w4 K4.out
                          clear k3 K3 HLA
                          go_upto_region 35 with fail
                          obtain ⟨w9, hw9⟩ : ∃ W, W = w4.alloc (.cells #[.string X.1.e.n, .int .i64 X.1.e.v, .int .u64 (X.1.e.k : Int), .int .i64 X.1.p] 31) := ⟨_, rfl⟩
                          obtain ⟨g5, hg5⟩ : ∃ g, g = w4.heap.size := ⟨_, rfl⟩
                          have kA : Kept None w4 w9 := by rw [hw9]; exact (Kept.refl _ _).alloc _
                          have x5 : Blk w9 g5 #[.string X.1.e.n, .int .i64 X.1.e.v, .int .u64 (X.1.e.k : Int), .int .i64 X.1.p] 31 := by rw [hw9, hg5]; exact Blk.new _ _ _
                          rw [← hw9, ← hg5]
                          have L5 : Hid (∀ q, (Value.slice ab nb cb).ownBlock = some q → w1.heap.size ≤ q ∧ q < g5) := hid (fun q h => by rw [hg5]; exact P4.out.own q h)
                          have K9 := hid (K4.out.trans kA)
                          have P9 := hid (P4.out.kept kA (fun _ _ h => h))
                          have X5 := hid x5
                          obtain ⟨V1, hV1⟩ : ∃ z, z = IntKind.i64.wrap (X.1.e.v + 1) := ⟨_, rfl⟩
                          have HV1 := hid hV1.symm
                          obtain ⟨xq, hq1, hq2⟩ := quo_nat x
                          have HXQ := hid (And.intro hq1 hq2)
                          obtain ⟨VV, hVV⟩ : ∃ z, z = IntKind.i64.wrap (V1 + IntKind.i64.wrap (IntKind.u8.wrap (xq : Int))) := ⟨_, rfl⟩
                          have HVV := hid hVV.symm
                          clear hV1 hq1 hq2
                          clear hw9 hg5 kA x5 c4 k4 K4 P4 hVV
                          have C9 : w9.cell? ⟨bb, oo + i, none⟩ = some (.int .u8 (x : Int)) := HC0.out w9 K9.out
                          have HBY := hid (fun W (hW : Kept (fun q => (Value.slice ab nb cb).ownBlock = some q) w9 W) => (hW.cell (p := ⟨bb, oo + i, none⟩) (Nat.lt_of_lt_of_le HBB.out K9.out.size) (fun h => by have := (L5.out bb h).1; have := HBB.out; omega)).trans C9)
                          have HC := hid (fun W (hW : Kept (fun q => (Value.slice ab nb cb).ownBlock = some q) w9 W) => ((X5.out.kept hW (fun h => by have := (L5.out _ h).2; omega)).cell 1).trans (show _ = some (Value.int .i64 X.1.e.v) from rfl))
                          have HBL := hid (show b.length ≤ 1000 by have := HB.out.2; have := HL.out; omega)
                          have HZ9 := hid K9.out.size
                          clear C9
                          refine wp_region_plan (Kept (fun q => (Value.slice ab nb cb).ownBlock = some q) w9) [{ k := 16, uses := [], pure := fun u => ∃ s, ∃ k : Nat, u = entV s VV k ∧ s ∈ sixN ∧ k < 18446744073709551616 }, { k := 17, uses := [], pure := fun u => ∃ g, u = .slice (some ⟨g, 0, none⟩) 1 1, fact := fun u W => ∃ g, u = .slice (some ⟨g, 0, none⟩) 1 1 ∧ ∃ e : Ent, (e.Ok ∧ e.n ∈ sixN) ∧ Blk W g (entC e).toArray 29 }, { k := 18, uses := [17, 100], spends := [17, 100], pure := fun u => ∃ a n c, u = .slice a n c, fact := fun u W => ∃ e : Ent, (e.Ok ∧ e.n ∈ sixN) ∧ Po 3 29 W w1.heap.size u (entsC (b ++ [e])) }, { k := 100, uses := [], fact := fun u W => Po 3 29 W w1.heap.size (.slice ab nb cb) (entsC b) }] [100] (by kernel_rfl) (by kernel_rfl) (by kernel_rfl) (by rfl) ?pures2 ((Kept.refl _ w9).drew) ?starts2 ?walk2
                          case pures2 =>
                            intro f hf
                            simp only [List.mem_cons, List.not_mem_nil, or_false] at hf
                            rcases hf with rfl | rfl | rfl | rfl
                            · exact ⟨_, ⟨#[97]⟩, 0, rfl, by simp [sixN], by decide⟩
                            · exact ⟨_, 0, rfl⟩
                            · exact ⟨_, none, 0, 0, rfl⟩
                            · exact ⟨undef, trivial⟩
                          case starts2 =>
                            intro k hk
                            have hk : k = 100 := by simpa using hk
                            subst hk
                            exact P9.out.kept ((Kept.refl None w9).drew) (fun _ _ h => h)
                          iterate 16 (refine wpPar_pure rfl (by rfl) _ (fun W hW => by
                              have b1 := HBY.out W hW
                              have c1 := HC.out W hW
                              have q := HVV.out
                              have q1 := HV1.out
                              have q2 := HXQ.out.1
                              have q3 := HXQ.out.2
                              go_simp
                              exact rfl) ?_; simp only [Act.put, List.setIfInBounds_toArray, List.set_cons_zero, List.set_cons_succ])
                          refine wpPar_adds rfl (by rfl) (fun W hW hd => ?_) (fun v11 hv => ?_)
                          · unfold Gives
                            have q := HVV.out
                            have c1 := HC.out W hW
                            go_simp
                            refine gives_call (Es.entry6 x VV W) ?_
                            rintro e w3 ⟨s, k, rfl, s2, hk64, kN⟩
                            refine ⟨_, rfl, hW.then kN (fun _ _ h => h.elim), ⟨s, k, rfl, s2, hk64⟩, trivial, keeps_of fun f hf hs hl hne u hfu => ?_⟩
                            simp only [List.mem_cons, List.not_mem_nil, or_false] at hf
                            rcases hf with rfl | rfl | rfl | rfl
                            · exact absurd rfl hne
                            · (obtain ⟨g, e1, e2, e3, e4⟩ := hfu; exact ⟨g, e1, e2, e3, e4.kept kN (fun h => h)⟩)
                            · (obtain ⟨e, e1, e2⟩ := hfu; exact ⟨e, e1, e2.kept kN (fun _ _ h => h)⟩)
                            · exact Po.kept hfu kN (fun _ _ h => h)
                          obtain ⟨s11, k11, rfl, q11, r11⟩ : ∃ s, ∃ k : Nat, v11 = entV s VV k ∧ s ∈ sixN ∧ k < 18446744073709551616 := hv
                          simp only [Act.put, List.setIfInBounds_toArray, List.set_cons_zero, List.set_cons_succ]
                          refine wpPar_adds rfl (by rfl) (fun W hW hd => ?_) (fun v12 hv => ?_)
                          · unfold Gives
                            rw [exec_one_item 24 (.tmp 192) rfl Es.rtEnt16 (by decide) (A := #[.string s11, .int .i64 VV, .int .u64 (k11 : Int)]) rfl rfl]
                            have kN : Kept None W (W.alloc (.cells #[.string s11, .int .i64 VV, .int .u64 (k11 : Int)] 29)) := (Kept.refl None W).alloc _
                            refine ⟨hW.then kN (fun _ _ h => h.elim), ⟨_, rfl⟩, ⟨_, rfl, ⟨s11, VV, k11⟩, ⟨⟨by have := six_size s11 q11; show s11.size ≤ _; omega, r11⟩, q11⟩, Blk.new _ _ _⟩, keeps_of fun f hf hs hl hne u hfu => ?_⟩
                            simp only [List.mem_cons, List.not_mem_nil, or_false] at hf
                            rcases hf with rfl | rfl | rfl | rfl
                            · exact hfu
                            · exact absurd rfl hne
                            · (obtain ⟨e, e1, e2⟩ := hfu; exact ⟨e, e1, e2.kept kN (fun _ _ h => h)⟩)
                            · exact Po.kept hfu kN (fun _ _ h => h)
                          obtain ⟨g12, rfl⟩ : ∃ g, v12 = .slice (some ⟨g, 0, none⟩) 1 1 := hv
                          simp only [Act.put, List.setIfInBounds_toArray, List.set_cons_zero, List.set_cons_succ]
                          refine wpPar_adds rfl (by rfl) (fun W hW hd => ?_) (fun v13 hv => ?_)
                          · have hO : Po 3 29 W w1.heap.size (.slice ab nb cb) (entsC b) := hd 100 (List.Mem.tail _ (List.Mem.head _))
                            obtain ⟨g, hgg, e, he, hg3⟩ : ∃ g, Value.slice (some ⟨g12, 0, none⟩) 1 1 = .slice (some ⟨g, 0, none⟩) 1 1 ∧ ∃ e : Ent, (e.Ok ∧ e.n ∈ sixN) ∧ Blk W g (entC e).toArray 29 := hd 17 (List.Mem.head _)
                            obtain rfl : g12 = g := by simpa using hgg
                            have hu : Ps 3 W 0 W.heap.size (.slice (some ⟨g12, 0, none⟩) 1 1) (entsC [e]) := R16.ps_blk (x := entC e) hg3 rfl
                            refine gives_append_po _ _ 24 rfl Es.rtEnt16 (by decide) rfl rfl hO hu (entsC_one _) (by rw [entsC_len, entsC_len]; have := HBL.out; simp; omega) (Nat.le_trans HZ9.out hW.size) ?_
                            intro a' n' c' W' hP kS o9
                            have kN : True := trivial
                            rw [← entsC_app] at hP
                            refine ⟨hW.then kS (fun i hi h => h), ⟨_, _, _, rfl⟩, ⟨e, he, hP⟩, keeps_of fun f hf hs hl hne u hfu => ?_⟩
                            simp only [List.mem_cons, List.not_mem_nil, or_false] at hf
                            rcases hf with rfl | rfl | rfl | rfl
                            · exact hfu
                            · exact absurd (List.Mem.head _) hs
                            · exact absurd rfl hne
                            · exact absurd (List.Mem.tail _ (List.Mem.head _)) hs
                          obtain ⟨a13, n13, c13, rfl⟩ : ∃ a n c, v13 = .slice a n c := hv
                          simp only [Act.put, List.setIfInBounds_toArray, List.set_cons_zero, List.set_cons_succ]
                          iterate 1 (refine wpPar_pure rfl (by rfl) _ (fun W hW => by
                              have b1 := HBY.out W hW
                              have c1 := HC.out W hW
                              have q := HVV.out
                              have q1 := HV1.out
                              have q2 := HXQ.out.1
                              have q3 := HXQ.out.2
                              go_simp
                              exact rfl) ?_; simp only [Act.put, List.setIfInBounds_toArray, List.set_cons_zero, List.set_cons_succ])
                          refine wpPar_nil (fun W hW hG => ?_)
                          obtain ⟨en, hen, bz⟩ : ∃ e : Ent, (e.Ok ∧ e.n ∈ sixN) ∧ Po 3 29 W w1.heap.size (.slice a13 n13 c13) (entsC (b ++ [e])) := hG 18
                          have KW := hid (K9.out.then hW (fun q hq h => by have := (L5.out q h).1; omega))
                          have BZ := hid bz
                          have HB2 : Hid (EntSix (b ++ [en]) ∧ (b ++ [en]).length ≤ i + 1) := hid ⟨HB.out.1.snoc hen, by have := HB.out.2; simp; omega⟩
                          clear hG bz hW hen X5 L5 HBY HC HC0 HZ9 HVV K9 P9
                          go_wp2
                          go_roundg (M - (i + 1))
                          case measure => omega
                          case rel => exact ⟨i + 1, a13, n13, c13, b ++ [en], by go_num, rfl, by omega, Nat.le_refl _, KW, BZ, HB2⟩
                        · as_aux_lemma =>
                          have hz : ¬ (i : Int) < (M : Int) := by omega
                          have FB := hid (Facts.later' FB.out HW.out)
                          have FX := hid (FX.out.later HW.out)
                          have HBT := hid (HBT.out.later HW.out)
                          have HRB := hid (EntAt.of (HP.out.ps (Nat.le_refl _)) HB.out.1.ok.w (by have := HB.out.2; have := HM.out; omega))
                          have KD := hid (KD.out.trans HW.out)
                          obtain ⟨wo, hwo⟩ : ∃ z : World, z = wr := ⟨_, rfl⟩
                          rw [← hwo] at FB FX HBT HRB KD ⊢
                          clear hwo HW hlt hiM hkx HP HB HKS HM KR P0
                          go_wp2
                          obtain ⟨w6, hw6⟩ : ∃ z, z = wo.alloc (.cells #[.slice ab0 batch.length cb0, .slice ab nb cb] 24) := ⟨_, rfl⟩
                          obtain ⟨g6, hg6⟩ : ∃ z, z = wo.heap.size := ⟨_, rfl⟩
                          have k6 : Kept None wo w6 := by rw [hw6]; exact (Kept.refl _ _).alloc _
                          have b6 : Blk w6 g6 #[.slice ab0 batch.length cb0, .slice ab nb cb] 24 := by rw [hw6, hg6]; exact Blk.new _ _ _
                          rw [← hw6, ← hg6]
                          have B6 := hid b6
                          have FB := hid (Facts.later' FB.out k6)
                          have FX := hid (FX.out.later k6)
                          have HBT := hid (HBT.out.later k6)
                          have HRB := hid (HRB.out.later k6)
                          have KD := hid (KD.out.trans k6)
                          have KR := hid (Kept.refl None w6)
                          clear hw6 hg6 k6 b6
                          obtain ⟨T1, hT1⟩ : ∃ z, z = IntKind.i64.wrap (T + 1) := ⟨_, rfl⟩
                          have HT1 := hid hT1.symm
                          clear hT1
                          go_loopg [199] 2 (fun kx s199 wr => ∃ j : Nat, s199 = .int .i64 (j : Int) ∧ j ≤ 2 ∧ 2 - j ≤ kx ∧ Hid (Kept None w6 wr))
                          case atStart => exact ⟨0, rfl, by decide, Nat.le_refl _, KR⟩
                          case round =>
                            obtain ⟨j, rfl, hj, hjx, HW⟩ := hrel
                            by_cases hlt : j < 2
                            · as_aux_lemma =>
                              have hz : (j : Int) < 2 := by omega
                              have hzd : decide ((j : Int) < 2) = true := decide_eq_true hz
                              have wj : IntKind.i64.wrap ((j : Int) + 1) = (j : Int) + 1 := by rw [IntKind.wrap_i64]; omega
                              obtain ⟨Z, cz, hZ⟩ := two_at (B6.out.kept HW.out (fun h => h)) hlt
                              obtain ⟨L, HZ⟩ : ∃ L, Hid (EntAt w6 Z L) := by
                                rcases hZ with rfl | rfl
                                · exact ⟨_, HBT⟩
                                · exact ⟨_, HRB⟩
                              obtain ⟨az, nz, cz', rfl⟩ : ∃ a n c, Z = .slice a n c := by
                                obtain ⟨a', c', h, _⟩ := (HZ.out.ps _ (Kept.refl _ _)).form
                                exact ⟨a', _, c', h⟩
                              have HWJ := hid wj
                              have t1 := HT1.out
                              clear hZ wj
                              go_wp2
                              clear t1 cz
                              obtain ⟨w7, hw7⟩ : ∃ z, z = wr.alloc (.cells #[.int .i64 ep, .int .i64 T1, .int .i64 T] 3) := ⟨_, rfl⟩
                              obtain ⟨g7, hg7⟩ : ∃ z, z = wr.heap.size := ⟨_, rfl⟩
                              have k7 : Kept None wr w7 := by rw [hw7]; exact (Kept.refl _ _).alloc _
                              have b7 : Blk w7 g7 #[.int .i64 ep, .int .i64 T1, .int .i64 T] 3 := by rw [hw7, hg7]; exact Blk.new _ _ _
                              rw [← hw7, ← hg7]
                              have B7 := hid b7
                              have K7 := hid (HW.out.trans k7)
                              have KR7 := hid (Kept.refl None w7)
                              clear hw7 hg7 k7 b7 HW
                              go_loopg [209] 3 (fun kx s209 wr => ∃ i : Nat, s209 = .int .i64 (i : Int) ∧ i ≤ 3 ∧ 3 - i ≤ kx ∧ Hid (Kept None w7 wr))
                              case atStart => exact ⟨0, rfl, by decide, Nat.le_refl _, KR7⟩
                              case round =>
                                obtain ⟨i, rfl, hi, hix, HQ⟩ := hrel
                                by_cases hil : i < 3
                                · as_aux_lemma =>
                                  have hiz : (i : Int) < 3 := by omega
                                  have hizd : decide ((i : Int) < 3) = true := decide_eq_true hiz
                                  have wi : IntKind.i64.wrap ((i : Int) + 1) = (i : Int) + 1 := by rw [IntKind.wrap_i64]; omega
                                  obtain ⟨u, cu, hu⟩ := three_at (B7.out.kept HQ.out (fun h => h)) hil
                                  obtain ⟨E, rfl⟩ : ∃ E, u = .int .i64 E := by
                                    rcases hu with rfl | rfl | rfl
                                    · exact ⟨_, rfl⟩
                                    · exact ⟨_, rfl⟩
                                    · exact ⟨_, rfl⟩
                                  have hok := addF_w (p := E) FX.out.ok HZ.out.ok
                                  have hri : (addF d E L).2 = true → rightK (addF d E L).1 = true := fun h => (rightK_iff _).2 ((addF_yes h).right FB.out.rt)
                                  have ha1 := fun W (hW : Kept None w6 W) => HC.out.2.2.2.1 (.slice ad N cd) (.slice az nz cz') _ _ _ _ d E L W (FX.out.ps W hW) (HZ.out.ps W hW) FB.out.rt FB.out.ok HZ.out.ok (Nat.le_trans FX.out.len (by decide)) (Nat.le_trans HZ.out.len (by decide))
                                  have ha2 := fun W (hW : Kept None w6 W) => R16.add (.slice ad N cd) (.slice az nz cz') _ _ _ _ d E L W (FX.out.ps W hW) (HZ.out.ps W hW) (Nat.le_trans FX.out.len (by decide)) (Nat.le_trans HZ.out.len (by decide))
                                  have hlA : (addF d E L).1.length ≤ 2000 := by have := hok.2; have := FX.out.len; have := HZ.out.len; omega
                                  have hokA := hok.1
                                  obtain ⟨⟨A, ok⟩, hAO⟩ : ∃ z, z = addF d E L := ⟨_, rfl⟩
                                  rw [← hAO] at hri ha1 ha2 hlA hokA
                                  simp only at hri ha1 ha2 hlA hokA
                                  have HA1 := hid ha1
                                  have HA2 := hid ha2
                                  have HRI := hid hri
                                  have HLA := hid (And.intro hlA hokA)
                                  have hkn : knosEq A A = true := by unfold knosEq; simp
                                  have HKN := hid hkn
                                  have KQ := hid (K7.out.trans HQ.out)
                                  clear hu hok hri ha1 ha2 hlA hokA hAO hkn
                                  go_wp2_with fail
                                  refine (HA1.out wr KQ.out).mono ?_
                                  rintro e w8 ⟨r8, rfl, k8, p8⟩
                                  have K8 := hid (KQ.out.trans k8)
                                  have Q8 := hid (HQ.out.trans k8)
                                  have P8 := hid p8
                                  obtain ⟨a8, c8, hr8, _⟩ := p8.form
                                  subst hr8
                                  clear k8 p8 HA1 KQ HQ
                                  go_wp2_with fail
                                  refine (HA2.out w8 K8.out).mono ?_
                                  rintro e w9 ⟨r9, rfl, k9, p9⟩
                                  have Q9 := hid (Q8.out.trans k9)
                                  have P89 := hid (P8.out.kept k9 (fun _ _ _ h => h))
                                  have P9 := hid p9.ps
                                  obtain ⟨a9, c9, hr9, _⟩ := P9.out.form
                                  subst hr9
                                  clear k9 p9 HA2 K8 Q8 P8
                                  have hk1 := Hr.known _ _ _ _ _ _ A A w9 P89.out P9.out (Nat.le_trans HLA.out.1 (by decide))
                                  rw [HKN.out] at hk1
                                  have HK1 := hid hk1
                                  clear hk1
                                  cases ok with
                                  | false =>
                                    go_wp2_with (first | go_skip | fail)
                                    refine HK1.out.mono ?_
                                    rintro e w10 ⟨rfl, k10⟩
                                    have Q10 := hid (Q9.out.trans k10)
                                    clear k10 HK1
                                    go_wp2_with (first | go_skip | fail)
                                    go_roundg (3 - (i + 1))
                                    case measure => omega
                                    case rel => exact ⟨i + 1, by go_num, by omega, Nat.le_refl _, Q10⟩
                                  | true =>
                                    go_wp2_with (first | go_skip | fail)
                                    refine HK1.out.mono ?_
                                    rintro e w10 ⟨rfl, k10⟩
                                    have Q10 := hid (Q9.out.trans k10)
                                    have hr1 := HC.out.1 _ _ _ A w10 (P89.out.kept k10 (fun _ _ _ h => h)) HLA.out.2 (Nat.le_trans HLA.out.1 (by decide))
                                    rw [HRI.out (by first | rfl | trivial)] at hr1
                                    have HR1 := hid hr1
                                    clear k10 HK1 hr1
                                    go_wp2_with (first | go_skip | fail)
                                    refine HR1.out.mono ?_
                                    rintro e w11 ⟨rfl, k11⟩
                                    have Q11 := hid (Q10.out.trans k11)
                                    clear k11 HR1
                                    go_wp2_with (first | go_skip | fail)
                                    go_roundg (3 - (i + 1))
                                    case measure => omega
                                    case rel => exact ⟨i + 1, by go_num, by omega, Nat.le_refl _, Q11⟩
                                · as_aux_lemma =>
                                  have hiz : ¬ (i : Int) < 3 := by omega
                                  have hizd : decide ((i : Int) < 3) = false := decide_eq_false hiz
                                  have wj := HWJ.out
                                  have KZ := hid (K7.out.trans HQ.out)
                                  clear hi hix HQ
                                  go_wp2_with (first | go_skip | fail)
                                  go_roundg (2 - (j + 1))
                                  case measure => omega
                                  case rel => exact ⟨j + 1, by go_num, by omega, Nat.le_refl _, KZ⟩
                            · as_aux_lemma =>
                              have hz : ¬ (j : Int) < 2 := by omega
                              have hzd : decide ((j : Int) < 2) = false := decide_eq_false hz
                              have FB := hid (Facts.later' FB.out HW.out)
                              have FX := hid (FX.out.later HW.out)
                              have KD := hid (KD.out.trans HW.out)
                              obtain ⟨wo, hwo⟩ : ∃ z : World, z = wr := ⟨_, rfl⟩
                              rw [← hwo] at FB FX KD ⊢
                              clear hwo HW hlt hj hjx KR HBT HRB B6
                              go_wp2_with fail
                              refine (Es.name6 kk _).mono ?_
                              rintro e wn ⟨sn, rfl, _, kn⟩
                              have FB := hid (Facts.later' FB.out kn)
                              have FX := hid (FX.out.later kn)
                              have KD := hid (KD.out.trans kn)
                              clear kn
                              go_wp2_with fail
                              obtain ⟨w7, hw7⟩ : ∃ z, z = wn.alloc (.cells #[.string nm, .string sn] 9) := ⟨_, rfl⟩
                              obtain ⟨g7, hg7⟩ : ∃ z, z = wn.heap.size := ⟨_, rfl⟩
                              have k7 : Kept None wn w7 := by rw [hw7]; exact (Kept.refl _ _).alloc _
                              have b7 : Blk w7 g7 #[.string nm, .string sn] 9 := by rw [hw7, hg7]; exact Blk.new _ _ _
                              rw [← hw7, ← hg7]
                              have B7 := hid b7
                              have FB := hid (Facts.later' FB.out k7)
                              have FX := hid (FX.out.later k7)
                              have KD := hid (KD.out.trans k7)
                              have KR := hid (Kept.refl None w7)
                              clear hw7 hg7 k7 b7
                              obtain ⟨V7, hV7⟩ : ∃ z, z = bits .and .i64 vv 7 := ⟨_, rfl⟩
                              have HV7 := hid hV7.symm
                              clear hV7
                              go_loopg [251] 2 (fun kx s251 wr => ∃ j : Nat, s251 = .int .i64 (j : Int) ∧ j ≤ 2 ∧ 2 - j ≤ kx ∧ Hid (Kept None w7 wr))
                              case atStart => exact ⟨0, rfl, by decide, Nat.le_refl _, KR⟩
                              case round =>
                                obtain ⟨j, rfl, hj, hjx, HW⟩ := hrel
                                by_cases hlt : j < 2
                                · as_aux_lemma =>
                                  have hz : (j : Int) < 2 := by omega
                                  have hzd : decide ((j : Int) < 2) = true := decide_eq_true hz
                                  have wj : IntKind.i64.wrap ((j : Int) + 1) = (j : Int) + 1 := by rw [IntKind.wrap_i64]; omega
                                  obtain ⟨u, cu, hu⟩ := two_at (B7.out.kept HW.out (fun h => h)) hlt
                                  obtain ⟨S, rfl⟩ : ∃ S, u = .string S := by
                                    rcases hu with rfl | rfl
                                    · exact ⟨_, rfl⟩
                                    · exact ⟨_, rfl⟩
                                  have hla := fun W (hW : Kept None w7 W) => FB.out.latest HC.out.2.1 hW S
                                  have hra := fun W (hW : Kept None w7 W) => R16.latest (.slice ad N cd) _ _ d S W (FX.out.ps W hW) (Nat.le_trans FX.out.len (by decide))
                                  have hfa := fun W (hW : Kept None w7 W) => FB.out.find HC.out.2.2.1 hW S V7
                                  have hga := fun W (hW : Kept None w7 W) => R16.find (.slice ad N cd) _ _ d S V7 W (FX.out.ps W hW) (Nat.le_trans FX.out.len (by decide))
                                  obtain ⟨⟨⟨⟨Mn, Mv, Mk⟩, Mp⟩, mb⟩, hM⟩ : ∃ z, z = latF d S := ⟨_, rfl⟩
                                  obtain ⟨⟨⟨⟨Qn, Qv, Qk⟩, Qp⟩, qb⟩, hQ⟩ : ∃ z, z = finK d S V7 := ⟨_, rfl⟩
                                  rw [← hM] at hla hra
                                  rw [← hQ] at hfa hga
                                  have HLA := hid hla
                                  have HRA := hid hra
                                  have HFA := hid hfa
                                  have HGA := hid hga
                                  have hnm := fun W => Jk.neqKno ⟨⟨Mn, Mv, Mk⟩, Mp⟩ ⟨⟨Mn, Mv, Mk⟩, Mp⟩ W
                                  rw [(knoEq_iff _ _).2 rfl] at hnm
                                  have hnq := fun W => Jk.neqKno ⟨⟨Qn, Qv, Qk⟩, Qp⟩ ⟨⟨Qn, Qv, Qk⟩, Qp⟩ W
                                  rw [(knoEq_iff _ _).2 rfl] at hnq
                                  have hnm2 : ∀ W, (binOp .neq 31 (.agg #[.string Mn, .int .i64 Mv, .int .u64 (Mk : Int), .int .i64 Mp]) (.agg #[.string Mn, .int .i64 Mv, .int .u64 (Mk : Int), .int .i64 Mp])).run Try.prog W = .ok (.bool false) W := hnm
                                  have hnq2 : ∀ W, (binOp .neq 31 (.agg #[.string Qn, .int .i64 Qv, .int .u64 (Qk : Int), .int .i64 Qp]) (.agg #[.string Qn, .int .i64 Qv, .int .u64 (Qk : Int), .int .i64 Qp])).run Try.prog W = .ok (.bool false) W := hnq
                                  have HNQ := hid (And.intro hnm2 hnq2)
                                  have HWJ := hid wj
                                  have KA0 := hid HW.out
                                  have v7 := HV7.out
                                  clear hu hla hra hfa hga hM hQ hnm hnq hnm2 hnq2 wj HW
                                  go_wp2_with (first | go_skip | fail)
                                  refine (HLA.out _ KA0.out).mono ?_
                                  rintro e wb0 ⟨rfl, kb⟩
                                  go_upto_region 52 with (first | go_skip | fail)
                                  obtain ⟨wa0, hw⟩ : ∃ z, z = wb0.alloc (.cells #[.string Mn, .int .i64 Mv, .int .u64 (Mk : Int), .int .i64 Mp] 31) := ⟨_, rfl⟩
                                  obtain ⟨ga0, hg⟩ : ∃ z, z = wb0.heap.size := ⟨_, rfl⟩
                                  have ka : Kept None wr wa0 := by rw [hw]; exact kb.alloc _
                                  have bA : Blk wa0 ga0 #[.string Mn, .int .i64 Mv, .int .u64 (Mk : Int), .int .i64 Mp] 31 := by rw [hw, hg]; exact Blk.new _ _ _
                                  rw [← hw, ← hg]
                                  have KA1 := hid (KA0.out.trans ka)
                                  have BA0 := hid bA
                                  clear hw hg ka bA kb KA0
                                  go_wp2_with (first | go_skip | fail)
                                  refine (HRA.out _ KA1.out).mono ?_
                                  rintro e wb1 ⟨rfl, kb⟩
                                  go_upto_region 53 with (first | go_skip | fail)
                                  obtain ⟨wa1, hw⟩ : ∃ z, z = wb1.alloc (.cells #[.string Mn, .int .i64 Mv, .int .u64 (Mk : Int), .int .i64 Mp] 31) := ⟨_, rfl⟩
                                  obtain ⟨ga1, hg⟩ : ∃ z, z = wb1.heap.size := ⟨_, rfl⟩
                                  have ka : Kept None wa0 wa1 := by rw [hw]; exact kb.alloc _
                                  have bA : Blk wa1 ga1 #[.string Mn, .int .i64 Mv, .int .u64 (Mk : Int), .int .i64 Mp] 31 := by rw [hw, hg]; exact Blk.new _ _ _
                                  rw [← hw, ← hg]
                                  have KA2 := hid (KA1.out.trans ka)
                                  have BA0 := hid (BA0.out.kept ka (fun h => h))
                                  have BA1 := hid bA
                                  clear hw hg ka bA kb KA1
                                  go_wp2_with (first | go_skip | fail)
                                  refine (HFA.out _ KA2.out).mono ?_
                                  rintro e wb2 ⟨rfl, kb⟩
                                  go_upto_region 54 with (first | go_skip | fail)
                                  obtain ⟨wa2, hw⟩ : ∃ z, z = wb2.alloc (.cells #[.string Qn, .int .i64 Qv, .int .u64 (Qk : Int), .int .i64 Qp] 31) := ⟨_, rfl⟩
                                  obtain ⟨ga2, hg⟩ : ∃ z, z = wb2.heap.size := ⟨_, rfl⟩
                                  have ka : Kept None wa1 wa2 := by rw [hw]; exact kb.alloc _
                                  have bA : Blk wa2 ga2 #[.string Qn, .int .i64 Qv, .int .u64 (Qk : Int), .int .i64 Qp] 31 := by rw [hw, hg]; exact Blk.new _ _ _
                                  rw [← hw, ← hg]
                                  have KA3 := hid (KA2.out.trans ka)
                                  have BA0 := hid (BA0.out.kept ka (fun h => h))
                                  have BA1 := hid (BA1.out.kept ka (fun h => h))
                                  have BA2 := hid bA
                                  clear hw hg ka bA kb KA2
                                  go_wp2_with (first | go_skip | fail)
                                  refine (HGA.out _ KA3.out).mono ?_
                                  rintro e wb3 ⟨rfl, kb⟩
                                  go_upto_region 55 with (first | go_skip | fail)
                                  obtain ⟨wa3, hw⟩ : ∃ z, z = wb3.alloc (.cells #[.string Qn, .int .i64 Qv, .int .u64 (Qk : Int), .int .i64 Qp] 31) := ⟨_, rfl⟩
                                  obtain ⟨ga3, hg⟩ : ∃ z, z = wb3.heap.size := ⟨_, rfl⟩
                                  have ka : Kept None wa2 wa3 := by rw [hw]; exact kb.alloc _
                                  have bA : Blk wa3 ga3 #[.string Qn, .int .i64 Qv, .int .u64 (Qk : Int), .int .i64 Qp] 31 := by rw [hw, hg]; exact Blk.new _ _ _
                                  rw [← hw, ← hg]
                                  have KA4 := hid (KA3.out.trans ka)
                                  have BA0 := hid (BA0.out.kept ka (fun h => h))
                                  have BA1 := hid (BA1.out.kept ka (fun h => h))
                                  have BA2 := hid (BA2.out.kept ka (fun h => h))
                                  have BA3 := hid bA
                                  clear hw hg ka bA kb KA3
                                  have aK : AggTy Try.prog 31 4 := R16.aKno
                                  have bm : (mb != mb) = false := by cases mb <;> rfl
                                  have bq : (qb != qb) = false := by cases qb <;> rfl
                                  have e0 := BA0.out
                                  have e1 := BA1.out
                                  have e2 := BA2.out
                                  have e3 := BA3.out
                                  have n1 := HNQ.out.1
                                  have n2 := HNQ.out.2
                                  go_wp2_with (first | (refine wpList_load_bw (by kernel_rfl) rfl rfl e0 aK ?_) | (refine wpList_load_bw (by kernel_rfl) rfl rfl e1 aK ?_) | (refine wpList_load_bw (by kernel_rfl) rfl rfl e2 aK ?_) | (refine wpList_load_bw (by kernel_rfl) rfl rfl e3 aK ?_) | go_skip | fail)
                                  have wj := HWJ.out
                                  clear e0 e1 e2 e3 n1 n2 BA0 BA1 BA2 BA3
                                  go_wp2_with (first | go_skip | fail)
                                  go_roundg (2 - (j + 1))
                                  case measure => omega
                                  case rel => exact ⟨j + 1, by go_num, by omega, Nat.le_refl _, KA4⟩
                                · as_aux_lemma =>
                                  have hz : ¬ (j : Int) < 2 := by omega
                                  have hzd : decide ((j : Int) < 2) = false := decide_eq_false hz
                                  have FB := hid (Facts.later' FB.out HW.out)
                                  have FX := hid (FX.out.later HW.out)
                                  have KD := hid (KD.out.trans HW.out)
                                  obtain ⟨wo, hwo⟩ : ∃ z : World, z = wr := ⟨_, rfl⟩
                                  rw [← hwo] at FB FX KD ⊢
                                  have KR2 := hid (Kept.refl None wo)
                                  clear hwo HW hlt hj hjx KR B7
                                  obtain ⟨T2, hT2⟩ : ∃ z, z = IntKind.i64.wrap (T - 1) := ⟨_, rfl⟩
                                  have t2 := hT2.symm
                                  clear hT2
                                  have hi1 := fun W (hW : Kept None wo W) => HC.out.2.2.2.2 (.slice ad N cd) _ _ d ep W (FX.out.ps W hW) FB.out.rt FB.out.ok (Nat.le_trans FX.out.len (by decide))
                                  have hj1 := fun W (hW : Kept None wo W) => R16.items (.slice ad N cd) _ _ d ep W (FX.out.ps W hW) FB.out.ok (Nat.le_trans FX.out.len (by decide))
                                  have hl1 : (setI (itemsF d ep)).length ≤ 1099511627776 := by have h1 := len_setI (itemsF d ep); have h2 := itemsF_len d ep; have h3 := FX.out.len; omega
                                  obtain ⟨IT1, hIT⟩ : ∃ z, z = setI (itemsF d ep) := ⟨_, rfl⟩
                                  rw [← hIT] at hi1 hj1 hl1
                                  have HI1 := hid hi1
                                  have HJ1 := hid hj1
                                  have HL1 := hid hl1
                                  clear hIT hi1 hj1 hl1
                                  have hi2 := fun W (hW : Kept None wo W) => HC.out.2.2.2.2 (.slice ad N cd) _ _ d T W (FX.out.ps W hW) FB.out.rt FB.out.ok (Nat.le_trans FX.out.len (by decide))
                                  have hj2 := fun W (hW : Kept None wo W) => R16.items (.slice ad N cd) _ _ d T W (FX.out.ps W hW) FB.out.ok (Nat.le_trans FX.out.len (by decide))
                                  have hl2 : (setI (itemsF d T)).length ≤ 1099511627776 := by have h1 := len_setI (itemsF d T); have h2 := itemsF_len d T; have h3 := FX.out.len; omega
                                  obtain ⟨IT2, hIT⟩ : ∃ z, z = setI (itemsF d T) := ⟨_, rfl⟩
                                  rw [← hIT] at hi2 hj2 hl2
                                  have HI2 := hid hi2
                                  have HJ2 := hid hj2
                                  have HL2 := hid hl2
                                  clear hIT hi2 hj2 hl2
                                  have hi3 := fun W (hW : Kept None wo W) => HC.out.2.2.2.2 (.slice ad N cd) _ _ d T2 W (FX.out.ps W hW) FB.out.rt FB.out.ok (Nat.le_trans FX.out.len (by decide))
                                  have hj3 := fun W (hW : Kept None wo W) => R16.items (.slice ad N cd) _ _ d T2 W (FX.out.ps W hW) FB.out.ok (Nat.le_trans FX.out.len (by decide))
                                  have hl3 : (setI (itemsF d T2)).length ≤ 1099511627776 := by have h1 := len_setI (itemsF d T2); have h2 := itemsF_len d T2; have h3 := FX.out.len; omega
                                  obtain ⟨IT3, hIT⟩ : ∃ z, z = setI (itemsF d T2) := ⟨_, rfl⟩
                                  rw [← hIT] at hi3 hj3 hl3
                                  have HI3 := hid hi3
                                  have HJ3 := hid hj3
                                  have HL3 := hid hl3
                                  clear hIT hi3 hj3 hl3
                                  go_wp2_with (first | go_skip | fail)
                                  refine (HI1.out _ KR2.out).mono ?_
                                  rintro e wi1 ⟨ui1, rfl, ii, ki⟩
                                  have KI1 := hid (KR2.out.trans ki)
                                  have II1 := hid ii
                                  clear ii ki HI1
                                  go_wp2_with (first | go_skip | fail)
                                  refine (HJ1.out _ KI1.out).mono ?_
                                  rintro e wj1 ⟨uj1, rfl, jj, kj⟩
                                  have KJ1 := hid (KI1.out.trans kj)
                                  have hsm := Tr.same ui1 uj1 _ _ _ _ IT1 wj1 (II1.out.kept kj (fun _ _ _ h => h)) (jj.its (Nat.le_refl _)) HL1.out
                                  have HS1 := hid hsm
                                  clear jj kj hsm II1 HJ1 KI1
                                  go_wp2_with (first | go_skip | fail)
                                  refine HS1.out.mono ?_
                                  rintro e wk1 ⟨rfl, kk1⟩
                                  have KK1 := hid (KJ1.out.trans kk1)
                                  clear kk1 HS1 KJ1
                                  go_wp2_with (first | go_skip | fail)
                                  refine (HI2.out _ KK1.out).mono ?_
                                  rintro e wi2 ⟨ui2, rfl, ii, ki⟩
                                  have KI2 := hid (KK1.out.trans ki)
                                  have II2 := hid ii
                                  clear ii ki HI2
                                  go_wp2_with (first | go_skip | fail)
                                  refine (HJ2.out _ KI2.out).mono ?_
                                  rintro e wj2 ⟨uj2, rfl, jj, kj⟩
                                  have KJ2 := hid (KI2.out.trans kj)
                                  have hsm := Tr.same ui2 uj2 _ _ _ _ IT2 wj2 (II2.out.kept kj (fun _ _ _ h => h)) (jj.its (Nat.le_refl _)) HL2.out
                                  have HS2 := hid hsm
                                  clear jj kj hsm II2 HJ2 KI2
                                  go_wp2_with (first | go_skip | fail)
                                  refine HS2.out.mono ?_
                                  rintro e wk2 ⟨rfl, kk2⟩
                                  have KK2 := hid (KJ2.out.trans kk2)
                                  clear kk2 HS2 KJ2
                                  go_wp2_with (first | go_skip | fail)
                                  refine (HI3.out _ KK2.out).mono ?_
                                  rintro e wi3 ⟨ui3, rfl, ii, ki⟩
                                  have KI3 := hid (KK2.out.trans ki)
                                  have II3 := hid ii
                                  clear ii ki HI3
                                  go_wp2_with (first | go_skip | fail)
                                  refine (HJ3.out _ KI3.out).mono ?_
                                  rintro e wj3 ⟨uj3, rfl, jj, kj⟩
                                  have KJ3 := hid (KI3.out.trans kj)
                                  have hsm := Tr.same ui3 uj3 _ _ _ _ IT3 wj3 (II3.out.kept kj (fun _ _ _ h => h)) (jj.its (Nat.le_refl _)) HL3.out
                                  have HS3 := hid hsm
                                  clear jj kj hsm II3 HJ3 KI3
                                  go_wp2_with (first | go_skip | fail)
                                  refine HS3.out.mono ?_
                                  rintro e wk3 ⟨rfl, kk3⟩
                                  have KK3 := hid (KJ3.out.trans kk3)
                                  clear kk3 HS3 KJ3
                                  have KZ := hid (KD.out.trans KK3.out)
                                  go_wp2_with (first | go_skip | fail)
                                  go_ret
                                  exact ⟨rfl, KZ.out⟩
end P16
end Go.Proofs.Ytglibdggoobocaa
namespace Go.Pm
open Go Go.RowKit Go.ChangeShapes Go.WideShapes Go.ChangeAt
section
variable {H : Type} {enc : TypeId × Value → H} {P : Program}
/-- A slice of structs of k cells each. -/
theorem openRows {α : Type} {k : Nat} (hk0 : 0 < k) (f : α → List Value) (Q : α → Prop) (hfl : ∀ x, (f x).length = k) {W : World} {t e : TypeId} {v : Value} {d : DataW H} {p : List MemPlace} {base : Nat} (ht : P.underlying t = some (.slice e)) (ce : P.cellsOf e = k)
    (each : ∀ (w : World) (base : Nat) (spare : Nat → Bool) (held : Bool) (n : Nat) (cs : List Value) (y : DataW H × List MemPlace), DataW.trod enc P w base spare held n e cs = some y → cs.length = k → ∃ x, cs = f x ∧ Q x)
    (hok : Value.okWide P W .any base t v) (hT : DataW.Trod enc P W 0 (fun _ => true) true t v d p) (hlt : ∀ x ∈ p, x.block < W.heap.size) : ∃ l : List α, Ps k W 0 W.heap.size v (l.map f) ∧ ∀ x ∈ l, Q x := by
  have heach : ∀ l : List α, Each k (l.map f) := fun l x hx => by
    obtain ⟨y, _, rfl⟩ := List.mem_map.1 hx
    exact hfl y
  obtain ⟨a0, len, cap, rfl⟩ := okWide_slice ht hok
  obtain ⟨fuel, hf⟩ := hT
  rcases Deep.open_slice ht hf with ⟨hcs, hx⟩ | ⟨a, len', cap', m, n, D, Pl, hcs, _, hl, hm, hmm, hx, hcell⟩
  · simp [Value.cells] at hcs
    obtain ⟨rfl, rfl, rfl⟩ := hcs
    exact ⟨[], Ps.nil _ _ _ _, fun _ h => by cases h⟩
  · simp [Value.cells] at hcs
    obtain ⟨rfl, rfl, rfl⟩ := hcs
    simp only [Prod.mk.injEq] at hx
    obtain ⟨_, rfl⟩ := hx
    simp only [if_true] at hmm
    subst hmm
    rw [ce] at hcell hlt
    have get : ∀ i, i < len → ∃ x : α, Q x ∧ ∀ j c, (f x)[j]? = some c → W.cell? (a.add (i * k + j)) = some c := fun i hi => by
      obtain ⟨cs', h1, h2⟩ := hcell i (by omega)
      obtain ⟨_, hlen, hc⟩ := World.cells?_some h1
      obtain ⟨x, hx1, hx2⟩ := each _ _ _ _ _ _ _ h2 hlen
      refine ⟨x, hx2, fun j c hj => ?_⟩
      have hjk : j < k := by
        have := (List.getElem?_eq_some_iff.1 hj).1
        rwa [hfl] at this
      rw [← add_add', hc j (by omega), hx1]
      exact hj
    obtain ⟨l, hl2, hg⟩ := list_of (Q := fun i (x : α) => Q x ∧ ∀ j c, (f x)[j]? = some c → W.cell? (a.add (i * k + j)) = some c) len get
    have hflat : (l.map f).flatten.length = l.length * k := by rw [flat_len (heach l), List.length_map]
    have hQ : ∀ x ∈ l, Q x := fun x hx => by
      obtain ⟨i, hi, rfl⟩ := List.getElem_of_mem hx
      exact (hg i _ (List.getElem?_eq_getElem hi)).1
    refine ⟨l, ⟨heach l, by rw [hflat, List.length_map], some a, m, by rw [List.length_map, hl2], by rw [List.length_map]; omega, hm, (fun h => by cases h), ?_⟩, hQ⟩
    intro ad had i c hc
    obtain rfl := Option.some.inj had
    have hi : i < (l.map f).flatten.length := (List.getElem?_eq_some_iff.1 hc).1
    rw [hflat] at hi
    have hik : i / k < l.length := (Nat.div_lt_iff_lt_mul hk0).2 hi
    have hm2 : i % k < k := Nat.mod_lt _ hk0
    have hx : l[i / k]? = some l[i / k] := List.getElem?_eq_getElem hik
    have hmf : i % k < (f l[i / k]).length := by rw [hfl]; exact hm2
    have h := flat_get (heach l) (i := i / k) (x := f l[i / k]) (by rw [List.getElem?_map, hx]; rfl) (List.getElem?_eq_getElem hmf)
    have hdm : i / k * k + i % k = i := by rw [Nat.mul_comm]; exact Nat.div_add_mod i k
    rw [hdm, hc] at h
    have hcl := (hg (i / k) _ hx).2 (i % k) c (by rw [List.getElem?_eq_getElem hmf, ← Option.some.inj h])
    rw [hdm] at hcl
    refine ⟨Nat.zero_le _, ?_, hcl⟩
    have := block_lt_of_cell hcl
    rwa [add_block] at this
end
end Go.Pm
namespace Go.Pm
open Go Go.RowKit Go.ChangeShapes Go.WideShapes Go.ChangeAt
section
variable {H : Type} {enc : TypeId × Value → H} {P : Program}
/-- An entry's cells. -/
theorem trodEnt {w : World} {base : Nat} {spare : Nat → Bool} {held : Bool} {n : Nat} {t : TypeId} {f0 f1 f2 : Field} {l : List Value} {y : DataW H × List MemPlace} (ht : P.underlying t = some (.struct #[f0, f1, f2])) (hl3 : l.length = 3)
    (o0 : f0.offset = 0) (o1 : f1.offset = 1) (o2 : f2.offset = 2) (hu0 : P.underlying f0.type = some .string) (hu1 : P.underlying f1.type = some (.int .i64)) (hu2 : P.underlying f2.type = some (.int .u64))
    (hc0 : P.cellsOf f0.type = 1) (hc1 : P.cellsOf f1.type = 1) (hc2 : P.cellsOf f2.type = 1)
    (h : DataW.trod enc P w base spare held n t l = some y) : ∃ x : Ent, l = entC x ∧ x.k < 18446744073709551616 := by
  obtain ⟨xs, n', _, _, _, hlen, hx⟩ := DataW.trod_struct ht h
  match l, hl3 with
  | [c0, c1, c2], _ =>
    match xs, hlen with
    | [y0, y1, y2], _ =>
      have e0 := hx 0 f0 rfl
      have e1 := hx 1 f1 rfl
      have e2 := hx 2 f2 rfl
      rw [o0, hc0] at e0
      rw [o1, hc1] at e1
      rw [o2, hc2] at e2
      obtain ⟨s0, r0, _, _⟩ := DataW.trod_string hu0 e0
      obtain ⟨k1, r1, _, w1⟩ := DataW.trod_int hu1 e1
      obtain ⟨k2, r2, _, w2⟩ := DataW.trod_int hu2 e2
      simp at r0 r1 r2
      simp [Lit.wf, IntKind.min, IntKind.max, IntKind.signed, IntKind.bits] at w2
      subst r0 r1 r2
      refine ⟨⟨s0, k1, k2.toNat⟩, ?_, by show k2.toNat < _; omega⟩
      show _ = [_, _, Value.int .u64 ((k2.toNat : Nat) : Int)]
      rw [Int.toNat_of_nonneg (by omega)]
/-- The cells of what is known. -/
theorem trodKno {w : World} {base : Nat} {spare : Nat → Bool} {held : Bool} {n : Nat} {t : TypeId} {e0 e1 f0 f1 f2 : Field} {l : List Value} {y : DataW H × List MemPlace} (htk : P.underlying t = some (.struct #[e0, e1])) (hl4 : l.length = 4)
    (a0 : e0.offset = 0) (a1 : e1.offset = 3) (b1 : P.underlying e1.type = some (.int .i64)) (k0 : P.cellsOf e0.type = 3) (k1 : P.cellsOf e1.type = 1)
    (ht : P.underlying e0.type = some (.struct #[f0, f1, f2]))
    (o0 : f0.offset = 0) (o1 : f1.offset = 1) (o2 : f2.offset = 2) (hu0 : P.underlying f0.type = some .string) (hu1 : P.underlying f1.type = some (.int .i64)) (hu2 : P.underlying f2.type = some (.int .u64))
    (hc0 : P.cellsOf f0.type = 1) (hc1 : P.cellsOf f1.type = 1) (hc2 : P.cellsOf f2.type = 1)
    (h : DataW.trod enc P w base spare held n t l = some y) : ∃ x : Kno, l = knoC x ∧ x.e.k < 18446744073709551616 := by
  obtain ⟨xs, n', _, _, _, hlen, hx⟩ := DataW.trod_struct htk h
  match l, hl4 with
  | [c0, c1, c2, c3], _ =>
    match xs, hlen with
    | [y0, y1], _ =>
      have m0 := hx 0 e0 rfl
      have m1 := hx 1 e1 rfl
      rw [a0, k0] at m0
      rw [a1, k1] at m1
      obtain ⟨x1, r1, _, w1⟩ := DataW.trod_int b1 m1
      obtain ⟨u, hu, hfu⟩ := trodEnt (l := [c0, c1, c2]) ht rfl o0 o1 o2 hu0 hu1 hu2 hc0 hc1 hc2 m0
      simp at r1
      simp only [entC, List.cons.injEq, and_true] at hu
      obtain ⟨u0, u1, u2⟩ := hu
      subst r1 u0 u1 u2
      exact ⟨⟨u, x1⟩, rfl, hfu⟩
theorem trodAll_9 {w : World} {base : Nat} {spare : Nat → Bool} {held : Bool} {t0 t1 t2 t3 t4 t5 t6 t7 t8 : TypeId} {args : Array Value} {ds : List (DataW H)} {ps : List MemPlace} (h : DataW.TrodAll enc P w base spare held [t0, t1, t2, t3, t4, t5, t6, t7, t8] args.toList ds ps) :
    ∃ v0 v1 v2 v3 v4 v5 v6 v7 v8 d0 d1 d2 d3 d4 d5 d6 d7 d8 p0 p1 p2 p3 p4 p5 p6 p7 p8, args = #[v0, v1, v2, v3, v4, v5, v6, v7, v8] ∧ ds = [d0, d1, d2, d3, d4, d5, d6, d7, d8] ∧ ps = p0 ++ (p1 ++ (p2 ++ (p3 ++ (p4 ++ (p5 ++ (p6 ++ (p7 ++ p8))))))) ∧
      DataW.Trod enc P w base spare held t0 v0 d0 p0 ∧ DataW.Trod enc P w base spare held t1 v1 d1 p1 ∧ DataW.Trod enc P w base spare held t2 v2 d2 p2 ∧ DataW.Trod enc P w base spare held t3 v3 d3 p3 ∧ DataW.Trod enc P w base spare held t4 v4 d4 p4 ∧
      DataW.Trod enc P w base spare held t5 v5 d5 p5 ∧ DataW.Trod enc P w base spare held t6 v6 d6 p6 ∧ DataW.Trod enc P w base spare held t7 v7 d7 p7 ∧ DataW.Trod enc P w base spare held t8 v8 d8 p8 := by
  obtain ⟨v0, l0, d0, e0, p0, q0, ha, rfl, rfl, h0, h⟩ := trodAll_cons h
  obtain ⟨v1, l1, d1, e1, p1, q1, rfl, rfl, rfl, h1, h⟩ := trodAll_cons h
  obtain ⟨v2, v3, v4, v5, v6, v7, v8, d2, d3, d4, d5, d6, d7, d8, p2, p3, p4, p5, p6, p7, p8, hb, rfl, rfl, h2, h3, h4, h5, h6, h7, h8⟩ := trodAll_seven (args := l1.toArray) (by simpa using h)
  refine ⟨v0, v1, v2, v3, v4, v5, v6, v7, v8, d0, d1, d2, d3, d4, d5, d6, d7, d8, p0, p1, p2, p3, p4, p5, p6, p7, p8, ?_, rfl, by simp, h0, h1, h2, h3, h4, h5, h6, h7, h8⟩
  apply Array.ext'
  rw [ha]
  have := congrArg Array.toList hb
  simp at this
  simp [this]
end
end Go.Pm
namespace Go.Proofs.Ytglibdggoobocaa
open Go.ChangeShapes Go.WideShapes Go.ChangeAt Go.RowKit Go.Pm

theorem laidOut : laidOutB Try.prog = true := by kernel_rfl
theorem ownKnobs : ownKnob Try.prog.godebug = none := by kernel_rfl
theorem rU64 : Try.prog.underlying 27 = some (.int .u64) := by kernel_rfl
def fName : Field := { name := "Name", type := 9, offset := 0, embedded := false, tag := "", pkgPath := "", byteOffset := 0 }
def fVersion : Field := { name := "Version", type := 3, offset := 1, embedded := false, tag := "", pkgPath := "", byteOffset := 16 }
def fKey : Field := { name := "Key", type := 27, offset := 2, embedded := false, tag := "", pkgPath := "", byteOffset := 24 }
def gEntry : Field := { name := "Entry", type := 29, offset := 0, embedded := false, tag := "", pkgPath := "", byteOffset := 0 }
def gEpoch : Field := { name := "Epoch", type := 3, offset := 3, embedded := false, tag := "", pkgPath := "", byteOffset := 32 }
theorem rEnt : Try.prog.underlying 29 = some (.struct #[fName, fVersion, fKey]) := by kernel_rfl
theorem rKno : Try.prog.underlying 31 = some (.struct #[gEntry, gEpoch]) := by kernel_rfl
theorem rKnos : Try.prog.underlying 23 = some (.slice 31) := by kernel_rfl
theorem rEnts : Try.prog.underlying 24 = some (.slice 29) := by kernel_rfl
theorem rBool : Try.prog.underlying 4 = some .bool := by kernel_rfl
theorem rU8 : Try.prog.underlying 5 = some (.int .u8) := by kernel_rfl
theorem rStr : Try.prog.underlying 9 = some .string := by kernel_rfl
theorem rI64 : Try.prog.underlying 3 = some (.int .i64) := by kernel_rfl
theorem cByte : Try.prog.cellsOf 5 = 1 := by kernel_rfl

set_option maxRecDepth 100000 in
theorem directoryTells_lifted (os : Os) (started : os.Started) (H : Type) (enc : TypeId × Value → H) :
    ReturnsInHanded {} Try.checked os 3 .any (Rows.directoryTellsSpec.pre6 enc Try.prog Try.f3 Rows.directoryTellsRow.domain false) (Rows.directoryTellsSpec.post enc Try.prog Try.f3 false true false false) := by
  refine returnsInHanded_of_change (C := Try.checked) ownKnobs started (by kernel_rfl) Try.func3
    (ChangeSpec.witness6 (enc := enc) (C := Try.checked) false ⟨#[], #[.slice none 0 0, .slice none 0 0, .slice none 0 0, .slice none 0 0, .int .i64 0, .string ⟨#[]⟩, .int .u8 0, .int .u8 0, .int .i64 0], []⟩ 8 (by kernel_rfl) (by kernel_rfl) (by kernel_rfl) (by kernel_rfl)) ?_
  intro W base args ds gs before hval0 hW _ _
  have hval : ∀ (j : Nat) t v, Try.f3.params[j]? = some t → args[j]? = some v → Value.okWide Try.prog W .any base t v := hval0
  have hlt : ∀ x ∈ before, x.block < W.heap.size := fun x hx => by simpa using hW.lt x hx
  have hW' := hW
  obtain ⟨p, q, hA0, hV, rfl, hfz, hnd⟩ := hW
  obtain ⟨rfl, rfl⟩ := trodVars_none hV
  have hA : DataW.TrodAll enc Try.prog W 0 (fun _ => true) true Try.f3.params.toList args.toList ds p := hA0
  rw [Try.params3] at hA hval
  obtain ⟨v0, v1, v2, v3, v4, v5, v6, v7, v8, d0, d1, d2, d3, d4, d5, d6, d7, d8, p0, p1, p2, p3, p4, p5, p6, p7, p8, rfl, rfl, rfl, h0, h1, h2, h3, h4, h5, h6, h7, h8⟩ := trodAll_9 hA
  obtain ⟨l, hl⟩ := openBs tBytes' tByte cByte (hval 0 22 v0 rfl rfl) h0 (fun x hx => hlt x (by simp [hx]))
  obtain ⟨raw, hraw⟩ := openRows (k := 4) (by decide) knoC (fun x : Kno => x.e.k < 18446744073709551616) (fun _ => rfl) rKnos (by kernel_rfl) (fun _ _ _ _ _ _ _ h hl => trodKno rKno hl rfl rfl rI64 (by kernel_rfl) (by kernel_rfl) rEnt rfl rfl rfl rStr rI64 rU64 (by kernel_rfl) (by kernel_rfl) (by kernel_rfl) h) (hval 1 23 v1 rfl rfl) h1 (fun x hx => hlt x (by simp [hx]))
  obtain ⟨batch, hbatch⟩ := openRows (k := 3) (by decide) entC (fun x : Ent => x.k < 18446744073709551616) (fun _ => rfl) rEnts (by kernel_rfl) (fun _ _ _ _ _ _ _ h hl => trodEnt rEnt hl rfl rfl rfl rStr rI64 rU64 (by kernel_rfl) (by kernel_rfl) (by kernel_rfl) h) (hval 2 24 v2 rfl rfl) h2 (fun x hx => hlt x (by simp [hx]))
  obtain ⟨ks, hks⟩ := openBs tBytes' tByte cByte (hval 3 22 v3 rfl rfl) h3 (fun x hx => hlt x (by simp [hx]))
  obtain ⟨epoch, rfl, _, _, b4⟩ := open_int rI64 (hval 4 3 v4 rfl rfl) h4
  obtain ⟨name, rfl, b5⟩ := openStr rStr (hval 5 9 v5 rfl rfl) h5
  obtain ⟨k, rfl, b6⟩ := openNat_u8 rU8 (hval 6 5 v6 rfl rfl) h6
  obtain ⟨what, rfl, b7⟩ := openNat_u8 rU8 (hval 7 5 v7 rfl rfl) h7
  obtain ⟨v, rfl, _, _, b8⟩ := open_int rI64 (hval 8 3 v8 rfl rfl) h8
  refine (P16.tells Dr.right Dr.latest Dr.find Dr.add Dr.items v0 v1 v2 v3 _ _ _ _ _ _ _ _ l raw batch ks epoch name k what v W hl hraw.1 hbatch.1 hks hraw.2 hbatch.2 b6).mono fun e W' ⟨he, hk⟩ => ?_
  subst he
  exact ⟨_, rfl, law_post (P := Try.prog) (f := Try.f3) rfl rfl rBool laidOut (by kernel_rfl) hW' rfl rfl rfl (hk.below (fun _ _ h => h))⟩

theorem directoryTells_holds : Rows.DirectoryTellsSaid :=
  OpenClaim.holds_of_wide 3 Try.f3 rfl rfl rfl rfl rfl rfl rfl ⟨rfl, rfl, rfl, rfl, rfl⟩ rfl rfl rfl rfl rfl (by kernel_rfl) Try.func3 (by kernel_rfl)
    (of_decide_eq_true (by kernel_rfl)) (by unfold Func.isWrapper; first | (rw [if_pos (by decide +kernel)]; kernel_rfl) | (rw [if_neg (by decide +kernel)]; exact ⟨rfl, rfl⟩))
    (fun os started H enc _ => directoryTells_lifted os started H enc)
end Go.Proofs.Ytglibdggoobocaa
