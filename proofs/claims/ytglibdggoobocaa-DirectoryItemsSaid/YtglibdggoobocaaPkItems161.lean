/- Rows.DirectoryItemsSaid: an epoch's items are one of each name, the one that was the latest then, whatever the directory and the epoch. No condition. -/
import Derived.Test.YtglibdggoobocaaPk7
import Derived.Test.YtglibdggoobocaaPk5
import Derived.Test.YtglibdggoobocaaPk4
import Derived.Deep.LoopGhost
import Derived.Test.YtglibdggoobocaaRows
import Derived.Test.YtglibdggoobocaaPk6
import Derived.Test.YtglibdggoobocaaPk8
namespace Go.Pm
open Go Go.RowKit
theorem six_idx0 : ∀ a ∈ sixN, ∀ b ∈ sixN, indexH a = indexH b → a = b := by decide +kernel
theorem six_idx {a b : ByteArray} (ha : a ∈ sixN) (hb : b ∈ sixN) (h : indexH a = indexH b) : a.toList = b.toList := by rw [six_idx0 a ha b hb h]
theorem six_inj {l : List Kno} (h : ∀ x ∈ l, x.e.n ∈ sixN) : InjK l := fun a ha b hb he => six_idx (h a ha) (h b hb) he
end Go.Pm
namespace Go.Proofs.Ytglibdggoobocaa
open Go.RowKit Go.Pm
namespace Tr
theorem uItem : Try.prog.underlying 54 = some (.struct (Try.prog.fieldsOf 54)) := by kernel_rfl
theorem fItem : (Try.prog.fieldsOf 54).toList.map (fun f => (f.name == "_", f.type, f.offset)) = [(false, 52, 0), (false, 52, 32)] := by kernel_rfl
theorem hItem : Try.prog.stoodInHeld 54 = false := by kernel_rfl
theorem eqFields_two {P : Program} {w : World} {xs ys : Array Value} {t : TypeId} {d : Nat} : ∀ {fs : List Field}, fs.map (fun f => (f.name == "_", f.type, f.offset)) = [(false, t, 0), (false, t, 32)] → (∀ w, (isAgg t).run P w = .ok true w) → (∀ w, (sizeOf t).run P w = .ok 32 w) →
    (Op.equalIn d t (.agg (xs.extract 0 32)) (.agg (ys.extract 0 32))).run P w = .ok true w → (Op.equalIn d t (.agg (xs.extract 32 64)) (.agg (ys.extract 32 64))).run P w = .ok true w → (Op.eqFields d xs ys fs).run P w = .ok true w
  | [f, g], h, ha, hs, h1, h2 => by
    simp only [List.map_cons, List.map_nil, List.cons.injEq, Prod.mk.injEq, and_true, beq_eq_false_iff_ne] at h
    obtain ⟨⟨f1, f2, f3⟩, g1, g2, g3⟩ := h
    simp only [Op.eqFields, f1, g1, ne_eq, not_false_eq_true, if_true, part, f2, f3, g2, g3, Sem.run_bind, ha, hs, Result.andThen_ok, Sem.run_pure, Nat.zero_add, h1, h2, Bool.not_true, Bool.false_eq_true, if_false]
  | [], h, _, _, _, _ => by simp at h
  | [_], h, _, _, _, _ => by simp at h
  | _ :: _ :: _ :: _, h, _, _, _, _ => by simp at h
/-- An item isn't unlike itself. -/
theorem neqItem (x : It) (hx : x.i.length = 32 ∧ x.v.length = 32) (w : World) : (binOp .neq 54 (.agg (itC x).toArray) (.agg (itC x).toArray)).run Try.prog w = .ok (.bool false) w := by
  rw [run_neq_struct, run_equalIn_struct w 9999 54 _ _ uItem hItem]
  have e1 : (itC x).toArray.extract 0 32 = (x.i.map u8v).toArray := by
    rw [List.extract_toArray, List.extract_eq_take_drop]
    simp only [List.drop_zero, Nat.sub_zero]
    rw [show (itC x).take 32 = x.i.map u8v from List.take_left' (by rw [List.length_map]; exact hx.1)]
  have e2 : (itC x).toArray.extract 32 64 = (x.v.map u8v).toArray := by
    rw [List.extract_toArray, List.extract_eq_take_drop]
    rw [show (itC x).drop 32 = x.v.map u8v from List.drop_left' (by rw [List.length_map]; exact hx.1), List.take_of_length_le (by rw [List.length_map]; omega)]
  rw [eqFields_two (t := 52) fItem Try.isAgg52 Try.sizeOf52]
  · rfl
  · rw [e1]
    have h := run_equalIn_bytes (P := Try.prog) w 9997 52 5 32 uHash uByte zByte x.i x.i hx.1 hx.1
    rw [beq_self_eq_true] at h
    exact h
  · rw [e2]
    have h := run_equalIn_bytes (P := Try.prog) w 9997 52 5 32 uHash uByte zByte x.v x.v hx.2 hx.2
    rw [beq_self_eq_true] at h
    exact h
set_option maxRecDepth 100000 in
set_option maxHeartbeats 4000000 in
/-- postmarkhelp.Items: the same items are the same. -/
theorem same (va vb : Value) (lo hi lo' hi' : Nat) (l : List It) (w : World) (ha : Its w lo hi va l) (hb : Its w lo' hi' vb l) (hl : l.length ≤ 1099511627776) : Calls Try.prog 21 #[va, vb] w fun e w' => e = .returned (.bool true) ∧ Kept None w w' := by
  obtain ⟨a1, c1, rfl, p1, p2, _⟩ := ha.form
  obtain ⟨a2, c2, rfl, p3, p4, _⟩ := hb.form
  have p2' : c1 ≤ 9223372036854775807 := p2
  have p4' : c2 ≤ 9223372036854775807 := p4
  obtain ⟨n, hn⟩ : ∃ n, n = l.length := ⟨_, rfl⟩
  rw [← hn] at ha hb hl p1 p3 ⊢
  have HA := hid ha
  have HB := hid hb
  have HN := hid hn
  clear ha hb hn p2 p4
  go_enter Try.func21, Try.ntmps21
  go_wp2
  go_loopg [5] n (fun kx s5 wr => ∃ k : Nat, s5 = .int .i64 k ∧ k ≤ n ∧ n - k ≤ kx ∧ Hid (Kept None w wr))
  case atStart => exact ⟨0, rfl, Nat.zero_le _, Nat.le_refl _, Kept.refl _ _⟩
  case round =>
    obtain ⟨k, rfl, hk, hkx, HK⟩ := hrel
    by_cases hlt : k < n
    · have hz : (k : Int) < (n : Int) := by omega
      obtain ⟨x, hx⟩ : ∃ x, l[k]? = some x := ⟨_, List.getElem?_eq_getElem (by have := HN.out; omega)⟩
      have hxl := HA.out.1 x (List.mem_of_getElem? hx)
      have i1 := HA.out.kept HK.out (fun _ _ _ h => h)
      have i2 := HB.out.kept HK.out (fun _ _ _ h => h)
      obtain ⟨b1, o1, h1, _, _, _, hc1⟩ := i1.ne (by have := HN.out; omega)
      obtain ⟨b2, o2, h2, _, _, _, hc2⟩ := i2.ne (by have := HN.out; omega)
      obtain rfl := h1
      obtain rfl := h2
      have hcx := hc1 k x hx
      have hcy := hc2 k x hx
      have h64 := itC_len hxl
      have aY : AggTy Try.prog 54 (itC x).length := by rw [h64]; exact RTr.aI64
      have e1 := neqItem x hxl
      obtain ⟨C, hC⟩ : ∃ C, C = itC x := ⟨_, rfl⟩
      rw [← hC] at hcx hcy aY e1
      clear hx hxl i1 i2 hc1 hc2 h64 hC
      go_wp2_with fail
      refine wp_region_kn wr [] Steady.nil (Kept.refl _ _) (by kernel_rfl) (by kernel_rfl) (by kernel_rfl) ?_
      iterate 3 (refine wpPar_pure rfl (by rfl) _ (fun W hW => by
          go_simp
          exact rfl) ?_; simp only [Act.put, List.setIfInBounds_toArray, List.set_cons_zero, List.set_cons_succ])
      refine wpPar_pure rfl (by rfl) _ (fun W hW => exec_load_at rfl rfl (rangeAt_kept hcx hW) aY) ?_; simp only [Act.put, List.setIfInBounds_toArray, List.set_cons_zero, List.set_cons_succ]
      iterate 3 (refine wpPar_pure rfl (by rfl) _ (fun W hW => by
          go_simp
          exact rfl) ?_; simp only [Act.put, List.setIfInBounds_toArray, List.set_cons_zero, List.set_cons_succ])
      refine wpPar_pure rfl (by rfl) _ (fun W hW => exec_load_at rfl rfl (rangeAt_kept hcy hW) aY) ?_; simp only [Act.put, List.setIfInBounds_toArray, List.set_cons_zero, List.set_cons_succ]
      iterate 1 (refine wpPar_pure rfl (by rfl) _ (fun W hW => by
          go_simp
          exact rfl) ?_; simp only [Act.put, List.setIfInBounds_toArray, List.set_cons_zero, List.set_cons_succ])
      refine wpPar_nil (fun w7 hW hG => ?_)
      have HW := hid (HK.out.trans hW)
      clear hG hW HK e1 hcx hcy
      go_wp2
      go_roundg (n - (k + 1))
      case measure => omega
      case rel => exact ⟨k + 1, by go_num, by omega, Nat.le_refl _, HW⟩
    · have hz : ¬ (k : Int) < (n : Int) := by omega
      go_wp2
      go_ret
      exact ⟨rfl, HK.out⟩

end Tr
end Go.Proofs.Ytglibdggoobocaa
namespace Go.Proofs.Ytglibdggoobocaa
open Go.RowKit Go.Pm
namespace Tr
theorem gHash : ∀ w, (isAgg 52).run Try.prog w = .ok true w := fun _ => by kernel_rfl
theorem sHash : ∀ w, (sizeOf 52).run Try.prog w = .ok 32 w := fun _ => by kernel_rfl
theorem eqIt (x y : It) (hx : x.i.length = 32 ∧ x.v.length = 32) (hy : y.i.length = 32 ∧ y.v.length = 32) (w : World) : (binOp .eql 54 (.agg (itC x).toArray) (.agg (itC y).toArray)).run Try.prog w = .ok (.bool (decide (x = y))) w := by
  have e1 : ∀ z : It, z.i.length = 32 ∧ z.v.length = 32 → (itC z).toArray.extract 0 (0 + 32) = (z.i.map u8v).toArray := fun z hz => by
    rw [List.extract_toArray, List.extract_eq_take_drop]
    simp only [List.drop_zero, Nat.zero_add, Nat.sub_zero]
    rw [show (itC z).take 32 = z.i.map u8v from List.take_left' (by rw [List.length_map]; exact hz.1)]
  have e2 : ∀ z : It, z.i.length = 32 ∧ z.v.length = 32 → (itC z).toArray.extract 32 (32 + 32) = (z.v.map u8v).toArray := fun z hz => by
    rw [List.extract_toArray, List.extract_eq_take_drop]
    rw [show (itC z).drop 32 = z.v.map u8v from List.drop_left' (by rw [List.length_map]; exact hz.1), List.take_of_length_le (by rw [List.length_map]; omega)]
  have hr : (Op.equalIn 10000 54 (.agg (itC x).toArray) (.agg (itC y).toArray)).run Try.prog w = .ok ((x.i == y.i) && ((x.v == y.v) && true)) w := by
    rw [run_equalIn_struct w 9999 54 _ _ uItem hItem]
    refine eqF_step fItem (part_agg gHash sHash) (part_agg gHash sHash) ?_ fun gs h1 => ?_
    · rw [e1 x hx, e1 y hy]
      exact run_equalIn_bytes (P := Try.prog) w 9997 52 5 32 uHash uByte zByte x.i y.i hx.1 hy.1
    · refine eqF_step h1 (part_agg gHash sHash) (part_agg gHash sHash) ?_ fun gs h2 => eqF_nil h2
      rw [e2 x hx, e2 y hy]
      exact run_equalIn_bytes (P := Try.prog) w 9997 52 5 32 uHash uByte zByte x.v y.v hx.2 hy.2
  have hd : ((x.i == y.i) && ((x.v == y.v) && true)) = decide (x = y) := by
    obtain ⟨a, b⟩ := x
    obtain ⟨c, d⟩ := y
    rw [Bool.eq_iff_iff]
    simp
  rw [run_eql_struct, hr, hd]
  rfl
end Tr
end Go.Proofs.Ytglibdggoobocaa
namespace Go.Proofs.Ytglibdggoobocaa
open Go.RowKit Go.Pm
namespace P16
open Dr
theorem full16 (l : List Kno) (p : Int) : ∀ z ∈ setI (itemsF l p), z.i.length = 32 ∧ z.v.length = 32 := full_setI (fun x hx => by
  obtain ⟨y, _, rfl⟩ := List.mem_map.1 hx
  exact itemK_len y)
theorem any_it {l : List It} {k : Nat} (h : k < l.length) (f : It → Bool) : (l.take (k + 1)).any f = ((l.take k).any f || f l[k]) := by
  rw [List.take_succ_eq_append_getElem h, List.any_append]
  simp
set_option maxRecDepth 100000 in
set_option maxHeartbeats 16000000 in
theorem items (hR : RightC) (hL : LatestC) (hA : AddC) (hI : ItemsC) (v : Value) (lo hi : Nat) (l : List UInt8) (ep : Nat) (w : World) (hv : Bs w lo hi v l) (_hep : ep < 256) : Calls Try.prog 6 #[v, .int .u8 (ep : Int)] w fun e w' => e = .returned (.bool true) ∧ Kept None w w' := by
  obtain ⟨a, cap, rfl, q1, q2, q3⟩ := hv.shape
  have HK := hid (known hR hL hA hI w)
  have HV := hid hv
  have HC := hid hI
  clear hv q3 hR hL hA hI
  obtain ⟨P, hP⟩ : ∃ P : Nat, P = ep % 12 := ⟨_, rfl⟩
  have hPP : (ep : Int) % 12 = (P : Int) := by omega
  have hP12 : P < 12 := by omega
  clear hP _hep
  go_enter Try.func6, Try.ntmps6
  go_wp2_with fail
  refine HK.out.mono ?_
  rintro e w0 ⟨rfl, k0⟩
  have K0 := hid k0
  clear k0 HK
  by_cases hl : 20 < l.length
  · have z2 : (20 : Int) < (l.length : Int) := by omega
    have z1 : decide ((20 : Int) < (l.length : Int)) = true := decide_eq_true z2
    go_wp2_with (first | go_skip | fail)
    go_ret
    exact ⟨rfl, K0.out⟩
  · have z2 : ¬ (20 : Int) < (l.length : Int) := by omega
    have z1 : decide ((20 : Int) < (l.length : Int)) = false := decide_eq_false z2
    have HD := hid (Es.directory (.slice a l.length cap) lo hi l w0 (HV.out.kept K0.out (fun _ _ _ h => h)) (by omega))
    have HL := hid (show l.length ≤ 20 by omega)
    clear HV
    go_wp2_with (first | go_skip | fail)
    refine HD.out.mono ?_
    rintro e wd ⟨u, d, rfl, k1, p1, o1, n1⟩
    obtain ⟨ad, cd, hu, _⟩ := p1.form
    rw [knosC_len] at hu
    subst hu
    have K1 := hid (K0.out.trans k1)
    have FA := hid (Facts.of p1 o1 (by have := HL.out; omega))
    have HCH := hid (And.intro o1.rt.chn (six_inj o1.six))
    have HOK := hid o1.ok
    clear k1 p1 o1 n1 HD K0 z1 z2 HL
    obtain ⟨N, hN⟩ : ∃ z, z = d.length := ⟨_, rfl⟩
    rw [← hN] at FA ⊢
    have HN := hid (show N = d.length ∧ N ≤ 1000 from ⟨hN, by rw [hN]; exact FA.out.len⟩)
    clear hN
    have hI1 := HC.out (.slice ad N cd) 0 wd.heap.size d (P : Int) wd (FA.out.ps wd (Kept.refl _ _)) FA.out.rt FA.out.ok (Nat.le_trans FA.out.len (by decide))
    have hfl := fin_len (p := (P : Int)) HCH.out.1 HCH.out.2
    have hlen := len_setI (itemsF d (P : Int))
    have hle2 := itemsF_len d (P : Int)
    have hfi := fun x (hx : x ∈ finL (P : Int) d) => fin_in (p := (P : Int)) HCH.out.1 HCH.out.2 hx
    have hfull : ∀ z ∈ setI (itemsF d (P : Int)), z.i.length = 32 ∧ z.v.length = 32 := full16 _ _
    obtain ⟨IT, hIT⟩ : ∃ z, z = setI (itemsF d (P : Int)) := ⟨_, rfl⟩
    rw [← hIT] at hI1 hfl hlen hfi hfull
    have HI1 := hid hI1
    have HFI := hid hfi
    have HFU := hid hfull
    have HFL := hid (show IT.length = (finL (P : Int) d).length ∧ IT.length ≤ 1000 from ⟨hfl, by have := HN.out; omega⟩)
    clear hI1 hfl hlen hle2 hfi hfull hIT
    go_wp2_with fail
    refine HI1.out.mono ?_
    rintro e w1 ⟨uw, rfl, iw, kw⟩
    obtain ⟨aw, cw, huw, _⟩ := iw.form
    subst huw
    have F1 := hid (fun W (hW : Kept None w1 W) => FA.out.ps W (kw.trans hW))
    have IW := hid iw
    have K1 := hid (K1.out.trans kw)
    obtain ⟨M, hM⟩ : ∃ z, z = IT.length := ⟨_, rfl⟩
    rw [← hM] at HFL IW ⊢
    have HM := hid hM
    clear kw iw HI1 hM FA
    have KR := hid (Kept.refl None w1)
    go_wp2_with fail
    go_loopg [8, 9] N (fun kx s8 s9 wr => ∃ (k C : Nat), s9 = .int .i64 k ∧ s8 = .int .i64 C ∧ k ≤ N ∧ N - k ≤ kx ∧ Hid (Kept None w1 wr) ∧ Hid (C + (finL (P : Int) (d.drop k)).length = M))
    case atStart => exact ⟨0, 0, rfl, rfl, Nat.zero_le _, Nat.le_refl _, KR, hid (by rw [HFL.out.1]; simp)⟩
    case round =>
      obtain ⟨k, C, rfl, rfl, hk, hkx, HW, HCC⟩ := hrel
      by_cases hlt : k < N
      · have hz : (k : Int) < (N : Int) := by omega
        have wk : IntKind.i64.wrap ((k : Int) + 1) = (k : Int) + 1 := by rw [IntKind.wrap_i64]; have := HN.out.2; omega
        have wc : IntKind.i64.wrap ((C : Int) + 1) = (C : Int) + 1 := by rw [IntKind.wrap_i64]; have := HCC.out; have := HFL.out.2; omega
        have kl : k < d.length := by have := HN.out.1; omega
        have hst := fin_at (P : Int) d k kl
        have hmem := fun h => fin_mem (p := (P : Int)) kl h
        have hnb := nextB_at (P : Int) d[k] d k
        obtain ⟨bb, o, q1, hc⟩ := (F1.out wr HW.out).kno (by omega)
        obtain rfl := q1
        have c3 := (hc k kl).2.2.2.1
        have rE := (hc k kl).2.2.2.2.2
        have HCN := hid hc
        have hxm := List.getElem_mem kl
        obtain ⟨X, hX⟩ : ∃ z, z = d[k] := ⟨_, rfl⟩
        rw [← hX] at c3 rE hst hmem hnb
        obtain ⟨⟨xn, xv, xk⟩, xp⟩ := X
        have hbx : bb < wr.heap.size := block_lt_of_cell c3
        have HBX := hid hbx
        have C3 := hid c3
        obtain ⟨B, hB⟩ : ∃ z, z = nextB (P : Int) ⟨⟨xn, xv, xk⟩, xp⟩ (d.drop (k + 1)) := ⟨_, rfl⟩
        have hfb : finB (P : Int) ⟨⟨xn, xv, xk⟩, xp⟩ (d.drop (k + 1)) = (decide (xp ≤ (P : Int)) && !B) := by unfold finB; rw [← hB]
        rw [← hB] at hnb
        rw [hfb] at hst hmem
        have HNB := hid hnb
        have HST := hid hst
        have HME := hid hmem
        have HXM := hid (show (⟨⟨xn, xv, xk⟩, xp⟩ : Kno).e.Ok from by rw [hX]; exact HOK.out _ hxm)
        have rE2 : wr.rangeAt bb (o + k * 4) [.string xn, .int .i64 xv, .int .u64 (xk : Int)] := rE
        have aE : AggTy Try.prog 29 ([.string xn, .int .i64 xv, .int .u64 (xk : Int)] : List Value).length := Es.aEnt16
        clear hc c3 rE hxm hst hmem hnb hB hfb hbx
        go_upto_region 13 with (first | (refine wpList_load_at (.refl _) _ _ rfl rfl rE2 aE ?_) | fail)
        obtain ⟨w2, hw2⟩ : ∃ z, z = wr.alloc (.cells #[.string xn, .int .i64 xv, .int .u64 (xk : Int)] 29) := ⟨_, rfl⟩
        obtain ⟨g7, hg7⟩ : ∃ z, z = wr.heap.size := ⟨_, rfl⟩
        have k2 : Kept None wr w2 := by rw [hw2]; exact (Kept.refl _ _).alloc _
        have b7 : Blk w2 g7 #[.string xn, .int .i64 xv, .int .u64 (xk : Int)] 29 := by rw [hw2, hg7]; exact Blk.new _ _ _
        rw [← hw2, ← hg7]
        have K2 := hid k2
        have B7 := hid b7
        clear hw2 hg7 k2 b7 rE2
        go_cut [11] (fun s11 wx => s11 = .bool B ∧ Hid (Kept None w2 wx))
        case first =>
          have f0 : w2.cell? ⟨g7, 0, none⟩ = some (.string xn) := B7.out.cell 0
          by_cases h1 : k + 1 < N
          · have h1z : (k : Int) + 1 < (N : Int) := by omega
            have h1d : k + 1 < d.length := by have := HN.out.1; omega
            have hnb := HNB.out
            rw [dif_pos h1d] at hnb
            obtain ⟨K1', hK1'⟩ : ∃ z, z = k + 1 := ⟨_, rfl⟩
            have hc2 := HCN.out (k + 1) h1d
            obtain ⟨Y, hY⟩ : ∃ z, z = d[k + 1] := ⟨_, rfl⟩
            rw [← hY] at hnb hc2
            obtain ⟨⟨yn, yv, yk⟩, yp⟩ := Y
            have s0 : w2.cell? ⟨bb, o + K1' * 4, none⟩ = some (.string yn) := (K2.out.cell (p := ⟨bb, o + K1' * 4, none⟩) HBX.out (fun h => h)).trans (by rw [hK1']; exact hc2.1)
            have s3 : w2.cell? ⟨bb, o + K1' * 4 + 3, none⟩ = some (.int .i64 yp) := (K2.out.cell (p := ⟨bb, o + K1' * 4 + 3, none⟩) HBX.out (fun h => h)).trans (by rw [hK1']; exact hc2.2.2.2.1)
            have wk2 : IntKind.i64.wrap ((k : Int) + 1) = (K1' : Int) := by rw [wk]; omega
            have h2z : (K1' : Int) < (N : Int) := by omega
            have h2n : K1' < N := by omega
            clear h1z h1d hc2 hY wk hK1' h1
            obtain ⟨E, hE⟩ : ∃ E, E = eqN yn xn := ⟨_, rfl⟩
            have hE' : (yn.toList == xn.toList) = E := by rw [hE]; rfl
            obtain ⟨Q, hQ⟩ : ∃ Q, Q = decide (yp ≤ (P : Int)) := ⟨_, rfl⟩
            have hQ' := hQ.symm
            have hBB : B = (E && Q) := by rw [hnb, hE, hQ]
            have HBB := hid hBB
            clear hnb hBB hE hQ
            cases E with
            | true =>
              go_quiet (fail)
              have KX := hid (Kept.toDrewN None w2 nq)
              go_wp2_with fail
              go_meet
              exact ⟨by rw [HBB.out]; rfl, KX⟩
            | false =>
              go_quiet (fail)
              have KX := hid (Kept.toDrewN None w2 nq)
              go_wp2_with fail
              go_meet
              exact ⟨by rw [HBB.out]; rfl, KX⟩
          · have h1z : ¬ (k : Int) + 1 < (N : Int) := by omega
            have h1b : decide ((k : Int) + 1 < (N : Int)) = false := decide_eq_false h1z
            have hBB := HNB.out
            rw [dif_neg (by have := HN.out.1; omega)] at hBB
            have HBB := hid hBB
            clear hBB h1
            go_quiet (fail)
            have KX := hid (Kept.toDrewN None w2 nq)
            go_wp2_with fail
            go_meet
            exact ⟨by rw [HBB.out], KX⟩
        case rest =>
          obtain ⟨rfl, hKX⟩ := hcut
          have K3 := hid (K2.out.trans hKX.out)
          have B9 := hid (B7.out.kept hKX.out (fun h => h))
          have c3 : wc.cell? ⟨bb, o + k * 4 + 3, none⟩ = some (.int .i64 xp) := (K3.out.cell (p := ⟨bb, o + k * 4 + 3, none⟩) HBX.out (fun h => h)).trans C3.out
          have KW := hid (HW.out.trans K3.out)
          clear hKX K2 B7 C3 HBX HCN HNB
          by_cases hxp : xp ≤ (P : Int)
          · have hg : decide ((P : Int) < xp) = false := decide_eq_false (by omega)
            have hd := decide_eq_true hxp
            rw [hd] at HST HME
            clear hd
            cases B with
            | true =>
              go_wp2_with (first | go_skip | fail)
              go_roundg (N - (k + 1))
              case measure => omega
              case rel => exact ⟨k + 1, C, by go_num, rfl, by omega, Nat.le_refl _, KW, hid (by have := HCC.out; rw [HST.out] at this; simpa using this)⟩
            | false =>
              have hIN := HFI.out _ (HME.out rfl)
              have HIN := hid hIN
              have HSS := hid (show (finL (P : Int) (d.drop k)).length = 1 + (finL (P : Int) (d.drop (k + 1))).length from by rw [HST.out]; simp; omega)
              have hix : itemK ⟨⟨xn, xv, xk⟩, xp⟩ = ⟨indexH xn, valueH xv xk⟩ := rfl
              rw [hix] at HIN
              obtain ⟨Z, hZ⟩ : ∃ z : It, z = ⟨indexH xn, valueH xv xk⟩ := ⟨_, rfl⟩
              have hz32 : Z.i.length = 32 ∧ Z.v.length = 32 := by rw [hZ]; exact itemK_len ⟨⟨xn, xv, xk⟩, xp⟩
              have hIV := fun W => RTr.item xn xv xk W HXM.out.1 HXM.out.2
              rw [← hZ] at hIV HIN
              have hvz : itemV Z = .agg (itC Z).toArray := by first | rfl | (unfold itemV itC; rw [List.map_append])
              rw [hvz] at hIV
              have HEQ0 := hid (fun (y : It) (hy : y.i.length = 32 ∧ y.v.length = 32) W => Tr.eqIt y Z hy hz32 W)
              obtain ⟨VX, hVX⟩ : ∃ V, V = (itC Z).toArray := ⟨_, rfl⟩
              rw [← hVX] at hIV HEQ0
              have HIV := hid hIV
              have RX0 : Hid (wc.rangeAt g7 0 [.string xn, .int .i64 xv, .int .u64 (xk : Int)]) := hid B9.out.rg
              have KR2 := hid (Kept.refl None wc)
              clear hIN hix hZ hz32 hIV hvz hVX HST HME
              go_wp2_with (first | go_skip | fail)
              go_loopg [12, 13] M (fun kx s12 s13 wr2 => ∃ (j : Nat) (O : Bool), s13 = .int .i64 j ∧ s12 = .bool O ∧ j ≤ M ∧ M - j ≤ kx ∧ Hid (Kept None wc wr2) ∧ Hid ((IT.take j).any (fun z => decide (z = Z)) = O))
              case atStart => exact ⟨0, false, rfl, rfl, Nat.zero_le _, Nat.le_refl _, KR2, hid rfl⟩
              case round =>
                obtain ⟨j, O, rfl, rfl, hj, hjx, HQ, HO⟩ := hrel
                obtain ⟨wr2, hwr2⟩ : ∃ z, z = wr := ⟨_, rfl⟩
                rw [← hwr2] at HQ ⊢
                clear hwr2
                by_cases hjl : j < M
                · have hjz : (j : Int) < (M : Int) := by omega
                  have wj : IntKind.i64.wrap ((j : Int) + 1) = (j : Int) + 1 := by rw [IntKind.wrap_i64]; have := HFL.out.2; omega
                  have jl : j < IT.length := by have := HM.out; omega
                  have hsn := any_it jl (fun z => decide (z = Z))
                  rw [HO.out] at hsn
                  cases O with
                  | true =>
                    have HSN := hid hsn
                    clear hsn
                    go_upto_region 20 with fail
                    have hs : Steady [] := Go.Pm.Steady.nil
                    refine wp_region_kn wr2 _ hs (Kept.refl _ _) (by kernel_rfl) (by kernel_rfl) (by kernel_rfl) ?_
                    iterate 2 (refine wpPar_pure rfl (by rfl) _ (fun W hW => by
                        skip
                        go_simp
                        exact rfl) ?_; simp only [Act.put, List.setIfInBounds_toArray, List.set_cons_zero, List.set_cons_succ])
                    refine wpPar_skip (by kernel_rfl) ?_; simp only [Act.put, List.setIfInBounds_toArray, List.set_cons_zero, List.set_cons_succ]
                    refine wpPar_skip (by kernel_rfl) ?_; simp only [Act.put, List.setIfInBounds_toArray, List.set_cons_zero, List.set_cons_succ]
                    refine wpPar_skip (by kernel_rfl) ?_; simp only [Act.put, List.setIfInBounds_toArray, List.set_cons_zero, List.set_cons_succ]
                    refine wpPar_skip (by kernel_rfl) ?_; simp only [Act.put, List.setIfInBounds_toArray, List.set_cons_zero, List.set_cons_succ]
                    refine wpPar_skip (by kernel_rfl) ?_; simp only [Act.put, List.setIfInBounds_toArray, List.set_cons_zero, List.set_cons_succ]
                    refine wpPar_skip (by kernel_rfl) ?_; simp only [Act.put, List.setIfInBounds_toArray, List.set_cons_zero, List.set_cons_succ]
                    refine wpPar_skip (by kernel_rfl) ?_; simp only [Act.put, List.setIfInBounds_toArray, List.set_cons_zero, List.set_cons_succ]
                    iterate 2 (refine wpPar_pure rfl (by rfl) _ (fun W hW => by
                        skip
                        go_simp
                        exact rfl) ?_; simp only [Act.put, List.setIfInBounds_toArray, List.set_cons_zero, List.set_cons_succ])
                    refine wpPar_nil (fun w6 hW hG => ?_)
                    have KQ := hid (HQ.out.trans hW)
                    clear hW hG
                    go_wp2_with fail
                    go_roundg (M - (j + 1))
                    case measure => omega
                    case rel => exact ⟨j + 1, true, by go_num, rfl, by omega, Nat.le_refl _, KQ, hid (by rw [HSN.out]; rfl)⟩
                  | false =>
                    obtain ⟨Y, hY⟩ : ∃ x, IT[j]? = some x := ⟨_, List.getElem?_eq_getElem jl⟩
                    have hYe : IT[j] = Y := Option.some.inj ((List.getElem?_eq_getElem jl).symm.trans hY)
                    rw [hYe] at hsn
                    have hyl := HFU.out Y (List.mem_of_getElem? hY)
                    obtain ⟨b1, o1, q1, _, _, _, hc1⟩ := (IW.out.kept (KW.out.trans HQ.out) (fun _ _ _ h => h)).ne (by omega)
                    obtain rfl := q1
                    have hcx := hc1 j Y hY
                    have h64 := itC_len hyl
                    have aI : AggTy Try.prog 54 (itC Y).length := by rw [h64]; exact RTr.aI64
                    have he := HEQ0.out Y hyl
                    obtain ⟨E, hE⟩ : ∃ E, E = decide (Y = Z) := ⟨_, rfl⟩
                    rw [← hE] at he hsn
                    obtain ⟨CC, hCC⟩ : ∃ C, C = itC Y := ⟨_, rfl⟩
                    rw [← hCC] at hcx aI he
                    have HEQ := hid he
                    have HSN := hid hsn
                    have RI := hid hcx
                    have RX := hid (rangeAt_kept RX0.out HQ.out)
                    have aE : AggTy Try.prog 29 ([.string xn, .int .i64 xv, .int .u64 (xk : Int)] : List Value).length := Es.aEnt16
                    clear hY hYe hyl hc1 hcx h64 he hE hCC hsn
                    go_upto_region 20 with fail
                    have hs : Steady [.val 7 (.agg VX)] := Go.Pm.Steady.val (Go.Pm.Steady.nil)
                    refine wp_region_kn wr2 _ hs (Kept.refl _ _) (by kernel_rfl) (by kernel_rfl) (by kernel_rfl) ?_
                    iterate 2 (refine wpPar_pure rfl (by rfl) _ (fun W hW => by
                        have he := HEQ.out
                        go_simp
                        exact rfl) ?_; simp only [Act.put, List.setIfInBounds_toArray, List.set_cons_zero, List.set_cons_succ])
                    refine wpPar_pure rfl (by kernel_rfl) _ (fun W hW => by
                        have he := HEQ.out
                        go_simp
                        exact rfl) ?_; simp only [Act.put, List.setIfInBounds_toArray, List.set_cons_zero, List.set_cons_succ]
                    refine wpPar_pure rfl (by kernel_rfl) _ (fun W hW => by
                        have he := HEQ.out
                        go_simp
                        exact rfl) ?_; simp only [Act.put, List.setIfInBounds_toArray, List.set_cons_zero, List.set_cons_succ]
                    refine wpPar_pure rfl (by kernel_rfl) _ (fun W hW => by
                        have he := HEQ.out
                        go_simp
                        exact rfl) ?_; simp only [Act.put, List.setIfInBounds_toArray, List.set_cons_zero, List.set_cons_succ]
                    refine wpPar_pure rfl (by kernel_rfl) _ (fun W hW => by first | exact exec_load_at rfl rfl (rangeAt_kept RI.out hW) aI | exact exec_load_at rfl rfl (rangeAt_kept RX.out hW) aE | (have he := HEQ.out; go_simp; exact rfl)) ?_; simp only [Act.put, List.setIfInBounds_toArray, List.set_cons_zero, List.set_cons_succ]
                    refine wpPar_pure rfl (by kernel_rfl) _ (fun W hW => by first | exact exec_load_at rfl rfl (rangeAt_kept RI.out hW) aI | exact exec_load_at rfl rfl (rangeAt_kept RX.out hW) aE | (have he := HEQ.out; go_simp; exact rfl)) ?_; simp only [Act.put, List.setIfInBounds_toArray, List.set_cons_zero, List.set_cons_succ]
                    refine wpKn_adds hs rfl (by kernel_rfl) (fun W hW hd => ?_) (fun v7 hv => ?_)
                    · unfold Gives
                      go_simp
                      refine gives_call (HIV.out W) ?_
                      rintro e w3 ⟨rfl, k3⟩
                      exact ⟨_, rfl, k3, rfl, trivial⟩
                    obtain rfl : v7 = .agg VX := hv
                    simp only [Act.put, List.setIfInBounds_toArray, List.set_cons_zero, List.set_cons_succ]
                    refine wpPar_pure rfl (by kernel_rfl) _ (fun W hW => by
                        have he := HEQ.out
                        go_simp
                        exact rfl) ?_; simp only [Act.put, List.setIfInBounds_toArray, List.set_cons_zero, List.set_cons_succ]
                    iterate 2 (refine wpPar_pure rfl (by rfl) _ (fun W hW => by
                        have he := HEQ.out
                        go_simp
                        exact rfl) ?_; simp only [Act.put, List.setIfInBounds_toArray, List.set_cons_zero, List.set_cons_succ])
                    refine wpPar_nil (fun w6 hW hG => ?_)
                    have KQ := hid (HQ.out.trans hW)
                    clear hW hG
                    go_wp2_with fail
                    go_roundg (M - (j + 1))
                    case measure => omega
                    case rel => exact ⟨j + 1, E, by go_num, rfl, by omega, Nat.le_refl _, KQ, hid (by rw [HSN.out]; rfl)⟩
                · have hjz : ¬ (j : Int) < (M : Int) := by omega
                  have hOt : O = true := by
                    rw [← HO.out, List.take_of_length_le (by have := HM.out; omega), List.any_eq_true]
                    exact ⟨Z, HIN.out, by simp⟩
                  subst hOt
                  have KQ := hid (KW.out.trans HQ.out)
                  clear HO HQ
                  go_wp2_with (first | go_skip | fail)
                  go_roundg (N - (k + 1))
                  case measure => omega
                  case rel => exact ⟨k + 1, C + 1, by go_num, by go_num, by omega, Nat.le_refl _, KQ, hid (by have := HCC.out; rw [HSS.out] at this; omega)⟩
          · have hg : decide ((P : Int) < xp) = true := decide_eq_true (by omega)
            have hd := decide_eq_false hxp
            rw [hd] at HST
            clear hd
            go_wp2_with (first | go_skip | fail)
            go_roundg (N - (k + 1))
            case measure => omega
            case rel => exact ⟨k + 1, C, by go_num, rfl, by omega, Nat.le_refl _, KW, hid (by have := HCC.out; rw [HST.out] at this; simpa using this)⟩
      · have hz : ¬ (k : Int) < (N : Int) := by omega
        have hCM : C = M := by
          have := HCC.out
          rw [List.drop_of_length_le (by have := HN.out.1; omega)] at this
          simpa [finL] using this
        subst hCM
        have KZ := hid (K1.out.trans HW.out)
        clear HCC HW
        go_wp2_with fail
        go_ret
        exact ⟨by simp, KZ.out⟩
end P16
end Go.Proofs.Ytglibdggoobocaa
namespace Go.Proofs.Ytglibdggoobocaa
open Go.ChangeShapes Go.WideShapes Go.ChangeAt Go.RowKit Go.Pm

theorem laidOut : laidOutB Try.prog = true := by kernel_rfl
theorem ownKnobs : ownKnob Try.prog.godebug = none := by kernel_rfl
theorem rBool : Try.prog.underlying 4 = some .bool := by kernel_rfl
theorem rU8 : Try.prog.underlying 5 = some (.int .u8) := by kernel_rfl
theorem cByte : Try.prog.cellsOf 5 = 1 := by kernel_rfl

set_option maxRecDepth 100000 in
theorem directoryItems_lifted (os : Os) (started : os.Started) (H : Type) (enc : TypeId × Value → H) :
    ReturnsInHanded {} Try.checked os 6 .any (Rows.directoryItemsSpec.pre6 enc Try.prog Try.f6 Rows.directoryItemsRow.domain false) (Rows.directoryItemsSpec.post enc Try.prog Try.f6 false true false false) := by
  refine returnsInHanded_of_change (C := Try.checked) ownKnobs started (by kernel_rfl) Try.func6
    (ChangeSpec.witness6 (enc := enc) (C := Try.checked) false ⟨#[], #[.slice none 0 0, .int .u8 0], []⟩ 8 (by kernel_rfl) (by kernel_rfl) (by kernel_rfl) (by kernel_rfl)) ?_
  intro W base args ds gs before hval0 hW _ _
  have hval : ∀ (j : Nat) t v, Try.f6.params[j]? = some t → args[j]? = some v → Value.okWide Try.prog W .any base t v := hval0
  have hlt : ∀ x ∈ before, x.block < W.heap.size := fun x hx => by simpa using hW.lt x hx
  have hW' := hW
  obtain ⟨p, q, hA0, hV, rfl, hfz, hnd⟩ := hW
  obtain ⟨rfl, rfl⟩ := trodVars_none hV
  have hA : DataW.TrodAll enc Try.prog W 0 (fun _ => true) true Try.f6.params.toList args.toList ds p := hA0
  rw [Try.params6] at hA hval
  obtain ⟨v0, v1, d0, d1, p0, p1, rfl, rfl, rfl, h0, h1⟩ := trodAll_two hA
  obtain ⟨l, hl⟩ := openBs tBytes' tByte cByte (hval 0 22 v0 rfl rfl) h0 (fun x hx => hlt x (by simp [hx]))
  obtain ⟨epoch, rfl, b1⟩ := openNat_u8 rU8 (hval 1 5 v1 rfl rfl) h1
  refine (P16.items Dr.right Dr.latest Dr.add Dr.items v0 _ _ l epoch W hl b1).mono fun e W' ⟨he, hk⟩ => ?_
  subst he
  exact ⟨_, rfl, law_post (P := Try.prog) (f := Try.f6) rfl rfl rBool laidOut (by kernel_rfl) hW' rfl rfl rfl (hk.below (fun _ _ h => h))⟩

theorem directoryItems_holds : Rows.DirectoryItemsSaid :=
  OpenClaim.holds_of_wide 6 Try.f6 rfl rfl rfl rfl rfl rfl rfl ⟨rfl, rfl, rfl, rfl, rfl⟩ rfl rfl rfl rfl rfl (by kernel_rfl) Try.func6 (by kernel_rfl)
    (of_decide_eq_true (by kernel_rfl)) (by unfold Func.isWrapper; first | (rw [if_pos (by decide +kernel)]; kernel_rfl) | (rw [if_neg (by decide +kernel)]; exact ⟨rfl, rfl⟩))
    (fun os started H enc _ => directoryItems_lifted os started H enc)
end Go.Proofs.Ytglibdggoobocaa
