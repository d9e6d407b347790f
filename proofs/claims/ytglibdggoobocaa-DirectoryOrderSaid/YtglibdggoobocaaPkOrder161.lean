/- Rows.DirectoryOrderSaid: a batch comes to the same in whatever order its entries stand. No condition. -/
import Derived.Test.YtglibdggoobocaaPk4
import Derived.Deep.LoopGhost
import Derived.Test.YtglibdggoobocaaPk5
import Derived.Test.YtglibdggoobocaaRows
import Derived.Test.YtglibdggoobocaaPk6
import Derived.Test.YtglibdggoobocaaPk8
namespace Go.Proofs.Ytglibdggoobocaa
open Go.RowKit Go.Pm
namespace Tr
theorem uItem : Try.prog.underlying 54 = some (.struct (Try.prog.fieldsOf 54)) := by kernel_rfl
theorem fItem : (Try.prog.fieldsOf 54).toList.map (fun f => (f.name == "_", f.type, f.offset)) = [(false, 52, 0), (false, 52, 32)] := by kernel_rfl
theorem hItem : Try.prog.stoodInHeld 54 = false := by kernel_rfl
theorem eqFields_two {P : Program} {w : World} {xs ys : Array Value} {t : TypeId} {d : Nat} : ∀ {fs : List Field}, fs.map (fun f => (f.name == "_", f.type, f.offset)) = [(false, t, 0), (false, t, 32)] → (∀ w, (isAgg t).run P w = .ok true w) → (∀ w, (sizeOf t).run P w = .ok 32 w) →
    (Op.equalIn d t (.agg (xs.extract 0 32)) (.agg (ys.extract 0 32))).run P w = .ok true w → (Op.equalIn d t (.agg (xs.extract 32 64)) (.agg (ys.extract 32 64))).run P w = .ok true w → (Op.eqFields d xs ys fs).run P w = .ok true w
  | [f, g], h, ha, hs, h1, h2 => by
    simp only [List.map_cons, List.map_nil, List.cons.injEq, Prod.mk.injEq, and_true, beq_eq_false_iff_ne] at h
    obtain ⟨⟨f1, f2, f3⟩, g1, g2, g3⟩ := h
    simp only [Op.eqFields, f1, g1, ne_eq, not_false_eq_true, if_true, part, f2, f3, g2, g3, Sem.run_bind, ha, hs, Result.andThen_ok, Sem.run_pure, Nat.zero_add, h1, h2, Bool.not_true, Bool.false_eq_true, if_false]
  | [], h, _, _, _, _ => by simp at h
  | [_], h, _, _, _, _ => by simp at h
  | _ :: _ :: _ :: _, h, _, _, _, _ => by simp at h
/-- An item isn't unlike itself. -/
theorem neqItem (x : It) (hx : x.i.length = 32 ∧ x.v.length = 32) (w : World) : (binOp .neq 54 (.agg (itC x).toArray) (.agg (itC x).toArray)).run Try.prog w = .ok (.bool false) w := by
  rw [run_neq_struct, run_equalIn_struct w 9999 54 _ _ uItem hItem]
  have e1 : (itC x).toArray.extract 0 32 = (x.i.map u8v).toArray := by
    rw [List.extract_toArray, List.extract_eq_take_drop]
    simp only [List.drop_zero, Nat.sub_zero]
    rw [show (itC x).take 32 = x.i.map u8v from List.take_left' (by rw [List.length_map]; exact hx.1)]
  have e2 : (itC x).toArray.extract 32 64 = (x.v.map u8v).toArray := by
    rw [List.extract_toArray, List.extract_eq_take_drop]
    rw [show (itC x).drop 32 = x.v.map u8v from List.drop_left' (by rw [List.length_map]; exact hx.1), List.take_of_length_le (by rw [List.length_map]; omega)]
  rw [eqFields_two (t := 52) fItem Try.isAgg52 Try.sizeOf52]
  · rfl
  · rw [e1]
    have h := run_equalIn_bytes (P := Try.prog) w 9997 52 5 32 uHash uByte zByte x.i x.i hx.1 hx.1
    rw [beq_self_eq_true] at h
    exact h
  · rw [e2]
    have h := run_equalIn_bytes (P := Try.prog) w 9997 52 5 32 uHash uByte zByte x.v x.v hx.2 hx.2
    rw [beq_self_eq_true] at h
    exact h
set_option maxRecDepth 100000 in
set_option maxHeartbeats 4000000 in
/-- postmarkhelp.Items: the same items are the same. -/
theorem same (va vb : Value) (lo hi lo' hi' : Nat) (l : List It) (w : World) (ha : Its w lo hi va l) (hb : Its w lo' hi' vb l) (hl : l.length ≤ 1099511627776) : Calls Try.prog 21 #[va, vb] w fun e w' => e = .returned (.bool true) ∧ Kept None w w' := by
  obtain ⟨a1, c1, rfl, p1, p2, _⟩ := ha.form
  obtain ⟨a2, c2, rfl, p3, p4, _⟩ := hb.form
  have p2' : c1 ≤ 9223372036854775807 := p2
  have p4' : c2 ≤ 9223372036854775807 := p4
  obtain ⟨n, hn⟩ : ∃ n, n = l.length := ⟨_, rfl⟩
  rw [← hn] at ha hb hl p1 p3 ⊢
  have HA := hid ha
  have HB := hid hb
  have HN := hid hn
  clear ha hb hn p2 p4
  go_enter Try.func21, Try.ntmps21
  go_wp2
  go_loopg [5] n (fun kx s5 wr => ∃ k : Nat, s5 = .int .i64 k ∧ k ≤ n ∧ n - k ≤ kx ∧ Hid (Kept None w wr))
  case atStart => exact ⟨0, rfl, Nat.zero_le _, Nat.le_refl _, Kept.refl _ _⟩
  case round =>
    obtain ⟨k, rfl, hk, hkx, HK⟩ := hrel
    by_cases hlt : k < n
    · have hz : (k : Int) < (n : Int) := by omega
      obtain ⟨x, hx⟩ : ∃ x, l[k]? = some x := ⟨_, List.getElem?_eq_getElem (by have := HN.out; omega)⟩
      have hxl := HA.out.1 x (List.mem_of_getElem? hx)
      have i1 := HA.out.kept HK.out (fun _ _ _ h => h)
      have i2 := HB.out.kept HK.out (fun _ _ _ h => h)
      obtain ⟨b1, o1, h1, _, _, _, hc1⟩ := i1.ne (by have := HN.out; omega)
      obtain ⟨b2, o2, h2, _, _, _, hc2⟩ := i2.ne (by have := HN.out; omega)
      obtain rfl := h1
      obtain rfl := h2
      have hcx := hc1 k x hx
      have hcy := hc2 k x hx
      have h64 := itC_len hxl
      have aY : AggTy Try.prog 54 (itC x).length := by rw [h64]; exact RTr.aI64
      have e1 := neqItem x hxl
      obtain ⟨C, hC⟩ : ∃ C, C = itC x := ⟨_, rfl⟩
      rw [← hC] at hcx hcy aY e1
      clear hx hxl i1 i2 hc1 hc2 h64 hC
      go_wp2_with fail
      refine wp_region_kn wr [] Steady.nil (Kept.refl _ _) (by kernel_rfl) (by kernel_rfl) (by kernel_rfl) ?_
      iterate 3 (refine wpPar_pure rfl (by rfl) _ (fun W hW => by
          go_simp
          exact rfl) ?_; simp only [Act.put, List.setIfInBounds_toArray, List.set_cons_zero, List.set_cons_succ])
      refine wpPar_pure rfl (by rfl) _ (fun W hW => exec_load_at rfl rfl (rangeAt_kept hcx hW) aY) ?_; simp only [Act.put, List.setIfInBounds_toArray, List.set_cons_zero, List.set_cons_succ]
      iterate 3 (refine wpPar_pure rfl (by rfl) _ (fun W hW => by
          go_simp
          exact rfl) ?_; simp only [Act.put, List.setIfInBounds_toArray, List.set_cons_zero, List.set_cons_succ])
      refine wpPar_pure rfl (by rfl) _ (fun W hW => exec_load_at rfl rfl (rangeAt_kept hcy hW) aY) ?_; simp only [Act.put, List.setIfInBounds_toArray, List.set_cons_zero, List.set_cons_succ]
      iterate 1 (refine wpPar_pure rfl (by rfl) _ (fun W hW => by
          go_simp
          exact rfl) ?_; simp only [Act.put, List.setIfInBounds_toArray, List.set_cons_zero, List.set_cons_succ])
      refine wpPar_nil (fun w7 hW hG => ?_)
      have HW := hid (HK.out.trans hW)
      clear hG hW HK e1 hcx hcy
      go_wp2
      go_roundg (n - (k + 1))
      case measure => omega
      case rel => exact ⟨k + 1, by go_num, by omega, Nat.le_refl _, HW⟩
    · have hz : ¬ (k : Int) < (n : Int) := by omega
      go_wp2
      go_ret
      exact ⟨rfl, HK.out⟩

end Tr
end Go.Proofs.Ytglibdggoobocaa
namespace Go.Pm
open Go Go.RowKit
/-- So many of a row that is turned. -/
def turned (b : List Ent) (t : Nat) : List Ent := b.drop (t % b.length) ++ b.take (t % b.length)
theorem turned_perm (b : List Ent) (t : Nat) : (turned b t).Perm b := List.perm_append_comm.trans (by rw [List.take_append_drop])
theorem turned_len (b : List Ent) (t : Nat) : (turned b t).length = b.length := (turned_perm b t).length_eq
theorem turned_at (b : List Ent) (t i : Nat) (h : i < b.length) : (turned b t)[i]? = b[(i + t) % b.length]? := by
  have hr : t % b.length < b.length := Nat.mod_lt _ (by omega)
  have e : (i + t) % b.length = (i + t % b.length) % b.length := by rw [Nat.add_mod, Nat.add_mod i (t % b.length), Nat.mod_mod]
  unfold turned
  rw [e]
  generalize t % b.length = r at hr ⊢
  by_cases hi : i < b.length - r
  · rw [List.getElem?_append_left (by rw [List.length_drop]; exact hi), List.getElem?_drop, Nat.mod_eq_of_lt (by omega), Nat.add_comm]
  · rw [List.getElem?_append_right (by rw [List.length_drop]; omega), List.length_drop, List.getElem?_take, if_pos (by omega), Nat.mod_eq_sub_mod (by omega), Nat.mod_eq_of_lt (by omega)]
    congr 1
    omega
theorem turned_take (b : List Ent) (t i : Nat) (h : i < b.length) : (turned b t).take (i + 1) = (turned b t).take i ++ [b[(i + t) % b.length]'(Nat.mod_lt _ (by omega))] := by
  rw [take_one _ i (by rw [turned_len]; exact h)]
  congr 2
  have := turned_at b t i h
  rw [List.getElem?_eq_getElem (by rw [turned_len]; exact h), List.getElem?_eq_getElem (Nat.mod_lt _ (by omega))] at this
  exact Option.some.inj this
end Go.Pm
namespace Go.Proofs.Ytglibdggoobocaa
open Go.RowKit Go.Pm
namespace P16
open Dr
set_option maxRecDepth 100000 in
set_option maxHeartbeats 16000000 in
theorem order (hR : RightC) (hL : LatestC) (hA : AddC) (hI : ItemsC) (v vk : Value) (lo hi lo' hi' : Nat) (l ks : List UInt8) (tn : Nat) (w : World) (hv : Bs w lo hi v l) (hvk : Bs w lo' hi' vk ks) (htn : tn < 256) : Calls Try.prog 7 #[v, vk, .int .u8 tn] w fun e w' => e = .returned (.bool true) ∧ Kept None w w' := by
  obtain ⟨a, cap, rfl, q1, q2, q3⟩ := hv.shape
  obtain ⟨ak, ck, rfl, r1, r2, r3⟩ := hvk.shape
  have HK := hid (known hR hL hA hI w)
  have HV := hid hv
  have HVK := hid hvk
  have HC := hid (And.intro hA hI)
  have HTN := hid htn
  clear hv q3 hvk r3 hR hL hA hI htn
  go_enter Try.func7, Try.ntmps7
  go_wp2_with fail
  refine HK.out.mono ?_
  rintro e w0 ⟨rfl, k0⟩
  have K0 := hid k0
  clear k0 HK
  by_cases hl : 20 < l.length
  · have z2 : (20 : Int) < (l.length : Int) := by omega
    have z1 : decide ((20 : Int) < (l.length : Int)) = true := decide_eq_true z2
    go_wp2_with (first | go_skip | fail)
    go_ret
    exact ⟨rfl, K0.out⟩
  · have z2 : ¬ (20 : Int) < (l.length : Int) := by omega
    have z1 : decide ((20 : Int) < (l.length : Int)) = false := decide_eq_false z2
    by_cases hm : 8 < ks.length
    · have y2 : (8 : Int) < (ks.length : Int) := by omega
      have y1 : decide ((8 : Int) < (ks.length : Int)) = true := decide_eq_true y2
      go_wp2_with (first | go_skip | fail)
      go_ret
      exact ⟨rfl, K0.out⟩
    · have y2 : ¬ (8 : Int) < (ks.length : Int) := by omega
      have y1 : decide ((8 : Int) < (ks.length : Int)) = false := decide_eq_false y2
      have HD := hid (Es.directory (.slice a l.length cap) lo hi l w0 (HV.out.kept K0.out (fun _ _ _ h => h)) (by omega))
      have HL := hid (show l.length ≤ 20 by omega)
      clear HV
      go_wp2_with (first | go_skip | fail)
      refine HD.out.mono ?_
      rintro e w1 ⟨u, d, rfl, k1, p1, o1, n1⟩
      obtain ⟨ad, cd, hu, _⟩ := p1.form
      rw [knosC_len] at hu
      subst hu
      have K1 := hid (K0.out.trans k1)
      have FA := hid (Facts.of p1 o1 (by have := HL.out; omega))
      obtain ⟨M, hM⟩ : ∃ z, z = ks.length := ⟨_, rfl⟩
      have hvk2 := HVK.out.kept K1.out (fun _ _ _ h => h)
      rw [← hM] at hvk2 ⊢
      have HKS := hid (And.intro hvk2 hM)
      clear hvk2
      have HM := hid (show M ≤ 8 by omega)
      clear k1 p1 o1 n1 HD K0 z1 z2 y1 y2 HL hM HVK
      have KR := hid (Kept.refl None w1)
      have P0 : Hid (Po 3 29 w1 w1.heap.size (.slice none 0 0) (entsC [])) := hid (Po.nil ..)
      go_wp2
      go_loopg [8, 9] M (fun kx s8 s9 wr => ∃ (i : Nat) (ab : Option Addr) (nb cb : Nat) (b : List Ent), s9 = .int .i64 i ∧ s8 = .slice ab nb cb ∧ i ≤ M ∧ M - i ≤ kx ∧ Hid (Kept None w1 wr) ∧ Hid (Po 3 29 wr w1.heap.size (.slice ab nb cb) (entsC b)) ∧ Hid (EntSix b ∧ b.length ≤ i))
      case atStart => exact ⟨0, none, 0, 0, [], rfl, rfl, Nat.zero_le _, Nat.le_refl _, KR, P0, hid ⟨(fun _ h => by cases h), Nat.le_refl _⟩⟩
      case round =>
        obtain ⟨i, ab, nb, cb, b, rfl, rfl, hiM, hkx, HW, HP, HB⟩ := hrel
        by_cases hlt : i < M
        · have hz : (i : Int) < (M : Int) := by omega
          have wi : IntKind.i64.wrap ((i : Int) + 1) = (i : Int) + 1 := by rw [IntKind.wrap_i64]; have := HM.out; omega
          have HL := hid (show i < 1000 by have := HM.out; omega)
          obtain ⟨bb, oo, qa, _, _, hbb, hc⟩ := HKS.out.1.ne (by have := HKS.out.2; omega)
          obtain rfl := qa
          have cw := hc i (by have := HKS.out.2; omega)
          obtain ⟨x, hx, hx256⟩ : ∃ x : Nat, bAt ks i = (x : Int) ∧ x < 256 := ⟨(bAt ks i).toNat, by have := bAt_ge ks i; omega, by have := bAt_lt ks i; omega⟩
          rw [hx] at cw
          have HC0 : Hid (∀ W, Kept None w1 W → W.cell? ⟨bb, oo + i, none⟩ = some (.int .u8 (x : Int))) := hid (fun W hW => (hW.cell (p := ⟨bb, oo + i, none⟩) hbb (fun h => h)).trans cw)
          have c0 := HC0.out wr HW.out
          have HBB := hid hbb
          clear hc hx hx256 hbb cw
          go_wp2_with fail
          refine (Es.name6 x _).mono ?_
          rintro e w3 ⟨nm, rfl, _, k3⟩
          have K3 := hid (HW.out.trans k3)
          have hLat := R16.latest (.slice ad d.length cd) 0 w1.heap.size d nm w3 (FA.out.ps w3 K3.out) (Nat.le_trans FA.out.len (by decide))
          obtain ⟨X, hX⟩ : ∃ X, X = latF d nm := ⟨_, rfl⟩
          rw [← hX] at hLat
          have HLA := hid hLat
          clear hLat hX c0
          go_wp2_with fail
          refine HLA.out.mono ?_
          rintro e w4 ⟨rfl, k4⟩
          have K4 := hid (K3.out.trans k4)
          have P4 := hid (HP.out.kept (k3.trans k4) (fun _ _ h => h))
          have c4 := HC0.out w4 K4.out
          clear k3 K3 HLA
          go_upto_region 11 with fail
          obtain ⟨w9, hw9⟩ : ∃ W, W = w4.alloc (.cells #[.string X.1.e.n, .int .i64 X.1.e.v, .int .u64 (X.1.e.k : Int), .int .i64 X.1.p] 31) := ⟨_, rfl⟩
          obtain ⟨g5, hg5⟩ : ∃ g, g = w4.heap.size := ⟨_, rfl⟩
          have kA : Kept None w4 w9 := by rw [hw9]; exact (Kept.refl _ _).alloc _
          have x5 : Blk w9 g5 #[.string X.1.e.n, .int .i64 X.1.e.v, .int .u64 (X.1.e.k : Int), .int .i64 X.1.p] 31 := by rw [hw9, hg5]; exact Blk.new _ _ _
          rw [← hw9, ← hg5]
          have L5 : Hid (∀ q, (Value.slice ab nb cb).ownBlock = some q → w1.heap.size ≤ q ∧ q < g5) := hid (fun q h => by rw [hg5]; exact P4.out.own q h)
          have K9 := hid (K4.out.trans kA)
          have P9 := hid (P4.out.kept kA (fun _ _ h => h))
          have X5 := hid x5
          obtain ⟨VV, hVV⟩ : ∃ z, z = IntKind.i64.wrap (X.1.e.v + 1) := ⟨_, rfl⟩
          have HVV := hid hVV.symm
          clear hw9 hg5 kA x5 c4 k4 K4 P4 hVV
          have C9 : w9.cell? ⟨bb, oo + i, none⟩ = some (.int .u8 (x : Int)) := HC0.out w9 K9.out
          have HBY := hid (fun W (hW : Kept (fun q => (Value.slice ab nb cb).ownBlock = some q) w9 W) => (hW.cell (p := ⟨bb, oo + i, none⟩) (Nat.lt_of_lt_of_le HBB.out K9.out.size) (fun h => by have := (L5.out bb h).1; have := HBB.out; omega)).trans C9)
          have HC := hid (fun W (hW : Kept (fun q => (Value.slice ab nb cb).ownBlock = some q) w9 W) => ((X5.out.kept hW (fun h => by have := (L5.out _ h).2; omega)).cell 1).trans (show _ = some (Value.int .i64 X.1.e.v) from rfl))
          have HBL := hid (show b.length ≤ 1000 by have := HB.out.2; have := HL.out; omega)
          have HZ9 := hid K9.out.size
          clear C9
          refine wp_region_plan (Kept (fun q => (Value.slice ab nb cb).ownBlock = some q) w9) [{ k := 9, uses := [], pure := fun u => ∃ s, ∃ k : Nat, u = entV s VV k ∧ s ∈ sixN ∧ k < 18446744073709551616 }, { k := 10, uses := [], pure := fun u => ∃ g, u = .slice (some ⟨g, 0, none⟩) 1 1, fact := fun u W => ∃ g, u = .slice (some ⟨g, 0, none⟩) 1 1 ∧ ∃ e : Ent, (e.Ok ∧ e.n ∈ sixN) ∧ Blk W g (entC e).toArray 29 }, { k := 11, uses := [10, 100], spends := [10, 100], pure := fun u => ∃ a n c, u = .slice a n c, fact := fun u W => ∃ e : Ent, (e.Ok ∧ e.n ∈ sixN) ∧ Po 3 29 W w1.heap.size u (entsC (b ++ [e])) }, { k := 100, uses := [], fact := fun u W => Po 3 29 W w1.heap.size (.slice ab nb cb) (entsC b) }] [100] (by kernel_rfl) (by kernel_rfl) (by kernel_rfl) (by rfl) ?pures ((Kept.refl _ w9).drew) ?starts ?walk
          case pures =>
            intro f hf
            simp only [List.mem_cons, List.not_mem_nil, or_false] at hf
            rcases hf with rfl | rfl | rfl | rfl
            · exact ⟨_, ⟨#[97]⟩, 0, rfl, by simp [sixN], by decide⟩
            · exact ⟨_, 0, rfl⟩
            · exact ⟨_, none, 0, 0, rfl⟩
            · exact ⟨undef, trivial⟩
          case starts =>
            intro k hk
            have hk : k = 100 := by simpa using hk
            subst hk
            exact P9.out.kept ((Kept.refl None w9).drew) (fun _ _ h => h)
          iterate 9 (refine wpPar_pure rfl (by rfl) _ (fun W hW => by
              have b1 := HBY.out W hW
              have c1 := HC.out W hW
              have q := HVV.out
              go_simp
              exact rfl) ?_; simp only [Act.put, List.setIfInBounds_toArray, List.set_cons_zero, List.set_cons_succ])
          refine wpPar_adds rfl (by rfl) (fun W hW hd => ?_) (fun v11 hv => ?_)
          · unfold Gives
            have q := HVV.out
            have c1 := HC.out W hW
            go_simp
            refine gives_call (Es.entry6 x VV W) ?_
            rintro e w3 ⟨s, k, rfl, s2, hk64, kN⟩
            refine ⟨_, rfl, hW.then kN (fun _ _ h => h.elim), ⟨s, k, rfl, s2, hk64⟩, trivial, keeps_of fun f hf hs hl hne u hfu => ?_⟩
            simp only [List.mem_cons, List.not_mem_nil, or_false] at hf
            rcases hf with rfl | rfl | rfl | rfl
            · exact absurd rfl hne
            · (obtain ⟨g, e1, e2, e3, e4⟩ := hfu; exact ⟨g, e1, e2, e3, e4.kept kN (fun h => h)⟩)
            · (obtain ⟨e, e1, e2⟩ := hfu; exact ⟨e, e1, e2.kept kN (fun _ _ h => h)⟩)
            · exact Po.kept hfu kN (fun _ _ h => h)
          obtain ⟨s11, k11, rfl, q11, r11⟩ : ∃ s, ∃ k : Nat, v11 = entV s VV k ∧ s ∈ sixN ∧ k < 18446744073709551616 := hv
          simp only [Act.put, List.setIfInBounds_toArray, List.set_cons_zero, List.set_cons_succ]
          refine wpPar_adds rfl (by rfl) (fun W hW hd => ?_) (fun v12 hv => ?_)
          · unfold Gives
            rw [exec_one_item 24 (.tmp 55) rfl Es.rtEnt16 (by decide) (A := #[.string s11, .int .i64 VV, .int .u64 (k11 : Int)]) rfl rfl]
            have kN : Kept None W (W.alloc (.cells #[.string s11, .int .i64 VV, .int .u64 (k11 : Int)] 29)) := (Kept.refl None W).alloc _
            refine ⟨hW.then kN (fun _ _ h => h.elim), ⟨_, rfl⟩, ⟨_, rfl, ⟨s11, VV, k11⟩, ⟨⟨by have := six_size s11 q11; show s11.size ≤ _; omega, r11⟩, q11⟩, Blk.new _ _ _⟩, keeps_of fun f hf hs hl hne u hfu => ?_⟩
            simp only [List.mem_cons, List.not_mem_nil, or_false] at hf
            rcases hf with rfl | rfl | rfl | rfl
            · exact hfu
            · exact absurd rfl hne
            · (obtain ⟨e, e1, e2⟩ := hfu; exact ⟨e, e1, e2.kept kN (fun _ _ h => h)⟩)
            · exact Po.kept hfu kN (fun _ _ h => h)
          obtain ⟨g12, rfl⟩ : ∃ g, v12 = .slice (some ⟨g, 0, none⟩) 1 1 := hv
          simp only [Act.put, List.setIfInBounds_toArray, List.set_cons_zero, List.set_cons_succ]
          refine wpPar_adds rfl (by rfl) (fun W hW hd => ?_) (fun v13 hv => ?_)
          · have hO : Po 3 29 W w1.heap.size (.slice ab nb cb) (entsC b) := hd 100 (List.Mem.tail _ (List.Mem.head _))
            obtain ⟨g, hgg, e, he, hg3⟩ : ∃ g, Value.slice (some ⟨g12, 0, none⟩) 1 1 = .slice (some ⟨g, 0, none⟩) 1 1 ∧ ∃ e : Ent, (e.Ok ∧ e.n ∈ sixN) ∧ Blk W g (entC e).toArray 29 := hd 10 (List.Mem.head _)
            obtain rfl : g12 = g := by simpa using hgg
            have hu : Ps 3 W 0 W.heap.size (.slice (some ⟨g12, 0, none⟩) 1 1) (entsC [e]) := R16.ps_blk (x := entC e) hg3 rfl
            refine gives_append_po _ _ 24 rfl Es.rtEnt16 (by decide) rfl rfl hO hu (entsC_one _) (by rw [entsC_len, entsC_len]; have := HBL.out; simp; omega) (Nat.le_trans HZ9.out hW.size) ?_
            intro a' n' c' W' hP kS o9
            have kN : True := trivial
            rw [← entsC_app] at hP
            refine ⟨hW.then kS (fun i hi h => h), ⟨_, _, _, rfl⟩, ⟨e, he, hP⟩, keeps_of fun f hf hs hl hne u hfu => ?_⟩
            simp only [List.mem_cons, List.not_mem_nil, or_false] at hf
            rcases hf with rfl | rfl | rfl | rfl
            · exact hfu
            · exact absurd (List.Mem.head _) hs
            · exact absurd rfl hne
            · exact absurd (List.Mem.tail _ (List.Mem.head _)) hs
          obtain ⟨a13, n13, c13, rfl⟩ : ∃ a n c, v13 = .slice a n c := hv
          simp only [Act.put, List.setIfInBounds_toArray, List.set_cons_zero, List.set_cons_succ]
          iterate 1 (refine wpPar_pure rfl (by rfl) _ (fun W hW => by
              have b1 := HBY.out W hW
              have c1 := HC.out W hW
              have q := HVV.out
              go_simp
              exact rfl) ?_; simp only [Act.put, List.setIfInBounds_toArray, List.set_cons_zero, List.set_cons_succ])
          refine wpPar_nil (fun W hW hG => ?_)
          obtain ⟨en, hen, bz⟩ : ∃ e : Ent, (e.Ok ∧ e.n ∈ sixN) ∧ Po 3 29 W w1.heap.size (.slice a13 n13 c13) (entsC (b ++ [e])) := hG 11
          have KW := hid (K9.out.then hW (fun q hq h => by have := (L5.out q h).1; omega))
          have BZ := hid bz
          have HB2 : Hid (EntSix (b ++ [en]) ∧ (b ++ [en]).length ≤ i + 1) := hid ⟨HB.out.1.snoc hen, by have := HB.out.2; simp; omega⟩
          clear hG bz hW hen X5 L5 HBY HC HC0 HZ9 HVV K9 P9
          go_wp2
          go_roundg (M - (i + 1))
          case measure => omega
          case rel => exact ⟨i + 1, a13, n13, c13, b ++ [en], by go_num, rfl, by omega, Nat.le_refl _, KW, BZ, HB2⟩
        · have hz : ¬ (i : Int) < (M : Int) := by omega
          have HP2 := hid (HP.out.kept (Kept.refl None wr) (fun _ _ h => h))
          obtain ⟨wo, hwo⟩ : ∃ z, z = wr := ⟨_, rfl⟩
          have HQ0 := hid (Kept.refl None wo)
          rw [← hwo] at HW HP2 ⊢
          clear hwo HP
          have hnb : nb = b.length := by
            obtain ⟨_, _, q3⟩ := HP2.out.form
            rw [entsC_len] at q3
            injection q3
          have HNB := hid (show nb = b.length ∧ nb ≤ 8 from ⟨hnb, by have := HB.out.2; have := HM.out; omega⟩)
          obtain ⟨R, hRT⟩ : ∃ z, z = turned b tn := ⟨_, rfl⟩
          have HRT := hid hRT
          have O1 : Hid (Po 3 29 wo wo.heap.size (.slice none 0 0) (entsC (R.take 0))) := hid (Po.nil ..)
          clear hnb hRT
          go_wp2
          go_loopg [12, 13] nb (fun kx s12 s13 wr => ∃ (j : Nat) (ao : Option Addr) (no co : Nat), s13 = .int .i64 j ∧ s12 = .slice ao no co ∧ j ≤ nb ∧ nb - j ≤ kx ∧ Hid (Kept None wo wr) ∧ Hid (Po 3 29 wr wo.heap.size (.slice ao no co) (entsC (R.take j))))
          case atStart => exact ⟨0, none, 0, 0, rfl, rfl, Nat.zero_le _, Nat.le_refl _, HQ0, O1⟩
          case round =>
            obtain ⟨j, ao, no, co, rfl, rfl, hj, hjx, HQ, HO⟩ := hrel
            by_cases hjn : j < nb
            · have hjz : (j : Int) < (nb : Int) := by omega
              have wj : IntKind.i64.wrap ((j : Int) + 1) = (j : Int) + 1 := by rw [IntKind.wrap_i64]; have := HNB.out.2; omega
              have jb : j < b.length := by have := HNB.out.1; omega
              obtain ⟨r, hr⟩ : ∃ z, z = (j + tn) % nb := ⟨_, rfl⟩
              have hrn : r < nb := by rw [hr]; exact Nat.mod_lt _ (by omega)
              have hrz : (r : Int) < (nb : Int) := by omega
              have wt : IntKind.i64.wrap (tn : Int) = (tn : Int) := by rw [IntKind.wrap_i64]; have := HTN.out; omega
              have wjt : IntKind.i64.wrap ((j : Int) + (tn : Int)) = ((j + tn : Nat) : Int) := by rw [IntKind.wrap_i64]; have := HTN.out; have := HNB.out.2; omega
              have mjt : ((j + tn : Nat) : Int).tmod (nb : Int) = (r : Int) := by rw [hr]; rfl
              have wr2 : IntKind.i64.wrap (r : Int) = (r : Int) := by rw [IntKind.wrap_i64]; have := HNB.out.2; omega
              have hn0 : ¬ ((nb : Int) = 0) := by omega
              have hb1 : 0 ≤ ((j : Int) + (tn : Int)) % (nb : Int) := Int.emod_nonneg _ hn0
              have hb2 : ((j : Int) + (tn : Int)) % (nb : Int) < (nb : Int) := Int.emod_lt_of_pos _ (by omega)
              have hn1 : ((nb : Int) == 0) = false := by simp; omega
              have hrb : r < b.length := by have := HNB.out.1; omega
              have htk : R.take (j + 1) = R.take j ++ [b[r]] := by
                have h := turned_take b tn j jb
                rw [← HRT.out] at h
                rw [h]
                congr 2
                simp only [hr, HNB.out.1]
              obtain ⟨gb, ob, qb, hcb⟩ := ((HP2.out.ps (Nat.le_refl _)).kept HQ.out (fun _ _ _ h => h)).ent (by omega)
              obtain rfl := qb
              have rB := (hcb r hrb).2.2.2
              obtain ⟨e, hee⟩ : ∃ z, z = b[r] := ⟨_, rfl⟩
              rw [← hee] at rB htk
              rw [hr] at rB
              have HTK := hid htk
              have KA : Kept None wo (wr.alloc (.cells #[.string e.n, .int .i64 e.v, .int .u64 (e.k : Int)] 29)) := HQ.out.alloc _
              have hon := HO.out.alloc (.cells #[.string e.n, .int .i64 e.v, .int .u64 (e.k : Int)] 29)
              have HPN : Ps 3 (wr.alloc (.cells #[.string e.n, .int .i64 e.v, .int .u64 (e.k : Int)] 29)) 0 (wr.alloc (.cells #[.string e.n, .int .i64 e.v, .int .u64 (e.k : Int)] 29)).heap.size (.slice (some ⟨wr.heap.size, 0, none⟩) 1 1) (entsC [e]) := R16.ps_blk (x := entC e) (Blk.new _ _ _) rfl
              have hlen : (entsC (R.take j)).length + (entsC [e]).length ≤ 1099511627776 := by rw [entsC_len, entsC_len, List.length_take]; have := HNB.out.2; simp; omega
              have hbase := KA.size
              clear hcb hee htk hr hrb jb HO HQ
              go_wp2_with (first | (refine wpList_load_at (.refl _) _ _ rfl rfl rB Es.aEnt16 ?_) | (refine wpList_one_item rfl _ _ rfl Es.rtEnt16 (by decide) rfl rfl ?_) | (at_builtin; refine wpList_append_po rfl _ _ 24 rfl Es.rtEnt16 (by decide) rfl rfl hon HPN (entsC_one _) hlen hbase ?_; intro a9 n9 c9 w9 hP9 hK9 _) | fail)
              rw [← entsC_app, ← HTK.out] at hP9
              have K9 := hid (KA.then hK9 (fun q hq h => by have := (hon.own q h).1; omega))
              have HP9 := hid hP9
              clear hP9 hK9 HPN hon hlen hbase KA
              go_roundg (nb - (j + 1))
              case measure => omega
              case rel => exact ⟨j + 1, a9, n9, c9, by go_num, rfl, by omega, Nat.le_refl _, K9, HP9⟩
            · have hjz : ¬ (j : Int) < (nb : Int) := by omega
              have hRl : R.length = b.length := by rw [HRT.out]; exact turned_len b tn
              have hRp : R.Perm b := by rw [HRT.out]; exact turned_perm b tn
              have hRj : R.take j = R := List.take_of_length_le (by have := HNB.out.1; omega)
              have hO := HO.out
              rw [hRj] at hO
              have KQ := HW.out.trans HQ.out
              have hbe : EOk b := HB.out.1.ok
              have hre : EOk R := fun e he => hbe e (hRp.mem_iff.1 he)
              have hbl : b.length ≤ 8 := by have := HNB.out; omega
              have hA1 := HC.out.1 (.slice ad d.length cd) (.slice ab nb cb) 0 w1.heap.size w1.heap.size wr.heap.size d 100 b wr (FA.out.ps wr KQ) ((HP2.out.kept HQ.out (fun _ _ h => h)).ps (Nat.le_refl _)) FA.out.rt FA.out.ok hbe.w (Nat.le_trans FA.out.len (by decide)) (by omega)
              have hA2 := fun W (hW : Kept None wr W) => HC.out.1 (.slice ad d.length cd) (.slice ao no co) 0 w1.heap.size wo.heap.size wr.heap.size d 100 R W (FA.out.ps W (KQ.trans hW)) ((hO.ps (Nat.le_refl _)).kept hW (fun _ _ _ h => h)) FA.out.rt FA.out.ok hre.w (Nat.le_trans FA.out.len (by decide)) (by omega)
              rw [addF_perm FA.out.rt (p := 100) hRp] at hA2
              have hD : RtK (addF d 100 b).1 ∧ KOk (addF d 100 b).1 ∧ (addF d 100 b).1.length ≤ 2000 := by
                have h1 := addF_ok (p := 100) FA.out.ok hbe
                have h2 := FA.out.len
                refine ⟨?_, h1.1, by have h3 := h1.2; omega⟩
                cases hc : (addF d 100 b).2 with
                | false => rw [addF_no hc]; exact FA.out.rt
                | true => exact (addF_yes hc).right FA.out.rt
              obtain ⟨⟨D, ok⟩, hAD⟩ : ∃ z, z = addF d 100 b := ⟨_, rfl⟩
              rw [← hAD] at hA1 hA2 hD
              have HA1 := hid hA1
              have HA2 := hid hA2
              have HDD := hid hD
              have HKQ := hid KQ
              clear hRl hRp hRj hO KQ hbe hre hbl hA1 hA2 hD hAD HO HQ HP2 HW
              go_wp2_with fail
              refine HA1.out.mono ?_
              rintro e w5 ⟨u5, rfl, k5, p5⟩
              obtain ⟨a5, n5, c5, rfl⟩ : ∃ a n c, u5 = .slice a n c := by
                obtain ⟨a5, c5, h5, _⟩ := p5.form
                exact ⟨a5, _, c5, h5⟩
              have K5 := hid k5
              have P5 := hid p5
              clear k5 p5 HA1
              go_wp2_with fail
              refine (HA2.out _ K5.out).mono ?_
              rintro e w6 ⟨u6, rfl, k6, p6⟩
              obtain ⟨a6, n6, c6, rfl⟩ : ∃ a n c, u6 = .slice a n c := by
                obtain ⟨a5, c5, h5, _⟩ := p6.form
                exact ⟨a5, _, c5, h5⟩
              have K6 := hid (K5.out.trans k6)
              have P6 := hid p6
              have P5 := hid (P5.out.kept k6 (fun _ _ _ h => h))
              have bq : (ok == ok) = true := by cases ok <;> rfl
              have hkn := Hr.known _ _ _ _ _ _ D D w6 P5.out P6.out (by have := HDD.out.2.2; omega)
              rw [show knosEq D D = true from decide_eq_true rfl] at hkn
              have HKN := hid hkn
              clear k6 p6 HA2 K5 hkn
              go_wp2_with (first | go_skip | fail)
              refine HKN.out.mono ?_
              rintro e w7 ⟨rfl, k7⟩
              have K7 := hid (K6.out.trans k7)
              have P5 := hid (P5.out.kept k7 (fun _ _ _ h => h))
              have P6 := hid (P6.out.kept k7 (fun _ _ _ h => h))
              have HI7 := hid (fun W (v : Value) (lo hi : Nat) (h : Ps 4 W lo hi v (knosC D)) => HC.out.2 v lo hi D 100 W h HDD.out.1 HDD.out.2.1 (by have := HDD.out.2.2; omega))
              have hil : (setI (itemsF D 100)).length ≤ 1099511627776 := by have h1 := len_setI (itemsF D 100); have h2 := itemsF_len D 100; have h3 : D.length ≤ 2000 := HDD.out.2.2; omega
              obtain ⟨IT, hIT⟩ : ∃ z, z = setI (itemsF D 100) := ⟨_, rfl⟩
              rw [← hIT] at HI7 hil
              have HIL := hid hil
              clear k7 K6 HKN hIT hil
              go_wp2_with (first | go_skip | fail)
              refine (HI7.out _ _ _ _ P5.out).mono ?_
              rintro e w8 ⟨u8, rfl, i8, k8⟩
              have K8 := hid (K7.out.trans k8)
              have I8 := hid i8
              have P6 := hid (P6.out.kept k8 (fun _ _ _ h => h))
              clear k8 i8 K7 P5
              go_wp2_with (first | go_skip | fail)
              refine (HI7.out _ _ _ _ P6.out).mono ?_
              rintro e w9 ⟨u9, rfl, i9, k9⟩
              have K9 := hid (K8.out.trans k9)
              have hsm := Tr.same u8 u9 _ _ _ _ IT w9 (I8.out.kept k9 (fun _ _ _ h => h)) i9 HIL.out
              have HSM := hid hsm
              clear k9 i9 K8 P6 hsm I8 HI7
              go_wp2_with (first | go_skip | fail)
              refine HSM.out.mono ?_
              rintro e wA ⟨rfl, kA⟩
              have KA := hid ((K1.out.trans (HKQ.out.trans K9.out)).trans kA)
              clear kA HSM K9
              go_wp2_with (first | go_skip | fail)
              go_ret
              exact ⟨rfl, KA.out⟩
end P16
end Go.Proofs.Ytglibdggoobocaa
namespace Go.Proofs.Ytglibdggoobocaa
open Go.ChangeShapes Go.WideShapes Go.ChangeAt Go.RowKit Go.Pm

theorem laidOut : laidOutB Try.prog = true := by kernel_rfl
theorem ownKnobs : ownKnob Try.prog.godebug = none := by kernel_rfl
theorem rBool : Try.prog.underlying 4 = some .bool := by kernel_rfl
theorem rU8 : Try.prog.underlying 5 = some (.int .u8) := by kernel_rfl
theorem cByte : Try.prog.cellsOf 5 = 1 := by kernel_rfl

set_option maxRecDepth 100000 in
theorem directoryOrder_lifted (os : Os) (started : os.Started) (H : Type) (enc : TypeId × Value → H) :
    ReturnsInHanded {} Try.checked os 7 .any (Rows.directoryOrderSpec.pre6 enc Try.prog Try.f7 Rows.directoryOrderRow.domain false) (Rows.directoryOrderSpec.post enc Try.prog Try.f7 false true false false) := by
  refine returnsInHanded_of_change (C := Try.checked) ownKnobs started (by kernel_rfl) Try.func7
    (ChangeSpec.witness6 (enc := enc) (C := Try.checked) false ⟨#[], #[.slice none 0 0, .slice none 0 0, .int .u8 0], []⟩ 8 (by kernel_rfl) (by kernel_rfl) (by kernel_rfl) (by kernel_rfl)) ?_
  intro W base args ds gs before hval0 hW _ _
  have hval : ∀ (j : Nat) t v, Try.f7.params[j]? = some t → args[j]? = some v → Value.okWide Try.prog W .any base t v := hval0
  have hlt : ∀ x ∈ before, x.block < W.heap.size := fun x hx => by simpa using hW.lt x hx
  have hW' := hW
  obtain ⟨p, q, hA0, hV, rfl, hfz, hnd⟩ := hW
  obtain ⟨rfl, rfl⟩ := trodVars_none hV
  have hA : DataW.TrodAll enc Try.prog W 0 (fun _ => true) true Try.f7.params.toList args.toList ds p := hA0
  rw [Try.params7] at hA hval
  obtain ⟨v0, v1, v2, d0, d1, d2, p0, p1, p2, rfl, rfl, rfl, h0, h1, h2⟩ := trodAll_three hA
  obtain ⟨l, hl⟩ := openBs tBytes' tByte cByte (hval 0 22 v0 rfl rfl) h0 (fun x hx => hlt x (by simp [hx]))
  obtain ⟨ks, hks⟩ := openBs tBytes' tByte cByte (hval 1 22 v1 rfl rfl) h1 (fun x hx => hlt x (by simp [hx]))
  obtain ⟨turn, rfl, b2⟩ := openNat_u8 rU8 (hval 2 5 v2 rfl rfl) h2
  refine (P16.order Dr.right Dr.latest Dr.add Dr.items v0 v1 _ _ _ _ l ks turn W hl hks b2).mono fun e W' ⟨he, hk⟩ => ?_
  subst he
  exact ⟨_, rfl, law_post (P := Try.prog) (f := Try.f7) rfl rfl rBool laidOut (by kernel_rfl) hW' rfl rfl rfl (hk.below (fun _ _ h => h))⟩

theorem directoryOrder_holds : Rows.DirectoryOrderSaid :=
  OpenClaim.holds_of_wide 7 Try.f7 rfl rfl rfl rfl rfl rfl rfl ⟨rfl, rfl, rfl, rfl, rfl⟩ rfl rfl rfl rfl rfl (by kernel_rfl) Try.func7 (by kernel_rfl)
    (of_decide_eq_true (by kernel_rfl)) (by unfold Func.isWrapper; first | (rw [if_pos (by decide +kernel)]; kernel_rfl) | (rw [if_neg (by decide +kernel)]; exact ⟨rfl, rfl⟩))
    (fun os started H enc _ => directoryOrder_lifted os started H enc)
end Go.Proofs.Ytglibdggoobocaa
