/- Rows.DirectoryChainsSaid: each name's versions are 1, 2, .., and an elder epoch's items stay what they were. No condition. -/
import Derived.Test.YtglibdggoobocaaPk4
import Derived.Deep.LoopGhost
import Derived.Test.YtglibdggoobocaaPk5
import Derived.Test.YtglibdggoobocaaRows
import Derived.Test.YtglibdggoobocaaPk6
import Derived.Test.YtglibdggoobocaaPk8
namespace Go.Proofs.Ytglibdggoobocaa
open Go.RowKit Go.Pm
namespace Tr
theorem uItem : Try.prog.underlying 54 = some (.struct (Try.prog.fieldsOf 54)) := by kernel_rfl
theorem fItem : (Try.prog.fieldsOf 54).toList.map (fun f => (f.name == "_", f.type, f.offset)) = [(false, 52, 0), (false, 52, 32)] := by kernel_rfl
theorem hItem : Try.prog.stoodInHeld 54 = false := by kernel_rfl
theorem eqFields_two {P : Program} {w : World} {xs ys : Array Value} {t : TypeId} {d : Nat} : ∀ {fs : List Field}, fs.map (fun f => (f.name == "_", f.type, f.offset)) = [(false, t, 0), (false, t, 32)] → (∀ w, (isAgg t).run P w = .ok true w) → (∀ w, (sizeOf t).run P w = .ok 32 w) →
    (Op.equalIn d t (.agg (xs.extract 0 32)) (.agg (ys.extract 0 32))).run P w = .ok true w → (Op.equalIn d t (.agg (xs.extract 32 64)) (.agg (ys.extract 32 64))).run P w = .ok true w → (Op.eqFields d xs ys fs).run P w = .ok true w
  | [f, g], h, ha, hs, h1, h2 => by
    simp only [List.map_cons, List.map_nil, List.cons.injEq, Prod.mk.injEq, and_true, beq_eq_false_iff_ne] at h
    obtain ⟨⟨f1, f2, f3⟩, g1, g2, g3⟩ := h
    simp only [Op.eqFields, f1, g1, ne_eq, not_false_eq_true, if_true, part, f2, f3, g2, g3, Sem.run_bind, ha, hs, Result.andThen_ok, Sem.run_pure, Nat.zero_add, h1, h2, Bool.not_true, Bool.false_eq_true, if_false]
  | [], h, _, _, _, _ => by simp at h
  | [_], h, _, _, _, _ => by simp at h
  | _ :: _ :: _ :: _, h, _, _, _, _ => by simp at h
/-- An item isn't unlike itself. -/
theorem neqItem (x : It) (hx : x.i.length = 32 ∧ x.v.length = 32) (w : World) : (binOp .neq 54 (.agg (itC x).toArray) (.agg (itC x).toArray)).run Try.prog w = .ok (.bool false) w := by
  rw [run_neq_struct, run_equalIn_struct w 9999 54 _ _ uItem hItem]
  have e1 : (itC x).toArray.extract 0 32 = (x.i.map u8v).toArray := by
    rw [List.extract_toArray, List.extract_eq_take_drop]
    simp only [List.drop_zero, Nat.sub_zero]
    rw [show (itC x).take 32 = x.i.map u8v from List.take_left' (by rw [List.length_map]; exact hx.1)]
  have e2 : (itC x).toArray.extract 32 64 = (x.v.map u8v).toArray := by
    rw [List.extract_toArray, List.extract_eq_take_drop]
    rw [show (itC x).drop 32 = x.v.map u8v from List.drop_left' (by rw [List.length_map]; exact hx.1), List.take_of_length_le (by rw [List.length_map]; omega)]
  rw [eqFields_two (t := 52) fItem Try.isAgg52 Try.sizeOf52]
  · rfl
  · rw [e1]
    have h := run_equalIn_bytes (P := Try.prog) w 9997 52 5 32 uHash uByte zByte x.i x.i hx.1 hx.1
    rw [beq_self_eq_true] at h
    exact h
  · rw [e2]
    have h := run_equalIn_bytes (P := Try.prog) w 9997 52 5 32 uHash uByte zByte x.v x.v hx.2 hx.2
    rw [beq_self_eq_true] at h
    exact h
set_option maxRecDepth 100000 in
set_option maxHeartbeats 4000000 in
/-- postmarkhelp.Items: the same items are the same. -/
theorem same (va vb : Value) (lo hi lo' hi' : Nat) (l : List It) (w : World) (ha : Its w lo hi va l) (hb : Its w lo' hi' vb l) (hl : l.length ≤ 1099511627776) : Calls Try.prog 21 #[va, vb] w fun e w' => e = .returned (.bool true) ∧ Kept None w w' := by
  obtain ⟨a1, c1, rfl, p1, p2, _⟩ := ha.form
  obtain ⟨a2, c2, rfl, p3, p4, _⟩ := hb.form
  have p2' : c1 ≤ 9223372036854775807 := p2
  have p4' : c2 ≤ 9223372036854775807 := p4
  obtain ⟨n, hn⟩ : ∃ n, n = l.length := ⟨_, rfl⟩
  rw [← hn] at ha hb hl p1 p3 ⊢
  have HA := hid ha
  have HB := hid hb
  have HN := hid hn
  clear ha hb hn p2 p4
  go_enter Try.func21, Try.ntmps21
  go_wp2
  go_loopg [5] n (fun kx s5 wr => ∃ k : Nat, s5 = .int .i64 k ∧ k ≤ n ∧ n - k ≤ kx ∧ Hid (Kept None w wr))
  case atStart => exact ⟨0, rfl, Nat.zero_le _, Nat.le_refl _, Kept.refl _ _⟩
  case round =>
    obtain ⟨k, rfl, hk, hkx, HK⟩ := hrel
    by_cases hlt : k < n
    · have hz : (k : Int) < (n : Int) := by omega
      obtain ⟨x, hx⟩ : ∃ x, l[k]? = some x := ⟨_, List.getElem?_eq_getElem (by have := HN.out; omega)⟩
      have hxl := HA.out.1 x (List.mem_of_getElem? hx)
      have i1 := HA.out.kept HK.out (fun _ _ _ h => h)
      have i2 := HB.out.kept HK.out (fun _ _ _ h => h)
      obtain ⟨b1, o1, h1, _, _, _, hc1⟩ := i1.ne (by have := HN.out; omega)
      obtain ⟨b2, o2, h2, _, _, _, hc2⟩ := i2.ne (by have := HN.out; omega)
      obtain rfl := h1
      obtain rfl := h2
      have hcx := hc1 k x hx
      have hcy := hc2 k x hx
      have h64 := itC_len hxl
      have aY : AggTy Try.prog 54 (itC x).length := by rw [h64]; exact RTr.aI64
      have e1 := neqItem x hxl
      obtain ⟨C, hC⟩ : ∃ C, C = itC x := ⟨_, rfl⟩
      rw [← hC] at hcx hcy aY e1
      clear hx hxl i1 i2 hc1 hc2 h64 hC
      go_wp2_with fail
      refine wp_region_kn wr [] Steady.nil (Kept.refl _ _) (by kernel_rfl) (by kernel_rfl) (by kernel_rfl) ?_
      iterate 3 (refine wpPar_pure rfl (by rfl) _ (fun W hW => by
          go_simp
          exact rfl) ?_; simp only [Act.put, List.setIfInBounds_toArray, List.set_cons_zero, List.set_cons_succ])
      refine wpPar_pure rfl (by rfl) _ (fun W hW => exec_load_at rfl rfl (rangeAt_kept hcx hW) aY) ?_; simp only [Act.put, List.setIfInBounds_toArray, List.set_cons_zero, List.set_cons_succ]
      iterate 3 (refine wpPar_pure rfl (by rfl) _ (fun W hW => by
          go_simp
          exact rfl) ?_; simp only [Act.put, List.setIfInBounds_toArray, List.set_cons_zero, List.set_cons_succ])
      refine wpPar_pure rfl (by rfl) _ (fun W hW => exec_load_at rfl rfl (rangeAt_kept hcy hW) aY) ?_; simp only [Act.put, List.setIfInBounds_toArray, List.set_cons_zero, List.set_cons_succ]
      iterate 1 (refine wpPar_pure rfl (by rfl) _ (fun W hW => by
          go_simp
          exact rfl) ?_; simp only [Act.put, List.setIfInBounds_toArray, List.set_cons_zero, List.set_cons_succ])
      refine wpPar_nil (fun w7 hW hG => ?_)
      have HW := hid (HK.out.trans hW)
      clear hG hW HK e1 hcx hcy
      go_wp2
      go_roundg (n - (k + 1))
      case measure => omega
      case rel => exact ⟨k + 1, by go_num, by omega, Nat.le_refl _, HW⟩
    · have hz : ¬ (k : Int) < (n : Int) := by omega
      go_wp2
      go_ret
      exact ⟨rfl, HK.out⟩

end Tr
end Go.Proofs.Ytglibdggoobocaa
namespace Go.Pm
open Go Go.RowKit
theorem items_elder {l : List Kno} {p : Int} {b : List Ent} {out : List Kno} (h : Adds l (p + 1) b out) : itemsF out p = itemsF l p := by
  unfold itemsF
  rw [addN_filter (fun x => decide (x.p ≤ p)) (fun e => decide_eq_false (by show ¬ p + 1 ≤ p; omega)) b.length out (Nat.le_refl _) h.eqn]
theorem Adds.ver {l : List Kno} {p : Int} {b : List Ent} {out : List Kno} (h : Adds l p b out) (hl : RtK l) {e : Ent} (he : e ∈ b) : 1 ≤ e.v ∧ e.v ≤ 1073741824 := by
  have := headK_v ((h.right hl).head ⟨e, p⟩ ((h.mem _).2 (.inl ⟨e, he, rfl⟩)))
  exact ⟨this.1, this.2.1⟩
theorem tops_step {l : List Kno} {k : Nat} {T : Int} (h : ∀ j (hj : j < l.length), j < k → l[j].p ≤ T) (hk : k < l.length) : ∀ j (hj : j < l.length), j < k + 1 → l[j].p ≤ max T l[k].p := fun j hj hjk => by
  rcases Nat.lt_or_ge j k with g | g
  · have := h j hj g
    omega
  · obtain rfl : j = k := by omega
    omega
end Go.Pm
namespace Go.Proofs.Ytglibdggoobocaa
open Go.RowKit Go.Pm
namespace P16
open Dr
theorem Facts.later {wd w1 : World} {v : Value} {d : List Kno} (h : Facts wd v d) (hk : Kept None wd w1) : Facts w1 v d := ⟨fun W hW => (h.ps W (hk.trans hW)).wider (Nat.le_refl _) hk.size, h.rt, h.ok, h.len⟩
set_option maxRecDepth 100000 in
set_option maxHeartbeats 16000000 in
theorem chains (hR : RightC) (hL : LatestC) (hF : FindC) (hA : AddC) (hI : ItemsC) (v vk : Value) (lo hi lo' hi' : Nat) (l ks : List UInt8) (w : World) (hv : Bs w lo hi v l) (hvk : Bs w lo' hi' vk ks) : Calls Try.prog 4 #[v, vk] w fun e w' => e = .returned (.bool true) ∧ Kept None w w' := by
  obtain ⟨a, cap, rfl, q1, q2, q3⟩ := hv.shape
  obtain ⟨ak, ck, rfl, r1, r2, r3⟩ := hvk.shape
  have HK := hid (known hR hL hA hI w)
  have HV := hid hv
  have HVK := hid hvk
  have HC := hid (And.intro hA (And.intro hI (And.intro hL hF)))
  clear hv q3 hvk r3 hR hL hF hA hI
  go_enter Try.func4, Try.ntmps4
  go_wp2_with fail
  refine HK.out.mono ?_
  rintro e w0 ⟨rfl, k0⟩
  have K0 := hid k0
  clear k0 HK
  by_cases hl : 20 < l.length
  · have z2 : (20 : Int) < (l.length : Int) := by omega
    have z1 : decide ((20 : Int) < (l.length : Int)) = true := decide_eq_true z2
    go_wp2_with (first | go_skip | fail)
    go_ret
    exact ⟨rfl, K0.out⟩
  · have z2 : ¬ (20 : Int) < (l.length : Int) := by omega
    have z1 : decide ((20 : Int) < (l.length : Int)) = false := decide_eq_false z2
    by_cases hm : 6 < ks.length
    · have y2 : (6 : Int) < (ks.length : Int) := by omega
      have y1 : decide ((6 : Int) < (ks.length : Int)) = true := decide_eq_true y2
      go_wp2_with (first | go_skip | fail)
      go_ret
      exact ⟨rfl, K0.out⟩
    · have y2 : ¬ (6 : Int) < (ks.length : Int) := by omega
      have y1 : decide ((6 : Int) < (ks.length : Int)) = false := decide_eq_false y2
      have HD := hid (Es.directory (.slice a l.length cap) lo hi l w0 (HV.out.kept K0.out (fun _ _ _ h => h)) (by omega))
      have HL := hid (show l.length ≤ 20 by omega)
      clear HV
      go_wp2_with (first | go_skip | fail)
      refine HD.out.mono ?_
      rintro e wd ⟨u, d, rfl, k1, p1, o1, n1⟩
      obtain ⟨ad, cd, hu, _⟩ := p1.form
      rw [knosC_len] at hu
      subst hu
      have K1 := hid (K0.out.trans k1)
      have FA := hid (Facts.of p1 o1 (by have := HL.out; omega))
      obtain ⟨M, hM⟩ : ∃ z, z = ks.length := ⟨_, rfl⟩
      have hvk2 := HVK.out.kept K1.out (fun _ _ _ h => h)
      rw [← hM] at hvk2 ⊢
      have HKS := hid (And.intro hvk2 hM)
      clear hvk2
      have HM := hid (show M ≤ 6 by omega)
      have HPL : Hid (∀ x ∈ d, x.p ≤ 20) := hid (fun x hx => by have := o1.lt x hx; have := HL.out; omega)
      have HDL := hid (show d.length ≤ 20 by have := HL.out; omega)
      clear k1 p1 o1 n1 HD K0 z1 z2 y1 y2 HL hM HVK
      have KT := hid (Kept.refl None wd)
      obtain ⟨N, hN⟩ : ∃ z, z = d.length := ⟨_, rfl⟩
      rw [← hN] at FA ⊢
      have HN := hid (show N = d.length ∧ N ≤ 20 from ⟨hN, by have := HDL.out; omega⟩)
      clear hN HDL
      go_wp2
      go_loopg [6, 7] N (fun kx s6 s7 wr => ∃ (k : Nat) (T : Int), s7 = .int .i64 k ∧ s6 = .int .i64 T ∧ k ≤ N ∧ N - k ≤ kx ∧ Hid (Kept None wd wr) ∧ Hid ((0 ≤ T ∧ T ≤ 1000) ∧ ∀ j (hj : j < d.length), j < k → d[j].p ≤ T))
      case atStart => exact ⟨0, 0, rfl, rfl, Nat.zero_le _, Nat.le_refl _, KT, hid ⟨by decide, fun j _ h => absurd h (Nat.not_lt_zero j)⟩⟩
      case round =>
        obtain ⟨k, T, rfl, rfl, hk, hkx, HW, HT⟩ := hrel
        by_cases hlt : k < N
        · have hz : (k : Int) < (N : Int) := by omega
          have wk : IntKind.i64.wrap ((k : Int) + 1) = (k : Int) + 1 := by rw [IntKind.wrap_i64]; have := HN.out.2; omega
          have kl : k < d.length := by have := HN.out.1; omega
          obtain ⟨bb, o, q1, hc⟩ := (FA.out.ps wr HW.out).kno (by omega)
          obtain rfl := q1
          have c3 := (hc k kl).2.2.2.1
          have hst := tops_step HT.out.2 kl
          have hpl := HPL.out _ (List.getElem_mem kl)
          obtain ⟨P, hP⟩ : ∃ z, z = d[k].p := ⟨_, rfl⟩
          rw [← hP] at c3 hst hpl
          have HST := hid (show (0 ≤ max T P ∧ max T P ≤ 1000) ∧ ∀ j (hj : j < d.length), j < k + 1 → d[j].p ≤ max T P from ⟨by have := HT.out.1; omega, hst⟩)
          clear hc hP hst hpl
          go_wp2_with fail
          go_roundg (N - (k + 1))
          case measure => omega
          case rel => exact ⟨k + 1, max T P, by go_num, by rfl, by omega, Nat.le_refl _, HW, HST⟩
        · have hz : ¬ (k : Int) < (N : Int) := by omega
          have hTA : ∀ x ∈ d, x.p ≤ T := fun x hx => by
            obtain ⟨j, hj, rfl⟩ := List.getElem_of_mem hx
            exact HT.out.2 j hj (by have := HN.out.1; omega)
          have hI1 := HC.out.2.1 (.slice ad N cd) 0 wd.heap.size d T wr (FA.out.ps wr HW.out) FA.out.rt FA.out.ok (Nat.le_trans FA.out.len (by decide))
          have hil : (setI (itemsF d T)).length ≤ 1099511627776 := by have h1 := len_setI (itemsF d T); have h2 := itemsF_len d T; have h3 := FA.out.len; omega
          obtain ⟨IT, hIT⟩ : ∃ z, z = setI (itemsF d T) := ⟨_, rfl⟩
          rw [← hIT] at hI1 hil
          have HIT := hid hIT
          have HIL := hid hil
          clear hIT hil
          have HI1 := hid hI1
          have HTT := hid (And.intro HT.out.1 hTA)
          clear hTA hI1 HT
          go_wp2_with fail
          refine HI1.out.mono ?_
          rintro e w1 ⟨uw, rfl, iw, kw⟩
          obtain ⟨aw, nw, cw, rfl⟩ : ∃ a n c, uw = .slice a n c := by
            obtain ⟨a, c, h, _⟩ := iw.form
            exact ⟨a, _, c, h⟩
          have KD := hid (HW.out.trans kw)
          have F1 := hid (Facts.later FA.out KD.out)
          have IW := hid iw
          have K1 := hid (K1.out.trans KD.out)
          have HKS := hid (And.intro (HKS.out.1.kept KD.out (fun _ _ _ h => h)) HKS.out.2)
          clear kw iw HI1 KD HW FA
          have KR := hid (Kept.refl None w1)
          have P0 : Hid (Po 3 29 w1 w1.heap.size (.slice none 0 0) (entsC [])) := hid (Po.nil ..)
          go_wp2
          go_loopg [9, 10] M (fun kx s9 s10 wr => ∃ (i : Nat) (ab : Option Addr) (nb cb : Nat) (b : List Ent), s10 = .int .i64 i ∧ s9 = .slice ab nb cb ∧ i ≤ M ∧ M - i ≤ kx ∧ Hid (Kept None w1 wr) ∧ Hid (Po 3 29 wr w1.heap.size (.slice ab nb cb) (entsC b)) ∧ Hid (EntSix b ∧ b.length ≤ i))
          case atStart => exact ⟨0, none, 0, 0, [], rfl, rfl, Nat.zero_le _, Nat.le_refl _, KR, P0, hid ⟨(fun _ h => by cases h), Nat.le_refl _⟩⟩
          case round =>
            obtain ⟨i, ab, nb, cb, b, rfl, rfl, hiM, hkx, HW, HP, HB⟩ := hrel
            by_cases hlt : i < M
            · have hz : (i : Int) < (M : Int) := by omega
              have wi : IntKind.i64.wrap ((i : Int) + 1) = (i : Int) + 1 := by rw [IntKind.wrap_i64]; have := HM.out; omega
              have HL := hid (show i < 1000 by have := HM.out; omega)
              obtain ⟨bb, oo, qa, _, _, hbb, hc⟩ := HKS.out.1.ne (by have := HKS.out.2; omega)
              obtain rfl := qa
              have cw := hc i (by have := HKS.out.2; omega)
              obtain ⟨x, hx, hx256⟩ : ∃ x : Nat, bAt ks i = (x : Int) ∧ x < 256 := ⟨(bAt ks i).toNat, by have := bAt_ge ks i; omega, by have := bAt_lt ks i; omega⟩
              rw [hx] at cw
              have HC0 : Hid (∀ W, Kept None w1 W → W.cell? ⟨bb, oo + i, none⟩ = some (.int .u8 (x : Int))) := hid (fun W hW => (hW.cell (p := ⟨bb, oo + i, none⟩) hbb (fun h => h)).trans cw)
              have c0 := HC0.out wr HW.out
              have HBB := hid hbb
              clear hc hx hx256 hbb cw
              go_wp2_with fail
              refine (Es.name6 x _).mono ?_
              rintro e w3 ⟨nm, rfl, _, k3⟩
              have K3 := hid (HW.out.trans k3)
              have hLat := F1.out.latest HC.out.2.2.1 K3.out nm
              obtain ⟨X, hX⟩ : ∃ X, X = latF d nm := ⟨_, rfl⟩
              rw [← hX] at hLat
              have HLA := hid hLat
              clear hLat hX c0
              go_wp2_with fail
              refine HLA.out.mono ?_
              rintro e w4 ⟨rfl, k4⟩
              have K4 := hid (K3.out.trans k4)
              have P4 := hid (HP.out.kept (k3.trans k4) (fun _ _ h => h))
              have c4 := HC0.out w4 K4.out
              clear k3 K3 HLA
              go_upto_region 17 with fail
              obtain ⟨w9, hw9⟩ : ∃ W, W = w4.alloc (.cells #[.string X.1.e.n, .int .i64 X.1.e.v, .int .u64 (X.1.e.k : Int), .int .i64 X.1.p] 31) := ⟨_, rfl⟩
              obtain ⟨g5, hg5⟩ : ∃ g, g = w4.heap.size := ⟨_, rfl⟩
              have kA : Kept None w4 w9 := by rw [hw9]; exact (Kept.refl _ _).alloc _
              have x5 : Blk w9 g5 #[.string X.1.e.n, .int .i64 X.1.e.v, .int .u64 (X.1.e.k : Int), .int .i64 X.1.p] 31 := by rw [hw9, hg5]; exact Blk.new _ _ _
              rw [← hw9, ← hg5]
              have L5 : Hid (∀ q, (Value.slice ab nb cb).ownBlock = some q → w1.heap.size ≤ q ∧ q < g5) := hid (fun q h => by rw [hg5]; exact P4.out.own q h)
              have K9 := hid (K4.out.trans kA)
              have P9 := hid (P4.out.kept kA (fun _ _ h => h))
              have X5 := hid x5
              obtain ⟨VV, hVV⟩ : ∃ z, z = IntKind.i64.wrap (X.1.e.v + 1) := ⟨_, rfl⟩
              have HVV := hid hVV.symm
              clear hw9 hg5 kA x5 c4 k4 K4 P4 hVV
              have C9 : w9.cell? ⟨bb, oo + i, none⟩ = some (.int .u8 (x : Int)) := HC0.out w9 K9.out
              have HBY := hid (fun W (hW : Kept (fun q => (Value.slice ab nb cb).ownBlock = some q) w9 W) => (hW.cell (p := ⟨bb, oo + i, none⟩) (Nat.lt_of_lt_of_le HBB.out K9.out.size) (fun h => by have := (L5.out bb h).1; have := HBB.out; omega)).trans C9)
              have HC := hid (fun W (hW : Kept (fun q => (Value.slice ab nb cb).ownBlock = some q) w9 W) => ((X5.out.kept hW (fun h => by have := (L5.out _ h).2; omega)).cell 1).trans (show _ = some (Value.int .i64 X.1.e.v) from rfl))
              have HBL := hid (show b.length ≤ 1000 by have := HB.out.2; have := HL.out; omega)
              have HZ9 := hid K9.out.size
              clear C9
              refine wp_region_plan (Kept (fun q => (Value.slice ab nb cb).ownBlock = some q) w9) [{ k := 9, uses := [], pure := fun u => ∃ s, ∃ k : Nat, u = entV s VV k ∧ s ∈ sixN ∧ k < 18446744073709551616 }, { k := 10, uses := [], pure := fun u => ∃ g, u = .slice (some ⟨g, 0, none⟩) 1 1, fact := fun u W => ∃ g, u = .slice (some ⟨g, 0, none⟩) 1 1 ∧ ∃ e : Ent, (e.Ok ∧ e.n ∈ sixN) ∧ Blk W g (entC e).toArray 29 }, { k := 11, uses := [10, 100], spends := [10, 100], pure := fun u => ∃ a n c, u = .slice a n c, fact := fun u W => ∃ e : Ent, (e.Ok ∧ e.n ∈ sixN) ∧ Po 3 29 W w1.heap.size u (entsC (b ++ [e])) }, { k := 100, uses := [], fact := fun u W => Po 3 29 W w1.heap.size (.slice ab nb cb) (entsC b) }] [100] (by kernel_rfl) (by kernel_rfl) (by kernel_rfl) (by rfl) ?pures ((Kept.refl _ w9).drew) ?starts ?walk
              case pures =>
                intro f hf
                simp only [List.mem_cons, List.not_mem_nil, or_false] at hf
                rcases hf with rfl | rfl | rfl | rfl
                · exact ⟨_, ⟨#[97]⟩, 0, rfl, by simp [sixN], by decide⟩
                · exact ⟨_, 0, rfl⟩
                · exact ⟨_, none, 0, 0, rfl⟩
                · exact ⟨undef, trivial⟩
              case starts =>
                intro k hk
                have hk : k = 100 := by simpa using hk
                subst hk
                exact P9.out.kept ((Kept.refl None w9).drew) (fun _ _ h => h)
              iterate 9 (refine wpPar_pure rfl (by rfl) _ (fun W hW => by
                  have b1 := HBY.out W hW
                  have c1 := HC.out W hW
                  have q := HVV.out
                  go_simp
                  exact rfl) ?_; simp only [Act.put, List.setIfInBounds_toArray, List.set_cons_zero, List.set_cons_succ])
              refine wpPar_adds rfl (by rfl) (fun W hW hd => ?_) (fun v11 hv => ?_)
              · unfold Gives
                have q := HVV.out
                have c1 := HC.out W hW
                go_simp
                refine gives_call (Es.entry6 x VV W) ?_
                rintro e w3 ⟨s, k, rfl, s2, hk64, kN⟩
                refine ⟨_, rfl, hW.then kN (fun _ _ h => h.elim), ⟨s, k, rfl, s2, hk64⟩, trivial, keeps_of fun f hf hs hl hne u hfu => ?_⟩
                simp only [List.mem_cons, List.not_mem_nil, or_false] at hf
                rcases hf with rfl | rfl | rfl | rfl
                · exact absurd rfl hne
                · (obtain ⟨g, e1, e2, e3, e4⟩ := hfu; exact ⟨g, e1, e2, e3, e4.kept kN (fun h => h)⟩)
                · (obtain ⟨e, e1, e2⟩ := hfu; exact ⟨e, e1, e2.kept kN (fun _ _ h => h)⟩)
                · exact Po.kept hfu kN (fun _ _ h => h)
              obtain ⟨s11, k11, rfl, q11, r11⟩ : ∃ s, ∃ k : Nat, v11 = entV s VV k ∧ s ∈ sixN ∧ k < 18446744073709551616 := hv
              simp only [Act.put, List.setIfInBounds_toArray, List.set_cons_zero, List.set_cons_succ]
              refine wpPar_adds rfl (by rfl) (fun W hW hd => ?_) (fun v12 hv => ?_)
              · unfold Gives
                rw [exec_one_item 24 (.tmp 72) rfl Es.rtEnt16 (by decide) (A := #[.string s11, .int .i64 VV, .int .u64 (k11 : Int)]) rfl rfl]
                have kN : Kept None W (W.alloc (.cells #[.string s11, .int .i64 VV, .int .u64 (k11 : Int)] 29)) := (Kept.refl None W).alloc _
                refine ⟨hW.then kN (fun _ _ h => h.elim), ⟨_, rfl⟩, ⟨_, rfl, ⟨s11, VV, k11⟩, ⟨⟨by have := six_size s11 q11; show s11.size ≤ _; omega, r11⟩, q11⟩, Blk.new _ _ _⟩, keeps_of fun f hf hs hl hne u hfu => ?_⟩
                simp only [List.mem_cons, List.not_mem_nil, or_false] at hf
                rcases hf with rfl | rfl | rfl | rfl
                · exact hfu
                · exact absurd rfl hne
                · (obtain ⟨e, e1, e2⟩ := hfu; exact ⟨e, e1, e2.kept kN (fun _ _ h => h)⟩)
                · exact Po.kept hfu kN (fun _ _ h => h)
              obtain ⟨g12, rfl⟩ : ∃ g, v12 = .slice (some ⟨g, 0, none⟩) 1 1 := hv
              simp only [Act.put, List.setIfInBounds_toArray, List.set_cons_zero, List.set_cons_succ]
              refine wpPar_adds rfl (by rfl) (fun W hW hd => ?_) (fun v13 hv => ?_)
              · have hO : Po 3 29 W w1.heap.size (.slice ab nb cb) (entsC b) := hd 100 (List.Mem.tail _ (List.Mem.head _))
                obtain ⟨g, hgg, e, he, hg3⟩ : ∃ g, Value.slice (some ⟨g12, 0, none⟩) 1 1 = .slice (some ⟨g, 0, none⟩) 1 1 ∧ ∃ e : Ent, (e.Ok ∧ e.n ∈ sixN) ∧ Blk W g (entC e).toArray 29 := hd 10 (List.Mem.head _)
                obtain rfl : g12 = g := by simpa using hgg
                have hu : Ps 3 W 0 W.heap.size (.slice (some ⟨g12, 0, none⟩) 1 1) (entsC [e]) := R16.ps_blk (x := entC e) hg3 rfl
                refine gives_append_po _ _ 24 rfl Es.rtEnt16 (by decide) rfl rfl hO hu (entsC_one _) (by rw [entsC_len, entsC_len]; have := HBL.out; simp; omega) (Nat.le_trans HZ9.out hW.size) ?_
                intro a' n' c' W' hP kS o9
                have kN : True := trivial
                rw [← entsC_app] at hP
                refine ⟨hW.then kS (fun i hi h => h), ⟨_, _, _, rfl⟩, ⟨e, he, hP⟩, keeps_of fun f hf hs hl hne u hfu => ?_⟩
                simp only [List.mem_cons, List.not_mem_nil, or_false] at hf
                rcases hf with rfl | rfl | rfl | rfl
                · exact hfu
                · exact absurd (List.Mem.head _) hs
                · exact absurd rfl hne
                · exact absurd (List.Mem.tail _ (List.Mem.head _)) hs
              obtain ⟨a13, n13, c13, rfl⟩ : ∃ a n c, v13 = .slice a n c := hv
              simp only [Act.put, List.setIfInBounds_toArray, List.set_cons_zero, List.set_cons_succ]
              iterate 1 (refine wpPar_pure rfl (by rfl) _ (fun W hW => by
                  have b1 := HBY.out W hW
                  have c1 := HC.out W hW
                  have q := HVV.out
                  go_simp
                  exact rfl) ?_; simp only [Act.put, List.setIfInBounds_toArray, List.set_cons_zero, List.set_cons_succ])
              refine wpPar_nil (fun W hW hG => ?_)
              obtain ⟨en, hen, bz⟩ : ∃ e : Ent, (e.Ok ∧ e.n ∈ sixN) ∧ Po 3 29 W w1.heap.size (.slice a13 n13 c13) (entsC (b ++ [e])) := hG 11
              have KW := hid (K9.out.then hW (fun q hq h => by have := (L5.out q h).1; omega))
              have BZ := hid bz
              have HB2 : Hid (EntSix (b ++ [en]) ∧ (b ++ [en]).length ≤ i + 1) := hid ⟨HB.out.1.snoc hen, by have := HB.out.2; simp; omega⟩
              clear hG bz hW hen X5 L5 HBY HC HC0 HZ9 HVV K9 P9
              go_wp2
              go_roundg (M - (i + 1))
              case measure => omega
              case rel => exact ⟨i + 1, a13, n13, c13, b ++ [en], by go_num, rfl, by omega, Nat.le_refl _, KW, BZ, HB2⟩
            · have hz : ¬ (i : Int) < (M : Int) := by omega
              have hnb : nb = b.length := by
                obtain ⟨_, _, q3⟩ := HP.out.form
                rw [entsC_len] at q3
                injection q3
              have HNB := hid (show nb = b.length ∧ nb ≤ 6 from ⟨hnb, by have := HB.out.2; have := HM.out; omega⟩)
              have wT : IntKind.i64.wrap (T + 1) = T + 1 := by rw [IntKind.wrap_i64]; have := HTT.out.1; omega
              have hA1 := HC.out.1 (.slice ad N cd) (.slice ab nb cb) 0 w1.heap.size w1.heap.size wr.heap.size d (T + 1) b wr (F1.out.ps wr HW.out) (HP.out.ps (Nat.le_refl _)) F1.out.rt F1.out.ok HB.out.1.ok.w (Nat.le_trans F1.out.len (by decide)) (by have := HNB.out; omega)
              have hno := addF_no (l := d) (p := T + 1) (b := b)
              have hyes := addF_yes (l := d) (p := T + 1) (b := b)
              have hok2 := (addF_ok (p := T + 1) F1.out.ok HB.out.1.ok)
              obtain ⟨⟨D, ok⟩, hAD⟩ : ∃ z, z = addF d (T + 1) b := ⟨_, rfl⟩
              rw [← hAD] at hA1 hno hyes hok2
              have HA1 := hid hA1
              have HNO := hid hno
              have HYES := hid hyes
              have HOK := hid hok2
              clear hnb hA1 hno hyes hok2 hAD
              go_wp2_with fail
              refine HA1.out.mono ?_
              rintro e w5 ⟨u5, rfl, k5, p5⟩
              obtain ⟨a5, n5, c5, rfl, hn5⟩ : ∃ a n c, u5 = .slice a n c ∧ n = D.length := by
                obtain ⟨a5, c5, h5, _⟩ := p5.form
                rw [knosC_len] at h5
                exact ⟨a5, _, c5, h5, rfl⟩
              have HN5 := hid hn5
              clear hn5
              have K5 := hid (HW.out.trans k5)
              have P5 := hid p5
              have PB := hid (HP.out.kept k5 (fun _ _ h => h))
              clear k5 p5 HA1 HW HP
              cases ok with
              | false =>
                have hDd : D = d := HNO.out rfl
                have hkn := Hr.known (.slice ad N cd) (.slice a5 n5 c5) _ _ _ _ d d w5 (F1.out.ps w5 K5.out) (hDd ▸ P5.out) (Nat.le_trans F1.out.len (by decide))
                rw [show knosEq d d = true from decide_eq_true rfl] at hkn
                have HKN := hid hkn
                clear hkn hDd
                go_wp2_with (first | go_skip | fail)
                refine HKN.out.mono ?_
                rintro e w6 ⟨rfl, k6⟩
                have K6 := hid ((K1.out.trans K5.out).trans k6)
                clear k6 HKN
                go_wp2_with (first | go_skip | fail)
                go_ret
                exact ⟨rfl, K6.out⟩
              | true =>
                have AD := hid (HYES.out rfl)
                have hDl : n5 = N + nb := by rw [HN5.out, AD.out.len, ← HN.out.1, ← HNB.out.1]
                subst hDl
                have hrt := AD.out.right F1.out.rt
                have HRT := hid hrt
                have HDN := hid (show D.length ≤ 1000 by have := HN.out; have := HNB.out; have := HN5.out; omega)
                have wnn : IntKind.i64.wrap ((N : Int) + (nb : Int)) = (N : Int) + (nb : Int) := by rw [IntKind.wrap_i64]; have := HN.out; have := HNB.out; omega
                have hI5 := HC.out.2.1 (.slice a5 (N + nb) c5) _ _ D T w5 P5.out hrt HOK.out.1 (by have := HDN.out; omega)
                rw [items_elder AD.out, ← HIT.out] at hI5
                have HI5 := hid hI5
                clear hrt hI5
                go_wp2_with (first | go_skip | fail)
                refine HI5.out.mono ?_
                rintro e w6 ⟨u6, rfl, i6, k6⟩
                have K6 := hid (K5.out.trans k6)
                have hsm := Tr.same u6 (.slice aw nw cw) _ _ _ _ IT w6 i6 (IW.out.kept K6.out (fun _ _ _ h => h)) HIL.out
                have HSM := hid hsm
                have HSZ := hid k6.size
                have P6 := hid (P5.out.kept k6 (fun _ _ _ h => h))
                have B6 := hid (PB.out.kept k6 (fun _ _ h => h))
                clear k6 i6 hsm HI5 P5 PB K5
                go_wp2_with (first | go_skip | fail)
                refine HSM.out.mono ?_
                rintro e w9 ⟨rfl, k9⟩
                have K9 := hid ((K1.out.trans K6.out).trans k9)
                have FY : Hid (Facts w9 (.slice a5 (N + nb) c5) D) := hid ⟨fun W hW => (P6.out.kept (k9.trans hW) (fun _ _ _ h => h)).wider (Nat.le_refl _) (Nat.le_trans HSZ.out k9.size), HRT.out, HOK.out.1, HDN.out⟩
                have B9 := hid (B6.out.kept k9 (fun _ _ h => h))
                have KR9 := hid (Kept.refl None w9)
                clear k9 HSM P6 B6 K6 wnn
                go_wp2_with (first | go_skip | fail)
                go_loopg [15] nb (fun kx s15 wr => ∃ j : Nat, s15 = .int .i64 j ∧ j ≤ nb ∧ nb - j ≤ kx ∧ Hid (Kept None w9 wr))
                case atStart => exact ⟨0, rfl, Nat.zero_le _, Nat.le_refl _, KR9⟩
                case round =>
                  obtain ⟨j, rfl, hj, hjx, HJ⟩ := hrel
                  by_cases hjn : j < nb
                  · have hjz : (j : Int) < (nb : Int) := by omega
                    have wj : IntKind.i64.wrap ((j : Int) + 1) = (j : Int) + 1 := by rw [IntKind.wrap_i64]; have := HNB.out.2; omega
                    have jb : j < b.length := by have := HNB.out.1; omega
                    have hem := List.getElem_mem jb
                    obtain ⟨e, hee⟩ : ∃ z, z = b[j] := ⟨_, rfl⟩
                    have HCE : Hid (∀ W, Kept None w9 W → ∃ gb ob, ab = some ⟨gb, ob, none⟩ ∧ W.cell? ⟨gb, ob + j * 3, none⟩ = some (.string e.n) ∧ W.cell? ⟨gb, ob + j * 3 + 1, none⟩ = some (.int .i64 e.v)) := hid (fun W hW => by
                      obtain ⟨gb, ob, qb, hcb⟩ := ((B9.out.kept hW (fun _ _ h => h)).ps (Nat.le_refl _)).ent (by omega)
                      exact ⟨gb, ob, qb, by rw [hee]; exact (hcb j jb).1, by rw [hee]; exact (hcb j jb).2.1⟩)
                    rw [← hee] at hem
                    have HEM := hid hem
                    have hev := AD.out.ver F1.out.rt hem
                    obtain ⟨gb, ob, hab, _, _⟩ := HCE.out w9 (Kept.refl _ _)
                    subst hab
                    have HCF : Hid (∀ W, Kept None w9 W → W.cell? ⟨gb, ob + j * 3, none⟩ = some (.string e.n) ∧ W.cell? ⟨gb, ob + j * 3 + 1, none⟩ = some (.int .i64 e.v)) := hid (fun W hW => by
                      obtain ⟨g2, o2, q2, q3⟩ := HCE.out W hW
                      obtain ⟨rfl, rfl⟩ : gb = g2 ∧ ob = o2 := by simpa using q2
                      exact q3)
                    have HEV := hid hev
                    obtain ⟨en, hen⟩ : ∃ z, z = e.n := ⟨_, rfl⟩
                    obtain ⟨ev, hevv⟩ : ∃ z, z = e.v := ⟨_, rfl⟩
                    have HCH : Hid (∀ v : Int, 1 ≤ v → v ≤ ev → ∃ k, finK D en v = (k, true) ∧ k.e.v = v ∧ (k.p = T + 1 ↔ v = ev)) := hid (fun v q1 q2 => by rw [hen, hevv]; exact AD.out.chain F1.out.rt HEM.out q1 (by omega))
                    rw [← hen, ← hevv] at HCF
                    rw [← hevv] at HEV
                    clear hem hee HCE hev hen hevv jb HEM
                    go_wp2
                    go_loopg [16] (ev.toNat + 1) (fun kx s16 wr => ∃ v : Int, s16 = .int .i64 v ∧ 1 ≤ v ∧ v ≤ ev + 1 ∧ (ev + 1 - v).toNat ≤ kx ∧ Hid (Kept None w9 wr))
                    case atStart => exact ⟨1, rfl, by omega, by have := HEV.out; omega, by omega, HJ⟩
                    case round =>
                      obtain ⟨v, rfl, hv1, hv2, hvx, HV⟩ := hrel
                      have c1 := (HCF.out wr HV.out).2
                      by_cases hve : v ≤ ev
                      · have hvd : decide (v ≤ ev) = true := decide_eq_true hve
                        have c0 := (HCF.out wr HV.out).1
                        obtain ⟨K, hK, hKv, hKp⟩ := HCH.out v hv1 hve
                        have hf := FY.out.find HC.out.2.2.2 HV.out en v
                        rw [hK] at hf
                        obtain ⟨⟨kn, kv, kk⟩, kp⟩ := K
                        have hkv : kv = v := hKv
                        subst hkv
                        have hkp : kp = T + 1 ↔ kv = ev := hKp
                        have HF := hid hf
                        have HKP := hid hkp
                        clear hK hKv hKp hkp hf
                        go_wp2_with fail
                        refine HF.out.mono ?_
                        rintro e' w10 ⟨rfl, k10⟩
                        go_upto_region 30 with fail
                        obtain ⟨w11, hw⟩ : ∃ z, z = w10.alloc (.cells #[.string kn, .int .i64 kv, .int .u64 (kk : Int), .int .i64 kp] 31) := ⟨_, rfl⟩
                        obtain ⟨g11, hg⟩ : ∃ z, z = w10.heap.size := ⟨_, rfl⟩
                        have ka : Kept None wr w11 := by rw [hw]; exact k10.alloc _
                        have bb11 : Blk w11 g11 #[.string kn, .int .i64 kv, .int .u64 (kk : Int), .int .i64 kp] 31 := by rw [hw, hg]; exact Blk.new _ _ _
                        rw [← hw, ← hg]
                        have s1 : w11.cell? ⟨g11, 1, none⟩ = some (.int .i64 kv) := bb11.cell 1
                        have s3 : w11.cell? ⟨g11, 3, none⟩ = some (.int .i64 kp) := bb11.cell 3
                        have s4 := (HCF.out w11 (HV.out.trans ka)).2
                        have HKA := hid (HV.out.trans ka)
                        have wv : IntKind.i64.wrap (kv + 1) = kv + 1 := by rw [IntKind.wrap_i64]; have := HEV.out; omega
                        clear hw hg ka bb11 k10 HF c0 c1
                        by_cases heq : kv = ev
                        · have hp := HKP.out.2 heq
                          subst hp
                          subst heq
                          go_quiet (fail)
                          obtain ⟨w12, hw12⟩ : ∃ z, z = w11.drewN nq := ⟨_, rfl⟩
                          have HKB := hid (HKA.out.trans (hw12 ▸ Kept.toDrewN None w11 nq))
                          rw [← hw12]
                          clear hw12 s1 s3 s4
                          go_wp2
                          go_roundg ((kv + 1 - (kv + 1)).toNat)
                          case measure => omega
                          case rel => exact ⟨kv + 1, rfl, by omega, by omega, by omega, HKB⟩
                        · have hp : ¬ kp = T + 1 := fun q => heq (HKP.out.1 q)
                          have t1 : (kv == ev) = false := beq_eq_false_iff_ne.2 heq
                          have t2 : decide (kv = ev) = false := decide_eq_false heq
                          have t3 : (kp == T + 1) = false := beq_eq_false_iff_ne.2 hp
                          have t4 : decide (kp = T + 1) = false := decide_eq_false hp
                          go_quiet (fail)
                          obtain ⟨w12, hw12⟩ : ∃ z, z = w11.drewN nq := ⟨_, rfl⟩
                          have HKB := hid (HKA.out.trans (hw12 ▸ Kept.toDrewN None w11 nq))
                          rw [← hw12]
                          clear hw12 s1 s3 s4
                          go_wp2
                          go_roundg ((ev + 1 - (kv + 1)).toNat)
                          case measure => omega
                          case rel => exact ⟨kv + 1, rfl, by omega, by omega, Nat.le_refl _, HKB⟩
                      · have hvd : decide (v ≤ ev) = false := decide_eq_false hve
                        go_wp2
                        go_roundg (nb - (j + 1))
                        case measure => omega
                        case rel => exact ⟨j + 1, by go_num, by omega, Nat.le_refl _, HV⟩
                  · have hjz : ¬ (j : Int) < (nb : Int) := by omega
                    have KE := hid (K9.out.trans HJ.out)
                    go_wp2
                    go_ret
                    exact ⟨rfl, KE.out⟩
end P16
end Go.Proofs.Ytglibdggoobocaa
namespace Go.Proofs.Ytglibdggoobocaa
open Go.ChangeShapes Go.WideShapes Go.ChangeAt Go.RowKit Go.Pm

theorem laidOut : laidOutB Try.prog = true := by kernel_rfl
theorem ownKnobs : ownKnob Try.prog.godebug = none := by kernel_rfl
theorem rBool : Try.prog.underlying 4 = some .bool := by kernel_rfl
theorem cByte : Try.prog.cellsOf 5 = 1 := by kernel_rfl

set_option maxRecDepth 100000 in
theorem directoryChains_lifted (os : Os) (started : os.Started) (H : Type) (enc : TypeId × Value → H) :
    ReturnsInHanded {} Try.checked os 4 .any (Rows.directoryChainsSpec.pre6 enc Try.prog Try.f4 Rows.directoryChainsRow.domain false) (Rows.directoryChainsSpec.post enc Try.prog Try.f4 false true false false) := by
  refine returnsInHanded_of_change (C := Try.checked) ownKnobs started (by kernel_rfl) Try.func4
    (ChangeSpec.witness6 (enc := enc) (C := Try.checked) false ⟨#[], #[.slice none 0 0, .slice none 0 0], []⟩ 8 (by kernel_rfl) (by kernel_rfl) (by kernel_rfl) (by kernel_rfl)) ?_
  intro W base args ds gs before hval0 hW _ _
  have hval : ∀ (j : Nat) t v, Try.f4.params[j]? = some t → args[j]? = some v → Value.okWide Try.prog W .any base t v := hval0
  have hlt : ∀ x ∈ before, x.block < W.heap.size := fun x hx => by simpa using hW.lt x hx
  have hW' := hW
  obtain ⟨p, q, hA0, hV, rfl, hfz, hnd⟩ := hW
  obtain ⟨rfl, rfl⟩ := trodVars_none hV
  have hA : DataW.TrodAll enc Try.prog W 0 (fun _ => true) true Try.f4.params.toList args.toList ds p := hA0
  rw [Try.params4] at hA hval
  obtain ⟨v0, v1, d0, d1, p0, p1, rfl, rfl, rfl, h0, h1⟩ := trodAll_two hA
  obtain ⟨l, hl⟩ := openBs tBytes' tByte cByte (hval 0 22 v0 rfl rfl) h0 (fun x hx => hlt x (by simp [hx]))
  obtain ⟨ks, hks⟩ := openBs tBytes' tByte cByte (hval 1 22 v1 rfl rfl) h1 (fun x hx => hlt x (by simp [hx]))
  refine (P16.chains Dr.right Dr.latest Dr.find Dr.add Dr.items v0 v1 _ _ _ _ l ks W hl hks).mono fun e W' ⟨he, hk⟩ => ?_
  subst he
  exact ⟨_, rfl, law_post (P := Try.prog) (f := Try.f4) rfl rfl rBool laidOut (by kernel_rfl) hW' rfl rfl rfl (hk.below (fun _ _ h => h))⟩

theorem directoryChains_holds : Rows.DirectoryChainsSaid :=
  OpenClaim.holds_of_wide 4 Try.f4 rfl rfl rfl rfl rfl rfl rfl ⟨rfl, rfl, rfl, rfl, rfl⟩ rfl rfl rfl rfl rfl (by kernel_rfl) Try.func4 (by kernel_rfl)
    (of_decide_eq_true (by kernel_rfl)) (by unfold Func.isWrapper; first | (rw [if_pos (by decide +kernel)]; kernel_rfl) | (rw [if_neg (by decide +kernel)]; exact ⟨rfl, rfl⟩))
    (fun os started H enc _ => directoryChains_lifted os started H enc)
end Go.Proofs.Ytglibdggoobocaa
