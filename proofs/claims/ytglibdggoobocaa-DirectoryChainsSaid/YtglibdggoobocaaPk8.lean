/- Texts joined: DirI16, DirIt16, DirBs16. -/
import Derived.Test.YtglibdggoobocaaPk6
import Derived.Test.YtglibdggoobocaaPk7
import Derived.Test.YtglibdggoobocaaPk4
import Derived.Deep.QuietTactic
import Derived.BigQuiet
namespace Go.Pm
open Go Go.RowKit
theorem fin_lastI (p : Int) : ∀ (l : List Kno) (i : List UInt8), lastI ((finL p l).map itemK) i = lastI (itemsF l p) i
  | [], _ => rfl
  | x :: l, i => by
    have ih := fin_lastI p l i
    rw [itemsF_cons]
    unfold finL
    by_cases hx : x.p ≤ p
    · rw [if_pos hx, lastI_cons]
      by_cases hf : finB p x l = true
      · rw [if_pos hf, List.map_cons, lastI_cons, ih]
      · rw [if_neg hf, ih]
        cases hL : lastI (itemsF l p) i with
        | some y => rfl
        | none =>
          rw [Option.none_or]
          by_cases hi : (itemK x).i = i
          · exfalso
            unfold finB at hf
            rw [decide_eq_true hx, Bool.true_and, Bool.not_eq_true', Bool.not_eq_false] at hf
            cases l with
            | nil => cases hf
            | cons y l =>
              unfold nextB at hf
              rw [Bool.and_eq_true, decide_eq_true_eq] at hf
              refine lastI_none_iff.1 hL (itemK y) (mem_itemsF.2 ⟨y, List.mem_cons_self .., hf.2, rfl⟩) ?_
              rw [← hi]
              exact itemK_i (eqN_iff.1 hf.1)
          · rw [if_neg hi]
    · rw [if_neg hx]
      have hf : ¬ finB p x l = true := by
        unfold finB
        rw [decide_eq_false hx]
        simp
      rw [if_neg hf]
      exact ih
theorem set_finL (p : Int) (l : List Kno) : setI ((finL p l).map itemK) = setI (itemsF l p) := set_is (srt_setI _) fun z => (mem_setI z _).trans (by rw [fin_lastI])
theorem finL_len (p : Int) : ∀ l : List Kno, (finL p l).length ≤ l.length
  | [] => Nat.le_refl _
  | x :: l => by
    have ih := finL_len p l
    unfold finL
    split
    · simpa using ih
    · exact Nat.le_succ_of_le ih
end Go.Pm
namespace Go.Proofs.Ytglibdggoobocaa
open Go.RowKit Go.Pm
namespace Dr
set_option maxRecDepth 100000 in
set_option maxHeartbeats 8000000 in
/-- isFollowed. -/
theorem isFollowed (v : Value) (lo hi : Nat) (l : List Kno) (i : Nat) (p : Int) (w : World) (hv : Ps 4 w lo hi v (knosC l)) (hi : i < l.length) (hlen : l.length ≤ 1000000) :
    Calls Try.prog 35 #[v, .int .i64 (i : Int), .int .i64 p] w fun e w' => e = .returned (.bool (nextB p l[i] (l.drop (i + 1)))) ∧ Kept None w w' := by
  obtain ⟨a, cap, rfl, g1, g2, g3⟩ := hv.form
  rw [knosC_len] at g1 hv ⊢
  obtain ⟨bb, o, q1, hc⟩ := hv.kno (by omega)
  obtain rfl := q1
  obtain ⟨j, hj⟩ : ∃ j, j = i + 1 := ⟨_, rfl⟩
  have wj : IntKind.i64.wrap ((i : Int) + 1) = (j : Int) := by rw [IntKind.wrap_i64]; omega
  have c0 := (hc i hi).1
  have hnb := nextB_at p l[i] l i
  obtain ⟨xn, hxn⟩ : ∃ z, z = l[i].e.n := ⟨_, rfl⟩
  rw [← hxn] at c0 hnb
  obtain ⟨R, hR⟩ : ∃ R, R = nextB p l[i] (l.drop (i + 1)) := ⟨_, rfl⟩
  rw [← hR] at hnb ⊢
  obtain ⟨n, hn⟩ : ∃ n, n = l.length := ⟨_, rfl⟩
  have hzi : (i : Int) < (n : Int) := by omega
  by_cases hjn : j < n
  · have hjl : i + 1 < l.length := by omega
    rw [dif_pos hjl] at hnb
    have hz : (j : Int) < (n : Int) := by omega
    have hd : decide ((j : Int) < (n : Int)) = true := decide_eq_true hz
    have c1 := (hc (i + 1) hjl).1
    have c3 := (hc (i + 1) hjl).2.2.2.1
    obtain ⟨yn, hyn⟩ : ∃ z, z = l[i + 1].e.n := ⟨_, rfl⟩
    obtain ⟨yp, hyp⟩ : ∃ z, z = l[i + 1].p := ⟨_, rfl⟩
    rw [← hyn] at c1 hnb
    rw [← hyp] at c3 hnb
    rw [← hj] at c1 c3
    obtain ⟨E, hE⟩ : ∃ E, E = eqN yn xn := ⟨_, rfl⟩
    obtain ⟨P, hP⟩ : ∃ P, P = decide (yp ≤ p) := ⟨_, rfl⟩
    have HR := hid (show R = (E && P) by rw [hnb, hE, hP])
    have e1 : (yn.toList == xn.toList) = E := by rw [hE]; rfl
    have e2 : decide (yp ≤ p) = P := hP.symm
    rw [← hn]
    clear hc hxn hR hnb hjl hyn hyp hE hP hn hv hi hlen g1 g2 g3 hj hjn
    cases E with
    | true =>
      go_enter Try.func35, Try.ntmps35
      go_wp2_with fail
      go_quiet (fail)
      go_wp2
      go_ret
      exact ⟨by rw [HR.out]; rfl, Kept.toDrewN _ _ _⟩
    | false =>
      go_enter Try.func35, Try.ntmps35
      go_wp2_with fail
      go_quiet (fail)
      go_wp2
      go_ret
      exact ⟨by rw [HR.out]; rfl, Kept.toDrewN _ _ _⟩
  · have hz : ¬ (j : Int) < (n : Int) := by omega
    have hd : decide ((j : Int) < (n : Int)) = false := decide_eq_false hz
    have hd2 : decide (j < n) = false := decide_eq_false hjn
    rw [dif_neg (by omega)] at hnb
    have HR := hid hnb
    rw [← hn]
    clear hc hxn hR hnb hn hv hi hlen g1 g2 g3 hj hjn
    go_enter Try.func35, Try.ntmps35
    go_wp2_with fail
    go_quiet (fail)
    go_wp2
    go_ret
    exact ⟨by rw [HR.out]; rfl, Kept.toDrewN _ _ _⟩
end Dr
end Go.Proofs.Ytglibdggoobocaa
namespace Go.Proofs.Ytglibdggoobocaa
open Go.RowKit Go.Pm
namespace Dr
set_option maxRecDepth 100000 in
set_option maxHeartbeats 16000000 in
/-- Items. -/
theorem items : ItemsC := by
  intro v lo hi l p w hv hrt hok hlen
  obtain ⟨a, cap, rfl, g1, g2, g3⟩ := hv.form
  rw [knosC_len] at g1 hv ⊢
  obtain ⟨n, hn⟩ : ∃ n, n = l.length := ⟨_, rfl⟩
  rw [← hn] at g1 hv ⊢
  have hIF := fun W (hW : Kept None w W) (i : Nat) (hi' : i < l.length) => isFollowed (.slice a n cap) lo hi l i p W (hv.kept hW (fun _ _ _ h => h)) hi' hlen
  have HIF := hid hIF
  have HV := hid hv
  have HN := hid (And.intro hn (And.intro hlen hok))
  clear hv hn hok g3 hIF hlen hrt
  have K0 := hid (Kept.refl None w)
  go_enter Try.func22, Try.ntmps22
  go_wp2
  go_loopg [5, 10] n (fun kx s5 s10 wr => ∃ (k : Nat) (ao : Option Addr) (no co : Nat) (q : List Kno), s10 = .int .i64 (k : Int) ∧ s5 = .slice ao no co ∧ k ≤ n ∧ n - k ≤ kx ∧ Hid (Kept None w wr) ∧ Hid (Ito 54 wr w.heap.size (.slice ao no co) (q.map itemK)) ∧ Hid (finL p l = q ++ finL p (l.drop k) ∧ q.length ≤ k))
  case atStart => exact ⟨0, _, _, _, [], rfl, rfl, Nat.zero_le _, Nat.le_refl _, K0, hid (Ito.nil _ _ _), hid ⟨rfl, Nat.le_refl _⟩⟩
  case round =>
    obtain ⟨k, ao, no, co, q, rfl, rfl, hk, hkx, HK, HO, HQ⟩ := hrel
    by_cases hlt : k < n
    · have hz : (k : Int) < (n : Int) := by omega
      have wk : IntKind.i64.wrap ((k : Int) + 1) = (k : Int) + 1 := by rw [IntKind.wrap_i64]; have := HN.out.2.1; omega
      have kl : k < l.length := by have := HN.out.1; omega
      obtain ⟨bb, o, q1, hc⟩ := (HV.out.kept HK.out (fun _ _ _ h => h)).kno (by omega)
      obtain rfl := q1
      have rX := (hc k kl).2.2.2.2.1
      have hfa := fin_at p l k kl
      have hxo := HN.out.2.2 _ (List.getElem_mem kl)
      have hIF := fun W hW => HIF.out W hW k kl
      obtain ⟨x, hx⟩ : ∃ x, x = l[k] := ⟨_, rfl⟩
      rw [← hx] at rX hfa hxo hIF
      have HFA := hid (And.intro hfa hxo)
      have HIX := hid hIF
      clear hc hx hfa hxo hIF kl
      obtain ⟨G, hG⟩ : ∃ z, z = wr.heap.size := ⟨_, rfl⟩
      have z4 := Blk.new wr #[.string ⟨#[]⟩, .int .i64 0, .int .u64 0, .int .i64 0] 31
      have HK4 := hid (show Kept None wr (wr.alloc (.cells #[.string ⟨#[]⟩, .int .i64 0, .int .u64 0, .int .i64 0] 31)) from (Kept.refl _ _).alloc _)
      go_upto_region 5 with (first | (refine wpList_load_at (.refl _) _ _ rfl rfl rX aKno ?_) | (refine wpList_store_blk (.refl _) _ _ _ rfl rfl rfl z4 aKno rfl (kno_all _) ?_; intro w4 x4 k4) | fail)
      have HX4 := hid x4
      have K4 := hid ((HK.out.trans HK4.out).then k4 (fun i hi (h : i = wr.heap.size) => by have := HK.out.size; omega))
      have HO4 := hid ((HO.out.kept HK4.out (fun _ _ h => h)).kept k4 (fun j hj (h : j = wr.heap.size) => by have := (HO.out.own j hj).2; omega))
      rw [← hG] at HX4 ⊢
      clear rX z4 x4 k4 HK HK4 hG HO
      obtain ⟨xp, hxp⟩ : ∃ z, z = x.p := ⟨_, rfl⟩
      have cx3 : w4.cell? ⟨G, 3, none⟩ = some (.int .i64 xp) := by rw [hxp]; exact HX4.out.cell 3
      have HXP := hid hxp
      clear hxp
      by_cases hp : xp ≤ p
      · have d1 : decide (xp ≤ p) = true := decide_eq_true hp
        have HI4 := hid (HIX.out w4 K4.out)
        obtain ⟨B, hB⟩ : ∃ B, B = nextB p x (l.drop (k + 1)) := ⟨_, rfl⟩
        rw [← hB] at HI4
        have HB := hid (show finB p x (l.drop (k + 1)) = !B by unfold finB; rw [← HXP.out, d1, Bool.true_and, hB])
        clear hB
        go_wp2_with fail
        refine HI4.out.mono ?_
        rintro e w5 ⟨rfl, k5⟩
        have K5 := hid (K4.out.trans k5)
        have HO5 := hid (HO4.out.kept k5 (fun _ _ h => h))
        have HX5 := hid (HX4.out.kept k5 (fun h => h))
        clear k5 K4 HO4 HX4 cx3 d1 hp HI4
        cases B with
        | true =>
          have HQ6 : Hid (finL p l = q ++ finL p (l.drop (k + 1)) ∧ q.length ≤ k + 1) := hid (by
            obtain ⟨h1, h2⟩ := HQ.out
            rw [HFA.out.1, HB.out] at h1
            exact ⟨h1, by omega⟩)
          clear HQ
          go_wp2_with fail
          go_roundg (n - (k + 1))
          case measure => omega
          case rel => exact ⟨k + 1, _, _, _, q, by go_num, rfl, by omega, Nat.le_refl _, K5, HO5, HQ6⟩
        | false =>
          have HQ6 : Hid (finL p l = (q ++ [x]) ++ finL p (l.drop (k + 1)) ∧ (q ++ [x]).length ≤ k + 1) := hid (by
            obtain ⟨h1, h2⟩ := HQ.out
            rw [HFA.out.1, HB.out] at h1
            refine ⟨?_, by simp; omega⟩
            rw [List.append_assoc]
            exact h1)
          have HQL := hid HQ.out.2
          clear HQ
          have hI := fun W => Tr.item x.e.n x.e.v x.e.k W HFA.out.2.1 HFA.out.2.2
          have h64 := itC_len (itemK_len x)
          rw [show itemV ⟨indexH x.e.n, valueH x.e.v x.e.k⟩ = .agg (itC (itemK x)).toArray by show Value.agg ((indexH x.e.n ++ valueH x.e.v x.e.k).map u8v).toArray = _; rw [List.map_append]; rfl] at hI
          have hO := fun W => Its.one W 54 (itemK x) (itemK_len x)
          obtain ⟨XA, hXA⟩ : ∃ X, X = (itC (itemK x)).toArray := ⟨_, rfl⟩
          rw [← hXA] at hI hO
          have hXs : XA.size = 64 := by rw [hXA]; simpa using h64
          have HI := hid (And.intro hI (And.intro hO hXs))
          have rE : w5.rangeAt G 0 (entC x.e) := fun j v hj => by
            match j, hj with
            | 0, hj => obtain rfl := Option.some.inj hj; exact HX5.out.cell 0
            | 1, hj => obtain rfl := Option.some.inj hj; exact HX5.out.cell 1
            | 2, hj => obtain rfl := Option.some.inj hj; exact HX5.out.cell 2
            | j + 3, hj => simp at hj
          clear hI hO hXA hXs h64
          go_wp2_with (first | (refine wpList_load_at (.refl _) _ _ rfl rfl rE aEnt ?_) | fail)
          refine (HI.out.1 w5).mono ?_
          rintro e w6 ⟨rfl, kn⟩
          have k6 := K5.out.trans kn
          have o6 := HO5.out.kept kn (fun _ _ h => h)
          have k7 : Kept None w (w6.alloc (.cells XA 54)) := k6.alloc _
          have o7 := o6.alloc (.cells XA 54)
          have s7 := k7.size
          have hX := HI.out.2.2
          have hO7 := HI.out.2.1 w6
          have hqn : (q.map itemK).length ≤ 1000000 := by rw [List.length_map]; have := HQL.out; have := HN.out; omega
          clear kn k6 o6 rE K5 HO5 HX5
          go_wp2_with (first | (refine wpList_one_item (.refl _) _ _ rfl RTr.rtItems (by decide) rfl hX ?_) | (at_builtin; refine wpList_append_ito (v := .slice ao no co) (u := .slice (some ⟨w6.heap.size, 0, none⟩) 1 1) (.refl _) _ _ 46 rfl RTr.rtItems rfl rfl o7 hO7 (by simp at hqn ⊢; omega) s7 ?_; intro a8 n8 c8 w8 o8 k8 _) | fail)
          have K8 := hid (Kept.own k7 k8 (fun q hq => (o7.own q hq).1))
          rw [show q.map itemK ++ [itemK x] = (q ++ [x]).map itemK by rw [List.map_append]; rfl] at o8
          have HO8 := hid o8
          clear k7 k8 o7 o8 hO7 hqn s7
          go_roundg (n - (k + 1))
          case measure => omega
          case rel => exact ⟨k + 1, _, _, _, q ++ [x], by go_num, rfl, by omega, Nat.le_refl _, K8, HO8, HQ6⟩
      · have d1 : decide (xp ≤ p) = false := decide_eq_false hp
        have HQ6 : Hid (finL p l = q ++ finL p (l.drop (k + 1)) ∧ q.length ≤ k + 1) := hid (by
          obtain ⟨h1, h2⟩ := HQ.out
          have hfb : finB p x (l.drop (k + 1)) = false := by unfold finB; rw [← HXP.out, d1]; rfl
          rw [HFA.out.1, hfb] at h1
          exact ⟨h1, by omega⟩)
        clear HQ HX4
        go_wp2_with (first | go_skip | fail)
        go_roundg (n - (k + 1))
        case measure => omega
        case rel => exact ⟨k + 1, _, _, _, q, by go_num, rfl, by omega, Nat.le_refl _, K4, HO4, HQ6⟩
    · have hz : ¬ (k : Int) < (n : Int) := by omega
      obtain rfl : k = n := by omega
      have hq : finL p l = q := by
        have h := HQ.out.1
        rw [HN.out.1, List.drop_length] at h
        rw [h]
        exact List.append_nil _
      have hO := HO.out
      have hS := Tr.set (.slice ao no co) (.slice none 0 0) _ _ 0 0 (q.map itemK) [] wr (hO.its (Nat.le_refl _)) (Its.nil wr 0 0) (by have := HQ.out.2; have := HN.out; simp; omega)
      rw [List.append_nil, ← hq, set_finL] at hS
      have HS := hid hS
      clear hO hS HO HQ hq
      go_wp2_with fail
      refine HS.out.mono ?_
      rintro e w5 ⟨u, rfl, oU, kn⟩
      have k5 := HK.out.trans kn
      have oI := oU.its (Nat.le_refl _)
      obtain ⟨au, cu, rfl⟩ := oU.form
      have HI := hid (oI.wider (Nat.zero_le _) (Nat.le_refl _))
      clear kn oU oI HS
      go_wp2
      go_ret
      exact ⟨_, rfl, HI.out, k5⟩
end Dr
end Go.Proofs.Ytglibdggoobocaa
namespace Go.Proofs.Ytglibdggoobocaa
namespace Dr
theorem all16 : RightC ∧ LatestC ∧ FindC ∧ AddC ∧ ItemsC := ⟨right, latest, find, add, items⟩
end Dr
end Go.Proofs.Ytglibdggoobocaa
