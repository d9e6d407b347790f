/- Texts joined: RWhole15, LowRow, ScnF15, JrnF14, JrnCR14, JrnR14, SgPut, UpPut, JrnBd14, FmSum13, FrmCR13. -/
import Derived.Test.YtbebpnanhkcngaaPk6
import Derived.Test.YtbebpnanhkcngaaPk3
import Derived.OwnWalk
import Derived.Test.YtbebpnanhkcngaaPk1
import Derived.ProofKit
import Derived.Deep.Slices
import Derived.Laws.IdiomArrays
import Derived.Carry
import Derived.Test.YtbebpnanhkcngaaPk2
import Derived.Lib.Walk
import Derived.Test.YtbebpnanhkcngaaPk5
import Derived.Deep.CutBlock
import Derived.Deep.DeepCutAuto
namespace Go.Pm
open Go Go.RowKit
theorem rec_req {w : World} {b p : Nat} {x : Rec} (h : w.rangeAt b p (recC x)) : w.rangeAt b (p + 4) (reqC x.u) := fun j v hj => by
  rw [Nat.add_assoc]
  refine h (4 + j) v ?_
  match j, hj with
  | 0, hj => exact hj
  | 1, hj => exact hj
  | 2, hj => exact hj
  | 3, hj => exact hj
  | 4, hj => exact hj
  | 5, hj => exact hj
  | j + 6, hj => simp at hj
theorem rec_cells {w : World} {b p : Nat} {x : Rec} (h : w.rangeAt b p (recC x)) : w.cell? ⟨b, p, none⟩ = some (.int .i64 x.kind) ∧ w.cell? ⟨b, p + 1, none⟩ = some (.int .i64 x.seq) ∧ w.cell? ⟨b, p + 2, none⟩ = some (.int .i64 x.gen) ∧ w.cell? ⟨b, p + 3, none⟩ = some (.int .i64 x.count) ∧ w.cell? ⟨b, p + 10, none⟩ = some (.int .i64 x.tick) :=
  ⟨h 0 _ rfl, h 1 _ rfl, h 2 _ rfl, h 3 _ rfl, h 10 _ rfl⟩
theorem whole_no {r : Rec} {l : List Rec} (h : ¬ wholeB r l = true) : wholeF (r :: l) = ⟨0, [], false⟩ := by rw [wholeF_cons, if_neg h]
theorem whole_yes {r : Rec} {l : List Rec} (h : wholeB r l = true) : wholeF (r :: l) = ⟨r.gen, pendsF l, true⟩ := by rw [wholeF_cons, if_pos h]
theorem wholeB_iff (r : Rec) (l : List Rec) : wholeB r l = true ↔ r.kind = 1 ∧ r.count ≤ (l.length : Int) ∧ ∀ j (hj : j < l.length), (j : Int) < r.count → l[j].kind = 2 := by
  unfold wholeB
  rw [Bool.and_eq_true, Bool.and_eq_true, decide_eq_true_eq, decide_eq_true_eq, and_assoc]
  constructor
  · rintro ⟨h1, h2, h3⟩
    refine ⟨h1, h2, fun j hj hc => ?_⟩
    have := List.all_eq_true.1 h3 l[j] (List.mem_iff_getElem.2 ⟨j, by rw [List.length_take]; omega, by rw [List.getElem_take]⟩)
    exact of_decide_eq_true this
  · rintro ⟨h1, h2, h3⟩
    refine ⟨h1, h2, List.all_eq_true.2 fun x hx => ?_⟩
    obtain ⟨j, hj, rfl⟩ := List.mem_iff_getElem.1 hx
    rw [List.length_take] at hj
    rw [List.getElem_take, h3 j (by omega) (by omega)]
    rfl
theorem pends_cons {r : Rec} {l : List Rec} (h : r.kind = 1) : pendsF (r :: l) = pendsF l := by
  unfold pendsF
  rw [List.filter_cons_of_neg (by rw [h]; decide)]
theorem pends_take {l : List Rec} {i : Nat} (h : i < l.length) : pendsF (l.take (i + 1)) = pendsF (l.take i) ++ (if l[i].kind = 2 then [pnOf l[i]] else []) := by rw [take_snoc l i h, pendsF_snoc]
theorem nums15 {n : Nat} (h : n ≤ 1000000000) : wrap64 (n : Int) = (n : Int) ∧ IntKind.i64.wrap (n : Int) = (n : Int) := by
  rw [IntKind.wrap_i64]
  unfold wrap64
  omega
end Go.Pm
namespace Go.Proofs.Ytbebpnanhkcngaa
open Go.RowKit Go.Pm
namespace R12
theorem rtPen15 : RowTyK Try.prog 31 64 (.agg #[.string ⟨#[]⟩, .int .i64 0, .int .u64 0, .int .i64 0, .int .u64 0, .int .u64 0, .int .i64 0, .int .i64 0, .bool false]) 9 80 := rty15 (by kernel_rfl) (by kernel_rfl) (by rfl) (by decide)
set_option maxRecDepth 100000 in
set_option maxHeartbeats 16000000 in
theorem whole (v : Value) (lo hi : Nat) (l : List Rec) (w : World) (hv : Ps 12 w lo hi v (recsC l)) (hln : l.length ≤ 1000000000) :
    Calls Try.prog 14 #[v] w fun en w' => ∃ u, en = .returned (.tuple #[.int .i64 (wholeF l).gen, u, .bool (wholeF l).ok]) ∧ Kept None w w' ∧ Po 9 64 w' w.heap.size u (pensC (wholeF l).l) := by
  obtain ⟨av, nv, cv, rfl, hnv⟩ : ∃ a n c, v = .slice a n c ∧ n = l.length := by
    obtain ⟨a, c, h, _⟩ := hv.form
    rw [recsC_len] at h
    exact ⟨a, _, c, h, rfl⟩
  subst hnv
  match l, hv, hln with
  | [], _, _ =>
    go_enter Try.func14, Try.ntmps14
    go_wp2_with (first | go_skip | fail)
    go_ret3
    exact ⟨_, rfl, Kept.refl _ _, Po.nil _ _ _ _⟩
  | r :: rest, hv, hln =>
    obtain ⟨l, hl⟩ : ∃ l, l = r :: rest := ⟨_, rfl⟩
    rw [← hl] at hv hln ⊢
    have hn : l.length = rest.length + 1 := by rw [hl]; rfl
    have hpos : 0 < l.length := by omega
    obtain ⟨b, o, rfl, hbs, hcell⟩ := hv.rec hpos
    have h0 := hcell 0 hpos
    simp only [Nat.zero_mul, Nat.add_zero] at h0
    have e0 : l[0] = r := by simp only [hl]; rfl
    rw [e0] at h0
    obtain ⟨c0, _, c2, c3, _⟩ := rec_cells h0
    have n1 : ((l.length : Int) == 0) = false := by
      have : ¬ l.length = 0 := by omega
      simpa using this
    have n2 : (0 : Int) < (l.length : Int) := by omega
    obtain ⟨M, hM⟩ : ∃ m, m = rest.length := ⟨_, rfl⟩
    have n3 : (l.length : Int) - 1 = (M : Int) := by omega
    have n4 := nums15 (n := M) (by omega)
    obtain ⟨kd, hkd⟩ : ∃ k, k = r.kind := ⟨_, rfl⟩
    obtain ⟨C, hC⟩ : ∃ c, c = r.count := ⟨_, rfl⟩
    obtain ⟨G, hG⟩ : ∃ c, c = r.gen := ⟨_, rfl⟩
    rw [← hkd] at c0
    rw [← hC] at c3
    rw [← hG] at c2
    have q4 := n4.1
    have q5 := n4.2
    clear n4
    by_cases hk : kd = 1
    · subst hk
      by_cases hc : C ≤ (M : Int)
      · have d1 : decide ((M : Int) < C) = false := by simp; omega
        have HL := hid (And.intro hl (And.intro hn (And.intro hM (And.intro hkd hC))))
        have HN := hid (And.intro hln (And.intro hpos hc))
        have HG := hid hG
        have HBS := hid hbs
        have HCL := hid hcell
        clear hl hn hM hkd hC hln hpos hc hG hbs hcell h0 e0
        have HC0 := hid (And.intro c2 c3)
        go_enter Try.func14, Try.ntmps14
        go_wp2_with (first | go_skip | fail)
        clear c0 n1 n3 q4 q5 d1
        go_loopg [5] (l.length + 1) (fun kx s5 wr => ∃ i : Nat, s5 = .int .i64 (i : Int) ∧ 1 ≤ i ∧ i ≤ l.length ∧ l.length + 1 - i ≤ kx ∧ Hid ((i : Int) ≤ C + 1 ∨ i = 1) ∧ Hid (∀ j (hj : j < rest.length), j + 1 < i → rest[j].kind = 2) ∧ Hid (Kept None w wr))
        case atStart => exact ⟨1, rfl, Nat.le_refl _, HN.out.2.1, by omega, hid (.inr rfl), hid (fun j hj h => absurd h (by omega)), hid (Kept.refl _ _)⟩
        case round =>
        obtain ⟨i, rfl, h1, hi, hix, HI, HA, HS⟩ := hrel
        have cc3 : wr.cell? ⟨b, o + 3, none⟩ = some (.int .i64 C) := (HS.out.cell (p := ⟨b, o + 3, none⟩) HBS.out (fun h => h)).trans HC0.out.2
        by_cases hlt : (i : Int) ≤ C
        · have hlt' : decide ((i : Int) ≤ C) = true := by simpa using hlt
          have hin : i < l.length := by have := HN.out.2.2; have := HL.out.2.1; have := HL.out.2.2.1; omega
          have hib : (i : Int) < (l.length : Int) := Int.ofNat_lt.mpr hin
          have hci := (rec_cells (HCL.out i hin)).1
          obtain ⟨ki, hki⟩ : ∃ k, k = l[i].kind := ⟨_, rfl⟩
          rw [← hki] at hci
          have cci : wr.cell? ⟨b, o + i * 12, none⟩ = some (.int .i64 ki) := (HS.out.cell (p := ⟨b, o + i * 12, none⟩) HBS.out (fun h => h)).trans hci
          have hkr : ∀ hj : i - 1 < rest.length, rest[i - 1].kind = ki := fun hj => by
            rw [hki]
            have : l[i]? = rest[i - 1]? := by
              rw [HL.out.1]
              obtain ⟨m, rfl⟩ : ∃ m, i = m + 1 := ⟨i - 1, by omega⟩
              simp
            rw [List.getElem?_eq_getElem hin, List.getElem?_eq_getElem hj] at this
            injection this with this
            rw [this]
          have HKR := hid hkr
          have HLT := hid hlt
          have HIN := hid hin
          by_cases hk2 : ki = 2
          · have d1 : (ki == 2) = true := by simpa using hk2
            have d2 : (ki != 2) = false := by simpa using hk2
            have d3 : decide (ki = 2) = true := by simpa using hk2
            have d4 : (!decide (ki = 2)) = false := by simpa using hk2
            have HA2 : Hid (∀ j (hj : j < rest.length), j + 1 < i + 1 → rest[j].kind = 2) := hid (fun j hj h => by
              by_cases hji : j = i - 1
              · subst hji; rw [HKR.out hj]; exact hk2
              · exact HA.out j hj (by omega))
            have wi := nums15 (n := i + 1) (by have := HN.out.1; omega)
            have wi1 : wrap64 ((i : Int) + 1) = ((i + 1 : Nat) : Int) := wi.1
            have HW := hid wi1
            clear hk2 hci hki hkr hlt wi wi1 hin
            go_wp2_with fail
            go_roundg (l.length + 1 - (i + 1))
            case measure => have := HIN.out; omega
            case rel => exact ⟨i + 1, by first | rfl | rw [HW.out] | simp, by omega, HIN.out, Nat.le_refl _, hid (.inl (by have := HLT.out; omega)), HA2, HS⟩
          · have d1 : (ki == 2) = false := by simpa using hk2
            have d2 : (ki != 2) = true := by simpa using hk2
            have d3 : decide (ki = 2) = false := by simpa using hk2
            have d4 : (!decide (ki = 2)) = true := by simpa using hk2
            have hj : i - 1 < rest.length := by have := HL.out.2.1; omega
            have hno : ¬ wholeB r rest = true := fun h => hk2 (by
              have := ((wholeB_iff _ _).1 h).2.2 (i - 1) hj (by rw [← HL.out.2.2.2.2]; omega)
              rw [← hkr hj, this])
            have hF : wholeF l = ⟨0, [], false⟩ := by rw [HL.out.1]; exact whole_no hno
            have HF := hid hF
            clear hk2 hci hki hkr hlt hj hno hF hin
            go_wp2
            go_ret3
            rw [HF.out]
            exact ⟨_, rfl, HS.out, Po.nil _ _ _ _⟩
        · have hlt' : decide ((i : Int) ≤ C) = false := by simpa using hlt
          have hyes : wholeB r rest = true := (wholeB_iff _ _).2 ⟨HL.out.2.2.2.1.symm, by rw [← HL.out.2.2.2.2]; have := HN.out.2.2; have := HL.out.2.2.1; omega, fun j hj hc => HA.out j hj (by rw [← HL.out.2.2.2.2] at hc; omega)⟩
          have hF : wholeF l = ⟨r.gen, pendsF l, true⟩ := by rw [HL.out.1, pends_cons HL.out.2.2.2.1.symm]; exact whole_yes hyes
          have HF := hid hF
          have HP1 : Hid (pendsF (l.take 1) = []) := hid (by rw [HL.out.1]; show pendsF [r] = []; rw [pends_cons HL.out.2.2.2.1.symm]; rfl)
          obtain ⟨wO, hwO⟩ : ∃ wO, wO = wr := ⟨_, rfl⟩
          have KO := hid (show Kept None w wO by rw [hwO]; exact HS.out)
          rw [← hwO] at cc3 ⊢
          clear hlt hyes hF HS HA HI hix hi h1 hwO
          go_wp2_with fail
          clear cc3 hlt'
          go_loopg [6, 7] l.length (fun kx s6 s7 wr => ∃ (i : Nat) (a6 : Option Addr) (n6 c6 : Nat), s6 = .slice a6 n6 c6 ∧ s7 = .int .i64 (i : Int) ∧ i ≤ l.length ∧ l.length - i ≤ kx ∧ Hid (Kept None w wr) ∧ Hid (Po 9 64 wr w.heap.size (.slice a6 n6 c6) (pensC (pendsF (l.take i)))))
          case atStart => exact ⟨1, none, 0, 0, rfl, rfl, HN.out.2.1, by omega, KO, hid (by rw [HP1.out]; exact Po.nil _ _ _ _)⟩
          case round =>
          obtain ⟨i, a6, n6, c6, rfl, rfl, hi, hix, HS, HO⟩ := hrel
          have cc2 : wr.cell? ⟨b, o + 2, none⟩ = some (.int .i64 G) := (HS.out.cell (p := ⟨b, o + 2, none⟩) HBS.out (fun h => h)).trans HC0.out.1
          by_cases hlt : i < l.length
          · have hlt' : decide ((i : Int) < (l.length : Int)) = true := by simpa using hlt
            have hib : (i : Int) < (l.length : Int) := Int.ofNat_lt.mpr hlt
            have hr := HCL.out i hlt
            have hpt := pends_take hlt
            obtain ⟨x, hx⟩ : ∃ x, x = l[i] := ⟨_, rfl⟩
            rw [← hx] at hr hpt
            obtain ⟨xk, hxk⟩ : ∃ k, k = x.kind := ⟨_, rfl⟩
            obtain ⟨xq, hxq⟩ : ∃ k, k = x.seq := ⟨_, rfl⟩
            obtain ⟨xt, hxt⟩ : ∃ k, k = x.tick := ⟨_, rfl⟩
            obtain ⟨⟨un, uv, uk, uc, ur, us⟩, hxu⟩ : ∃ k, k = x.u := ⟨_, rfl⟩
            have hcs := rec_cells hr
            have hrq := rec_req hr
            rw [← hxk, ← hxq, ← hxt] at hcs
            rw [← hxu] at hrq
            have cck : wr.cell? ⟨b, o + i * 12, none⟩ = some (.int .i64 xk) := (HS.out.cell (p := ⟨b, o + i * 12, none⟩) HBS.out (fun h => h)).trans hcs.1
            rw [← hxk] at hpt
            have hpn : pnOf x = ⟨⟨un, uv, uk, uc, ur, us⟩, xt, xq, true⟩ := by unfold pnOf; rw [← hxu, ← hxt, ← hxq]
            rw [hpn] at hpt
            have wi := nums15 (n := i + 1) (by have := HN.out.1; omega)
            have wi1 : wrap64 ((i : Int) + 1) = ((i + 1 : Nat) : Int) := wi.1
            have HW := hid wi1
            have HPT := hid hpt
            have HLT := hid hlt
            by_cases hk2 : xk = 2
            · have d1 : (xk == 2) = true := by simpa using hk2
              have d3 : decide (xk = 2) = true := by simpa using hk2
              have HSL := hid (show Kept None w wr from HS.out)
              have HC5 := hid (fun W (hW : Kept (fun q => (Value.slice a6 n6 c6).ownBlock = some q) wr W) => show W.cell? ⟨b, o + i * 12 + 10, none⟩ = some (.int .i64 xt) ∧ W.cell? ⟨b, o + i * 12 + 1, none⟩ = some (.int .i64 xq) from by
                have hown : ¬ (Value.slice a6 n6 c6).ownBlock = some b := fun h => by have := (HO.out.own b h).1; have := HBS.out; omega
                have hbw : b < wr.heap.size := Nat.lt_of_lt_of_le HBS.out HS.out.size
                exact ⟨((hW.cell (p := ⟨b, o + i * 12 + 10, none⟩) hbw hown).trans (HS.out.cell (p := ⟨b, o + i * 12 + 10, none⟩) HBS.out (fun h => h))).trans hcs.2.2.2.2, ((hW.cell (p := ⟨b, o + i * 12 + 1, none⟩) hbw hown).trans (HS.out.cell (p := ⟨b, o + i * 12 + 1, none⟩) HBS.out (fun h => h))).trans hcs.2.1⟩)
              have HR5 := hid (fun W (hW : Kept (fun q => (Value.slice a6 n6 c6).ownBlock = some q) wr W) => show W.rangeAt b (o + i * 12 + 4) [.string un, .int .i64 uv, .int .u64 (uk : Int), .int .i64 uc, .int .u64 (ur : Int), .int .u64 (us : Int)] from fun j v hj => by
                have hown : ¬ (Value.slice a6 n6 c6).ownBlock = some b := fun h => by have := (HO.out.own b h).1; have := HBS.out; omega
                have hbw : b < wr.heap.size := Nat.lt_of_lt_of_le HBS.out HS.out.size
                exact ((hW.cell (p := ⟨b, o + i * 12 + 4 + j, none⟩) hbw hown).trans (HS.out.cell (p := ⟨b, o + i * 12 + 4 + j, none⟩) HBS.out (fun h => h))).trans (hrq j v hj))
              have HK2 := hid hk2
              obtain ⟨ps, hps⟩ : ∃ p, p = pendsF (l.take i) := ⟨_, rfl⟩
              have hpl : ps.length ≤ 1000000000 := by
                rw [hps]
                refine Nat.le_trans (pendsF_len _) ?_
                rw [List.length_take]
                exact Nat.le_trans (Nat.min_le_right _ _) HN.out.1
              rw [← hps] at HO HPT
              have HPS := hid hpl
              have HOW := hid (show ∀ q, (Value.slice a6 n6 c6).ownBlock = some q → w.heap.size ≤ q ∧ q < wr.heap.size from HO.out.own)
              have HHI := hid (show w.heap.size ≤ wr.heap.size from HS.out.size)
              clear hk2 hr hcs hrq hx hxk hxq hxt hxu hpn hpt hlt wi wi1 hps hpl
              go_upto_region 13 with fail
              clear cck d1 d3 cc2 hlt'
              refine wp_region_plan (Kept (fun q => (Value.slice a6 n6 c6).ownBlock = some q) wr) [{ k := 17, uses := [], pure := fun u => ∃ g, u = .slice (some ⟨g, 0, none⟩) 1 1, fact := fun u W => ∃ g, u = .slice (some ⟨g, 0, none⟩) 1 1 ∧ Blk W g (penC (⟨⟨un, uv, uk, uc, ur, us⟩, xt, xq, true⟩ : Pn)).toArray 64 }, { k := 18, uses := [17, 100], spends := [17, 100], pure := fun u => ∃ a n c, u = .slice a n c, fact := fun u W => Po 9 64 W w.heap.size u (pensC (ps ++ [(⟨⟨un, uv, uk, uc, ur, us⟩, xt, xq, true⟩ : Pn)])) }, { k := 100, uses := [], fact := fun u W => Po 9 64 W w.heap.size (.slice a6 n6 c6) (pensC ps) }] [100] (by kernel_rfl) (by kernel_rfl) (by kernel_rfl) (by rfl) ?pures ((Kept.refl _ wr).drew) ?starts ?walk
              case pures =>
                intro f hf
                simp only [List.mem_cons, List.not_mem_nil, or_false] at hf
                rcases hf with rfl | rfl | rfl
                · exact ⟨_, 0, rfl⟩
                · exact ⟨_, none, 0, 0, rfl⟩
                · exact ⟨undef, trivial⟩
              case starts =>
                intro k hk
                have hk : k = 100 := by simpa using hk
                subst hk
                exact HO.out.kept ((Kept.refl None wr).drew) (fun _ _ h => h)
              iterate 5 (refine wpPar_pure rfl (by rfl) _ (fun W hW => by
                  obtain ⟨c1, c2⟩ := HC5.out W hW
                  go_simp
                  exact rfl) ?_; simp only [Act.put, List.setIfInBounds_toArray, List.set_cons_zero, List.set_cons_succ])
              refine wpPar_pure rfl (by rfl) _ (fun W hW => by first | exact exec_load_at rfl rfl (HR5.out W hW) Up.aUpd | (obtain ⟨c1, c2⟩ := HC5.out W hW; go_simp; exact rfl)) ?_; simp only [Act.put, List.setIfInBounds_toArray, List.set_cons_zero, List.set_cons_succ]
              iterate 4 (refine wpPar_pure rfl (by rfl) _ (fun W hW => by
                  obtain ⟨c1, c2⟩ := HC5.out W hW
                  go_simp
                  exact rfl) ?_; simp only [Act.put, List.setIfInBounds_toArray, List.set_cons_zero, List.set_cons_succ])
              refine wpPar_pure rfl (by rfl) _ (fun W hW => by first | exact exec_load_at rfl rfl (HR5.out W hW) Up.aUpd | (obtain ⟨c1, c2⟩ := HC5.out W hW; go_simp; exact rfl)) ?_; simp only [Act.put, List.setIfInBounds_toArray, List.set_cons_zero, List.set_cons_succ]
              iterate 4 (refine wpPar_pure rfl (by rfl) _ (fun W hW => by
                  obtain ⟨c1, c2⟩ := HC5.out W hW
                  go_simp
                  exact rfl) ?_; simp only [Act.put, List.setIfInBounds_toArray, List.set_cons_zero, List.set_cons_succ])
              refine wpPar_pure rfl (by rfl) _ (fun W hW => by first | exact exec_load_at rfl rfl (HR5.out W hW) Up.aUpd | (obtain ⟨c1, c2⟩ := HC5.out W hW; go_simp; exact rfl)) ?_; simp only [Act.put, List.setIfInBounds_toArray, List.set_cons_zero, List.set_cons_succ]
              iterate 1 (refine wpPar_pure rfl (by rfl) _ (fun W hW => by
                  obtain ⟨c1, c2⟩ := HC5.out W hW
                  go_simp
                  exact rfl) ?_; simp only [Act.put, List.setIfInBounds_toArray, List.set_cons_zero, List.set_cons_succ])
              refine wpPar_adds rfl (by rfl) (fun W hW hd => ?_) (fun v17 hv => ?_)
              · unfold Gives
                rw [exec_one_item 31 (.tmp 70) rfl rtPen15 (by decide) (A := #[.string un, .int .i64 uv, .int .u64 (uk : Int), .int .i64 uc, .int .u64 (ur : Int), .int .u64 (us : Int), .int .i64 xt, .int .i64 xq, .bool true]) rfl rfl]
                have kN : Kept None W (W.alloc (.cells #[.string un, .int .i64 uv, .int .u64 (uk : Int), .int .i64 uc, .int .u64 (ur : Int), .int .u64 (us : Int), .int .i64 xt, .int .i64 xq, .bool true] 64)) := (Kept.refl None W).alloc _
                refine ⟨hW.then kN (fun _ _ h => h.elim), ⟨_, rfl⟩, ⟨_, rfl, Blk.new _ _ _⟩, keeps_of fun f hf hs hl hne u hfu => ?_⟩
                simp only [List.mem_cons, List.not_mem_nil, or_false] at hf
                rcases hf with rfl | rfl | rfl
                · exact absurd rfl hne
                · (exact hfu.kept kN (fun _ _ h => h))
                · exact Po.kept hfu kN (fun _ _ h => h)
              obtain ⟨g14, rfl⟩ : ∃ g, v17 = .slice (some ⟨g, 0, none⟩) 1 1 := hv
              simp only [Act.put, List.setIfInBounds_toArray, List.set_cons_zero, List.set_cons_succ]
              refine wpPar_adds rfl (by rfl) (fun W hW hd => ?_) (fun v18 hv => ?_)
              · have hO : Po 9 64 W w.heap.size (.slice a6 n6 c6) (pensC ps) := hd 100 (List.Mem.tail _ (List.Mem.head _))
                obtain ⟨g2, hgg, hg3⟩ : ∃ g, Value.slice (some ⟨g14, 0, none⟩) 1 1 = .slice (some ⟨g, 0, none⟩) 1 1 ∧ Blk W g (penC (⟨⟨un, uv, uk, uc, ur, us⟩, xt, xq, true⟩ : Pn)).toArray 64 := hd 17 (List.Mem.head _)
                obtain rfl : g14 = g2 := by simpa using hgg
                have hu : Ps 9 W 0 W.heap.size (.slice (some ⟨g14, 0, none⟩) 1 1) (pensC [(⟨⟨un, uv, uk, uc, ur, us⟩, xt, xq, true⟩ : Pn)]) := ps_one15 (x := penC (⟨⟨un, uv, uk, uc, ur, us⟩, xt, xq, true⟩ : Pn)) hg3 rfl
                refine gives_append_po _ _ 31 rfl rtPen15 (by decide) rfl rfl hO hu (pensC_one _) (by rw [pensC_len, pensC_len]; have := HPS.out; simp; omega) (Nat.le_trans HHI.out hW.size) ?_
                intro a' n' c' W' hP kS o9
                have kN : True := trivial
                rw [← pensC_app] at hP
                refine ⟨hW.then kS (fun i hi h => h), ⟨_, _, _, rfl⟩, hP, keeps_of fun f hf hs hl hne u hfu => ?_⟩
                simp only [List.mem_cons, List.not_mem_nil, or_false] at hf
                rcases hf with rfl | rfl | rfl
                · exact absurd (List.Mem.head _) hs
                · exact absurd rfl hne
                · exact absurd (List.Mem.tail _ (List.Mem.head _)) hs
              obtain ⟨a15, n15, c15, rfl⟩ : ∃ a n c, v18 = .slice a n c := hv
              simp only [Act.put, List.setIfInBounds_toArray, List.set_cons_zero, List.set_cons_succ]
              iterate 1 (refine wpPar_pure rfl (by rfl) _ (fun W hW => by
                  obtain ⟨c1, c2⟩ := HC5.out W hW
                  go_simp
                  exact rfl) ?_; simp only [Act.put, List.setIfInBounds_toArray, List.set_cons_zero, List.set_cons_succ])
              refine wpPar_nil (fun w8 hW hG => ?_)
              have h8 : Po 9 64 w8 w.heap.size (.slice a15 n15 c15) (pensC (ps ++ [(⟨⟨un, uv, uk, uc, ur, us⟩, xt, xq, true⟩ : Pn)])) := hG 18
              have K8 := hid (HS.out.then hW (fun q hq h => by have := (HOW.out q h).1; omega))
              have HO8 : Hid (Po 9 64 w8 w.heap.size (.slice a15 n15 c15) (pensC (pendsF (l.take (i + 1))))) := hid (by
                rw [HPT.out, if_pos HK2.out]
                exact h8)
              clear hG hW h8
              go_wp2
              go_roundg (l.length - (i + 1))
              case measure => have := HLT.out; omega
              case rel => exact ⟨i + 1, a15, n15, c15, rfl, by first | rfl | rw [HW.out] | simp, HLT.out, Nat.le_refl _, K8, HO8⟩
            · have d1 : (xk == 2) = false := by simpa using hk2
              have d3 : decide (xk = 2) = false := by simpa using hk2
              have HO2 : Hid (Po 9 64 wr w.heap.size (.slice a6 n6 c6) (pensC (pendsF (l.take (i + 1))))) := hid (by rw [HPT.out, if_neg hk2, List.append_nil]; exact HO.out)
              clear hk2 hr hcs hrq hx hxk hxq hxt hxu hpn hpt hlt wi wi1
              go_wp2_with fail
              go_roundg (l.length - (i + 1))
              case measure => have := HLT.out; omega
              case rel => exact ⟨i + 1, a6, n6, c6, rfl, by first | rfl | rw [HW.out] | simp, HLT.out, Nat.le_refl _, HS, HO2⟩
          · have hlt' : decide ((i : Int) < (l.length : Int)) = false := by simpa using hlt
            obtain rfl : i = l.length := by omega
            have ho := HO.out
            rw [List.take_length] at ho
            have HO2 := hid ho
            clear hlt hi hix ho HO
            go_wp2_with fail
            go_ret3
            rw [HF.out, ← HG.out]
            exact ⟨_, rfl, HS.out, HO2.out⟩
      · have d1 : decide ((M : Int) < C) = true := decide_eq_true (Int.not_le.1 hc)
        have hno : ¬ wholeB r rest = true := fun h => hc (by have := ((wholeB_iff _ _).1 h).2.1; rw [hC, hM]; exact this)
        have hF : wholeF l = ⟨0, [], false⟩ := by rw [hl]; exact whole_no hno
        rw [hF]
        clear hl hn hM hkd hC hln hpos hc hG hbs hcell h0 e0 hno hF hv
        go_enter Try.func14, Try.ntmps14
        go_wp2_with (first | go_skip | fail)
        go_ret3
        exact ⟨_, rfl, Kept.refl _ _, Po.nil _ _ _ _⟩
    · have d1 : (kd == 1) = false := by simpa using hk
      have d2 : (kd != 1) = true := by simpa using hk
      have d3 : decide (kd = 1) = false := by simpa using hk
      have d4 : (!decide (kd = 1)) = true := by simpa using hk
      have hno : ¬ wholeB r rest = true := fun h => hk (by rw [hkd]; exact ((wholeB_iff _ _).1 h).1)
      have hF : wholeF l = ⟨0, [], false⟩ := by rw [hl]; exact whole_no hno
      rw [hF]
      clear hl hn hM hkd hC hln hpos hk hG hbs hcell h0 e0 hno hF hv
      go_enter Try.func14, Try.ntmps14
      go_wp2_with (first | go_skip | fail)
      go_ret3
      exact ⟨_, rfl, Kept.refl _ _, Po.nil _ _ _ _⟩
end R12
end Go.Proofs.Ytbebpnanhkcngaa
/- From a walk to a statement: arguments opened, and shut again behind a call that has only made new memory. -/
namespace Go.Pm
open Go Go.RowKit Go.ChangeShapes Go.WideShapes Go.ChangeAt

section
variable {H : Type} {enc : TypeId × Value → H} {P : Program}

/-- Types whose values can be read, each in the table. -/
def readable (P : Program) (ts : List TypeId) : Bool := ts.all fun t => P.readableRec t && decide (t < P.types.size)

theorem trodAll_stays (hl : laidOutB P = true) {W W' : World} (hb : Below W.heap.size W W') : ∀ {ts : List TypeId} {vs : List Value} {ds : List (DataW H)} {ps : List MemPlace}, readable P ts = true →
    DataW.TrodAll enc P W 0 (fun _ => true) true ts vs ds ps → (∀ x ∈ ps, x.block < W.heap.size) → DataW.TrodAll enc P W' 0 (fun b => decide (b < W.heap.size)) true ts vs ds ps
  | [], vs, ds, ps, _, h, _ => by
    obtain ⟨rfl, rfl, rfl⟩ := trodAll_nil h
    exact trodAll_mk0
  | t :: ts, vs, ds, ps, hr, h, hlt => by
    obtain ⟨v, vs', d, ds', p, q, rfl, rfl, rfl, h1, h2⟩ := trodAll_cons h
    simp only [readable, List.all_cons, Bool.and_eq_true, decide_eq_true_eq] at hr
    exact ⟨p, q, Below.trod hl hr.1.1 hr.1.2 h1 hb (fun x hx => hlt x (List.mem_append.2 (.inl hx))), trodAll_stays hl hb hr.2 h2 (fun x hx => hlt x (List.mem_append.2 (.inr hx))), rfl⟩

/-- A law's 'post': true; the arguments read as they did; only new memory. -/
theorem law_post {s : ChangeSpec} {f : Func} {W W' : World} {args : Array Value} {ds : List (DataW H)} {before : List MemPlace} {tb : TypeId} (hvars : s.vars = []) (hres : f.resultTypes = #[tb]) (hb : P.underlying tb = some .bool)
    (hl : laidOutB P = true) (hread : readable P f.params.toList = true) (hW : DataW.Whole enc P f.params.toList s.vars false W args.toList ds [] before)
    (hr1 : (s.fn H (ds ++ [])).results = [.lit (.bool true)]) (hr2 : (s.fn H (ds ++ [])).args = ds) (hr3 : (s.fn H (ds ++ [])).vars = []) (hbel : Below W.heap.size W W') :
    s.post enc P f false true false false W args (.bool true) W' := by
  have hlt : ∀ x ∈ before, x.block < W.heap.size := fun x hx => by simpa using hW.lt x hx
  have hW' := hW
  obtain ⟨p, q, hA, hV, rfl, _, _⟩ := hW
  rw [hvars] at hV
  obtain ⟨_, rfl⟩ := trodVars_none hV
  rw [List.append_nil] at hW' hlt
  refine ⟨ds, [], _, [], p, [], hW', ?_, ?_, ?_, hbel.frame _, fun h => by cases h⟩
  · rw [hr1, hres]
    exact trodAll_mk1 (shut_bool hb true)
  · rw [hr2]
    exact trodAll_stays hl hbel hread hA hlt
  · rw [hr3, hvars]
    rfl

/-- A []byte argument. -/
theorem openBs {W : World} {t e : TypeId} {v : Value} {d : DataW H} {p : List MemPlace} {base : Nat} (ht : P.underlying t = some (.slice e)) (he : P.underlying e = some (.int .u8)) (hc : P.cellsOf e = 1)
    (hok : Value.okWide P W .any base t v) (h : DataW.Trod enc P W 0 (fun _ => true) true t v d p) (hlt : ∀ x ∈ p, x.block < W.heap.size) : ∃ l, Bs W 0 W.heap.size v l := by
  obtain ⟨a0, len, cap, rfl⟩ := okWide_slice ht hok
  obtain ⟨fuel, hf⟩ := h
  rcases open_ints ht he hc hf with ⟨hcs, hx⟩ | ⟨a, len', cap', zs, hcs, _, hl, hm, hz, hx, hcell, hwz⟩
  · simp [Value.cells] at hcs
    obtain ⟨rfl, rfl, rfl⟩ := hcs
    exact ⟨[], Bs.nil _ _ _⟩
  · simp [Value.cells] at hcs
    obtain ⟨rfl, rfl, rfl⟩ := hcs
    simp only [Prod.mk.injEq] at hx
    obtain ⟨_, rfl⟩ := hx
    simp only [if_true] at hz
    refine ⟨(zs.take len).map byteOf, some a, cap, ?_, ?_, hm, (fun h => by cases h), ?_⟩
    · simp; omega
    · simp; omega
    · intro ad had i x hx
      obtain rfl := Option.some.inj had
      rw [List.map_map] at hx
      have hi : i < len ∧ x = .int .u8 (zs.getD i 0) := by
        rw [List.getElem?_map, List.getElem?_take] at hx
        split at hx
        · rename_i hi
          have hiz : i < zs.length := by omega
          rw [List.getElem?_eq_getElem hiz] at hx
          simp only [Option.map_some, Option.some.injEq, Function.comp] at hx
          have hw := hwz zs[i] (List.getElem_mem hiz)
          simp [Lit.wf, IntKind.min, IntKind.max, IntKind.signed, IntKind.bits] at hw
          refine ⟨hi, ?_⟩
          rw [← hx, u8v_byteOf' (by omega) (by omega)]
          simp [List.getD, List.getElem?_eq_getElem hiz]
        · simp at hx
      have hb := hlt (.cell (a.add i).block (a.add i).off) (MemPlace.mem_row.2 ⟨i, by omega, by simp [Addr.add]; split <;> simp_all⟩)
      refine ⟨Nat.zero_le _, ?_, ?_⟩
      · rw [← add_block a i]; exact hb
      · rw [hi.2]
        exact hcell i (by omega)

/-- A byte argument. -/
theorem openU8 {W : World} {t : TypeId} {v : Value} {d : DataW H} {p : List MemPlace} {base : Nat} (ht : P.underlying t = some (.int .u8))
    (hok : Value.okWide P W .any base t v) (h : DataW.Trod enc P W 0 (fun _ => true) true t v d p) : ∃ n, v = .int .u8 n ∧ 0 ≤ n ∧ n < 256 := by
  obtain ⟨n, rfl, _, _, w0⟩ := open_int ht hok h
  simp [Lit.wf, IntKind.min, IntKind.max, IntKind.signed, IntKind.bits] at w0
  exact ⟨n, rfl, by omega, by omega⟩
/-- A uint64 argument. -/
theorem openU64 {W : World} {t : TypeId} {v : Value} {d : DataW H} {p : List MemPlace} {base : Nat} (ht : P.underlying t = some (.int .u64))
    (hok : Value.okWide P W .any base t v) (h : DataW.Trod enc P W 0 (fun _ => true) true t v d p) : ∃ n, v = .int .u64 n ∧ 0 ≤ n ∧ n < 18446744073709551616 := by
  obtain ⟨n, rfl, _, _, w0⟩ := open_int ht hok h
  simp [Lit.wf, IntKind.min, IntKind.max, IntKind.signed, IntKind.bits] at w0
  exact ⟨n, rfl, by omega, by omega⟩

/-- A list out of what is so at each index. -/
theorem list_of {α : Type} {Q : Nat → α → Prop} : ∀ (n : Nat), (∀ i, i < n → ∃ x, Q i x) → ∃ xs : List α, xs.length = n ∧ ∀ i x, xs[i]? = some x → Q i x
  | 0, _ => ⟨[], rfl, fun i x h => by simp at h⟩
  | n + 1, h => by
    obtain ⟨xs, hl, hx⟩ := list_of n (fun i hi => h i (by omega))
    obtain ⟨x, hq⟩ := h n (by omega)
    refine ⟨xs ++ [x], by simp [hl], fun i y hy => ?_⟩
    by_cases hi : i < xs.length
    · rw [List.getElem?_append_left hi] at hy; exact hx i y hy
    · have hlt := (List.getElem?_eq_some_iff.1 hy).1
      simp at hlt
      have : i = xs.length := by omega
      subst this
      rw [List.getElem?_append_right (Nat.le_refl _)] at hy
      simp at hy
      subst hy
      rw [hl]
      exact hq

/-- Bytes, out of a reading. -/
theorem bs_of_trod {W : World} {t e : TypeId} {v : Value} {fuel : Nat} {x : DataW H × List MemPlace} (ht : P.underlying t = some (.slice e)) (he : P.underlying e = some (.int .u8)) (hc : P.cellsOf e = 1)
    (hf : DataW.trod enc P W 0 (fun _ => true) true fuel t [v] = some x) (hlt : ∀ y ∈ x.2, y.block < W.heap.size) : ∃ l, Bs W 0 W.heap.size v l := by
  rcases open_ints ht he hc hf with ⟨hcs, hx⟩ | ⟨a, len', cap', zs, hcs, _, hl, hm, hz, hx, hcell, hwz⟩
  · simp only [List.cons.injEq, and_true] at hcs
    subst hcs
    exact ⟨[], Bs.nil _ _ _⟩
  · simp only [List.cons.injEq, and_true] at hcs
    subst hcs
    subst hx
    simp only [if_true] at hz
    refine ⟨(zs.take len').map byteOf, some a, cap', ?_, ?_, hm, (fun h => by cases h), ?_⟩
    · simp; omega
    · simp; omega
    · intro ad had i x hx
      obtain rfl := Option.some.inj had
      rw [List.map_map] at hx
      have hi : i < len' ∧ x = .int .u8 (zs.getD i 0) := by
        rw [List.getElem?_map, List.getElem?_take] at hx
        split at hx
        · rename_i hi
          have hiz : i < zs.length := by omega
          rw [List.getElem?_eq_getElem hiz] at hx
          simp only [Option.map_some, Option.some.injEq, Function.comp] at hx
          have hw := hwz zs[i] (List.getElem_mem hiz)
          simp [Lit.wf, IntKind.min, IntKind.max, IntKind.signed, IntKind.bits] at hw
          refine ⟨hi, ?_⟩
          rw [← hx, u8v_byteOf' (by omega) (by omega)]
          simp [List.getD, List.getElem?_eq_getElem hiz]
        · simp at hx
      have hb := hlt (.cell (a.add i).block (a.add i).off) (MemPlace.mem_row.2 ⟨i, by omega, by simp [Addr.add]; split <;> simp_all⟩)
      refine ⟨Nat.zero_le _, ?_, ?_⟩
      · rw [← add_block a i]; exact hb
      · rw [hi.2]
        exact hcell i (by omega)

/-- A [][]byte argument. -/
theorem openBss {W : World} {t t' e : TypeId} {v : Value} {d : DataW H} {p : List MemPlace} {base : Nat} (ht : P.underlying t = some (.slice t')) (ht' : P.underlying t' = some (.slice e)) (he : P.underlying e = some (.int .u8)) (hc : P.cellsOf e = 1) (hc' : P.cellsOf t' = 1)
    (hok : Value.okWide P W .any base t v) (h : DataW.Trod enc P W 0 (fun _ => true) true t v d p) (hlt : ∀ x ∈ p, x.block < W.heap.size) : ∃ ls, Bss W 0 W.heap.size 0 W.heap.size v ls := by
  obtain ⟨a0, len, cap, rfl⟩ := okWide_slice ht hok
  obtain ⟨fuel, hf⟩ := h
  rcases Deep.open_slice1 ht hc' hf with ⟨hcs, hx⟩ | ⟨a, len', cap', m, n, V, D, Pl, hcs, _, hl, hm, hmm, hx, hcell⟩
  · simp [Value.cells] at hcs
    obtain ⟨rfl, rfl, rfl⟩ := hcs
    exact ⟨[], [], Vs.nil _ _ _, rfl, fun i x l h => by simp at h⟩
  · simp [Value.cells] at hcs
    obtain ⟨rfl, rfl, rfl⟩ := hcs
    simp only [Prod.mk.injEq] at hx
    obtain ⟨_, rfl⟩ := hx
    simp only [if_true] at hmm
    subst hmm
    obtain ⟨ls, hll, hls⟩ := list_of (Q := fun i l => Bs W 0 W.heap.size (V i) l) len (fun i hi => bs_of_trod ht' he hc (hcell i (by omega)).2 (fun y hy => hlt y (by
      refine List.mem_append.2 (.inr (List.mem_flatMap.2 ⟨i, by simp; omega, hy⟩)))))
    refine ⟨ls, (List.range len).map V, ⟨some a, m, by simp, by simpa using hl, hm, (fun h => by cases h), ?_⟩, by simp [hll], ?_⟩
    · intro ad had i x hx
      obtain rfl := Option.some.inj had
      have hi : i < len ∧ x = V i := by
        rw [List.getElem?_map] at hx
        by_cases hi : i < len
        · rw [List.getElem?_range hi] at hx; simp at hx; exact ⟨hi, hx.symm⟩
        · rw [List.getElem?_eq_none (by simp; omega)] at hx; cases hx
      have hb := hlt (.cell (a.add i).block (a.add i).off) (List.mem_append.2 (.inl (MemPlace.mem_row.2 ⟨i, by omega, by simp [Addr.add]; split <;> simp_all⟩)))
      refine ⟨Nat.zero_le _, ?_, ?_⟩
      · rw [← add_block a i]; exact hb
      · rw [hi.2]; exact (hcell i (by omega)).1
    · intro i x l hx hl'
      have hi : i < len ∧ x = V i := by
        rw [List.getElem?_map] at hx
        by_cases hi : i < len
        · rw [List.getElem?_range hi] at hx; simp at hx; exact ⟨hi, hx.symm⟩
        · rw [List.getElem?_eq_none (by simp; omega)] at hx; cases hx
      rw [hi.2]
      exact hls i l hl'

/-- A []uint64 argument. -/
theorem openNs {W : World} {t e : TypeId} {v : Value} {d : DataW H} {p : List MemPlace} {base : Nat} (ht : P.underlying t = some (.slice e)) (he : P.underlying e = some (.int .u64)) (hc : P.cellsOf e = 1)
    (hok : Value.okWide P W .any base t v) (h : DataW.Trod enc P W 0 (fun _ => true) true t v d p) (hlt : ∀ x ∈ p, x.block < W.heap.size) : ∃ ns, Ns W 0 W.heap.size v ns := by
  obtain ⟨a0, len, cap, rfl⟩ := okWide_slice ht hok
  obtain ⟨fuel, hf⟩ := h
  rcases open_ints ht he hc hf with ⟨hcs, hx⟩ | ⟨a, len', cap', zs, hcs, _, hl, hm, hz, hx, hcell, hwz⟩
  · simp [Value.cells] at hcs
    obtain ⟨rfl, rfl, rfl⟩ := hcs
    exact ⟨[], Vs.nil _ _ _, fun n hn => by simp at hn⟩
  · simp [Value.cells] at hcs
    obtain ⟨rfl, rfl, rfl⟩ := hcs
    simp only [Prod.mk.injEq] at hx
    obtain ⟨_, rfl⟩ := hx
    simp only [if_true] at hz
    refine ⟨zs.take len, ⟨some a, cap, ?_, ?_, hm, (fun h => by cases h), ?_⟩, ?_⟩
    · simp; omega
    · simp; omega
    · intro ad had i x hx
      obtain rfl := Option.some.inj had
      have hi : i < len ∧ x = .int .u64 (zs.getD i 0) := by
        rw [List.getElem?_map, List.getElem?_take] at hx
        split at hx
        · rename_i hi
          have hiz : i < zs.length := by omega
          rw [List.getElem?_eq_getElem hiz] at hx
          simp only [Option.map_some, Option.some.injEq] at hx
          refine ⟨hi, ?_⟩
          rw [← hx]
          simp [u64v, List.getD, List.getElem?_eq_getElem hiz]
        · simp at hx
      have hb := hlt (.cell (a.add i).block (a.add i).off) (MemPlace.mem_row.2 ⟨i, by omega, by simp [Addr.add]; split <;> simp_all⟩)
      refine ⟨Nat.zero_le _, ?_, ?_⟩
      · rw [← add_block a i]; exact hb
      · rw [hi.2]
        exact hcell i (by omega)
    · intro n hn
      have hw := hwz n (List.mem_of_mem_take hn)
      simp [Lit.wf, IntKind.min, IntKind.max, IntKind.signed, IntKind.bits] at hw
      exact ⟨by omega, by omega⟩
end
end Go.Pm

/- Arguments that are arrays of integers, opened. Program-independent. -/
namespace Go.Pm
open Go Go.RowKit Go.ChangeShapes Go.WideShapes Go.ChangeAt

theorem mapM_each {α β : Type} {f : α → Option β} : ∀ {l : List α} {ys : List β}, l.mapM f = some ys → ∀ i ∈ l, ∃ y, f i = some y
  | [], ys, _, i, hi => by simp at hi
  | a :: l, ys, h, i, hi => by
    rw [List.mapM_cons] at h
    simp only [bind, Option.bind_eq_some_iff, pure, Option.some.injEq] at h
    obtain ⟨y, hy, ys', hys, rfl⟩ := h
    rcases List.mem_cons.1 hi with rfl | hi
    · exact ⟨y, hy⟩
    · exact mapM_each hys i hi

section
variable {H : Type} {enc : TypeId × Value → H} {P : Program}
/-- An argument that is an array of integers. -/
theorem openInts {W : World} {t e : TypeId} {kd : IntKind} {n : Nat} {v : Value} {d : DataW H} {p : List MemPlace} {base : Nat} (ht : P.underlying t = some (.array n e)) (he : P.underlying e = some (.int kd)) (hc : P.cellsOf e = 1) (hC : P.cellsOf t = n)
    (hok : Value.okWide P W .any base t v) (h : DataW.Trod enc P W 0 (fun _ => true) true t v d p) : ∃ ns : List Int, v = .agg (ns.map (Value.int kd)).toArray ∧ ns.length = n ∧ ∀ z ∈ ns, Lit.wf (.int kd z) = true := by
  simp only [Value.okWide, ht] at hok
  obtain ⟨cs, rfl, h2, _⟩ := hok
  rw [hC] at h2
  obtain ⟨fuel, hf⟩ := h
  cases fuel with
  | zero => simp [DataW.trod] at hf
  | succ m =>
    unfold DataW.trod at hf
    simp only [ht, Value.cells] at hf
    split at hf
    · simp only [Option.map_eq_some_iff] at hf
      obtain ⟨ys, hy, _⟩ := hf
      have each := mapM_each hy
      have get : ∀ i, i < n → ∃ z, cs.toList[i]? = some (.int kd z) ∧ Lit.wf (.int kd z) = true := fun i hi => by
        obtain ⟨y, hy⟩ := each i (List.mem_range.2 hi)
        rw [hc, Nat.mul_one] at hy
        have hlt : i < cs.toList.length := by simpa [h2] using hi
        rw [List.drop_eq_getElem_cons hlt, List.take_succ_cons, List.take_zero] at hy
        obtain ⟨z, ez, _, wz⟩ := DataW.trod_int he hy
        exact ⟨z, by rw [List.getElem?_eq_getElem hlt]; exact congrArg some (List.cons.inj ez).1, wz⟩
      obtain ⟨ns, hl, hns⟩ := list_of (Q := fun i z => cs.toList[i]? = some (.int kd z) ∧ Lit.wf (.int kd z) = true) n get
      refine ⟨ns, ?_, hl, fun z hz => ?_⟩
      · congr 1
        apply Array.ext'
        apply List.ext_getElem?
        intro i
        simp only [List.getElem?_map]
        by_cases hi : i < ns.length
        · rw [List.getElem?_eq_getElem hi, Option.map_some]
          exact (hns i _ (List.getElem?_eq_getElem hi)).1
        · rw [List.getElem?_eq_none (by simp [h2]; omega), List.getElem?_eq_none (by omega)]
          rfl
      · obtain ⟨i, hi, rfl⟩ := List.getElem_of_mem hz
        exact (hns i _ (List.getElem?_eq_getElem hi)).2
    · cases hf
/-- A state. -/
theorem openState {w : World} {t e : TypeId} {v : Value} {d : DataW H} {p : List MemPlace} {base : Nat} (ht : P.underlying t = some (.array 5 e)) (he : P.underlying e = some (.int .u64)) (hc : P.cellsOf e = 1) (hC : P.cellsOf t = 5)
    (hok : Value.okWide P w .any base t v) (h : DataW.Trod enc P w 0 (fun _ => true) true t v d p) : ∃ s : S5, v = .agg #[.int .u64 (U s.a), .int .u64 (U s.b), .int .u64 (U s.c), .int .u64 (U s.d), .int .u64 (U s.e)] := by
  obtain ⟨ns, rfl, hl, hw⟩ := openInts ht he hc hC hok h
  have word : ∀ z, Lit.wf (.int .u64 z) = true → U (W z) = z := fun z hz => by
    simp [Lit.wf, IntKind.min, IntKind.max, IntKind.signed, IntKind.bits] at hz
    exact U_W z (by omega) (by omega)
  match ns, hl, hw with
  | [a, b, c, d, e], _, hw =>
    refine ⟨⟨W a, W b, W c, W d, W e⟩, ?_⟩
    rw [word a (hw a (by simp)), word b (hw b (by simp)), word c (hw c (by simp)), word d (hw d (by simp)), word e (hw e (by simp))]
    rfl
end
end Go.Pm

/- Arguments that are numbers, opened as natural numbers; laws of five and six arguments. Program-independent. -/
namespace Go.Pm
open Go Go.RowKit Go.ChangeShapes Go.WideShapes Go.ChangeAt

section
variable {H : Type} {enc : TypeId × Value → H} {P : Program}
theorem openNat_u64 {W : World} {t : TypeId} {v : Value} {d : DataW H} {p : List MemPlace} {base : Nat} (ht : P.underlying t = some (.int .u64)) (hok : Value.okWide P W .any base t v) (h : DataW.Trod enc P W 0 (fun _ => true) true t v d p) :
    ∃ n : Nat, v = .int .u64 (n : Int) ∧ n < 18446744073709551616 := by
  obtain ⟨n, rfl, n0, n1⟩ := openU64 ht hok h
  exact ⟨n.toNat, by rw [Int.toNat_of_nonneg n0], by omega⟩
theorem openNat_u8 {W : World} {t : TypeId} {v : Value} {d : DataW H} {p : List MemPlace} {base : Nat} (ht : P.underlying t = some (.int .u8)) (hok : Value.okWide P W .any base t v) (h : DataW.Trod enc P W 0 (fun _ => true) true t v d p) :
    ∃ n : Nat, v = .int .u8 (n : Int) ∧ n < 256 := by
  obtain ⟨n, rfl, n0, n1⟩ := openU8 ht hok h
  exact ⟨n.toNat, by rw [Int.toNat_of_nonneg n0], by omega⟩
theorem openNat_u32 {W : World} {t : TypeId} {v : Value} {d : DataW H} {p : List MemPlace} {base : Nat} (ht : P.underlying t = some (.int .u32)) (hok : Value.okWide P W .any base t v) (h : DataW.Trod enc P W 0 (fun _ => true) true t v d p) :
    ∃ n : Nat, v = .int .u32 (n : Int) ∧ n < 4294967296 := by
  obtain ⟨n, rfl, _, _, w0⟩ := open_int ht hok h
  simp [Lit.wf, IntKind.min, IntKind.max, IntKind.signed, IntKind.bits] at w0
  exact ⟨n.toNat, by rw [Int.toNat_of_nonneg (by omega)], by omega⟩
theorem trodAll_five {w : World} {base : Nat} {spare : Nat → Bool} {held : Bool} {t0 t1 t2 t3 t4 : TypeId} {args : Array Value} {ds : List (DataW H)} {ps : List MemPlace} (h : DataW.TrodAll enc P w base spare held [t0, t1, t2, t3, t4] args.toList ds ps) :
    ∃ v0 v1 v2 v3 v4 d0 d1 d2 d3 d4 p0 p1 p2 p3 p4, args = #[v0, v1, v2, v3, v4] ∧ ds = [d0, d1, d2, d3, d4] ∧ ps = p0 ++ (p1 ++ (p2 ++ (p3 ++ p4))) ∧ DataW.Trod enc P w base spare held t0 v0 d0 p0 ∧ DataW.Trod enc P w base spare held t1 v1 d1 p1 ∧
      DataW.Trod enc P w base spare held t2 v2 d2 p2 ∧ DataW.Trod enc P w base spare held t3 v3 d3 p3 ∧ DataW.Trod enc P w base spare held t4 v4 d4 p4 := by
  obtain ⟨v0, l0, d0, e0, p0, q0, ha, rfl, rfl, h0, h⟩ := trodAll_cons h
  obtain ⟨v1, v2, v3, v4, d1, d2, d3, d4, p1, p2, p3, p4, hb, rfl, rfl, h1, h2, h3, h4⟩ := trodAll_four (args := l0.toArray) (by simpa using h)
  refine ⟨v0, v1, v2, v3, v4, d0, d1, d2, d3, d4, p0, p1, p2, p3, p4, ?_, rfl, by simp, h0, h1, h2, h3, h4⟩
  apply Array.ext'
  rw [ha]
  have := congrArg Array.toList hb
  simpa using this
theorem trodAll_six {w : World} {base : Nat} {spare : Nat → Bool} {held : Bool} {t0 t1 t2 t3 t4 t5 : TypeId} {args : Array Value} {ds : List (DataW H)} {ps : List MemPlace} (h : DataW.TrodAll enc P w base spare held [t0, t1, t2, t3, t4, t5] args.toList ds ps) :
    ∃ v0 v1 v2 v3 v4 v5 d0 d1 d2 d3 d4 d5 p0 p1 p2 p3 p4 p5, args = #[v0, v1, v2, v3, v4, v5] ∧ ds = [d0, d1, d2, d3, d4, d5] ∧ ps = p0 ++ (p1 ++ (p2 ++ (p3 ++ (p4 ++ p5)))) ∧ DataW.Trod enc P w base spare held t0 v0 d0 p0 ∧ DataW.Trod enc P w base spare held t1 v1 d1 p1 ∧
      DataW.Trod enc P w base spare held t2 v2 d2 p2 ∧ DataW.Trod enc P w base spare held t3 v3 d3 p3 ∧ DataW.Trod enc P w base spare held t4 v4 d4 p4 ∧ DataW.Trod enc P w base spare held t5 v5 d5 p5 := by
  obtain ⟨v0, l0, d0, e0, p0, q0, ha, rfl, rfl, h0, h⟩ := trodAll_cons h
  obtain ⟨v1, v2, v3, v4, v5, d1, d2, d3, d4, d5, p1, p2, p3, p4, p5, hb, rfl, rfl, h1, h2, h3, h4, h5⟩ := trodAll_five (args := l0.toArray) (by simpa using h)
  refine ⟨v0, v1, v2, v3, v4, v5, d0, d1, d2, d3, d4, d5, p0, p1, p2, p3, p4, p5, ?_, rfl, rfl, h0, h1, h2, h3, h4, h5⟩
  apply Array.ext'
  rw [ha]
  have := congrArg Array.toList hb
  simpa using this
end
end Go.Pm

/- Arguments that are structs of two numbers, opened. Program-independent. -/
namespace Go.Pm
open Go Go.RowKit Go.ChangeShapes Go.WideShapes Go.ChangeAt

theorem openPair {H : Type} {enc : TypeId × Value → H} {P : Program} {W : World} {t : TypeId} {f0 f1 : Field} {v : Value} {d : DataW H} {p : List MemPlace} {base : Nat} (ht : P.underlying t = some (.struct #[f0, f1])) (hC : P.cellsOf t = 2)
    (h0 : f0.offset = 0) (h1 : f1.offset = 1) (hu0 : P.underlying f0.type = some (.int .u64)) (hu1 : P.underlying f1.type = some (.int .u64)) (hc0 : P.cellsOf f0.type = 1) (hc1 : P.cellsOf f1.type = 1)
    (hok : Value.okWide P W .any base t v) (h : DataW.Trod enc P W 0 (fun _ => true) true t v d p) : ∃ a b : Nat, v = .agg #[.int .u64 (a : Int), .int .u64 (b : Int)] ∧ a < 18446744073709551616 ∧ b < 18446744073709551616 := by
  simp only [Value.okWide, ht] at hok
  obtain ⟨cs, rfl, h2, _⟩ := hok
  rw [hC] at h2
  obtain ⟨fuel, hf⟩ := h
  obtain ⟨y0, y1, n', _, _, g0, g1⟩ := trod_struct2 ht hf
  rw [h0, hc0] at g0
  rw [h1, hc1] at g1
  obtain ⟨k0, e0, _, w0⟩ := DataW.trod_int hu0 g0
  obtain ⟨k1, e1, _, w1⟩ := DataW.trod_int hu1 g1
  simp [Lit.wf, IntKind.min, IntKind.max, IntKind.signed, IntKind.bits] at w0 w1
  obtain ⟨l⟩ := cs
  match l, h2 with
  | [c0, c1], _ =>
    simp [Value.cells] at e0 e1
    subst e0 e1
    exact ⟨k0.toNat, k1.toNat, by rw [Int.toNat_of_nonneg (by omega), Int.toNat_of_nonneg (by omega)], by omega, by omega⟩
end Go.Pm

/- Arguments that are strings, uint16s, requests, opened; laws of up to ten arguments. Program-independent. -/
namespace Go.Pm
open Go Go.RowKit Go.ChangeShapes Go.WideShapes Go.ChangeAt

section
variable {H : Type} {enc : TypeId × Value → H} {P : Program}
theorem openStr {W : World} {t : TypeId} {v : Value} {d : DataW H} {p : List MemPlace} {base : Nat} (ht : P.underlying t = some .string) (hok : Value.okWide P W .any base t v) (h : DataW.Trod enc P W 0 (fun _ => true) true t v d p) :
    ∃ s : ByteArray, v = .string s ∧ s.size ≤ 9223372036854775807 := by
  obtain ⟨s, rfl⟩ := okWide_string ht hok
  obtain ⟨fuel, hf⟩ := h
  obtain ⟨s', h, hx, hs⟩ := DataW.trod_string ht hf
  simp [Value.cells] at h
  subst h
  unfold maxLen at hs
  exact ⟨s, rfl, by omega⟩
theorem openNat_u16 {W : World} {t : TypeId} {v : Value} {d : DataW H} {p : List MemPlace} {base : Nat} (ht : P.underlying t = some (.int .u16)) (hok : Value.okWide P W .any base t v) (h : DataW.Trod enc P W 0 (fun _ => true) true t v d p) :
    ∃ n : Nat, v = .int .u16 (n : Int) ∧ n < 65536 := by
  obtain ⟨n, rfl, _, _, w0⟩ := open_int ht hok h
  simp [Lit.wf, IntKind.min, IntKind.max, IntKind.signed, IntKind.bits] at w0
  exact ⟨n.toNat, by rw [Int.toNat_of_nonneg (by omega)], by omega⟩

/-- A request (a struct of a string, an int, a number, an int, a struct of two numbers). -/
theorem openUpd {W : World} {t : TypeId} {f0 f1 f2 f3 f4 g0 g1 : Field} {v : Value} {d : DataW H} {p : List MemPlace} {base : Nat} (ht : P.underlying t = some (.struct #[f0, f1, f2, f3, f4])) (hC : P.cellsOf t = 6)
    (o0 : f0.offset = 0) (o1 : f1.offset = 1) (o2 : f2.offset = 2) (o3 : f3.offset = 3) (o4 : f4.offset = 4) (hu0 : P.underlying f0.type = some .string) (hu1 : P.underlying f1.type = some (.int .i64)) (hu2 : P.underlying f2.type = some (.int .u64)) (hu3 : P.underlying f3.type = some (.int .i64))
    (hu4 : P.underlying f4.type = some (.struct #[g0, g1])) (q0 : g0.offset = 0) (q1 : g1.offset = 1) (hg0 : P.underlying g0.type = some (.int .u64)) (hg1 : P.underlying g1.type = some (.int .u64))
    (hc0 : P.cellsOf f0.type = 1) (hc1 : P.cellsOf f1.type = 1) (hc2 : P.cellsOf f2.type = 1) (hc3 : P.cellsOf f3.type = 1) (hc4 : P.cellsOf f4.type = 2) (hd0 : P.cellsOf g0.type = 1) (hd1 : P.cellsOf g1.type = 1)
    (hok : Value.okWide P W .any base t v) (h : DataW.Trod enc P W 0 (fun _ => true) true t v d p) :
    ∃ (n : ByteArray) (a c : Int) (k r s : Nat), v = .agg #[.string n, .int .i64 a, .int .u64 (k : Int), .int .i64 c, .int .u64 (r : Int), .int .u64 (s : Int)] ∧ k < 18446744073709551616 ∧ r < 18446744073709551616 ∧ s < 18446744073709551616 := by
  simp only [Value.okWide, ht] at hok
  obtain ⟨cs, rfl, h2, _⟩ := hok
  rw [hC] at h2
  obtain ⟨fuel, hf⟩ := h
  obtain ⟨xs, n', _, _, _, hlen, hx⟩ := DataW.trod_struct ht hf
  obtain ⟨l⟩ := cs
  match l, h2 with
  | [c0, c1, c2, c3, c4, c5], _ =>
    match xs, hlen with
    | [y0, y1, y2, y3, y4], _ =>
      have e0 := hx 0 f0 rfl
      have e1 := hx 1 f1 rfl
      have e2 := hx 2 f2 rfl
      have e3 := hx 3 f3 rfl
      have e4 := hx 4 f4 rfl
      rw [o0, hc0] at e0
      rw [o1, hc1] at e1
      rw [o2, hc2] at e2
      rw [o3, hc3] at e3
      rw [o4, hc4] at e4
      obtain ⟨s0, r0, _, _⟩ := DataW.trod_string hu0 e0
      obtain ⟨k1, r1, _, _⟩ := DataW.trod_int hu1 e1
      obtain ⟨k2, r2, _, w2⟩ := DataW.trod_int hu2 e2
      obtain ⟨k3, r3, _, _⟩ := DataW.trod_int hu3 e3
      obtain ⟨z0, z1, n4, _, _, m0, m1⟩ := trod_struct2 hu4 e4
      rw [q0, hd0] at m0
      rw [q1, hd1] at m1
      obtain ⟨k4, r4, _, w4⟩ := DataW.trod_int hg0 m0
      obtain ⟨k5, r5, _, w5⟩ := DataW.trod_int hg1 m1
      simp [Value.cells] at r0 r1 r2 r3 r4 r5
      simp [Lit.wf, IntKind.min, IntKind.max, IntKind.signed, IntKind.bits] at w2 w4 w5
      subst r0 r1 r2 r3 r4 r5
      exact ⟨s0, k1, k3, k2.toNat, k4.toNat, k5.toNat, by rw [Int.toNat_of_nonneg (by omega), Int.toNat_of_nonneg (by omega), Int.toNat_of_nonneg (by omega)], by omega, by omega, by omega⟩

theorem trodAll_seven {w : World} {base : Nat} {spare : Nat → Bool} {held : Bool} {t0 t1 t2 t3 t4 t5 t6 : TypeId} {args : Array Value} {ds : List (DataW H)} {ps : List MemPlace} (h : DataW.TrodAll enc P w base spare held [t0, t1, t2, t3, t4, t5, t6] args.toList ds ps) :
    ∃ v0 v1 v2 v3 v4 v5 v6 d0 d1 d2 d3 d4 d5 d6 p0 p1 p2 p3 p4 p5 p6, args = #[v0, v1, v2, v3, v4, v5, v6] ∧ ds = [d0, d1, d2, d3, d4, d5, d6] ∧ ps = p0 ++ (p1 ++ (p2 ++ (p3 ++ (p4 ++ (p5 ++ p6))))) ∧ DataW.Trod enc P w base spare held t0 v0 d0 p0 ∧ DataW.Trod enc P w base spare held t1 v1 d1 p1 ∧
      DataW.Trod enc P w base spare held t2 v2 d2 p2 ∧ DataW.Trod enc P w base spare held t3 v3 d3 p3 ∧ DataW.Trod enc P w base spare held t4 v4 d4 p4 ∧ DataW.Trod enc P w base spare held t5 v5 d5 p5 ∧ DataW.Trod enc P w base spare held t6 v6 d6 p6 := by
  obtain ⟨v0, l0, d0, e0, p0, q0, ha, rfl, rfl, h0, h⟩ := trodAll_cons h
  obtain ⟨v1, v2, v3, v4, v5, v6, d1, d2, d3, d4, d5, d6, p1, p2, p3, p4, p5, p6, hb, rfl, rfl, h1, h2, h3, h4, h5, h6⟩ := trodAll_six (args := l0.toArray) (by simpa using h)
  refine ⟨v0, v1, v2, v3, v4, v5, v6, d0, d1, d2, d3, d4, d5, d6, p0, p1, p2, p3, p4, p5, p6, ?_, rfl, by simp, h0, h1, h2, h3, h4, h5, h6⟩
  apply Array.ext'
  rw [ha]
  have := congrArg Array.toList hb
  simpa using this
theorem trodAll_ten {w : World} {base : Nat} {spare : Nat → Bool} {held : Bool} {t0 t1 t2 t3 t4 t5 t6 t7 t8 t9 : TypeId} {args : Array Value} {ds : List (DataW H)} {ps : List MemPlace} (h : DataW.TrodAll enc P w base spare held [t0, t1, t2, t3, t4, t5, t6, t7, t8, t9] args.toList ds ps) :
    ∃ v0 v1 v2 v3 v4 v5 v6 v7 v8 v9 d0 d1 d2 d3 d4 d5 d6 d7 d8 d9 p0 p1 p2 p3 p4 p5 p6 p7 p8 p9, args = #[v0, v1, v2, v3, v4, v5, v6, v7, v8, v9] ∧ ds = [d0, d1, d2, d3, d4, d5, d6, d7, d8, d9] ∧ ps = p0 ++ (p1 ++ (p2 ++ (p3 ++ (p4 ++ (p5 ++ (p6 ++ (p7 ++ (p8 ++ p9)))))))) ∧
      DataW.Trod enc P w base spare held t0 v0 d0 p0 ∧ DataW.Trod enc P w base spare held t1 v1 d1 p1 ∧ DataW.Trod enc P w base spare held t2 v2 d2 p2 ∧ DataW.Trod enc P w base spare held t3 v3 d3 p3 ∧ DataW.Trod enc P w base spare held t4 v4 d4 p4 ∧
      DataW.Trod enc P w base spare held t5 v5 d5 p5 ∧ DataW.Trod enc P w base spare held t6 v6 d6 p6 ∧ DataW.Trod enc P w base spare held t7 v7 d7 p7 ∧ DataW.Trod enc P w base spare held t8 v8 d8 p8 ∧ DataW.Trod enc P w base spare held t9 v9 d9 p9 := by
  obtain ⟨v0, l0, d0, e0, p0, q0, ha, rfl, rfl, h0, h⟩ := trodAll_cons h
  obtain ⟨v1, l1, d1, e1, p1, q1, rfl, rfl, rfl, h1, h⟩ := trodAll_cons h
  obtain ⟨v2, l2, d2, e2, p2, q2, rfl, rfl, rfl, h2, h⟩ := trodAll_cons h
  obtain ⟨v3, v4, v5, v6, v7, v8, v9, d3, d4, d5, d6, d7, d8, d9, p3, p4, p5, p6, p7, p8, p9, hb, rfl, rfl, h3, h4, h5, h6, h7, h8, h9⟩ := trodAll_seven (args := l2.toArray) (by simpa using h)
  refine ⟨v0, v1, v2, v3, v4, v5, v6, v7, v8, v9, d0, d1, d2, d3, d4, d5, d6, d7, d8, d9, p0, p1, p2, p3, p4, p5, p6, p7, p8, p9, ?_, rfl, by simp, h0, h1, h2, h3, h4, h5, h6, h7, h8, h9⟩
  apply Array.ext'
  rw [ha]
  have := congrArg Array.toList hb
  simp at this
  simp [this]
end
end Go.Pm
namespace Go.Pm
open Go Go.RowKit
def beginsF : List Rec → Bool
  | [] => false
  | r :: l => wholeB r l
theorem wholeB_iff2 (r : Rec) (l : List Rec) (K : Nat) (hK : (K : Int) = max r.count 0) : wholeB r l = true ↔ r.kind = 1 ∧ K ≤ l.length ∧ ∀ j (hj : j < l.length), j < K → l[j].kind = 2 := by
  rw [wholeB_iff]
  constructor
  · rintro ⟨h1, h2, h3⟩
    exact ⟨h1, by omega, fun j hj h => h3 j hj (by omega)⟩
  · rintro ⟨h1, h2, h3⟩
    exact ⟨h1, by omega, fun j hj h => h3 j hj (by omega)⟩
theorem ps_upto15 {k : Nat} {P : Program} {t : TypeId} (ht : P.underlying t = some (.slice (P.elem t))) (hz : ∀ W, (sizeOf (P.elem t)).run P W = .ok k W) {w : World} {lo hi : Nat} {a : Option Addr} {n cap : Nat} {xs : List (List Value)} (h : Ps k w lo hi (.slice a n cap) xs) (i : Nat) (h1 : i ≤ n) :
    ∃ a', (∀ W, (Instr.slice t (.slice a n cap) none (some (.int .i64 (i : Int))) none).run P W = .ok (.slice a' i cap) W) ∧ Ps k w lo hi (.slice a' i cap) (xs.take i) := by
  have hc : n ≤ cap := by obtain ⟨a', cap', hv, hc, _⟩ := h.form; injection hv; omega
  refine ⟨if cap = 0 then a else a.map (·.add (0 * k)), fun W => ?_, ?_⟩
  · rw [run_slice_h (P := P) W t a n cap ht .i64 (i : Int) (Int.natCast_nonneg _) (by omega), hz]
    simp only [Result.andThen, Go.sliced, Nat.sub_zero, Int.toNat_natCast]
  · have := Ps.sliced h 0 i (Nat.zero_le _) h1
    simpa using this
theorem ps_from15 {k : Nat} {P : Program} {t : TypeId} (ht : P.underlying t = some (.slice (P.elem t))) (hz : ∀ W, (sizeOf (P.elem t)).run P W = .ok k W) {w : World} {lo hi : Nat} {a : Option Addr} {n cap : Nat} {xs : List (List Value)} (h : Ps k w lo hi (.slice a n cap) xs) (i : Nat) (h1 : i ≤ n) :
    ∃ a' c', (∀ W, (Instr.slice t (.slice a n cap) (some (.int .i64 (i : Int))) none none).run P W = .ok (.slice a' (n - i) c') W) ∧ Ps k w lo hi (.slice a' (n - i) c') (xs.drop i) := by
  obtain ⟨a0, cap0, hv, hc, _⟩ := h.form
  injection hv with e1 e2 e3
  subst e1 e2 e3
  refine ⟨if cap = i then a else a.map (·.add (i * k)), cap - i, fun W => ?_, ?_⟩
  · rw [run_slice_l (P := P) W t a xs.length cap ht .i64 (i : Int) (Int.natCast_nonneg _) (by omega), hz]
    simp only [Result.andThen, Go.sliced, Int.toNat_natCast]
  · have := Ps.sliced h i xs.length h1 (Nat.le_refl _)
    rwa [List.take_length] at this
end Go.Pm
namespace Go.Proofs.Ytbebpnanhkcngaa
open Go.RowKit Go.Pm
namespace Sn
theorem tRecs : Try.prog.underlying 27 = some (.slice (Try.prog.elem 27)) := by kernel_rfl
theorem zRecs : ∀ W, (sizeOf (Try.prog.elem 27)).run Try.prog W = .ok 12 W := fun _ => by kernel_rfl
theorem aRecS : AggTy Try.prog 45 12 := Sg.AggTy.of (by kernel_rfl) (by kernel_rfl)
set_option maxRecDepth 100000 in
set_option maxHeartbeats 8000000 in
theorem follows (a : Option Addr) (c : Nat) (lo hi : Nat) (l : List Rec) (x : Rec) (w : World) (hv : Ps 12 w lo hi (.slice a l.length c) (recsC l)) (hr : ∀ r ∈ l, rightJ r = true) (hn : 21 * l.length ≤ 1099511627000) :
    Calls Try.prog 25 #[.slice a l.length c, x.V] w fun e w' => e = .returned (.bool (nextJ (lastS none l) x.seq)) ∧ Kept None w w' := by
  obtain ⟨x0, x1, x2, x3, ⟨xn, xv, xk, xc, xr, xs⟩, xt, xe⟩ := x
  unfold Rec.V Rec.C
  simp only
  have BX := hid (Blk.new w #[.int .i64 x0, .int .i64 x1, .int .i64 x2, .int .i64 x3, .string xn, .int .i64 xv, .int .u64 (xk : Int), .int .i64 xc, .int .u64 (xr : Int), .int .u64 (xs : Int), .int .i64 xt, .int .i64 xe] 45)
  have K3 := hid ((Kept.refl None w).alloc (.cells #[.int .i64 x0, .int .i64 x1, .int .i64 x2, .int .i64 x3, .string xn, .int .i64 xv, .int .u64 (xk : Int), .int .i64 xc, .int .u64 (xr : Int), .int .u64 (xs : Int), .int .i64 xt, .int .i64 xe] 45))
  by_cases h0 : l.length = 0
  · have z1 : ((l.length : Int) == 0) = true := by rw [h0]; rfl
    have z2 : decide ((l.length : Int) = 0) = true := by rw [h0]; rfl
    have hg : nextJ (lastS none l) x1 = true := by obtain rfl : l = [] := List.eq_nil_of_length_eq_zero h0; rfl
    have HG := hid hg
    clear h0 hg hv hr
    go_enter Try.func25, Try.ntmps25
    go_upto_region 1 with fail
    obtain ⟨w3, hw3⟩ : ∃ w3, w3 = w.alloc (.cells #[.int .i64 x0, .int .i64 x1, .int .i64 x2, .int .i64 x3, .string xn, .int .i64 xv, .int .u64 (xk : Int), .int .i64 xc, .int .u64 (xr : Int), .int .u64 (xs : Int), .int .i64 xt, .int .i64 xe] 45) := ⟨_, rfl⟩
    rw [← hw3] at BX K3 ⊢
    clear hw3
    go_quiet (fail)
    go_wp2
    go_ret
    rw [HG.out]
    exact ⟨rfl, K3.out.trans (Kept.toDrewN None w3 nq)⟩
  · obtain ⟨q, hq1, hqm, hq2⟩ := last15 (p := none) (l := l) (by omega)
    have hqr := ((rightJ_iff q).1 (hr q hqm)).1
    obtain ⟨N1, hN1⟩ : ∃ m, m = l.length - 1 := ⟨_, rfl⟩
    obtain ⟨hN, hNl, wn, wn2⟩ := pred15 (a := 21 * l.length) (m := 21 * l.length) hN1 (Nat.pos_of_ne_zero h0) (Nat.le_refl _) (Nat.le_refl _) (by omega)
    obtain ⟨g, o, rfl, _, hcell⟩ := hv.rec (by omega)
    have hc0 := hcell N1 hNl 1 (.int .i64 q.seq) (by rw [← hN1, List.getElem?_eq_getElem hNl] at hq1; injection hq1 with hq1; rw [hq1]; rfl)
    have hc := (K3.out.cell (p := ⟨g, o + N1 * 12 + 1, none⟩) (block_lt_of_cell hc0) (fun h => h)).trans hc0
    obtain ⟨QS, hQS⟩ : ∃ m : Int, m = q.seq + 1 := ⟨_, rfl⟩
    obtain ⟨wq, wq2⟩ := succ15 hQS hqr.1 hqr.2
    obtain ⟨qs, hqs⟩ : ∃ m : Int, m = q.seq := ⟨_, rfl⟩
    rw [← hqs] at hc wq wq2 hQS hq2
    have hNb : (N1 : Int) < (l.length : Int) := Int.ofNat_lt.mpr hNl
    have z1 : ((l.length : Int) == 0) = false := by simpa using h0
    have z2 : decide ((l.length : Int) = 0) = false := by simpa using h0
    have hres : nextJ (lastS none l) x1 = decide (x1 = QS) := by rw [hq2, hQS]; rfl
    have HG := hid hres
    clear hq1 hqm hq2 hqr hN1 hcell hQS hqs hNl hc0 hr hv hres
    go_enter Try.func25, Try.ntmps25
    go_upto_region 1 with fail
    obtain ⟨w3, hw3⟩ : ∃ w3, w3 = w.alloc (.cells #[.int .i64 x0, .int .i64 x1, .int .i64 x2, .int .i64 x3, .string xn, .int .i64 xv, .int .u64 (xk : Int), .int .i64 xc, .int .u64 (xr : Int), .int .u64 (xs : Int), .int .i64 xt, .int .i64 xe] 45) := ⟨_, rfl⟩
    rw [← hw3] at BX K3 hc ⊢
    clear hw3
    have cx : w3.cell? ⟨w.heap.size, 1, none⟩ = some (.int .i64 x1) := BX.out.cell 1
    clear h0
    go_quiet (fail)
    go_wp2
    go_ret
    rw [HG.out]
    exact ⟨by first | rfl | simp, K3.out.trans (Kept.toDrewN None w3 nq)⟩
set_option maxRecDepth 100000 in
set_option maxHeartbeats 16000000 in
theorem begins (v : Value) (lo hi : Nat) (l : List Rec) (w : World) (hv : Ps 12 w lo hi v (recsC l)) (hln : l.length ≤ 1000000000) :
    Calls Try.prog 26 #[v] w fun en w' => en = .returned (.bool (beginsF l)) ∧ Kept None w w' := by
  obtain ⟨av, nv, cv, rfl, hnv⟩ : ∃ a n c, v = .slice a n c ∧ n = l.length := by
    obtain ⟨a, c, h, _⟩ := hv.form
    rw [recsC_len] at h
    exact ⟨a, _, c, h, rfl⟩
  subst hnv
  match l, hv, hln with
  | [], _, _ =>
    go_enter Try.func26, Try.ntmps26
    go_wp2_with (first | go_skip | fail)
    go_ret
    exact ⟨rfl, Kept.refl _ _⟩
  | r :: rest, hv, hln =>
    obtain ⟨l, hl⟩ : ∃ l, l = r :: rest := ⟨_, rfl⟩
    have hbf : beginsF (r :: rest) = wholeB r rest := rfl
    rw [hbf]
    rw [← hl] at hv hln ⊢
    have hn : l.length = rest.length + 1 := by rw [hl]; rfl
    have hpos : 0 < l.length := by omega
    obtain ⟨a2, c2', hsl, hP2⟩ := ps_from15 tRecs zRecs hv 1 hpos
    have hP2 : Ps 12 w lo hi (.slice a2 (l.length - 1) c2') (recsC rest) := by rw [hl] at hP2 ⊢; exact hP2
    obtain ⟨M, hM⟩ : ∃ m, m = rest.length := ⟨_, rfl⟩
    have hM1 : l.length - 1 = M := by omega
    rw [hM1] at hsl hP2
    obtain ⟨b, o, rfl, hbs, hcell⟩ := hv.rec hpos
    have h0 := hcell 0 hpos
    simp only [Nat.zero_mul, Nat.add_zero] at h0
    have e0 : l[0] = r := by simp only [hl]; rfl
    rw [e0] at h0
    obtain ⟨c0, _, _, c3, _⟩ := rec_cells h0
    have n1 : ((l.length : Int) == 0) = false := by
      have : ¬ l.length = 0 := by omega
      simpa using this
    have n2 : (0 : Int) < (l.length : Int) := by omega
    obtain ⟨kd, hkd⟩ : ∃ k, k = r.kind := ⟨_, rfl⟩
    obtain ⟨C, hC⟩ : ∃ c, c = r.count := ⟨_, rfl⟩
    obtain ⟨K, hK⟩ : ∃ K : Nat, (K : Int) = max C 0 := ⟨C.toNat, by omega⟩
    have hB := wholeB_iff2 r rest K (by rw [← hC]; exact hK)
    rw [← hkd] at c0 hB
    rw [← hC] at c3
    have HLN := hid hln
    have HSL := hid (fun W => show (Instr.slice 27 (.slice (some ⟨b, o, none⟩) l.length cv) (some (.int .i64 1)) none none).run Try.prog W = .ok (.slice a2 M c2') W from hsl W)
    have HP := hid hP2
    have HLE := hid (show l.length = M + 1 by omega)
    have n3 : 0 < l.length := hpos
    clear hcell h0 e0 hsl hP2 hl hn hpos hM1 hv hbs
    by_cases hk : kd = 1
    · subst hk
      have hmx : max C 0 = (K : Int) := hK.symm
      have HC3 := hid c3
      by_cases hc : K ≤ M
      · have d1 : decide ((M : Int) < (K : Int)) = false := by simp; omega
        have d2 : decide (M < K) = false := by simp; omega
        obtain ⟨a3, hs3, hP3⟩ := ps_upto15 tRecs zRecs HP.out K hc
        have HS3 := hid hs3
        have HP3 := hid hP3
        have hBB : wholeB r rest = true ↔ ∀ j (hj : j < rest.length), j < K → rest[j].kind = 2 := by rw [hB]; exact ⟨fun h => h.2.2, fun h => ⟨rfl, by omega, h⟩⟩
        have HB := hid hBB
        have HKM := hid (And.intro hc (And.intro hM (show K ≤ 1000000000 by have := HLN.out; rw [HLE.out] at this; omega)))
        clear hB hBB hs3 hP3 hc hM hK hC HP hkd
        go_enter Try.func26, Try.ntmps26
        go_upto_region 3 with (first | go_skip | fail)
        clear c0 n1
        refine wp_region_kn w [] Go.Pm.Steady.nil (Kept.refl _ _) (by kernel_rfl) (by kernel_rfl) (by kernel_rfl) ?_
        iterate 9 (refine wpPar_pure rfl (by rfl) _ (fun W hW => by
            have c3 := (hW.cell (p := ⟨b, o + 3, none⟩) (block_lt_of_cell HC3.out) (fun h => h)).trans HC3.out
            have hq := HSL.out
            go_simp
            exact rfl) ?_; simp only [Act.put, List.setIfInBounds_toArray, List.set_cons_zero, List.set_cons_succ])
        refine wpPar_nil (fun w2 hW hG => ?_)
        have K2 := hid hW
        clear hG hW
        have hs3 := HS3.out
        go_wp2_with fail
        clear d1 d2 hs3 hmx n2 n3
        go_loopg [32] K (fun kx s32 wr => ∃ i : Nat, s32 = .int .i64 (i : Int) ∧ i ≤ K ∧ K - i ≤ kx ∧ Hid (∀ j (hj : j < rest.length), j < i → rest[j].kind = 2) ∧ Hid (Kept None w wr))
        case atStart => exact ⟨0, rfl, Nat.zero_le _, Nat.le_refl _, hid (fun j hj h => absurd h (Nat.not_lt_zero _)), K2⟩
        case round =>
        obtain ⟨i, rfl, hi, hix, HA, HS⟩ := hrel
        by_cases hlt : i < K
        · have hlt' : decide ((i : Int) < (K : Int)) = true := by simpa using hlt
          have hib : (i : Int) < (K : Int) := Int.ofNat_lt.mpr hlt
          have hir : i < rest.length := by have := HKM.out.1; have := HKM.out.2.1; omega
          obtain ⟨b3, o3, h33, hr⟩ := (HP3.out.kept HS.out (fun _ _ _ h => h)).at (by decide) (i := i) (by rw [List.length_take, recsC_len]; omega)
          subst h33
          have hx : ((recsC rest).take K)[i]'(by rw [List.length_take, recsC_len]; omega) = recC rest[i] := by
            rw [List.getElem_take]
            exact Option.some.inj ((List.getElem?_eq_getElem _).symm.trans (recsC_at rest i hir))
          rw [hx] at hr
          obtain ⟨x, hxx⟩ : ∃ x, x = rest[i] := ⟨_, rfl⟩
          rw [← hxx] at hr
          obtain ⟨x0, x1, x2, x3, ⟨xn, xv, xk, xc, xr, xs⟩, xt, xe⟩ := x
          have HR := hid hr
          have aX : AggTy Try.prog 45 (recC (⟨x0, x1, x2, x3, ⟨xn, xv, xk, xc, xr, xs⟩, xt, xe⟩ : Rec)).length := aRecS
          unfold recC Rec.C at HR aX
          have hr := HR.out
          have HLT := hid (And.intro hlt hir)
          have HXX := hid hxx
          have wi1 : wrap64 ((i : Int) + 1) = ((i + 1 : Nat) : Int) := (nums15 (n := i + 1) (by have := HKM.out.2.2; omega)).1
          have HW := hid wi1
          clear hx hxx wi1 hlt
          by_cases hk2 : x0 = 2
          · subst hk2
            have HA2 : Hid (∀ j (hj : j < rest.length), j < i + 1 → rest[j].kind = 2) := hid (fun j hj h => by
              by_cases hji : j = i
              · subst hji; rw [← HXX.out]
              · exact HA.out j hj (by omega))
            go_wp2_with (first | (refine wpList_load_at rfl _ _ rfl rfl hr aX ?_) | fail)
            go_roundg (K - (i + 1))
            case measure => have := HLT.out.1; omega
            case rel => exact ⟨i + 1, by first | rfl | rw [HW.out] | simp, HLT.out.1, Nat.le_refl _, HA2, hid (HS.out.alloc _)⟩
          · have d1 : (x0 == 2) = false := by simpa using hk2
            have d2 : (x0 != 2) = true := by simpa using hk2
            have d3 : decide (x0 = 2) = false := by simpa using hk2
            have d4 : (!decide (x0 = 2)) = true := by simpa using hk2
            have hF : wholeB r rest = false := by
              cases h : wholeB r rest with
              | false => rfl
              | true =>
                have := HB.out.1 h i HLT.out.2 HLT.out.1
                rw [← HXX.out] at this
                exact absurd this hk2
            have HF := hid hF
            clear hk2 hF
            go_wp2_with (first | (refine wpList_load_at rfl _ _ rfl rfl hr aX ?_) | fail)
            go_ret
            rw [HF.out]
            exact ⟨rfl, HS.out.alloc _⟩
        · have hlt' : decide ((i : Int) < (K : Int)) = false := by simpa using hlt
          obtain rfl : i = K := by omega
          have hF : wholeB r rest = true := HB.out.2 (fun j hj h => HA.out j hj (by omega))
          have HF := hid hF
          clear hF hlt hi hix
          go_wp2
          go_ret
          rw [HF.out]
          exact ⟨rfl, HS.out⟩
      · have d1 : decide ((M : Int) < (K : Int)) = true := by simp; omega
        have d2 : decide (M < K) = true := by simp; omega
        have hF : wholeB r rest = false := by
          cases h : wholeB r rest with
          | false => rfl
          | true => exact absurd (hB.1 h).2.1 (by omega)
        have HF := hid hF
        clear hB hF hc hM hK hC HP hkd
        go_enter Try.func26, Try.ntmps26
        go_upto_region 3 with (first | go_skip | fail)
        clear c0 n1
        refine wp_region_kn w [] Go.Pm.Steady.nil (Kept.refl _ _) (by kernel_rfl) (by kernel_rfl) (by kernel_rfl) ?_
        iterate 9 (refine wpPar_pure rfl (by rfl) _ (fun W hW => by
            have c3 := (hW.cell (p := ⟨b, o + 3, none⟩) (block_lt_of_cell HC3.out) (fun h => h)).trans HC3.out
            have hq := HSL.out
            go_simp
            exact rfl) ?_; simp only [Act.put, List.setIfInBounds_toArray, List.set_cons_zero, List.set_cons_succ])
        refine wpPar_nil (fun w2 hW hG => ?_)
        have K2 := hid hW
        clear hG hW
        go_wp2
        go_ret
        rw [HF.out]
        exact ⟨rfl, K2.out⟩
    · have d1 : (kd == 1) = false := by simpa using hk
      have d2 : (kd != 1) = true := by simpa using hk
      have d3 : decide (kd = 1) = false := by simpa using hk
      have d4 : (!decide (kd = 1)) = true := by simpa using hk
      have hF : wholeB r rest = false := by
        cases h : wholeB r rest with
        | false => rfl
        | true => exact absurd (hB.1 h).1 hk
      rw [hF]
      clear hk hB hF hK hC hM hkd HSL HP c3
      go_enter Try.func26, Try.ntmps26
      go_wp2_with (first | go_skip | fail)
      go_ret
      exact ⟨rfl, Kept.refl _ _⟩
end Sn
end Go.Proofs.Ytbebpnanhkcngaa
namespace Go.Pm
open Go Go.RowKit
/-- The fields of a body. -/
def fldJ (K : Int) (L : List UInt8) : Rec :=
  if K = 1 then ⟨K, 0, IntKind.i64.wrap (St.mk L 0).num, IntKind.i64.wrap (St.mk L 0).numS.num, Req.none, 0, 0⟩
  else if K = 2 then ⟨K, 0, 0, 0, readQ (St.mk L 0).numS.l, IntKind.i64.wrap (St.mk L 0).num, 0⟩
  else if K = 3 then ⟨K, 0, 0, 0, Req.none, 0, IntKind.i64.wrap (St.mk L 0).num⟩ else ⟨K, 0, 0, 0, Req.none, 0, 0⟩
theorem i64_small {x : Int} (h0 : 0 ≤ x) (h : x ≤ 1152921504606846976) : IntKind.i64.wrap x = x := by rw [IntKind.wrap_i64]; omega
theorem fldJ_kind (K : Int) (L : List UInt8) : (fldJ K L).kind = K := by
  unfold fldJ
  split
  · rfl
  · split
    · rfl
    · split <;> rfl
theorem fldJ_words (K : Int) (L : List UInt8) : (fldJ K L).u.r < 18446744073709551616 ∧ (fldJ K L).u.s < 18446744073709551616 := by
  have h0 : Req.none.r < 18446744073709551616 ∧ Req.none.s < 18446744073709551616 := ⟨by decide, by decide⟩
  unfold fldJ
  split
  · exact h0
  · split
    · exact readQ_fits _
    · split <;> exact h0
theorem fldJ_cand {K S : Int} {L : List UInt8} (h : okJ K S L = true) : (⟨(fldJ K L).kind, S, (fldJ K L).gen, (fldJ K L).count, (fldJ K L).u, (fldJ K L).tick, (fldJ K L).epoch⟩ : Rec) = candJ K S L := by
  rcases okJ_kind h with rfl | rfl | rfl
  · obtain ⟨hl, h0, h1, h2, h3⟩ := okJ_one h
    unfold fldJ
    rw [if_pos rfl, numS_of (by omega), num_of (by omega), num_of (by rw [List.length_drop]; omega), i64_small h0 h1, i64_small h2 (by omega)]
    rfl
  · obtain ⟨hl, h0, h1, _⟩ := okJ_two h
    unfold fldJ
    rw [if_neg (by decide), if_pos rfl, numS_of hl, num_of hl, i64_small h0 h1]
    rfl
  · obtain ⟨hl, h0, h1⟩ := okJ_three h
    unfold fldJ
    rw [if_neg (by decide), if_neg (by decide), if_pos rfl, num_of (by omega), i64_small (by omega) (by omega)]
    rfl
theorem raw_all {s : St} (h : s.Ok) : s.raw s.l.length = s.l := by
  unfold St.raw
  by_cases he : s.e = 0
  · rw [if_pos ⟨he, Int.le_refl _⟩, Int.toNat_natCast, List.take_length]
  · rw [if_neg (fun h => he h.1), h he]
/-- What a candidate for a frame's record comes to, by its body. -/
theorem readJ_of2 {b L : List UInt8} {K S : Int} {n : Nat} (hF : readF b = ⟨K, S, L, n, 0⟩) (r : Rec) (hk : r.kind = K) (hs : r.seq = S) (hf : r.u.r < 18446744073709551616 ∧ r.u.s < 18446744073709551616) (hc : okJ K S L = true → r = candJ K S L) :
    readJ b = if rightJ r = true ∧ bodyJ r = L then ⟨r, n, 0⟩ else ⟨Rec.none, 0, 20⟩ := by
  have e0 : readJ b = if okJ K S L = true then ⟨candJ K S L, n, 0⟩ else ⟨Rec.none, 0, 20⟩ := by
    unfold readJ
    rw [hF]
    simp only [if_pos]
  rw [e0]
  by_cases h : okJ K S L = true
  · have e := hc h
    have h2 : rightJ (candJ K S L) = true ∧ bodyJ (candJ K S L) = L := by
      unfold okJ at h
      simpa using h
    rw [if_pos h, if_pos ⟨by rw [e]; exact h2.1, by rw [e]; exact h2.2⟩, e]
  · rw [if_neg h, if_neg]
    rintro ⟨h1, h2⟩
    have e3 := candJ_body h1 hf
    rw [hk, hs, h2] at e3
    exact h (by unfold okJ; rw [e3, h1, h2]; simp)
end Go.Pm
namespace Go.Proofs.Ytbebpnanhkcngaa
open Go.RowKit Go.Pm
namespace Jr
theorem aRecF : AggTy Try.prog 45 12 := Sg.AggTy.of (by kernel_rfl) (by kernel_rfl)
theorem zRecF : (#[.int .i64 0, .int .i64 0, .int .i64 0, .int .i64 0, .string ⟨#[]⟩, .int .i64 0, .int .u64 0, .int .i64 0, .int .u64 0, .int .u64 0, .int .i64 0, .int .i64 0] : Array Value).all (·.oneCell') = true := Rec.C_one Rec.none
theorem iUpdF : (Try.prog.info? 43).map (·.size) = some 6 := by kernel_rfl
set_option maxRecDepth 100000 in
set_option maxHeartbeats 8000000 in
theorem fields (K : Int) (v : Value) (lo hi : Nat) (L : List UInt8) (w : World) (hv : Bs w lo hi v L) (hl : L.length ≤ 140737488355328) :
    Calls Try.prog 40 #[.int .i64 K, v] w fun en w' => en = .returned (fldJ K L).V ∧ Kept None w w' := by
  obtain ⟨av, cv, rfl, _⟩ := hv.shape
  have HN := hid (fun W (hW : Kept None w W) => Bin.new _ lo hi L W (hv.kept hW (fun _ _ _ h => h)) hl)
  have HL := hid hl
  clear hv hl
  go_enter Try.func40, Try.ntmps40
  go_wp2_with fail
  have B0 := hid (show Blk ((w.alloc (.cells #[.int .i64 0, .int .i64 0, .int .i64 0, .int .i64 0, .string ⟨#[]⟩, .int .i64 0, .int .u64 0, .int .i64 0, .int .u64 0, .int .u64 0, .int .i64 0, .int .i64 0] 45)).alloc (.cells #[.int .i64 K, .int .i64 0, .int .i64 0, .int .i64 0, .string ⟨#[]⟩, .int .i64 0, .int .u64 0, .int .i64 0, .int .u64 0, .int .u64 0, .int .i64 0, .int .i64 0] 45)) (w.heap.size + 1) #[.int .i64 K, .int .i64 0, .int .i64 0, .int .i64 0, .string ⟨#[]⟩, .int .i64 0, .int .u64 0, .int .i64 0, .int .u64 0, .int .u64 0, .int .i64 0, .int .i64 0] 45 from Blk.new2 w _ _ _)
  have Z0 := hid (show Blk ((w.alloc (.cells #[.int .i64 0, .int .i64 0, .int .i64 0, .int .i64 0, .string ⟨#[]⟩, .int .i64 0, .int .u64 0, .int .i64 0, .int .u64 0, .int .u64 0, .int .i64 0, .int .i64 0] 45)).alloc (.cells #[.int .i64 K, .int .i64 0, .int .i64 0, .int .i64 0, .string ⟨#[]⟩, .int .i64 0, .int .u64 0, .int .i64 0, .int .u64 0, .int .u64 0, .int .i64 0, .int .i64 0] 45)) w.heap.size #[.int .i64 0, .int .i64 0, .int .i64 0, .int .i64 0, .string ⟨#[]⟩, .int .i64 0, .int .u64 0, .int .i64 0, .int .u64 0, .int .u64 0, .int .i64 0, .int .i64 0] 45 from (Blk.new w _ _).alloc _)
  have K0 := hid (show Kept None w ((w.alloc (.cells #[.int .i64 0, .int .i64 0, .int .i64 0, .int .i64 0, .string ⟨#[]⟩, .int .i64 0, .int .u64 0, .int .i64 0, .int .u64 0, .int .u64 0, .int .i64 0, .int .i64 0] 45)).alloc (.cells #[.int .i64 K, .int .i64 0, .int .i64 0, .int .i64 0, .string ⟨#[]⟩, .int .i64 0, .int .u64 0, .int .i64 0, .int .u64 0, .int .u64 0, .int .i64 0, .int .i64 0] 45)) from ((Kept.refl _ _).alloc _).alloc _)
  obtain ⟨w0, hw0⟩ : ∃ w0, w0 = (w.alloc (.cells #[.int .i64 0, .int .i64 0, .int .i64 0, .int .i64 0, .string ⟨#[]⟩, .int .i64 0, .int .u64 0, .int .i64 0, .int .u64 0, .int .u64 0, .int .i64 0, .int .i64 0] 45)).alloc (.cells #[.int .i64 K, .int .i64 0, .int .i64 0, .int .i64 0, .string ⟨#[]⟩, .int .i64 0, .int .u64 0, .int .i64 0, .int .u64 0, .int .u64 0, .int .i64 0, .int .i64 0] 45) := ⟨_, rfl⟩
  have hs0 : w0.heap.size = w.heap.size + 2 := by rw [hw0]; simp
  rw [← hw0] at B0 Z0 K0 ⊢
  clear hw0
  refine (HN.out w0 K0.out).mono ?_
  rintro e0 w1 ⟨r, rfl, k1, hr1, R⟩
  have hr := hid (show w.heap.size + 2 ≤ r ∧ w0.heap.size = w.heap.size + 2 by omega)
  have B1 := hid (B0.out.kept k1 (fun h => h))
  have Z1 := hid (Z0.out.kept k1 (fun h => h))
  have Q1 := hid (K0.out.trans k1)
  have R1 := hid R
  clear k1 hr1 R B0 Z0 K0 HN hs0
  by_cases hk1 : K = 1
  · subst hk1
    go_wp2_with fail
    refine (Bin.rnum r w0.heap.size r ⟨L, 0⟩ w1 R1.out (Nat.le_refl _)).mono ?_
    rintro e1 w2 ⟨rfl, k2, r2⟩
    obtain ⟨N1, hN1⟩ : ∃ N, N = St.num ⟨L, 0⟩ := ⟨_, rfl⟩
    obtain ⟨x1, hx1⟩ : ∃ x, x = IntKind.i64.wrap N1 := ⟨_, rfl⟩
    rw [← hN1]
    have HX1 := hid (show x1 = IntKind.i64.wrap (St.num ⟨L, 0⟩) by rw [hx1, hN1])
    have wx := hx1.symm
    have b2 := B1.out.kept k2 (fun (h : (w.heap.size + 1) = r) => by have := hr.out; omega)
    have z2 := Z1.out.kept k2 (fun (h : w.heap.size = r) => by have := hr.out; omega)
    have Q2 := hid (Q1.out.then k2 (fun i hi (h : i = r) => by have := hr.out; omega))
    have B2 := hid b2
    have Z2 := hid z2
    have R2 := hid r2
    have cc := b2.cell 2
    have ff := b2.free 2
    (try simp at cc)
    clear k2 r2 b2 z2 hx1 hN1 B1 Z1 R1 Q1
    go_upto_region 6 with fail
    clear cc ff wx
    have B3 := hid (B2.out.set 2 (.int .i64 x1))
    have Z3 := hid (Z2.out.setOther (a := ⟨(w.heap.size + 1), 2, none⟩) (by simp only; omega) (.int .i64 x1))
    have k3 : Kept (Just (w.heap.size + 1)) w2 (w2.setCell ⟨(w.heap.size + 1), 2, none⟩ (.int .i64 x1)) := Kept.one w2 (w.heap.size + 1) 2 _
    have R3 := hid (R2.out.kept k3 (fun k hk1 hk (h : k = (w.heap.size + 1)) => by have := hr.out; omega) (fun (h : r = (w.heap.size + 1)) => by have := hr.out; omega))
    have Q3 := hid (Q2.out.then k3 (fun i hi (h : i = (w.heap.size + 1)) => by omega))
    obtain ⟨w3, hw3⟩ : ∃ w3, w3 = w2.setCell ⟨(w.heap.size + 1), 2, none⟩ (.int .i64 x1) := ⟨_, rfl⟩
    rw [← hw3] at B3 Z3 R3 Q3 ⊢
    clear k3 hw3 B2 Z2 R2 Q2
    go_wp2_with fail
    refine (Bin.rnum r w0.heap.size r (St.mk L 0).numS w3 R3.out (Nat.le_refl _)).mono ?_
    rintro e3 w4 ⟨rfl, k4, r4⟩
    obtain ⟨N3, hN3⟩ : ∃ N, N = St.num (St.mk L 0).numS := ⟨_, rfl⟩
    obtain ⟨x3, hx3⟩ : ∃ x, x = IntKind.i64.wrap N3 := ⟨_, rfl⟩
    rw [← hN3]
    have HX3 := hid (show x3 = IntKind.i64.wrap (St.num (St.mk L 0).numS) by rw [hx3, hN3])
    have wx := hx3.symm
    have b4 := B3.out.kept k4 (fun (h : (w.heap.size + 1) = r) => by have := hr.out; omega)
    have z4 := Z3.out.kept k4 (fun (h : w.heap.size = r) => by have := hr.out; omega)
    have Q4 := hid (Q3.out.then k4 (fun i hi (h : i = r) => by have := hr.out; omega))
    have B4 := hid b4
    have Z4 := hid z4
    have R4 := hid r4
    have cc := b4.cell 3
    have ff := b4.free 3
    (try simp at cc)
    clear k4 r4 b4 z4 hx3 hN3 B3 Z3 R3 Q3
    go_upto_region 12 with fail
    clear cc ff wx
    have B5 := hid (B4.out.set 3 (.int .i64 x3))
    have Z5 := hid (Z4.out.setOther (a := ⟨(w.heap.size + 1), 3, none⟩) (by simp only; omega) (.int .i64 x3))
    have k5 : Kept (Just (w.heap.size + 1)) w4 (w4.setCell ⟨(w.heap.size + 1), 3, none⟩ (.int .i64 x3)) := Kept.one w4 (w.heap.size + 1) 3 _
    have R5 := hid (R4.out.kept k5 (fun k hk1 hk (h : k = (w.heap.size + 1)) => by have := hr.out; omega) (fun (h : r = (w.heap.size + 1)) => by have := hr.out; omega))
    have Q5 := hid (Q4.out.then k5 (fun i hi (h : i = (w.heap.size + 1)) => by omega))
    obtain ⟨w5, hw5⟩ : ∃ w5, w5 = w4.setCell ⟨(w.heap.size + 1), 3, none⟩ (.int .i64 x3) := ⟨_, rfl⟩
    rw [← hw5] at B5 Z5 R5 Q5 ⊢
    clear k5 hw5 B4 Z4 R4 Q4
    obtain ⟨A, hA⟩ : ∃ A, A = (⟨1, 0, x1, x3, Req.none, 0, 0⟩ : Rec).C := ⟨_, rfl⟩
    have bA : Blk w5 (w.heap.size + 1) A 45 := by rw [hA]; exact B5.out
    have aA : AggTy Try.prog 45 A.size := by rw [hA]; exact aRecF
    have hz : 12 = A.size := by rw [hA]; rfl
    have hall : A.all (·.oneCell') = true := by rw [hA]; exact Rec.C_one _
    have HA := hid hA
    have HZ := hid hz
    have zA := Z5.out
    clear hA hz
    go_wp2_with (first | (refine wpList_load_blk rfl _ _ rfl rfl bA aA ?_) | (refine wpList_store_blk rfl _ _ _ rfl rfl rfl zA aA HZ.out hall ?_; intro w9 hR9 k9) | fail)
    have kk : Kept None w w9 := Q5.out.then k9 (fun i hi (h : i = w.heap.size) => by omega)
    (try simp only [Exit.inBlock, Exit.then])
    refine bodyPost_ret (v := .agg A) (results_blk rfl _ rfl hR9 aA) rfl ?_
    rw [HA.out]
    refine ⟨?_, kk⟩
    rw [HX1.out, HX3.out]
    rfl
  by_cases hk2 : K = 2
  · subst hk2
    go_wp2_with fail
    refine (Bin.rnum r w0.heap.size r ⟨L, 0⟩ w1 R1.out (Nat.le_refl _)).mono ?_
    rintro e1 w2 ⟨rfl, k2, r2⟩
    obtain ⟨N1, hN1⟩ : ∃ N, N = St.num ⟨L, 0⟩ := ⟨_, rfl⟩
    obtain ⟨x1, hx1⟩ : ∃ x, x = IntKind.i64.wrap N1 := ⟨_, rfl⟩
    rw [← hN1]
    have HX1 := hid (show x1 = IntKind.i64.wrap (St.num ⟨L, 0⟩) by rw [hx1, hN1])
    have wx := hx1.symm
    have b2 := B1.out.kept k2 (fun (h : (w.heap.size + 1) = r) => by have := hr.out; omega)
    have z2 := Z1.out.kept k2 (fun (h : w.heap.size = r) => by have := hr.out; omega)
    have Q2 := hid (Q1.out.then k2 (fun i hi (h : i = r) => by have := hr.out; omega))
    have B2 := hid b2
    have Z2 := hid z2
    have R2 := hid r2
    have cc := b2.cell 10
    have ff := b2.free 10
    (try simp at cc)
    clear k2 r2 b2 z2 hx1 hN1 B1 Z1 R1 Q1
    go_upto_region 9 with fail
    clear cc ff wx
    have B3 := hid (B2.out.set 10 (.int .i64 x1))
    have Z3 := hid (Z2.out.setOther (a := ⟨(w.heap.size + 1), 10, none⟩) (by simp only; omega) (.int .i64 x1))
    have k3 : Kept (Just (w.heap.size + 1)) w2 (w2.setCell ⟨(w.heap.size + 1), 10, none⟩ (.int .i64 x1)) := Kept.one w2 (w.heap.size + 1) 10 _
    have R3 := hid (R2.out.kept k3 (fun k hk1 hk (h : k = (w.heap.size + 1)) => by have := hr.out; omega) (fun (h : r = (w.heap.size + 1)) => by have := hr.out; omega))
    have Q3 := hid (Q2.out.then k3 (fun i hi (h : i = (w.heap.size + 1)) => by omega))
    obtain ⟨w3, hw3⟩ : ∃ w3, w3 = w2.setCell ⟨(w.heap.size + 1), 10, none⟩ (.int .i64 x1) := ⟨_, rfl⟩
    rw [← hw3] at B3 Z3 R3 Q3 ⊢
    clear k3 hw3 B2 Z2 R2 Q2
    have hok := R3.out.1
    have hra := raw_all hok
    obtain ⟨s, hs⟩ : ∃ s, s = (St.mk L 0).numS := ⟨_, rfl⟩
    have hsl : s.l.length ≤ 140737488355328 := by rw [hs]; have := St.numS_len (St.mk L 0); have := HL.out; simp only at *; omega
    have HS := hid hs
    rw [← hs] at R3 hra
    clear hok hs
    go_wp2_with fail
    refine (Bin.rleft r _ _ s w3 R3.out hsl).mono ?_
    rintro e2 w4 ⟨rfl, hw34⟩
    subst hw34
    go_wp2_with fail
    refine (Bin.rraw r _ _ s _ w3 R3.out (by omega) (by omega) (Nat.le_refl _) hsl).mono ?_
    rintro e2 w4 ⟨v4, rfl, k4, b4, _⟩
    rw [hra] at b4
    have B4 := hid (B3.out.kept k4 (fun (h : (w.heap.size + 1) = r) => by have := hr.out; omega))
    have Z4 := hid (Z3.out.kept k4 (fun (h : w.heap.size = r) => by have := hr.out; omega))
    have Q4 := hid (Q3.out.then k4 (fun i hi (h : i = r) => by have := hr.out; omega))
    obtain ⟨l4, hl4⟩ : ∃ l, l = s.l := ⟨_, rfl⟩
    rw [← hl4] at b4
    have HL4 := hid hl4
    have b4' := hid (b4.bs (Nat.le_refl _))
    clear k4 b4 hra hl4 B3 Z3 Q3 R3 hsl
    go_wp2_with fail
    refine (Up.read _ _ _ l4 _ b4'.out).mono ?_
    rintro e2 w5 ⟨rfl, k5⟩
    obtain ⟨Q, hQ⟩ : ∃ Q, Q = readQ l4 := ⟨_, rfl⟩
    obtain ⟨E2, hE2⟩ : ∃ E2, E2 = readE l4 := ⟨_, rfl⟩
    rw [← hQ, ← hE2]
    have HQ := hid hQ
    have B5 := hid (B4.out.kept k5 (fun h => h))
    have Z5 := hid (Z4.out.kept k5 (fun h => h))
    have Q5 := hid (Q4.out.trans k5)
    have b5 := B5.out
    clear k5 hQ hE2 b4' B4 Z4 Q4
    go_upto_region 12 with (first | (refine wpList_store_agg rfl _ _ _ rfl (xs := [.string Q.n, .int .i64 Q.v, .int .u64 (Q.k : Int), .int .i64 Q.c, .int .u64 (Q.r : Int), .int .u64 (Q.s : Int)]) rfl rfl b5 iUpdF (by simp [Value.oneCell']) (by simp) ?_; intro w6 b6 k6) | fail)
    have B6 := hid b6
    have Z6 := hid (Z5.out.kept k6 (fun (h : w.heap.size = (w.heap.size + 1)) => by omega))
    have Q6 := hid (Q5.out.then k6 (fun i hi (h : i = (w.heap.size + 1)) => by omega))
    clear b5 b6 k6 B5 Z5 Q5
    obtain ⟨A, hA⟩ : ∃ A, A = (⟨2, 0, 0, 0, Q, x1, 0⟩ : Rec).C := ⟨_, rfl⟩
    have bA : Blk w6 (w.heap.size + 1) A 45 := by rw [hA]; exact B6.out
    have aA : AggTy Try.prog 45 A.size := by rw [hA]; exact aRecF
    have hz : 12 = A.size := by rw [hA]; rfl
    have hall : A.all (·.oneCell') = true := by rw [hA]; exact Rec.C_one _
    have HA := hid hA
    have HZ := hid hz
    have zA := Z6.out
    clear hA hz
    go_wp2_with (first | (refine wpList_load_blk rfl _ _ rfl rfl bA aA ?_) | (refine wpList_store_blk rfl _ _ _ rfl rfl rfl zA aA HZ.out hall ?_; intro w9 hR9 k9) | fail)
    have kk : Kept None w w9 := Q6.out.then k9 (fun i hi (h : i = w.heap.size) => by omega)
    (try simp only [Exit.inBlock, Exit.then])
    refine bodyPost_ret (v := .agg A) (results_blk rfl _ rfl hR9 aA) rfl ?_
    rw [HA.out]
    refine ⟨?_, kk⟩
    rw [HX1.out, HQ.out, HL4.out, HS.out]
    rfl
  by_cases hk3 : K = 3
  · subst hk3
    go_wp2_with fail
    refine (Bin.rnum r w0.heap.size r ⟨L, 0⟩ w1 R1.out (Nat.le_refl _)).mono ?_
    rintro e1 w2 ⟨rfl, k2, r2⟩
    obtain ⟨N1, hN1⟩ : ∃ N, N = St.num ⟨L, 0⟩ := ⟨_, rfl⟩
    obtain ⟨x1, hx1⟩ : ∃ x, x = IntKind.i64.wrap N1 := ⟨_, rfl⟩
    rw [← hN1]
    have HX1 := hid (show x1 = IntKind.i64.wrap (St.num ⟨L, 0⟩) by rw [hx1, hN1])
    have wx := hx1.symm
    have b2 := B1.out.kept k2 (fun (h : (w.heap.size + 1) = r) => by have := hr.out; omega)
    have z2 := Z1.out.kept k2 (fun (h : w.heap.size = r) => by have := hr.out; omega)
    have Q2 := hid (Q1.out.then k2 (fun i hi (h : i = r) => by have := hr.out; omega))
    have B2 := hid b2
    have Z2 := hid z2
    have R2 := hid r2
    have cc := b2.cell 11
    have ff := b2.free 11
    (try simp at cc)
    clear k2 r2 b2 z2 hx1 hN1 B1 Z1 R1 Q1
    go_upto_region 12 with fail
    clear cc ff wx
    have B3 := hid (B2.out.set 11 (.int .i64 x1))
    have Z3 := hid (Z2.out.setOther (a := ⟨(w.heap.size + 1), 11, none⟩) (by simp only; omega) (.int .i64 x1))
    have k3 : Kept (Just (w.heap.size + 1)) w2 (w2.setCell ⟨(w.heap.size + 1), 11, none⟩ (.int .i64 x1)) := Kept.one w2 (w.heap.size + 1) 11 _
    have R3 := hid (R2.out.kept k3 (fun k hk1 hk (h : k = (w.heap.size + 1)) => by have := hr.out; omega) (fun (h : r = (w.heap.size + 1)) => by have := hr.out; omega))
    have Q3 := hid (Q2.out.then k3 (fun i hi (h : i = (w.heap.size + 1)) => by omega))
    obtain ⟨w3, hw3⟩ : ∃ w3, w3 = w2.setCell ⟨(w.heap.size + 1), 11, none⟩ (.int .i64 x1) := ⟨_, rfl⟩
    rw [← hw3] at B3 Z3 R3 Q3 ⊢
    clear k3 hw3 B2 Z2 R2 Q2
    obtain ⟨A, hA⟩ : ∃ A, A = (⟨3, 0, 0, 0, Req.none, 0, x1⟩ : Rec).C := ⟨_, rfl⟩
    have bA : Blk w3 (w.heap.size + 1) A 45 := by rw [hA]; exact B3.out
    have aA : AggTy Try.prog 45 A.size := by rw [hA]; exact aRecF
    have hz : 12 = A.size := by rw [hA]; rfl
    have hall : A.all (·.oneCell') = true := by rw [hA]; exact Rec.C_one _
    have HA := hid hA
    have HZ := hid hz
    have zA := Z3.out
    clear hA hz
    go_wp2_with (first | (refine wpList_load_blk rfl _ _ rfl rfl bA aA ?_) | (refine wpList_store_blk rfl _ _ _ rfl rfl rfl zA aA HZ.out hall ?_; intro w9 hR9 k9) | fail)
    have kk : Kept None w w9 := Q3.out.then k9 (fun i hi (h : i = w.heap.size) => by omega)
    (try simp only [Exit.inBlock, Exit.then])
    refine bodyPost_ret (v := .agg A) (results_blk rfl _ rfl hR9 aA) rfl ?_
    rw [HA.out]
    refine ⟨?_, kk⟩
    rw [HX1.out]
    rfl
  have e1 : (K == 1) = false := by simpa using hk1
  have e2 : (K == 2) = false := by simpa using hk2
  have e3 : (K == 3) = false := by simpa using hk3
  have HN := hid (And.intro hk1 (And.intro hk2 hk3))
  clear hk1 hk2 hk3
  obtain ⟨A, hA⟩ : ∃ A, A = (⟨K, 0, 0, 0, Req.none, 0, 0⟩ : Rec).C := ⟨_, rfl⟩
  have bA : Blk w1 (w.heap.size + 1) A 45 := by rw [hA]; exact B1.out
  have aA : AggTy Try.prog 45 A.size := by rw [hA]; exact aRecF
  have hz : 12 = A.size := by rw [hA]; rfl
  have hall : A.all (·.oneCell') = true := by rw [hA]; exact Rec.C_one _
  have HA := hid hA
  have HZ := hid hz
  have zA := Z1.out
  clear hA hz
  go_wp2_with (first | (refine wpList_load_blk rfl _ _ rfl rfl bA aA ?_) | (refine wpList_store_blk rfl _ _ _ rfl rfl rfl zA aA HZ.out hall ?_; intro w9 hR9 k9) | fail)
  have kk : Kept None w w9 := Q1.out.then k9 (fun i hi (h : i = w.heap.size) => by omega)
  (try simp only [Exit.inBlock, Exit.then])
  refine bodyPost_ret (v := .agg A) (results_blk rfl _ rfl hR9 aA) rfl ?_
  rw [HA.out]
  refine ⟨?_, kk⟩
  unfold fldJ
  rw [if_neg HN.out.1, if_neg HN.out.2.1, if_neg HN.out.2.2]
end Jr
end Go.Proofs.Ytbebpnanhkcngaa
namespace Go.Proofs.Ytbebpnanhkcngaa
open Go.RowKit Go.Pm
namespace Jr
def WordsU (u : Req) : Prop := u.r < 18446744073709551616 ∧ u.s < 18446744073709551616
def RightC : Prop := ∀ (r : Rec) (w : World), r.Fits → Calls Try.prog 41 #[r.V] w fun e w' => e = .returned (.bool (rightJ r)) ∧ Kept None w w'
def ReadC : Prop := ∀ (v : Value) (lo hi : Nat) (b : List UInt8) (w : World), Bs w lo hi v b → b.length ≤ 1099511627000 →
    Calls Try.prog 24 #[v] w fun e w' => e = .returned (.tuple #[(readJ b).r.V, .int .i64 (readJ b).n, .int .i64 (readJ b).e]) ∧ Kept None w w'
end Jr
end Go.Proofs.Ytbebpnanhkcngaa
namespace Go.Pm
open Go Go.RowKit
def countsB (n : Int) : Bool := decide (0 ≤ n) && decide (n ≤ 1152921504606846976)
def mayJ (r : Rec) : Bool :=
  if r.kind = 1 then (countsB r.gen && decide (0 ≤ r.count)) && decide (r.count ≤ 32)
  else if r.kind = 2 then rightB r.u.n.size r.u.v r.u.k r.u.c && countsB r.tick
  else if r.kind = 3 then decide (1 ≤ r.epoch) && decide (r.epoch ≤ 1073741824) else false
def ownJ (r : Rec) : Rec :=
  if r.kind = 1 then ⟨r.kind, r.seq, r.gen, r.count, Req.none, 0, 0⟩
  else if r.kind = 2 then ⟨r.kind, r.seq, 0, 0, r.u, r.tick, 0⟩
  else if r.kind = 3 then ⟨r.kind, r.seq, 0, 0, Req.none, 0, r.epoch⟩ else ⟨r.kind, r.seq, 0, 0, Req.none, 0, 0⟩
theorem rightJ_own (r : Rec) : rightJ r = ((countsB r.seq && mayJ r) && recEq r (ownJ r)) := by
  rw [Bool.eq_iff_iff, rightJ_iff]
  simp only [Bool.and_eq_true, recEq_iff, countsB, decide_eq_true_eq]
  obtain ⟨kd, s, g, c, u, t, e⟩ := r
  unfold mayJ ownJ countsB
  simp only
  by_cases h1 : kd = 1
  · subst h1
    simp only [Rec.mk.injEq, if_true, Bool.and_eq_true, decide_eq_true_eq, true_and, show ((1 : Int) = 2) = False by decide, show ((1 : Int) = 3) = False by decide, false_and, or_false]
    constructor
    · rintro ⟨hs, he, h⟩
      exact ⟨⟨hs, ⟨⟨h.1, h.2.1⟩, h.2.2.1⟩, h.2.2.2⟩, he⟩
    · rintro ⟨⟨hs, ⟨⟨h1, h2⟩, h3⟩, h4⟩, he⟩
      exact ⟨hs, he, h1, h2, h3, h4⟩
  by_cases h2 : kd = 2
  · subst h2
    simp only [Rec.mk.injEq, if_true, Bool.and_eq_true, decide_eq_true_eq, true_and, show ((2 : Int) = 1) = False by decide, show ((2 : Int) = 3) = False by decide, false_and, or_false, false_or, if_false, Req.right]
    constructor
    · rintro ⟨hs, he, h⟩
      exact ⟨⟨hs, h.1, h.2.1, h.2.2⟩, he⟩
    · rintro ⟨⟨hs, h1, h2, h3⟩, he⟩
      exact ⟨hs, he, h1, h2, h3⟩
  by_cases h3 : kd = 3
  · subst h3
    simp only [Rec.mk.injEq, if_true, Bool.and_eq_true, decide_eq_true_eq, true_and, show ((3 : Int) = 1) = False by decide, show ((3 : Int) = 2) = False by decide, false_and, false_or, if_false]
    constructor
    · rintro ⟨hs, he, h⟩
      exact ⟨⟨hs, h⟩, he⟩
    · rintro ⟨⟨hs, h⟩, he⟩
      exact ⟨hs, he, h⟩
  · simp [h1, h2, h3]
end Go.Pm
namespace Go.Proofs.Ytbebpnanhkcngaa
open Go.RowKit Go.Pm
namespace Jr
theorem aRec : AggTy Try.prog 45 12 := Sg.AggTy.of (by kernel_rfl) (by kernel_rfl)
set_option maxRecDepth 100000 in
theorem counts (n : Int) (w : World) : Calls Try.prog 64 #[.int .i64 n] w fun e w' => e = .returned (.bool (countsB n)) ∧ Kept None w w' := by
  rcases Bool.eq_false_or_eq_true (decide (0 ≤ n)) with h1 | h1
  · rcases Bool.eq_false_or_eq_true (decide (n ≤ 1152921504606846976)) with h2 | h2
    · go_enter Try.func64, Try.ntmps64
      go_wp2_with (first | go_skip | fail)
      go_ret
      exact ⟨by simp [countsB, h1, h2], Kept.refl _ _⟩
    · go_enter Try.func64, Try.ntmps64
      go_wp2_with (first | go_skip | fail)
      go_ret
      exact ⟨by simp [countsB, h1, h2], Kept.refl _ _⟩
  · go_enter Try.func64, Try.ntmps64
    go_wp2_with (first | go_skip | fail)
    go_ret
    exact ⟨by simp [countsB, h1], Kept.refl _ _⟩
set_option maxRecDepth 100000 in
set_option maxHeartbeats 4000000 in
theorem may1 (s g c : Int) (n : ByteArray) (v cl t e : Int) (k rr ss : Nat) (w : World) :
    Calls Try.prog 65 #[(⟨1, s, g, c, ⟨n, v, k, cl, rr, ss⟩, t, e⟩ : Rec).V] w fun e' w' => e' = .returned (.bool (mayJ (⟨1, s, g, c, ⟨n, v, k, cl, rr, ss⟩, t, e⟩ : Rec))) ∧ Kept None w w' := by
  have hm : mayJ (⟨1, s, g, c, ⟨n, v, k, cl, rr, ss⟩, t, e⟩ : Rec) = ((countsB g && decide (0 ≤ c)) && decide (c ≤ 32)) := rfl
  rw [hm]
  have HC := hid (fun W => counts g W)
  obtain ⟨X, hX⟩ : ∃ X, X = countsB g := ⟨_, rfl⟩
  rw [← hX] at HC ⊢
  clear hX hm
  unfold Rec.V Rec.C
  have hb := Blk.new w #[.int .i64 1, .int .i64 s, .int .i64 g, .int .i64 c, .string n, .int .i64 v, .int .u64 (k : Int), .int .i64 cl, .int .u64 (rr : Int), .int .u64 (ss : Int), .int .i64 t, .int .i64 e] 45
  have HB := hid hb
  clear hb
  go_enter Try.func65, Try.ntmps65
  go_wp2_with fail
  refine (HC.out _).mono ?_
  rintro e1 w1 ⟨rfl, k1⟩
  have kk : Kept None w w1 := ((Kept.refl _ _).alloc _).trans k1
  have hc : w1.cell? ⟨w.heap.size, 3, none⟩ = some (.int .i64 c) := (HB.out.kept k1 (fun h => h)).cell 3
  clear k1 HB HC
  cases X with
  | false =>
    go_wp2_with (first | go_skip | fail)
    go_ret
    exact ⟨by simp, kk⟩
  | true =>
    rcases Bool.eq_false_or_eq_true (decide (0 ≤ c)) with h1 | h1
    · rcases Bool.eq_false_or_eq_true (decide (c ≤ 32)) with h2 | h2
      all_goals
        go_wp2_with (first | go_skip | fail)
        go_ret
        exact ⟨by simp [h1, h2], kk⟩
    · go_wp2_with (first | go_skip | fail)
      go_ret
      exact ⟨by simp [h1], kk⟩
set_option maxRecDepth 100000 in
set_option maxHeartbeats 4000000 in
theorem may2 (s g c : Int) (n : ByteArray) (v cl t e : Int) (k rr ss : Nat) (w : World) :
    Calls Try.prog 65 #[(⟨2, s, g, c, ⟨n, v, k, cl, rr, ss⟩, t, e⟩ : Rec).V] w fun e' w' => e' = .returned (.bool (mayJ (⟨2, s, g, c, ⟨n, v, k, cl, rr, ss⟩, t, e⟩ : Rec))) ∧ Kept None w w' := by
  have hm : mayJ (⟨2, s, g, c, ⟨n, v, k, cl, rr, ss⟩, t, e⟩ : Rec) = (rightB n.size v k cl && countsB t) := rfl
  rw [hm]
  have HC := hid (fun W => counts t W)
  have HR := hid (fun W => Up.right n v cl k rr ss W)
  obtain ⟨X, hX⟩ : ∃ X, X = rightB n.size v k cl := ⟨_, rfl⟩
  obtain ⟨Y, hY⟩ : ∃ Y, Y = countsB t := ⟨_, rfl⟩
  rw [← hX] at HR ⊢
  rw [← hY] at HC ⊢
  clear hX hm hY
  unfold Rec.V Rec.C
  have hb := Blk.new w #[.int .i64 2, .int .i64 s, .int .i64 g, .int .i64 c, .string n, .int .i64 v, .int .u64 (k : Int), .int .i64 cl, .int .u64 (rr : Int), .int .u64 (ss : Int), .int .i64 t, .int .i64 e] 45
  have HB := hid hb
  clear hb
  go_enter Try.func65, Try.ntmps65
  go_wp2_with fail
  refine (HR.out _).mono ?_
  rintro e1 w1 ⟨rfl, k1⟩
  have kk : Kept None w w1 := ((Kept.refl _ _).alloc _).trans k1
  have hc : w1.cell? ⟨w.heap.size, 10, none⟩ = some (.int .i64 t) := (HB.out.kept k1 (fun h => h)).cell 10
  clear k1 HB HR
  cases X with
  | false =>
    go_wp2_with (first | go_skip | fail)
    go_ret
    exact ⟨by simp, kk⟩
  | true =>
    go_wp2_with (first | go_skip | fail)
    refine (HC.out _).mono ?_
    rintro e1 w2 ⟨rfl, k2⟩
    have kk2 := kk.trans k2
    clear k2 hc kk
    go_wp2
    go_ret
    exact ⟨by simp, kk2⟩
set_option maxRecDepth 100000 in
set_option maxHeartbeats 4000000 in
theorem may3 (s g c : Int) (n : ByteArray) (v cl t e : Int) (k rr ss : Nat) (w : World) :
    Calls Try.prog 65 #[(⟨3, s, g, c, ⟨n, v, k, cl, rr, ss⟩, t, e⟩ : Rec).V] w fun e' w' => e' = .returned (.bool (mayJ (⟨3, s, g, c, ⟨n, v, k, cl, rr, ss⟩, t, e⟩ : Rec))) ∧ Kept None w w' := by
  have hm : mayJ (⟨3, s, g, c, ⟨n, v, k, cl, rr, ss⟩, t, e⟩ : Rec) = (decide (1 ≤ e) && decide (e ≤ 1073741824)) := rfl
  rw [hm]
  clear hm
  unfold Rec.V Rec.C
  rcases Bool.eq_false_or_eq_true (decide (1 ≤ e)) with h1 | h1
  · rcases Bool.eq_false_or_eq_true (decide (e ≤ 1073741824)) with h2 | h2
    all_goals
      go_enter Try.func65, Try.ntmps65
      go_wp2_with (first | go_skip | fail)
      go_ret
      exact ⟨by simp [h1, h2], (Kept.refl _ _).alloc _⟩
  · go_enter Try.func65, Try.ntmps65
    go_wp2_with (first | go_skip | fail)
    go_ret
    exact ⟨by simp [h1], (Kept.refl _ _).alloc _⟩
set_option maxRecDepth 100000 in
set_option maxHeartbeats 4000000 in
theorem may (r : Rec) (w : World) : Calls Try.prog 65 #[r.V] w fun e' w' => e' = .returned (.bool (mayJ r)) ∧ Kept None w w' := by
  obtain ⟨kd, s, g, c, ⟨n, v, k, cl, rr, ss⟩, t, e⟩ := r
  by_cases h1 : kd = 1
  · subst h1; exact may1 s g c n v cl t e k rr ss w
  by_cases h2 : kd = 2
  · subst h2; exact may2 s g c n v cl t e k rr ss w
  by_cases h3 : kd = 3
  · subst h3; exact may3 s g c n v cl t e k rr ss w
  have hm : mayJ (⟨kd, s, g, c, ⟨n, v, k, cl, rr, ss⟩, t, e⟩ : Rec) = false := by unfold mayJ; rw [if_neg h1, if_neg h2, if_neg h3]
  rw [hm]
  have e1 : (kd == 1) = false := by simpa using h1
  have e2 : (kd == 2) = false := by simpa using h2
  have e3 : (kd == 3) = false := by simpa using h3
  clear h1 h2 h3 hm
  unfold Rec.V Rec.C
  go_enter Try.func65, Try.ntmps65
  go_wp2
  go_ret
  exact ⟨rfl, (Kept.refl _ _).alloc _⟩
set_option maxRecDepth 100000 in
set_option maxHeartbeats 4000000 in
theorem own1 (s g c : Int) (n : ByteArray) (v cl t e : Int) (k rr ss : Nat) (w : World) :
    Calls Try.prog 66 #[(⟨1, s, g, c, ⟨n, v, k, cl, rr, ss⟩, t, e⟩ : Rec).V] w fun e' w' => e' = .returned ((⟨1, s, g, c, Req.none, 0, 0⟩ : Rec)).V ∧ Kept None w w' := by
  unfold Rec.V Rec.C
  go_enter Try.func66, Try.ntmps66
  go_upto_region 4 with fail
  go_region
  go_wp2
  exact bodyPost_ret (v := .agg #[.int .i64 1, .int .i64 s, .int .i64 g, .int .i64 c, .string ⟨#[]⟩, .int .i64 0, .int .u64 0, .int .i64 0, .int .u64 0, .int .u64 0, .int .i64 0, .int .i64 0]) (results_blk rfl _ rfl (((Blk.new2 w (.cells #[.int .i64 1, .int .i64 s, .int .i64 g, .int .i64 c, .string n, .int .i64 v, .int .u64 (k : Int), .int .i64 cl, .int .u64 (rr : Int), .int .u64 (ss : Int), .int .i64 t, .int .i64 e] 45) #[.int .i64 1, .int .i64 s, .int .i64 g, .int .i64 c, .string ⟨#[]⟩, .int .i64 0, .int .u64 0, .int .i64 0, .int .u64 0, .int .u64 0, .int .i64 0, .int .i64 0] 45).alloc _).drew) aRec) rfl ⟨rfl, ((((Kept.refl _ _).alloc _).alloc _).alloc _).drew⟩
set_option maxRecDepth 100000 in
set_option maxHeartbeats 4000000 in
theorem own2 (s g c : Int) (n : ByteArray) (v cl t e : Int) (k rr ss : Nat) (w : World) :
    Calls Try.prog 66 #[(⟨2, s, g, c, ⟨n, v, k, cl, rr, ss⟩, t, e⟩ : Rec).V] w fun e' w' => e' = .returned ((⟨2, s, 0, 0, ⟨n, v, k, cl, rr, ss⟩, t, 0⟩ : Rec)).V ∧ Kept None w w' := by
  unfold Rec.V Rec.C
  go_enter Try.func66, Try.ntmps66
  go_upto_region 6 with fail
  go_region
  go_wp2
  exact bodyPost_ret (v := .agg #[.int .i64 2, .int .i64 s, .int .i64 0, .int .i64 0, .string n, .int .i64 v, .int .u64 (k : Int), .int .i64 cl, .int .u64 (rr : Int), .int .u64 (ss : Int), .int .i64 t, .int .i64 0]) (results_blk rfl _ rfl (((Blk.new2 w (.cells #[.int .i64 2, .int .i64 s, .int .i64 g, .int .i64 c, .string n, .int .i64 v, .int .u64 (k : Int), .int .i64 cl, .int .u64 (rr : Int), .int .u64 (ss : Int), .int .i64 t, .int .i64 e] 45) #[.int .i64 2, .int .i64 s, .int .i64 0, .int .i64 0, .string n, .int .i64 v, .int .u64 (k : Int), .int .i64 cl, .int .u64 (rr : Int), .int .u64 (ss : Int), .int .i64 t, .int .i64 0] 45).alloc _).drew) aRec) rfl ⟨rfl, ((((Kept.refl _ _).alloc _).alloc _).alloc _).drew⟩
set_option maxRecDepth 100000 in
set_option maxHeartbeats 4000000 in
theorem own3 (s g c : Int) (n : ByteArray) (v cl t e : Int) (k rr ss : Nat) (w : World) :
    Calls Try.prog 66 #[(⟨3, s, g, c, ⟨n, v, k, cl, rr, ss⟩, t, e⟩ : Rec).V] w fun e' w' => e' = .returned ((⟨3, s, 0, 0, Req.none, 0, e⟩ : Rec)).V ∧ Kept None w w' := by
  unfold Rec.V Rec.C
  go_enter Try.func66, Try.ntmps66
  go_wp2
  exact bodyPost_ret (v := .agg #[.int .i64 3, .int .i64 s, .int .i64 0, .int .i64 0, .string ⟨#[]⟩, .int .i64 0, .int .u64 0, .int .i64 0, .int .u64 0, .int .u64 0, .int .i64 0, .int .i64 e]) (results_blk rfl _ rfl (((Blk.new2 w (.cells #[.int .i64 3, .int .i64 s, .int .i64 g, .int .i64 c, .string n, .int .i64 v, .int .u64 (k : Int), .int .i64 cl, .int .u64 (rr : Int), .int .u64 (ss : Int), .int .i64 t, .int .i64 e] 45) #[.int .i64 3, .int .i64 s, .int .i64 0, .int .i64 0, .string ⟨#[]⟩, .int .i64 0, .int .u64 0, .int .i64 0, .int .u64 0, .int .u64 0, .int .i64 0, .int .i64 e] 45).alloc _)) aRec) rfl ⟨rfl, ((((Kept.refl _ _).alloc _).alloc _).alloc _)⟩
set_option maxRecDepth 100000 in
set_option maxHeartbeats 4000000 in
theorem own (r : Rec) (w : World) : Calls Try.prog 66 #[r.V] w fun e' w' => e' = .returned (ownJ r).V ∧ Kept None w w' := by
  obtain ⟨kd, s, g, c, ⟨n, v, k, cl, rr, ss⟩, t, e⟩ := r
  by_cases h1 : kd = 1
  · subst h1; exact own1 s g c n v cl t e k rr ss w
  by_cases h2 : kd = 2
  · subst h2; exact own2 s g c n v cl t e k rr ss w
  by_cases h3 : kd = 3
  · subst h3; exact own3 s g c n v cl t e k rr ss w
  have hm : ownJ (⟨kd, s, g, c, ⟨n, v, k, cl, rr, ss⟩, t, e⟩ : Rec) = ⟨kd, s, 0, 0, Req.none, 0, 0⟩ := by unfold ownJ; rw [if_neg h1, if_neg h2, if_neg h3]
  rw [hm]
  have e1 : (kd == 1) = false := by simpa using h1
  have e2 : (kd == 2) = false := by simpa using h2
  have e3 : (kd == 3) = false := by simpa using h3
  clear h1 h2 h3 hm
  unfold Rec.V Rec.C
  go_enter Try.func66, Try.ntmps66
  go_wp2
  exact bodyPost_ret (v := .agg #[.int .i64 kd, .int .i64 s, .int .i64 0, .int .i64 0, .string ⟨#[]⟩, .int .i64 0, .int .u64 0, .int .i64 0, .int .u64 0, .int .u64 0, .int .i64 0, .int .i64 0]) (results_blk rfl _ rfl (((Blk.new2 w (.cells #[.int .i64 kd, .int .i64 s, .int .i64 g, .int .i64 c, .string n, .int .i64 v, .int .u64 (k : Int), .int .i64 cl, .int .u64 (rr : Int), .int .u64 (ss : Int), .int .i64 t, .int .i64 e] 45) #[.int .i64 kd, .int .i64 s, .int .i64 0, .int .i64 0, .string ⟨#[]⟩, .int .i64 0, .int .u64 0, .int .i64 0, .int .u64 0, .int .u64 0, .int .i64 0, .int .i64 0] 45).alloc _)) aRec) rfl ⟨rfl, ((((Kept.refl _ _).alloc _).alloc _).alloc _)⟩
set_option maxRecDepth 100000 in
set_option maxHeartbeats 4000000 in
theorem right (r : Rec) (w : World) : Calls Try.prog 41 #[r.V] w fun e' w' => e' = .returned (.bool (rightJ r)) ∧ Kept None w w' := by
  rw [rightJ_own]
  have HC := hid (fun W => counts r.seq W)
  have HM := hid (fun W => may r W)
  have HO := hid (fun W => own r W)
  have heq := fun W => Jq.eqRec r (ownJ r) W
  obtain ⟨A, hA⟩ : ∃ A, A = r.C := ⟨_, rfl⟩
  obtain ⟨O, hO⟩ : ∃ O, O = (ownJ r).C := ⟨_, rfl⟩
  obtain ⟨X, hX⟩ : ∃ X, X = countsB r.seq := ⟨_, rfl⟩
  obtain ⟨Y, hY⟩ : ∃ Y, Y = mayJ r := ⟨_, rfl⟩
  obtain ⟨Z, hZ⟩ : ∃ Z, Z = recEq r (ownJ r) := ⟨_, rfl⟩
  obtain ⟨s, hs0⟩ : ∃ s, s = r.seq := ⟨_, rfl⟩
  have h1 : A[1]? = some (.int .i64 s) := by rw [hA, hs0]; rfl
  have hz : A.size = 12 := by rw [hA]; rfl
  have hall : A.all (·.oneCell') = true := by rw [hA]; exact Rec.C_one r
  unfold Rec.V at HM HO ⊢
  rw [← hX, ← hs0] at HC
  rw [← hY, ← hA] at HM
  rw [← hA, ← hO] at HO heq
  rw [← hZ] at heq
  rw [← hX, ← hY, ← hZ, ← hA]
  clear hA hO hX hY hZ hs0
  have HQ := hid heq
  have aA : AggTy Try.prog 45 A.size := by rw [hz]; exact aRec
  clear heq
  have HA := hid (And.intro aA hall)
  go_enter Try.func41, Try.ntmps41
  go_upto_region 1 with (first | (refine wpList_box_agg A 45 rfl rfl ?_) | fail)
  obtain ⟨w0, hw0⟩ : ∃ w0, w0 = w.alloc (.cells A 45) := ⟨_, rfl⟩
  have k0 : Kept None w w0 := by rw [hw0]; exact (Kept.refl _ _).alloc _
  have hB : Blk w0 w.heap.size A 45 := by rw [hw0]; exact Blk.new w A 45
  rw [← hw0]
  have HBK := hid (fun W (hW : Kept None w0 W) => hB.kept hW (fun h => h))
  have HCS := hid (fun W (hW : Kept None w0 W) => show W.cell? ⟨w.heap.size, 1, none⟩ = some (.int .i64 s) from by
    rw [(HBK.out W hW).cell 1]; exact h1)
  clear hw0 hB h1 HA hall hz
  cases X with
  | false =>
    have hs : Steady [.val 2 (.bool false)] := Go.Pm.Steady.val (Go.Pm.Steady.nil)
    refine wp_region_kn w0 _ hs (Kept.refl _ _) (by kernel_rfl) (by kernel_rfl) (by kernel_rfl) ?_
    iterate 1 (refine wpPar_pure rfl (by rfl) _ (fun W hW => by
        have hc1 := HCS.out W hW
        have hq := HQ.out
        go_simp
        exact rfl) ?_; simp only [Act.put, List.setIfInBounds_toArray, List.set_cons_zero, List.set_cons_succ])
    refine wpPar_pure rfl (by rfl) _ (fun W hW => by first | exact exec_load_blk _ _ rfl rfl (HBK.out W hW) aA | (have hc1 := HCS.out W hW; have hq := HQ.out; go_simp; exact rfl)) ?_; simp only [Act.put, List.setIfInBounds_toArray, List.set_cons_zero, List.set_cons_succ]
    refine wpKn_adds hs rfl (by rfl) (fun W hW hd => ?_) (fun v2 hv => ?_)
    · unfold Gives
      go_simp
      refine gives_call (HC.out W) ?_
      rintro e w3 ⟨rfl, k3⟩
      exact ⟨_, rfl, k3, rfl, trivial⟩
    obtain rfl : v2 = .bool false := hv
    simp only [Act.put, List.setIfInBounds_toArray, List.set_cons_zero, List.set_cons_succ]
    iterate 1 (refine wpPar_pure rfl (by rfl) _ (fun W hW => by
        have hc1 := HCS.out W hW
        have hq := HQ.out
        go_simp
        exact rfl) ?_; simp only [Act.put, List.setIfInBounds_toArray, List.set_cons_zero, List.set_cons_succ])
    refine wpPar_skip (by kernel_rfl) ?_; simp only [Act.put, List.setIfInBounds_toArray, List.set_cons_zero, List.set_cons_succ]
    refine wpPar_skip (by kernel_rfl) ?_; simp only [Act.put, List.setIfInBounds_toArray, List.set_cons_zero, List.set_cons_succ]
    iterate 2 (refine wpPar_pure rfl (by rfl) _ (fun W hW => by
        have hc1 := HCS.out W hW
        have hq := HQ.out
        go_simp
        exact rfl) ?_; simp only [Act.put, List.setIfInBounds_toArray, List.set_cons_zero, List.set_cons_succ])
    refine wpPar_skip (by kernel_rfl) ?_; simp only [Act.put, List.setIfInBounds_toArray, List.set_cons_zero, List.set_cons_succ]
    refine wpPar_skip (by kernel_rfl) ?_; simp only [Act.put, List.setIfInBounds_toArray, List.set_cons_zero, List.set_cons_succ]
    refine wpPar_skip (by kernel_rfl) ?_; simp only [Act.put, List.setIfInBounds_toArray, List.set_cons_zero, List.set_cons_succ]
    refine wpPar_skip (by kernel_rfl) ?_; simp only [Act.put, List.setIfInBounds_toArray, List.set_cons_zero, List.set_cons_succ]
    iterate 2 (refine wpPar_pure rfl (by rfl) _ (fun W hW => by
        have hc1 := HCS.out W hW
        have hq := HQ.out
        go_simp
        exact rfl) ?_; simp only [Act.put, List.setIfInBounds_toArray, List.set_cons_zero, List.set_cons_succ])
    refine wpPar_nil (fun W hW hG => ?_)
    have hk := hid (Kept.trans k0 hW)
    clear hG hs hW
    go_wp2
    go_ret
    exact ⟨by simp, hk.out⟩
  | true =>
  cases Y with
  | false =>
    have hs : Steady [.val 2 (.bool true), .val 5 (.bool false)] := Go.Pm.Steady.val (Go.Pm.Steady.val (Go.Pm.Steady.nil))
    refine wp_region_kn w0 _ hs (Kept.refl _ _) (by kernel_rfl) (by kernel_rfl) (by kernel_rfl) ?_
    iterate 1 (refine wpPar_pure rfl (by rfl) _ (fun W hW => by
        have hc1 := HCS.out W hW
        have hq := HQ.out
        go_simp
        exact rfl) ?_; simp only [Act.put, List.setIfInBounds_toArray, List.set_cons_zero, List.set_cons_succ])
    refine wpPar_pure rfl (by rfl) _ (fun W hW => by first | exact exec_load_blk _ _ rfl rfl (HBK.out W hW) aA | (have hc1 := HCS.out W hW; have hq := HQ.out; go_simp; exact rfl)) ?_; simp only [Act.put, List.setIfInBounds_toArray, List.set_cons_zero, List.set_cons_succ]
    refine wpKn_adds hs rfl (by rfl) (fun W hW hd => ?_) (fun v2 hv => ?_)
    · unfold Gives
      go_simp
      refine gives_call (HC.out W) ?_
      rintro e w3 ⟨rfl, k3⟩
      exact ⟨_, rfl, k3, rfl, trivial⟩
    obtain rfl : v2 = .bool true := hv
    simp only [Act.put, List.setIfInBounds_toArray, List.set_cons_zero, List.set_cons_succ]
    iterate 1 (refine wpPar_pure rfl (by rfl) _ (fun W hW => by
        have hc1 := HCS.out W hW
        have hq := HQ.out
        go_simp
        exact rfl) ?_; simp only [Act.put, List.setIfInBounds_toArray, List.set_cons_zero, List.set_cons_succ])
    refine wpPar_pure rfl (by kernel_rfl) _ (fun W hW => by first | exact exec_load_blk _ _ rfl rfl (HBK.out W hW) aA | (have hc1 := HCS.out W hW; have hq := HQ.out; go_simp; exact rfl)) ?_; simp only [Act.put, List.setIfInBounds_toArray, List.set_cons_zero, List.set_cons_succ]
    refine wpKn_adds hs rfl (by kernel_rfl) (fun W hW hd => ?_) (fun v5 hv => ?_)
    · unfold Gives
      go_simp
      refine gives_call (HM.out W) ?_
      rintro e w3 ⟨rfl, k3⟩
      exact ⟨_, rfl, k3, rfl, trivial⟩
    obtain rfl : v5 = .bool false := hv
    simp only [Act.put, List.setIfInBounds_toArray, List.set_cons_zero, List.set_cons_succ]
    iterate 2 (refine wpPar_pure rfl (by rfl) _ (fun W hW => by
        have hc1 := HCS.out W hW
        have hq := HQ.out
        go_simp
        exact rfl) ?_; simp only [Act.put, List.setIfInBounds_toArray, List.set_cons_zero, List.set_cons_succ])
    refine wpPar_skip (by kernel_rfl) ?_; simp only [Act.put, List.setIfInBounds_toArray, List.set_cons_zero, List.set_cons_succ]
    refine wpPar_skip (by kernel_rfl) ?_; simp only [Act.put, List.setIfInBounds_toArray, List.set_cons_zero, List.set_cons_succ]
    refine wpPar_skip (by kernel_rfl) ?_; simp only [Act.put, List.setIfInBounds_toArray, List.set_cons_zero, List.set_cons_succ]
    refine wpPar_skip (by kernel_rfl) ?_; simp only [Act.put, List.setIfInBounds_toArray, List.set_cons_zero, List.set_cons_succ]
    iterate 2 (refine wpPar_pure rfl (by rfl) _ (fun W hW => by
        have hc1 := HCS.out W hW
        have hq := HQ.out
        go_simp
        exact rfl) ?_; simp only [Act.put, List.setIfInBounds_toArray, List.set_cons_zero, List.set_cons_succ])
    refine wpPar_nil (fun W hW hG => ?_)
    have hk := hid (Kept.trans k0 hW)
    clear hG hs hW
    go_wp2
    go_ret
    exact ⟨by simp, hk.out⟩
  | true =>
    have hs : Steady [.val 2 (.bool true), .val 5 (.bool true), .val 10 (.agg O)] := Go.Pm.Steady.val (Go.Pm.Steady.val (Go.Pm.Steady.val (Go.Pm.Steady.nil)))
    refine wp_region_kn w0 _ hs (Kept.refl _ _) (by kernel_rfl) (by kernel_rfl) (by kernel_rfl) ?_
    iterate 1 (refine wpPar_pure rfl (by rfl) _ (fun W hW => by
        have hc1 := HCS.out W hW
        have hq := HQ.out
        go_simp
        exact rfl) ?_; simp only [Act.put, List.setIfInBounds_toArray, List.set_cons_zero, List.set_cons_succ])
    refine wpPar_pure rfl (by rfl) _ (fun W hW => by first | exact exec_load_blk _ _ rfl rfl (HBK.out W hW) aA | (have hc1 := HCS.out W hW; have hq := HQ.out; go_simp; exact rfl)) ?_; simp only [Act.put, List.setIfInBounds_toArray, List.set_cons_zero, List.set_cons_succ]
    refine wpKn_adds hs rfl (by rfl) (fun W hW hd => ?_) (fun v2 hv => ?_)
    · unfold Gives
      go_simp
      refine gives_call (HC.out W) ?_
      rintro e w3 ⟨rfl, k3⟩
      exact ⟨_, rfl, k3, rfl, trivial⟩
    obtain rfl : v2 = .bool true := hv
    simp only [Act.put, List.setIfInBounds_toArray, List.set_cons_zero, List.set_cons_succ]
    iterate 1 (refine wpPar_pure rfl (by rfl) _ (fun W hW => by
        have hc1 := HCS.out W hW
        have hq := HQ.out
        go_simp
        exact rfl) ?_; simp only [Act.put, List.setIfInBounds_toArray, List.set_cons_zero, List.set_cons_succ])
    refine wpPar_pure rfl (by kernel_rfl) _ (fun W hW => by first | exact exec_load_blk _ _ rfl rfl (HBK.out W hW) aA | (have hc1 := HCS.out W hW; have hq := HQ.out; go_simp; exact rfl)) ?_; simp only [Act.put, List.setIfInBounds_toArray, List.set_cons_zero, List.set_cons_succ]
    refine wpKn_adds hs rfl (by kernel_rfl) (fun W hW hd => ?_) (fun v5 hv => ?_)
    · unfold Gives
      go_simp
      refine gives_call (HM.out W) ?_
      rintro e w3 ⟨rfl, k3⟩
      exact ⟨_, rfl, k3, rfl, trivial⟩
    obtain rfl : v5 = .bool true := hv
    simp only [Act.put, List.setIfInBounds_toArray, List.set_cons_zero, List.set_cons_succ]
    iterate 2 (refine wpPar_pure rfl (by rfl) _ (fun W hW => by
        have hc1 := HCS.out W hW
        have hq := HQ.out
        go_simp
        exact rfl) ?_; simp only [Act.put, List.setIfInBounds_toArray, List.set_cons_zero, List.set_cons_succ])
    refine wpPar_pure rfl (by kernel_rfl) _ (fun W hW => by first | exact exec_load_blk _ _ rfl rfl (HBK.out W hW) aA | (have hc1 := HCS.out W hW; have hq := HQ.out; go_simp; exact rfl)) ?_; simp only [Act.put, List.setIfInBounds_toArray, List.set_cons_zero, List.set_cons_succ]
    refine wpPar_pure rfl (by kernel_rfl) _ (fun W hW => by first | exact exec_load_blk _ _ rfl rfl (HBK.out W hW) aA | (have hc1 := HCS.out W hW; have hq := HQ.out; go_simp; exact rfl)) ?_; simp only [Act.put, List.setIfInBounds_toArray, List.set_cons_zero, List.set_cons_succ]
    refine wpKn_adds hs rfl (by kernel_rfl) (fun W hW hd => ?_) (fun v10 hv => ?_)
    · unfold Gives
      go_simp
      refine gives_call (HO.out W) ?_
      rintro e w3 ⟨rfl, k3⟩
      exact ⟨_, rfl, k3, rfl, trivial⟩
    obtain rfl : v10 = .agg O := hv
    simp only [Act.put, List.setIfInBounds_toArray, List.set_cons_zero, List.set_cons_succ]
    refine wpPar_pure rfl (by kernel_rfl) _ (fun W hW => by
        have hc1 := HCS.out W hW
        have hq := HQ.out
        go_simp
        exact rfl) ?_; simp only [Act.put, List.setIfInBounds_toArray, List.set_cons_zero, List.set_cons_succ]
    iterate 2 (refine wpPar_pure rfl (by rfl) _ (fun W hW => by
        have hc1 := HCS.out W hW
        have hq := HQ.out
        go_simp
        exact rfl) ?_; simp only [Act.put, List.setIfInBounds_toArray, List.set_cons_zero, List.set_cons_succ])
    refine wpPar_nil (fun W hW hG => ?_)
    have hk := hid (Kept.trans k0 hW)
    clear hG hs hW
    go_wp2
    go_ret
    exact ⟨by simp, hk.out⟩
end Jr
end Go.Proofs.Ytbebpnanhkcngaa
namespace Go.Proofs.Ytbebpnanhkcngaa
open Go.RowKit Go.Pm
namespace Sg
set_option maxRecDepth 100000 in
set_option maxHeartbeats 1000000 in
theorem put (r s : Nat) (w : World) (hr : r < 18446744073709551616) (hs0 : s < 18446744073709551616) :
    Calls Try.prog 87 #[sigV r s] w fun e w' => ∃ v, e = .returned v ∧ Kept None w w' ∧ Ob w' w.heap.size v (sigB r s) := by
  go_enter Try.func87, Try.ntmps87
  go_wp2_with fail
  obtain ⟨w1, hw1⟩ : ∃ w1, w1 = w.alloc (.cells #[.int .u64 (r : Int), .int .u64 (s : Int)] 41) := ⟨_, rfl⟩
  have hB := Blk.new w #[.int .u64 (r : Int), .int .u64 (s : Int)] 41
  have k0 : Kept None w (w.alloc (.cells #[.int .u64 (r : Int), .int .u64 (s : Int)] 41)) := (Kept.refl _ _).alloc _
  rw [← hw1] at hB k0 ⊢
  clear hw1
  have hc0 : ∀ W, Kept None w1 W → W.cell? ⟨w.heap.size, 0, none⟩ = some (.int .u64 (r : Int)) := fun W hW => (hB.kept hW (fun h => h)).cell 0
  have hc1 : ∀ W, Kept None w1 W → W.cell? ⟨w.heap.size, 1, none⟩ = some (.int .u64 (s : Int)) := fun W hW => (hB.kept hW (fun h => h)).cell 1
  clear hB
  have hs : Steady [.bytes 2 (leB r), .bytes 5 (leB s), .lists 6 ([leB r, leB s]) [2, 5], .own 5 7 (w1.heap.size) (sigB r s) [6]] := Steady.bytes (Steady.bytes (Steady.lists (Steady.own (Steady.nil))))
  refine wp_region_kn w1 _ hs (Kept.refl _ _) (by kernel_rfl) (by kernel_rfl) (by kernel_rfl) ?_
  iterate 2 (refine wpPar_pure rfl (by rfl) _ (fun W hW => by
      have c0 := hc0 W hW
      have c1 := hc1 W hW
      go_simp
      exact rfl) ?_; simp only [Act.put, List.setIfInBounds_toArray, List.set_cons_zero, List.set_cons_succ])
  refine wpKn_adds hs rfl (by rfl) (fun W hW hd => ?_) (fun v2 hv => ?_)
  · unfold Gives
    go_simp
    refine gives_call (Bin.num r W (by omega) (by omega)) ?_
    rintro e w3 ⟨u, rfl, k3, b3⟩
    exact ⟨_, rfl, k3, b3.form, _, _, b3.bs (Nat.le_refl _)⟩
  obtain ⟨a2, c2, rfl⟩ := hv
  simp only [Act.put, List.setIfInBounds_toArray, List.set_cons_zero, List.set_cons_succ]
  iterate 2 (refine wpPar_pure rfl (by rfl) _ (fun W hW => by
      have c0 := hc0 W hW
      have c1 := hc1 W hW
      go_simp
      exact rfl) ?_; simp only [Act.put, List.setIfInBounds_toArray, List.set_cons_zero, List.set_cons_succ])
  refine wpKn_adds hs rfl (by rfl) (fun W hW hd => ?_) (fun v5 hv => ?_)
  · unfold Gives
    go_simp
    refine gives_call (Bin.num s W (by omega) (by omega)) ?_
    rintro e w3 ⟨u, rfl, k3, b3⟩
    exact ⟨_, rfl, k3, b3.form, _, _, b3.bs (Nat.le_refl _)⟩
  obtain ⟨a5, c5, rfl⟩ := hv
  simp only [Act.put, List.setIfInBounds_toArray, List.set_cons_zero, List.set_cons_succ]
  refine wpKn_adds hs rfl (by rfl) (fun W hW hd => ?_) (fun v6 hv => ?_)
  · unfold Gives
    obtain ⟨lo1, hi1, h1⟩ : ∃ lo hi, Bs W lo hi (.slice a2 (leB r).length c2) (leB r) := hd 2 (List.Mem.head _)
    obtain ⟨lo2, hi2, h2⟩ : ∃ lo hi, Bs W lo hi (.slice a5 (leB s).length c5) (leB s) := hd 5 (List.Mem.tail _ (List.Mem.head _))
    go_simp
    exact ⟨(Kept.refl None W).alloc _, ⟨_, _, rfl⟩, _, _, _, _, Bss.new W #[.slice a2 (leB r).length c2, .slice a5 (leB s).length c5] 22 [leB r, leB s] 2 rfl (by decide) ⟨h1.all, h2.all, trivial⟩⟩
  obtain ⟨a6, c6, rfl⟩ := hv
  simp only [Act.put, List.setIfInBounds_toArray, List.set_cons_zero, List.set_cons_succ]
  refine wpKn_adds hs rfl (by rfl) (fun W hW hd => ?_) (fun v7 hv => ?_)
  · unfold Gives
    obtain ⟨lo1, hi1, lo2, hi2, h1⟩ : ∃ lo hi lo' hi', Bss W lo hi lo' hi' (.slice a6 [leB r, leB s].length c6) [leB r, leB s] := hd 6 (List.Mem.head _)
    go_simp
    refine gives_call (Bin.join _ _ _ _ _ _ W h1 (by simp [total, leB_length])) ?_
    rintro e w3 ⟨u, rfl, k3, b3⟩
    have b4 := b3.base hW.size
    rw [show [leB (r : Int), leB (s : Int)].flatten = sigB r s by simp [sigB]] at b4
    exact ⟨_, rfl, k3, b4.form, b4⟩
  obtain ⟨a7, c7, rfl⟩ := hv
  simp only [Act.put, List.setIfInBounds_toArray, List.set_cons_zero, List.set_cons_succ]
  iterate 1 (refine wpPar_pure rfl (by rfl) _ (fun W hW => by
      go_simp
      exact rfl) ?_; simp only [Act.put, List.setIfInBounds_toArray, List.set_cons_zero, List.set_cons_succ])
  refine wpPar_nil (fun W hW hG => ?_)
  have hb : Ob W w1.heap.size (.slice a7 (sigB r s).length c7) (sigB r s) := hG 7
  have hb1 := hb.base k0.size
  have k01 := k0.then hW (fun _ _ h => h)
  clear hG hb hc0 hc1 hs k0 hW
  go_wp2
  go_ret
  exact ⟨_, rfl, k01, hb1⟩
end Sg
end Go.Proofs.Ytbebpnanhkcngaa
namespace Go.Proofs.Ytbebpnanhkcngaa
open Go.RowKit Go.Pm
namespace Up
theorem put_flat (n : ByteArray) (v c : Int) (k r s : Nat) : [lumpB (strB n), leB (U6 v), leB (k : Int), leB (U6 c), leB (r : Int) ++ leB (s : Int)].flatten = putB n v k c r s := by simp [putB, fieldsB]

set_option maxRecDepth 100000 in
set_option maxHeartbeats 4000000 in
/-- update.Put. -/
theorem put (n : ByteArray) (v c : Int) (k r s : Nat) (w : World) (hr : r < 18446744073709551616) (hs : s < 18446744073709551616) :
    Calls Try.prog 68 #[updV n v k c r s] w fun e w' => ∃ u, e = .returned (.tuple #[u, .int .i64 (putE n.size v k c)]) ∧ Kept None w w' ∧ Ob w' w.heap.size u (putL n v k c r s) := by
  have hq := fun w => right n v c k r s w
  have hB0 := Blk.new w #[.string n, .int .i64 v, .int .u64 (k : Int), .int .i64 c, .int .u64 (r : Int), .int .u64 (s : Int)] 43
  have k0 : Kept None w (w.alloc (.cells #[.string n, .int .i64 v, .int .u64 (k : Int), .int .i64 c, .int .u64 (r : Int), .int .u64 (s : Int)] 43)) := (Kept.refl _ _).alloc _
  cases hb : rightB n.size v k c with
  | false =>
    rw [hb] at hq
    have e1 : putE n.size v k c = 23 := by unfold putE; rw [hb]; rfl
    have e2 : putL n v k c r s = [] := by unfold putL; rw [hb]; rfl
    rw [e1, e2]
    have H := hid hq
    clear hq hb e1 e2
    go_enter Try.func68, Try.ntmps68
    go_wp2_with (first | (refine wpList_load_blk rfl _ _ rfl rfl hB0 aUpd ?_) | fail)
    refine (H.out _).mono ?_
    rintro e w1 ⟨rfl, k1⟩
    have k01 := k0.trans k1
    go_wp2
    go_ret2
    exact ⟨_, rfl, k01, Bo.nil _ _ _⟩
  | true =>
    have e1 : putE n.size v k c = 0 := by unfold putE; rw [hb]; rfl
    have e2 : putL n v k c r s = putB n v k c r s := by unfold putL; rw [hb]; rfl
    have hh := (rightB_iff _ _ _ _).1 hb
    have hk : k < 18446744073709551616 := Nat.lt_trans hh.1.2.2.2.2.2 (by decide)
    have hn : n.size ≤ 32 := hh.1.2.1
    rw [e1, e2]
    rw [hb] at hq
    have hg := fun w => Sg.put r s w hr hs
    have hsn := strB_len n
    have hw1 : IntKind.u64.wrap v = U6 v := by rw [IntKind.wrap_u64]
    have hw2 : IntKind.u64.wrap c = U6 c := by rw [IntKind.wrap_u64]
    have hf := put_flat n v c k r s
    have HV0 := And.intro (U6_ge v) (And.intro (U6_lt v) (And.intro (U6_ge c) (And.intro (U6_lt c) hk)))
    have hG2 : (leB (r : Int) ++ leB (s : Int)).length = 16 := rfl
    obtain ⟨V, hV⟩ : ∃ V, V = U6 v := ⟨_, rfl⟩
    obtain ⟨C, hC⟩ : ∃ C, C = U6 c := ⟨_, rfl⟩
    rw [← hV] at hw1 hf HV0
    rw [← hC] at hw2 hf HV0
    rw [show Sg.sigB r s = leB r ++ leB s from rfl] at hg
    obtain ⟨G, hGG⟩ : ∃ G, G = leB (r : Int) ++ leB (s : Int) := ⟨_, rfl⟩
    rw [← hGG] at hg hf hG2
    obtain ⟨T, hTT⟩ : ∃ T, T = putB n v k c r s := ⟨_, rfl⟩
    rw [← hTT] at hf ⊢
    obtain ⟨L, hL⟩ : ∃ L, L = lumpB (strB n) := ⟨_, rfl⟩
    have hLl : L.length ≤ 40 ∧ G.length = 16 := ⟨by rw [hL, lumpB_len, hsn]; omega, hG2⟩
    have hj : ∀ v lo hi W, Bs W lo hi v (strB n) → Calls Try.prog 85 #[v] W fun en w' => ∃ v', en = .returned v' ∧ Kept None W w' ∧ Ob w' W.heap.size v' L := by
      intro v lo hi W h
      rw [hL]
      exact Bin.lump v lo hi (strB n) W h (by omega)
    rw [← hL] at hf
    have HJ := hid hj
    have HT := hid hf
    have HV := hid HV0
    have HQ := hid hq
    have HG := hid hg
    have HL := hid hLl
    have HN := hid hn
    clear hj hf HV0 hq hg hLl hL hTT hGG hC hV hG2 hh hb e1 e2 hn hk hr hs
    go_enter Try.func68, Try.ntmps68
    go_wp2_with (first | (refine wpList_load_blk rfl _ _ rfl rfl hB0 aUpd ?_) | fail)
    refine (HQ.out _).mono ?_
    rintro e w1 ⟨rfl, k1⟩
    have k01 := k0.trans k1
    have hB1 := hB0.kept k1 (fun h => h)
    have c0 : w1.cell? ⟨w.heap.size, 0, none⟩ = some (.string n) := hB1.cell 0
    clear k0 k1 hB0
    go_wp2_with (first | (refine wpList_bytes rfl 9 22 5 _ rfl tString tBytes' tByte rfl (by have := HN.out; omega) ?_; intro gB cB w2 hgB kB bB) | fail)
    refine (HJ.out _ _ _ _ bB).mono ?_
    rintro e w3 ⟨u, rfl, k3, b3⟩
    have kk := kB.trans k3
    have hB3 := hB1.kept kk (fun h => h)
    have k03 := k01.trans kk
    have hbL := b3.bs (Nat.le_refl _)
    obtain ⟨aL, cL, rfl⟩ := b3.form
    clear hB1 k01 kB bB k3 kk b3 c0
    obtain ⟨w2, rfl⟩ : ∃ w2, w2 = w3 := ⟨_, rfl⟩
    go_wp2_with fail
    have hc0 : ∀ W, Kept None w2 W → W.cell? ⟨w.heap.size, 0, none⟩ = some (.string n) := fun W hW => (hB3.kept hW (fun h => h)).cell 0
    have hc1 : ∀ W, Kept None w2 W → W.cell? ⟨w.heap.size, 1, none⟩ = some (.int .i64 v) := fun W hW => (hB3.kept hW (fun h => h)).cell 1
    have hc2 : ∀ W, Kept None w2 W → W.cell? ⟨w.heap.size, 2, none⟩ = some (.int .u64 (k : Int)) := fun W hW => (hB3.kept hW (fun h => h)).cell 2
    have hc3 : ∀ W, Kept None w2 W → W.cell? ⟨w.heap.size, 3, none⟩ = some (.int .i64 c) := fun W hW => (hB3.kept hW (fun h => h)).cell 3
    have hc4 : ∀ W, Kept None w2 W → W.cell? ⟨w.heap.size, 4, none⟩ = some (.int .u64 (r : Int)) := fun W hW => (hB3.kept hW (fun h => h)).cell 4
    have hc5 : ∀ W, Kept None w2 W → W.cell? ⟨w.heap.size, 5, none⟩ = some (.int .u64 (s : Int)) := fun W hW => (hB3.kept hW (fun h => h)).cell 5
    clear hB3
    have hs : Steady [.bytes 4 (leB V), .bytes 7 (leB k), .bytes 11 (leB C), .bytes 14 (G), .lists 15 ([L, leB V, leB k, leB C, G]) [4, 7, 11, 14], .own 5 16 (w2.heap.size) (T) [15]] := Steady.bytes (Steady.bytes (Steady.bytes (Steady.bytes (Steady.lists (Steady.own (Steady.nil))))))
    refine wp_region_kn w2 _ hs (Kept.refl _ _) (by kernel_rfl) (by kernel_rfl) (by kernel_rfl) ?_
    iterate 4 (refine wpPar_pure rfl (by rfl) _ (fun W hW => by
        have c1 := hc1 W hW
        have c2 := hc2 W hW
        have c3 := hc3 W hW
        have c4 := hc4 W hW
        have c5 := hc5 W hW
        go_simp
        exact rfl) ?_; simp only [Act.put, List.setIfInBounds_toArray, List.set_cons_zero, List.set_cons_succ])
    refine wpKn_adds hs rfl (by rfl) (fun W hW hd => ?_) (fun v4 hv => ?_)
    · unfold Gives
      go_simp
      refine gives_call (Bin.num V W HV.out.1 HV.out.2.1) ?_
      rintro e w3 ⟨u, rfl, k3, b3⟩
      exact ⟨_, rfl, k3, b3.form, _, _, b3.bs (Nat.le_refl _)⟩
    obtain ⟨a4, c4, rfl⟩ : ∃ a c, v4 = .slice a 8 c := hv
    simp only [Act.put, List.setIfInBounds_toArray, List.set_cons_zero, List.set_cons_succ]
    iterate 2 (refine wpPar_pure rfl (by rfl) _ (fun W hW => by
        have c1 := hc1 W hW
        have c2 := hc2 W hW
        have c3 := hc3 W hW
        have c4 := hc4 W hW
        have c5 := hc5 W hW
        go_simp
        exact rfl) ?_; simp only [Act.put, List.setIfInBounds_toArray, List.set_cons_zero, List.set_cons_succ])
    refine wpKn_adds hs rfl (by rfl) (fun W hW hd => ?_) (fun v7 hv => ?_)
    · unfold Gives
      go_simp
      refine gives_call (Bin.num k W (by omega) (by have := HV.out; omega)) ?_
      rintro e w3 ⟨u, rfl, k3, b3⟩
      exact ⟨_, rfl, k3, b3.form, _, _, b3.bs (Nat.le_refl _)⟩
    obtain ⟨a7, c7, rfl⟩ : ∃ a c, v7 = .slice a 8 c := hv
    simp only [Act.put, List.setIfInBounds_toArray, List.set_cons_zero, List.set_cons_succ]
    iterate 3 (refine wpPar_pure rfl (by rfl) _ (fun W hW => by
        have c1 := hc1 W hW
        have c2 := hc2 W hW
        have c3 := hc3 W hW
        have c4 := hc4 W hW
        have c5 := hc5 W hW
        go_simp
        exact rfl) ?_; simp only [Act.put, List.setIfInBounds_toArray, List.set_cons_zero, List.set_cons_succ])
    refine wpKn_adds hs rfl (by rfl) (fun W hW hd => ?_) (fun v11 hv => ?_)
    · unfold Gives
      go_simp
      refine gives_call (Bin.num C W HV.out.2.2.1 HV.out.2.2.2.1) ?_
      rintro e w3 ⟨u, rfl, k3, b3⟩
      exact ⟨_, rfl, k3, b3.form, _, _, b3.bs (Nat.le_refl _)⟩
    obtain ⟨a11, c11, rfl⟩ : ∃ a c, v11 = .slice a 8 c := hv
    simp only [Act.put, List.setIfInBounds_toArray, List.set_cons_zero, List.set_cons_succ]
    iterate 2 (refine wpPar_pure rfl (by rfl) _ (fun W hW => by
        have c1 := hc1 W hW
        have c2 := hc2 W hW
        have c3 := hc3 W hW
        have c4 := hc4 W hW
        have c5 := hc5 W hW
        go_simp
        exact rfl) ?_; simp only [Act.put, List.setIfInBounds_toArray, List.set_cons_zero, List.set_cons_succ])
    refine wpKn_adds hs rfl (by rfl) (fun W hW hd => ?_) (fun v14 hv => ?_)
    · unfold Gives
      go_simp
      refine gives_call (HG.out W) ?_
      rintro e w3 ⟨u, rfl, k3, b3⟩
      exact ⟨_, rfl, k3, b3.form, _, _, b3.bs (Nat.le_refl _)⟩
    obtain ⟨a14, c14, rfl⟩ : ∃ a c, v14 = .slice a G.length c := hv
    simp only [Act.put, List.setIfInBounds_toArray, List.set_cons_zero, List.set_cons_succ]
    refine wpKn_adds hs rfl (by rfl) (fun W hW hd => ?_) (fun v15 hv => ?_)
    · unfold Gives
      have h0 := hbL.kept hW (fun _ _ _ h => h)
      obtain ⟨lo2, hi2, h2⟩ : ∃ lo hi, Bs W lo hi (.slice a4 8 c4) (leB V) := hd 4 (List.Mem.head _)
      obtain ⟨lo3, hi3, h3⟩ : ∃ lo hi, Bs W lo hi (.slice a7 8 c7) (leB k) := hd 7 (List.Mem.tail _ (List.Mem.head _))
      obtain ⟨lo4, hi4, h4⟩ : ∃ lo hi, Bs W lo hi (.slice a11 8 c11) (leB C) := hd 11 (List.Mem.tail _ (List.Mem.tail _ (List.Mem.head _)))
      obtain ⟨lo5, hi5, h5⟩ : ∃ lo hi, Bs W lo hi (.slice a14 G.length c14) G := hd 14 (List.Mem.tail _ (List.Mem.tail _ (List.Mem.tail _ (List.Mem.head _))))
      go_simp
      exact ⟨(Kept.refl None W).alloc _, ⟨_, _, rfl⟩, _, _, _, _, Bss.new W #[.slice aL L.length cL, .slice a4 8 c4, .slice a7 8 c7, .slice a11 8 c11, .slice a14 G.length c14] 22 [L, leB V, leB k, leB C, G] 5 rfl (by decide) ⟨h0.all, h2.all, h3.all, h4.all, h5.all, trivial⟩⟩
    obtain ⟨a15, c15, rfl⟩ : ∃ a c, v15 = .slice a 5 c := hv
    simp only [Act.put, List.setIfInBounds_toArray, List.set_cons_zero, List.set_cons_succ]
    refine wpKn_adds hs rfl (by rfl) (fun W hW hd => ?_) (fun v16 hv => ?_)
    · unfold Gives
      obtain ⟨lo1, hi1, lo2, hi2, h1⟩ : ∃ lo hi lo' hi', Bss W lo hi lo' hi' (.slice a15 5 c15) [L, leB V, leB k, leB C, G] := hd 15 (List.Mem.head _)
      go_simp
      refine gives_call (Bin.join _ _ _ _ _ _ W h1 (by have := HL.out; simp [total, leB_length]; omega)) ?_
      rintro e w3 ⟨u, rfl, k3, b3⟩
      have b4 := b3.base hW.size
      rw [HT.out] at b4
      exact ⟨_, rfl, k3, b4.form, b4⟩
    obtain ⟨a16, c16, rfl⟩ : ∃ a c, v16 = .slice a T.length c := hv
    simp only [Act.put, List.setIfInBounds_toArray, List.set_cons_zero, List.set_cons_succ]
    iterate 2 (refine wpPar_pure rfl (by rfl) _ (fun W hW => by
        go_simp
        exact rfl) ?_; simp only [Act.put, List.setIfInBounds_toArray, List.set_cons_zero, List.set_cons_succ])
    refine wpPar_nil (fun W hW hG => ?_)
    have hb : Ob W w2.heap.size (.slice a16 T.length c16) T := hG 16
    have hb1 := hb.base k03.size
    have k04 := k03.then hW (fun _ _ h => h)
    clear hG hb hc0 hc1 hc2 hc3 hc4 hc5 hs k03 hW hbL
    go_wp2
    go_ret2
    exact ⟨_, rfl, k04, hb1⟩
end Up
end Go.Proofs.Ytbebpnanhkcngaa
namespace Go.Proofs.Ytbebpnanhkcngaa
open Go.RowKit Go.Pm
namespace Jr
theorem nil_own {k : Nat} (h : Of (.slice none 0 0) k) : False := by
  have h : (none : Option Nat) = some k := h
  cases h
theorem u64_in {x : Int} (h0 : 0 ≤ x) (h1 : x ≤ 1152921504606846976) : IntKind.u64.wrap x = x := by rw [IntKind.wrap_u64]; omega
set_option maxRecDepth 100000 in
set_option maxHeartbeats 4000000 in
theorem body1 (s g c : Int) (w : World) (hg : 0 ≤ g ∧ g ≤ 1152921504606846976) (hc : 0 ≤ c ∧ c ≤ 32) :
    Calls Try.prog 43 #[(⟨1, s, g, c, Req.none, 0, 0⟩ : Rec).V] w fun e' w' => ∃ u, e' = .returned u ∧ Kept None w w' ∧ Ob w' w.heap.size u (leB g ++ leB c) := by
  have wg := u64_in hg.1 hg.2
  have wc := u64_in hc.1 (Int.le_trans hc.2 (by decide))
  have HN1 := hid (fun W => Bin.num g W hg.1 (Int.lt_of_le_of_lt hg.2 (by decide)))
  have HN2 := hid (fun W => Bin.num c W hc.1 (Int.lt_of_le_of_lt hc.2 (by decide)))
  clear hg hc
  unfold Rec.V Rec.C
  have hb0 := hid (Blk.new w #[.int .i64 1, .int .i64 s, .int .i64 g, .int .i64 c, .string ⟨#[]⟩, .int .i64 0, .int .u64 0, .int .i64 0, .int .u64 0, .int .u64 0, .int .i64 0, .int .i64 0] 45)
  go_enter Try.func43, Try.ntmps43
  go_wp2_with fail
  refine (HN1.out _).mono ?_
  rintro e1 w1 ⟨v1, rfl, k1, b1⟩
  have K1 := hid (show Kept None w w1 from ((Kept.refl _ _).alloc _).trans k1)
  have B1 := hid (hb0.out.kept k1 (fun h => h))
  clear k1 HN1 hb0
  obtain ⟨a1, c1, rfl⟩ := b1.form
  have hu1 := (b1.bs (Nat.le_refl _)).all
  have hn1 : Ob w1 w.heap.size (.slice none 0 0) [] := Bo.nil _ _ _
  have hl1 : ([] : List UInt8).length + (leB g).length ≤ 140737488355328 := by simp [leB_length]
  have hz1 := K1.out.size
  clear b1
  go_upto_region 5 with (first | (refine wpList_append_bo rfl _ _ 22 rfl rtBytes rfl rfl hn1 hu1 hl1 hz1 ?_; intro a2 n2 c2 w2 hB2 hK2) | fail)
  have K2 := hid (K1.out.then hK2 (fun q hq h => Nat.lt_irrefl _ (Nat.lt_of_lt_of_le hq (hn1.own q h).1)))
  rw [List.nil_append] at hB2
  obtain ⟨_, _, hf2⟩ := hB2.form
  obtain rfl : n2 = (leB g).length := by injection hf2
  have hcell : w2.cell? ⟨w.heap.size, 3, none⟩ = some (.int .i64 c) := (B1.out.kept hK2 (fun h => nil_own h)).cell 3
  have HB2 := hid hB2
  clear hB2 hK2 hf2 hn1 hu1 hl1 hz1 B1 K1
  go_wp2_with fail
  refine (HN2.out _).mono ?_
  rintro e1 w3 ⟨v3, rfl, k3, b3⟩
  obtain ⟨a3, c3, rfl⟩ := b3.form
  have K3 := hid (K2.out.trans k3)
  have hn3 := HB2.out.kept k3 (fun _ _ h => h)
  have hu3 := (b3.bs (Nat.le_refl _)).all
  have hl3 : (leB g).length + (leB c).length ≤ 140737488355328 := by simp [leB_length]
  have hz3 := K3.out.size
  clear b3 k3 hcell HB2 K2
  go_wp2_with (first | (refine wpList_append_bo rfl _ _ 22 rfl rtBytes rfl rfl hn3 hu3 hl3 hz3 ?_; intro a4 n4 c4 w4 hB4 hK4) | fail)
  have K4 := K3.out.then hK4 (fun q hq h => Nat.lt_irrefl _ (Nat.lt_of_lt_of_le hq (hn3.own q h).1))
  clear hn3 hu3 hl3 hz3 hK4
  go_wp2
  go_ret
  exact ⟨_, rfl, K4, hB4⟩
set_option maxRecDepth 100000 in
set_option maxHeartbeats 4000000 in
theorem body3 (s e : Int) (w : World) (he : 1 ≤ e ∧ e ≤ 1073741824) :
    Calls Try.prog 43 #[(⟨3, s, 0, 0, Req.none, 0, e⟩ : Rec).V] w fun e' w' => ∃ u, e' = .returned u ∧ Kept None w w' ∧ Ob w' w.heap.size u (leB e) := by
  have wg := u64_in (Int.le_trans (by decide) he.1) (Int.le_trans he.2 (by decide))
  have HN1 := hid (fun W => Bin.num e W (Int.le_trans (by decide) he.1) (Int.lt_of_le_of_lt he.2 (by decide)))
  clear he
  unfold Rec.V Rec.C
  have hb0 := hid (Blk.new w #[.int .i64 3, .int .i64 s, .int .i64 0, .int .i64 0, .string ⟨#[]⟩, .int .i64 0, .int .u64 0, .int .i64 0, .int .u64 0, .int .u64 0, .int .i64 0, .int .i64 e] 45)
  go_enter Try.func43, Try.ntmps43
  go_wp2_with fail
  refine (HN1.out _).mono ?_
  rintro e1 w1 ⟨v1, rfl, k1, b1⟩
  have K1 := hid (show Kept None w w1 from ((Kept.refl _ _).alloc _).trans k1)
  clear k1 HN1 hb0
  obtain ⟨a1, c1, rfl⟩ := b1.form
  have hu1 := (b1.bs (Nat.le_refl _)).all
  have hn1 : Ob w1 w.heap.size (.slice none 0 0) [] := Bo.nil _ _ _
  have hl1 : ([] : List UInt8).length + (leB e).length ≤ 140737488355328 := by simp [leB_length]
  have hz1 := K1.out.size
  clear b1
  go_wp2_with (first | (refine wpList_append_bo rfl _ _ 22 rfl rtBytes rfl rfl hn1 hu1 hl1 hz1 ?_; intro a2 n2 c2 w2 hB2 hK2) | fail)
  have K2 := K1.out.then hK2 (fun q hq h => Nat.lt_irrefl _ (Nat.lt_of_lt_of_le hq (hn1.own q h).1))
  rw [List.nil_append] at hB2
  clear hK2 hn1 hu1 hl1 hz1 K1
  go_wp2
  go_ret
  exact ⟨_, rfl, K2, hB2⟩
set_option maxRecDepth 100000 in
set_option maxHeartbeats 4000000 in
theorem body2 (s t : Int) (n : ByteArray) (v cl : Int) (k rr ss : Nat) (w : World) (hr : rightB n.size v k cl = true) (ht : 0 ≤ t ∧ t ≤ 1152921504606846976) (hrr : rr < 18446744073709551616) (hss : ss < 18446744073709551616) :
    Calls Try.prog 43 #[(⟨2, s, 0, 0, ⟨n, v, k, cl, rr, ss⟩, t, 0⟩ : Rec).V] w fun e' w' => ∃ u, e' = .returned u ∧ Kept None w w' ∧ Ob w' w.heap.size u (leB t ++ putB n v k cl rr ss) := by
  have wg := u64_in ht.1 ht.2
  have HN1 := hid (fun W => Bin.num t W ht.1 (Int.lt_of_le_of_lt ht.2 (by decide)))
  have HU := hid (fun W => Up.put n v cl k rr ss W hrr hss)
  have hul := reqB_len ⟨n, v, k, cl, rr, ss⟩ hr
  obtain ⟨UB, hUB⟩ : ∃ UB, UB = putB n v k cl rr ss := ⟨_, rfl⟩
  have e1 : putE n.size v k cl = 0 := by unfold putE; rw [if_pos hr]
  have e2 : putL n v k cl rr ss = UB := by unfold putL; rw [if_pos hr, hUB]
  have e3 : reqB ⟨n, v, k, cl, rr, ss⟩ = UB := hUB.symm
  rw [e1, e2] at HU
  rw [e3] at hul
  rw [← hUB]
  have HUL := hid hul
  clear ht hr hrr hss hul hUB e1 e2 e3
  unfold Rec.V Rec.C
  have hb0 := hid (Blk.new w #[.int .i64 2, .int .i64 s, .int .i64 0, .int .i64 0, .string n, .int .i64 v, .int .u64 (k : Int), .int .i64 cl, .int .u64 (rr : Int), .int .u64 (ss : Int), .int .i64 t, .int .i64 0] 45)
  go_enter Try.func43, Try.ntmps43
  go_wp2_with fail
  refine (HU.out _).mono ?_
  rintro e1 w0 ⟨v0, rfl, k0, b0⟩
  obtain ⟨a0, c0, rfl⟩ := b0.form
  have K0 := hid (show Kept None w w0 from ((Kept.refl _ _).alloc _).trans k0)
  have B0 := hid (hb0.out.kept k0 (fun h => h))
  have U0 := hid (b0.bs (Nat.le_refl _)).all
  have hcell : w0.cell? ⟨w.heap.size, 10, none⟩ = some (.int .i64 t) := B0.out.cell 10
  clear k0 b0 HU hb0
  go_wp2_with fail
  refine (HN1.out _).mono ?_
  rintro e1 w1 ⟨v1, rfl, k1, b1⟩
  have K1 := hid (K0.out.trans k1)
  have U1 := hid (U0.out.kept k1 (fun _ _ _ h => h))
  clear k1 HN1 B0 hcell
  obtain ⟨a1, c1, rfl⟩ := b1.form
  have hu1 := (b1.bs (Nat.le_refl _)).all
  have hn1 : Ob w1 w.heap.size (.slice none 0 0) [] := Bo.nil _ _ _
  have hl1 : ([] : List UInt8).length + (leB t).length ≤ 140737488355328 := by simp [leB_length]
  have hz1 := K1.out.size
  clear b1
  go_upto_region 9 with (first | (refine wpList_append_bo rfl _ _ 22 rfl rtBytes rfl rfl hn1 hu1 hl1 hz1 ?_; intro a2 n2 c2 w2 hB2 hK2) | fail)
  have K2 := hid (K1.out.then hK2 (fun q hq h => Nat.lt_irrefl _ (Nat.lt_of_lt_of_le hq (hn1.own q h).1)))
  rw [List.nil_append] at hB2
  obtain ⟨_, _, hf2⟩ := hB2.form
  obtain rfl : n2 = (leB t).length := by injection hf2
  have hu2 := U1.out.kept hK2 (fun _ _ _ h => nil_own h)
  have hl2 : (leB t).length + UB.length ≤ 140737488355328 := by have := HUL.out; rw [leB_length]; omega
  have hz2 := K2.out.size
  clear hK2 hf2 hn1 hu1 hl1 hz1 K1 U1
  go_wp2_with (first | (refine wpList_append_bo rfl _ _ 22 rfl rtBytes rfl rfl hB2 hu2 hl2 hz2 ?_; intro a4 n4 c4 w4 hB4 hK4) | fail)
  have K4 := K2.out.then hK4 (fun q hq h => Nat.lt_irrefl _ (Nat.lt_of_lt_of_le hq (hB2.own q h).1))
  clear hu2 hl2 hz2 hK4
  go_wp2
  go_ret
  exact ⟨_, rfl, K4, hB4⟩
set_option maxRecDepth 100000 in
set_option maxHeartbeats 4000000 in
theorem body (r : Rec) (w : World) (h : rightJ r = true) (hf : r.u.r < 18446744073709551616 ∧ r.u.s < 18446744073709551616) :
    Calls Try.prog 43 #[r.V] w fun e' w' => ∃ u, e' = .returned u ∧ Kept None w w' ∧ Ob w' w.heap.size u (bodyJ r) := by
  obtain ⟨kd, s, g, c, ⟨n, v, k, cl, rr, ss⟩, t, e⟩ := r
  rcases ((rightJ_iff _).1 h).2 with ⟨h1, h2⟩ | ⟨h1, h2⟩ | ⟨h1, h2⟩
  · simp only [Rec.mk.injEq] at h1
    obtain ⟨rfl, _, _, _, h3, rfl, rfl⟩ := h1
    rw [h3]
    exact body1 s g c w ⟨h2.1, h2.2.1⟩ h2.2.2
  · simp only [Rec.mk.injEq] at h1
    obtain ⟨rfl, _, rfl, rfl, _, _, rfl⟩ := h1
    exact body2 s t n v cl k rr ss w h2.1 h2.2 hf.1 hf.2
  · simp only [Rec.mk.injEq] at h1
    obtain ⟨rfl, _, rfl, rfl, h3, rfl, _⟩ := h1
    rw [h3]
    exact body3 s e w h2
end Jr
end Go.Proofs.Ytbebpnanhkcngaa
namespace Go.Proofs.Ytbebpnanhkcngaa
open Go.RowKit Go.Pm
namespace Fm
set_option maxRecDepth 100000 in
set_option maxHeartbeats 2000000 in
theorem sum (k s : Int) (v : Value) (lo hi : Nat) (b : List UInt8) (w : World) (hv : Bs w lo hi v b) (k0 : 0 ≤ k) (k1 : k < 256) (s0 : 0 ≤ s) (s1 : s < 9223372036854775808) (hl : b.length ≤ 1099511627000) :
    Calls Try.prog 57 #[.int .u8 k, .int .u64 s, v] w fun e w' => ∃ a c, e = .returned (.slice a 8 c) ∧ Kept None w w' ∧ Bs w' w.heap.size w'.heap.size (.slice a 8 c) (markF k s b) := by
  obtain ⟨av, cv, rfl, _⟩ := hv.shape
  have hn := fun W => Bin.num s W s0 (by omega)
  have ht := fun W lo hi lo' hi' u h => Sp.tag 102 u lo hi lo' hi' [[Go.Pm.byteOf k], leB s, b] W (by decide) (by decide) h (by simp) (by simp [total, leB_length]; omega)
  have HN := hid hn
  have HT := hid ht
  have HV := hid hv.all
  have HK := hid (And.intro k0 k1)
  obtain ⟨H, hH⟩ : ∃ H, H = sumB (textB 102 [[Go.Pm.byteOf k], leB s, b]) := ⟨_, rfl⟩
  have h32 : H.length = 32 := by rw [hH]; exact sumB_len _
  have hM : markF k s b = H.take 8 := by rw [hH]; rfl
  obtain ⟨HA, hHA⟩ : ∃ A : Array Value, A = (H.map u8v).toArray := ⟨_, rfl⟩
  have aH : AggTy Try.prog 121 HA.size := by rw [hHA, show (H.map u8v).toArray.size = 32 by simpa using h32]; exact Sp.aH
  have HH := hid (And.intro hH (And.intro h32 (And.intro hM hHA)))
  clear hn ht hv k0 k1 s0 s1 hl hH h32 hM hHA
  go_enter Try.func57, Try.ntmps57
  go_wp2_with fail
  refine (HN.out _).mono ?_
  rintro e w2 ⟨v2, rfl, k2, b2⟩
  obtain ⟨a2, c2, rfl⟩ := b2.form
  have kx : Kept None w w2 := ((Kept.refl None w).alloc (.cells #[.int .u8 k] 5)).trans k2
  have hk1 : Bs w2 0 w2.heap.size (.slice (some ⟨w.heap.size, 0, none⟩) 1 1) [Go.Pm.byteOf k] := by
    have h0 : Bs (w.alloc (.cells #[.int .u8 k] 5)) w.heap.size (w.heap.size + 1) (.slice (some ⟨w.heap.size, 0, none⟩) 1 1) [Go.Pm.byteOf k] :=
      Bs.newMark w #[.int .u8 k] 5 (0, 0) 1 rfl (by decide) [Go.Pm.byteOf k] (by simp [u8v_byteOf' HK.out.1 HK.out.2])
    exact (h0.kept k2 (fun _ _ _ h => h)).all
  have hbs := Bss.new w2 #[.slice (some ⟨w.heap.size, 0, none⟩) 1 1, .slice a2 (leB s).length c2, .slice av b.length cv] 22 [[Go.Pm.byteOf k], leB s, b] 3 rfl (by decide) ⟨hk1, (b2.bs (Nat.le_refl _)).all, (HV.out.kept kx (fun _ _ _ h => h)).all, trivial⟩
  have HB := hid hbs
  have k3 : Kept None w (w2.alloc (.cells #[.slice (some ⟨w.heap.size, 0, none⟩) 1 1, .slice a2 (leB s).length c2, .slice av b.length cv] 22)) := kx.alloc _
  have K3 := hid k3
  clear hbs hk1 kx k2 b2 k3
  go_wp2_with fail
  refine (HT.out _ _ _ _ _ _ HB.out).mono ?_
  rintro e w4 ⟨rfl, k4⟩
  have K4 := hid (K3.out.trans k4)
  rw [← HH.out.1]
  show _
  unfold hashV
  rw [← HH.out.2.2.2]
  have z1 : Blk (w4.alloc (.cells #[.int .u8 0, .int .u8 0, .int .u8 0, .int .u8 0, .int .u8 0, .int .u8 0, .int .u8 0, .int .u8 0, .int .u8 0, .int .u8 0, .int .u8 0, .int .u8 0, .int .u8 0, .int .u8 0, .int .u8 0, .int .u8 0, .int .u8 0, .int .u8 0, .int .u8 0, .int .u8 0, .int .u8 0, .int .u8 0, .int .u8 0, .int .u8 0, .int .u8 0, .int .u8 0, .int .u8 0, .int .u8 0, .int .u8 0, .int .u8 0, .int .u8 0, .int .u8 0] 121)) w4.heap.size #[.int .u8 0, .int .u8 0, .int .u8 0, .int .u8 0, .int .u8 0, .int .u8 0, .int .u8 0, .int .u8 0, .int .u8 0, .int .u8 0, .int .u8 0, .int .u8 0, .int .u8 0, .int .u8 0, .int .u8 0, .int .u8 0, .int .u8 0, .int .u8 0, .int .u8 0, .int .u8 0, .int .u8 0, .int .u8 0, .int .u8 0, .int .u8 0, .int .u8 0, .int .u8 0, .int .u8 0, .int .u8 0, .int .u8 0, .int .u8 0, .int .u8 0, .int .u8 0] 121 := Blk.new _ _ _
  obtain ⟨z, hz, hZ⟩ := Blk.any (n := 32) z1 (by rfl)
  have hsz : HA.size = 32 := by rw [HH.out.2.2.2]; simpa using HH.out.2.1
  have hal : HA.all (·.oneCell') = true := by rw [HH.out.2.2.2]; exact u8v_all' _
  have E := hid (And.intro (hz.trans hsz.symm) hal)
  have kz : Kept None w (w4.alloc (.cells #[.int .u8 0, .int .u8 0, .int .u8 0, .int .u8 0, .int .u8 0, .int .u8 0, .int .u8 0, .int .u8 0, .int .u8 0, .int .u8 0, .int .u8 0, .int .u8 0, .int .u8 0, .int .u8 0, .int .u8 0, .int .u8 0, .int .u8 0, .int .u8 0, .int .u8 0, .int .u8 0, .int .u8 0, .int .u8 0, .int .u8 0, .int .u8 0, .int .u8 0, .int .u8 0, .int .u8 0, .int .u8 0, .int .u8 0, .int .u8 0, .int .u8 0, .int .u8 0] 121)) := K4.out.alloc _
  have KZ := hid kz
  have h4 := K4.out.size
  have H4 := hid h4
  clear k4 z1 hz hsz hal kz h4
  go_wp2_with (first | (refine wpList_store_blk rfl _ _ _ rfl rfl rfl hZ aH E.out.1 E.out.2 ?_; intro w9 hR9 k9) | fail)
  go_ret
  refine ⟨_, _, rfl, KZ.out.then k9 (fun i hi e => by have e : i = w4.heap.size := e; have := H4.out; omega), ?_⟩
  rw [HH.out.2.2.1]
  have hlt := hR9.lt
  refine ⟨some ⟨w4.heap.size, 0, none⟩, 32, by simp [HH.out.2.1], by simp [HH.out.2.1], by decide, (fun h => by cases h), fun ad had i x hx => ?_⟩
  obtain rfl := Option.some.inj had
  have hi : i < 8 := by
    have := (List.getElem?_eq_some_iff.1 hx).1
    simp [HH.out.2.1] at this
    omega
  refine ⟨H4.out, hlt, ?_⟩
  have ea : (⟨w4.heap.size, 0, none⟩ : Addr).add i = ⟨w4.heap.size, i, none⟩ := by unfold Addr.add; split <;> simp_all
  rw [ea, hR9.cell, HH.out.2.2.2]
  rw [List.map_take, List.getElem?_take_of_lt hi] at hx
  simpa using hx
end Fm
end Go.Proofs.Ytbebpnanhkcngaa
namespace Go.Proofs.Ytbebpnanhkcngaa
open Go.RowKit Go.Pm
namespace Fm
def ReadC : Prop := ∀ (v : Value) (lo hi : Nat) (b : List UInt8) (w : World), Bs w lo hi v b → b.length ≤ 1099511627000 →
    Calls Try.prog 39 #[v] w fun e w' => ∃ u, e = .returned (.tuple #[.int .i64 (readF b).kind, .int .i64 (readF b).seq, u, .int .i64 (readF b).n, .int .i64 (readF b).e]) ∧ Kept None w w' ∧ Bs w' 0 w'.heap.size u (readF b).body
end Fm
end Go.Proofs.Ytbebpnanhkcngaa
