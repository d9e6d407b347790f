/- Texts joined: RDec17, Story17, Sd17, LowRow, DirK16, UpChk, AdmI17, EntEq16, AdmH17, AdmG17, AdmN17, AdmD17. -/
import Derived.Test.YtdobmebhjmgkmaaPk3
import Derived.Test.YtdobmebhjmgkmaaPk5
import Derived.Test.YtdobmebhjmgkmaaPk4
import Derived.Test.YtdobmebhjmgkmaaPk1
import Derived.ProofKit
import Derived.Deep.Slices
import Derived.Laws.IdiomArrays
import Derived.Carry
import Derived.Test.YtdobmebhjmgkmaaPk2
import Derived.RangeFuncNested
import Derived.RangeFuncLeaves
import Derived.OwnWalkIn
import Derived.TacticsInMore
import Derived.LoopIn
import Derived.BigQuiet
import Derived.Shelf.Abstract
import Derived.Deep.QuietTactic
namespace Go.Pm
open Go Go.RowKit
theorem nums17 {n : Nat} (h : n ≤ 1000000) : wrap64 (n : Int) = (n : Int) ∧ IntKind.i64.wrap (n : Int) = (n : Int) := by
  rw [IntKind.wrap_i64]
  unfold wrap64
  omega
end Go.Pm
namespace Go.Proofs.Ytdobmebhjmgkmaa
open Go.RowKit Go.Pm
namespace R16
set_option maxRecDepth 100000 in
set_option maxHeartbeats 16000000 in
theorem decide17 (v v' : Value) (lo hi lo' hi' : Nat) (l : List Kno) (p : List Pn) (u : Req) (w : World) (hv : Ps 4 w lo hi v (knosC l)) (hv' : Ps 9 w lo' hi' v' (pensC p)) (hl : l.length ≤ 1000000) (hp : p.length ≤ 1000000) (hn : u.n.size ≤ 1000) (hk : u.k < 18446744073709551616) :
    Calls Try.prog 14 #[v, v', u.V] w fun en w' => en = .returned (.tuple #[.int .i64 (decP l p u).1, .int .i64 (decP l p u).2]) ∧ Kept None w w' := by
  obtain ⟨ap, np, cp, rfl, hnp⟩ : ∃ a n c, v' = .slice a n c ∧ n = p.length := by
    obtain ⟨a, c, h, _⟩ := hv'.form
    rw [pensC_len] at h
    exact ⟨a, _, c, h, rfl⟩
  subst hnp
  obtain ⟨n, vv, k, c, r, s⟩ := u
  have HV := hid hv
  have HVP := hid hv'
  have HN := hid (And.intro hl (And.intro hp (And.intro hn hk)))
  have hr := fun W => RUp.right n vv c k r s W
  have hd : decP l p (⟨n, vv, k, c, r, s⟩ : Req) = if rightB n.size vv k c = true then (if (finK l n vv).2 = true then keyP (finK l n vv).1.e.k (⟨n, vv, k, c, r, s⟩ : Req) 2 else waitsP (nextP l p n) (⟨n, vv, k, c, r, s⟩ : Req) (waitP p n vv)) else (0, 23) := rfl
  obtain ⟨X, hX⟩ : ∃ X, X = rightB n.size vv k c := ⟨_, rfl⟩
  rw [← hX] at hr hd
  have HRT := hid hr
  obtain ⟨⟨⟨⟨fn, fv, fk⟩, fp⟩, fb⟩, hF⟩ : ∃ z, z = finK l n vv := ⟨_, rfl⟩
  rw [← hF] at hd
  simp only at hd
  have HF := hid hF
  have b5 := Blk.new w #[.string n, .int .i64 vv, .int .u64 (k : Int), .int .i64 c, .int .u64 (r : Int), .int .u64 (s : Int)] 27
  have k5 := (Kept.refl None w).alloc (.cells #[.string n, .int .i64 vv, .int .u64 (k : Int), .int .i64 c, .int .u64 (r : Int), .int .u64 (s : Int)] 27)
  have HDD := hid hd
  clear hv hv' hl hp hn hk hr hd hX hF
  unfold Req.V updV
  go_enter Try.func14, Try.ntmps14
  go_upto_region 1 with fail
  obtain ⟨w1, hw1⟩ : ∃ z, z = w.alloc (.cells #[.string n, .int .i64 vv, .int .u64 (k : Int), .int .i64 c, .int .u64 (r : Int), .int .u64 (s : Int)] 27) := ⟨_, rfl⟩
  obtain ⟨g5, hg5⟩ : ∃ z, z = w.heap.size := ⟨_, rfl⟩
  rw [← hw1, ← hg5] at b5 ⊢
  rw [← hw1] at k5
  have B5 := hid b5
  have K1 := hid k5
  clear hw1 hg5 k5
  go_wp2_with (first | (refine wpList_load_blk rfl _ _ rfl rfl b5 Up.aUpd ?_) | fail)
  refine (HRT.out w1).mono ?_
  rintro e w2 ⟨rfl, k2⟩
  have B5 := hid (B5.out.kept k2 (fun h => h))
  have K2 := hid (K1.out.trans k2)
  clear k2 K1 HRT b5
  cases X with
  | false =>
    have HR := hid (show decP l p (⟨n, vv, k, c, r, s⟩ : Req) = (0, 23) from by rw [HDD.out]; rfl)
    go_wp2_with (first | go_skip | fail)
    go_ret2
    rw [HR.out]
    exact ⟨rfl, K2.out⟩
  | true =>
    have hfi := find v lo hi l n vv w2 (HV.out.kept K2.out (fun _ _ _ h => h)) (Nat.le_trans HN.out.1 (by decide))
    rw [← HF.out] at hfi
    have HFI := hid hfi
    clear hfi
    have u0 : w2.cell? ⟨g5, 0, none⟩ = some (.string n) := B5.out.cell 0
    have u1 : w2.cell? ⟨g5, 1, none⟩ = some (.int .i64 vv) := B5.out.cell 1
    have u2 : w2.cell? ⟨g5, 2, none⟩ = some (.int .u64 (k : Int)) := B5.out.cell 2
    go_wp2_with (first | go_skip | fail)
    refine HFI.out.mono ?_
    rintro e w3 ⟨rfl, k3⟩
    clear HFI u0 u1 u2
    go_upto_region 4 with (first | go_skip | fail)
    obtain ⟨w4, hw4⟩ : ∃ z, z = w3.alloc (.cells #[.string fn, .int .i64 fv, .int .u64 (fk : Int), .int .i64 fp] 50) := ⟨_, rfl⟩
    obtain ⟨g8, hg8⟩ : ∃ z, z = w3.heap.size := ⟨_, rfl⟩
    have k4 : Kept None w2 w4 := by rw [hw4]; exact k3.alloc _
    have b8 : Blk w4 g8 #[.string fn, .int .i64 fv, .int .u64 (fk : Int), .int .i64 fp] 50 := by rw [hw4, hg8]; exact Blk.new _ _ _
    rw [← hw4, ← hg8]
    have B5 := hid (B5.out.kept k4 (fun h => h))
    have K4 := hid (K2.out.trans k4)
    have B8 := hid b8
    clear hw4 hg8 k4 b8 k3 K2
    cases fb with
    | true =>
      have HD := hid (show decP l p (⟨n, vv, k, c, r, s⟩ : Req) = keyP fk (⟨n, vv, k, c, r, s⟩ : Req) 2 from by rw [HDD.out]; rfl)
      have u0 : w4.cell? ⟨g5, 0, none⟩ = some (.string n) := B5.out.cell 0
      have u1 : w4.cell? ⟨g5, 1, none⟩ = some (.int .i64 vv) := B5.out.cell 1
      have u2 : w4.cell? ⟨g5, 2, none⟩ = some (.int .u64 (k : Int)) := B5.out.cell 2
      have e2 : w4.cell? ⟨g8, 2, none⟩ = some (.int .u64 (fk : Int)) := B8.out.cell 2
      by_cases hq : fk = k
      · have d1 : ((fk : Int) == (k : Int)) = true := by rw [hq]; simp
        have d2 : decide ((fk : Int) = (k : Int)) = true := by rw [hq]; simp
        have d3 : decide (fk = k) = true := by rw [hq]; simp
        have HR := hid (show decP l p (⟨n, vv, k, c, r, s⟩ : Req) = (2, 0) from by rw [HD.out]; unfold keyP; rw [if_pos hq])
        clear hq
        go_wp2_with (first | go_skip | fail)
        go_ret2
        rw [HR.out]
        exact ⟨rfl, K4.out⟩
      · have d1 : ((fk : Int) == (k : Int)) = false := by
          rw [beq_eq_false_iff_ne]
          intro h
          exact hq (Int.ofNat.inj h)
        have d2 : decide ((fk : Int) = (k : Int)) = false := decide_eq_false (fun h => hq (Int.ofNat.inj h))
        have d3 : decide (fk = k) = false := decide_eq_false hq
        have HR := hid (show decP l p (⟨n, vv, k, c, r, s⟩ : Req) = (0, 26) from by rw [HD.out]; unfold keyP; rw [if_neg hq])
        clear hq
        go_wp2_with (first | go_skip | fail)
        go_ret2
        rw [HR.out]
        exact ⟨rfl, K4.out⟩
    | false =>
      have HD := hid (show decP l p (⟨n, vv, k, c, r, s⟩ : Req) = waitsP (nextP l p n) (⟨n, vv, k, c, r, s⟩ : Req) (waitP p n vv) from by rw [HDD.out]; rfl)
      clear HDD B8
      go_wp2_with (first | go_skip | fail)
      go_loopg [10] p.length (fun kx s10 wr => ∃ i : Nat, s10 = .int .i64 (i : Int) ∧ i ≤ p.length ∧ p.length - i ≤ kx ∧ Hid (waitP (p.take i) n vv = none) ∧ Hid (Kept None w4 wr))
      case atStart => exact ⟨0, rfl, Nat.zero_le _, Nat.le_refl _, hid rfl, hid (Kept.refl _ _)⟩
      case round =>
      obtain ⟨i, rfl, hii, hix, HP, HS⟩ := hrel
      have B6 := hid (B5.out.kept HS.out (fun h => h))
      have u0 : wr.cell? ⟨g5, 0, none⟩ = some (.string n) := B6.out.cell 0
      have u1 : wr.cell? ⟨g5, 1, none⟩ = some (.int .i64 vv) := B6.out.cell 1
      have u2 : wr.cell? ⟨g5, 2, none⟩ = some (.int .u64 (k : Int)) := B6.out.cell 2
      by_cases hlt : i < p.length
      · have hlt' : decide ((i : Int) < (p.length : Int)) = true := by simpa using hlt
        have hlb : (i : Int) < (p.length : Int) := Int.ofNat_lt.mpr hlt
        obtain ⟨b, o, rfl, hbs, hcell⟩ := (HVP.out.kept (K4.out.trans HS.out) (fun _ _ _ h => h)).pen (by omega)
        obtain ⟨_, rx, _, _, _⟩ := hcell i hlt
        have hst := waitP_take p n vv i hlt HP.out
        obtain ⟨x, hx⟩ : ∃ x, x = p[i] := ⟨_, rfl⟩
        rw [← hx] at rx hst
        obtain ⟨⟨xn, xv, xk, xc, xr, xs⟩, xt, xq, xb⟩ := x
        simp only [reqC] at rx
        obtain ⟨E, hE⟩ : ∃ E, E = eqN xn n := ⟨_, rfl⟩
        have hE' : (xn.toList == n.toList) = E := by rw [hE]; rfl
        have hisp : isP n vv ⟨⟨xn, xv, xk, xc, xr, xs⟩, xt, xq, xb⟩ = (E && decide (xv = vv)) := by rw [hE]; rfl
        rw [hisp] at hst
        have HST := hid hst
        have HLT := hid hlt
        have hw : wrap64 ((i : Int) + 1) = ((i + 1 : Nat) : Int) := (nums17 (n := i + 1) (Nat.le_trans hlt HN.out.2.1)).1
        have HW := hid hw
        have HWK := hid (waitP_some p n vv (i + 1))
        clear hcell hx hE hst hbs hw hisp
        go_upto_region 12 with (first | (refine wpList_load_at (.refl _) _ _ rfl rfl rx Up.aUpd ?_) | fail)
        obtain ⟨wA, hwA⟩ : ∃ z, z = wr.alloc (.cells #[.string xn, .int .i64 xv, .int .u64 (xk : Int), .int .i64 xc, .int .u64 (xr : Int), .int .u64 (xs : Int)] 27) := ⟨_, rfl⟩
        obtain ⟨gA, hgA⟩ : ∃ z, z = wr.heap.size := ⟨_, rfl⟩
        have kA : Kept None wr wA := by rw [hwA]; exact (Kept.refl _ _).alloc _
        have bA : Blk wA gA #[.string xn, .int .i64 xv, .int .u64 (xk : Int), .int .i64 xc, .int .u64 (xr : Int), .int .u64 (xs : Int)] 27 := by rw [hwA, hgA]; exact Blk.new _ _ _
        rw [← hwA, ← hgA]
        have B6 := hid (B6.out.kept kA (fun h => h))
        have KX := hid (HS.out.trans kA)
        have cx0 : wA.cell? ⟨gA, 0, none⟩ = some (.string xn) := bA.cell 0
        have cx1 : wA.cell? ⟨gA, 1, none⟩ = some (.int .i64 xv) := bA.cell 1
        have cx2 : wA.cell? ⟨gA, 2, none⟩ = some (.int .u64 (xk : Int)) := bA.cell 2
        have u0 : wA.cell? ⟨g5, 0, none⟩ = some (.string n) := B6.out.cell 0
        have u1 : wA.cell? ⟨g5, 1, none⟩ = some (.int .i64 vv) := B6.out.cell 1
        have u2 : wA.cell? ⟨g5, 2, none⟩ = some (.int .u64 (k : Int)) := B6.out.cell 2
        clear hwA hgA kA bA rx
        cases E with
        | false =>
          have HF2 : Hid (waitP (p.take (i + 1)) n vv = none) := hid (by rw [HST.out]; rfl)
          go_wp2_with (first | go_skip | fail)
          go_roundg (p.length - (i + 1))
          case measure => have := HLT.out; omega
          case rel => exact ⟨i + 1, by rw [HW.out], HLT.out, Nat.le_refl _, HF2, KX⟩
        | true =>
          by_cases hxv : xv = vv
          · have e1 : (xv == vv) = true := by simpa using hxv
            have e2 : Decidable.decide (xv = vv) = true := by simpa using hxv
            have HWS := hid (HWK.out _ (HST.out.trans (by rw [e2]; rfl)))
            have HD := hid (show decP l p (⟨n, vv, k, c, r, s⟩ : Req) = keyP xk (⟨n, vv, k, c, r, s⟩ : Req) 1 from by rw [HD.out, HWS.out]; rfl)
            have KX := hid (K4.out.trans KX.out)
            clear HST HWK HWS
            by_cases hq : xk = k
            · have d1 : ((xk : Int) == (k : Int)) = true := by rw [hq]; simp
              have d2 : decide ((xk : Int) = (k : Int)) = true := by rw [hq]; simp
              have d3 : decide (xk = k) = true := by rw [hq]; simp
              have HR := hid (show decP l p (⟨n, vv, k, c, r, s⟩ : Req) = (1, 0) from by rw [HD.out]; unfold keyP; rw [if_pos hq])
              clear hq
              go_wp2_with (first | go_skip | fail)
              go_ret2
              rw [HR.out]
              exact ⟨rfl, KX.out⟩
            · have d1 : ((xk : Int) == (k : Int)) = false := by
                rw [beq_eq_false_iff_ne]
                intro h
                exact hq (Int.ofNat.inj h)
              have d2 : decide ((xk : Int) = (k : Int)) = false := decide_eq_false (fun h => hq (Int.ofNat.inj h))
              have d3 : decide (xk = k) = false := decide_eq_false hq
              have HR := hid (show decP l p (⟨n, vv, k, c, r, s⟩ : Req) = (0, 26) from by rw [HD.out]; unfold keyP; rw [if_neg hq])
              clear hq
              go_wp2_with (first | go_skip | fail)
              go_ret2
              rw [HR.out]
              exact ⟨rfl, KX.out⟩
          · have e1 : (xv == vv) = false := by simpa using hxv
            have e2 : Decidable.decide (xv = vv) = false := by simpa using hxv
            rw [e2] at HST
            clear hxv
            have HF2 : Hid (waitP (p.take (i + 1)) n vv = none) := hid (by rw [HST.out]; rfl)
            go_wp2_with (first | go_skip | fail)
            go_roundg (p.length - (i + 1))
            case measure => have := HLT.out; omega
            case rel => exact ⟨i + 1, by rw [HW.out], HLT.out, Nat.le_refl _, HF2, KX⟩
      · have hlt' : decide ((i : Int) < (p.length : Int)) = false := by simpa using hlt
        obtain rfl : i = p.length := by omega
        have hP := HP.out
        rw [List.take_length] at hP
        have HD := hid (show decP l p (⟨n, vv, k, c, r, s⟩ : Req) = freshP (nextP l p n) (⟨n, vv, k, c, r, s⟩ : Req) from by rw [HD.out, hP]; rfl)
        have hnx := next v _ lo hi lo' hi' l p n wr (HV.out.kept (K4.out.trans HS.out) (fun _ _ _ h => h)) (HVP.out.kept (K4.out.trans HS.out) (fun _ _ _ h => h)) (Nat.le_trans HN.out.1 (by decide)) (Nat.le_trans HN.out.2.1 (by decide))
        have hnx2 : Calls Try.prog 11 #[v, .slice ap p.length cp, .string n] wr fun en w' => en = .returned (.tuple #[.int .i64 (nextP l p n).1, .int .u64 ((nextP l p n).2 : Int)]) ∧ Kept None wr w' := hnx
        obtain ⟨⟨NV, NK⟩, hN⟩ : ∃ z, z = nextP l p n := ⟨_, rfl⟩
        rw [← hN] at hnx2 HD
        have HNX := hid hnx2
        have KW := hid (K4.out.trans HS.out)
        have HCK := hid (fun y W => RUp.check n vv c k r s y W (Nat.le_trans HN.out.2.2.1 (by decide)) HN.out.2.2.2)
        clear hlt hii hix hP hnx hnx2 hN HP HS
        go_wp2_with (first | go_skip | fail)
        refine HNX.out.mono ?_
        rintro e w6 ⟨rfl, k6⟩
        have B7 := hid (B6.out.kept k6 (fun h => h))
        have K6 := hid (KW.out.trans k6)
        clear k6 HNX u0 u1 u2 KW
        have u0 : w6.cell? ⟨g5, 0, none⟩ = some (.string n) := B7.out.cell 0
        have u1 : w6.cell? ⟨g5, 1, none⟩ = some (.int .i64 vv) := B7.out.cell 1
        have u2 : w6.cell? ⟨g5, 2, none⟩ = some (.int .u64 (k : Int)) := B7.out.cell 2
        by_cases hv1 : vv = NV
        · have e1 : (vv != NV) = false := by simpa using hv1
          have e2 : (!Decidable.decide (vv = NV)) = false := by simpa using hv1
          have HD := hid (show decP l p (⟨n, vv, k, c, r, s⟩ : Req) = if checkN (if NV = 1 then k else NK) (msgB n vv k) r s = true then (0, 0) else (0, 25) from by rw [HD.out]; unfold freshP; rw [if_pos hv1])
          have b7 := B7.out
          clear hv1
          by_cases h1 : NV = 1
          · have e3 : (NV == 1) = true := by simpa using h1
            have e4 : Decidable.decide (NV = 1) = true := by simpa using h1
            rw [if_pos h1] at HD
            have hck := HCK.out k w6
            obtain ⟨Y, hY⟩ : ∃ Y, Y = checkN k (msgB n vv k) r s := ⟨_, rfl⟩
            rw [← hY] at hck HD
            have HCC := hid hck
            clear h1 hck hY HCK
            go_wp2_with (first | (refine wpList_load_blk rfl _ _ rfl rfl b7 Up.aUpd ?_) | go_skip | fail)
            refine HCC.out.mono ?_
            rintro e w7 ⟨rfl, k7⟩
            have K7 := hid (K6.out.trans k7)
            clear k7 HCC b7 B7 u0 u1 u2
            cases Y with
            | true =>
              go_wp2_with (first | go_skip | fail)
              go_ret2
              rw [HD.out]
              exact ⟨rfl, K7.out⟩
            | false =>
              go_wp2_with (first | go_skip | fail)
              go_ret2
              rw [HD.out]
              exact ⟨rfl, K7.out⟩
          · have e3 : (NV == 1) = false := by simpa using h1
            have e4 : Decidable.decide (NV = 1) = false := by simpa using h1
            rw [if_neg h1] at HD
            have hck := HCK.out NK w6
            obtain ⟨Y, hY⟩ : ∃ Y, Y = checkN NK (msgB n vv k) r s := ⟨_, rfl⟩
            rw [← hY] at hck HD
            have HCC := hid hck
            clear h1 hck hY HCK
            go_wp2_with (first | (refine wpList_load_blk rfl _ _ rfl rfl b7 Up.aUpd ?_) | go_skip | fail)
            refine HCC.out.mono ?_
            rintro e w7 ⟨rfl, k7⟩
            have K7 := hid (K6.out.trans k7)
            clear k7 HCC b7 B7 u0 u1 u2
            cases Y with
            | true =>
              go_wp2_with (first | go_skip | fail)
              go_ret2
              rw [HD.out]
              exact ⟨rfl, K7.out⟩
            | false =>
              go_wp2_with (first | go_skip | fail)
              go_ret2
              rw [HD.out]
              exact ⟨rfl, K7.out⟩
        · have e1 : (vv != NV) = true := by simpa using hv1
          have e2 : (!Decidable.decide (vv = NV)) = true := by simpa using hv1
          have HR := hid (show decP l p (⟨n, vv, k, c, r, s⟩ : Req) = (0, 27) from by rw [HD.out]; unfold freshP; rw [if_neg hv1])
          clear hv1
          go_wp2_with (first | go_skip | fail)
          go_ret2
          rw [HR.out]
          exact ⟨rfl, K6.out⟩
end R16
end Go.Proofs.Ytdobmebhjmgkmaa
namespace Go.Proofs.Ytdobmebhjmgkmaa
open Go.RowKit Go.Pm
namespace P17
theorem rtPen17 : RowTyK Try.prog 30 52 (.agg #[.string ⟨#[]⟩, .int .i64 0, .int .u64 0, .int .i64 0, .int .u64 0, .int .u64 0, .int .i64 0, .int .i64 0, .bool false]) 9 80 := Hk.rtyK (by kernel_rfl) (by kernel_rfl) (by rfl) (by decide)
theorem ps_own {k : Nat} {w : World} {g : Nat} {t : TypeId} {x : List Value} (h : Blk w g x.toArray t) (hx : x.length = k) : Ps k w 0 w.heap.size (.slice (some ⟨g, 0, none⟩) 1 1) [x] := R16.ps_blk h hx
theorem meas17 {L i kx : Nat} (h : i < L) (h2 : L - i ≤ kx) : L - (i + 1) < kx := by omega
theorem nv17 {a b : Nat} (h : a ≤ 100) (g : b ≤ 100) : ((a + b : Nat) : Int) + 1 ≤ 1000 := by omega
theorem byte_at (l : List UInt8) (i : Nat) (h : i < l.length) : bAt l i = (l[i].toNat : Int) := by
  unfold bAt
  simp [List.getElem?_eq_getElem h]
set_option maxRecDepth 100000 in
set_option maxHeartbeats 16000000 in
theorem story (v vm : Value) (lo hi lo' hi' : Nat) (l m : List UInt8) (w : World) (hv : Bs w lo hi v l) (hvm : Bs w lo' hi' vm m) (hl : l.length ≤ 100) (hm : m.length ≤ 100) :
    Calls Try.prog 9 #[v, vm] w fun e w' => ∃ a b, e = .returned (.tuple #[a, b]) ∧ Kept None w w' ∧ Ps 4 w' 0 w'.heap.size a (knosC (storyK l l.length)) ∧ Ps 9 w' 0 w'.heap.size b (pensC (storyP (storyK l l.length) m m.length)) := by
  obtain ⟨al, cl, rfl, _⟩ := hv.shape
  obtain ⟨am, cm, rfl, _⟩ := hvm.shape
  have HV := hid hv.all
  have HVM := hid hvm.all
  have HL := hid (And.intro hl hm)
  clear hv hvm hl hm
  go_enter Try.func9, Try.ntmps9
  go_wp2_with fail
  go_loopg [6, 7] l.length (fun kx s6 s7 wr => ∃ (i : Nat) (ak : Option Addr) (nk ck : Nat), s7 = .int .i64 (i : Int) ∧ s6 = .slice ak nk ck ∧ i ≤ l.length ∧ l.length - i ≤ kx ∧ Hid (Kept None w wr) ∧ Hid (Ps 4 wr 0 wr.heap.size (.slice ak nk ck) (knosC (storyK l i))))
  case atStart => exact ⟨0, none, 0, 0, rfl, rfl, Nat.zero_le _, Nat.le_refl _, hid (Kept.refl _ _), hid (Ps.nil ..)⟩
  case round =>
  obtain ⟨i, ak, nk, ck, rfl, rfl, hii, hix, HS, HP⟩ := hrel
  by_cases hlt : i < l.length
  · have hlt' : decide ((i : Int) < (l.length : Int)) = true := by simpa using hlt
    have hlb : (i : Int) < (l.length : Int) := Int.ofNat_lt.mpr hlt
    have hst := storyK_step l i hlt
    have hsk := storyK_ok l i (Nat.le_of_lt hlt) (Nat.le_trans (Nat.le_of_lt hlt) (Nat.le_trans HL.out.1 (by decide)))
    obtain ⟨D, hD⟩ : ∃ D, D = storyK l i := ⟨_, rfl⟩
    rw [← hD] at hst hsk HP
    obtain ⟨bb, oo, qa, _, _, hbb, hc⟩ := (HV.out.kept HS.out (fun _ _ _ h => h)).ne (by omega)
    obtain rfl := qa
    have c0 := hc i hlt
    rw [byte_at l i hlt] at c0
    obtain ⟨X, hX⟩ : ∃ X, X = l[i] := ⟨_, rfl⟩
    rw [← hX] at c0 hst
    have hnm := Seat.name X.toNat
    have hns := (Seat.nameS_size X.toNat).2
    unfold entS at hst
    obtain ⟨n, hn⟩ : ∃ n, n = Seat.nameS X.toNat := ⟨_, rfl⟩
    rw [← hn] at hnm hns hst
    have hla := fun W h => R16.latest (.slice ak nk ck) 0 wr.heap.size D n W h (Nat.le_trans hsk.len (Nat.le_trans (Nat.le_of_lt hlt) (Nat.le_trans HL.out.1 (by decide))))
    obtain ⟨⟨⟨⟨qn, qv, qk⟩, qp⟩, qb⟩, hq⟩ : ∃ z, z = latF D n := ⟨_, rfl⟩
    rw [← hq] at hla hst
    obtain ⟨V, hVe⟩ : ∃ V, V = wrap64 (qv + 1) := ⟨_, rfl⟩
    simp only at hst
    rw [← hVe] at hst
    have hky := fun W => Seat.key n V false W (Nat.le_trans hns (by decide))
    obtain ⟨K, hK⟩ : ∃ K, K = Seat.keyN n V false := ⟨_, rfl⟩
    rw [← hK] at hky hst
    have HNM := hid hnm
    have HLA := hid hla
    have HKY := hid hky
    have HST := hid hst
    have HSK := hid hsk
    have hw1 : wrap64 ((i : Int) + 1) = ((i + 1 : Nat) : Int) := (nums17 (n := i + 1) (Nat.le_trans hlt (Nat.le_trans HL.out.1 (by decide)))).1
    have HW := hid hw1
    have hVr : wrap64 (qv + 1) = V := hVe.symm
    have HLT := hid hlt
    clear hc hst hsk hD hX hnm hns hn hla hq hVe hky hK hw1 hbb
    go_wp2_with fail
    refine (HNM.out wr).mono ?_
    rintro e w1 ⟨rfl, k1⟩
    have P1 := hid (HP.out.kept k1 (fun _ _ _ h => h))
    have K1 := hid (HS.out.trans k1)
    clear k1 HNM c0
    go_wp2_with fail
    refine (HLA.out w1 P1.out).mono ?_
    rintro e w2 ⟨rfl, k2⟩
    have P2 := hid (P1.out.kept k2 (fun _ _ _ h => h))
    have K2 := hid (K1.out.trans k2)
    clear k2 HLA P1 K1
    go_wp2_with fail
    refine (HKY.out _).mono ?_
    rintro e w3 ⟨rfl, k3⟩
    have k23 : Kept None w2 w3 := ((Kept.refl None w2).alloc _).trans k3
    have P3 := hid (P2.out.kept k23 (fun _ _ _ h => h))
    have K3 := hid (K2.out.trans k23)
    clear k3 k23 HKY P2 K2
    obtain ⟨w4, hw4⟩ : ∃ z, z = w3.alloc (.cells #[.string n, .int .i64 V, .int .u64 (K : Int)] 48) := ⟨_, rfl⟩
    have b4 : Blk w4 w3.heap.size #[.string n, .int .i64 V, .int .u64 (K : Int)] 48 := by rw [hw4]; exact Blk.new _ _ _
    have k4 : Kept None w3 w4 := by rw [hw4]; exact (Kept.refl _ _).alloc _
    have P4 := hid (P3.out.kept k4 (fun _ _ _ h => h))
    have K4 := hid (K3.out.trans k4)
    have E4 : Hid (Ps 3 w4 0 w4.heap.size (.slice (some ⟨w3.heap.size, 0, none⟩) 1 1) (entsC [⟨n, V, K⟩])) := hid (ps_own (x := entC ⟨n, V, K⟩) b4 rfl)
    have hadd := R16.add (.slice ak nk ck) (.slice (some ⟨w3.heap.size, 0, none⟩) 1 1) _ _ _ _ D ((i + 1 : Nat) : Int) [⟨n, V, K⟩] w4 P4.out E4.out (Nat.le_trans HSK.out.len (Nat.le_trans (Nat.le_of_lt HLT.out) (Nat.le_trans HL.out.1 (by decide)))) (show 1 ≤ 274877906944 by decide)
    rw [hw4] at hadd
    rw [← HST.out] at hadd
    have HAD := hid hadd
    have hw1 := HW.out
    clear hadd b4 k4
    go_wp2_with (first | (refine wpList_one_item rfl _ _ rfl Es.rtEnt16 (by decide) rfl rfl ?_) | fail)
    refine HAD.out.mono ?_
    rintro e w5 ⟨r5, rfl, k5, p5⟩
    have P5 := hid p5.ps
    obtain ⟨a5, c5, h5, _⟩ := P5.out.form
    subst h5
    rw [← hw4] at k5
    have K5 := hid (K4.out.trans k5)
    clear k5 p5 HAD hw4
    go_wp2_with fail
    go_roundg (l.length - (i + 1))
    case measure => exact meas17 HLT.out hix
    case rel => exact ⟨i + 1, _, _, _, by first | rfl | rw [HW.out] | go_num, rfl, HLT.out, Nat.le_refl _, K5, P5⟩
  · have hlt' : decide ((i : Int) < (l.length : Int)) = false := by simpa using hlt
    obtain rfl : i = l.length := by omega
    have HLN := hid (And.intro HL.out.1 HL.out.2)
    obtain ⟨D, hD⟩ : ∃ D, D = storyK l l.length := ⟨_, rfl⟩
    rw [← hD] at HP
    have hsk := storyK_ok l l.length (Nat.le_refl _) (Nat.le_trans HL.out.1 (by decide))
    rw [← hD] at hsk
    have HSK := hid hsk
    have HD := hid hD
    have HVM2 := hid (HVM.out.kept HS.out (fun _ _ _ h => h))
    obtain ⟨wo, hwo⟩ : ∃ z : World, z = wr := ⟨_, rfl⟩
    rw [← hwo] at HP HS HVM2 ⊢
    clear hlt hii hix hsk hD hwo HV
    go_wp2
    go_loopg [12, 13] m.length (fun kx s12 s13 wr => ∃ (j : Nat) (ap : Option Addr) (np cp : Nat), s13 = .int .i64 (j : Int) ∧ s12 = .slice ap np cp ∧ j ≤ m.length ∧ m.length - j ≤ kx ∧ Hid (Kept None wo wr) ∧ Hid (Po 9 52 wr wo.heap.size (.slice ap np cp) (pensC (storyP D m j))))
    case atStart => exact ⟨0, none, 0, 0, rfl, rfl, Nat.zero_le _, Nat.le_refl _, hid (Kept.refl _ _), hid (Po.nil ..)⟩
    case round =>
    obtain ⟨j, ap, np, cp, rfl, rfl, hjj, hjx, HT, HQ⟩ := hrel
    by_cases hlm : j < m.length
    · have hlm' : decide ((j : Int) < (m.length : Int)) = true := by simpa using hlm
      have hlb : (j : Int) < (m.length : Int) := Int.ofNat_lt.mpr hlm
      have hst := storyP_step D m j hlm
      have hok := storyP_ok HSK.out m j (Nat.le_of_lt hlm) (Nat.le_trans (Nat.add_le_add HL.out.1 (Nat.le_trans (Nat.le_of_lt hlm) HL.out.2)) (by decide))
      obtain ⟨p, hp⟩ : ∃ p, p = storyP D m j := ⟨_, rfl⟩
      rw [← hp] at hst hok HQ
      obtain ⟨bb, oo, qa, _, _, hbb, hc⟩ := (HVM2.out.kept HT.out (fun _ _ _ h => h)).ne (by omega)
      obtain rfl := qa
      have c0 := hc j hlm
      rw [byte_at m j hlm] at c0
      obtain ⟨X, hX⟩ : ∃ X, X = m[j] := ⟨_, rfl⟩
      rw [← hX] at c0 hst
      have hnm := Seat.name X.toNat
      have hns := (Seat.nameS_size X.toNat).2
      unfold penS at hst
      have hnb := next_bnd HSK.out hok.1 (Nat.le_add_right _ _) (Nat.le_trans (Nat.add_le_add HL.out.1 (Nat.le_trans (Nat.le_of_lt hlm) HL.out.2)) (by decide)) (Seat.nameS X.toNat)
      obtain ⟨n, hn⟩ : ∃ n, n = Seat.nameS X.toNat := ⟨_, rfl⟩
      rw [← hn] at hnm hns hst hnb
      have hnx : ∀ W, Ps 4 W 0 wo.heap.size (.slice ak nk ck) (knosC D) → Ps 9 W 0 W.heap.size (.slice ap np cp) (pensC p) → Calls Try.prog 11 #[.slice ak nk ck, .slice ap np cp, .string n] W fun en w' => en = .returned (.tuple #[.int .i64 (nextP D p n).1, .int .u64 ((nextP D p n).2 : Int)]) ∧ Kept None W w' := fun W h1 h2 => R16.next _ _ _ _ _ _ D p n W h1 h2 (Nat.le_trans HSK.out.len (Nat.le_trans HL.out.1 (by decide))) (Nat.le_trans (Nat.le_of_eq hok.2) (Nat.le_trans (Nat.le_of_lt hlm) (Nat.le_trans HL.out.2 (by decide))))
      obtain ⟨⟨NV, NK⟩, hN⟩ : ∃ z, z = nextP D p n := ⟨_, rfl⟩
      rw [← hN] at hnx hst hnb
      simp only at hnx hst hnb
      have hup : ∀ W, Calls Try.prog 12 #[.string n, .int .i64 NV, .int .u8 (X.toNat : Int), .int .u8 0] W fun e w' => e = .returned (Seat.req n NV X.toNat 0).V ∧ Kept None W w' := fun W => Seat.update n NV X.toNat 0 W hns hnb.1 (Int.le_trans hnb.2 (nv17 HL.out.1 (Nat.le_trans (Nat.le_of_lt hlm) HL.out.2)))
      obtain ⟨⟨rn, rv, rk, rc, rr, rs⟩, hR⟩ : ∃ r, r = Seat.req n NV X.toNat 0 := ⟨_, rfl⟩
      rw [← hR] at hup hst
      have HNM := hid hnm
      have HNX := hid hnx
      have HUP := hid hup
      unfold Req.V updV at HUP
      have HST := hid hst
      have HPL := hid (show p.length + 1 ≤ 1099511627776 from Nat.le_trans (Nat.succ_le_succ (Nat.le_trans (Nat.le_of_eq hok.2) (Nat.le_trans (Nat.le_of_lt hlm) HL.out.2))) (by decide))
      have hw1 : wrap64 ((j : Int) + 1) = ((j + 1 : Nat) : Int) := (nums17 (n := j + 1) (Nat.le_trans hlm (Nat.le_trans HL.out.2 (by decide)))).1
      have HW := hid hw1
      have hwj := (nums17 (n := j) (Nat.le_trans (Nat.le_of_lt hlm) (Nat.le_trans HL.out.2 (by decide)))).1
      have hwj2 := (nums17 (n := j) (Nat.le_trans (Nat.le_of_lt hlm) (Nat.le_trans HL.out.2 (by decide)))).2
      have HLT := hid hlm
      have HC0 := hid (fun W (hW : Kept None wr W) => (hW.cell (p := ⟨bb, oo + j, none⟩) hbb (fun h => h)).trans c0)
      clear hc hst hok hp hX hnm hns hn hnx hN hup hR hw1 hbb hnb
      go_wp2_with fail
      refine (HNM.out wr).mono ?_
      rintro e w1 ⟨rfl, k1⟩
      have KA := hid k1
      clear k1 HNM c0
      go_wp2_with fail
      refine (HNX.out w1 ((HP.out.kept (HT.out.trans KA.out) (fun _ _ _ h => h))) (((HQ.out.kept KA.out (fun _ _ h => h)).ps (Nat.le_refl _)).wider (Nat.zero_le _) (Nat.le_refl _))).mono ?_
      rintro e w2 ⟨rfl, k2⟩
      have KB := hid (KA.out.trans k2)
      have c0 := HC0.out w2 KB.out
      clear k2 HNX KA
      go_wp2_with fail
      refine (HUP.out w2).mono ?_
      rintro e w3 ⟨rfl, k3⟩
      have KC := hid (KB.out.trans k3)
      have K3 := hid (HT.out.trans KC.out)
      have HO3 := hid (HQ.out.kept KC.out (fun _ _ h => h))
      clear k3 HUP KB c0
      have HBN := hid (Blk.new w3 #[.string rn, .int .i64 rv, .int .u64 (rk : Int), .int .i64 rc, .int .u64 (rr : Int), .int .u64 (rs : Int), .int .i64 0, .int .i64 (j : Int), .bool false] 52)
      have HON := hid (HO3.out.alloc (.cells #[.string rn, .int .i64 rv, .int .u64 (rk : Int), .int .i64 rc, .int .u64 (rr : Int), .int .u64 (rs : Int), .int .i64 0, .int .i64 (j : Int), .bool false] 52))
      have KN := hid (K3.out.alloc (.cells #[.string rn, .int .i64 rv, .int .u64 (rk : Int), .int .i64 rc, .int .u64 (rr : Int), .int .u64 (rs : Int), .int .i64 0, .int .i64 (j : Int), .bool false] 52))
      have HPN : Ps 9 (w3.alloc (.cells #[.string rn, .int .i64 rv, .int .u64 (rk : Int), .int .i64 rc, .int .u64 (rr : Int), .int .u64 (rs : Int), .int .i64 0, .int .i64 (j : Int), .bool false] 52)) 0 (w3.alloc (.cells #[.string rn, .int .i64 rv, .int .u64 (rk : Int), .int .i64 rc, .int .u64 (rr : Int), .int .u64 (rs : Int), .int .i64 0, .int .i64 (j : Int), .bool false] 52)).heap.size (.slice (some ⟨w3.heap.size, 0, none⟩) 1 1) (pensC [⟨⟨rn, rv, rk, rc, rr, rs⟩, 0, (j : Int), false⟩]) := ps_own (x := penC ⟨⟨rn, rv, rk, rc, rr, rs⟩, 0, (j : Int), false⟩) HBN.out rfl
      have hon := HON.out
      have hlen : (pensC p).length + (pensC [(⟨⟨rn, rv, rk, rc, rr, rs⟩, 0, (j : Int), false⟩ : Pn)]).length ≤ 1099511627776 := by rw [pensC_len, pensC_len]; exact HPL.out
      have hbase : wo.heap.size ≤ (w3.alloc (.cells #[.string rn, .int .i64 rv, .int .u64 (rk : Int), .int .i64 rc, .int .u64 (rr : Int), .int .u64 (rs : Int), .int .i64 0, .int .i64 (j : Int), .bool false] 52)).heap.size := KN.out.size
      have hw1 := HW.out
      go_wp2_with (first | (refine wpList_one_item rfl _ _ rfl rtPen17 (by decide) rfl rfl ?_) | (at_builtin; refine wpList_append_po rfl _ _ 30 rfl rtPen17 (by decide) rfl rfl hon HPN (pensC_one _) hlen hbase ?_; intro a9 n9 c9 w9 hP9 hK9 _) | fail)
      rw [← pensC_app, ← HST.out] at hP9
      have K9 := hid (KN.out.then hK9 (fun q hq h => by have := (hon.own q h).1; omega))
      have HP9 := hid hP9
      clear hP9 hK9 HPN hon hlen hbase
      go_roundg (m.length - (j + 1))
      case measure => exact meas17 HLT.out hjx
      case rel => exact ⟨j + 1, a9, n9, c9, by first | rfl | rw [HW.out] | go_num, rfl, HLT.out, Nat.le_refl _, K9, HP9⟩
    · have hlm' : decide ((j : Int) < (m.length : Int)) = false := by simpa using hlm
      obtain rfl : j = m.length := by omega
      have PD := hid (HP.out.kept HT.out (fun _ _ _ h => h))
      have KZ := hid (HS.out.trans HT.out)
      have PQ := hid (HQ.out.ps (Nat.le_refl _))
      clear hlm hjj hjx
      go_wp2
      go_ret2
      rw [← HD.out]
      exact ⟨_, _, rfl, KZ.out, PD.out.wider (Nat.le_refl _) HT.out.size, PQ.out.wider (Nat.zero_le _) (Nat.le_refl _)⟩
end P17
end Go.Proofs.Ytdobmebhjmgkmaa
namespace Go.Proofs.Ytdobmebhjmgkmaa
open Go.RowKit Go.Pm
namespace P17
open Ad
/-- The story is told: a directory, those who wait, what is told of them. -/
structure Sd (w : World) (l m : List UInt8) (a b : Value) (D : List Kno) (p : List Pn) : Prop where
  sq : StQ D l.length (cnt l)
  wq : WtQ D p (cnt l) (cnt m)
  fits : ∀ x ∈ p, x.u.Fits
  dl : D.length ≤ 100
  pl : p.length ≤ 100
  da : ∃ x c, a = .slice x D.length c
  pb : ∃ x c, b = .slice x p.length c
  ra : ∀ W, Kept None w W → Ps 4 W 0 W.heap.size a (knosC D)
  rb : ∀ W, Kept None w W → Ps 9 W 0 W.heap.size b (pensC p)
  dn : D.length = l.length
  pn : p.length = m.length
theorem storyK_len (l : List UInt8) : ∀ i, i ≤ l.length → i ≤ 1000 → (storyK l i).length = i
  | 0, _, _ => rfl
  | i + 1, h, h1 => by
    have ih := storyK_len l i (by omega) (by omega)
    have s := storyK_ok l i (by omega) (by omega)
    rw [storyK_step l i (by omega), (add_one (p := ((i + 1 : Nat) : Int)) (by omega) (fun y hy => by have := (s.bnd y hy).2.2; omega) (entS_good s (by omega) l[i])).len, ih]
    rfl
theorem Sd.of {w : World} {l m : List UInt8} {a b : Value} (hl : l.length ≤ 100) (hm : m.length ≤ 100) (ha : Ps 4 w 0 w.heap.size a (knosC (storyK l l.length))) (hb : Ps 9 w 0 w.heap.size b (pensC (storyP (storyK l l.length) m m.length))) : ∃ D p, Sd w l m a b D p := by
  have s1 := storyK_q l l.length (Nat.le_refl _) (by omega)
  rw [List.take_length] at s1
  have s2 := storyP_q s1 m (fun nm => by have := cnt_le l nm; omega) (by omega) m.length (Nat.le_refl _)
  rw [List.take_length] at s2
  have s3 := storyP_ok s1.ok m m.length (Nat.le_refl _) (by omega)
  have s4 := s1.ok.len
  refine ⟨storyK l l.length, storyP (storyK l l.length) m m.length, s1, s2, fun x hx => (s3.1.fits x hx).1, by omega, by rw [s3.2]; exact hm, ?_, ?_, fun W hW => ?_, fun W hW => ?_, storyK_len l l.length (Nat.le_refl _) (by omega), s3.2⟩
  · obtain ⟨x, c, h, _⟩ := ha.form
    rw [knosC_len] at h
    exact ⟨x, c, h⟩
  · obtain ⟨x, c, h, _⟩ := hb.form
    rw [pensC_len] at h
    exact ⟨x, c, h⟩
  · exact (ha.kept hW (fun _ _ _ h => h)).wider (Nat.le_refl _) hW.size
  · exact (hb.kept hW (fun _ _ _ h => h)).wider (Nat.le_refl _) hW.size
section
variable {w : World} {l m : List UInt8} {a b : Value} {D : List Kno} {p : List Pn}
theorem Sd.next (h : Sd w l m a b D p) (hN : NextC) (nm : ByteArray) (W : World) (hW : Kept None w W) : Calls Try.prog 15 #[a, b, .string nm] W fun e w' => e = .returned (.tuple #[.int .i64 (nextP D p nm).1, .int .u64 ((nextP D p nm).2 : Int)]) ∧ Kept None W w' :=
  hN a b 0 W.heap.size 0 W.heap.size D p nm W (h.ra W hW) (h.rb W hW) h.sq.ok.rt h.sq.ok.ok (h.wq.pok h.fits) (Nat.le_trans h.dl (by decide)) (Nat.le_trans h.pl (by decide))
theorem Sd.decide (h : Sd w l m a b D p) (hD : DecideC) (u : Req) (hu : u.Fits) (hs : u.n.size ≤ 1000) (W : World) (hW : Kept None w W) : Calls Try.prog 13 #[a, b, u.V] W fun e w' => e = .returned (.tuple #[.int .i64 (decP D p u).1, .int .i64 (decP D p u).2]) ∧ Kept None W w' :=
  hD a b 0 W.heap.size 0 W.heap.size D p u W (h.ra W hW) (h.rb W hW) h.sq.ok.rt h.sq.ok.ok (h.wq.pok h.fits) hu hs (Nat.le_trans h.dl (by decide)) (Nat.le_trans h.pl (by decide))
theorem Sd.cb (_h : Sd w l m a b D p) (hl : l.length ≤ 100) (hm : m.length ≤ 100) (nm : ByteArray) : cnt l nm + cnt m nm ≤ 200 := by
  have := cnt_le l nm
  have := cnt_le m nm
  omega
end
end P17
end Go.Proofs.Ytdobmebhjmgkmaa
/- From a walk to a statement: arguments opened, and shut again behind a call that has only made new memory. -/
namespace Go.Pm
open Go Go.RowKit Go.ChangeShapes Go.WideShapes Go.ChangeAt

section
variable {H : Type} {enc : TypeId × Value → H} {P : Program}

/-- Types whose values can be read, each in the table. -/
def readable (P : Program) (ts : List TypeId) : Bool := ts.all fun t => P.readableRec t && decide (t < P.types.size)

theorem trodAll_stays (hl : laidOutB P = true) {W W' : World} (hb : Below W.heap.size W W') : ∀ {ts : List TypeId} {vs : List Value} {ds : List (DataW H)} {ps : List MemPlace}, readable P ts = true →
    DataW.TrodAll enc P W 0 (fun _ => true) true ts vs ds ps → (∀ x ∈ ps, x.block < W.heap.size) → DataW.TrodAll enc P W' 0 (fun b => decide (b < W.heap.size)) true ts vs ds ps
  | [], vs, ds, ps, _, h, _ => by
    obtain ⟨rfl, rfl, rfl⟩ := trodAll_nil h
    exact trodAll_mk0
  | t :: ts, vs, ds, ps, hr, h, hlt => by
    obtain ⟨v, vs', d, ds', p, q, rfl, rfl, rfl, h1, h2⟩ := trodAll_cons h
    simp only [readable, List.all_cons, Bool.and_eq_true, decide_eq_true_eq] at hr
    exact ⟨p, q, Below.trod hl hr.1.1 hr.1.2 h1 hb (fun x hx => hlt x (List.mem_append.2 (.inl hx))), trodAll_stays hl hb hr.2 h2 (fun x hx => hlt x (List.mem_append.2 (.inr hx))), rfl⟩

/-- A law's 'post': true; the arguments read as they did; only new memory. -/
theorem law_post {s : ChangeSpec} {f : Func} {W W' : World} {args : Array Value} {ds : List (DataW H)} {before : List MemPlace} {tb : TypeId} (hvars : s.vars = []) (hres : f.resultTypes = #[tb]) (hb : P.underlying tb = some .bool)
    (hl : laidOutB P = true) (hread : readable P f.params.toList = true) (hW : DataW.Whole enc P f.params.toList s.vars false W args.toList ds [] before)
    (hr1 : (s.fn H (ds ++ [])).results = [.lit (.bool true)]) (hr2 : (s.fn H (ds ++ [])).args = ds) (hr3 : (s.fn H (ds ++ [])).vars = []) (hbel : Below W.heap.size W W') :
    s.post enc P f false true false false W args (.bool true) W' := by
  have hlt : ∀ x ∈ before, x.block < W.heap.size := fun x hx => by simpa using hW.lt x hx
  have hW' := hW
  obtain ⟨p, q, hA, hV, rfl, _, _⟩ := hW
  rw [hvars] at hV
  obtain ⟨_, rfl⟩ := trodVars_none hV
  rw [List.append_nil] at hW' hlt
  refine ⟨ds, [], _, [], p, [], hW', ?_, ?_, ?_, hbel.frame _, fun h => by cases h⟩
  · rw [hr1, hres]
    exact trodAll_mk1 (shut_bool hb true)
  · rw [hr2]
    exact trodAll_stays hl hbel hread hA hlt
  · rw [hr3, hvars]
    rfl

/-- A []byte argument. -/
theorem openBs {W : World} {t e : TypeId} {v : Value} {d : DataW H} {p : List MemPlace} {base : Nat} (ht : P.underlying t = some (.slice e)) (he : P.underlying e = some (.int .u8)) (hc : P.cellsOf e = 1)
    (hok : Value.okWide P W .any base t v) (h : DataW.Trod enc P W 0 (fun _ => true) true t v d p) (hlt : ∀ x ∈ p, x.block < W.heap.size) : ∃ l, Bs W 0 W.heap.size v l := by
  obtain ⟨a0, len, cap, rfl⟩ := okWide_slice ht hok
  obtain ⟨fuel, hf⟩ := h
  rcases open_ints ht he hc hf with ⟨hcs, hx⟩ | ⟨a, len', cap', zs, hcs, _, hl, hm, hz, hx, hcell, hwz⟩
  · simp [Value.cells] at hcs
    obtain ⟨rfl, rfl, rfl⟩ := hcs
    exact ⟨[], Bs.nil _ _ _⟩
  · simp [Value.cells] at hcs
    obtain ⟨rfl, rfl, rfl⟩ := hcs
    simp only [Prod.mk.injEq] at hx
    obtain ⟨_, rfl⟩ := hx
    simp only [if_true] at hz
    refine ⟨(zs.take len).map byteOf, some a, cap, ?_, ?_, hm, (fun h => by cases h), ?_⟩
    · simp; omega
    · simp; omega
    · intro ad had i x hx
      obtain rfl := Option.some.inj had
      rw [List.map_map] at hx
      have hi : i < len ∧ x = .int .u8 (zs.getD i 0) := by
        rw [List.getElem?_map, List.getElem?_take] at hx
        split at hx
        · rename_i hi
          have hiz : i < zs.length := by omega
          rw [List.getElem?_eq_getElem hiz] at hx
          simp only [Option.map_some, Option.some.injEq, Function.comp] at hx
          have hw := hwz zs[i] (List.getElem_mem hiz)
          simp [Lit.wf, IntKind.min, IntKind.max, IntKind.signed, IntKind.bits] at hw
          refine ⟨hi, ?_⟩
          rw [← hx, u8v_byteOf' (by omega) (by omega)]
          simp [List.getD, List.getElem?_eq_getElem hiz]
        · simp at hx
      have hb := hlt (.cell (a.add i).block (a.add i).off) (MemPlace.mem_row.2 ⟨i, by omega, by simp [Addr.add]; split <;> simp_all⟩)
      refine ⟨Nat.zero_le _, ?_, ?_⟩
      · rw [← add_block a i]; exact hb
      · rw [hi.2]
        exact hcell i (by omega)

/-- A byte argument. -/
theorem openU8 {W : World} {t : TypeId} {v : Value} {d : DataW H} {p : List MemPlace} {base : Nat} (ht : P.underlying t = some (.int .u8))
    (hok : Value.okWide P W .any base t v) (h : DataW.Trod enc P W 0 (fun _ => true) true t v d p) : ∃ n, v = .int .u8 n ∧ 0 ≤ n ∧ n < 256 := by
  obtain ⟨n, rfl, _, _, w0⟩ := open_int ht hok h
  simp [Lit.wf, IntKind.min, IntKind.max, IntKind.signed, IntKind.bits] at w0
  exact ⟨n, rfl, by omega, by omega⟩
/-- A uint64 argument. -/
theorem openU64 {W : World} {t : TypeId} {v : Value} {d : DataW H} {p : List MemPlace} {base : Nat} (ht : P.underlying t = some (.int .u64))
    (hok : Value.okWide P W .any base t v) (h : DataW.Trod enc P W 0 (fun _ => true) true t v d p) : ∃ n, v = .int .u64 n ∧ 0 ≤ n ∧ n < 18446744073709551616 := by
  obtain ⟨n, rfl, _, _, w0⟩ := open_int ht hok h
  simp [Lit.wf, IntKind.min, IntKind.max, IntKind.signed, IntKind.bits] at w0
  exact ⟨n, rfl, by omega, by omega⟩

/-- A list out of what is so at each index. -/
theorem list_of {α : Type} {Q : Nat → α → Prop} : ∀ (n : Nat), (∀ i, i < n → ∃ x, Q i x) → ∃ xs : List α, xs.length = n ∧ ∀ i x, xs[i]? = some x → Q i x
  | 0, _ => ⟨[], rfl, fun i x h => by simp at h⟩
  | n + 1, h => by
    obtain ⟨xs, hl, hx⟩ := list_of n (fun i hi => h i (by omega))
    obtain ⟨x, hq⟩ := h n (by omega)
    refine ⟨xs ++ [x], by simp [hl], fun i y hy => ?_⟩
    by_cases hi : i < xs.length
    · rw [List.getElem?_append_left hi] at hy; exact hx i y hy
    · have hlt := (List.getElem?_eq_some_iff.1 hy).1
      simp at hlt
      have : i = xs.length := by omega
      subst this
      rw [List.getElem?_append_right (Nat.le_refl _)] at hy
      simp at hy
      subst hy
      rw [hl]
      exact hq

/-- Bytes, out of a reading. -/
theorem bs_of_trod {W : World} {t e : TypeId} {v : Value} {fuel : Nat} {x : DataW H × List MemPlace} (ht : P.underlying t = some (.slice e)) (he : P.underlying e = some (.int .u8)) (hc : P.cellsOf e = 1)
    (hf : DataW.trod enc P W 0 (fun _ => true) true fuel t [v] = some x) (hlt : ∀ y ∈ x.2, y.block < W.heap.size) : ∃ l, Bs W 0 W.heap.size v l := by
  rcases open_ints ht he hc hf with ⟨hcs, hx⟩ | ⟨a, len', cap', zs, hcs, _, hl, hm, hz, hx, hcell, hwz⟩
  · simp only [List.cons.injEq, and_true] at hcs
    subst hcs
    exact ⟨[], Bs.nil _ _ _⟩
  · simp only [List.cons.injEq, and_true] at hcs
    subst hcs
    subst hx
    simp only [if_true] at hz
    refine ⟨(zs.take len').map byteOf, some a, cap', ?_, ?_, hm, (fun h => by cases h), ?_⟩
    · simp; omega
    · simp; omega
    · intro ad had i x hx
      obtain rfl := Option.some.inj had
      rw [List.map_map] at hx
      have hi : i < len' ∧ x = .int .u8 (zs.getD i 0) := by
        rw [List.getElem?_map, List.getElem?_take] at hx
        split at hx
        · rename_i hi
          have hiz : i < zs.length := by omega
          rw [List.getElem?_eq_getElem hiz] at hx
          simp only [Option.map_some, Option.some.injEq, Function.comp] at hx
          have hw := hwz zs[i] (List.getElem_mem hiz)
          simp [Lit.wf, IntKind.min, IntKind.max, IntKind.signed, IntKind.bits] at hw
          refine ⟨hi, ?_⟩
          rw [← hx, u8v_byteOf' (by omega) (by omega)]
          simp [List.getD, List.getElem?_eq_getElem hiz]
        · simp at hx
      have hb := hlt (.cell (a.add i).block (a.add i).off) (MemPlace.mem_row.2 ⟨i, by omega, by simp [Addr.add]; split <;> simp_all⟩)
      refine ⟨Nat.zero_le _, ?_, ?_⟩
      · rw [← add_block a i]; exact hb
      · rw [hi.2]
        exact hcell i (by omega)

/-- A [][]byte argument. -/
theorem openBss {W : World} {t t' e : TypeId} {v : Value} {d : DataW H} {p : List MemPlace} {base : Nat} (ht : P.underlying t = some (.slice t')) (ht' : P.underlying t' = some (.slice e)) (he : P.underlying e = some (.int .u8)) (hc : P.cellsOf e = 1) (hc' : P.cellsOf t' = 1)
    (hok : Value.okWide P W .any base t v) (h : DataW.Trod enc P W 0 (fun _ => true) true t v d p) (hlt : ∀ x ∈ p, x.block < W.heap.size) : ∃ ls, Bss W 0 W.heap.size 0 W.heap.size v ls := by
  obtain ⟨a0, len, cap, rfl⟩ := okWide_slice ht hok
  obtain ⟨fuel, hf⟩ := h
  rcases Deep.open_slice1 ht hc' hf with ⟨hcs, hx⟩ | ⟨a, len', cap', m, n, V, D, Pl, hcs, _, hl, hm, hmm, hx, hcell⟩
  · simp [Value.cells] at hcs
    obtain ⟨rfl, rfl, rfl⟩ := hcs
    exact ⟨[], [], Vs.nil _ _ _, rfl, fun i x l h => by simp at h⟩
  · simp [Value.cells] at hcs
    obtain ⟨rfl, rfl, rfl⟩ := hcs
    simp only [Prod.mk.injEq] at hx
    obtain ⟨_, rfl⟩ := hx
    simp only [if_true] at hmm
    subst hmm
    obtain ⟨ls, hll, hls⟩ := list_of (Q := fun i l => Bs W 0 W.heap.size (V i) l) len (fun i hi => bs_of_trod ht' he hc (hcell i (by omega)).2 (fun y hy => hlt y (by
      refine List.mem_append.2 (.inr (List.mem_flatMap.2 ⟨i, by simp; omega, hy⟩)))))
    refine ⟨ls, (List.range len).map V, ⟨some a, m, by simp, by simpa using hl, hm, (fun h => by cases h), ?_⟩, by simp [hll], ?_⟩
    · intro ad had i x hx
      obtain rfl := Option.some.inj had
      have hi : i < len ∧ x = V i := by
        rw [List.getElem?_map] at hx
        by_cases hi : i < len
        · rw [List.getElem?_range hi] at hx; simp at hx; exact ⟨hi, hx.symm⟩
        · rw [List.getElem?_eq_none (by simp; omega)] at hx; cases hx
      have hb := hlt (.cell (a.add i).block (a.add i).off) (List.mem_append.2 (.inl (MemPlace.mem_row.2 ⟨i, by omega, by simp [Addr.add]; split <;> simp_all⟩)))
      refine ⟨Nat.zero_le _, ?_, ?_⟩
      · rw [← add_block a i]; exact hb
      · rw [hi.2]; exact (hcell i (by omega)).1
    · intro i x l hx hl'
      have hi : i < len ∧ x = V i := by
        rw [List.getElem?_map] at hx
        by_cases hi : i < len
        · rw [List.getElem?_range hi] at hx; simp at hx; exact ⟨hi, hx.symm⟩
        · rw [List.getElem?_eq_none (by simp; omega)] at hx; cases hx
      rw [hi.2]
      exact hls i l hl'

/-- A []uint64 argument. -/
theorem openNs {W : World} {t e : TypeId} {v : Value} {d : DataW H} {p : List MemPlace} {base : Nat} (ht : P.underlying t = some (.slice e)) (he : P.underlying e = some (.int .u64)) (hc : P.cellsOf e = 1)
    (hok : Value.okWide P W .any base t v) (h : DataW.Trod enc P W 0 (fun _ => true) true t v d p) (hlt : ∀ x ∈ p, x.block < W.heap.size) : ∃ ns, Ns W 0 W.heap.size v ns := by
  obtain ⟨a0, len, cap, rfl⟩ := okWide_slice ht hok
  obtain ⟨fuel, hf⟩ := h
  rcases open_ints ht he hc hf with ⟨hcs, hx⟩ | ⟨a, len', cap', zs, hcs, _, hl, hm, hz, hx, hcell, hwz⟩
  · simp [Value.cells] at hcs
    obtain ⟨rfl, rfl, rfl⟩ := hcs
    exact ⟨[], Vs.nil _ _ _, fun n hn => by simp at hn⟩
  · simp [Value.cells] at hcs
    obtain ⟨rfl, rfl, rfl⟩ := hcs
    simp only [Prod.mk.injEq] at hx
    obtain ⟨_, rfl⟩ := hx
    simp only [if_true] at hz
    refine ⟨zs.take len, ⟨some a, cap, ?_, ?_, hm, (fun h => by cases h), ?_⟩, ?_⟩
    · simp; omega
    · simp; omega
    · intro ad had i x hx
      obtain rfl := Option.some.inj had
      have hi : i < len ∧ x = .int .u64 (zs.getD i 0) := by
        rw [List.getElem?_map, List.getElem?_take] at hx
        split at hx
        · rename_i hi
          have hiz : i < zs.length := by omega
          rw [List.getElem?_eq_getElem hiz] at hx
          simp only [Option.map_some, Option.some.injEq] at hx
          refine ⟨hi, ?_⟩
          rw [← hx]
          simp [u64v, List.getD, List.getElem?_eq_getElem hiz]
        · simp at hx
      have hb := hlt (.cell (a.add i).block (a.add i).off) (MemPlace.mem_row.2 ⟨i, by omega, by simp [Addr.add]; split <;> simp_all⟩)
      refine ⟨Nat.zero_le _, ?_, ?_⟩
      · rw [← add_block a i]; exact hb
      · rw [hi.2]
        exact hcell i (by omega)
    · intro n hn
      have hw := hwz n (List.mem_of_mem_take hn)
      simp [Lit.wf, IntKind.min, IntKind.max, IntKind.signed, IntKind.bits] at hw
      exact ⟨by omega, by omega⟩
end
end Go.Pm

/- Arguments that are arrays of integers, opened. Program-independent. -/
namespace Go.Pm
open Go Go.RowKit Go.ChangeShapes Go.WideShapes Go.ChangeAt

theorem mapM_each {α β : Type} {f : α → Option β} : ∀ {l : List α} {ys : List β}, l.mapM f = some ys → ∀ i ∈ l, ∃ y, f i = some y
  | [], ys, _, i, hi => by simp at hi
  | a :: l, ys, h, i, hi => by
    rw [List.mapM_cons] at h
    simp only [bind, Option.bind_eq_some_iff, pure, Option.some.injEq] at h
    obtain ⟨y, hy, ys', hys, rfl⟩ := h
    rcases List.mem_cons.1 hi with rfl | hi
    · exact ⟨y, hy⟩
    · exact mapM_each hys i hi

section
variable {H : Type} {enc : TypeId × Value → H} {P : Program}
/-- An argument that is an array of integers. -/
theorem openInts {W : World} {t e : TypeId} {kd : IntKind} {n : Nat} {v : Value} {d : DataW H} {p : List MemPlace} {base : Nat} (ht : P.underlying t = some (.array n e)) (he : P.underlying e = some (.int kd)) (hc : P.cellsOf e = 1) (hC : P.cellsOf t = n)
    (hok : Value.okWide P W .any base t v) (h : DataW.Trod enc P W 0 (fun _ => true) true t v d p) : ∃ ns : List Int, v = .agg (ns.map (Value.int kd)).toArray ∧ ns.length = n ∧ ∀ z ∈ ns, Lit.wf (.int kd z) = true := by
  simp only [Value.okWide, ht] at hok
  obtain ⟨cs, rfl, h2, _⟩ := hok
  rw [hC] at h2
  obtain ⟨fuel, hf⟩ := h
  cases fuel with
  | zero => simp [DataW.trod] at hf
  | succ m =>
    unfold DataW.trod at hf
    simp only [ht, Value.cells] at hf
    split at hf
    · simp only [Option.map_eq_some_iff] at hf
      obtain ⟨ys, hy, _⟩ := hf
      have each := mapM_each hy
      have get : ∀ i, i < n → ∃ z, cs.toList[i]? = some (.int kd z) ∧ Lit.wf (.int kd z) = true := fun i hi => by
        obtain ⟨y, hy⟩ := each i (List.mem_range.2 hi)
        rw [hc, Nat.mul_one] at hy
        have hlt : i < cs.toList.length := by simpa [h2] using hi
        rw [List.drop_eq_getElem_cons hlt, List.take_succ_cons, List.take_zero] at hy
        obtain ⟨z, ez, _, wz⟩ := DataW.trod_int he hy
        exact ⟨z, by rw [List.getElem?_eq_getElem hlt]; exact congrArg some (List.cons.inj ez).1, wz⟩
      obtain ⟨ns, hl, hns⟩ := list_of (Q := fun i z => cs.toList[i]? = some (.int kd z) ∧ Lit.wf (.int kd z) = true) n get
      refine ⟨ns, ?_, hl, fun z hz => ?_⟩
      · congr 1
        apply Array.ext'
        apply List.ext_getElem?
        intro i
        simp only [List.getElem?_map]
        by_cases hi : i < ns.length
        · rw [List.getElem?_eq_getElem hi, Option.map_some]
          exact (hns i _ (List.getElem?_eq_getElem hi)).1
        · rw [List.getElem?_eq_none (by simp [h2]; omega), List.getElem?_eq_none (by omega)]
          rfl
      · obtain ⟨i, hi, rfl⟩ := List.getElem_of_mem hz
        exact (hns i _ (List.getElem?_eq_getElem hi)).2
    · cases hf
/-- A state. -/
theorem openState {w : World} {t e : TypeId} {v : Value} {d : DataW H} {p : List MemPlace} {base : Nat} (ht : P.underlying t = some (.array 5 e)) (he : P.underlying e = some (.int .u64)) (hc : P.cellsOf e = 1) (hC : P.cellsOf t = 5)
    (hok : Value.okWide P w .any base t v) (h : DataW.Trod enc P w 0 (fun _ => true) true t v d p) : ∃ s : S5, v = .agg #[.int .u64 (U s.a), .int .u64 (U s.b), .int .u64 (U s.c), .int .u64 (U s.d), .int .u64 (U s.e)] := by
  obtain ⟨ns, rfl, hl, hw⟩ := openInts ht he hc hC hok h
  have word : ∀ z, Lit.wf (.int .u64 z) = true → U (W z) = z := fun z hz => by
    simp [Lit.wf, IntKind.min, IntKind.max, IntKind.signed, IntKind.bits] at hz
    exact U_W z (by omega) (by omega)
  match ns, hl, hw with
  | [a, b, c, d, e], _, hw =>
    refine ⟨⟨W a, W b, W c, W d, W e⟩, ?_⟩
    rw [word a (hw a (by simp)), word b (hw b (by simp)), word c (hw c (by simp)), word d (hw d (by simp)), word e (hw e (by simp))]
    rfl
end
end Go.Pm

/- Arguments that are numbers, opened as natural numbers; laws of five and six arguments. Program-independent. -/
namespace Go.Pm
open Go Go.RowKit Go.ChangeShapes Go.WideShapes Go.ChangeAt

section
variable {H : Type} {enc : TypeId × Value → H} {P : Program}
theorem openNat_u64 {W : World} {t : TypeId} {v : Value} {d : DataW H} {p : List MemPlace} {base : Nat} (ht : P.underlying t = some (.int .u64)) (hok : Value.okWide P W .any base t v) (h : DataW.Trod enc P W 0 (fun _ => true) true t v d p) :
    ∃ n : Nat, v = .int .u64 (n : Int) ∧ n < 18446744073709551616 := by
  obtain ⟨n, rfl, n0, n1⟩ := openU64 ht hok h
  exact ⟨n.toNat, by rw [Int.toNat_of_nonneg n0], by omega⟩
theorem openNat_u8 {W : World} {t : TypeId} {v : Value} {d : DataW H} {p : List MemPlace} {base : Nat} (ht : P.underlying t = some (.int .u8)) (hok : Value.okWide P W .any base t v) (h : DataW.Trod enc P W 0 (fun _ => true) true t v d p) :
    ∃ n : Nat, v = .int .u8 (n : Int) ∧ n < 256 := by
  obtain ⟨n, rfl, n0, n1⟩ := openU8 ht hok h
  exact ⟨n.toNat, by rw [Int.toNat_of_nonneg n0], by omega⟩
theorem openNat_u32 {W : World} {t : TypeId} {v : Value} {d : DataW H} {p : List MemPlace} {base : Nat} (ht : P.underlying t = some (.int .u32)) (hok : Value.okWide P W .any base t v) (h : DataW.Trod enc P W 0 (fun _ => true) true t v d p) :
    ∃ n : Nat, v = .int .u32 (n : Int) ∧ n < 4294967296 := by
  obtain ⟨n, rfl, _, _, w0⟩ := open_int ht hok h
  simp [Lit.wf, IntKind.min, IntKind.max, IntKind.signed, IntKind.bits] at w0
  exact ⟨n.toNat, by rw [Int.toNat_of_nonneg (by omega)], by omega⟩
theorem trodAll_five {w : World} {base : Nat} {spare : Nat → Bool} {held : Bool} {t0 t1 t2 t3 t4 : TypeId} {args : Array Value} {ds : List (DataW H)} {ps : List MemPlace} (h : DataW.TrodAll enc P w base spare held [t0, t1, t2, t3, t4] args.toList ds ps) :
    ∃ v0 v1 v2 v3 v4 d0 d1 d2 d3 d4 p0 p1 p2 p3 p4, args = #[v0, v1, v2, v3, v4] ∧ ds = [d0, d1, d2, d3, d4] ∧ ps = p0 ++ (p1 ++ (p2 ++ (p3 ++ p4))) ∧ DataW.Trod enc P w base spare held t0 v0 d0 p0 ∧ DataW.Trod enc P w base spare held t1 v1 d1 p1 ∧
      DataW.Trod enc P w base spare held t2 v2 d2 p2 ∧ DataW.Trod enc P w base spare held t3 v3 d3 p3 ∧ DataW.Trod enc P w base spare held t4 v4 d4 p4 := by
  obtain ⟨v0, l0, d0, e0, p0, q0, ha, rfl, rfl, h0, h⟩ := trodAll_cons h
  obtain ⟨v1, v2, v3, v4, d1, d2, d3, d4, p1, p2, p3, p4, hb, rfl, rfl, h1, h2, h3, h4⟩ := trodAll_four (args := l0.toArray) (by simpa using h)
  refine ⟨v0, v1, v2, v3, v4, d0, d1, d2, d3, d4, p0, p1, p2, p3, p4, ?_, rfl, by simp, h0, h1, h2, h3, h4⟩
  apply Array.ext'
  rw [ha]
  have := congrArg Array.toList hb
  simpa using this
theorem trodAll_six {w : World} {base : Nat} {spare : Nat → Bool} {held : Bool} {t0 t1 t2 t3 t4 t5 : TypeId} {args : Array Value} {ds : List (DataW H)} {ps : List MemPlace} (h : DataW.TrodAll enc P w base spare held [t0, t1, t2, t3, t4, t5] args.toList ds ps) :
    ∃ v0 v1 v2 v3 v4 v5 d0 d1 d2 d3 d4 d5 p0 p1 p2 p3 p4 p5, args = #[v0, v1, v2, v3, v4, v5] ∧ ds = [d0, d1, d2, d3, d4, d5] ∧ ps = p0 ++ (p1 ++ (p2 ++ (p3 ++ (p4 ++ p5)))) ∧ DataW.Trod enc P w base spare held t0 v0 d0 p0 ∧ DataW.Trod enc P w base spare held t1 v1 d1 p1 ∧
      DataW.Trod enc P w base spare held t2 v2 d2 p2 ∧ DataW.Trod enc P w base spare held t3 v3 d3 p3 ∧ DataW.Trod enc P w base spare held t4 v4 d4 p4 ∧ DataW.Trod enc P w base spare held t5 v5 d5 p5 := by
  obtain ⟨v0, l0, d0, e0, p0, q0, ha, rfl, rfl, h0, h⟩ := trodAll_cons h
  obtain ⟨v1, v2, v3, v4, v5, d1, d2, d3, d4, d5, p1, p2, p3, p4, p5, hb, rfl, rfl, h1, h2, h3, h4, h5⟩ := trodAll_five (args := l0.toArray) (by simpa using h)
  refine ⟨v0, v1, v2, v3, v4, v5, d0, d1, d2, d3, d4, d5, p0, p1, p2, p3, p4, p5, ?_, rfl, rfl, h0, h1, h2, h3, h4, h5⟩
  apply Array.ext'
  rw [ha]
  have := congrArg Array.toList hb
  simpa using this
end
end Go.Pm

/- Arguments that are structs of two numbers, opened. Program-independent. -/
namespace Go.Pm
open Go Go.RowKit Go.ChangeShapes Go.WideShapes Go.ChangeAt

theorem openPair {H : Type} {enc : TypeId × Value → H} {P : Program} {W : World} {t : TypeId} {f0 f1 : Field} {v : Value} {d : DataW H} {p : List MemPlace} {base : Nat} (ht : P.underlying t = some (.struct #[f0, f1])) (hC : P.cellsOf t = 2)
    (h0 : f0.offset = 0) (h1 : f1.offset = 1) (hu0 : P.underlying f0.type = some (.int .u64)) (hu1 : P.underlying f1.type = some (.int .u64)) (hc0 : P.cellsOf f0.type = 1) (hc1 : P.cellsOf f1.type = 1)
    (hok : Value.okWide P W .any base t v) (h : DataW.Trod enc P W 0 (fun _ => true) true t v d p) : ∃ a b : Nat, v = .agg #[.int .u64 (a : Int), .int .u64 (b : Int)] ∧ a < 18446744073709551616 ∧ b < 18446744073709551616 := by
  simp only [Value.okWide, ht] at hok
  obtain ⟨cs, rfl, h2, _⟩ := hok
  rw [hC] at h2
  obtain ⟨fuel, hf⟩ := h
  obtain ⟨y0, y1, n', _, _, g0, g1⟩ := trod_struct2 ht hf
  rw [h0, hc0] at g0
  rw [h1, hc1] at g1
  obtain ⟨k0, e0, _, w0⟩ := DataW.trod_int hu0 g0
  obtain ⟨k1, e1, _, w1⟩ := DataW.trod_int hu1 g1
  simp [Lit.wf, IntKind.min, IntKind.max, IntKind.signed, IntKind.bits] at w0 w1
  obtain ⟨l⟩ := cs
  match l, h2 with
  | [c0, c1], _ =>
    simp [Value.cells] at e0 e1
    subst e0 e1
    exact ⟨k0.toNat, k1.toNat, by rw [Int.toNat_of_nonneg (by omega), Int.toNat_of_nonneg (by omega)], by omega, by omega⟩
end Go.Pm

/- Arguments that are strings, uint16s, requests, opened; laws of up to ten arguments. Program-independent. -/
namespace Go.Pm
open Go Go.RowKit Go.ChangeShapes Go.WideShapes Go.ChangeAt

section
variable {H : Type} {enc : TypeId × Value → H} {P : Program}
theorem openStr {W : World} {t : TypeId} {v : Value} {d : DataW H} {p : List MemPlace} {base : Nat} (ht : P.underlying t = some .string) (hok : Value.okWide P W .any base t v) (h : DataW.Trod enc P W 0 (fun _ => true) true t v d p) :
    ∃ s : ByteArray, v = .string s ∧ s.size ≤ 9223372036854775807 := by
  obtain ⟨s, rfl⟩ := okWide_string ht hok
  obtain ⟨fuel, hf⟩ := h
  obtain ⟨s', h, hx, hs⟩ := DataW.trod_string ht hf
  simp [Value.cells] at h
  subst h
  unfold maxLen at hs
  exact ⟨s, rfl, by omega⟩
theorem openNat_u16 {W : World} {t : TypeId} {v : Value} {d : DataW H} {p : List MemPlace} {base : Nat} (ht : P.underlying t = some (.int .u16)) (hok : Value.okWide P W .any base t v) (h : DataW.Trod enc P W 0 (fun _ => true) true t v d p) :
    ∃ n : Nat, v = .int .u16 (n : Int) ∧ n < 65536 := by
  obtain ⟨n, rfl, _, _, w0⟩ := open_int ht hok h
  simp [Lit.wf, IntKind.min, IntKind.max, IntKind.signed, IntKind.bits] at w0
  exact ⟨n.toNat, by rw [Int.toNat_of_nonneg (by omega)], by omega⟩

/-- A request (a struct of a string, an int, a number, an int, a struct of two numbers). -/
theorem openUpd {W : World} {t : TypeId} {f0 f1 f2 f3 f4 g0 g1 : Field} {v : Value} {d : DataW H} {p : List MemPlace} {base : Nat} (ht : P.underlying t = some (.struct #[f0, f1, f2, f3, f4])) (hC : P.cellsOf t = 6)
    (o0 : f0.offset = 0) (o1 : f1.offset = 1) (o2 : f2.offset = 2) (o3 : f3.offset = 3) (o4 : f4.offset = 4) (hu0 : P.underlying f0.type = some .string) (hu1 : P.underlying f1.type = some (.int .i64)) (hu2 : P.underlying f2.type = some (.int .u64)) (hu3 : P.underlying f3.type = some (.int .i64))
    (hu4 : P.underlying f4.type = some (.struct #[g0, g1])) (q0 : g0.offset = 0) (q1 : g1.offset = 1) (hg0 : P.underlying g0.type = some (.int .u64)) (hg1 : P.underlying g1.type = some (.int .u64))
    (hc0 : P.cellsOf f0.type = 1) (hc1 : P.cellsOf f1.type = 1) (hc2 : P.cellsOf f2.type = 1) (hc3 : P.cellsOf f3.type = 1) (hc4 : P.cellsOf f4.type = 2) (hd0 : P.cellsOf g0.type = 1) (hd1 : P.cellsOf g1.type = 1)
    (hok : Value.okWide P W .any base t v) (h : DataW.Trod enc P W 0 (fun _ => true) true t v d p) :
    ∃ (n : ByteArray) (a c : Int) (k r s : Nat), v = .agg #[.string n, .int .i64 a, .int .u64 (k : Int), .int .i64 c, .int .u64 (r : Int), .int .u64 (s : Int)] ∧ k < 18446744073709551616 ∧ r < 18446744073709551616 ∧ s < 18446744073709551616 := by
  simp only [Value.okWide, ht] at hok
  obtain ⟨cs, rfl, h2, _⟩ := hok
  rw [hC] at h2
  obtain ⟨fuel, hf⟩ := h
  obtain ⟨xs, n', _, _, _, hlen, hx⟩ := DataW.trod_struct ht hf
  obtain ⟨l⟩ := cs
  match l, h2 with
  | [c0, c1, c2, c3, c4, c5], _ =>
    match xs, hlen with
    | [y0, y1, y2, y3, y4], _ =>
      have e0 := hx 0 f0 rfl
      have e1 := hx 1 f1 rfl
      have e2 := hx 2 f2 rfl
      have e3 := hx 3 f3 rfl
      have e4 := hx 4 f4 rfl
      rw [o0, hc0] at e0
      rw [o1, hc1] at e1
      rw [o2, hc2] at e2
      rw [o3, hc3] at e3
      rw [o4, hc4] at e4
      obtain ⟨s0, r0, _, _⟩ := DataW.trod_string hu0 e0
      obtain ⟨k1, r1, _, _⟩ := DataW.trod_int hu1 e1
      obtain ⟨k2, r2, _, w2⟩ := DataW.trod_int hu2 e2
      obtain ⟨k3, r3, _, _⟩ := DataW.trod_int hu3 e3
      obtain ⟨z0, z1, n4, _, _, m0, m1⟩ := trod_struct2 hu4 e4
      rw [q0, hd0] at m0
      rw [q1, hd1] at m1
      obtain ⟨k4, r4, _, w4⟩ := DataW.trod_int hg0 m0
      obtain ⟨k5, r5, _, w5⟩ := DataW.trod_int hg1 m1
      simp [Value.cells] at r0 r1 r2 r3 r4 r5
      simp [Lit.wf, IntKind.min, IntKind.max, IntKind.signed, IntKind.bits] at w2 w4 w5
      subst r0 r1 r2 r3 r4 r5
      exact ⟨s0, k1, k3, k2.toNat, k4.toNat, k5.toNat, by rw [Int.toNat_of_nonneg (by omega), Int.toNat_of_nonneg (by omega), Int.toNat_of_nonneg (by omega)], by omega, by omega, by omega⟩

theorem trodAll_seven {w : World} {base : Nat} {spare : Nat → Bool} {held : Bool} {t0 t1 t2 t3 t4 t5 t6 : TypeId} {args : Array Value} {ds : List (DataW H)} {ps : List MemPlace} (h : DataW.TrodAll enc P w base spare held [t0, t1, t2, t3, t4, t5, t6] args.toList ds ps) :
    ∃ v0 v1 v2 v3 v4 v5 v6 d0 d1 d2 d3 d4 d5 d6 p0 p1 p2 p3 p4 p5 p6, args = #[v0, v1, v2, v3, v4, v5, v6] ∧ ds = [d0, d1, d2, d3, d4, d5, d6] ∧ ps = p0 ++ (p1 ++ (p2 ++ (p3 ++ (p4 ++ (p5 ++ p6))))) ∧ DataW.Trod enc P w base spare held t0 v0 d0 p0 ∧ DataW.Trod enc P w base spare held t1 v1 d1 p1 ∧
      DataW.Trod enc P w base spare held t2 v2 d2 p2 ∧ DataW.Trod enc P w base spare held t3 v3 d3 p3 ∧ DataW.Trod enc P w base spare held t4 v4 d4 p4 ∧ DataW.Trod enc P w base spare held t5 v5 d5 p5 ∧ DataW.Trod enc P w base spare held t6 v6 d6 p6 := by
  obtain ⟨v0, l0, d0, e0, p0, q0, ha, rfl, rfl, h0, h⟩ := trodAll_cons h
  obtain ⟨v1, v2, v3, v4, v5, v6, d1, d2, d3, d4, d5, d6, p1, p2, p3, p4, p5, p6, hb, rfl, rfl, h1, h2, h3, h4, h5, h6⟩ := trodAll_six (args := l0.toArray) (by simpa using h)
  refine ⟨v0, v1, v2, v3, v4, v5, v6, d0, d1, d2, d3, d4, d5, d6, p0, p1, p2, p3, p4, p5, p6, ?_, rfl, by simp, h0, h1, h2, h3, h4, h5, h6⟩
  apply Array.ext'
  rw [ha]
  have := congrArg Array.toList hb
  simpa using this
theorem trodAll_ten {w : World} {base : Nat} {spare : Nat → Bool} {held : Bool} {t0 t1 t2 t3 t4 t5 t6 t7 t8 t9 : TypeId} {args : Array Value} {ds : List (DataW H)} {ps : List MemPlace} (h : DataW.TrodAll enc P w base spare held [t0, t1, t2, t3, t4, t5, t6, t7, t8, t9] args.toList ds ps) :
    ∃ v0 v1 v2 v3 v4 v5 v6 v7 v8 v9 d0 d1 d2 d3 d4 d5 d6 d7 d8 d9 p0 p1 p2 p3 p4 p5 p6 p7 p8 p9, args = #[v0, v1, v2, v3, v4, v5, v6, v7, v8, v9] ∧ ds = [d0, d1, d2, d3, d4, d5, d6, d7, d8, d9] ∧ ps = p0 ++ (p1 ++ (p2 ++ (p3 ++ (p4 ++ (p5 ++ (p6 ++ (p7 ++ (p8 ++ p9)))))))) ∧
      DataW.Trod enc P w base spare held t0 v0 d0 p0 ∧ DataW.Trod enc P w base spare held t1 v1 d1 p1 ∧ DataW.Trod enc P w base spare held t2 v2 d2 p2 ∧ DataW.Trod enc P w base spare held t3 v3 d3 p3 ∧ DataW.Trod enc P w base spare held t4 v4 d4 p4 ∧
      DataW.Trod enc P w base spare held t5 v5 d5 p5 ∧ DataW.Trod enc P w base spare held t6 v6 d6 p6 ∧ DataW.Trod enc P w base spare held t7 v7 d7 p7 ∧ DataW.Trod enc P w base spare held t8 v8 d8 p8 ∧ DataW.Trod enc P w base spare held t9 v9 d9 p9 := by
  obtain ⟨v0, l0, d0, e0, p0, q0, ha, rfl, rfl, h0, h⟩ := trodAll_cons h
  obtain ⟨v1, l1, d1, e1, p1, q1, rfl, rfl, rfl, h1, h⟩ := trodAll_cons h
  obtain ⟨v2, l2, d2, e2, p2, q2, rfl, rfl, rfl, h2, h⟩ := trodAll_cons h
  obtain ⟨v3, v4, v5, v6, v7, v8, v9, d3, d4, d5, d6, d7, d8, d9, p3, p4, p5, p6, p7, p8, p9, hb, rfl, rfl, h3, h4, h5, h6, h7, h8, h9⟩ := trodAll_seven (args := l2.toArray) (by simpa using h)
  refine ⟨v0, v1, v2, v3, v4, v5, v6, v7, v8, v9, d0, d1, d2, d3, d4, d5, d6, d7, d8, d9, p0, p1, p2, p3, p4, p5, p6, p7, p8, p9, ?_, rfl, by simp, h0, h1, h2, h3, h4, h5, h6, h7, h8, h9⟩
  apply Array.ext'
  rw [ha]
  have := congrArg Array.toList hb
  simp at this
  simp [this]
end
end Go.Pm
namespace Go.Proofs.Ytdobmebhjmgkmaa
open Go.RowKit Go.Pm
namespace Dr
theorem aKno : AggTy Try.prog 50 4 := Sg.AggTy.of (by kernel_rfl) (by kernel_rfl)
theorem aEnt : AggTy Try.prog 48 3 := Sg.AggTy.of (by kernel_rfl) (by kernel_rfl)
theorem kno_all (x : Kno) : (knoC x).toArray.all (·.oneCell') = true := all_oneCell_toArray (knoC_one x)
theorem ent_all (x : Ent) : (entC x).toArray.all (·.oneCell') = true := all_oneCell_toArray (entC_one x)
end Dr
end Go.Proofs.Ytdobmebhjmgkmaa
namespace Go.Proofs.Ytdobmebhjmgkmaa
open Go.RowKit Go.Pm
namespace Up
set_option maxHeartbeats 1000000 in
/-- update.Entry. -/
theorem entry (n : ByteArray) (v c : Int) (k r s : Nat) (w : World) : Calls Try.prog 22 #[updV n v k c r s] w fun e w' => e = .returned (entV n v k) ∧ Kept None w w' := by
  have k0 : Kept None w ((w.alloc (.cells #[.string n, .int .i64 v, .int .u64 (k : Int), .int .i64 c, .int .u64 (r : Int), .int .u64 (s : Int)] 27)).alloc (.cells #[.string ⟨#[]⟩, .int .i64 0, .int .u64 0] 48)) := ((Kept.refl _ _).alloc _).alloc _
  have hR := Blk.new2 w (.cells #[.string n, .int .i64 v, .int .u64 (k : Int), .int .i64 c, .int .u64 (r : Int), .int .u64 (s : Int)] 27) #[.string ⟨#[]⟩, .int .i64 0, .int .u64 0] 48
  go_enter Try.func22, Try.ntmps22
  go_wp2_with (first | (refine wpList_store_blk rfl _ _ _ rfl rfl rfl hR aEnt rfl (ent_all _ _ _) ?_; intro w6 hR6 k6) | fail)
  exact bodyPost_ret (v := entV n v k) (results_blk rfl _ rfl hR6 aEnt) rfl ⟨rfl, k0.then k6 (fun i hi (h : i = w.heap.size + 1) => by omega)⟩

theorem msg_flat (n : ByteArray) (v : Int) (k : Nat) : [[85], lumpB (strB n), leB (U6 v), leB (k : Int)].flatten = msgB n v k := by simp [msgB, fieldsB]

set_option maxRecDepth 100000 in
set_option maxHeartbeats 4000000 in
/-- update.Message. -/
theorem message (n : ByteArray) (v : Int) (k : Nat) (w : World) (hn : n.size ≤ 274877906944) (hk : k < 18446744073709551616) : Calls Try.prog 40 #[entV n v k] w fun e w' => ∃ u, e = .returned u ∧ Kept None w w' ∧ Ob w' w.heap.size u (msgB n v k) := by
  have hsn := strB_len n
  have hv0 := U6_ge v
  have hv1 := U6_lt v
  obtain ⟨V, hV⟩ : ∃ V, V = U6 v := ⟨_, rfl⟩
  have hw : IntKind.u64.wrap v = V := by rw [IntKind.wrap_u64, hV]
  have hf := msg_flat n v k
  rw [← hV] at hv0 hv1 hf
  have HF := hid hf
  clear hV hf
  obtain ⟨L, hL⟩ : ∃ L, L = lumpB (strB n) := ⟨_, rfl⟩
  have hLl : L.length = 8 + n.size := by rw [hL, lumpB_len, hsn]
  have hj : ∀ v lo hi W, Bs W lo hi v (strB n) → Calls Try.prog 55 #[v] W fun en w' => ∃ v', en = .returned v' ∧ Kept None W w' ∧ Ob w' W.heap.size v' L := by
    intro v lo hi W h
    rw [hL]
    exact Bin.lump v lo hi (strB n) W h (by omega)
  rw [← hL] at HF
  have HJ := hid hj
  have HL := hid hLl
  clear hj hL hLl
  go_enter Try.func40, Try.ntmps40
  go_wp2_with fail
  obtain ⟨w1, hw1⟩ : ∃ w1, w1 = w.alloc (.cells #[.string n, .int .i64 v, .int .u64 (k : Int)] 48) := ⟨_, rfl⟩
  have hB := Blk.new w #[.string n, .int .i64 v, .int .u64 (k : Int)] 48
  have k0 : Kept None w (w.alloc (.cells #[.string n, .int .i64 v, .int .u64 (k : Int)] 48)) := (Kept.refl _ _).alloc _
  rw [← hw1] at hB k0 ⊢
  clear hw1
  have hc0 : ∀ W, Kept None w1 W → W.cell? ⟨w.heap.size, 0, none⟩ = some (.string n) := fun W hW => (hB.kept hW (fun h => h)).cell 0
  have hc1 : ∀ W, Kept None w1 W → W.cell? ⟨w.heap.size, 1, none⟩ = some (.int .i64 v) := fun W hW => (hB.kept hW (fun h => h)).cell 1
  have hc2 : ∀ W, Kept None w1 W → W.cell? ⟨w.heap.size, 2, none⟩ = some (.int .u64 (k : Int)) := fun W hW => (hB.kept hW (fun h => h)).cell 2
  clear hB
  have hs : Steady [.bytes 0 ([85]), .bytes 3 (strB n), .bytes 4 (L) [3], .bytes 8 (leB V), .bytes 11 (leB k), .lists 12 ([[85], L, leB V, leB k]) [0, 4, 8, 11], .own 5 13 (w1.heap.size) (msgB n v k) [12]] := Steady.bytes (Steady.bytes (Steady.bytes (Steady.bytes (Steady.bytes (Steady.lists (Steady.own (Steady.nil)))))))
  refine wp_region_kn w1 _ hs (Kept.refl _ _) (by kernel_rfl) (by kernel_rfl) (by kernel_rfl) ?_
  refine wpKn_adds hs rfl (by rfl) (fun W hW hd => ?_) (fun v0 hv => ?_)
  · unfold Gives
    go_simp
    exact ⟨(Kept.refl None W).alloc _, ⟨_, _, rfl⟩, _, _, Vs.new W #[.int .u8 85] 5 1 (by decide) (by decide)⟩
  obtain ⟨a0, c0, rfl⟩ : ∃ a c, v0 = .slice a 1 c := hv
  simp only [Act.put, List.setIfInBounds_toArray, List.set_cons_zero, List.set_cons_succ]
  iterate 2 (refine wpPar_pure rfl (by rfl) _ (fun W hW => by
      have c0 := hc0 W hW
      have c1 := hc1 W hW
      have c2 := hc2 W hW
      go_simp
      exact rfl) ?_; simp only [Act.put, List.setIfInBounds_toArray, List.set_cons_zero, List.set_cons_succ])
  refine wpKn_adds hs rfl (by rfl) (fun W hW hd => ?_) (fun v3 hv => ?_)
  · refine gives_bytes 9 22 5 _ rfl tString tBytes' tByte rfl (by omega) fun c w' k1 b1 => ?_
    exact ⟨k1, by rw [← hsn]; exact ⟨_, _, rfl⟩, _, _, b1⟩
  obtain ⟨a3, c3, rfl⟩ : ∃ a c, v3 = .slice a (strB n).length c := hv
  simp only [Act.put, List.setIfInBounds_toArray, List.set_cons_zero, List.set_cons_succ]
  refine wpKn_adds hs rfl (by rfl) (fun W hW hd => ?_) (fun v4 hv => ?_)
  · unfold Gives
    obtain ⟨lo1, hi1, h1⟩ : ∃ lo hi, Bs W lo hi (.slice a3 (strB n).length c3) (strB n) := hd 3 (List.Mem.head _)
    go_simp
    refine gives_call (HJ.out _ _ _ W h1) ?_
    rintro e w3 ⟨u, rfl, k3, b3⟩
    exact ⟨_, rfl, k3, b3.form, _, _, b3.bs (Nat.le_refl _)⟩
  obtain ⟨a4, c4, rfl⟩ : ∃ a c, v4 = .slice a L.length c := hv
  simp only [Act.put, List.setIfInBounds_toArray, List.set_cons_zero, List.set_cons_succ]
  iterate 3 (refine wpPar_pure rfl (by rfl) _ (fun W hW => by
      have c0 := hc0 W hW
      have c1 := hc1 W hW
      have c2 := hc2 W hW
      go_simp
      exact rfl) ?_; simp only [Act.put, List.setIfInBounds_toArray, List.set_cons_zero, List.set_cons_succ])
  refine wpKn_adds hs rfl (by rfl) (fun W hW hd => ?_) (fun v8 hv => ?_)
  · unfold Gives
    go_simp
    refine gives_call (Bin.num V W hv0 hv1) ?_
    rintro e w3 ⟨u, rfl, k3, b3⟩
    exact ⟨_, rfl, k3, b3.form, _, _, b3.bs (Nat.le_refl _)⟩
  obtain ⟨a8, c8, rfl⟩ : ∃ a c, v8 = .slice a 8 c := hv
  simp only [Act.put, List.setIfInBounds_toArray, List.set_cons_zero, List.set_cons_succ]
  iterate 2 (refine wpPar_pure rfl (by rfl) _ (fun W hW => by
      have c0 := hc0 W hW
      have c1 := hc1 W hW
      have c2 := hc2 W hW
      go_simp
      exact rfl) ?_; simp only [Act.put, List.setIfInBounds_toArray, List.set_cons_zero, List.set_cons_succ])
  refine wpKn_adds hs rfl (by rfl) (fun W hW hd => ?_) (fun v11 hv => ?_)
  · unfold Gives
    go_simp
    refine gives_call (Bin.num k W (by omega) (by omega)) ?_
    rintro e w3 ⟨u, rfl, k3, b3⟩
    exact ⟨_, rfl, k3, b3.form, _, _, b3.bs (Nat.le_refl _)⟩
  obtain ⟨a11, c11, rfl⟩ : ∃ a c, v11 = .slice a 8 c := hv
  simp only [Act.put, List.setIfInBounds_toArray, List.set_cons_zero, List.set_cons_succ]
  refine wpKn_adds hs rfl (by rfl) (fun W hW hd => ?_) (fun v12 hv => ?_)
  · unfold Gives
    obtain ⟨lo1, hi1, h1⟩ : ∃ lo hi, Bs W lo hi (.slice a0 1 c0) [85] := hd 0 (List.Mem.head _)
    obtain ⟨lo2, hi2, h2⟩ : ∃ lo hi, Bs W lo hi (.slice a4 L.length c4) L := hd 4 (List.Mem.tail _ (List.Mem.head _))
    obtain ⟨lo3, hi3, h3⟩ : ∃ lo hi, Bs W lo hi (.slice a8 8 c8) (leB V) := hd 8 (List.Mem.tail _ (List.Mem.tail _ (List.Mem.head _)))
    obtain ⟨lo4, hi4, h4⟩ : ∃ lo hi, Bs W lo hi (.slice a11 8 c11) (leB k) := hd 11 (List.Mem.tail _ (List.Mem.tail _ (List.Mem.tail _ (List.Mem.head _))))
    go_simp
    exact ⟨(Kept.refl None W).alloc _, ⟨_, _, rfl⟩, _, _, _, _, Bss.new W #[.slice a0 1 c0, .slice a4 L.length c4, .slice a8 8 c8, .slice a11 8 c11] 22 [[85], L, leB V, leB k] 4 rfl (by decide) ⟨h1.all, h2.all, h3.all, h4.all, trivial⟩⟩
  obtain ⟨a12, c12, rfl⟩ : ∃ a c, v12 = .slice a 4 c := hv
  simp only [Act.put, List.setIfInBounds_toArray, List.set_cons_zero, List.set_cons_succ]
  refine wpKn_adds hs rfl (by rfl) (fun W hW hd => ?_) (fun v13 hv => ?_)
  · unfold Gives
    obtain ⟨lo1, hi1, lo2, hi2, h1⟩ : ∃ lo hi lo' hi', Bss W lo hi lo' hi' (.slice a12 4 c12) [[85], L, leB V, leB k] := hd 12 (List.Mem.head _)
    go_simp
    refine gives_call (Bin.join _ _ _ _ _ _ W h1 (by have := HL.out; simp [total, leB_length]; omega)) ?_
    rintro e w3 ⟨u, rfl, k3, b3⟩
    have b4 := b3.base hW.size
    rw [HF.out] at b4
    exact ⟨_, rfl, k3, b4.form, b4⟩
  obtain ⟨a13, c13, rfl⟩ : ∃ a c, v13 = .slice a (msgB n v k).length c := hv
  simp only [Act.put, List.setIfInBounds_toArray, List.set_cons_zero, List.set_cons_succ]
  iterate 1 (refine wpPar_pure rfl (by rfl) _ (fun W hW => by
      go_simp
      exact rfl) ?_; simp only [Act.put, List.setIfInBounds_toArray, List.set_cons_zero, List.set_cons_succ])
  refine wpPar_nil (fun W hW hG => ?_)
  have hb : Ob W w1.heap.size (.slice a13 (msgB n v k).length c13) (msgB n v k) := hG 13
  have hb1 := hb.base k0.size
  have k01 := k0.then hW (fun _ _ h => h)
  clear hG hb hc0 hc1 hc2 hs k0 hW
  go_wp2
  go_ret
  exact ⟨_, rfl, k01, hb1⟩
set_option maxRecDepth 100000 in
set_option maxHeartbeats 4000000 in
/-- update.Check. -/
theorem check (n : ByteArray) (v c : Int) (k r s y : Nat) (w : World) (hn : n.size ≤ 274877906944) (hk : k < 18446744073709551616) :
    Calls Try.prog 27 #[updV n v k c r s, .int .u64 y] w fun e w' => e = .returned (.bool (checkN y (msgB n v k) r s)) ∧ Kept None w w' := by
  have hs := fun v' lo hi w h => Sg.check y r s v' lo hi (msgB n v k) w h (by rw [msgB_len]; omega)
  have hm := fun w => message n v k w hn hk
  have he := fun w => entry n v c k r s w
  obtain ⟨M, hM⟩ : ∃ M, M = msgB n v k := ⟨_, rfl⟩
  rw [← hM] at hs hm ⊢
  obtain ⟨q, hq⟩ : ∃ q, q = checkN y M r s := ⟨_, rfl⟩
  rw [← hq] at hs ⊢
  have H := hid (And.intro hs (And.intro hm he))
  clear hs hm he hM hq hn hk
  go_enter Try.func27, Try.ntmps27
  go_wp2_with fail
  obtain ⟨w1, hw1⟩ : ∃ w1, w1 = w.alloc (.cells #[.string n, .int .i64 v, .int .u64 (k : Int), .int .i64 c, .int .u64 (r : Int), .int .u64 (s : Int)] 27) := ⟨_, rfl⟩
  have hB := Blk.new w #[.string n, .int .i64 v, .int .u64 (k : Int), .int .i64 c, .int .u64 (r : Int), .int .u64 (s : Int)] 27
  have k0 : Kept None w (w.alloc (.cells #[.string n, .int .i64 v, .int .u64 (k : Int), .int .i64 c, .int .u64 (r : Int), .int .u64 (s : Int)] 27)) := (Kept.refl _ _).alloc _
  rw [← hw1] at hB k0 ⊢
  clear hw1
  have hc0 : ∀ W, Kept None w1 W → W.cell? ⟨w.heap.size, 0, none⟩ = some (.string n) := fun W hW => (hB.kept hW (fun h => h)).cell 0
  have hc1 : ∀ W, Kept None w1 W → W.cell? ⟨w.heap.size, 1, none⟩ = some (.int .i64 v) := fun W hW => (hB.kept hW (fun h => h)).cell 1
  have hc2 : ∀ W, Kept None w1 W → W.cell? ⟨w.heap.size, 2, none⟩ = some (.int .u64 (k : Int)) := fun W hW => (hB.kept hW (fun h => h)).cell 2
  have hc3 : ∀ W, Kept None w1 W → W.cell? ⟨w.heap.size, 3, none⟩ = some (.int .i64 c) := fun W hW => (hB.kept hW (fun h => h)).cell 3
  have hc4 : ∀ W, Kept None w1 W → W.cell? ⟨w.heap.size, 4, none⟩ = some (.int .u64 (r : Int)) := fun W hW => (hB.kept hW (fun h => h)).cell 4
  have hc5 : ∀ W, Kept None w1 W → W.cell? ⟨w.heap.size, 5, none⟩ = some (.int .u64 (s : Int)) := fun W hW => (hB.kept hW (fun h => h)).cell 5
  clear hB
  have hs : Steady [.val 2 (entV n v k), .bytes 3 (M), .val 6 (.bool q) [3]] := Steady.val (Steady.bytes (Steady.val (Steady.nil)))
  refine wp_region_kn w1 _ hs (Kept.refl _ _) (by kernel_rfl) (by kernel_rfl) (by kernel_rfl) ?_
  iterate 2 (refine wpPar_pure rfl (by rfl) _ (fun W hW => by
      have c0 := hc0 W hW
      have c1 := hc1 W hW
      have c2 := hc2 W hW
      have c3 := hc3 W hW
      have c4 := hc4 W hW
      have c5 := hc5 W hW
      go_simp
      exact rfl) ?_; simp only [Act.put, List.setIfInBounds_toArray, List.set_cons_zero, List.set_cons_succ])
  refine wpKn_adds hs rfl (by rfl) (fun W hW hd => ?_) (fun v2 hv => ?_)
  · unfold Gives
    go_simp
    refine gives_call (H.out.2.2 W) ?_
    rintro e w3 ⟨rfl, k3⟩
    exact ⟨_, rfl, k3, rfl, trivial⟩
  obtain rfl : v2 = entV n v k := hv
  simp only [Act.put, List.setIfInBounds_toArray, List.set_cons_zero, List.set_cons_succ]
  refine wpKn_adds hs rfl (by rfl) (fun W hW hd => ?_) (fun v3 hv => ?_)
  · unfold Gives
    go_simp
    refine gives_call (H.out.2.1 W) ?_
    rintro e w3 ⟨u, rfl, k3, b3⟩
    exact ⟨_, rfl, k3, b3.form, _, _, b3.bs (Nat.le_refl _)⟩
  obtain ⟨a3, c3, rfl⟩ : ∃ a c, v3 = .slice a M.length c := hv
  simp only [Act.put, List.setIfInBounds_toArray, List.set_cons_zero, List.set_cons_succ]
  iterate 2 (refine wpPar_pure rfl (by rfl) _ (fun W hW => by
      have c0 := hc0 W hW
      have c1 := hc1 W hW
      have c2 := hc2 W hW
      have c3 := hc3 W hW
      have c4 := hc4 W hW
      have c5 := hc5 W hW
      go_simp
      exact rfl) ?_; simp only [Act.put, List.setIfInBounds_toArray, List.set_cons_zero, List.set_cons_succ])
  refine wpKn_adds hs rfl (by rfl) (fun W hW hd => ?_) (fun v6 hv => ?_)
  · unfold Gives
    obtain ⟨lo1, hi1, h1⟩ : ∃ lo hi, Bs W lo hi (.slice a3 M.length c3) M := hd 3 (List.Mem.head _)
    go_simp
    refine gives_call (H.out.1 _ _ _ W h1) ?_
    rintro e w3 ⟨rfl, k3⟩
    exact ⟨_, rfl, k3, rfl, trivial⟩
  obtain rfl : v6 = .bool q := hv
  simp only [Act.put, List.setIfInBounds_toArray, List.set_cons_zero, List.set_cons_succ]
  iterate 1 (refine wpPar_pure rfl (by rfl) _ (fun W hW => by
      go_simp
      exact rfl) ?_; simp only [Act.put, List.setIfInBounds_toArray, List.set_cons_zero, List.set_cons_succ])
  refine wpPar_nil (fun W hW hG => ?_)
  have k01 := k0.then hW (fun _ _ h => h)
  clear hG hc0 hc1 hc2 hc3 hc4 hc5 hs k0 hW
  go_wp2
  go_ret
  exact ⟨rfl, k01⟩
end Up
end Go.Proofs.Ytdobmebhjmgkmaa
namespace Go.Pm
open Go Go.RowKit
/-- An operation, inside a fence, of which is known what it does. -/
theorem wpListIn_val {F : Fence} {n : Nat} {P : Program} {ops : Array Oper} {rest : List Oper} {o : Oper} {a : Act} {w : World} {Q : Exit → Act → World → Prop} (hg : o.guard = none) (h1 : ∀ c, o.op ≠ .defer c) (h2 : o.about P w a.eval = none) {v : Value} {w' : World} (hr : (execOp a.eval o).run P w = .ok (.value v) w')
    (h : wpListIn F n P ops Q rest (a.put o.dst v) w') : wpListIn F n P ops Q (o :: rest) a w := by
  refine wpListIn_plain hg fun K hK => ?_
  unfold Oper.wpIn
  refine ⟨fun f hf => (by rw [h2] at hf; cases hf), ?_⟩
  rw [Oper.semAt_plain F _ _ h1, hr]
  exact hK _ _ h
theorem wpListIn_done {F : Fence} {n : Nat} {P : Program} {ops : Array Oper} {rest : List Oper} {o : Oper} {a : Act} {w : World} {Q : Exit → Act → World → Prop} (hg : o.guard = none) (h1 : ∀ c, o.op ≠ .defer c) (h2 : o.about P w a.eval = none) {w' : World} (hr : (execOp a.eval o).run P w = .ok .skip w')
    (h : wpListIn F n P ops Q rest (a.put o.dst undef) w') : wpListIn F n P ops Q (o :: rest) a w := by
  refine wpListIn_plain hg fun K hK => ?_
  unfold Oper.wpIn
  refine ⟨fun f hf => (by rw [h2] at hf; cases hf), ?_⟩
  rw [Oper.semAt_plain F _ _ h1, hr]
  exact hK _ _ h
theorem wpListIn_load_at {F : Fence} {n : Nat} {P : Program} {ops : Array Oper} {rest : List Oper} {o : Oper} {a : Act} {w : World} {Q : Exit → Act → World → Prop} (hg : o.guard = none) {ty : TypeId} {x : Operand} (ho : o.op = .load ty x)
    {b off : Nat} (hx : a.eval x = .pointer (some ⟨b, off, none⟩)) {cs : List Value} (hc : w.rangeAt b off cs) (hT : AggTy P ty cs.length) (h : wpListIn F n P ops Q rest (a.put o.dst (.agg cs.toArray)) w) : wpListIn F n P ops Q (o :: rest) a w :=
  wpListIn_val hg (by rw [ho]; intro c hc; cases hc) (by simp [Oper.about, ho]) (exec_load_at ho hx hc hT) h
theorem wpListIn_load_blk {F : Fence} {n : Nat} {P : Program} {ops : Array Oper} {rest : List Oper} {o : Oper} {a : Act} {w : World} {Q : Exit → Act → World → Prop} (hg : o.guard = none) {ty : TypeId} {x : Operand} (ho : o.op = .load ty x)
    {g : Nat} (hx : a.eval x = .pointer (some ⟨g, 0, none⟩)) {t : TypeId} {cs : Array Value} (hb : Blk w g cs t) (hT : AggTy P ty cs.size) (h : wpListIn F n P ops Q rest (a.put o.dst (.agg cs)) w) : wpListIn F n P ops Q (o :: rest) a w :=
  wpListIn_val hg (by rw [ho]; intro c hc; cases hc) (by simp [Oper.about, ho]) (exec_load_blk ty x ho hx hb hT) h
theorem exec_store_blk {P : Program} {o : Oper} {ev : Operand → Value} {w : World} {ty : TypeId} {x y : Operand} (ho : o.op = .store ty x y) {g : Nat} (hx : ev x = .pointer (some ⟨g, 0, none⟩)) {cs' : Array Value} (hy : ev y = .agg cs') {t : TypeId} {cs : Array Value} (hb : Blk w g cs t) (hT : AggTy P ty cs'.size)
    (hs : cs.size = cs'.size) (h1 : cs'.all (·.oneCell') = true) : (execOp ev o).run P w = .ok .skip (w.setRow g cs') := by
  unfold execOp
  simp only [ho, hx, hy, Sem.run_bind, run_store_blk hb hT hs h1, Result.andThen_ok, Sem.run_pure]
theorem wpListIn_store_blk {F : Fence} {n : Nat} {P : Program} {ops : Array Oper} {rest : List Oper} {o : Oper} {a : Act} {w : World} {Q : Exit → Act → World → Prop} (hg : o.guard = none) {ty : TypeId} {x y : Operand} (ho : o.op = .store ty x y)
    {g : Nat} (hx : a.eval x = .pointer (some ⟨g, 0, none⟩)) {cs' : Array Value} (hy : a.eval y = .agg cs') {t : TypeId} {cs : Array Value} (hb : Blk w g cs t) (hT : AggTy P ty cs'.size) (hs : cs.size = cs'.size) (h1 : cs'.all (·.oneCell') = true)
    (h : ∀ w', Blk w' g cs' t → Kept (Just g) w w' → wpListIn F n P ops Q rest (a.put o.dst undef) w') : wpListIn F n P ops Q (o :: rest) a w :=
  wpListIn_done hg (by rw [ho]; intro c hc; cases hc) (by simp [Oper.about, ho]) (w' := w.setRow g cs')
    (exec_store_blk ho hx hy hb hT hs h1) (h _ (hb.setRow _) (Kept.row _ _ _))
/-- What has turned in a block that is new. -/
theorem Kept.grow {w w' : World} (h : Kept None w w') : w.grownBy w' none := ⟨h.os, h.tape, h.output, h.size, fun k hk _ => h.block k hk (fun h => h)⟩
theorem Kept.below0 {w w' : World} (h : Kept None w w') : Below w.heap.size w w' := h.below (fun _ _ h => h)
theorem kept_of_below {w w' : World} (h : Below w.heap.size w w') : Kept None w w' := ⟨h.os, h.tape, h.output, h.size, fun k hk _ => h.block k hk⟩
theorem Kept.belowN {n : Nat} {w w' : World} (h : Kept None w w') (hn : n ≤ w.heap.size) : Below n w w' := h.below0.mono hn
theorem AbidesFrom.keeps {β : Type} {B : Nat} {J : β → World → Prop} (h : AbidesFrom B J) {s : β} {w w' : World} (hs : J s w) (hk : Kept None w w') : J s w' := h s w w' none hs hk.grow (fun r e => by cases e)
/-- Ranges of a row that lies below. -/
theorem Ps.belowN {k n : Nat} {w w' : World} {lo hi : Nat} {v : Value} {xs : List (List Value)} (h : Ps k w lo hi v xs) (hb : Below n w w') (hn : hi ≤ n) : Ps k w' lo hi v xs := by
  have hk : Kept (fun i => n ≤ i) w w' := ⟨hb.os, hb.tape, hb.output, hb.size, fun i _ hs => hb.block i (by omega)⟩
  exact h.kept hk (fun i _ h2 h3 => by have h3 : n ≤ i := h3; omega)
def entsK (l : List Kno) : List Ent := l.map (·.e)
def entsQ (l : List Pn) : List Ent := l.map (fun x => ⟨x.u.n, x.u.v, x.u.k⟩)
abbrev encE (x : Ent) : Array Value := #[x.V]
end Go.Pm
namespace Go.Proofs.Ytdobmebhjmgkmaa
open Go.RowKit Go.Pm
namespace Ad
/-- What is handed back goes through these, one by one. -/
def Tells (gf : Nat) (lb : Array Value) (n₀ : Nat) (es : List Ent) (w : World) : Prop := SeqStopsK Fence.wide 8 Try.prog gf lb encE (Below n₀) (fun ys => ys = es) (fun pre => pre <+: es) es.length w
section
attribute [local go_sem] Oper.semAt_some
theorem aPen17 : AggTy Try.prog 52 9 := Sg.AggTy.of (by kernel_rfl) (by kernel_rfl)
set_option maxRecDepth 100000 in
set_option maxHeartbeats 4000000 in
theorem published1 (B n₀ lo hi : Nat) (v : Value) (l : List Kno) (w : World) (hB : B < w.heap.size) (hn₀ : n₀ ≤ w.heap.size) (hc : w.cell? ⟨B, 0, none⟩ = some v) (hv : Ps 4 w lo hi v (knosC l)) (hi₀ : hi ≤ n₀) (hl : l.length ≤ 1000000) :
    Tells 37 #[.pointer (some ⟨B, 0, none⟩)] n₀ (entsK l) w := by
  intro g J Jx W hW hJ _ hY h0
  have hc' := (hW.cell (p := ⟨B, 0, none⟩) hB).trans hc
  obtain ⟨a, cap, rfl, g1, g2, g3⟩ := hv.form
  rw [knosC_len] at g1 hv hc'
  obtain ⟨n, hn⟩ : ∃ n, n = l.length := ⟨_, rfl⟩
  have hvW : Ps 4 W lo hi (.slice a n cap) (knosC l) := hn ▸ hv.belowN hW (by omega)
  have hlen : (entsK l).length = n := by rw [hn]; exact List.length_map _
  rw [← hn] at g1 hc'
  have HV := hid hvW
  have HY := hid hY
  have HJ := hid hJ
  have HN := hid (And.intro hn (And.intro hl hlen))
  clear hv hvW hY hJ hn hc hlen g3
  refine callsIn_of_wp Try.func37 rfl trivial ?_ rfl
  simp only [Try.ntmps37, List.size_toArray, List.length_cons, List.length_nil, Nat.reduceAdd, Nat.reduceSub, Array.replicate_succ, Array.replicate_zero, List.push_toArray, List.append_toArray, List.nil_append, List.cons_append]
  gi_wp2
  gi_loopw [7] (fun i wr => ∃ k : Nat, k ≤ n ∧ i = .int .i64 (k : Int) ∧ J ((entsK l).take k) wr ∧ Hid (Below n₀ W wr)) (fun i _ => n - (intOf i).toNat)
  case atStart => exact ⟨0, Nat.zero_le _, rfl, h0, hid (Below.refl _ _)⟩
  case round =>
    obtain ⟨k, hk, rfl, hJs, hnx⟩ := hrel
    by_cases hlt : k < n
    · obtain ⟨b, o, q1, hcs⟩ := (HV.out.belowN hnx.out hi₀).kno (by have := HN.out.1; omega)
      obtain rfl := q1
      have hkl : k < l.length := by have := HN.out.1; omega
      obtain ⟨x, hx⟩ : ∃ x, x = l[k] := ⟨_, rfl⟩
      have rX := (hcs k hkl).2.2.2.2.1
      rw [← hx] at rX
      have hS : (entsK l).take (k + 1) = (entsK l).take k ++ [x.e] := by
        rw [List.take_succ_eq_append_getElem (by unfold entsK; rw [List.length_map]; exact hkl)]
        simp [entsK, hx]
      have HS := hid hS
      clear hcs hS hx
      have k5 := (Kept.refl None wr).alloc (.cells #[.string x.e.n, .int .i64 x.e.v, .int .u64 (x.e.k : Int), .int .i64 x.p] 50)
      have J5 := AbidesFrom.keeps HJ.out hJs k5
      obtain ⟨fn, tmps, assign, body, hy, hR⟩ := HY.out (List.take k (entsK l)) x.e _ J5 (by rw [List.length_take]; have := HN.out.2.2; omega)
      rw [show encE x.e = #[Value.agg #[.string x.e.n, .int .i64 x.e.v, .int .u64 (x.e.k : Int)]] from rfl] at hy
      have K5 := hid k5
      clear k5
      gi_wp2_with (first | (refine wpListIn_load_at rfl rfl rfl rX Dr.aKno ?_) | fail)
      refine hR.mono ?_
      rintro e W3 (⟨rfl, hJ3, hk3⟩ | ⟨rfl, hJx3⟩)
      · gi_wp2
        go_roundw
        case rel => exact ⟨k + 1, by omega, by simp, by rw [HS.out]; exact hJ3, hid ((hnx.out.trans (K5.out.belowN (by have := hnx.out.size; have := hW.size; omega))).trans hk3)⟩
        case measure => simp [intOf]; omega
      · gi_wp2
        refine bodyPost_ret (results_none rfl _ _ _) rfl ?_
        exact ⟨⟨_, rfl⟩, .inr ⟨_, HS.out ▸ List.take_prefix _ _, hJx3⟩⟩
    · obtain rfl : k = n := by omega
      gi_wp2
      go_end0
      refine ⟨⟨_, rfl⟩, .inl ⟨_, rfl, ?_⟩⟩
      rwa [List.take_of_length_le (by have := HN.out.2.2; omega)] at hJs
set_option maxRecDepth 100000 in
set_option maxHeartbeats 4000000 in
theorem waiting1 (B n₀ lo hi : Nat) (v : Value) (l : List Pn) (w : World) (hB : B < w.heap.size) (hn₀ : n₀ ≤ w.heap.size) (hc : w.cell? ⟨B, 0, none⟩ = some v) (hv : Ps 9 w lo hi v (pensC l)) (hi₀ : hi ≤ n₀) (hl : l.length ≤ 1000000) :
    Tells 38 #[.pointer (some ⟨B, 0, none⟩)] n₀ (entsQ l) w := by
  intro g J Jx W hW hJ _ hY h0
  have hc' := (hW.cell (p := ⟨B, 0, none⟩) hB).trans hc
  obtain ⟨a, cap, rfl, g1, g2, g3⟩ := hv.form
  rw [pensC_len] at g1 hv hc'
  obtain ⟨n, hn⟩ : ∃ n, n = l.length := ⟨_, rfl⟩
  have hvW : Ps 9 W lo hi (.slice a n cap) (pensC l) := hn ▸ hv.belowN hW (by omega)
  have hlen : (entsQ l).length = n := by rw [hn]; exact List.length_map _
  rw [← hn] at g1 hc'
  have HV := hid hvW
  have HY := hid hY
  have HJ := hid hJ
  have HN := hid (And.intro hn (And.intro hl hlen))
  clear hv hvW hY hJ hn hc hlen g3
  refine callsIn_of_wp Try.func38 rfl trivial ?_ rfl
  simp only [Try.ntmps38, List.size_toArray, List.length_cons, List.length_nil, Nat.reduceAdd, Nat.reduceSub, Array.replicate_succ, Array.replicate_zero, List.push_toArray, List.append_toArray, List.nil_append, List.cons_append]
  gi_wp2
  gi_loopw [7] (fun i wr => ∃ k : Nat, k ≤ n ∧ i = .int .i64 (k : Int) ∧ J ((entsQ l).take k) wr ∧ Hid (Below n₀ W wr)) (fun i _ => n - (intOf i).toNat)
  case atStart => exact ⟨0, Nat.zero_le _, rfl, h0, hid (Below.refl _ _)⟩
  case round =>
    obtain ⟨k, hk, rfl, hJs, hnx⟩ := hrel
    by_cases hlt : k < n
    · obtain ⟨b, o, q1, _, hcs⟩ := (HV.out.belowN hnx.out hi₀).pen (by have := HN.out.1; omega)
      obtain rfl := q1
      have hkl : k < l.length := by have := HN.out.1; omega
      obtain ⟨x, hx⟩ : ∃ x, x = l[k] := ⟨_, rfl⟩
      have rX := (hcs k hkl).1
      rw [← hx] at rX
      have hS : (entsQ l).take (k + 1) = (entsQ l).take k ++ [⟨x.u.n, x.u.v, x.u.k⟩] := by
        rw [List.take_succ_eq_append_getElem (by unfold entsQ; rw [List.length_map]; exact hkl)]
        simp [entsQ, hx]
      have HS := hid hS
      clear hcs hS hx
      have k5 := (Kept.refl None wr).alloc (.cells #[.string x.u.n, .int .i64 x.u.v, .int .u64 (x.u.k : Int), .int .i64 x.u.c, .int .u64 (x.u.r : Int), .int .u64 (x.u.s : Int), .int .i64 x.tick, .int .i64 x.seq, .bool x.sync] 52)
      have K5 := hid k5
      clear k5
      gi_wp2_with (first | (refine wpListIn_load_at rfl rfl rfl rX aPen17 ?_) | (refine ⟨trivial, ?_⟩; gi_at_call 22; refine (callsIn_wide.2 (Up.entry x.u.n x.u.v x.u.c x.u.k x.u.r x.u.s _)).mono ?_; rintro e w6 ⟨rfl, k6⟩; have K6 := hid (K5.out.trans k6); have J5 := AbidesFrom.keeps HJ.out hJs K6.out; obtain ⟨fn, tmps, assign, body, hy, hR⟩ := HY.out (List.take k (entsQ l)) ⟨x.u.n, x.u.v, x.u.k⟩ w6 J5 (by rw [List.length_take]; have := HN.out.2.2; omega); rw [show encE ⟨x.u.n, x.u.v, x.u.k⟩ = #[Value.agg #[.string x.u.n, .int .i64 x.u.v, .int .u64 (x.u.k : Int)]] from rfl] at hy) | fail)
      refine hR.mono ?_
      rintro e W3 (⟨rfl, hJ3, hk3⟩ | ⟨rfl, hJx3⟩)
      · gi_wp2
        go_roundw
        case rel => exact ⟨k + 1, by omega, by simp, by rw [HS.out]; exact hJ3, hid ((hnx.out.trans (K6.out.belowN (by have := hnx.out.size; have := hW.size; omega))).trans hk3)⟩
        case measure => simp [intOf]; omega
      · gi_wp2
        refine bodyPost_ret (results_none rfl _ _ _) rfl ?_
        exact ⟨⟨_, rfl⟩, .inr ⟨_, HS.out ▸ List.take_prefix _ _, hJx3⟩⟩
    · obtain rfl : k = n := by omega
      gi_wp2
      go_end0
      refine ⟨⟨_, rfl⟩, .inl ⟨_, rfl, ?_⟩⟩
      rwa [List.take_of_length_le (by have := HN.out.2.2; omega)] at hJs
end
set_option maxHeartbeats 1000000 in
/-- admit.published. -/
theorem published (a : Option Addr) (n cap : Nat) (w : World) : Calls Try.prog 24 #[.slice a n cap] w fun e w' => e = .returned (.func (.func 37) #[] #[.pointer (some ⟨w.heap.size, 0, none⟩)]) ∧ w' = w.alloc (.cells #[.slice a n cap] 29) := by
  go_enter Try.func24, Try.ntmps24
  go_wp2_with fail
  go_ret
  exact ⟨rfl, rfl⟩
set_option maxHeartbeats 1000000 in
/-- admit.waiting. -/
theorem waiting (a : Option Addr) (n cap : Nat) (w : World) : Calls Try.prog 26 #[.slice a n cap] w fun e w' => e = .returned (.func (.func 38) #[] #[.pointer (some ⟨w.heap.size, 0, none⟩)]) ∧ w' = w.alloc (.cells #[.slice a n cap] 30) := by
  go_enter Try.func26, Try.ntmps26
  go_wp2_with fail
  go_ret
  exact ⟨rfl, rfl⟩
end Ad
end Go.Proofs.Ytdobmebhjmgkmaa
namespace Go.Pm
open Go Go.RowKit
def entEq (p q : Ent) : Bool := (p.n.toList == q.n.toList) && ((p.v == q.v) && (((p.k : Int) == (q.k : Int)) && true))
theorem entEq_iff (p q : Ent) : entEq p q = true ↔ p = q := by
  obtain ⟨n, v, k⟩ := p
  obtain ⟨n', v', k'⟩ := q
  unfold entEq
  simp only [Bool.and_eq_true, beq_iff_eq, Ent.mk.injEq, and_true, Int.natCast_inj, toList_iff]
instance : DecidableEq Ent := fun a b => decidable_of_iff (entEq a b = true) (entEq_iff a b)
end Go.Pm
namespace Go.Proofs.Ytdobmebhjmgkmaa
open Go.RowKit Go.Pm
namespace Jk
theorem uEnt : Try.prog.underlying 48 = some (.struct (Try.prog.fieldsOf 48)) := by kernel_rfl
theorem fEnt : (Try.prog.fieldsOf 48).toList.map (fun f => (f.name == "_", f.type, f.offset)) = [(false, 9, 0), (false, 3, 1), (false, 23, 2)] := by kernel_rfl
theorem hEnt : Try.prog.stoodInHeld 48 = false := by kernel_rfl
theorem gInt : ∀ w, (isAgg 3).run Try.prog w = .ok false w := fun _ => by kernel_rfl
theorem gU64 : ∀ w, (isAgg 23).run Try.prog w = .ok false w := fun _ => by kernel_rfl
theorem gStr : ∀ w, (isAgg 9).run Try.prog w = .ok false w := fun _ => by kernel_rfl
theorem nInt : Try.prog.underlying 3 = some (.int .i64) := by kernel_rfl
theorem nU64 : Try.prog.underlying 23 = some (.int .u64) := by kernel_rfl
theorem nStr : Try.prog.underlying 9 = some .string := by kernel_rfl
theorem equalIn_ent (p q : Ent) (d : Nat) (w : World) : (Op.equalIn (d + 3) 48 (.agg (entC p).toArray) (.agg (entC q).toArray)).run Try.prog w = .ok (entEq p q) w := by
  rw [run_equalIn_struct w (d + 2) 48 _ _ uEnt hEnt]
  refine eqF_step fEnt (part_one gStr rfl) (part_one gStr rfl) (run_equalIn_string w (d + 1) _ _ _ nStr) fun gs h1 => ?_
  refine eqF_step h1 (part_one gInt rfl) (part_one gInt rfl) (run_equalIn_int w (d + 1) _ _ _ _ _ nInt) fun gs h2 => ?_
  exact eqF_step h2 (part_one gU64 rfl) (part_one gU64 rfl) (run_equalIn_int w (d + 1) _ _ _ _ _ nU64) fun gs h3 => eqF_nil h3
theorem eqEnt (p q : Ent) (w : World) : (binOp .eql 48 (.agg (entC p).toArray) (.agg (entC q).toArray)).run Try.prog w = .ok (.bool (entEq p q)) w := by
  rw [run_eql_struct, equalIn_ent p q 9997]; rfl
end Jk
end Go.Proofs.Ytdobmebhjmgkmaa
namespace Go.Pm
open Go Go.RowKit
/-- Of that name and version. -/
def nvE (e x : Ent) : Bool := eqN x.n e.n && decide (x.v = e.v)
theorem nv_snoc (e : Ent) (pre : List Ent) (x : Ent) : (pre ++ [x]).any (nvE e) = (pre.any (nvE e) || nvE e x) := by rw [List.any_append]; simp
theorem eq_snoc (e : Ent) (pre : List Ent) (x : Ent) : (pre ++ [x]).any (fun x => entEq x e) = (pre.any (fun x => entEq x e) || entEq x e) := by rw [List.any_append]; simp
theorem entEq_nv {e x : Ent} (h : entEq x e = true) : nvE e x = true := by
  rw [(entEq_iff x e).1 h]
  unfold nvE eqN
  simp
theorem any_pre {es pre : List Ent} {f : Ent → Bool} (h : pre <+: es) (hp : pre.any f = true) : es.any f = true := by
  obtain ⟨r, rfl⟩ := h
  rw [List.any_append, hp]
  rfl
def hasF (es : List Ent) (e : Ent) : Bool × Bool := (es.any (nvE e), es.any (fun x => entEq x e))
theorem Blk.grown {w w' : World} {row : Option Nat} {r : Nat} {cs : Array Value} {t : TypeId} (h : Blk w r cs t) (hg : w.grownBy w' row) (hr : ∀ k, row = some k → ∃ o : Obj, w.heap[k]? = some o ∧ o.isCells = false) : Blk w' r cs t :=
  (hg.block r h.lt (fun e => by
    obtain ⟨o, ho, hc⟩ := hr r e.symm
    rw [show w.heap[r]? = _ from h] at ho
    cases ho
    cases hc)).trans h
theorem blk_own {β : Type} (r : Nat) (t : TypeId) (f : β → Array Value) (B : Nat) : OwnFrom B (fun s W => Blk W r (f s) t) := fun _ _ _ _ hs hg hr => Blk.grown hs hg (fun k e => (hr k e).2)
end Go.Pm
namespace Go.Proofs.Ytdobmebhjmgkmaa
open Go.RowKit Go.Pm
namespace Ad
section
attribute [local go_sem] Oper.semAt_some
theorem has_end {A : Nat} {w W : World} (D : Nat) {a : Act} {b c : Bool} {es : List Ent} {e : Ent} (tmps : Array Value) (hK : W.heap[D]? = some (.deferred (some []))) (y2 : Blk W (A + 1) #[.bool b] 4) (y3 : Blk W (A + 1 + 1) #[.bool c] 4) (iB : Below w.heap.size w W) (hD : w.heap.size ≤ D)
    (ha : a = { tmps := tmps, defers := [{ target := .collected D, args := #[] }] }) (h4 : tmps.getD 4 undef = .pointer (some ⟨A + 1, 0, none⟩)) (h5 : tmps.getD 5 undef = .pointer (some ⟨A + 1 + 1, 0, none⟩)) (hr : b = (hasF es e).1 ∧ c = (hasF es e).2) :
    bodyPostM Fence.wide 9 Try.prog Try.f23 (fun r w' => r = .returned (.tuple #[.bool (hasF es e).1, .bool (hasF es e).2]) ∧ Kept None w w') .ret a W := by
  subst ha
  have g := grownBy_putObj' W D (.deferred none)
  rw [Array.getD_eq_getD_getElem?] at h4 h5
  have hc2 : (W.putObj D (.deferred none)).cell? ⟨A + 1, 0, none⟩ = some (.bool b) := (y2.grown g (fun r e => by cases e; exact ⟨_, hK, rfl⟩)).cell 0
  have hc3 : (W.putObj D (.deferred none)).cell? ⟨A + 1 + 1, 0, none⟩ = some (.bool c) := (y3.grown g (fun r e => by cases e; exact ⟨_, hK, rfl⟩)).cell 0
  refine ⟨by simp, .inl ⟨_, _, rfl, run_takeDeferred hK, ?_⟩⟩
  refine ⟨.tuple #[.bool b, .bool c], ?_, by rw [hr.1, hr.2], kept_of_below (iB.trans (belowK_b (w := w) (Nat.le_refl _) W D _ _ hD hK rfl rfl))⟩
  simp [results, Try.f23, go_sem, hc2, hc3, h4, h5]
set_option maxRecDepth 100000 in
set_option maxHeartbeats 4000000 in
/-- admit.has. -/
theorem has (gf : Nat) (lb : Array Value) (es : List Ent) (e : Ent) (w : World) (hen : ∀ args w, (callFunc gf args).run Try.prog w = .ok (.enter gf args) w) (hT : ∀ W, Kept None w W → Tells gf lb w.heap.size es W) :
    Calls Try.prog 23 #[.func (.func gf) #[] lb, e.V] w fun r w' => r = .returned (.tuple #[.bool (hasF es e).1, .bool (hasF es e).2]) ∧ Kept None w w' := by
  refine (callsIn_wide (n := 9)).1 ?_
  obtain ⟨w1, hw1⟩ : ∃ z, z = ((w.alloc (.cells #[.string e.n, .int .i64 e.v, .int .u64 (e.k : Int)] 48)).alloc (.cells #[.bool false] 4)).alloc (.cells #[.bool false] 4) := ⟨_, rfl⟩
  refine callsIn_of_wp_marks Try.func23 rfl trivial ?_ rfl
  simp only [Try.ntmps23, List.size_toArray, List.length_cons, List.length_nil, Nat.reduceAdd, Nat.reduceSub, Array.replicate_succ, Array.replicate_zero, List.push_toArray, List.append_toArray, List.nil_append, List.cons_append]
  gi_wp2
  rw [show (((w.alloc (.cells (entC e).toArray 48)).alloc (.cells #[.bool false] 4)).alloc (.cells #[.bool false] 4)) = w1 from hw1.symm]
  have K1 : Kept None w w1 := hw1 ▸ (((Kept.refl None w).alloc _).alloc _).alloc _
  have hs1 : w1.heap.size = w.heap.size + 3 := by rw [hw1]; simp
  have bE : Blk w1 w.heap.size (entC e).toArray 48 := hw1 ▸ ((Blk.new w _ _).alloc _).alloc _
  have bI : Blk w1 (w.heap.size + 1) #[.bool false] 4 := hw1 ▸ (Blk.new2 w _ _ _).alloc _
  have bS : Blk w1 (w.heap.size + 1 + 1) #[.bool false] 4 := hw1 ▸ Blk.new3 w _ _ _ _
  clear hw1
  have hT1 := hT w1 K1
  obtain ⟨A, hA⟩ : ∃ z, z = w.heap.size := ⟨_, rfl⟩
  rw [← hA] at bE bI bS hT1 hs1 ⊢
  have hB1 : Below A w w1 := hA ▸ K1.below0
  have HA := hid hA
  clear hA hT K1
  refine wpIn_rangeFunc_ownH (F := Fence.wide) (n := 9) rfl (by decide) (gf := gf) (lb := lb) rfl trivial hen hT1 belowK_t (belowK_b (by omega)) (Below.refl _ _) (fun _ => rfl)
    (fun pre W => (Blk W A (entC e).toArray 48 ∧ Blk W (A + 1) #[.bool (pre.any (nvE e))] 4 ∧ Blk W (A + 1 + 1) #[.bool false] 4 ∧ pre.any (fun x => entEq x e) = false) ∧ Below A w W)
    (fun c pre W => (c = .ret ∧ Blk W (A + 1) #[.bool true] 4 ∧ Blk W (A + 1 + 1) #[.bool true] 4 ∧ pre.any (fun x => entEq x e) = true) ∧ Below A w W)
    (OwnFrom.and (OwnFrom.and (blk_own _ _ _ _) (OwnFrom.and (blk_own _ _ _ _) (OwnFrom.and (blk_own _ _ _ _) (ownFrom_pure _ _)))) (ownFrom_below (Nat.le_of_eq HA.out) (by omega)))
    (fun c => OwnFrom.and (OwnFrom.and (ownFrom_pure _ _) (OwnFrom.and (blk_own _ _ _ _) (OwnFrom.and (blk_own _ _ _ _) (ownFrom_pure _ _)))) (ownFrom_below (Nat.le_of_eq HA.out) (by omega)))
    ⟨⟨bE, bI, bS, rfl⟩, hB1⟩
    (fun x a' W => ∃ Bx, A + 1 + 1 < Bx ∧ Blk W Bx (entC x).toArray 48 ∧ a' = { tmps := #[.func (.func gf) #[] lb, e.V, undef, .pointer (some ⟨A, 0, none⟩), .pointer (some ⟨A + 1, 0, none⟩), .pointer (some ⟨A + 1 + 1, 0, none⟩), .pointer (some ⟨Bx, 0, none⟩), .func (.func gf) #[] lb, x.V, undef, undef, undef, undef, undef, undef, undef, undef, undef, undef, undef, undef, undef, undef, undef, undef, undef, undef, undef], defers := [] })
    (fun x a' _ X Y row hs hg hr => by obtain ⟨Bx, h1, h2, h3⟩ := hs; exact ⟨Bx, h1, h2.grown hg (fun k e => (hr k e).2), h3⟩)
    ?assign ?body ?done ?stop
  case assign =>
    rintro l pre x W K ⟨⟨i1, i2, i3, i4⟩, iB⟩ hK
    gi_wp2
    have hlt := i3.lt
    exact hK _ _ ((KeepsOthers.alloc _ _).from _) ((Below.refl A W).alloc (by omega) _) ⟨⟨i1.alloc _, i2.alloc _, i3.alloc _, i4⟩, iB.alloc (by omega) _⟩ ⟨W.heap.size, by omega, Blk.new W _ _, rfl⟩
  case body =>
    rintro l pre x a' W hl ⟨r, hr⟩ ⟨⟨i1, i2, i3, i4⟩, iB⟩ ⟨Bx, hBx, bX, rfl⟩ hlt
    have hq := fun W => Jk.eqEnt x e W
    obtain ⟨E, hE⟩ : ∃ E, E = entEq x e := ⟨_, rfl⟩
    obtain ⟨b, hb⟩ : ∃ b, b = pre.any (nvE e) := ⟨_, rfl⟩
    rw [← hE] at hq
    rw [← hb] at i2
    have c2 : W.cell? ⟨A + 1, 0, none⟩ = some (.bool b) := i2.cell 0
    have f2 : W.frozen? ⟨A + 1, 0, none⟩ = false := i2.free 0
    have c3 : W.cell? ⟨A + 1 + 1, 0, none⟩ = some (.bool false) := i3.cell 0
    have f3 : W.frozen? ⟨A + 1 + 1, 0, none⟩ = false := i3.free 0
    have HE := hid hE
    have HB := hid hb
    clear hE hb hr
    cases E with
    | true =>
      gi_wp2_with (first | (refine wpListIn_load_blk rfl rfl rfl bX Dr.aEnt ?_) | (refine wpListIn_load_blk rfl rfl rfl i1 Dr.aEnt ?_) | fail)
      have y2 : Blk ((W.setCell ⟨A + 1, 0, none⟩ (.bool true)).setCell ⟨A + 1 + 1, 0, none⟩ (.bool true)) (A + 1) #[.bool true] 4 := (i2.set 0 (.bool true)).setOther (by simp) _
      have y3 : Blk ((W.setCell ⟨A + 1, 0, none⟩ (.bool true)).setCell ⟨A + 1 + 1, 0, none⟩ (.bool true)) (A + 1 + 1) #[.bool true] 4 := (i3.setOther (by simp) _).set 0 (.bool true)
      exact ⟨((KeepsOthers.setCell _ _ _).trans (KeepsOthers.setCell _ _ _)).from _, ⟨rfl, y2, y3, by rw [eq_snoc, i4, ← HE.out]; rfl⟩, (iB.setCell (p := ⟨A + 1, 0, none⟩) (by simp) _).setCell (p := ⟨A + 1 + 1, 0, none⟩) (by simp; omega) _⟩
    | false =>
      have fin : ∀ v, v = (b || nvE e x) → ownPostG w1.heap.size (Below A) (fun pre W => (Blk W A (entC e).toArray 48 ∧ Blk W (A + 1) #[.bool (pre.any (nvE e))] 4 ∧ Blk W (A + 1 + 1) #[.bool false] 4 ∧ pre.any (fun x => entEq x e) = false) ∧ Below A w W) (fun c pre W => (c = .ret ∧ Blk W (A + 1) #[.bool true] 4 ∧ Blk W (A + 1 + 1) #[.bool true] 4 ∧ pre.any (fun x => entEq x e) = true) ∧ Below A w W) (pre ++ [x]) W Exit.normal { tmps := #[], defers := [] } (W.setCell ⟨A + 1, 0, none⟩ (.bool v)) := fun v hv =>
        ⟨(KeepsOthers.setCell _ _ _).from _, (Below.refl A W).setCell (p := ⟨A + 1, 0, none⟩) (by simp) _, ⟨i1.setOther (by simp) _, by rw [nv_snoc, ← HB.out, ← hv]; exact i2.set 0 (.bool v), i3.setOther (by simp) _, by rw [eq_snoc, i4, ← HE.out]; rfl⟩, iB.setCell (p := ⟨A + 1, 0, none⟩) (by simp) _⟩
      have x0 : W.cell? ⟨Bx, 0, none⟩ = some (.string x.n) := bX.cell 0
      have x1 : W.cell? ⟨Bx, 1, none⟩ = some (.int .i64 x.v) := bX.cell 1
      have e0 : W.cell? ⟨A, 0, none⟩ = some (.string e.n) := i1.cell 0
      have e1 : W.cell? ⟨A, 1, none⟩ = some (.int .i64 e.v) := i1.cell 1
      obtain ⟨M, hM⟩ : ∃ M, M = eqN x.n e.n := ⟨_, rfl⟩
      obtain ⟨N, hN⟩ : ∃ N, N = decide (x.v = e.v) := ⟨_, rfl⟩
      have m1 : (x.n.toList == e.n.toList) = M := by rw [hM]; rfl
      have n1 : (x.v == e.v) = N := by rw [hN]; rfl
      have hF : nvE e x = (M && N) := by rw [hM, hN]; rfl
      rw [hF] at fin
      have FIN := hid fin
      clear fin hF hM hN
      cases b with
      | true =>
        gi_wp2_with (first | (refine wpListIn_load_blk rfl rfl rfl bX Dr.aEnt ?_) | (refine wpListIn_load_blk rfl rfl rfl i1 Dr.aEnt ?_) | fail)
        exact FIN.out true rfl
      | false =>
        cases M with
        | true =>
          gi_wp2_with (first | (refine wpListIn_load_blk rfl rfl rfl bX Dr.aEnt ?_) | (refine wpListIn_load_blk rfl rfl rfl i1 Dr.aEnt ?_) | fail)
          exact FIN.out N rfl
        | false =>
          gi_wp2_with (first | (refine wpListIn_load_blk rfl rfl rfl bX Dr.aEnt ?_) | (refine wpListIn_load_blk rfl rfl rfl i1 Dr.aEnt ?_) | fail)
          exact FIN.out false rfl
  case done =>
    rintro D ys W hD rfl ⟨⟨i1, i2, i3, i4⟩, iB⟩ hK
    obtain ⟨b, hb⟩ : ∃ b, b = ys.any (nvE e) := ⟨_, rfl⟩
    rw [← hb] at i2
    have c2 : W.cell? ⟨A + 1, 0, none⟩ = some (.bool b) := i2.cell 0
    have f2 : W.frozen? ⟨A + 1, 0, none⟩ = false := i2.free 0
    have c3 : W.cell? ⟨A + 1 + 1, 0, none⟩ = some (.bool false) := i3.cell 0
    have f3 : W.frozen? ⟨A + 1 + 1, 0, none⟩ = false := i3.free 0
    have HB := hid hb
    clear hb
    gi_wp2
    have y2 : Blk ((W.setCell ⟨A + 1, 0, none⟩ (.bool b)).setCell ⟨A + 1 + 1, 0, none⟩ (.bool false)) (A + 1) #[.bool b] 4 := (i2.set 0 (.bool b)).setOther (by simp) _
    have y3 : Blk ((W.setCell ⟨A + 1, 0, none⟩ (.bool b)).setCell ⟨A + 1 + 1, 0, none⟩ (.bool false)) (A + 1 + 1) #[.bool false] 4 := (i3.setOther (by simp) _).set 0 (.bool false)
    have hK' := ((KeepsOthers.setCell W ⟨A + 1, 0, none⟩ (.bool b)).trans (KeepsOthers.setCell _ ⟨A + 1 + 1, 0, none⟩ (.bool false))).same D _ hK rfl
    have iB' := (iB.setCell (p := ⟨A + 1, 0, none⟩) (by simp) (.bool b)).setCell (p := ⟨A + 1 + 1, 0, none⟩) (by simp; omega) (.bool false)
    exact has_end D _ hK' y2 y3 (HA.out ▸ iB') (by have := HA.out; omega) rfl rfl rfl ⟨by unfold hasF; rw [← HB.out], by unfold hasF; rw [i4]⟩
  case stop =>
    rintro D c pre W hD hpre ⟨⟨rfl, i2, i3, i4⟩, iB⟩ hK
    gi_wp2
    refine has_end D _ hK i2 i3 (HA.out ▸ iB) (by have := HA.out; omega) rfl rfl rfl ⟨?_, by unfold hasF; rw [any_pre hpre i4]⟩
    unfold hasF
    obtain ⟨y, hy, he⟩ := List.any_eq_true.1 i4
    exact (any_pre hpre (List.any_eq_true.2 ⟨y, hy, entEq_nv he⟩)).symm
end
end Ad
end Go.Proofs.Ytdobmebhjmgkmaa
namespace Go.Pm
open Go Go.RowKit
/-- One step of the greatest of a name. -/
def gS (nm : ByteArray) (s : Ent × Bool) (x : Ent) : Ent × Bool := if eqN x.n nm && (!s.2 || decide (s.1.v < x.v)) then (x, true) else s
def gF (es : List Ent) (nm : ByteArray) : Ent × Bool := es.foldl (gS nm) (Ent.none, false)
theorem gF_snoc (pre : List Ent) (x : Ent) (nm : ByteArray) : gF (pre ++ [x]) nm = gS nm (gF pre nm) x := by unfold gF; rw [List.foldl_append]; rfl
end Go.Pm
namespace Go.Proofs.Ytdobmebhjmgkmaa
open Go.RowKit Go.Pm
namespace Ad
theorem great_end {A : Nat} {w W : World} (D : Nat) {a : Act} {es : List Ent} {nm : ByteArray} (tmps : Array Value) (hK : W.heap[D]? = some (.deferred (some []))) (y2 : Blk W (A + 1) (entC (gF es nm).1).toArray 48) (y3 : Blk W (A + 1 + 1) #[.bool (gF es nm).2] 4) (iB : Below w.heap.size w W) (hD : w.heap.size ≤ D)
    (ha : a = { tmps := tmps, defers := [{ target := .collected D, args := #[] }] }) (h4 : tmps.getD 4 undef = .pointer (some ⟨A + 1, 0, none⟩)) (h5 : tmps.getD 5 undef = .pointer (some ⟨A + 1 + 1, 0, none⟩)) :
    bodyPostM Fence.wide 9 Try.prog Try.f31 (fun r w' => r = .returned (.tuple #[(gF es nm).1.V, .bool (gF es nm).2]) ∧ Kept None w w') .ret a W := by
  subst ha
  have g := grownBy_putObj' W D (.deferred none)
  rw [Array.getD_eq_getD_getElem?] at h4 h5
  have hb2 := y2.grown g (fun r e => by cases e; exact ⟨_, hK, rfl⟩)
  have hc3 : (W.putObj D (.deferred none)).cell? ⟨A + 1 + 1, 0, none⟩ = some (.bool (gF es nm).2) := (y3.grown g (fun r e => by cases e; exact ⟨_, hK, rfl⟩)).cell 0
  refine ⟨by simp, .inl ⟨_, _, rfl, run_takeDeferred hK, ?_⟩⟩
  refine ⟨.tuple #[(gF es nm).1.V, .bool (gF es nm).2], ?_, rfl, kept_of_below (iB.trans (belowK_b (w := w) (Nat.le_refl _) W D _ _ hD hK rfl rfl))⟩
  have c0 : (W.putObj D (.deferred none)).cell? ⟨A + 1, 0, none⟩ = some (.string (gF es nm).1.n) := hb2.cell 0
  have c1 : (W.putObj D (.deferred none)).cell? ⟨A + 1, 1, none⟩ = some (.int .i64 (gF es nm).1.v) := hb2.cell 1
  have c2 : (W.putObj D (.deferred none)).cell? ⟨A + 1, 2, none⟩ = some (.int .u64 ((gF es nm).1.k : Int)) := hb2.cell 2
  simp [results, Try.f31, go_sem, c0, c1, c2, hc3, h4, h5]
section
attribute [local go_sem] Oper.semAt_some
set_option maxRecDepth 100000 in
set_option maxHeartbeats 4000000 in
/-- admit.greatest. -/
theorem greatest (gf : Nat) (lb : Array Value) (es : List Ent) (nm : ByteArray) (w : World) (hen : ∀ args w, (callFunc gf args).run Try.prog w = .ok (.enter gf args) w) (hT : ∀ W, Kept None w W → Tells gf lb w.heap.size es W) :
    Calls Try.prog 31 #[.func (.func gf) #[] lb, .string nm] w fun r w' => r = .returned (.tuple #[(gF es nm).1.V, .bool (gF es nm).2]) ∧ Kept None w w' := by
  refine (callsIn_wide (n := 9)).1 ?_
  obtain ⟨w1, hw1⟩ : ∃ z, z = ((w.alloc (.cells #[.string nm] 9)).alloc (.cells #[.string ⟨#[]⟩, .int .i64 0, .int .u64 0] 48)).alloc (.cells #[.bool false] 4) := ⟨_, rfl⟩
  refine callsIn_of_wp_marks Try.func31 rfl trivial (wpIn_wide.2 ?_) rfl
  simp only [Try.ntmps31, List.size_toArray, List.length_cons, List.length_nil, Nat.reduceAdd, Nat.reduceSub, Array.replicate_succ, Array.replicate_zero, List.push_toArray, List.append_toArray, List.nil_append, List.cons_append]
  go_wp2_with fail
  rw [show (((w.alloc (.cells #[.string nm] 9)).alloc (.cells #[.string ⟨#[]⟩, .int .i64 0, .int .u64 0] 48)).alloc (.cells #[.bool false] 4)) = w1 from hw1.symm]
  have hB1 : Below w.heap.size w w1 := hw1 ▸ ((((Kept.refl None w).alloc _).alloc _).alloc _).below0
  have hT1 := hT w1 (kept_of_below hB1)
  have hs1 : w1.heap.size = w.heap.size + 3 := by rw [hw1]; simp
  have bE : Blk w1 w.heap.size #[.string nm] 9 := hw1 ▸ ((Blk.new w _ _).alloc _).alloc _
  have bI : Blk w1 (w.heap.size + 1) (entC Ent.none).toArray 48 := hw1 ▸ (Blk.new2 w _ _ _).alloc _
  have bS : Blk w1 (w.heap.size + 1 + 1) #[.bool false] 4 := hw1 ▸ Blk.new3 w _ _ _ _
  clear hw1
  obtain ⟨A, hA⟩ : ∃ z, z = w.heap.size := ⟨_, rfl⟩
  rw [← hA] at bE bI bS hT1 hs1 hB1 ⊢
  have HA := hid hA
  clear hA hT
  refine wpIn_wide.1 (wpIn_rangeFunc_ownH (F := Fence.wide) (n := 9) rfl (by decide) (gf := gf) (lb := lb) rfl trivial hen hT1 belowK_t (belowK_b (by omega)) (Below.refl _ _) (fun _ => rfl)
    (fun pre W => (Blk W A #[.string nm] 9 ∧ Blk W (A + 1) (entC (gF pre nm).1).toArray 48 ∧ Blk W (A + 1 + 1) #[.bool (gF pre nm).2] 4) ∧ Below A w W)
    (fun _ _ _ => False)
    (OwnFrom.and (OwnFrom.and (blk_own _ _ _ _) (OwnFrom.and (blk_own _ _ _ _) (blk_own _ _ _ _))) (ownFrom_below (Nat.le_of_eq HA.out) (by omega)))
    (fun _ _ _ _ _ hs _ _ => hs)
    ⟨⟨bE, bI, bS⟩, hB1⟩
    (fun x a' W => ∃ Bx, A + 1 + 1 < Bx ∧ Blk W Bx (entC x).toArray 48 ∧ a' = { tmps := #[.func (.func gf) #[] lb, .string nm, undef, .pointer (some ⟨A, 0, none⟩), .pointer (some ⟨A + 1, 0, none⟩), .pointer (some ⟨A + 1 + 1, 0, none⟩), .pointer (some ⟨Bx, 0, none⟩), .func (.func gf) #[] lb, x.V, undef, undef, undef, undef, undef, undef, undef, undef, undef, undef, undef, undef, undef, undef, undef, undef, undef, undef], defers := [] })
    (fun x a' _ X Y row hs hg hr => by obtain ⟨Bx, h1, h2, h3⟩ := hs; exact ⟨Bx, h1, h2.grown hg (fun k e => (hr k e).2), h3⟩)
    ?assign ?body ?done ?stop)
  case assign =>
    rintro l pre x W K ⟨⟨i1, i2, i3⟩, iB⟩ hK
    gi_wp2
    have hlt := i3.lt
    exact hK _ _ ((KeepsOthers.alloc _ _).from _) ((Below.refl A W).alloc (by omega) _) ⟨⟨i1.alloc _, i2.alloc _, i3.alloc _⟩, iB.alloc (by omega) _⟩ ⟨W.heap.size, by omega, Blk.new W _ _, rfl⟩
  case body =>
    rintro l pre x a' W hl ⟨r, hr⟩ ⟨⟨i1, i2, i3⟩, iB⟩ ⟨Bx, hBx, bX, rfl⟩ hlt
    obtain ⟨⟨s, b⟩, hs⟩ : ∃ p, p = gF pre nm := ⟨_, rfl⟩
    rw [← hs] at i2 i3
    simp only at i2 i3
    have x0 : W.cell? ⟨Bx, 0, none⟩ = some (.string x.n) := bX.cell 0
    have x1 : W.cell? ⟨Bx, 1, none⟩ = some (.int .i64 x.v) := bX.cell 1
    have e0 : W.cell? ⟨A, 0, none⟩ = some (.string nm) := i1.cell 0
    have s1 : W.cell? ⟨A + 1, 1, none⟩ = some (.int .i64 s.v) := i2.cell 1
    have b0 : W.cell? ⟨A + 1 + 1, 0, none⟩ = some (.bool b) := i3.cell 0
    have f0 : W.frozen? ⟨A + 1 + 1, 0, none⟩ = false := i3.free 0
    have HS := hid hs
    obtain ⟨M, hM⟩ : ∃ M, M = eqN x.n nm := ⟨_, rfl⟩
    obtain ⟨N, hN⟩ : ∃ N, N = decide (s.v < x.v) := ⟨_, rfl⟩
    have m1 : (x.n.toList == nm.toList) = M := by rw [hM]; rfl
    have n1 : decide (s.v < x.v) = N := hN.symm
    have hG : gF (pre ++ [x]) nm = if (M && (!b || N)) = true then (x, true) else (s, b) := by
      rw [gF_snoc, ← hs, hM, hN]
      rfl
    have HG := hid hG
    have same : (M && (!b || N)) = false → ownPostG w1.heap.size (Below A) (fun pre W => (Blk W A #[.string nm] 9 ∧ Blk W (A + 1) (entC (gF pre nm).1).toArray 48 ∧ Blk W (A + 1 + 1) #[.bool (gF pre nm).2] 4) ∧ Below A w W) (fun _ _ _ => False) (pre ++ [x]) W Exit.normal { tmps := #[], defers := [] } W := fun h =>
      ⟨(KeepsOthers.refl _).from _, Below.refl _ _, ⟨i1, by rw [HG.out, h]; exact i2, by rw [HG.out, h]; exact i3⟩, iB⟩
    have turn : (M && (!b || N)) = true → ∀ W1, Blk W1 (A + 1) (entC x).toArray 48 → Kept (Just (A + 1)) W W1 → ownPostG w1.heap.size (Below A) (fun pre W => (Blk W A #[.string nm] 9 ∧ Blk W (A + 1) (entC (gF pre nm).1).toArray 48 ∧ Blk W (A + 1 + 1) #[.bool (gF pre nm).2] 4) ∧ Below A w W) (fun _ _ _ => False) (pre ++ [x]) W Exit.normal { tmps := #[], defers := [] } (W1.setCell ⟨A + 1 + 1, 0, none⟩ (.bool true)) := fun h W1 y2 k => by
      have j1 : Blk W1 A #[.string nm] 9 := i1.kept k (fun h : A = A + 1 => by omega)
      have j3 : Blk W1 (A + 1 + 1) #[.bool b] 4 := i3.kept k (fun h : A + 1 + 1 = A + 1 => by omega)
      have hb : Below A W W1 := ⟨k.os, k.tape, k.output, k.size, fun i hi => k.block i (by have := i1.lt; omega) (fun h : i = A + 1 => by omega)⟩
      have ho : KeepsOthers W W1 := KeepsOthers.of_grownBy (row := some (A + 1)) ⟨k.os, k.tape, k.output, k.size, fun i hi hs => k.block i hi (fun h => hs (by rw [show i = A + 1 from h]))⟩ (fun j o ej hj => by
        cases ej
        rw [show W.heap[A + 1]? = _ from i2] at hj
        cases hj
        rfl)
      exact ⟨(ho.trans (KeepsOthers.setCell _ _ _)).from _, hb.setCell (p := ⟨A + 1 + 1, 0, none⟩) (by simp; omega) _, ⟨j1.setOther (by simp; omega) _, by rw [HG.out, h]; exact y2.setOther (by simp) _, by rw [HG.out, h]; exact j3.set 0 (.bool true)⟩, (iB.trans hb).setCell (p := ⟨A + 1 + 1, 0, none⟩) (by simp; omega) _⟩
    have SAME := hid same
    have TURN := hid turn
    clear hs hM hN hG same turn hr
    cases M with
    | false =>
      gi_wp2_with fail
      exact SAME.out rfl
    | true =>
      cases b with
      | false =>
        gi_wp2_with (first | (refine wpListIn_load_blk rfl rfl rfl bX Dr.aEnt ?_) | (refine wpListIn_store_blk rfl rfl rfl rfl i2 Dr.aEnt rfl (Dr.ent_all x) ?_; intro W1 y2 k2; have z0 : W1.cell? ⟨A + 1 + 1, 0, none⟩ = some (.bool false) := (k2.cell i3.lt (fun h : A + 1 + 1 = A + 1 => by omega)).trans b0; have z1 : W1.frozen? ⟨A + 1 + 1, 0, none⟩ = false := (k2.frozen i3.lt (fun h : A + 1 + 1 = A + 1 => by omega)).trans f0) | fail)
        exact TURN.out rfl _ y2 k2
      | true =>
        cases N with
        | false =>
          gi_wp2_with fail
          exact SAME.out rfl
        | true =>
          gi_wp2_with (first | (refine wpListIn_load_blk rfl rfl rfl bX Dr.aEnt ?_) | (refine wpListIn_store_blk rfl rfl rfl rfl i2 Dr.aEnt rfl (Dr.ent_all x) ?_; intro W1 y2 k2; have z0 : W1.cell? ⟨A + 1 + 1, 0, none⟩ = some (.bool true) := (k2.cell i3.lt (fun h : A + 1 + 1 = A + 1 => by omega)).trans b0; have z1 : W1.frozen? ⟨A + 1 + 1, 0, none⟩ = false := (k2.frozen i3.lt (fun h : A + 1 + 1 = A + 1 => by omega)).trans f0) | fail)
          exact TURN.out rfl _ y2 k2
  case done =>
    rintro D ys W hD rfl ⟨⟨i1, i2, i3⟩, iB⟩ hK
    go_upto_region 5 with fail
    obtain ⟨⟨s, b⟩, hs⟩ : ∃ p, p = gF ys nm := ⟨_, rfl⟩
    rw [← hs] at i2 i3
    simp only at i2 i3
    have HS := hid hs
    clear hs
    refine wp_region_plan (fun X => Blk X (A + 1) (entC s).toArray 48 ∧ Blk X (A + 1 + 1) #[.bool b] 4 ∧ Kept (fun i => i = A + 1 ∨ i = A + 1 + 1) W X) [{ k := 2, uses := [] }, { k := 3, uses := [] }] [] (by kernel_rfl) (by kernel_rfl) (by kernel_rfl) (by rfl) ?pures ⟨i2.drew, i3.drew, (Kept.refl _ _).drew⟩ (fun k hk => by cases hk) ?walk
    case pures =>
      intro f hf
      simp only [List.mem_cons, List.not_mem_nil, or_false] at hf
      rcases hf with rfl | rfl
      · exact ⟨undef, trivial⟩
      · exact ⟨undef, trivial⟩
    case walk =>
      refine wpPar_pure rfl (by rfl) _ (fun X hX => exec_load_blk _ _ rfl rfl hX.1 Dr.aEnt) ?_
      simp only [Act.put, List.setIfInBounds_toArray, List.set_cons_zero, List.set_cons_succ]
      refine wpPar_pure rfl (by rfl) (.bool b) (fun X hX => by
        have c3 : X.cell? ⟨A + 1 + 1, 0, none⟩ = some (.bool b) := hX.2.1.cell 0
        go_simp) ?_
      simp only [Act.put, List.setIfInBounds_toArray, List.set_cons_zero, List.set_cons_succ]
      refine wpPar_adds rfl (by rfl) (fun X hX _ => ?_) (fun v _ => ?_)
      · unfold Gives
        rw [exec_store_blk rfl rfl rfl hX.1 Dr.aEnt rfl (Dr.ent_all s)]
        exact ⟨⟨hX.1.setRow _, hX.2.1.setRowOther (by simp) _, hX.2.2.setRow (fun _ => .inl rfl) _⟩, trivial, trivial, keeps_of fun f hf _ _ _ _ _ => by
          simp only [List.mem_cons, List.not_mem_nil, or_false] at hf
          rcases hf with rfl | rfl <;> exact trivial⟩
      simp only [Act.put]
      refine wpPar_adds rfl (by rfl) (fun X hX _ => ?_) (fun v _ => ?_)
      · have c3 : X.cell? ⟨A + 1 + 1, 0, none⟩ = some (.bool b) := hX.2.1.cell 0
        have f3 : X.frozen? ⟨A + 1 + 1, 0, none⟩ = false := hX.2.1.free 0
        have HX := hid hX
        clear hX
        unfold Gives
        go_simp
        exact ⟨⟨HX.out.1.setOther (by simp) _, HX.out.2.1.set 0 (.bool b), HX.out.2.2.setCell (fun _ => .inr rfl) _⟩, trivial, trivial, keeps_of fun f hf _ _ _ _ _ => by
          simp only [List.mem_cons, List.not_mem_nil, or_false] at hf
          rcases hf with rfl | rfl <;> exact trivial⟩
      simp only [Act.put]
      refine wpPar_nil (fun X hX _ => ?_)
      obtain ⟨y2, y3, k⟩ := hX
      have hlt := i3.lt
      have hd : X.heap[D]? = some (.deferred (some [])) := (k.block D (Array.getElem?_eq_some_iff.1 hK).1 (by omega)).trans hK
      have hb : Below A w X := iB.trans ⟨k.os, k.tape, k.output, k.size, fun i hi => k.block i (by omega) (by omega)⟩
      go_wp2_with fail
      exact great_end D _ hd (by rw [← HS.out]; exact y2) (by rw [← HS.out]; exact y3) (HA.out ▸ hb) (by have := HA.out; omega) rfl rfl rfl
  case stop =>
    rintro D c pre W hD hpre h hK
    exact h.elim
end
end Ad
end Go.Proofs.Ytdobmebhjmgkmaa
namespace Go.Pm
open Go Go.RowKit
theorem gF_lat (l : List Kno) (nm : ByteArray) : gF (entsK l) nm = ((latF l nm).1.e, (latF l nm).2) := by
  have g : ∀ (l : List Kno) (s : Kno × Bool), (entsK l).foldl (gS nm) (s.1.e, s.2) = ((l.foldl (latS nm) s).1.e, (l.foldl (latS nm) s).2) := by
    intro l
    induction l with
    | nil => intro s; rfl
    | cons x l ih =>
      intro s
      show (entsK l).foldl (gS nm) (gS nm (s.1.e, s.2) x.e) = _
      rw [List.foldl_cons, ← ih]
      congr 1
      unfold gS latS
      split <;> rfl
  exact g l (Kno.none, false)
theorem gF_cons (s : Ent × Bool) (x : Ent) (es : List Ent) (nm : ByteArray) : (x :: es).foldl (gS nm) s = es.foldl (gS nm) (gS nm s x) := rfl
/-- The greatest is none, or one of them. -/
theorem gF_mem (es : List Ent) (nm : ByteArray) : (gF es nm).2 = false ∧ (gF es nm).1 = Ent.none ∨ (gF es nm).2 = true ∧ (gF es nm).1 ∈ es := by
  have g : ∀ (es pre : List Ent) (s : Ent × Bool), (s.2 = false ∧ s.1 = Ent.none ∨ s.2 = true ∧ s.1 ∈ pre) → ((es.foldl (gS nm) s).2 = false ∧ (es.foldl (gS nm) s).1 = Ent.none ∨ (es.foldl (gS nm) s).2 = true ∧ (es.foldl (gS nm) s).1 ∈ pre ++ es) := by
    intro es
    induction es with
    | nil => intro pre s h; simpa using h
    | cons x es ih =>
      intro pre s h
      rw [gF_cons, List.append_cons]
      refine ih _ _ ?_
      unfold gS
      split
      · exact .inr ⟨rfl, List.mem_append.2 (.inr (List.mem_singleton.2 rfl))⟩
      · exact h.imp id (fun h => ⟨h.1, List.mem_append.2 (.inl h.2)⟩)
  exact g es [] (Ent.none, false) (.inl ⟨rfl, rfl⟩)
theorem nx_gF (v0 : Int) (k0 : Nat) (p : List Pn) (nm : ByteArray) : nxF (v0, k0) p nm = if ((gF (entsQ p) nm).2 && decide (v0 < (gF (entsQ p) nm).1.v)) = true then ((gF (entsQ p) nm).1.v, (gF (entsQ p) nm).1.k) else (v0, k0) := by
  have g : ∀ (p : List Pn) (s : Ent × Bool), p.foldl (nxS nm) (if (s.2 && decide (v0 < s.1.v)) = true then (s.1.v, s.1.k) else (v0, k0)) = if (((entsQ p).foldl (gS nm) s).2 && decide (v0 < ((entsQ p).foldl (gS nm) s).1.v)) = true then (((entsQ p).foldl (gS nm) s).1.v, ((entsQ p).foldl (gS nm) s).1.k) else (v0, k0) := by
    intro p
    induction p with
    | nil => intro s; rfl
    | cons x p ih =>
      intro s
      show p.foldl (nxS nm) (nxS nm _ x) = _
      rw [show entsQ (x :: p) = ⟨x.u.n, x.u.v, x.u.k⟩ :: entsQ p from rfl, gF_cons, ← ih]
      congr 1
      obtain ⟨⟨sn, sv, sk⟩, b⟩ := s
      unfold nxS gS
      cases hM : eqN x.u.n nm with
      | false => simp
      | true =>
        cases b with
        | false =>
          by_cases h : v0 < x.u.v
          · simp [h]
          · simp [h]
        | true =>
          by_cases h1 : v0 < sv
          · by_cases h2 : sv < x.u.v
            · simp [h1, h2, show v0 < x.u.v by omega]
            · simp [h1, h2]
          · by_cases h2 : sv < x.u.v
            · by_cases h3 : v0 < x.u.v
              · simp [h1, h2, h3]
              · simp [h1, h2, h3]
            · simp [h1, h2, show ¬ v0 < x.u.v by omega]
  exact g p (Ent.none, false)
/-- What admit.Next goes by. -/
theorem nextP_gF {l : List Kno} {p : List Pn} {nm : ByteArray} (hp : PnOk p) {a b : Ent} {x y : Bool} (ha : (a, x) = gF (entsK l) nm) (hb : (b, y) = gF (entsQ p) nm) :
    nextP l p nm = if (y && (!x || decide (a.v < b.v))) = true then (wrap64 (b.v + 1), b.k) else (wrap64 (a.v + 1), a.k) := by
  have h1 : (latF l nm).1.e = a := by have := gF_lat l nm; rw [← ha] at this; injection this with h _; exact h.symm
  unfold nextP
  rw [h1, nx_gF a.v a.k p nm, ← hb]
  simp only
  have hy := gF_mem (entsQ p) nm
  have hx := gF_mem (entsK l) nm
  rw [← hb] at hy
  rw [← ha] at hx
  cases y with
  | false => simp
  | true =>
    cases x with
    | true => simp only [Bool.true_and, Bool.not_true, Bool.false_or]; split <;> rfl
    | false =>
      have h2 : a = Ent.none := by
        rcases hx with h | h
        · exact h.2
        · cases h.1
      have h3 : 1 ≤ b.v := by
        rcases hy with h | h
        · cases h.1
        · obtain ⟨z, hz, he⟩ := List.mem_map.1 h.2
          have he : (⟨z.u.n, z.u.v, z.u.k⟩ : Ent) = b := he
          rw [← he]
          exact hp.pos z hz
      have h4 : a.v < b.v := by rw [h2]; show (0 : Int) < b.v; omega
      simp [h4]
end Go.Pm
namespace Go.Proofs.Ytdobmebhjmgkmaa
open Go.RowKit Go.Pm
namespace Ad
theorem en_pub (args : Array Value) (w : World) : (callFunc 37 args).run Try.prog w = .ok (.enter 37 args) w := Go.Proofs.enters_of Try.func37 (by kernel_rfl) rfl args w
theorem en_wait (args : Array Value) (w : World) : (callFunc 38 args).run Try.prog w = .ok (.enter 38 args) w := Go.Proofs.enters_of Try.func38 (by kernel_rfl) rfl args w
/-- Behind published: what it hands back tells all. -/
theorem pub_tells {w w0 : World} {v : Value} {lo hi : Nat} {l : List Kno} (hv : Ps 4 w lo hi v (knosC l)) (hl : l.length ≤ 1000000) (hk : Kept None w w0) {t : TypeId} : ∀ W, Kept None (w0.alloc (.cells #[v] t)) W → Tells 37 #[.pointer (some ⟨w0.heap.size, 0, none⟩)] (w0.alloc (.cells #[v] t)).heap.size (entsK l) W := fun W hW => by
  have hs : (w0.alloc (.cells #[v] t)).heap.size = w0.heap.size + 1 := by simp
  have hb := (Blk.new w0 #[v] t).kept hW (fun h => h)
  have h2 := hW.size
  have h3 := hk.size
  exact published1 w0.heap.size _ lo (min hi w.heap.size) v l W (by omega) (by omega) (hb.cell 0) ((hv.lt.kept hk (fun _ _ _ h => h)).kept (((Kept.refl None w0).alloc _).trans hW) (fun _ _ _ h => h)) (by omega) hl
theorem wait_tells {w w0 : World} {v : Value} {lo hi : Nat} {l : List Pn} (hv : Ps 9 w lo hi v (pensC l)) (hl : l.length ≤ 1000000) (hk : Kept None w w0) {t : TypeId} : ∀ W, Kept None (w0.alloc (.cells #[v] t)) W → Tells 38 #[.pointer (some ⟨w0.heap.size, 0, none⟩)] (w0.alloc (.cells #[v] t)).heap.size (entsQ l) W := fun W hW => by
  have hs : (w0.alloc (.cells #[v] t)).heap.size = w0.heap.size + 1 := by simp
  have hb := (Blk.new w0 #[v] t).kept hW (fun h => h)
  have h2 := hW.size
  have h3 := hk.size
  exact waiting1 w0.heap.size _ lo (min hi w.heap.size) v l W (by omega) (by omega) (hb.cell 0) ((hv.lt.kept hk (fun _ _ _ h => h)).kept (((Kept.refl None w0).alloc _).trans hW) (fun _ _ _ h => h)) (by omega) hl
set_option maxRecDepth 100000 in
set_option maxHeartbeats 4000000 in
/-- admit.Next. -/
theorem next : NextC := by
  intro v v' lo hi lo' hi' l p nm w hv hv' _ _ hp hl hpl
  obtain ⟨a, cap, rfl, _⟩ := hv.form
  obtain ⟨a', cap', rfl, _⟩ := hv'.form
  have HT := hid (fun w0 hk => pub_tells (w0 := w0) hv hl hk (t := 29))
  have HT' := hid (fun w0 hk => wait_tells (w0 := w0) hv' hpl hk (t := 30))
  rw [knosC_len] at HT ⊢
  rw [pensC_len] at HT' ⊢
  obtain ⟨n, hn⟩ : ∃ n, n = l.length := ⟨_, rfl⟩
  obtain ⟨n', hn'⟩ : ∃ n, n = p.length := ⟨_, rfl⟩
  obtain ⟨⟨sa, ba⟩, ha⟩ : ∃ z, z = gF (entsK l) nm := ⟨_, rfl⟩
  obtain ⟨⟨sb, bb⟩, hb⟩ : ∃ z, z = gF (entsQ p) nm := ⟨_, rfl⟩
  have hnx := nextP_gF hp ha hb
  have G := fun w0 lb h => greatest 37 lb (entsK l) nm w0 en_pub h
  have G' := fun w0 lb h => greatest 38 lb (entsQ p) nm w0 en_wait h
  rw [← ha] at G
  rw [← hb] at G'
  rw [← hn] at HT ⊢
  rw [← hn'] at HT' ⊢
  obtain ⟨⟨r1, r2⟩, hr⟩ : ∃ z, z = nextP l p nm := ⟨_, rfl⟩
  rw [← hr] at hnx ⊢
  have HX := hid hnx
  have HG := hid G
  have HG' := hid G'
  clear hv hv' hn hn' ha hb hnx hr G G' hp hl hpl
  go_enter Try.func15, Try.ntmps15
  go_wp2_with fail
  refine (published a n cap w).mono ?_
  rintro e w1 ⟨rfl, hw1⟩
  have hT1 := HT.out w (Kept.refl _ _)
  rw [← hw1] at hT1
  have K1 : Kept None w w1 := hw1 ▸ (Kept.refl None w).alloc _
  clear hw1
  go_wp2_with fail
  refine (HG.out w1 _ hT1).mono ?_
  rintro e w2 ⟨rfl, k2⟩
  have K2 := hid (K1.trans k2)
  clear hT1 K1 k2
  go_wp2_with fail
  have K3 := hid (K2.out.alloc (.cells #[.string sa.n, .int .i64 sa.v, .int .u64 (sa.k : Int)] 48))
  have B3 := hid (Blk.new w2 (entC sa).toArray 48)
  obtain ⟨w3, hw3⟩ : ∃ z, z = w2.alloc (.cells #[.string sa.n, .int .i64 sa.v, .int .u64 (sa.k : Int)] 48) := ⟨_, rfl⟩
  obtain ⟨g3, hg3⟩ : ∃ z, z = w2.heap.size := ⟨_, rfl⟩
  have hg : w.heap.size ≤ g3 := hg3 ▸ K2.out.size
  rw [show w2.alloc (.cells (entC sa).toArray 48) = w3 from hw3.symm] at B3
  rw [← hw3] at K3 ⊢
  rw [← hg3] at B3 ⊢
  clear hw3 hg3 K2
  refine (waiting a' n' cap' w3).mono ?_
  rintro e w4 ⟨rfl, hw4⟩
  have hT4 := HT'.out w3 K3.out
  rw [← hw4] at hT4
  have k4 : Kept None w3 w4 := hw4 ▸ (Kept.refl None w3).alloc _
  clear hw4
  go_wp2_with fail
  refine (HG'.out w4 _ hT4).mono ?_
  rintro e w5 ⟨rfl, k5⟩
  have K5 := hid (K3.out.trans (k4.trans k5))
  have B5 := hid (B3.out.kept (k4.trans k5) (fun h => h))
  clear hT4 k4 k5 K3 B3 HT HT' HG HG'
  go_upto_region 3 with fail
  have K6 := hid (K5.out.alloc (.cells #[.string sb.n, .int .i64 sb.v, .int .u64 (sb.k : Int)] 48))
  have B6 := hid (B5.out.alloc (.cells #[.string sb.n, .int .i64 sb.v, .int .u64 (sb.k : Int)] 48))
  have C6 := hid (Blk.new w5 (entC sb).toArray 48)
  obtain ⟨w6, hw6⟩ : ∃ z, z = w5.alloc (.cells #[.string sb.n, .int .i64 sb.v, .int .u64 (sb.k : Int)] 48) := ⟨_, rfl⟩
  have hlt6 : g3 < w5.heap.size := B5.out.lt
  obtain ⟨g6, hg6⟩ : ∃ z, z = w5.heap.size := ⟨_, rfl⟩
  rw [show w5.alloc (.cells (entC sb).toArray 48) = w6 from hw6.symm] at C6
  rw [← hw6] at K6 B6 ⊢
  rw [← hg6] at C6 hlt6 ⊢
  clear hw6 hg6 K5 B5
  have b6 := B6.out
  have c6 := C6.out
  have a1 : w6.cell? ⟨g3, 1, none⟩ = some (.int .i64 sa.v) := b6.cell 1
  have a2 : w6.cell? ⟨g3, 2, none⟩ = some (.int .u64 (sa.k : Int)) := b6.cell 2
  have d1 : w6.cell? ⟨g6, 1, none⟩ = some (.int .i64 sb.v) := c6.cell 1
  obtain ⟨N, hN⟩ : ∃ N, N = decide (sa.v < sb.v) := ⟨_, rfl⟩
  have n1 : decide (sa.v < sb.v) = N := hN.symm
  rw [← hN] at HX
  clear hN
  have stay : (bb && (!ba || N)) = false → (r1, r2) = (wrap64 (sa.v + 1), sa.k) := fun h => by rw [HX.out, h]; rfl
  have turn : (bb && (!ba || N)) = true → (r1, r2) = (wrap64 (sb.v + 1), sb.k) := fun h => by rw [HX.out, h]; rfl
  have STAY := hid stay
  have TURN := hid turn
  clear stay turn HX
  cases bb with
  | false =>
    have e := STAY.out rfl
    injection e with e1 e2
    subst e1 e2
    go_upto_region 5 with (first | go_skip | fail)
    go_quiet (fail)
    go_wp2
    go_ret2
    exact ⟨rfl, K6.out.drewN _⟩
  | true =>
    cases ba with
    | false =>
      have e := TURN.out rfl
      injection e with e1 e2
      subst e1 e2
      go_upto_region 5 with (first | go_skip | (refine wpList_load_blk rfl _ _ rfl rfl c6 Dr.aEnt ?_) | (refine wpList_store_blk rfl _ _ _ rfl rfl rfl b6 Dr.aEnt rfl (Dr.ent_all sb) ?_; intro w7 b7 k7) | fail)
      have z1 : w7.cell? ⟨g3, 1, none⟩ = some (.int .i64 sb.v) := b7.cell 1
      have z2 : w7.cell? ⟨g3, 2, none⟩ = some (.int .u64 (sb.k : Int)) := b7.cell 2
      have K7 := hid (K6.out.then k7 (fun i hi (h : i = g3) => by omega))
      clear a1 a2 d1 b6 c6 k7 b7
      go_quiet (fail)
      go_wp2
      go_ret2
      exact ⟨congrArg (fun z => Ending.returned (Value.tuple #[.int .i64 z, .int .u64 (sb.k : Int)])) (show IntKind.i64.wrap (sb.v + 1) = wrap64 (sb.v + 1) by rw [IntKind.wrap_i64, wrap64]), K7.out.drewN _⟩
    | true =>
      cases N with
      | false =>
        have e := STAY.out rfl
        injection e with e1 e2
        subst e1 e2
        go_upto_region 5 with (first | go_skip | fail)
        go_quiet (fail)
        go_wp2
        go_ret2
        exact ⟨rfl, K6.out.drewN _⟩
      | true =>
        have e := TURN.out rfl
        injection e with e1 e2
        subst e1 e2
        go_upto_region 5 with (first | go_skip | (refine wpList_load_blk rfl _ _ rfl rfl c6 Dr.aEnt ?_) | (refine wpList_store_blk rfl _ _ _ rfl rfl rfl b6 Dr.aEnt rfl (Dr.ent_all sb) ?_; intro w7 b7 k7) | fail)
        have z1 : w7.cell? ⟨g3, 1, none⟩ = some (.int .i64 sb.v) := b7.cell 1
        have z2 : w7.cell? ⟨g3, 2, none⟩ = some (.int .u64 (sb.k : Int)) := b7.cell 2
        have K7 := hid (K6.out.then k7 (fun i hi (h : i = g3) => by omega))
        clear a1 a2 d1 b6 c6 k7 b7
        go_quiet (fail)
        go_wp2
        go_ret2
        exact ⟨congrArg (fun z => Ending.returned (Value.tuple #[.int .i64 z, .int .u64 (sb.k : Int)])) (show IntKind.i64.wrap (sb.v + 1) = wrap64 (sb.v + 1) by rw [IntKind.wrap_i64, wrap64]), K7.out.drewN _⟩
end Ad
end Go.Proofs.Ytdobmebhjmgkmaa
namespace Go.Pm
open Go Go.RowKit
abbrev entU (u : Req) : Ent := ⟨u.n, u.v, u.k⟩
theorem nvE_iff {e x : Ent} : nvE e x = true ↔ x.n.toList = e.n.toList ∧ x.v = e.v := by
  unfold nvE
  rw [Bool.and_eq_true, eqN_iff, decide_eq_true_eq]
theorem entEq_key {e x : Ent} (h : nvE e x = true) : entEq x e = decide (x.k = e.k) := by
  obtain ⟨h1, h2⟩ := nvE_iff.1 h
  by_cases hk : x.k = e.k
  · rw [decide_eq_true hk]
    unfold entEq
    simp [h1, h2, hk]
  · rw [decide_eq_false hk]
    unfold entEq
    have h3 : ((x.k : Int) == (e.k : Int)) = false := by
      rw [beq_eq_false_iff_ne]
      omega
    rw [h3]
    simp
/-- Of a name and version there is one key: it tells whether there is the same. -/
theorem has_one {es : List Ent} {e x : Ent} (hx : x ∈ es) (h : nvE e x = true) (hs : ∀ y ∈ es, nvE e y = true → y.k = x.k) : hasF es e = (true, decide (x.k = e.k)) := by
  unfold hasF
  rw [List.any_eq_true.2 ⟨x, hx, h⟩]
  congr 1
  by_cases hk : x.k = e.k
  · rw [decide_eq_true hk]
    exact List.any_eq_true.2 ⟨x, hx, by rw [entEq_key h, decide_eq_true hk]⟩
  · rw [decide_eq_false hk]
    refine List.any_eq_false.2 (fun y hy h2 => ?_)
    have h3 := entEq_nv h2
    rw [entEq_key h3, hs y hy h3, decide_eq_false hk] at h2
    cases h2
theorem has_not {es : List Ent} {e : Ent} (h : ∀ x ∈ es, nvE e x = false) : (hasF es e).1 = false := List.any_eq_false.2 (fun x hx h2 => by rw [h x hx] at h2; cases h2)
theorem fin_has {l : List Kno} (hl : RtK l) (u : Req) : (finK l u.n u.v).2 = (hasF (entsK l) (entU u)).1 ∧ ((finK l u.n u.v).2 = true → decide ((finK l u.n u.v).1.e.k = u.k) = (hasF (entsK l) (entU u)).2) := by
  by_cases h : ∃ x ∈ l, nvE (entU u) x.e = true
  · obtain ⟨x, hx, hn⟩ := h
    obtain ⟨h1, h2⟩ := nvE_iff.1 hn
    have hf := finK_some hl.lt hx h1 h2
    have hh := has_one (es := entsK l) (e := entU u) (x := x.e) (List.mem_map.2 ⟨x, hx, rfl⟩) hn (fun y hy h3 => by
      obtain ⟨z, hz, rfl⟩ := List.mem_map.1 hy
      obtain ⟨g1, g2⟩ := nvE_iff.1 h3
      rw [key_one hl.lt hz hx (g1.trans h1.symm) (g2.trans h2.symm)])
    rw [hf, hh]
    exact ⟨rfl, fun _ => rfl⟩
  · have hf := finK_none (l := l) (nm := u.n) (v := u.v) (fun x hx h1 h2 => h ⟨x, hx, nvE_iff.2 ⟨h1, h2⟩⟩)
    have hh := has_not (es := entsK l) (e := entU u) (fun y hy => by
      obtain ⟨z, hz, rfl⟩ := List.mem_map.1 hy
      cases hq : nvE (entU u) z.e with
      | false => rfl
      | true => exact absurd ⟨z, hz, hq⟩ h)
    rw [hf, hh]
    exact ⟨rfl, fun h => by cases h⟩
theorem isP_nv (u : Req) (x : Pn) : isP u.n u.v x = nvE (entU u) (entU x.u) := rfl
theorem wait_has {p : List Pn} (hp : PnOk p) (u : Req) : waitP p u.n u.v = Option.none ∧ (hasF (entsQ p) (entU u)).1 = false ∨ ∃ x, waitP p u.n u.v = some x ∧ hasF (entsQ p) (entU u) = (true, decide (x.u.k = u.k)) := by
  cases hw : waitP p u.n u.v with
  | none =>
    refine .inl ⟨rfl, has_not (fun y hy => ?_)⟩
    obtain ⟨z, hz, rfl⟩ := List.mem_map.1 hy
    have := List.find?_eq_none.1 hw z hz
    rw [isP_nv] at this
    exact Bool.eq_false_iff.2 this
  | some x =>
    have h1 := List.mem_of_find?_eq_some hw
    have h2 := List.find?_some hw
    rw [isP_nv] at h2
    obtain ⟨g1, g2⟩ := nvE_iff.1 h2
    exact .inr ⟨x, rfl, has_one (x := entU x.u) (List.mem_map.2 ⟨x, h1, rfl⟩) h2 (fun y hy h3 => by
      obtain ⟨z, hz, rfl⟩ := List.mem_map.1 hy
      obtain ⟨k1, k2⟩ := nvE_iff.1 h3
      exact hp.same z hz x h1 (k1.trans g1.symm) (k2.trans g2.symm))⟩
/-- What again tells. -/
def agP (kind : Int) (s : Bool) : Int × Int := if s = true then (kind, 0) else (0, 26)
theorem keyP_ag (k : Nat) (u : Req) (kind : Int) : keyP k u kind = agP kind (decide (k = u.k)) := by
  unfold keyP agP
  by_cases h : k = u.k
  · rw [if_pos h, if_pos (decide_eq_true h)]
  · rw [if_neg h, if_neg (by simpa using h)]
theorem decP_no {l : List Kno} {p : List Pn} {u : Req} (h : u.right = false) : decP l p u = (0, 23) := by
  unfold decP
  rw [h]
  rfl
theorem decP_done {l : List Kno} {p : List Pn} {u : Req} (hl : RtK l) (h : u.right = true) (h1 : (hasF (entsK l) (entU u)).1 = true) : decP l p u = agP 2 (hasF (entsK l) (entU u)).2 := by
  obtain ⟨f1, f2⟩ := fin_has hl u
  unfold decP
  rw [h1] at f1
  rw [if_pos h, if_pos f1, keyP_ag, f2 f1]
theorem decP_wait {l : List Kno} {p : List Pn} {u : Req} (hl : RtK l) (hp : PnOk p) (h : u.right = true) (h1 : (hasF (entsK l) (entU u)).1 = false) (h2 : (hasF (entsQ p) (entU u)).1 = true) : decP l p u = agP 1 (hasF (entsQ p) (entU u)).2 := by
  obtain ⟨f1, _⟩ := fin_has hl u
  unfold decP
  rw [h1] at f1
  rw [if_pos h, if_neg (by rw [f1]; decide)]
  rcases wait_has hp u with ⟨_, g⟩ | ⟨x, g1, g2⟩
  · rw [g] at h2
    cases h2
  · rw [g1, g2]
    exact keyP_ag _ _ _
theorem decP_new {l : List Kno} {p : List Pn} {u : Req} (hl : RtK l) (hp : PnOk p) (h : u.right = true) (h1 : (hasF (entsK l) (entU u)).1 = false) (h2 : (hasF (entsQ p) (entU u)).1 = false) : decP l p u = freshP (nextP l p u.n) u := by
  obtain ⟨f1, _⟩ := fin_has hl u
  unfold decP
  rw [h1] at f1
  rw [if_pos h, if_neg (by rw [f1]; decide)]
  rcases wait_has hp u with ⟨g, _⟩ | ⟨x, g1, g2⟩
  · rw [g]
    rfl
  · rw [g2] at h2
    cases h2
end Go.Pm
namespace Go.Proofs.Ytdobmebhjmgkmaa
open Go.RowKit Go.Pm
namespace Ad
set_option maxHeartbeats 1000000 in
theorem again (kind : Int) (s : Bool) (w : World) : Calls Try.prog 25 #[.int .i64 kind, .bool s] w fun e w' => e = .returned (.tuple #[.int .i64 (agP kind s).1, .int .i64 (agP kind s).2]) ∧ Kept None w w' := by
  cases s with
  | false =>
    go_enter Try.func25, Try.ntmps25
    go_wp2_with fail
    go_ret2
    exact ⟨rfl, Kept.refl _ _⟩
  | true =>
    go_enter Try.func25, Try.ntmps25
    go_wp2_with fail
    go_ret2
    exact ⟨rfl, Kept.refl _ _⟩
theorem pub_at {w W : World} {g : Nat} {v : Value} {lo hi : Nat} {l : List Kno} (hv : Ps 4 w lo hi v (knosC l)) (hl : l.length ≤ 1000000) (hk : Kept None w W) {t : TypeId} (hb : Blk W g #[v] t) : ∀ W', Kept None W W' → Tells 37 #[.pointer (some ⟨g, 0, none⟩)] W.heap.size (entsK l) W' := fun W' hW => by
  have h2 := hW.size
  have h3 := hk.size
  have h4 := hb.lt
  exact published1 g _ lo (min hi w.heap.size) v l W' (by omega) h2 ((hb.kept hW (fun h => h)).cell 0) (hv.lt.kept (hk.trans hW) (fun _ _ _ h => h)) (by omega) hl
theorem wait_at {w W : World} {g : Nat} {v : Value} {lo hi : Nat} {l : List Pn} (hv : Ps 9 w lo hi v (pensC l)) (hl : l.length ≤ 1000000) (hk : Kept None w W) {t : TypeId} (hb : Blk W g #[v] t) : ∀ W', Kept None W W' → Tells 38 #[.pointer (some ⟨g, 0, none⟩)] W.heap.size (entsQ l) W' := fun W' hW => by
  have h2 := hW.size
  have h3 := hk.size
  have h4 := hb.lt
  exact waiting1 g _ lo (min hi w.heap.size) v l W' (by omega) h2 ((hb.kept hW (fun h => h)).cell 0) (hv.lt.kept (hk.trans hW) (fun _ _ _ h => h)) (by omega) hl
/-- A function value over a box of its own. -/
abbrev clo (k f : Nat) (v : Value) (t : TypeId) (us : List Nat := []) : Fct := { k := k, uses := us, pure := fun u => ∃ g, u = .func (.func f) #[] #[.pointer (some ⟨g, 0, none⟩)], fact := fun u W => ∃ g, u = .func (.func f) #[] #[.pointer (some ⟨g, 0, none⟩)] ∧ Blk W g #[v] t }
theorem steady_clo {k f : Nat} {v : Value} {t : TypeId} {us : List Nat} {l : List Fct} (h : Steady l) : Steady (clo k f v t us :: l) := .cons ⟨_, 0, rfl⟩ (fun _ _ _ hk ⟨g, h1, h2⟩ => ⟨g, h1, h2.kept hk (fun h => h)⟩) h
set_option maxRecDepth 100000 in
set_option maxHeartbeats 8000000 in
/-- admit.Decide. -/
theorem decide : DecideC := by
  intro v v' lo hi lo' hi' l p u w hv hv' hrt hok hp hu hus hl hpl
  obtain ⟨a, cap, rfl, _⟩ := hv.form
  obtain ⟨a', cap', rfl, _⟩ := hv'.form
  have HN := hid (fun W (hk : Kept None w W) => next _ _ lo hi lo' hi' l p u.n W (hv.kept hk (fun _ _ _ h => h)) (hv'.kept hk (fun _ _ _ h => h)) hrt hok hp hl hpl)
  have HH := hid (fun W g t (hk : Kept None w W) (hb : Blk W g #[_] t) => has 37 _ (entsK l) (entU u) W en_pub (pub_at hv hl hk hb))
  have HH' := hid (fun W g t (hk : Kept None w W) (hb : Blk W g #[_] t) => has 38 _ (entsQ p) (entU u) W en_wait (wait_at hv' hpl hk hb))
  rw [knosC_len] at HN HH ⊢
  rw [pensC_len] at HN HH' ⊢
  obtain ⟨n, hn⟩ : ∃ n, n = l.length := ⟨_, rfl⟩
  obtain ⟨n', hn'⟩ : ∃ n, n = p.length := ⟨_, rfl⟩
  rw [← hn] at HN HH ⊢
  rw [← hn'] at HN HH' ⊢
  have d0 := decP_no (l := l) (p := p) (u := u)
  have d1 := decP_done (p := p) (u := u) hrt
  have d2 := decP_wait (u := u) hrt hp
  have d3 := decP_new (u := u) hrt hp
  obtain ⟨⟨ki, ks⟩, hki⟩ : ∃ z, z = hasF (entsK l) (entU u) := ⟨_, rfl⟩
  obtain ⟨⟨wi, ws⟩, hwi⟩ : ∃ z, z = hasF (entsQ p) (entU u) := ⟨_, rfl⟩
  obtain ⟨⟨nv, nk⟩, hnx⟩ : ∃ z, z = nextP l p u.n := ⟨_, rfl⟩
  obtain ⟨⟨r1, r2⟩, hr⟩ : ∃ z, z = decP l p u := ⟨_, rfl⟩
  rw [← hki] at HH d1 d2 d3
  rw [← hwi] at HH' d2 d3
  rw [← hnx] at HN d3
  rw [← hr] at d0 d1 d2 d3 ⊢
  obtain ⟨un, uv, uk, uc, ur, us⟩ := u
  have hcheck := fun y W => Up.check un uv uc uk ur us y W (by have := hus; simp only at this; omega) hu.2.1
  have hright := fun W => Up.right un uv uc uk ur us W
  have hentry := fun W => Up.entry un uv uc uk ur us W
  obtain ⟨R, hR⟩ : ∃ R, R = rightB un.size uv uk uc := ⟨_, rfl⟩
  rw [← hR] at hright
  have hR' : Req.right ⟨un, uv, uk, uc, ur, us⟩ = R := hR.symm
  rw [hR'] at d0 d1 d2 d3
  have D0 := hid d0
  have D1 := hid d1
  have D2 := hid d2
  have D3 := hid d3
  have HC := hid (And.intro hcheck (And.intro hright hentry))
  clear hv hv' hn hn' d0 d1 d2 d3 hki hwi hnx hr hcheck hright hentry hR hR' hrt hok hp hu hus hl hpl
  obtain ⟨w1, hw1⟩ : ∃ z, z = w.alloc (.cells #[.string un, .int .i64 uv, .int .u64 (uk : Int), .int .i64 uc, .int .u64 (ur : Int), .int .u64 (us : Int)] 27) := ⟨_, rfl⟩
  have K1 : Kept None w w1 := hw1 ▸ (Kept.refl None w).alloc _
  have B1 : Blk w1 w.heap.size #[.string un, .int .i64 uv, .int .u64 (uk : Int), .int .i64 uc, .int .u64 (ur : Int), .int .u64 (us : Int)] 27 := hw1 ▸ Blk.new w _ _
  show Calls Try.prog 13 #[.slice a n cap, .slice a' n' cap', .agg #[.string un, .int .i64 uv, .int .u64 (uk : Int), .int .i64 uc, .int .u64 (ur : Int), .int .u64 (us : Int)]] w _
  simp only at HN
  go_enter Try.func13, Try.ntmps13
  go_upto_region 1 with fail
  rw [← hw1]
  clear hw1
  obtain ⟨G, hG⟩ : ∃ z, z = w.heap.size := ⟨_, rfl⟩
  rw [← hG] at B1 ⊢
  clear hG
  go_wp2_with (first | (refine wpList_load_blk rfl _ _ rfl rfl B1 Up.aUpd ?_) | fail)
  refine (HC.out.2.1 w1).mono ?_
  rintro e w2 ⟨rfl, k2⟩
  have K2 := K1.trans k2
  have B2 := B1.kept k2 (fun h => h)
  clear k2 K1 B1
  cases R with
  | false =>
    have e := D0.out rfl
    injection e with e1 e2
    subst e1 e2
    have K := hid K2
    clear K2 B2
    go_wp2_with fail
    go_ret2
    exact ⟨rfl, K.out⟩
  | true =>
  go_upto_region 3 with fail
  go_wp2_with (first | (refine wpList_load_blk rfl _ _ rfl rfl B2 Up.aUpd ?_) | fail)
  refine (HC.out.2.2 w2).mono ?_
  rintro e w3 ⟨rfl, k3⟩
  have K3 := K2.trans k3
  have B3 := B2.kept k3 (fun h => h)
  clear k3 K2 B2
  go_upto_region 4 with fail
  obtain ⟨w4, hw4⟩ : ∃ z, z = w3.alloc (.cells #[.string un, .int .i64 uv, .int .u64 (uk : Int)] 48) := ⟨_, rfl⟩
  have K4 : Kept None w w4 := hw4 ▸ K3.alloc _
  have B4 : Blk w4 G #[.string un, .int .i64 uv, .int .u64 (uk : Int), .int .i64 uc, .int .u64 (ur : Int), .int .u64 (us : Int)] 27 := hw4 ▸ B3.alloc _
  have C4 : Blk w4 w3.heap.size (entC (entU ⟨un, uv, uk, uc, ur, us⟩)).toArray 48 := hw4 ▸ Blk.new w3 _ _
  rw [← hw4]
  clear hw4 K3 B3
  obtain ⟨g4, hg4⟩ : ∃ z, z = w3.heap.size := ⟨_, rfl⟩
  rw [← hg4] at C4 ⊢
  clear hg4
  have HKA := hid K4
  have HBA := hid C4
  have hsA : Steady [clo 1 37 (.slice a n cap) 29, .val 3 (.tuple #[.bool ki, .bool ks]) [1]] := steady_clo (.val .nil)
  refine wp_region_kn w4 _ hsA (Kept.refl _ _) (by kernel_rfl) (by kernel_rfl) (by kernel_rfl) ?_
  refine wpPar_pure rfl (by rfl) _ (fun W hW => by
      go_simp
      exact rfl) ?_
  simp only [Act.put, List.setIfInBounds_toArray, List.set_cons_zero, List.set_cons_succ]
  refine wpKn_adds hsA rfl (by rfl) (fun W hW hd => ?_) (fun v1 hv => ?_)
  · unfold Gives
    go_simp
    refine gives_call (published _ _ _ W) ?_
    rintro e x ⟨rfl, rfl⟩
    exact ⟨_, rfl, (Kept.refl None W).alloc _, ⟨_, rfl⟩, _, rfl, Blk.new W _ _⟩
  obtain ⟨gc, rfl⟩ : ∃ g, v1 = .func (.func 37) #[] #[.pointer (some ⟨g, 0, none⟩)] := hv
  simp only [Act.put, List.setIfInBounds_toArray, List.set_cons_zero, List.set_cons_succ]
  refine wpPar_pure rfl (by rfl) _ (fun W hW => exec_load_blk _ _ rfl rfl (HBA.out.kept hW (fun h => h)) Dr.aEnt) ?_
  simp only [Act.put, List.setIfInBounds_toArray, List.set_cons_zero, List.set_cons_succ]
  refine wpKn_adds hsA rfl (by rfl) (fun W hW hd => ?_) (fun v3 hv => ?_)
  · obtain ⟨g, q1, q2⟩ : ∃ g, Value.func (.func 37) #[] #[.pointer (some ⟨gc, 0, none⟩)] = .func (.func 37) #[] #[.pointer (some ⟨g, 0, none⟩)] ∧ Blk W g #[(.slice a n cap)] 29 := hd 1 (List.Mem.head _)
    obtain rfl : gc = g := by injection q1 with _ _ q; simpa using q
    have HQ := hid (And.intro q2 (HKA.out.trans hW))
    clear q1 q2
    unfold Gives
    go_simp
    refine gives_call (HH.out W _ _ HQ.out.2 HQ.out.1) ?_
    rintro e x ⟨rfl, kx⟩
    exact ⟨_, rfl, kx, rfl, trivial⟩
  obtain rfl : v3 = .tuple #[.bool ki, .bool ks] := hv
  simp only [Act.put, List.setIfInBounds_toArray, List.set_cons_zero, List.set_cons_succ]
  iterate 5 (refine wpPar_pure rfl (by rfl) _ (fun W hW => by
      go_simp
      exact rfl) ?_; simp only [Act.put, List.setIfInBounds_toArray, List.set_cons_zero, List.set_cons_succ])
  refine wpPar_nil (fun w5 hW _ => ?_)
  have K5 := HKA.out.trans hW
  have B5 := B4.kept hW (fun h => h)
  have C5 := HBA.out.kept hW (fun h => h)
  clear hW hsA HKA HBA K4 B4 C4
  cases ki with
  | true =>
    have e := D1.out trivial rfl
    rw [Prod.ext_iff] at e
    simp only at e
    obtain ⟨e1, e2⟩ := e
    subst e1 e2
    have K := hid K5
    clear K5 B5 C5
    go_wp2_with fail
    refine (again 2 ks w5).mono ?_
    rintro e w6 ⟨rfl, k6⟩
    have K6 := hid (K.out.trans k6)
    clear k6
    go_wp2_with fail
    go_ret2
    exact ⟨rfl, K6.out⟩
  | false =>
  go_upto_region 7 with fail
  have HKB := hid K5
  have HBB := hid C5
  have hsB : Steady [clo 1 38 (.slice a' n' cap') 30, .val 3 (.tuple #[.bool wi, .bool ws]) [1]] := steady_clo (.val .nil)
  refine wp_region_kn w5 _ hsB (Kept.refl _ _) (by kernel_rfl) (by kernel_rfl) (by kernel_rfl) ?_
  refine wpPar_pure rfl (by rfl) _ (fun W hW => by
      go_simp
      exact rfl) ?_
  simp only [Act.put, List.setIfInBounds_toArray, List.set_cons_zero, List.set_cons_succ]
  refine wpKn_adds hsB rfl (by rfl) (fun W hW hd => ?_) (fun v1 hv => ?_)
  · unfold Gives
    go_simp
    refine gives_call (waiting _ _ _ W) ?_
    rintro e x ⟨rfl, rfl⟩
    exact ⟨_, rfl, (Kept.refl None W).alloc _, ⟨_, rfl⟩, _, rfl, Blk.new W _ _⟩
  obtain ⟨gcB, rfl⟩ : ∃ g, v1 = .func (.func 38) #[] #[.pointer (some ⟨g, 0, none⟩)] := hv
  simp only [Act.put, List.setIfInBounds_toArray, List.set_cons_zero, List.set_cons_succ]
  refine wpPar_pure rfl (by rfl) _ (fun W hW => exec_load_blk _ _ rfl rfl (HBB.out.kept hW (fun h => h)) Dr.aEnt) ?_
  simp only [Act.put, List.setIfInBounds_toArray, List.set_cons_zero, List.set_cons_succ]
  refine wpKn_adds hsB rfl (by rfl) (fun W hW hd => ?_) (fun v3 hv => ?_)
  · obtain ⟨g, q1, q2⟩ : ∃ g, Value.func (.func 38) #[] #[.pointer (some ⟨gcB, 0, none⟩)] = .func (.func 38) #[] #[.pointer (some ⟨g, 0, none⟩)] ∧ Blk W g #[(.slice a' n' cap')] 30 := hd 1 (List.Mem.head _)
    obtain rfl : gcB = g := by injection q1 with _ _ q; simpa using q
    have HQ := hid (And.intro q2 (HKB.out.trans hW))
    clear q1 q2
    unfold Gives
    go_simp
    refine gives_call (HH'.out W _ _ HQ.out.2 HQ.out.1) ?_
    rintro e x ⟨rfl, kx⟩
    exact ⟨_, rfl, kx, rfl, trivial⟩
  obtain rfl : v3 = .tuple #[.bool wi, .bool ws] := hv
  simp only [Act.put, List.setIfInBounds_toArray, List.set_cons_zero, List.set_cons_succ]
  iterate 5 (refine wpPar_pure rfl (by rfl) _ (fun W hW => by
      go_simp
      exact rfl) ?_; simp only [Act.put, List.setIfInBounds_toArray, List.set_cons_zero, List.set_cons_succ])
  refine wpPar_nil (fun w6 hW _ => ?_)
  have K6 := HKB.out.trans hW
  have B6 := B5.kept hW (fun h => h)
  clear hW hsB HKB HBB K5 B5 C5
  cases wi with
  | true =>
    have e := D2.out trivial rfl rfl
    rw [Prod.ext_iff] at e
    simp only at e
    obtain ⟨e1, e2⟩ := e
    subst e1 e2
    have K := hid K6
    clear K6 B6
    go_wp2_with fail
    refine (again 1 ws w6).mono ?_
    rintro e w7 ⟨rfl, k7⟩
    have K7 := hid (K.out.trans k7)
    clear k7
    go_wp2_with fail
    go_ret2
    exact ⟨rfl, K7.out⟩
  | false =>
  have hF := D3.out trivial rfl rfl
  have HF := hid hF
  clear hF
  have b0 : w6.cell? ⟨G, 0, none⟩ = some (.string un) := B6.cell 0
  go_wp2_with fail
  refine (HN.out w6 K6).mono ?_
  rintro e w7 ⟨rfl, k7⟩
  have K7 := hid (K6.trans k7)
  have B7 := B6.kept k7 (fun h => h)
  clear k7 K6 B6 b0
  have b1 : w7.cell? ⟨G, 1, none⟩ = some (.int .i64 uv) := B7.cell 1
  have b2 : w7.cell? ⟨G, 2, none⟩ = some (.int .u64 (uk : Int)) := B7.cell 2
  by_cases hv : uv = nv
  · subst hv
    by_cases h1 : uv = 1
    · have t1 : (uv == 1) = true := by simpa using h1
      obtain ⟨c, hc⟩ : ∃ c, c = checkN uk (msgB un uv uk) ur us := ⟨_, rfl⟩
      have hq := HC.out.1 uk w7
      rw [← hc] at hq
      have e : (r1, r2) = if c = true then (0, 0) else (0, 25) := by
        rw [HF.out]
        unfold freshP
        simp only
        rw [if_pos trivial, if_pos h1, ← hc]
      have HQ := hid hq
      have HE := hid e
      clear hc hq e h1
      go_wp2_with (first | (refine wpList_load_blk rfl _ _ rfl rfl B7 Up.aUpd ?_) | fail)
      refine HQ.out.mono ?_
      rintro e w8 ⟨rfl, k8⟩
      have K8 := hid (K7.out.trans k8)
      clear k8 HQ
      cases c with
      | true =>
        have e := HE.out
        rw [if_pos rfl, Prod.ext_iff] at e
        obtain ⟨e1, e2⟩ := e
        simp only at e1 e2
        subst e1 e2
        go_wp2_with fail
        go_ret2
        exact ⟨rfl, K8.out⟩
      | false =>
        have e := HE.out
        rw [if_neg (by decide), Prod.ext_iff] at e
        obtain ⟨e1, e2⟩ := e
        simp only at e1 e2
        subst e1 e2
        go_wp2_with fail
        go_ret2
        exact ⟨rfl, K8.out⟩
    · have t1 : (uv == 1) = false := by simpa using h1
      obtain ⟨c, hc⟩ : ∃ c, c = checkN nk (msgB un uv uk) ur us := ⟨_, rfl⟩
      have hq := HC.out.1 nk w7
      rw [← hc] at hq
      have e : (r1, r2) = if c = true then (0, 0) else (0, 25) := by
        rw [HF.out]
        unfold freshP
        simp only
        rw [if_pos trivial, if_neg h1, ← hc]
      have HQ := hid hq
      have HE := hid e
      clear hc hq e h1
      go_wp2_with (first | (refine wpList_load_blk rfl _ _ rfl rfl B7 Up.aUpd ?_) | fail)
      refine HQ.out.mono ?_
      rintro e w8 ⟨rfl, k8⟩
      have K8 := hid (K7.out.trans k8)
      clear k8 HQ
      cases c with
      | true =>
        have e := HE.out
        rw [if_pos rfl, Prod.ext_iff] at e
        obtain ⟨e1, e2⟩ := e
        simp only at e1 e2
        subst e1 e2
        go_wp2_with fail
        go_ret2
        exact ⟨rfl, K8.out⟩
      | false =>
        have e := HE.out
        rw [if_neg (by decide), Prod.ext_iff] at e
        obtain ⟨e1, e2⟩ := e
        simp only at e1 e2
        subst e1 e2
        go_wp2_with fail
        go_ret2
        exact ⟨rfl, K8.out⟩
  · have e : (r1, r2) = (0, 27) := by
      rw [HF.out]
      unfold freshP
      rw [if_neg hv]
    rw [Prod.ext_iff] at e
    obtain ⟨e1, e2⟩ := e
    simp only at e1 e2
    subst e1 e2
    have t2 : (uv != nv) = true := by simpa using hv
    by_cases h1 : uv = 1
    · have t1 : (uv == 1) = true := by simpa using h1
      clear h1 hv
      go_wp2_with fail
      go_ret2
      exact ⟨rfl, K7.out⟩
    · have t1 : (uv == 1) = false := by simpa using h1
      clear h1 hv
      go_wp2_with fail
      go_ret2
      exact ⟨rfl, K7.out⟩
end Ad
end Go.Proofs.Ytdobmebhjmgkmaa
