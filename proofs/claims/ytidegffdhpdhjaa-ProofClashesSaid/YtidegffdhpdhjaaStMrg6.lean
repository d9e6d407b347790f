/- slices.symMergeCmpFunc at items: by contract. -/
import Derived.Test.YtidegffdhpdhjaaStSwap6
import Derived.Deep.DeepCutAuto
import Derived.Deep.CutBlock
import Derived.Deep.CutRange
namespace Go.Proofs.Ytidegffdhpdhjaa
open Go.Shelf Go.RowKit Go.Lib Go.Sort Go.Pm
variable {α : Type} [Inhabited α]

namespace SoI
theorem wrap_sub {m a : Nat} (h : a ≤ m) (h2 : m < 4611686018427387904) : IntKind.i64.wrap ((m : Int) - (a : Int)) = ((m - a : Nat) : Int) := by rw [IntKind.wrap_i64]; omega

set_option maxHeartbeats 8000000 in
set_option maxRecDepth 1000000 in
/-- One at the left. -/
theorem symMerge_left {P : Program} {k : Nat} (L : LayS P k) {enc : α → List Value} {w0 : World} {blk off : Nat} {d0 : Array α} (R : RowK enc k w0 blk off d0) {cf : α → α → Int} {s : α → α → Prop} (hS : ∀ x y z, s x y → s y z → s x z) {g : Nat} {cb : Array Value} (eg : ∀ args w, (callFunc g args).run P w = .ok (.enter g args) w) (hcmp : CmpLays P g cb enc k cf blk off d0.size w0)
    (cap a m b : Nat) (d : Array α) (w : World) (hs : d.size = d0.size) (S : SWK enc k w0 blk off d w) (hm : m = a + 1) (hmb : m < b) (hb : b ≤ d.size) (hsz : d.size < 4611686018427387904) (hM : Mrg (ltOf cf) s a m b d) :
    Calls P 154 #[.slice (some ⟨blk, off, none⟩) d.size cap, .int .i64 a, .int .i64 m, .int .i64 b, .func (.func g) #[] cb] w fun e w' =>
      e = .returned (.tuple #[]) ∧ ∃ d', Mrgd s a b d d' ∧ SWK enc k w0 blk off d' w' := by
  have mixed := L.mixed; have tUnit := L.tUnit; have aUnit := L.aUnit; have zUnit := L.zUnit; have vUnit := L.vUnit; have tInt := L.tInt; have aInt := L.aInt; have zInt := L.zInt; have vInt := L.vInt; have tBool := L.tBool; have aBool := L.aBool; have zBool := L.zBool; have vBool := L.vBool; have tUint := L.tUint; have aUint := L.aUint; have zUint := L.zUint; have vUint := L.vUint; have tSl := L.tSl; have aSl := L.aSl; have zSl := L.zSl; have vSl := L.vSl; have tFn := L.tFn; have aFn := L.aFn; have zFn := L.zFn; have vFn := L.vFn; have aE := L.aE; have zE := L.zE
  have u3 := run_underlying L.tInt
  have u48 := run_underlying L.tUint
  have F := L.fMrg
  have hm1 : m ≤ a + 1 := by omega
  have hm2 : a + 1 ≤ m := by omega
  have HE := hid hm
  have r0 : IntKind.i64.wrap ((m : Int) - (a : Int)) = 1 := by rw [IntKind.wrap_i64]; omega
  clear hm
  have HC : Aside _ := hcmp
  have S0 : Aside _ := S
  have HM := hid hM
  have hds := hid hs
  have HSS := hid hS
  clear hcmp S hM hs hS L
  go_enter F, Try.ntmps154
  go_wp2
  go_loopg [10, 11] (b - m) (fun kx s10 s11 wr => ∃ (i j : Nat), s10 = .int .i64 i ∧ s11 = .int .i64 j ∧ m ≤ i ∧ i ≤ j ∧ j ≤ b ∧ j - i ≤ kx ∧ Hid (Srch (fun t => ltOf cf d[t]! d[a]!) m b i j) ∧ Aside (SWK enc k w0 blk off d wr))
  case atStart => exact ⟨m, b, rfl, rfl, Nat.le_refl _, by omega, Nat.le_refl _, Nat.le_refl _, Srch.start _ _ _ (by omega), S0⟩
  case round =>
    obtain ⟨i, j, rfl, rfl, hmi, hij, hjb, hkx, HI, S1⟩ := hrel
    clear S0 r0
    by_cases h0 : i < j
    · have h0z : (i : Int) < (j : Int) := by omega
      obtain ⟨h, hh⟩ : ∃ h : Nat, h = (i + j) / 2 := ⟨_, rfl⟩
      have eh : ((i : Int) + (j : Int)) / 2 = (h : Int) := by omega
      have h1 : i ≤ h := by omega
      have h2 : h < j := by omega
      have bh : (h : Int) < (d.size : Int) := by omega
      have ba : (a : Int) < (d.size : Int) := by omega
      have HH := hid hh
      clear hh
      cases hL : ltOf cf d[h]! d[a]! with
      | true =>
        obtain ⟨x1, hx1⟩ : ∃ x, x = d[h]! := ⟨_, rfl⟩
        obtain ⟨y1, hy1⟩ : ∃ x, x = d[a]! := ⟨_, rfl⟩
        have l1a := S1.out.ld R hds.out P (h) (by omega)
        have l1b := S1.out.ld R hds.out P (a) (by omega)
        rw [← hx1] at l1a
        rw [← hy1] at l1b
        have hc1 := S1.out.cmp HC.out hds.out x1 y1
        have hv1 : cf x1 y1 < 0 := by rw [hx1, hy1]; exact of_decide_eq_true hL
        have hd1 : decide (cf x1 y1 < 0) = true := decide_eq_true hv1
        have HL1 := hid hL
        clear hx1 hy1 hL
        go_wp2_with fail
        go_quiet_grown (first | (go_at_fn g; refine Calls.grown_of (hc1 _ _)))
        have S2 : Aside (SWK enc k w0 blk off d (grow (wr.drewN nq) osq)) := S1.out.grown nq osq
        clear l1a l1b hc1 S1
        generalize grow (wr.drewN nq) osq = w2 at S2 ⊢
        clear nq osq hv1 hd1
        go_wp2
        go_roundg (j - (h + 1))
        case measure => omega
        case rel => exact ⟨h + 1, j, by go_num, rfl, by omega, by omega, hjb, Nat.le_refl _, (show Hid _ from by rw [HH.out]; exact HI.out.up h0 (by rw [← HH.out]; exact HL1.out)), S2⟩
      | false =>
        obtain ⟨x2, hx2⟩ : ∃ x, x = d[h]! := ⟨_, rfl⟩
        obtain ⟨y2, hy2⟩ : ∃ x, x = d[a]! := ⟨_, rfl⟩
        have l2a := S1.out.ld R hds.out P (h) (by omega)
        have l2b := S1.out.ld R hds.out P (a) (by omega)
        rw [← hx2] at l2a
        rw [← hy2] at l2b
        have hc2 := S1.out.cmp HC.out hds.out x2 y2
        have hv2 : ¬ cf x2 y2 < 0 := by rw [hx2, hy2]; exact of_decide_eq_false hL
        have hd2 : decide (cf x2 y2 < 0) = false := decide_eq_false hv2
        have HL2 := hid hL
        clear hx2 hy2 hL
        go_wp2_with fail
        go_quiet_grown (first | (go_at_fn g; refine Calls.grown_of (hc2 _ _)))
        have S2 : Aside (SWK enc k w0 blk off d (grow (wr.drewN nq) osq)) := S1.out.grown nq osq
        clear l2a l2b hc2 S1
        generalize grow (wr.drewN nq) osq = w2 at S2 ⊢
        clear nq osq hv2 hd2
        go_wp2
        go_roundg (h - i)
        case measure => omega
        case rel => exact ⟨i, h, rfl, rfl, hmi, by omega, by omega, Nat.le_refl _, (show Hid _ from by rw [HH.out]; exact HI.out.down h0 (by rw [← HH.out]; exact HL2.out)), S2⟩
    · have h0z : ¬ (i : Int) < (j : Int) := by omega
      obtain rfl : i = j := by omega
      have ri : IntKind.i64.wrap ((i : Int) - 1) = (i : Int) - 1 := by rw [IntKind.wrap_i64]; omega
      go_wp2
      go_loopg [13] (i - a) (fun kx s13 wr => ∃ (t : Nat) (dk : Array α), s13 = .int .i64 t ∧ a ≤ t ∧ t + 1 ≤ i ∧ i - t ≤ kx ∧ Hid (Rot a (a + 1) (t + 1) d dk) ∧ Aside (SWK enc k w0 blk off dk wr))
      case atStart => exact ⟨a, d, rfl, Nat.le_refl _, by omega, Nat.le_refl _, Rot.none_right a (a + 1) d (by omega), S1⟩
      case round =>
        obtain ⟨t, dk, rfl, hat, hti, hky, HR, S3⟩ := hrel
        clear S1
        have hdk : dk.size = d.size := HR.out.size
        have hdz := hid (hdk.trans hds.out)
        by_cases h3 : t + 1 < i
        · have h3z : (t : Int) < (i : Int) - 1 := by omega
          obtain ⟨y, hy⟩ : ∃ y : Nat, y = t + 1 := ⟨_, rfl⟩
          have ry : IntKind.i64.wrap ((t : Int) + 1) = (y : Int) := by rw [IntKind.wrap_i64]; omega
          have bt : (t : Int) < (d.size : Int) := by omega
          have by_ : (y : Int) < (d.size : Int) := by omega
          have HR2 := hid (show Rot a (a + 1) (t + 2) d (swp dk t y) from by subst hy; exact HR.out.right hat (by omega))
          have hy1 : y ≤ t + 1 := by omega
          have hy2 : t + 1 ≤ y := by omega
          have hyd : y < dk.size := by omega
          have htd : t < dk.size := by omega
          have HY := hid hy
          clear hy hdk HR
          have S4 : Aside (SWK enc k w0 blk off (swp dk t y) ((wr.drew.setCells blk (off + t * k) (enc dk[y]!)).setCells blk (off + y * k) (enc dk[t]!))) := S3.out.swapped R t y (by omega) (by omega)
          have l3a := S3.out.ld1 R hdz.out P t (by omega)
          have l3b := S3.out.ld1 R hdz.out P y (by omega)
          have s3a := S3.out.st1 R hdz.out P t (by omega) dk[y]!
          have s3b := S3.out.st2 R hdz.out P t y (by omega) (by omega) dk[y]! dk[t]!
          have n3a : (enc dk[t]!).length = k := R.hk _
          have n3b : (enc dk[y]!).length = k := R.hk _
          generalize enc dk[t]! = cI3 at S4 l3a s3b n3a
          generalize enc dk[y]! = cJ3 at S4 l3b s3a s3b n3b
          clear S3
          go_wp2_with fail
          go_big_region_o
          clear l3a l3b s3a s3b
          generalize (wr.drew.setCells blk (off + t * k) cJ3).setCells blk (off + y * k) cI3 = w3 at S4 ⊢
          go_wp2
          go_roundg (i - (t + 1))
          case measure => omega
          case rel => exact ⟨y, swp dk t y, rfl, by omega, by omega, by omega, (show Hid _ from by rw [HY.out] at HR2 ⊢; exact HR2.out), S4⟩
        · have h3z : ¬ (t : Int) < (i : Int) - 1 := by omega
          go_wp2
          (try simp only [Exit.inBlock, Exit.then]); refine bodyPost_ret (results_none rfl _ _ _) rfl ?_
          obtain rfl : i = t + 1 := by omega
          have e := HE.out
          subst e
          exact ⟨rfl, dk, mrg_one_left HSS.out HM.out (by omega) HI.out HR.out, S3.out⟩

set_option maxHeartbeats 8000000 in
set_option maxRecDepth 1000000 in
/-- One at the right. -/
theorem symMerge_right {P : Program} {k : Nat} (L : LayS P k) {enc : α → List Value} {w0 : World} {blk off : Nat} {d0 : Array α} (R : RowK enc k w0 blk off d0) {cf : α → α → Int} {s : α → α → Prop} (hS : ∀ x y z, s x y → s y z → s x z) {g : Nat} {cb : Array Value} (eg : ∀ args w, (callFunc g args).run P w = .ok (.enter g args) w) (hcmp : CmpLays P g cb enc k cf blk off d0.size w0)
    (cap a m b : Nat) (d : Array α) (w : World) (hs : d.size = d0.size) (S : SWK enc k w0 blk off d w) (ham : a < m) (hm : b = m + 1) (hn : m ≠ a + 1) (hb : b ≤ d.size) (hsz : d.size < 4611686018427387904) (hM : Mrg (ltOf cf) s a m b d) :
    Calls P 154 #[.slice (some ⟨blk, off, none⟩) d.size cap, .int .i64 a, .int .i64 m, .int .i64 b, .func (.func g) #[] cb] w fun e w' =>
      e = .returned (.tuple #[]) ∧ ∃ d', Mrgd s a b d d' ∧ SWK enc k w0 blk off d' w' := by
  have mixed := L.mixed; have tUnit := L.tUnit; have aUnit := L.aUnit; have zUnit := L.zUnit; have vUnit := L.vUnit; have tInt := L.tInt; have aInt := L.aInt; have zInt := L.zInt; have vInt := L.vInt; have tBool := L.tBool; have aBool := L.aBool; have zBool := L.zBool; have vBool := L.vBool; have tUint := L.tUint; have aUint := L.aUint; have zUint := L.zUint; have vUint := L.vUint; have tSl := L.tSl; have aSl := L.aSl; have zSl := L.zSl; have vSl := L.vSl; have tFn := L.tFn; have aFn := L.aFn; have zFn := L.zFn; have vFn := L.vFn; have aE := L.aE; have zE := L.zE
  have u3 := run_underlying L.tInt
  have u48 := run_underlying L.tUint
  have F := L.fMrg
  have hm1 : b ≤ m + 1 := by omega
  have hm2 : m + 1 ≤ b := by omega
  have HE := hid hm
  have rN : IntKind.i64.wrap ((m : Int) - (a : Int)) = ((m - a : Nat) : Int) := by rw [IntKind.wrap_i64]; omega
  have nN : ((((m - a : Nat) : Int)) == 1) = false := by simp; omega
  have r0 : IntKind.i64.wrap ((b : Int) - (m : Int)) = 1 := by rw [IntKind.wrap_i64]; omega
  have n1 : ¬ ((m : Int) - (a : Int) = 1) := by omega
  clear hm
  have HC : Aside _ := hcmp
  have S0 : Aside _ := S
  have HM := hid hM
  have hds := hid hs
  have HSS := hid hS
  clear hcmp S hM hs hS L
  go_enter F, Try.ntmps154
  go_wp2
  go_loopg [14, 15] (m - a) (fun kx s14 s15 wr => ∃ (i j : Nat), s14 = .int .i64 i ∧ s15 = .int .i64 j ∧ a ≤ i ∧ i ≤ j ∧ j ≤ m ∧ j - i ≤ kx ∧ Hid (Srch (fun t => !ltOf cf d[m]! d[t]!) a m i j) ∧ Aside (SWK enc k w0 blk off d wr))
  case atStart => exact ⟨a, m, rfl, rfl, Nat.le_refl _, by omega, Nat.le_refl _, Nat.le_refl _, Srch.start _ _ _ (by omega), S0⟩
  case round =>
    obtain ⟨i, j, rfl, rfl, hmi, hij, hjb, hkx, HI, S1⟩ := hrel
    clear S0 r0 rN nN n1
    by_cases h0 : i < j
    · have h0z : (i : Int) < (j : Int) := by omega
      obtain ⟨h, hh⟩ : ∃ h : Nat, h = (i + j) / 2 := ⟨_, rfl⟩
      have eh : ((i : Int) + (j : Int)) / 2 = (h : Int) := by omega
      have h1 : i ≤ h := by omega
      have h2 : h < j := by omega
      have bh : (h : Int) < (d.size : Int) := by omega
      have ba : (m : Int) < (d.size : Int) := by omega
      have HH := hid hh
      clear hh
      cases hL : ltOf cf d[m]! d[h]! with
      | true =>
        obtain ⟨x1, hx1⟩ : ∃ x, x = d[m]! := ⟨_, rfl⟩
        obtain ⟨y1, hy1⟩ : ∃ x, x = d[h]! := ⟨_, rfl⟩
        have l1a := S1.out.ld R hds.out P (m) (by omega)
        have l1b := S1.out.ld R hds.out P (h) (by omega)
        rw [← hx1] at l1a
        rw [← hy1] at l1b
        have hc1 := S1.out.cmp HC.out hds.out x1 y1
        have hv1 : cf x1 y1 < 0 := by rw [hx1, hy1]; exact of_decide_eq_true hL
        have hd1 : decide (cf x1 y1 < 0) = true := decide_eq_true hv1
        have HL1 := hid hL
        clear hx1 hy1 hL
        go_wp2_with fail
        go_quiet_grown (first | (go_at_fn g; refine Calls.grown_of (hc1 _ _)))
        have S2 : Aside (SWK enc k w0 blk off d (grow (wr.drewN nq) osq)) := S1.out.grown nq osq
        clear l1a l1b hc1 S1
        generalize grow (wr.drewN nq) osq = w2 at S2 ⊢
        clear nq osq hv1 hd1
        go_wp2
        go_roundg (h - i)
        case measure => omega
        case rel => exact ⟨i, h, rfl, rfl, hmi, by omega, by omega, Nat.le_refl _, (show Hid _ from by rw [HH.out]; exact HI.out.down h0 (by rw [← HH.out, HL1.out]; rfl)), S2⟩
      | false =>
        obtain ⟨x2, hx2⟩ : ∃ x, x = d[m]! := ⟨_, rfl⟩
        obtain ⟨y2, hy2⟩ : ∃ x, x = d[h]! := ⟨_, rfl⟩
        have l2a := S1.out.ld R hds.out P (m) (by omega)
        have l2b := S1.out.ld R hds.out P (h) (by omega)
        rw [← hx2] at l2a
        rw [← hy2] at l2b
        have hc2 := S1.out.cmp HC.out hds.out x2 y2
        have hv2 : ¬ cf x2 y2 < 0 := by rw [hx2, hy2]; exact of_decide_eq_false hL
        have hd2 : decide (cf x2 y2 < 0) = false := decide_eq_false hv2
        have HL2 := hid hL
        clear hx2 hy2 hL
        go_wp2_with fail
        go_quiet_grown (first | (go_at_fn g; refine Calls.grown_of (hc2 _ _)))
        have S2 : Aside (SWK enc k w0 blk off d (grow (wr.drewN nq) osq)) := S1.out.grown nq osq
        clear l2a l2b hc2 S1
        generalize grow (wr.drewN nq) osq = w2 at S2 ⊢
        clear nq osq hv2 hd2
        go_wp2
        go_roundg (j - (h + 1))
        case measure => omega
        case rel => exact ⟨h + 1, j, by go_num, rfl, by omega, by omega, hjb, Nat.le_refl _, (show Hid _ from by rw [HH.out]; exact HI.out.up h0 (by rw [← HH.out, HL2.out]; rfl)), S2⟩
    · have h0z : ¬ (i : Int) < (j : Int) := by omega
      obtain rfl : i = j := by omega
      go_wp2
      go_loopg [17] (m - i) (fun kx s17 wr => ∃ (t : Nat) (dk : Array α), s17 = .int .i64 t ∧ i ≤ t ∧ t ≤ m ∧ t - i ≤ kx ∧ Hid (Rot t m (m + 1) d dk) ∧ Aside (SWK enc k w0 blk off dk wr))
      case atStart => exact ⟨m, d, rfl, by omega, Nat.le_refl _, Nat.le_refl _, Rot.none_left m (m + 1) d, S1⟩
      case round =>
        obtain ⟨t, dk, rfl, hat, hti, hky, HR, S3⟩ := hrel
        clear S1
        have hdk : dk.size = d.size := HR.out.size
        have hdz := hid (hdk.trans hds.out)
        by_cases h3 : i < t
        · have h3z : (i : Int) < (t : Int) := by omega
          obtain ⟨y, hy⟩ : ∃ y : Nat, t = y + 1 := ⟨t - 1, by omega⟩
          have ry : IntKind.i64.wrap ((t : Int) - 1) = (y : Int) := by rw [IntKind.wrap_i64]; omega
          have bt : (t : Int) < (d.size : Int) := by omega
          have by_ : (y : Int) < (d.size : Int) := by omega
          have HR2 := hid (show Rot y m (m + 1) d (swp dk t y) from by subst hy; exact HR.out.left (by omega) (by omega))
          have hy1 : t ≤ y + 1 := by omega
          have hy2 : y + 1 ≤ t := by omega
          have hyd : y < dk.size := by omega
          have htd : t < dk.size := by omega
          clear hy hdk HR
          have S4 : Aside (SWK enc k w0 blk off (swp dk t y) ((wr.drew.setCells blk (off + t * k) (enc dk[y]!)).setCells blk (off + y * k) (enc dk[t]!))) := S3.out.swapped R t y (by omega) (by omega)
          have l3a := S3.out.ld1 R hdz.out P t (by omega)
          have l3b := S3.out.ld1 R hdz.out P y (by omega)
          have s3a := S3.out.st1 R hdz.out P t (by omega) dk[y]!
          have s3b := S3.out.st2 R hdz.out P t y (by omega) (by omega) dk[y]! dk[t]!
          have n3a : (enc dk[t]!).length = k := R.hk _
          have n3b : (enc dk[y]!).length = k := R.hk _
          generalize enc dk[t]! = cI3 at S4 l3a s3b n3a
          generalize enc dk[y]! = cJ3 at S4 l3b s3a s3b n3b
          clear S3
          go_wp2_with fail
          go_big_region_o
          clear l3a l3b s3a s3b
          generalize (wr.drew.setCells blk (off + t * k) cJ3).setCells blk (off + y * k) cI3 = w3 at S4 ⊢
          go_wp2
          go_roundg (y - i)
          case measure => omega
          case rel => exact ⟨y, swp dk t y, rfl, by omega, by omega, Nat.le_refl _, HR2, S4⟩
        · have h3z : ¬ (i : Int) < (t : Int) := by omega
          go_wp2
          (try simp only [Exit.inBlock, Exit.then]); refine bodyPost_ret (results_none rfl _ _ _) rfl ?_
          obtain rfl : i = t := by omega
          have e := HE.out
          subst e
          exact ⟨rfl, dk, mrg_one_right HSS.out HM.out (by omega) HI.out HR.out, S3.out⟩

set_option maxHeartbeats 8000000 in
set_option maxRecDepth 1000000 in
/-- Both parts longer than one, the halves by contract. -/
theorem symMerge_more {P : Program} {k : Nat} (L : LayS P k) {enc : α → List Value} {w0 : World} {blk off : Nat} {d0 : Array α} (R : RowK enc k w0 blk off d0) {cf : α → α → Int} {s : α → α → Prop} (hS : ∀ x y z, s x y → s y z → s x z) {g : Nat} {cb : Array Value} (eg : ∀ args w, (callFunc g args).run P w = .ok (.enter g args) w) (hcmp : CmpLays P g cb enc k cf blk off d0.size w0)
    (cap a m b : Nat) (d : Array α) (w : World) (hs : d.size = d0.size) (S : SWK enc k w0 blk off d w) (ham : a < m) (hmb : m < b) (hn1 : m ≠ a + 1) (hn2 : b ≠ m + 1) (hb : b ≤ d.size) (hsz : d.size < 4611686018427387904) (hM : Mrg (ltOf cf) s a m b d)
    (ih : ∀ (a' m' b' : Nat) (d' : Array α) (w' : World), b' - a' < b - a → d'.size = d.size → SWK enc k w0 blk off d' w' → a' < m' → m' < b' → b' ≤ d.size → Mrg (ltOf cf) s a' m' b' d' →
      Calls P 154 #[.slice (some ⟨blk, off, none⟩) d.size cap, .int .i64 a', .int .i64 m', .int .i64 b', .func (.func g) #[] cb] w' fun e w2 => e = .returned (.tuple #[]) ∧ ∃ d2, Mrgd s a' b' d' d2 ∧ SWK enc k w0 blk off d2 w2) :
    Calls P 154 #[.slice (some ⟨blk, off, none⟩) d.size cap, .int .i64 a, .int .i64 m, .int .i64 b, .func (.func g) #[] cb] w fun e w' =>
      e = .returned (.tuple #[]) ∧ ∃ d', Mrgd s a b d d' ∧ SWK enc k w0 blk off d' w' := by
  have mixed := L.mixed; have tUnit := L.tUnit; have aUnit := L.aUnit; have zUnit := L.zUnit; have vUnit := L.vUnit; have tInt := L.tInt; have aInt := L.aInt; have zInt := L.zInt; have vInt := L.vInt; have tBool := L.tBool; have aBool := L.aBool; have zBool := L.zBool; have vBool := L.vBool; have tUint := L.tUint; have aUint := L.aUint; have zUint := L.zUint; have vUint := L.vUint; have tSl := L.tSl; have aSl := L.aSl; have zSl := L.zSl; have vSl := L.vSl; have tFn := L.tFn; have aFn := L.aFn; have zFn := L.zFn; have vFn := L.vFn; have aE := L.aE; have zE := L.zE
  have u3 := run_underlying L.tInt
  have u48 := run_underlying L.tUint
  have F := L.fMrg
  have eR : ∀ args w, (callFunc 158 args).run P w = .ok (.enter 158 args) w := enters_of L.fRot (by kernel_rfl) rfl
  have eM : ∀ args w, (callFunc 154 args).run P w = .ok (.enter 154 args) w := enters_of L.fMrg (by kernel_rfl) rfl
  have hC : ∀ (a m b : Nat) (w : World), SWK enc k w0 blk off d w → a < m → m < b → b ≤ d.size → Calls P 158 #[.slice (some ⟨blk, off, none⟩) d.size cap, .int .i64 a, .int .i64 m, .int .i64 b, .func (.func g) #[] cb] w fun e w' =>
      e = .returned (.tuple #[]) ∧ ∃ d', Rot a m b d d' ∧ SWK enc k w0 blk off d' w' := fun a m b w h1 h2 h3 h4 => rotate L R cap a m b _ d w hs h1 h2 h3 h4 (by omega)
  have HROT := hid hC
  have IH := hid ih
  have n1 : ¬ ((m : Int) - (a : Int) = 1) := by omega
  have n2 : ¬ ((b : Int) - (m : Int) = 1) := by omega
  have w1 : IntKind.i64.wrap ((m : Int) - (a : Int)) = (m : Int) - (a : Int) := by rw [IntKind.wrap_i64]; omega
  have w2 : IntKind.i64.wrap ((b : Int) - (m : Int)) = (b : Int) - (m : Int) := by rw [IntKind.wrap_i64]; omega
  obtain ⟨mid, hmid⟩ : ∃ mid : Nat, mid = (a + b) / 2 := ⟨_, rfl⟩
  have em : ((a : Int) + (b : Int)) / 2 = (mid : Int) := by omega
  have m1 : a < mid := by omega
  have m2 : mid < b := by omega
  obtain ⟨n, hn⟩ : ∃ n : Nat, n = mid + m := ⟨_, rfl⟩
  have en : IntKind.i64.wrap ((mid : Int) + (m : Int)) = (n : Int) := by rw [IntKind.wrap_i64]; omega
  have hab1 : a + b ≤ 2 * mid + 1 := by omega
  have hab2 : 2 * mid ≤ a + b := by omega
  have hn3 : n ≤ mid + m := by omega
  have hn4 : mid + m ≤ n := by omega
  have rp : IntKind.i64.wrap ((n : Int) - 1) = ((n - 1 : Nat) : Int) := by rw [IntKind.wrap_i64]; omega
  have HMID := hid hmid
  have HN := hid hn
  clear hC ih hmid hn hn1 hn2
  have HC : Aside _ := hcmp
  have S0 : Aside _ := S
  have HM := hid hM
  have hds := hid hs
  have HSS := hid hS
  clear hcmp S hM hs hS L
  go_enter F, Try.ntmps154
  go_upto_if 140 with fail
  clear n1 n2 w1 w2
  go_cut [20, 21] (fun s20 s21 wx => ∃ lo hi : Nat, s20 = .int .i64 lo ∧ s21 = .int .i64 hi ∧ Hid (lo = cutLo a m b ∧ hi = cutHi a m b) ∧ Aside (SWK enc k w0 blk off d wx))
  case first =>
    by_cases c : mid < m
    · have cz : (mid : Int) < (m : Int) := by omega
      have r1 : IntKind.i64.wrap ((n : Int) - (b : Int)) = ((n - b : Nat) : Int) := by rw [IntKind.wrap_i64]; omega
      go_wp2_with fail
      go_meet
      exact ⟨n - b, mid, by go_num, rfl, ⟨by unfold cutLo; rw [← HMID.out, if_pos c, HN.out], by unfold cutHi; rw [← HMID.out, if_pos c]⟩, S0⟩
    · have cz : ¬ (mid : Int) < (m : Int) := by omega
      go_wp2_with fail
      go_meet
      exact ⟨a, m, rfl, rfl, ⟨by unfold cutLo; rw [← HMID.out, if_neg c], by unfold cutHi; rw [← HMID.out, if_neg c]⟩, S0⟩
  case rest =>
    obtain ⟨lo, hi, rfl, rfl, HLH, S1⟩ := hcut
    clear S0
    have q : a ≤ lo ∧ lo ≤ hi ∧ hi ≤ mid ∧ hi ≤ m ∧ n ≤ b + lo ∧ hi ≤ n := by
      obtain ⟨q1, q2⟩ := HLH.out
      rw [q1, q2]
      unfold cutLo cutHi
      rw [← HMID.out]
      by_cases c : m > mid
      · rw [if_pos c, if_pos c]; omega
      · rw [if_neg c, if_neg c]; omega
    obtain ⟨q1, q2, q3, q4, q5, q6⟩ := q
    go_wp2
    go_loopg [20, 21] (hi - lo) (fun kx s20 s21 wr => ∃ (i j : Nat), s20 = .int .i64 i ∧ s21 = .int .i64 j ∧ lo ≤ i ∧ i ≤ j ∧ j ≤ hi ∧ j - i ≤ kx ∧ Hid (Srch (fun c => !ltOf cf d[n - 1 - c]! d[c]!) lo hi i j) ∧ Aside (SWK enc k w0 blk off d wr))
    case atStart => exact ⟨lo, hi, rfl, rfl, Nat.le_refl _, q2, Nat.le_refl _, Nat.le_refl _, Srch.start _ _ _ q2, S1⟩
    case round =>
      obtain ⟨i, j, rfl, rfl, hli, hij, hjh, hkx, HI, S2⟩ := hrel
      clear S1
      by_cases h0 : i < j
      · have h0z : (i : Int) < (j : Int) := by omega
        obtain ⟨h, hh⟩ : ∃ h : Nat, h = (i + j) / 2 := ⟨_, rfl⟩
        have eh : ((i : Int) + (j : Int)) / 2 = (h : Int) := by omega
        have h1 : i ≤ h := by omega
        have h2 : h < j := by omega
        obtain ⟨p, hp⟩ : ∃ p : Nat, p = n - 1 - h := ⟨_, rfl⟩
        have rq : IntKind.i64.wrap (((n - 1 : Nat) : Int) - (h : Int)) = (p : Int) := by rw [IntKind.wrap_i64]; omega
        have rq2 : IntKind.i64.wrap ((n : Int) - 1 - (h : Int)) = (p : Int) := by rw [IntKind.wrap_i64]; omega
        have hpd : p < d.size := by omega
        have bp : (p : Int) < (d.size : Int) := by omega
        have bh : (h : Int) < (d.size : Int) := by omega
        have HH := hid (And.intro hh hp)
        clear hh hp
        cases hL : ltOf cf d[p]! d[h]! with
        | true =>
          obtain ⟨x1, hx1⟩ : ∃ x, x = d[p]! := ⟨_, rfl⟩
          obtain ⟨y1, hy1⟩ : ∃ x, x = d[h]! := ⟨_, rfl⟩
          have l1a := S2.out.ld R hds.out P (p) (by omega)
          have l1b := S2.out.ld R hds.out P (h) (by omega)
          rw [← hx1] at l1a
          rw [← hy1] at l1b
          have hc1 := S2.out.cmp HC.out hds.out x1 y1
          have hv1 : cf x1 y1 < 0 := by rw [hx1, hy1]; exact of_decide_eq_true hL
          have hd1 : decide (cf x1 y1 < 0) = true := decide_eq_true hv1
          have HL1 := hid hL
          clear hx1 hy1 hL
          go_wp2_with fail
          go_quiet_grown (first | (go_at_fn g; refine Calls.grown_of (hc1 _ _)))
          have S3 : Aside (SWK enc k w0 blk off d (grow (wr.drewN nq) osq)) := S2.out.grown nq osq
          clear l1a l1b hc1 S2
          generalize grow (wr.drewN nq) osq = w2 at S3 ⊢
          clear nq osq hv1 hd1
          go_wp2
          go_roundg (h - i)
          case measure => omega
          case rel => exact ⟨i, h, rfl, rfl, hli, by omega, by omega, Nat.le_refl _, (show Hid _ from by
            have e := HL1.out
            rw [HH.out.2, HH.out.1] at e
            rw [HH.out.1]; exact HI.out.down h0 (by rw [e]; rfl)), S3⟩
        | false =>
          obtain ⟨x2, hx2⟩ : ∃ x, x = d[p]! := ⟨_, rfl⟩
          obtain ⟨y2, hy2⟩ : ∃ x, x = d[h]! := ⟨_, rfl⟩
          have l2a := S2.out.ld R hds.out P (p) (by omega)
          have l2b := S2.out.ld R hds.out P (h) (by omega)
          rw [← hx2] at l2a
          rw [← hy2] at l2b
          have hc2 := S2.out.cmp HC.out hds.out x2 y2
          have hv2 : ¬ cf x2 y2 < 0 := by rw [hx2, hy2]; exact of_decide_eq_false hL
          have hd2 : decide (cf x2 y2 < 0) = false := decide_eq_false hv2
          have HL2 := hid hL
          clear hx2 hy2 hL
          go_wp2_with fail
          go_quiet_grown (first | (go_at_fn g; refine Calls.grown_of (hc2 _ _)))
          have S3 : Aside (SWK enc k w0 blk off d (grow (wr.drewN nq) osq)) := S2.out.grown nq osq
          clear l2a l2b hc2 S2
          generalize grow (wr.drewN nq) osq = w2 at S3 ⊢
          clear nq osq hv2 hd2
          go_wp2
          go_roundg (j - (h + 1))
          case measure => omega
          case rel => exact ⟨h + 1, j, by go_num, rfl, by omega, by omega, hjh, Nat.le_refl _, (show Hid _ from by
            have e := HL2.out
            rw [HH.out.2, HH.out.1] at e
            rw [HH.out.1]; exact HI.out.up h0 (by rw [e]; rfl)), S3⟩
      · have h0z : ¬ (i : Int) < (j : Int) := by omega
        obtain rfl : i = j := by omega
        obtain ⟨en', hen⟩ : ∃ e : Nat, e = n - i := ⟨_, rfl⟩
        have re : IntKind.i64.wrap ((n : Int) - (i : Int)) = (en' : Int) := by rw [IntKind.wrap_i64]; omega
        have v1 : a ≤ i := by omega
        have v2 : i ≤ m := by omega
        have v3 : i ≤ mid := by omega
        have v4 : m ≤ en' := by omega
        have v5 : mid ≤ en' := by omega
        have v6 : en' ≤ b := by omega
        have v7 : en' + i ≤ n := by omega
        have v8 : n ≤ en' + i := by omega
        have HEN := hid hen
        clear hen
        go_upto_region 39 with fail
        go_cut [185] from 178 to 184 (fun s185 wx => ∃ c : Bool, s185 = .bool c ∧ Hid (c = decide (i < m ∧ m < en')) ∧ Aside (SWK enc k w0 blk off d wx))
        case first =>
          by_cases c1 : i < m
          · have c1z : (i : Int) < (m : Int) := by omega
            by_cases c2 : m < en'
            · have c2z : (m : Int) < (en' : Int) := by omega
              go_wp2_with fail
              go_meet
              exact ⟨true, rfl, (decide_eq_true (And.intro c1 c2)).symm, S2⟩
            · have c2z : ¬ (m : Int) < (en' : Int) := by omega
              go_wp2_with fail
              go_meet
              exact ⟨false, rfl, (decide_eq_false (fun h => c2 h.2)).symm, S2⟩
          · have c1z : ¬ (i : Int) < (m : Int) := by omega
            go_wp2_with fail
            go_meet
            exact ⟨false, rfl, (decide_eq_false (fun h => c1 h.1)).symm, S2⟩
        obtain ⟨c, rfl, HC1, S3⟩ := hcut
        clear S2
        go_upto_if 185 with fail
        go_cut [20] from 186 to 191 (fun s20 wx => ∃ d1 : Array α, s20 = .int .i64 i ∧ Hid (Rot i m en' d d1) ∧ Aside (SWK enc k w0 blk off d1 wx))
        case first =>
          cases c with
          | true =>
            have hc := of_decide_eq_true HC1.out.symm
            have HCC := hid hc
            clear hc HC1
            go_wp2_with (first | (go_at_fn 158; refine (HROT.out i m en' _ S3.out HCC.out.1 HCC.out.2 (by omega)).mono ?_; rintro e w' ⟨rfl, d1, hd1, S4⟩))
            go_meet
            exact ⟨d1, rfl, hd1, S4⟩
          | false =>
            have hc := of_decide_eq_false HC1.out.symm
            go_wp2_with fail
            go_meet
            exact ⟨d, rfl, (show Hid _ from by
              by_cases c1 : i < m
              · rw [show en' = m by omega]; exact Rot.none_right i m d v2
              · rw [show i = m by omega]; exact Rot.none_left m en' d), S3⟩
        case rest =>
          obtain ⟨d1, rfl, HR1, S3'⟩ := hcut
          clear S3 HC1
          have S3 := S3'
          clear S3'
          have hd1 := hid HR1.out.size
          have HP := hid (show Parted (ltOf cf) s a i mid en' b d1 from by
            have h1 := HI.out
            have h2 := HR1.out
            rw [HLH.out.1, HLH.out.2, HN.out, HMID.out] at h1
            rw [HEN.out, HN.out, HMID.out] at h2
            have h3 := mrg_cut HSS.out HM.out ham hmb h1 h2
            rwa [← HMID.out, ← HN.out, ← HEN.out] at h3)
          go_upto_region 41 with fail
          go_cut [199] from 192 to 198 (fun s199 wx => ∃ c : Bool, s199 = .bool c ∧ Hid (c = decide (a < i ∧ i < mid)) ∧ Aside (SWK enc k w0 blk off d1 wx))
          case first =>
            by_cases c1 : a < i
            · have c1z : (a : Int) < (i : Int) := by omega
              by_cases c2 : i < mid
              · have c2z : (i : Int) < (mid : Int) := by omega
                go_wp2_with fail
                go_meet
                exact ⟨true, rfl, (decide_eq_true (And.intro c1 c2)).symm, S3⟩
              · have c2z : ¬ (i : Int) < (mid : Int) := by omega
                go_wp2_with fail
                go_meet
                exact ⟨false, rfl, (decide_eq_false (fun h => c2 h.2)).symm, S3⟩
            · have c1z : ¬ (a : Int) < (i : Int) := by omega
              go_wp2_with fail
              go_meet
              exact ⟨false, rfl, (decide_eq_false (fun h => c1 h.1)).symm, S3⟩
          obtain ⟨c, rfl, HC2, S4⟩ := hcut
          clear S3
          go_upto_if 199 with fail
          go_cut [20] from 200 to 205 (fun s20 wx => ∃ d2 : Array α, s20 = .int .i64 i ∧ Hid (Mrgd s a mid d1 d2) ∧ Aside (SWK enc k w0 blk off d2 wx))
          case first =>
            cases c with
            | true =>
              have hc := of_decide_eq_true HC2.out.symm
              have HCC := hid hc
              clear hc HC2
              go_wp2_with (first | (go_at_fn 154; refine (IH.out a i mid d1 _ (by omega) hd1.out S4.out HCC.out.1 HCC.out.2 (by omega) HP.out.one).mono ?_; rintro e w' ⟨rfl, d2, hd2, S5⟩))
              go_meet
              exact ⟨d2, rfl, hd2, S5⟩
            | false =>
              have hc := of_decide_eq_false HC2.out.symm
              go_wp2_with fail
              go_meet
              exact ⟨d1, rfl, mrg_idle HP.out.one hc v1 v3, S4⟩
          case rest =>
            obtain ⟨d2, rfl, HM2, S5⟩ := hcut
            clear S4 HC2
            have S4 := S5
            clear S5
            have hmd : mid ≤ d1.size := by have := hd1.out; omega
            have HF := hid (HP.out.first hmd HM2.out v5)
            have hd2 := hid (HM2.out.perm.1.trans hd1.out)
            have fin : ∀ d3, Mrgd s mid b d2 d3 → Mrgd s a b d d3 := fun d3 h3 => by
              have hbd : b ≤ d1.size := by have := hd1.out; omega
              have h := mrgd_both (by omega) (by omega) hbd HM2.out HF.out.2 h3
              exact ⟨permIn_trans _ _ _ _ _ (permIn_wide HR1.out.perm v1 v6 hb) h.perm, h.sorted⟩
            have FIN := hid fin
            clear fin hmd
            by_cases c1 : mid < en'
            · have c1z : (mid : Int) < (en' : Int) := by omega
              by_cases c2 : en' < b
              · have c2z : (en' : Int) < (b : Int) := by omega
                go_wp2_with (first | (go_at_fn 154; refine (IH.out mid en' b d2 _ (by omega) hd2.out S4.out c1 c2 hb HF.out.1).mono ?_; rintro e w' ⟨rfl, d3, hd3, S5⟩))
                go_end0
                exact ⟨rfl, d3, FIN.out d3 hd3, S5⟩
              · have c2z : ¬ (en' : Int) < (b : Int) := by omega
                go_wp2
                go_end0
                exact ⟨rfl, d2, FIN.out d2 (mrg_idle HF.out.1 (fun h => c2 h.2) v5 v6), S4.out⟩
            · have c1z : ¬ (mid : Int) < (en' : Int) := by omega
              go_wp2
              go_end0
              exact ⟨rfl, d2, FIN.out d2 (mrg_idle HF.out.1 (fun h => c1 h.1) v5 v6), S4.out⟩
end SoI
end Go.Proofs.Ytidegffdhpdhjaa
