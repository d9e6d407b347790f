/- postmarklaw13.FrameChain: true, over frame's contracts. -/
import Derived.Test.YtkjidligfcihgaaKnown13
import Derived.Test.YtkjidligfcihgaaFrs13
import Derived.Deep.CutBlock
import Derived.Deep.DeepCutAuto
import Derived.Deep.QuietTactic
import Derived.BigQuiet
namespace Go.Pm
open Go Go.RowKit
/-- What frame.Put tells: a row and no fault. -/
abbrev Fct.put1 (k : Nat) (l : List UInt8) (uses : List Nat := []) : Fct := { k := k, uses := uses, pure := fun u => ∃ a c, u = .tuple #[.slice a l.length c, .int .i64 0], fact := fun u W => ∃ a c, u = .tuple #[.slice a l.length c, .int .i64 0] ∧ ∃ lo hi, Bs W lo hi (.slice a l.length c) l }
theorem Steady.put1 {l : List Fct} {k : Nat} {us : List Nat} {m : List UInt8} (h : Steady l) : Steady (.put1 k m us :: l) := .cons ⟨_, none, 0, rfl⟩ (fun _ _ _ hk ⟨a, c, h1, lo, hi, h2⟩ => ⟨a, c, h1, lo, hi, h2.kept hk (fun _ _ _ h => h)⟩) h
end Go.Pm
namespace Go.Proofs.Ytkjidligfcihgaa
open Go.RowKit Go.Pm
namespace K13
open Fm
theorem kind_wrap {Y C K : Nat} (h1 : (Y : Int) % 255 = (C : Int)) (_h2 : C < 255) (h3 : (C : Int) + 1 = (K : Int)) : IntKind.i64.wrap (IntKind.i64.wrap ((Y : Int).tmod 255) + 1) = (K : Int) := by
  have e1 : IntKind.i64.wrap (C : Int) = (C : Int) := by rw [IntKind.wrap_i64]; omega
  have e2 : IntKind.i64.wrap (K : Int) = (K : Int) := by rw [IntKind.wrap_i64]; omega
  rw [Int.tmod_eq_emod_of_nonneg (by omega), h1, e1, h3, e2]
set_option maxRecDepth 100000 in
set_option maxHeartbeats 4000000 in
theorem chain (hP : PutC) (hR : ReadC) (v0 v1 : Value) (lo hi lo' hi' lo1 hi1 : Nat) (bs : List (List UInt8)) (ks : List UInt8) (w : World) (hv0 : Bss w lo hi lo' hi' v0 bs) (hv1 : Bs w lo1 hi1 v1 ks) :
    Calls Try.prog 6 #[v0, v1] w fun e w' => e = .returned (.bool true) ∧ Kept None w w' := by
  obtain ⟨a0, c0, rfl, _⟩ := hv0.shape
  obtain ⟨a1, c1, rfl, _⟩ := hv1.shape
  have HK := hid (fun W => known hP hR W)
  have HV0 := hid hv0
  have HV1 := hid hv1.all
  have HP := hid hP
  have HR := hid hR
  clear hv0 hv1 hP hR
  by_cases hl : bs.length ≤ 10
  · have dl : decide ((10 : Int) < (bs.length : Int)) = false := by simp; omega
    have dl2 : decide (10 < bs.length) = false := by simp; omega
    by_cases hk : bs.length ≤ ks.length
    · have dk : decide ((ks.length : Int) < (bs.length : Int)) = false := by simp; omega
      have dk2 : decide (ks.length < bs.length) = false := by simp; omega
      have HL := hid (And.intro hl hk)
      clear hl hk
      go_enter Try.func6, Try.ntmps6
      go_wp2_with fail
      refine (HK.out w).mono ?_
      rintro e w1 ⟨rfl, k1⟩
      have K1 := hid k1
      clear k1
      go_wp2_with fail
      go_loopg [5, 6] bs.length (fun kx sB sI wr => ∃ (i : Nat) (a8 : Option Addr) (n8 c8 : Nat), sB = .slice a8 n8 c8 ∧ sI = .int .i64 (i : Int) ∧ i ≤ bs.length ∧ bs.length - i ≤ kx ∧ Hid (∀ j, j < i → (bs.getD j []).length ≤ 40) ∧ Hid (Kept None w wr) ∧ Hid (Ob wr w.heap.size (.slice a8 n8 c8) (frsOn ks bs 0 i)))
      case atStart => exact ⟨0, none, 0, 0, rfl, rfl, Nat.zero_le _, Nat.le_refl _, hid (fun j h => absurd h (Nat.not_lt_zero _)), K1, hid (Bo.nil _ _ _)⟩
      case round =>
      obtain ⟨i, a8, n8, c8, rfl, rfl, hi, hix, HG, HS, HB⟩ := hrel
      by_cases hlt : i < bs.length
      · have hlt' : decide ((i : Int) < (bs.length : Int)) = true := by simpa using hlt
        obtain ⟨b, o, rfl, q1, q2, q3, hcell⟩ := (HV0.out.kept HS.out (fun _ _ _ h => h) (fun _ _ _ h => h)).at (by omega)
        obtain ⟨ax, cx, hcx, hx⟩ := hcell i hlt
        have HX := hid hx.all
        have hgx : bs.getD i [] = bs[i] := by simp [hlt]
        obtain ⟨x, hxe⟩ : ∃ x, x = bs[i] := ⟨_, rfl⟩
        rw [← hxe] at hcx HX hgx
        have HGX := hid hgx
        have hik : i < ks.length := by have := HL.out.2; omega
        obtain ⟨b1, o1, rfl, _, _, p1, hcell1⟩ := (HV1.out.kept HS.out (fun _ _ _ h => h)).ne (by omega)
        have hk1 := hcell1 i hik
        obtain ⟨Y, hY⟩ : ∃ Y : Nat, (Y : Int) = bAt ks i := ⟨(bAt ks i).toNat, by have := bAt_ge ks i; omega⟩
        have hY2 : Y < 256 := by have := bAt_lt ks i; omega
        rw [← hY] at hk1
        obtain ⟨C, hC⟩ : ∃ C, C = Y % 255 := ⟨_, rfl⟩
        have r1 : (Y : Int) % 255 = (C : Int) := by omega
        obtain ⟨K, hK⟩ : ∃ K, K = C + 1 := ⟨_, rfl⟩
        have r2 : (C : Int) + 1 = (K : Int) := by omega
        have hKY : bAt ks i % 255 + 1 = (K : Int) := by omega
        have hK5 : 1 ≤ K ∧ K ≤ 255 := by omega
        have hC5 : C < 255 := by omega
        clear hcell hcell1 hx hxe q1 q2 hgx
        have HKK := hid (And.intro hKY hK5)
        have HWR := hid (kind_wrap r1 hC5 r2)
        have HIK := hid (And.intro hik (And.intro hY hY2))
        clear hKY hK hC hY hY2 hK5
        have hlk : (i : Int) < (ks.length : Int) := Int.ofNat_lt.mpr hik
        have hlb : (i : Int) < (bs.length : Int) := Int.ofNat_lt.mpr hlt
        by_cases hx40 : x.length ≤ 40
        · have dx : decide ((40 : Int) < (x.length : Int)) = false := by simp; omega
          have dx2 : decide (40 < x.length) = false := by simp; omega
          have HX2 := hid hx40
          clear hx40
          have hik := HIK.out.1
          have hY2 := HIK.out.2.2
          have HC1 := hid (fun W (hW : Kept None wr W) => show W.cell? ⟨b1, o1 + i, none⟩ = some (.int .u8 (Y : Int)) from (hW.cell (p := ⟨b1, o1 + i, none⟩) p1 (fun h => h)).trans hk1)
          have HC2 := hid (fun W (hW : Kept None wr W) => show W.cell? ⟨b, o + i, none⟩ = some (.slice ax x.length cx) from (hW.cell (p := ⟨b, o + i, none⟩) q3 (fun h => h)).trans hcx)
          obtain ⟨T, hT⟩ : ∃ T, T = frOf ks bs i := ⟨_, rfl⟩
          have hTl : T.length ≤ 61 := by rw [hT, frOf_len, HGX.out]; have := HX2.out; omega
          have HP1 := hid (fun W (hW : Kept None wr W) => show Calls Try.prog 8 #[.int .i64 (K : Int), .int .i64 (i : Int), .slice ax x.length cx] W fun e w' => ∃ a c, e = .returned (.tuple #[.slice a T.length c, .int .i64 0]) ∧ Kept None W w' ∧ Bs w' 0 w'.heap.size (.slice a T.length c) T from by
            obtain ⟨e1, e2⟩ := putFL_ok (k := (K : Int)) (s := (i : Int)) (b := x) (by have := HKK.out.2; omega) (by have := HKK.out.2; omega) (by omega) (by have := HX2.out; omega)
            have hTe : putF (K : Int) (i : Int) x = T := by rw [hT]; unfold frOf; rw [HKK.out.1, HGX.out]
            refine (HP.out (K : Int) (i : Int) _ _ _ x W (HX.out.kept hW (fun _ _ _ h => h)) (by have := HKK.out.2; omega) (by have := HKK.out.2; omega) (by omega) (by have := HL.out.1; omega) (by have := HX2.out; omega)).mono ?_
            rintro e w' ⟨u, rfl, k, hb⟩
            rw [e2, hTe] at hb
            rw [e1]
            obtain ⟨a, c, rfl⟩ := hb.form
            exact ⟨a, c, rfl, k, (hb.bs (Nat.le_refl _)).all⟩)
          have HT := hid (And.intro hT hTl)
          clear hcx hk1 p1 q3 hT hTl
          have hc0 := HC2.out wr (Kept.refl _ _)
          go_wp2_with fail
          clear hc0
          have hs : Steady [.put1 12 (T)] := Go.Pm.Steady.put1 (Go.Pm.Steady.nil)
          refine wp_region_kn wr _ hs (Kept.refl _ _) (by kernel_rfl) (by kernel_rfl) (by kernel_rfl) ?_
          iterate 12 (refine wpPar_pure rfl (by rfl) _ (fun W hW => by
              have hc1 := HC1.out W hW
              have hc2 := HC2.out W hW
              go_simp
              exact rfl) ?_; simp only [Act.put, List.setIfInBounds_toArray, List.set_cons_zero, List.set_cons_succ])
          refine wpKn_adds hs rfl (by rfl) (fun W hW hd => ?_) (fun v12 hv => ?_)
          · unfold Gives
            go_simp
            rw [HWR.out]
            refine gives_call (HP1.out W hW) ?_
            rintro e w3 ⟨a, c, rfl, k3, b3⟩
            exact ⟨_, rfl, k3, ⟨a, c, rfl⟩, a, c, rfl, 0, w3.heap.size, b3⟩
          obtain ⟨a9, c9, rfl⟩ : ∃ a c, v12 = .tuple #[.slice a (T).length c, .int .i64 0] := hv
          simp only [Act.put, List.setIfInBounds_toArray, List.set_cons_zero, List.set_cons_succ]
          iterate 5 (refine wpPar_pure rfl (by rfl) _ (fun W hW => by
              have hc1 := HC1.out W hW
              have hc2 := HC2.out W hW
              go_simp
              exact rfl) ?_; simp only [Act.put, List.setIfInBounds_toArray, List.set_cons_zero, List.set_cons_succ])
          refine wpPar_nil (fun W2 hW2 hGG => ?_)
          obtain ⟨a, c, he, lu, hu', hu⟩ : ∃ a c, Value.tuple #[.slice a9 T.length c9, .int .i64 0] = .tuple #[.slice a T.length c, .int .i64 0] ∧ ∃ lo hi, Bs W2 lo hi (.slice a T.length c) T := hGG 12
          obtain ⟨rfl, rfl⟩ : a9 = a ∧ c9 = c := by simpa using he
          have hu := hu.all
          have hW2' : Kept None wr W2 := hW2
          have hb := HB.out.kept hW2' (fun _ _ h => h)
          have hgl := frsOn_len ks bs i 0 (by simpa using HG.out)
          have hln : (frsOn ks bs 0 i).length + T.length ≤ 140737488355328 := Nat.le_trans (Nat.add_le_add hgl HT.out.2) (by have := HL.out.1; omega)
          have hsz := (HS.out.trans hW2').size
          have K2 := hid (HS.out.trans hW2')
          clear hGG he hs hW2 hW2' hgl
          go_wp2_with (first | (refine wpList_append_bo rfl _ _ 22 rfl rtBytes rfl rfl hb hu hln hsz ?_; intro a7 n7 c7 w7 hB7 hK7) | fail)
          have HK7 := hid (K2.out.then hK7 (fun q hq h => Nat.lt_irrefl _ (Nat.lt_of_lt_of_le hq (hb.own q h).1)))
          have hB8 : Ob w7 w.heap.size (.slice a7 n7 c7) (frsOn ks bs 0 (i + 1)) := by
            rw [frsOn_last, Nat.zero_add, ← HT.out.1]
            exact hB7
          have HB7 := hid hB8
          clear hb hu hln hsz hB7 hK7 hB8
          go_wp2
          go_roundg (bs.length - (i + 1))
          case measure => omega
          case rel => exact ⟨i + 1, a7, n7, c7, rfl, by go_num, hlt, Nat.le_refl _, hid (fun j hj => by rcases Nat.lt_succ_iff_lt_or_eq.mp hj with h | h; exact HG.out j h; subst h; rw [HGX.out]; exact HX2.out), HK7, HB7⟩
        · have dx : decide ((40 : Int) < (x.length : Int)) = true := by simp; omega
          have dx2 : decide (40 < x.length) = true := by simp; omega
          clear hx40
          go_wp2
          go_ret
          exact ⟨rfl, HS.out⟩
      · have hlt' : decide ((i : Int) < (bs.length : Int)) = false := by simpa using hlt
        obtain rfl : i = bs.length := by omega
        clear hlt hi hix
        have HB0 := hid (HB.out.bs (Nat.le_refl _)).all
        clear HB
        obtain ⟨wo, rfl⟩ : ∃ wo : World, wo = wr := ⟨_, rfl⟩
        go_wp2_with fail
        go_loopg [5, 9] bs.length (fun kx sB sI wr => ∃ (i : Nat) (a8 : Option Addr) (n8 c8 : Nat), sB = .slice a8 n8 c8 ∧ sI = .int .i64 (i : Int) ∧ i ≤ bs.length ∧ bs.length - i ≤ kx ∧ Hid (Kept None w wr) ∧ Hid (Bs wr 0 wr.heap.size (.slice a8 n8 c8) (frsOn ks bs i (bs.length - i))))
        case atStart => exact ⟨0, a8, n8, c8, rfl, rfl, Nat.zero_le _, Nat.le_refl _, HS, HB0⟩
        case round =>
        obtain ⟨i, a8, n8, c8, rfl, rfl, hi, hix, HS, HB⟩ := hrel
        by_cases hlt : i < bs.length
        · have hlt' : decide ((i : Int) < (bs.length : Int)) = true := by simpa using hlt
          obtain ⟨b, o, rfl, q1, q2, q3, hcell⟩ := (HV0.out.kept HS.out (fun _ _ _ h => h) (fun _ _ _ h => h)).at (by omega)
          obtain ⟨ax, cx, hcx, hx⟩ := hcell i hlt
          have HX := hid hx.all
          have hgx : bs.getD i [] = bs[i] := by simp [hlt]
          obtain ⟨x, hxe⟩ : ∃ x, x = bs[i] := ⟨_, rfl⟩
          rw [← hxe] at hcx HX hgx
          have hik : i < ks.length := by have := HL.out.2; omega
          obtain ⟨b1, o1, rfl, _, _, p1, hcell1⟩ := (HV1.out.kept HS.out (fun _ _ _ h => h)).ne (by omega)
          have hk1 := hcell1 i hik
          obtain ⟨Y, hY⟩ : ∃ Y : Nat, (Y : Int) = bAt ks i := ⟨(bAt ks i).toNat, by have := bAt_ge ks i; omega⟩
          have hY2 : Y < 256 := by have := bAt_lt ks i; omega
          rw [← hY] at hk1
          obtain ⟨C, hC⟩ : ∃ C, C = Y % 255 := ⟨_, rfl⟩
          have r1 : (Y : Int) % 255 = (C : Int) := by omega
          obtain ⟨K, hK⟩ : ∃ K, K = C + 1 := ⟨_, rfl⟩
          have r2 : (C : Int) + 1 = (K : Int) := by omega
          have hKY : bAt ks i % 255 + 1 = (K : Int) := by omega
          have hC5 : C < 255 := by omega
          obtain ⟨m, hm⟩ : ∃ m, bs.length - i = m + 1 := ⟨bs.length - i - 1, by omega⟩
          have hb := HB.out
          rw [hm] at hb
          have hx40 : x.length ≤ 40 := by rw [← hgx]; exact HG.out i hlt
          have e1 := frsOn_read ks bs i m (by have := HL.out.1; omega) (by rw [hgx]; exact hx40)
          have e2 := frsOn_drop ks bs i m
          have e3 := frsOn_len ks bs (m + 1) i (fun j hj => HG.out j (by omega))
          have e4 : 21 + x.length ≤ (frsOn ks bs i (m + 1)).length := by rw [frsOn, List.length_append, frOf_len, hgx]; omega
          have e5 : bs.length - (i + 1) = m := by omega
          rw [hgx] at e1 e2
          obtain ⟨L, hL⟩ : ∃ L, L = frsOn ks bs i (m + 1) := ⟨_, rfl⟩
          rw [← hL] at hb e1 e2 e3 e4
          obtain ⟨N, hN⟩ : ∃ N, N = 21 + x.length := ⟨_, rfl⟩
          rw [← hN] at e1 e2 e4
          rw [hKY] at e1
          obtain ⟨a8', c8', he, _⟩ := hb.shape
          obtain ⟨rfl, rfl, rfl⟩ : a8 = a8' ∧ n8 = L.length ∧ c8 = c8' := by simpa using he
          have r := HR.out (.slice a8 L.length c8) _ _ L wr hb (by have := HL.out.1; omega)
          simp only [e1] at r
          obtain ⟨x5, sl5, p5⟩ := slice_from tBytes zBytes hb .i64 (N : Int) (by omega) (by omega)
          simp only [Int.toNat_natCast] at sl5 p5
          have HN5 : Hid (Bs wr 0 wr.heap.size (.slice x5 (L.length - N) (c8 - N)) (frsOn ks bs (i + 1) (bs.length - (i + 1)))) := hid (by
            rw [e5, ← e2]
            unfold Bs
            rw [List.map_drop]
            exact p5)
          have d1 : decide ((N : Int) < 1) = false := by simp; omega
          have d1' : decide (N < 1) = false := by simp; omega
          have d2 : decide ((L.length : Int) < (N : Int)) = false := by simp; omega
          have d2' : decide (L.length < N) = false := by simp; omega
          have HR1 := hid r
          have HWR := hid (kind_wrap r1 hC5 r2)
          have HCC := hid (And.intro hcx hk1)
          have hlk : (i : Int) < (ks.length : Int) := Int.ofNat_lt.mpr hik
          have hlb : (i : Int) < (bs.length : Int) := Int.ofNat_lt.mpr hlt
          have HQ := hid (And.intro q3 p1)
          clear hcell hcell1 hx hxe q1 q2 hgx hk1 hcx hKY hK hC hY e1 e2 e3 e4 e5 hL hN hb r p5 hm HB hx40 he q3 p1
          go_wp2_with fail
          refine HR1.out.mono ?_
          rintro e w5 ⟨u5, rfl, k5, b5⟩
          obtain ⟨au, cu, rfl, _⟩ := b5.shape
          have cv1 := fun q => cvBytes (b5.kept (Kept.toDrewN None w5 q) (fun _ _ _ h => h))
          have cv2 := fun q => cvBytes ((HX.out.kept k5 (fun _ _ _ h => h)).kept (Kept.toDrewN None w5 q) (fun _ _ _ h => h))
          have hc1 : w5.cell? ⟨b1, o1 + i, none⟩ = some (.int .u8 (Y : Int)) := (k5.cell (p := ⟨b1, o1 + i, none⟩) HQ.out.2 (fun h => h)).trans HCC.out.2
          have hc2 : w5.cell? ⟨b, o + i, none⟩ = some (.slice ax x.length cx) := (k5.cell (p := ⟨b, o + i, none⟩) HQ.out.1 (fun h => h)).trans HCC.out.1
          have K5 := hid (HS.out.trans k5)
          have HN6 := hid (HN5.out.kept k5 (fun _ _ _ h => h)).all
          clear k5 b5 HN5
          have hwr := HWR.out
          go_wp2_with fail
          go_quiet (fail)
          have K6 := hid (K5.out.trans (Kept.toDrewN None w5 nq))
          have HN7 := hid (HN6.out.kept (Kept.toDrewN None w5 nq) (fun _ _ _ h => h)).all
          go_wp2
          go_roundg (bs.length - (i + 1))
          case measure => omega
          case rel => exact ⟨i + 1, x5, _, _, rfl, by go_num, hlt, Nat.le_refl _, K6, HN7⟩
        · have hlt' : decide ((i : Int) < (bs.length : Int)) = false := by simpa using hlt
          obtain rfl : i = bs.length := by omega
          have hb := HB.out
          rw [Nat.sub_self, frsOn] at hb
          obtain ⟨a8', c8', he, _⟩ := hb.shape
          obtain ⟨rfl, rfl, rfl⟩ : a8 = a8' ∧ n8 = 0 ∧ c8 = c8' := by simpa using he
          have r := HR.out (.slice a8 0 c8) _ _ [] wr hb (by decide)
          simp only [readF_nil] at r
          have HR1 := hid r
          clear hlt hi hix hb r HB he
          go_wp2_with fail
          refine HR1.out.mono ?_
          rintro e w5 ⟨u5, rfl, k5, b5⟩
          have K5 := hid (HS.out.trans k5)
          clear k5 b5
          go_wp2
          go_ret
          exact ⟨rfl, K5.out⟩
    · have dk : decide ((ks.length : Int) < (bs.length : Int)) = true := by simp; omega
      have dk2 : decide (ks.length < bs.length) = true := by simp; omega
      clear hl hk
      go_enter Try.func6, Try.ntmps6
      go_wp2_with fail
      refine (HK.out w).mono ?_
      rintro e w1 ⟨rfl, k1⟩
      go_wp2
      go_ret
      exact ⟨rfl, k1⟩
  · have dl : decide ((10 : Int) < (bs.length : Int)) = true := by simp; omega
    have dl2 : decide (10 < bs.length) = true := by simp; omega
    clear hl
    go_enter Try.func6, Try.ntmps6
    go_wp2_with fail
    refine (HK.out w).mono ?_
    rintro e w1 ⟨rfl, k1⟩
    go_wp2
    go_ret
    exact ⟨rfl, k1⟩
end K13
end Go.Proofs.Ytkjidligfcihgaa
