/- Rows.AdmitNextSaid: the next version of a name is behind all that are known and all that wait. No condition. -/
import Derived.Test.YtdobmebhjmgkmaaPk6
import Derived.Test.YtdobmebhjmgkmaaRows
namespace Go.Proofs.Ytdobmebhjmgkmaa
open Go.RowKit Go.Pm
namespace P17
open Ad
theorem mod6_eq (x k : Nat) : (((x : Int) % 6) == ((k : Int) % 6)) = (x % 6 == k % 6) := by
  rw [Bool.eq_iff_iff, beq_iff_eq, beq_iff_eq]
  omega
theorem cnt_next (l : List UInt8) (nm : ByteArray) (k j : Nat) (h : j < l.length) (hn : nm = Seat.nameS k) : cnt (l.take (j + 1)) nm = cnt (l.take j) nm + (if (l[j].toNat % 6 == k % 6) = true then 1 else 0) := by
  rw [take_one l j h, cnt_snoc, hn, names_eq]
theorem keyOf_pos (nm : ByteArray) {c : Nat} (h : c ≠ 0) : 1 ≤ keyOf nm c := by
  unfold keyOf
  rw [if_neg h]
  exact pubN_pos _
set_option maxRecDepth 100000 in
set_option maxHeartbeats 16000000 in
/-- The next version of a name is behind all that are known and all that wait. -/
theorem next (hN : NextC) (hD : DecideC) (v vm : Value) (lo hi lo' hi' : Nat) (l m : List UInt8) (k : Nat) (w : World) (hv : Bs w lo hi v l) (hvm : Bs w lo' hi' vm m) :
    Calls Try.prog 7 #[v, vm, .int .u8 (k : Int)] w fun e w' => e = .returned (.bool true) ∧ Kept None w w' := by
  obtain ⟨al, cl, rfl, _⟩ := hv.shape
  obtain ⟨am, cm, rfl, _⟩ := hvm.shape
  have HKN := hid (known hN hD w)
  have HV := hid hv.all
  have HVM := hid hvm.all
  have HC := hid (And.intro hN hD)
  clear hv hvm hN hD
  go_enter Try.func7, Try.ntmps7
  go_wp2_with fail
  refine HKN.out.mono ?_
  rintro e w1 ⟨rfl, k1⟩
  have K1 := hid k1
  clear k1 HKN
  by_cases hl : 10 < l.length
  · have z2 : (10 : Int) < (l.length : Int) := by omega
    have z1 : decide ((10 : Int) < (l.length : Int)) = true := decide_eq_true z2
    go_wp2_with (first | go_skip | fail)
    go_ret
    exact ⟨rfl, K1.out⟩
  have z2 : ¬ (10 : Int) < (l.length : Int) := by omega
  have z1 : decide ((10 : Int) < (l.length : Int)) = false := decide_eq_false z2
  by_cases hm : 8 < m.length
  · have y2 : (8 : Int) < (m.length : Int) := by omega
    have y1 : decide ((8 : Int) < (m.length : Int)) = true := decide_eq_true y2
    go_wp2_with (first | go_skip | fail)
    go_ret
    exact ⟨rfl, K1.out⟩
  have y2 : ¬ (8 : Int) < (m.length : Int) := by omega
  have y1 : decide ((8 : Int) < (m.length : Int)) = false := decide_eq_false y2
  have HLM := hid (show l.length ≤ 10 ∧ m.length ≤ 8 by omega)

  have HST := hid (story (.slice al l.length cl) (.slice am m.length cm) 0 w1.heap.size 0 w1.heap.size l m w1 ((HV.out.kept K1.out (fun _ _ _ h => h)).wider (Nat.zero_le _) K1.out.size) ((HVM.out.kept K1.out (fun _ _ _ h => h)).wider (Nat.zero_le _) K1.out.size) (by omega) (by omega))
  go_wp2_with (first | go_skip | fail)
  refine HST.out.mono ?_
  rintro e w2 ⟨a, b, rfl, k2, pa, pb⟩
  obtain ⟨D, p, hsd⟩ := Sd.of (w := w2) (l := l) (m := m) (by omega) (by omega) pa pb
  have HS := hid hsd
  have K2 := hid (K1.out.trans k2)
  clear k2 pa pb HST K1 z1 z2 y1 y2 hl hm
  obtain ⟨xa, ca, rfl⟩ := hsd.da
  obtain ⟨xb, cb, rfl⟩ := hsd.pb
  clear hsd
  obtain ⟨n, hn⟩ : ∃ n, n = Seat.nameS k := ⟨_, rfl⟩
  have HNK := hid hn
  have hnm := Seat.name k w2
  rw [← hn] at hnm
  have HNM := hid hnm
  clear hnm hn
  go_wp2_with fail
  refine HNM.out.mono ?_
  rintro e w3 ⟨rfl, k3⟩
  have K3 := hid (K2.out.trans k3)
  have KS := hid k3
  have KA := hid (Kept.refl None w3)
  have HBB := hid (show (1 : Nat) ≤ 1000 by decide)
  clear k3 HNM
  go_wp2_with fail
  go_loopg [10, 11] l.length (fun kx s10 s11 wr => ∃ (j q : Nat), s11 = .int .i64 (j : Int) ∧ s10 = .int .i64 (q : Int) ∧ j ≤ l.length ∧ l.length - j ≤ kx ∧ Hid (Kept None w3 wr) ∧ Hid (q = 1 + cnt (l.take j) n))
  case atStart => exact ⟨0, _, rfl, by first | rfl | go_num, Nat.zero_le _, Nat.le_refl _, hid (Kept.refl _ _), hid (show 1 = 1 + cnt (l.take 0) n from rfl)⟩
  case round =>
  obtain ⟨j, q, rfl, rfl, hjj, hjx, HT, HQ⟩ := hrel
  by_cases hlt : j < l.length
  · have hlt' : decide ((j : Int) < (l.length : Int)) = true := by simpa using hlt
    have hlb : (j : Int) < (l.length : Int) := Int.ofNat_lt.mpr hlt
    obtain ⟨bb, oo, qa, _, _, hbb, hc⟩ := (HV.out.kept (K3.out.trans (KA.out.trans HT.out)) (fun _ _ _ h => h)).ne (by omega)
    obtain rfl := qa
    have c0 := hc j hlt
    rw [byte_at l j hlt] at c0
    have hcn := cnt_next l n k j hlt HNK.out
    obtain ⟨X, hX⟩ : ∃ X, X = l[j].toNat := ⟨_, rfl⟩
    rw [← hX] at c0 hcn
    have e0 := mod6_eq X k
    obtain ⟨B, hB⟩ : ∃ B, B = (X % 6 == k % 6) := ⟨_, rfl⟩
    rw [← hB] at e0 hcn
    have hql : cnt (l.take j) n ≤ 100 := by
      have := cnt_le (l.take j) n
      rw [List.length_take] at this
      have := HLM.out
      omega
    have wj : wrap64 ((j : Int) + 1) = ((j + 1 : Nat) : Int) := (nums17 (n := j + 1) (by have := HLM.out; omega)).1
    have wq : wrap64 ((q : Int) + 1) = ((q + 1 : Nat) : Int) := (nums17 (n := q + 1) (by have := HQ.out; have := HBB.out; omega)).1
    have HCN := hid hcn
    have HB := hid hB
    have HLT := hid hlt
    clear hc hX hB hcn hbb hql
    cases B with
    | true =>
      have HQ2 : Hid (q + 1 = 1 + cnt (l.take (j + 1)) n) := hid (by rw [HCN.out, HQ.out, if_pos rfl]; omega)
      clear HQ HCN
      go_wp2_with fail
      go_roundg (l.length - (j + 1))
      case measure => have := HLT.out; omega
      case rel => exact ⟨j + 1, q + 1, by first | rfl | go_num, by first | rfl | go_num, HLT.out, Nat.le_refl _, HT, HQ2⟩
    | false =>
      have HQ2 : Hid (q = 1 + cnt (l.take (j + 1)) n) := hid (by rw [HCN.out, HQ.out, if_neg (by decide)]; omega)
      clear HQ HCN
      go_wp2_with fail
      go_roundg (l.length - (j + 1))
      case measure => have := HLT.out; omega
      case rel => exact ⟨j + 1, q, by first | rfl | go_num, rfl, HLT.out, Nat.le_refl _, HT, HQ2⟩
  have hlt' : decide ((j : Int) < (l.length : Int)) = false := by simpa using hlt
  have hlb : ¬ (j : Int) < (l.length : Int) := fun h => hlt (Int.ofNat_lt.mp h)
  have HL1 := hid (show q = 1 + cnt l n from by
    have := HQ.out
    rw [show j = l.length by omega, List.take_length] at this
    exact this)
  have KB := hid (KA.out.trans HT.out)
  clear HQ hjj hjx hlt
  obtain ⟨q1, hq1⟩ : ∃ q1, q1 = q := ⟨_, rfl⟩
  rw [← hq1] at HL1 ⊢
  obtain ⟨wo, hwo⟩ : ∃ wo, wo = wr := ⟨_, rfl⟩
  rw [← hwo] at KB ⊢
  clear hwo hq1 HBB KA HT
  have HBB := hid (show q1 ≤ 1000 by have := HL1.out; have := cnt_le l n; have := HLM.out; omega)
  have KA := KB
  clear KB
  go_wp2_with fail
  clear hlt' hlb
  go_loopg [10, 12] m.length (fun kx s10 s12 wr => ∃ (j q : Nat), s12 = .int .i64 (j : Int) ∧ s10 = .int .i64 (q : Int) ∧ j ≤ m.length ∧ m.length - j ≤ kx ∧ Hid (Kept None wo wr) ∧ Hid (q = q1 + cnt (m.take j) n))
  case atStart => exact ⟨0, _, rfl, rfl, Nat.zero_le _, Nat.le_refl _, hid (Kept.refl _ _), hid (show q1 = q1 + cnt (m.take 0) n from rfl)⟩
  case round =>
  obtain ⟨j, q, rfl, rfl, hjj, hjx, HT, HQ⟩ := hrel
  by_cases hlt : j < m.length
  · have hlt' : decide ((j : Int) < (m.length : Int)) = true := by simpa using hlt
    have hlb : (j : Int) < (m.length : Int) := Int.ofNat_lt.mpr hlt
    obtain ⟨bb, oo, qa, _, _, hbb, hc⟩ := (HVM.out.kept (K3.out.trans (KA.out.trans HT.out)) (fun _ _ _ h => h)).ne (by omega)
    obtain rfl := qa
    have c0 := hc j hlt
    rw [byte_at m j hlt] at c0
    have hcn := cnt_next m n k j hlt HNK.out
    obtain ⟨X, hX⟩ : ∃ X, X = m[j].toNat := ⟨_, rfl⟩
    rw [← hX] at c0 hcn
    have e0 := mod6_eq X k
    obtain ⟨B, hB⟩ : ∃ B, B = (X % 6 == k % 6) := ⟨_, rfl⟩
    rw [← hB] at e0 hcn
    have hql : cnt (m.take j) n ≤ 100 := by
      have := cnt_le (m.take j) n
      rw [List.length_take] at this
      have := HLM.out
      omega
    have wj : wrap64 ((j : Int) + 1) = ((j + 1 : Nat) : Int) := (nums17 (n := j + 1) (by have := HLM.out; omega)).1
    have wq : wrap64 ((q : Int) + 1) = ((q + 1 : Nat) : Int) := (nums17 (n := q + 1) (by have := HQ.out; have := HBB.out; omega)).1
    have HCN := hid hcn
    have HB := hid hB
    have HLT := hid hlt
    clear hc hX hB hcn hbb hql
    cases B with
    | true =>
      have HQ2 : Hid (q + 1 = q1 + cnt (m.take (j + 1)) n) := hid (by rw [HCN.out, HQ.out, if_pos rfl]; omega)
      clear HQ HCN
      go_wp2_with fail
      go_roundg (m.length - (j + 1))
      case measure => have := HLT.out; omega
      case rel => exact ⟨j + 1, q + 1, by first | rfl | go_num, by first | rfl | go_num, HLT.out, Nat.le_refl _, HT, HQ2⟩
    | false =>
      have HQ2 : Hid (q = q1 + cnt (m.take (j + 1)) n) := hid (by rw [HCN.out, HQ.out, if_neg (by decide)]; omega)
      clear HQ HCN
      go_wp2_with fail
      go_roundg (m.length - (j + 1))
      case measure => have := HLT.out; omega
      case rel => exact ⟨j + 1, q, by first | rfl | go_num, rfl, HLT.out, Nat.le_refl _, HT, HQ2⟩
  have hlt' : decide ((j : Int) < (m.length : Int)) = false := by simpa using hlt
  have hlb : ¬ (j : Int) < (m.length : Int) := fun h => hlt (Int.ofNat_lt.mp h)
  have HL2 := hid (show q = q1 + cnt m n from by
    have := HQ.out
    rw [show j = m.length by omega, List.take_length] at this
    exact this)
  have KB := hid (KA.out.trans HT.out)
  clear HQ hjj hjx hlt
  obtain ⟨wp, hwp⟩ : ∃ wp, wp = wr := ⟨_, rfl⟩
  rw [← hwp] at KB ⊢
  clear hwp HT KA
  obtain ⟨C, hC⟩ : ∃ C, C = cnt l n + cnt m n := ⟨_, rfl⟩
  have hCb := HS.out.cb (l := l) (m := m) (by have := HLM.out; omega) (by have := HLM.out; omega) n
  rw [← hC] at hCb
  have hq : q = C + 1 := by have := HL1.out; have := HL2.out; omega
  have hnx := HS.out.next HC.out.1 n wp (KS.out.trans KB.out)
  rw [nextP_q HS.out.wq n (by omega), ← hC] at hnx
  have HNX := hid hnx
  have HCB := hid hCb
  have KP := hid (K3.out.trans KB.out)
  have hkp := fun h => keyOf_pos n (c := C) h
  have hk0 : keyOf n 0 = 0 := rfl
  have hks : ∀ W, C ≠ 0 → Calls Try.prog 16 #[.string n, .int .i64 (C : Int), .bool false] W fun e w' => e = .returned (.int .u64 (keyOf n C : Int)) ∧ Kept None W w' := fun W h => by
    have h1 := Seat.key n (C : Int) false W (by rw [HNK.out]; exact Nat.le_trans (Seat.nameS_size k).2 (by decide))
    unfold keyOf
    rw [if_neg h]
    exact h1
  obtain ⟨KY, hKY⟩ : ∃ z, z = keyOf n C := ⟨_, rfl⟩
  rw [← hKY] at HNX hkp hks
  have HKP := hid (And.intro hkp (And.intro hks (show C = 0 → KY = 0 from fun h => by rw [hKY, h]; exact hk0)))
  subst hq
  clear hnx hC hCb hkp hks hKY hk0 HL1 HL2 HBB
  go_wp2_with fail
  clear hlt' hlb
  refine HNX.out.mono ?_
  rintro e w5 ⟨rfl, k5⟩
  have K5 := hid (KP.out.trans k5)
  clear k5 HNX
  have wC : ((C + 1 : Nat) : Int) = (C : Int) + 1 := by omega
  by_cases h0 : C = 0
  · have hky := HKP.out.2.2 h0
    subst h0
    subst hky
    go_wp2_with (first | go_skip | fail)
    go_ret
    exact ⟨by first | rfl | simp, K5.out⟩
  · have HK2 := hid (HKP.out.2.1 w5 h0)
    have hpos := HKP.out.1 h0
    have y1 : (((KY : Nat) : Int) == 0) = false := beq_eq_false_iff_ne.2 (by omega)
    have y3 : ((C : Int) + 1 == 1) = false := beq_eq_false_iff_ne.2 (by omega)
    have wc : wrap64 (C : Int) = (C : Int) := (nums17 (n := C) (by have := HCB.out; omega)).1
    have wm : IntKind.i64.wrap (((C + 1 : Nat) : Int) - 1) = (C : Int) := by rw [IntKind.wrap_i64]; have := HCB.out; omega
    have wm2 : IntKind.i64.wrap ((C : Int) + 1 - 1) = (C : Int) := by rw [IntKind.wrap_i64]; have := HCB.out; omega
    clear h0 hpos
    go_wp2_with (first | go_skip | fail)
    refine HK2.out.mono ?_
    rintro e w6 ⟨rfl, k6⟩
    have K6 := hid (K5.out.trans k6)
    clear k6 HK2
    go_wp2_with (first | go_skip | fail)
    go_ret
    exact ⟨by first | rfl | simp, K6.out⟩
end P17
end Go.Proofs.Ytdobmebhjmgkmaa
namespace Go.Proofs.Ytdobmebhjmgkmaa
open Go.ChangeShapes Go.WideShapes Go.ChangeAt Go.RowKit Go.Pm

theorem laidOut : laidOutB Try.prog = true := by kernel_rfl
theorem ownKnobs : ownKnob Try.prog.godebug = none := by kernel_rfl
theorem rBool : Try.prog.underlying 4 = some .bool := by kernel_rfl
theorem rU8 : Try.prog.underlying 5 = some (.int .u8) := by kernel_rfl
theorem cByte : Try.prog.cellsOf 5 = 1 := by kernel_rfl

set_option maxRecDepth 100000 in
theorem admitNext_lifted (os : Os) (started : os.Started) (H : Type) (enc : TypeId × Value → H) :
    ReturnsInHanded {} Try.checked os 7 .any (Rows.admitNextSpec.pre6 enc Try.prog Try.f7 Rows.admitNextRow.domain false) (Rows.admitNextSpec.post enc Try.prog Try.f7 false true false false) := by
  refine returnsInHanded_of_change (C := Try.checked) ownKnobs started (by kernel_rfl) Try.func7
    (ChangeSpec.witness6 (enc := enc) (C := Try.checked) false ⟨#[], #[.slice none 0 0, .slice none 0 0, .int .u8 0], []⟩ 8 (by kernel_rfl) (by kernel_rfl) (by kernel_rfl) (by kernel_rfl)) ?_
  intro W base args ds gs before hval0 hW _ _
  have hval : ∀ (j : Nat) t v, Try.f7.params[j]? = some t → args[j]? = some v → Value.okWide Try.prog W .any base t v := hval0
  have hlt : ∀ x ∈ before, x.block < W.heap.size := fun x hx => by simpa using hW.lt x hx
  have hW' := hW
  obtain ⟨p, q, hA0, hV, rfl, hfz, hnd⟩ := hW
  obtain ⟨rfl, rfl⟩ := trodVars_none hV
  have hA : DataW.TrodAll enc Try.prog W 0 (fun _ => true) true Try.f7.params.toList args.toList ds p := hA0
  rw [Try.params7] at hA hval
  obtain ⟨v0, v1, v2, d0, d1, d2, p0, p1, p2, rfl, rfl, rfl, h0, h1, h2⟩ := trodAll_three hA
  obtain ⟨l, hl⟩ := openBs tBytes' tByte cByte (hval 0 22 v0 rfl rfl) h0 (fun x hx => hlt x (by simp [hx]))
  obtain ⟨m, hm⟩ := openBs tBytes' tByte cByte (hval 1 22 v1 rfl rfl) h1 (fun x hx => hlt x (by simp [hx]))
  obtain ⟨k, rfl, b2⟩ := openNat_u8 rU8 (hval 2 5 v2 rfl rfl) h2
  refine (P17.next Ad.next Ad.decide v0 v1 _ _ _ _ l m k W hl hm).mono fun e W' ⟨he, hk⟩ => ?_
  subst he
  exact ⟨_, rfl, law_post (P := Try.prog) (f := Try.f7) rfl rfl rBool laidOut (by kernel_rfl) hW' rfl rfl rfl (hk.below (fun _ _ h => h))⟩

theorem admitNext_holds : Rows.AdmitNextSaid :=
  OpenClaim.holds_of_wide 7 Try.f7 rfl rfl rfl rfl rfl rfl rfl ⟨rfl, rfl, rfl, rfl, rfl⟩ rfl rfl rfl rfl rfl (by kernel_rfl) Try.func7 (by kernel_rfl)
    (of_decide_eq_true (by kernel_rfl)) (by unfold Func.isWrapper; first | (rw [if_pos (by decide +kernel)]; kernel_rfl) | (rw [if_neg (by decide +kernel)]; exact ⟨rfl, rfl⟩))
    (fun os started H enc _ => admitNext_lifted os started H enc)
end Go.Proofs.Ytdobmebhjmgkmaa
