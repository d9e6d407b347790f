/- postmarklaw11.PromiseReads: true, where noughts are there. -/
import Derived.Test.YtibkijloibnkfaaReadsA11
namespace Go.Proofs.Ytibkijloibnkfaa
open Go.RowKit Go.Pm
namespace P11

set_option maxRecDepth 100000 in
set_option maxHeartbeats 8000000 in
theorem reads_4 (v : Value) (lo hi : Nat) (raw : List UInt8) (k at' c how : Nat) (t : Int) (w : World) (hv : Bs w lo hi v raw) (hk : k < 256) (_hc : c < 256) (_ha : at' < 65536) (_hlr : ¬ 200 < raw.length) (hcut : (how : Int) % 5 = 4) :
    Calls Try.prog 4 #[v, .int .u8 k, .int .i64 t, .int .u16 at', .int .u8 c, .int .u8 how] w fun e w' => e = .returned (.bool true) ∧ Kept None w w' := by
  have hv' := Vs.lt hv
  have hhi : min hi w.heap.size ≤ w.heap.size := Nat.min_le_right _ _
  generalize min hi w.heap.size = hi' at hv' hhi
  obtain ⟨ar, cr, rfl, g1, g2, g3⟩ := hv.shape
  clear g3 hv
  have hv : Bs w lo hi' (.slice ar raw.length cr) raw := hv'
  clear hv'
  have hT := and_16 t
  obtain ⟨T, hTT⟩ : ∃ T, T = bits .and .i64 t 65535 := ⟨_, rfl⟩
  rw [← hTT] at hT
  have hTx := hTT.symm
  obtain ⟨V, hV⟩ : ∃ V : Nat, V = k % 5 + 1 := ⟨_, rfl⟩
  obtain ⟨q5, hq5⟩ : ∃ q : Nat, q = k % 5 := ⟨_, rfl⟩
  have m5 : (k : Int).tmod 5 = (q5 : Int) := by rw [hq5]; rfl
  have n5 : (k : Int) % 5 = (q5 : Int) := by rw [hq5]; rfl
  have w5 : IntKind.i64.wrap (q5 : Int) = (q5 : Int) := by rw [IntKind.wrap_i64]; omega
  have p5 : (q5 : Int) + 1 = (V : Int) := by omega
  have w6 : IntKind.i64.wrap (V : Int) = (V : Int) := by rw [IntKind.wrap_i64]; omega
  obtain ⟨K, hK⟩ : ∃ K : Nat, K = V * 1000 + k + 1 := ⟨_, rfl⟩
  have he := fun W => Es.entry_at k V W hk (by omega)
  rw [← hK] at he
  have hE : ∀ s : ByteArray, 1 ≤ s.size → s.size ≤ 32 → makePrE s.size V K T = 0 := fun s s1 s2 => by
    refine mkPr_ok ?_ hT.1 (by omega)
    rw [entR_iff]
    unfold prime61
    omega
  have hK8 : K < 18446744073709551616 := by omega
  have HA := hid he
  have HE := hid (And.intro hE hK8)
  have HV := hid hv
  have HRL := hid _hlr
  have WW := hid (And.intro m5 (And.intro n5 (And.intro w5 (And.intro p5 (And.intro w6 hTx)))))
  have k0 : Kept None w w := Kept.refl _ _
  clear hT hTT hTx hV hq5 m5 n5 w5 p5 w6 hK he hE hK8 hv
  go_enter Try.func4, Try.ntmps4
  go_wp2_with fail
  refine (known w).mono ?_
  rintro e w2 ⟨rfl, kn⟩
  have k2 := k0.trans kn
  have m5 := WW.out.1
  have n5 := WW.out.2.1
  have w5 := WW.out.2.2.1
  have p5 := WW.out.2.2.2.1
  have w6 := WW.out.2.2.2.2.1
  clear k0 kn
  go_wp2_with fail
  refine (HA.out w2).mono ?_
  rintro e w3 ⟨s, rfl, s1, s2, kn⟩
  have k3 := k2.trans kn
  have hOk := HE.out.1 s s1 s2
  have hK8 := HE.out.2
  have hm := fun W => RPp.make 5 s V K T W (by omega) hK8
  rw [hOk, makePr_ok hOk] at hm
  have rt := signPr_right 5 hOk
  have hR := sigR_word 5 (msgPr s V K T (T + 40))
  have hS := sigS_word 5 (msgPr s V K T (T + 40))
  have ep : signPr 5 s V K T = ⟨s, V, K, T, T + 40, sigR 5 (msgPr s V K T (T + 40)), sigS 5 (msgPr s V K T (T + 40))⟩ := rfl
  obtain ⟨R, eR⟩ : ∃ R, R = sigR 5 (msgPr s V K T (T + 40)) := ⟨_, rfl⟩
  obtain ⟨S, eS⟩ : ∃ S, S = sigS 5 (msgPr s V K T (T + 40)) := ⟨_, rfl⟩
  rw [← eR, ← eS] at ep
  rw [← eR] at hR
  rw [← eS] at hS
  obtain ⟨D, eD⟩ : ∃ D, D = T + 40 := ⟨_, rfl⟩
  rw [← eD] at ep
  rw [ep] at hm rt
  clear eR eS ep eD
  have hp := fun W => RPp.put s V K T D R S W (by omega) hK8 hR hS
  have eL : Prm.putL ⟨s, V, K, T, D, R, S⟩ = putPr s V K T D R S := by unfold Prm.putL; rw [if_pos rt]; rfl
  have eE : Prm.putE ⟨s, V, K, T, D, R, S⟩ = 0 := by unfold Prm.putE; rw [if_pos rt]
  have hBl := putPr_len s V K T D R S
  rw [eL, eE] at hp
  obtain ⟨Bl, hB⟩ : ∃ Bl, Bl = putPr s V K T D R S := ⟨_, rfl⟩
  rw [← hB] at hp hBl
  have H := hid (And.intro hm (And.intro hp (And.intro hBl (And.intro s1 s2))))
  have hTx := WW.out.2.2.2.2.2
  clear hm hp eL eE hBl hB hR hS rt hOk hK8 s1 s2 m5 n5 w5 p5 w6 kn k2
  go_wp2_with fail
  refine (H.out.1 w3).mono ?_
  rintro e w4 ⟨rfl, kn⟩
  have k4 := k3.trans kn
  have k5 : Kept None w (w4.alloc (.cells #[.string s, .int .i64 (V : Int), .int .u64 (K : Int), .int .i64 T, .int .i64 D, .int .u64 (R : Int), .int .u64 (S : Int)] 55)) := k4.alloc _
  have y5 : Blk (w4.alloc (.cells #[.string s, .int .i64 (V : Int), .int .u64 (K : Int), .int .i64 T, .int .i64 D, .int .u64 (R : Int), .int .u64 (S : Int)] 55)) w4.heap.size #[.string s, .int .i64 (V : Int), .int .u64 (K : Int), .int .i64 T, .int .i64 D, .int .u64 (R : Int), .int .u64 (S : Int)] 55 := Blk.new _ _ _
  clear k3 kn k4 hTx
  go_wp2_with (first | (refine wpList_load_blk rfl _ _ rfl rfl y5 Pp.aPr ?_) | fail)
  refine (H.out.2.1 _).mono ?_
  rintro e w5 ⟨u3, rfl, kn, b3⟩
  have k03 := k5.trans kn
  have dB3 := b3.bs (Nat.le_refl _)
  obtain ⟨aB, cB, rfl⟩ := b3.form
  have dr3 := HV.out.kept k03 (fun _ _ _ h => h)
  clear k5 y5 kn b3 HV
  obtain ⟨w3, rfl⟩ : ∃ w3, w3 = w5 := ⟨_, rfl⟩
  go_wp2_with (first | (at_builtin; refine wpList_append_bo (l := []) (m := Bl) (base := w3.heap.size) rfl _ _ 29 rfl rtBytes rfl rfl (Bo.nil _ _ _) dB3 (by have := H.out.2.2; simp; omega) (Nat.le_refl _) ?k4) | fail)
  case k4 =>
    intro a4 n4 c4 w4 b4 k4
    have k04 := k03.then k4 (fun i _ h => by cases h)
    have hs4 : w3.heap.size ≤ w4.heap.size := k4.size
    have dr4 := dr3.kept k4 (fun _ _ _ h => by cases h)
    have dB4 := dB3.kept k4 (fun _ _ _ h => by cases h)
    have hws := k03.size
    have b4' : Ob w4 w3.heap.size (.slice a4 n4 c4) Bl := by simpa using b4
    have hb1 : 57 < Bl.length := by have := H.out.2.2; omega
    have hb2 : Bl.length ≤ 89 := by have := H.out.2.2; omega
    have hhi3 : hi' ≤ w3.heap.size := Nat.le_trans hhi hws
    clear k03 k4 dr3 dB3 b4 H
    obtain ⟨a4', c4', hval⟩ := b4'.form
    rw [hval] at b4' ⊢
    clear hval
    have hz1 : (512 : Int) - (Bl.length : Int) + (c : Int) % 3 = ((512 - Bl.length + c % 3 : Nat) : Int) := by omega
    have hz2 : 0 < 512 - Bl.length + c % 3 ∧ 512 - Bl.length + c % 3 ≤ 1000 := by omega
    obtain ⟨kz, hkz⟩ : ∃ kz, kz = 512 - Bl.length + c % 3 := ⟨_, rfl⟩
    rw [← hkz] at hz1 hz2
    clear hkz
    go_wp2_with (first | (at_builtin; refine wpList_append_zeros (P := Try.prog) (w := w4) (kq := .i64) (kn := .i64) (e := 5) (v := .slice a4' Bl.length c4') (l := Bl) (base := w3.heap.size) rfl (.tmp 50) (.tmp 57) 29 3 rfl rtBytes tInt rfl b4' (by omega) kz rfl hz2.1 (by omega) hs4 ?k5) | fail)
    case k5 =>
      intro a5 n5 c5 w5 b5 k5
      have hO : ∀ k, (Value.slice a4' Bl.length c4').ownBlock = some k → w3.heap.size ≤ k := fun k hk => (b4'.own k hk).1
      have dr0 := dr4.kept k5 (fun k _ h (e : _ = _) => by have := hO k e; omega)
      have dB0 := dB4.kept k5 (fun k _ h (e : _ = _) => by have := hO k e; omega)
      have kE := k04.own k5 (fun k hk => by have := hO k hk; omega)
      have dC0 := b5.bs (Nat.le_refl _)
      obtain ⟨aC, cC, hval⟩ := b5.form
      rw [hval] at dC0 ⊢
      obtain ⟨Cl, hCl⟩ : ∃ Cl, Cl = Bl ++ zerosB kz := ⟨_, rfl⟩
      rw [← hCl] at dC0 ⊢
      clear hval hCl b5 k5 hO dr4 dB4 k04 b4'
      obtain ⟨wE, rfl⟩ : ∃ wE, wE = w5 := ⟨_, rfl⟩
      go_wp2_with fail
      have hcv : Hid ((convert 29 29 (.slice (some ⟨wE.heap.size, 0, none⟩) 1 1)).run Try.prog (wE.alloc (.cells #[.int .u8 80] 5)) = .ok (.slice (some ⟨wE.heap.size, 0, none⟩) 1 1) (wE.alloc (.cells #[.int .u8 80] 5 (1, 2)))) := hid (constBytes wE #[.int .u8 80] 1 1 wE.heap.size rfl)
      have w72 : Bs (wE.alloc (.cells #[.int .u8 80] 5 (1, 2))) wE.heap.size (wE.alloc (.cells #[.int .u8 80] 5 (1, 2))).heap.size (.slice (some ⟨wE.heap.size, 0, none⟩) 1 1) [80] := by
        have h : Raw 5 (wE.alloc (.cells #[.int .u8 80] 5 (1, 2))) wE.heap.size (.slice (some ⟨wE.heap.size, 0, none⟩) 1 1) [80] := ⟨wE.heap.size, (1, 2), rfl, Nat.le_refl _, by rw [heap_alloc_new]; rfl⟩
        exact h.bs (by decide)
      have k72 : Kept None wE (wE.alloc (.cells #[.int .u8 80] 5 (1, 2))) := (Kept.refl _ _).alloc _
      have drh := dr0.kept k72 (fun _ _ _ h => h)
      obtain ⟨aH, cH, wH, hrun, dH0, kH⟩ := run_append_onto (ty := 29) (P := Try.prog) rtBytes (l := [80]) (n := 1) rfl w72 (by decide) drh (by have := HRL.out; simp only [List.length_cons, List.length_nil]; omega)
      have kEH := k72.trans kH
      have kW := kE.trans kEH
      have drH := dr0.kept kEH (fun _ _ _ h => h)
      have dBH := dB0.kept kEH (fun _ _ _ h => h)
      have dCH := dC0.kept kEH (fun _ _ _ h => h)
      obtain ⟨Hl, hHl⟩ : ∃ l, l = [80] ++ raw := ⟨_, rfl⟩
      rw [← hHl] at hrun dH0
      obtain ⟨nH, hnH⟩ : ∃ n, n = Hl.length := ⟨_, rfl⟩
      rw [← hnH] at hrun dH0
      clear hHl hnH w72 k72 drh kEH kH dr0 dB0 dC0 kE
      go_wp2_with fail
      rw [hcv.out]
      go_wp2_with (first | (at_builtin; refine wpList_append_run rfl (.tmp 98) (.tmp 99) 29 rfl rfl rfl hrun ?_) | fail)
      obtain ⟨wL, hwL⟩ : ∃ wL, wL = wH.alloc (.cells #[.slice ar raw.length cr, .slice aB Bl.length cB, .slice aC Cl.length cC, .slice aH nH cH, .slice none 0 0] 29) := ⟨_, rfl⟩
      have hA : Blk wL wH.heap.size #[.slice ar raw.length cr, .slice aB Bl.length cB, .slice aC Cl.length cC, .slice aH nH cH, .slice none 0 0] 29 := by rw [hwL]; exact Blk.new wH _ _
      have kAL : Kept None wH wL := by rw [hwL]; exact (Kept.refl _ _).alloc _
      have kL := kW.trans kAL
      have dr := drH.kept kAL (fun _ _ _ h => h)
      have dB := dBH.kept kAL (fun _ _ _ h => h)
      have dC := dCH.kept kAL (fun _ _ _ h => h)
      have dH := dH0.kept kAL (fun _ _ _ h => h)
      rw [← hwL]
      clear hcut hwL kAL drH dBH dCH dH0 kW hrun hcv
      have HD := hid (And.intro dr (And.intro dB (And.intro dC (And.intro dH (Bs.nil wL 0 0)))))
      clear dr dB dC dH
      go_loopw [103] (fun i wr => ∃ k : Nat, k ≤ 5 ∧ i = .int .i64 k ∧ Kept None wL wr) (fun i _ => 5 - (intOf i).toNat)
      case atStart => exact ⟨0, by omega, rfl, Kept.refl _ _⟩
      case round =>
        obtain ⟨k, hk, rfl, hkk⟩ := hrel
        obtain ⟨wx, hwx⟩ : ∃ wx, wx = wr := ⟨_, rfl⟩
        rw [← hwx] at hkk ⊢
        clear hwx
        have hAx := hA.kept hkk (fun h => h)
        have k0x := kL.trans hkk
        have hc3 : k = 0 ∨ k = 1 ∨ k = 2 ∨ k = 3 ∨ k = 4 ∨ k = 5 := by omega
        rcases hc3 with rfl | rfl | rfl | rfl | rfl | rfl
        · have c0 : wx.cell? ⟨wH.heap.size, 0, none⟩ = some (.slice ar raw.length cr) := hAx.cell 0
          have dy := HD.out.1.kept hkk (fun _ _ _ h => h)
          obtain ⟨pn, pv, pk, pt, pd, pr, ps, E, j1, j2⟩ := reads_both raw
          have J := hid (And.intro j1 j2)
          have hEE : (E != E) = false := by simp
          clear j1 j2 hAx
          go_wp2_with fail
          clear c0
          refine (J.out.1 _ _ _ _ dy).mono ?_
          rintro e w2 ⟨rfl, k2⟩
          have ka : Kept None w2 (w2.alloc (.cells #[.string pn, .int .i64 pv, .int .u64 (pk : Int), .int .i64 pt, .int .i64 pd, .int .u64 (pr : Int), .int .u64 (ps : Int)] 55)) := (Kept.refl _ _).alloc _
          have y2 : Blk (w2.alloc (.cells #[.string pn, .int .i64 pv, .int .u64 (pk : Int), .int .i64 pt, .int .i64 pd, .int .u64 (pr : Int), .int .u64 (ps : Int)] 55)) w2.heap.size #[.string pn, .int .i64 pv, .int .u64 (pk : Int), .int .i64 pt, .int .i64 pd, .int .u64 (pr : Int), .int .u64 (ps : Int)] 55 := Blk.new _ _ _
          have dy2 := (dy.kept k2 (fun _ _ _ h => h)).kept ka (fun _ _ _ h => h)
          have k02 := (hkk.trans k2).trans ka
          clear dy k2 hkk k0x ka
          go_wp2_with fail
          refine (J.out.2 _ _ _ _ dy2).mono ?_
          rintro e w4 ⟨rfl, k4⟩
          have k04 := (k02.trans k4).alloc (.cells #[.string pn, .int .i64 pv, .int .u64 (pk : Int), .int .i64 pt, .int .i64 pd, .int .u64 (pr : Int), .int .u64 (ps : Int)] 55)
          have y4 : Blk (w4.alloc (.cells #[.string pn, .int .i64 pv, .int .u64 (pk : Int), .int .i64 pt, .int .i64 pd, .int .u64 (pr : Int), .int .u64 (ps : Int)] 55)) w2.heap.size #[.string pn, .int .i64 pv, .int .u64 (pk : Int), .int .i64 pt, .int .i64 pd, .int .u64 (pr : Int), .int .u64 (ps : Int)] 55 := (y2.kept k4 (fun h => h)).alloc _
          have z4 : Blk (w4.alloc (.cells #[.string pn, .int .i64 pv, .int .u64 (pk : Int), .int .i64 pt, .int .i64 pd, .int .u64 (pr : Int), .int .u64 (ps : Int)] 55)) w4.heap.size #[.string pn, .int .i64 pv, .int .u64 (pk : Int), .int .i64 pt, .int .i64 pd, .int .u64 (pr : Int), .int .u64 (ps : Int)] 55 := Blk.new _ _ _
          have r4 : (w4.alloc (.cells #[.string pn, .int .i64 pv, .int .u64 (pk : Int), .int .i64 pt, .int .i64 pd, .int .u64 (pr : Int), .int .u64 (ps : Int)] 55)).rangeAt w2.heap.size 0 (#[.string pn, .int .i64 pv, .int .u64 (pk : Int), .int .i64 pt, .int .i64 pd, .int .u64 (pr : Int), .int .u64 (ps : Int)] : Array Value).toList := fun j v hj => by rw [Nat.zero_add, y4.cell]; simpa using hj
          have q4 : (w4.alloc (.cells #[.string pn, .int .i64 pv, .int .u64 (pk : Int), .int .i64 pt, .int .i64 pd, .int .u64 (pr : Int), .int .u64 (ps : Int)] 55)).rangeAt w4.heap.size 0 (#[.string pn, .int .i64 pv, .int .u64 (pk : Int), .int .i64 pt, .int .i64 pd, .int .u64 (pr : Int), .int .u64 (ps : Int)] : Array Value).toList := fun j v hj => by rw [Nat.zero_add, z4.cell]; simpa using hj
          clear k02 k4 y2 dy2
          go_wp2_with (first | go_skip | (refine wpList_load_wr (by kernel_rfl) rfl rfl r4 Pp.aPr ?_) | (refine wpList_load_wr (by kernel_rfl) rfl rfl q4 Pp.aPr ?_) | fail)
          go_roundw
          case rel => exact ⟨0 + 1, by omega, by go_num, k04⟩
          case measure => simp [intOf]
        · have c1 : wx.cell? ⟨wH.heap.size, 1, none⟩ = some (.slice aB Bl.length cB) := hAx.cell 1
          have dy := HD.out.2.1.kept hkk (fun _ _ _ h => h)
          obtain ⟨pn, pv, pk, pt, pd, pr, ps, E, j1, j2⟩ := reads_both Bl
          have J := hid (And.intro j1 j2)
          have hEE : (E != E) = false := by simp
          clear j1 j2 hAx
          go_wp2_with fail
          clear c1
          refine (J.out.1 _ _ _ _ dy).mono ?_
          rintro e w2 ⟨rfl, k2⟩
          have ka : Kept None w2 (w2.alloc (.cells #[.string pn, .int .i64 pv, .int .u64 (pk : Int), .int .i64 pt, .int .i64 pd, .int .u64 (pr : Int), .int .u64 (ps : Int)] 55)) := (Kept.refl _ _).alloc _
          have y2 : Blk (w2.alloc (.cells #[.string pn, .int .i64 pv, .int .u64 (pk : Int), .int .i64 pt, .int .i64 pd, .int .u64 (pr : Int), .int .u64 (ps : Int)] 55)) w2.heap.size #[.string pn, .int .i64 pv, .int .u64 (pk : Int), .int .i64 pt, .int .i64 pd, .int .u64 (pr : Int), .int .u64 (ps : Int)] 55 := Blk.new _ _ _
          have dy2 := (dy.kept k2 (fun _ _ _ h => h)).kept ka (fun _ _ _ h => h)
          have k02 := (hkk.trans k2).trans ka
          clear dy k2 hkk k0x ka
          go_wp2_with fail
          refine (J.out.2 _ _ _ _ dy2).mono ?_
          rintro e w4 ⟨rfl, k4⟩
          have k04 := (k02.trans k4).alloc (.cells #[.string pn, .int .i64 pv, .int .u64 (pk : Int), .int .i64 pt, .int .i64 pd, .int .u64 (pr : Int), .int .u64 (ps : Int)] 55)
          have y4 : Blk (w4.alloc (.cells #[.string pn, .int .i64 pv, .int .u64 (pk : Int), .int .i64 pt, .int .i64 pd, .int .u64 (pr : Int), .int .u64 (ps : Int)] 55)) w2.heap.size #[.string pn, .int .i64 pv, .int .u64 (pk : Int), .int .i64 pt, .int .i64 pd, .int .u64 (pr : Int), .int .u64 (ps : Int)] 55 := (y2.kept k4 (fun h => h)).alloc _
          have z4 : Blk (w4.alloc (.cells #[.string pn, .int .i64 pv, .int .u64 (pk : Int), .int .i64 pt, .int .i64 pd, .int .u64 (pr : Int), .int .u64 (ps : Int)] 55)) w4.heap.size #[.string pn, .int .i64 pv, .int .u64 (pk : Int), .int .i64 pt, .int .i64 pd, .int .u64 (pr : Int), .int .u64 (ps : Int)] 55 := Blk.new _ _ _
          have r4 : (w4.alloc (.cells #[.string pn, .int .i64 pv, .int .u64 (pk : Int), .int .i64 pt, .int .i64 pd, .int .u64 (pr : Int), .int .u64 (ps : Int)] 55)).rangeAt w2.heap.size 0 (#[.string pn, .int .i64 pv, .int .u64 (pk : Int), .int .i64 pt, .int .i64 pd, .int .u64 (pr : Int), .int .u64 (ps : Int)] : Array Value).toList := fun j v hj => by rw [Nat.zero_add, y4.cell]; simpa using hj
          have q4 : (w4.alloc (.cells #[.string pn, .int .i64 pv, .int .u64 (pk : Int), .int .i64 pt, .int .i64 pd, .int .u64 (pr : Int), .int .u64 (ps : Int)] 55)).rangeAt w4.heap.size 0 (#[.string pn, .int .i64 pv, .int .u64 (pk : Int), .int .i64 pt, .int .i64 pd, .int .u64 (pr : Int), .int .u64 (ps : Int)] : Array Value).toList := fun j v hj => by rw [Nat.zero_add, z4.cell]; simpa using hj
          clear k02 k4 y2 dy2
          go_wp2_with (first | go_skip | (refine wpList_load_wr (by kernel_rfl) rfl rfl r4 Pp.aPr ?_) | (refine wpList_load_wr (by kernel_rfl) rfl rfl q4 Pp.aPr ?_) | fail)
          go_roundw
          case rel => exact ⟨1 + 1, by omega, by go_num, k04⟩
          case measure => simp [intOf]
        · have c2 : wx.cell? ⟨wH.heap.size, 2, none⟩ = some (.slice aC Cl.length cC) := hAx.cell 2
          have dy := HD.out.2.2.1.kept hkk (fun _ _ _ h => h)
          obtain ⟨pn, pv, pk, pt, pd, pr, ps, E, j1, j2⟩ := reads_both Cl
          have J := hid (And.intro j1 j2)
          have hEE : (E != E) = false := by simp
          clear j1 j2 hAx
          go_wp2_with fail
          clear c2
          refine (J.out.1 _ _ _ _ dy).mono ?_
          rintro e w2 ⟨rfl, k2⟩
          have ka : Kept None w2 (w2.alloc (.cells #[.string pn, .int .i64 pv, .int .u64 (pk : Int), .int .i64 pt, .int .i64 pd, .int .u64 (pr : Int), .int .u64 (ps : Int)] 55)) := (Kept.refl _ _).alloc _
          have y2 : Blk (w2.alloc (.cells #[.string pn, .int .i64 pv, .int .u64 (pk : Int), .int .i64 pt, .int .i64 pd, .int .u64 (pr : Int), .int .u64 (ps : Int)] 55)) w2.heap.size #[.string pn, .int .i64 pv, .int .u64 (pk : Int), .int .i64 pt, .int .i64 pd, .int .u64 (pr : Int), .int .u64 (ps : Int)] 55 := Blk.new _ _ _
          have dy2 := (dy.kept k2 (fun _ _ _ h => h)).kept ka (fun _ _ _ h => h)
          have k02 := (hkk.trans k2).trans ka
          clear dy k2 hkk k0x ka
          go_wp2_with fail
          refine (J.out.2 _ _ _ _ dy2).mono ?_
          rintro e w4 ⟨rfl, k4⟩
          have k04 := (k02.trans k4).alloc (.cells #[.string pn, .int .i64 pv, .int .u64 (pk : Int), .int .i64 pt, .int .i64 pd, .int .u64 (pr : Int), .int .u64 (ps : Int)] 55)
          have y4 : Blk (w4.alloc (.cells #[.string pn, .int .i64 pv, .int .u64 (pk : Int), .int .i64 pt, .int .i64 pd, .int .u64 (pr : Int), .int .u64 (ps : Int)] 55)) w2.heap.size #[.string pn, .int .i64 pv, .int .u64 (pk : Int), .int .i64 pt, .int .i64 pd, .int .u64 (pr : Int), .int .u64 (ps : Int)] 55 := (y2.kept k4 (fun h => h)).alloc _
          have z4 : Blk (w4.alloc (.cells #[.string pn, .int .i64 pv, .int .u64 (pk : Int), .int .i64 pt, .int .i64 pd, .int .u64 (pr : Int), .int .u64 (ps : Int)] 55)) w4.heap.size #[.string pn, .int .i64 pv, .int .u64 (pk : Int), .int .i64 pt, .int .i64 pd, .int .u64 (pr : Int), .int .u64 (ps : Int)] 55 := Blk.new _ _ _
          have r4 : (w4.alloc (.cells #[.string pn, .int .i64 pv, .int .u64 (pk : Int), .int .i64 pt, .int .i64 pd, .int .u64 (pr : Int), .int .u64 (ps : Int)] 55)).rangeAt w2.heap.size 0 (#[.string pn, .int .i64 pv, .int .u64 (pk : Int), .int .i64 pt, .int .i64 pd, .int .u64 (pr : Int), .int .u64 (ps : Int)] : Array Value).toList := fun j v hj => by rw [Nat.zero_add, y4.cell]; simpa using hj
          have q4 : (w4.alloc (.cells #[.string pn, .int .i64 pv, .int .u64 (pk : Int), .int .i64 pt, .int .i64 pd, .int .u64 (pr : Int), .int .u64 (ps : Int)] 55)).rangeAt w4.heap.size 0 (#[.string pn, .int .i64 pv, .int .u64 (pk : Int), .int .i64 pt, .int .i64 pd, .int .u64 (pr : Int), .int .u64 (ps : Int)] : Array Value).toList := fun j v hj => by rw [Nat.zero_add, z4.cell]; simpa using hj
          clear k02 k4 y2 dy2
          go_wp2_with (first | go_skip | (refine wpList_load_wr (by kernel_rfl) rfl rfl r4 Pp.aPr ?_) | (refine wpList_load_wr (by kernel_rfl) rfl rfl q4 Pp.aPr ?_) | fail)
          go_roundw
          case rel => exact ⟨2 + 1, by omega, by go_num, k04⟩
          case measure => simp [intOf]
        · have c3 : wx.cell? ⟨wH.heap.size, 3, none⟩ = some (.slice aH nH cH) := hAx.cell 3
          have dy := HD.out.2.2.2.1.kept hkk (fun _ _ _ h => h)
          obtain ⟨pn, pv, pk, pt, pd, pr, ps, E, j1, j2⟩ := reads_both Hl
          have J := hid (And.intro j1 j2)
          have hEE : (E != E) = false := by simp
          clear j1 j2 hAx
          go_wp2_with fail
          clear c3
          refine (J.out.1 _ _ _ _ dy).mono ?_
          rintro e w2 ⟨rfl, k2⟩
          have ka : Kept None w2 (w2.alloc (.cells #[.string pn, .int .i64 pv, .int .u64 (pk : Int), .int .i64 pt, .int .i64 pd, .int .u64 (pr : Int), .int .u64 (ps : Int)] 55)) := (Kept.refl _ _).alloc _
          have y2 : Blk (w2.alloc (.cells #[.string pn, .int .i64 pv, .int .u64 (pk : Int), .int .i64 pt, .int .i64 pd, .int .u64 (pr : Int), .int .u64 (ps : Int)] 55)) w2.heap.size #[.string pn, .int .i64 pv, .int .u64 (pk : Int), .int .i64 pt, .int .i64 pd, .int .u64 (pr : Int), .int .u64 (ps : Int)] 55 := Blk.new _ _ _
          have dy2 := (dy.kept k2 (fun _ _ _ h => h)).kept ka (fun _ _ _ h => h)
          have k02 := (hkk.trans k2).trans ka
          clear dy k2 hkk k0x ka
          go_wp2_with fail
          refine (J.out.2 _ _ _ _ dy2).mono ?_
          rintro e w4 ⟨rfl, k4⟩
          have k04 := (k02.trans k4).alloc (.cells #[.string pn, .int .i64 pv, .int .u64 (pk : Int), .int .i64 pt, .int .i64 pd, .int .u64 (pr : Int), .int .u64 (ps : Int)] 55)
          have y4 : Blk (w4.alloc (.cells #[.string pn, .int .i64 pv, .int .u64 (pk : Int), .int .i64 pt, .int .i64 pd, .int .u64 (pr : Int), .int .u64 (ps : Int)] 55)) w2.heap.size #[.string pn, .int .i64 pv, .int .u64 (pk : Int), .int .i64 pt, .int .i64 pd, .int .u64 (pr : Int), .int .u64 (ps : Int)] 55 := (y2.kept k4 (fun h => h)).alloc _
          have z4 : Blk (w4.alloc (.cells #[.string pn, .int .i64 pv, .int .u64 (pk : Int), .int .i64 pt, .int .i64 pd, .int .u64 (pr : Int), .int .u64 (ps : Int)] 55)) w4.heap.size #[.string pn, .int .i64 pv, .int .u64 (pk : Int), .int .i64 pt, .int .i64 pd, .int .u64 (pr : Int), .int .u64 (ps : Int)] 55 := Blk.new _ _ _
          have r4 : (w4.alloc (.cells #[.string pn, .int .i64 pv, .int .u64 (pk : Int), .int .i64 pt, .int .i64 pd, .int .u64 (pr : Int), .int .u64 (ps : Int)] 55)).rangeAt w2.heap.size 0 (#[.string pn, .int .i64 pv, .int .u64 (pk : Int), .int .i64 pt, .int .i64 pd, .int .u64 (pr : Int), .int .u64 (ps : Int)] : Array Value).toList := fun j v hj => by rw [Nat.zero_add, y4.cell]; simpa using hj
          have q4 : (w4.alloc (.cells #[.string pn, .int .i64 pv, .int .u64 (pk : Int), .int .i64 pt, .int .i64 pd, .int .u64 (pr : Int), .int .u64 (ps : Int)] 55)).rangeAt w4.heap.size 0 (#[.string pn, .int .i64 pv, .int .u64 (pk : Int), .int .i64 pt, .int .i64 pd, .int .u64 (pr : Int), .int .u64 (ps : Int)] : Array Value).toList := fun j v hj => by rw [Nat.zero_add, z4.cell]; simpa using hj
          clear k02 k4 y2 dy2
          go_wp2_with (first | go_skip | (refine wpList_load_wr (by kernel_rfl) rfl rfl r4 Pp.aPr ?_) | (refine wpList_load_wr (by kernel_rfl) rfl rfl q4 Pp.aPr ?_) | fail)
          go_roundw
          case rel => exact ⟨3 + 1, by omega, by go_num, k04⟩
          case measure => simp [intOf]
        · have c4 : wx.cell? ⟨wH.heap.size, 4, none⟩ = some (.slice none 0 0) := hAx.cell 4
          have dy := HD.out.2.2.2.2.kept hkk (fun _ _ _ h => h)
          obtain ⟨pn, pv, pk, pt, pd, pr, ps, E, j1, j2⟩ := reads_both []
          have J := hid (And.intro j1 j2)
          have hEE : (E != E) = false := by simp
          clear j1 j2 hAx
          go_wp2_with fail
          clear c4
          refine (J.out.1 _ _ _ _ dy).mono ?_
          rintro e w2 ⟨rfl, k2⟩
          have ka : Kept None w2 (w2.alloc (.cells #[.string pn, .int .i64 pv, .int .u64 (pk : Int), .int .i64 pt, .int .i64 pd, .int .u64 (pr : Int), .int .u64 (ps : Int)] 55)) := (Kept.refl _ _).alloc _
          have y2 : Blk (w2.alloc (.cells #[.string pn, .int .i64 pv, .int .u64 (pk : Int), .int .i64 pt, .int .i64 pd, .int .u64 (pr : Int), .int .u64 (ps : Int)] 55)) w2.heap.size #[.string pn, .int .i64 pv, .int .u64 (pk : Int), .int .i64 pt, .int .i64 pd, .int .u64 (pr : Int), .int .u64 (ps : Int)] 55 := Blk.new _ _ _
          have dy2 := (dy.kept k2 (fun _ _ _ h => h)).kept ka (fun _ _ _ h => h)
          have k02 := (hkk.trans k2).trans ka
          clear dy k2 hkk k0x ka
          go_wp2_with fail
          refine (J.out.2 _ _ _ _ dy2).mono ?_
          rintro e w4 ⟨rfl, k4⟩
          have k04 := (k02.trans k4).alloc (.cells #[.string pn, .int .i64 pv, .int .u64 (pk : Int), .int .i64 pt, .int .i64 pd, .int .u64 (pr : Int), .int .u64 (ps : Int)] 55)
          have y4 : Blk (w4.alloc (.cells #[.string pn, .int .i64 pv, .int .u64 (pk : Int), .int .i64 pt, .int .i64 pd, .int .u64 (pr : Int), .int .u64 (ps : Int)] 55)) w2.heap.size #[.string pn, .int .i64 pv, .int .u64 (pk : Int), .int .i64 pt, .int .i64 pd, .int .u64 (pr : Int), .int .u64 (ps : Int)] 55 := (y2.kept k4 (fun h => h)).alloc _
          have z4 : Blk (w4.alloc (.cells #[.string pn, .int .i64 pv, .int .u64 (pk : Int), .int .i64 pt, .int .i64 pd, .int .u64 (pr : Int), .int .u64 (ps : Int)] 55)) w4.heap.size #[.string pn, .int .i64 pv, .int .u64 (pk : Int), .int .i64 pt, .int .i64 pd, .int .u64 (pr : Int), .int .u64 (ps : Int)] 55 := Blk.new _ _ _
          have r4 : (w4.alloc (.cells #[.string pn, .int .i64 pv, .int .u64 (pk : Int), .int .i64 pt, .int .i64 pd, .int .u64 (pr : Int), .int .u64 (ps : Int)] 55)).rangeAt w2.heap.size 0 (#[.string pn, .int .i64 pv, .int .u64 (pk : Int), .int .i64 pt, .int .i64 pd, .int .u64 (pr : Int), .int .u64 (ps : Int)] : Array Value).toList := fun j v hj => by rw [Nat.zero_add, y4.cell]; simpa using hj
          have q4 : (w4.alloc (.cells #[.string pn, .int .i64 pv, .int .u64 (pk : Int), .int .i64 pt, .int .i64 pd, .int .u64 (pr : Int), .int .u64 (ps : Int)] 55)).rangeAt w4.heap.size 0 (#[.string pn, .int .i64 pv, .int .u64 (pk : Int), .int .i64 pt, .int .i64 pd, .int .u64 (pr : Int), .int .u64 (ps : Int)] : Array Value).toList := fun j v hj => by rw [Nat.zero_add, z4.cell]; simpa using hj
          clear k02 k4 y2 dy2
          go_wp2_with (first | go_skip | (refine wpList_load_wr (by kernel_rfl) rfl rfl r4 Pp.aPr ?_) | (refine wpList_load_wr (by kernel_rfl) rfl rfl q4 Pp.aPr ?_) | fail)
          go_roundw
          case rel => exact ⟨4 + 1, by omega, by go_num, k04⟩
          case measure => simp [intOf]
        · go_wp2
          go_ret
          exact ⟨rfl, k0x⟩
end P11
end Go.Proofs.Ytibkijloibnkfaa
