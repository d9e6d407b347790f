/- postmarklaw10.HeadReads: true, where one byte more is there. -/
import Derived.Test.YtidegffdhpdhjaaReadsA10
namespace Go.Proofs.Ytidegffdhpdhjaa
open Go.RowKit Go.Pm
namespace H10

set_option maxRecDepth 100000 in
set_option maxHeartbeats 8000000 in
theorem reads_2 (v : Value) (lo hi : Nat) (raw : List UInt8) (k at' c how : Nat) (x : List UInt8) (w : World) (hv : Bs w lo hi v raw) (hk : k < 256) (_hc : c < 256) (_ha : at' < 65536) (_hlr : ¬ 600 < raw.length) (hx : x.length = 32) (hcut : (how : Int) % 4 = 2) :
    Calls Try.prog 4 #[v, .int .u8 k, hashV x, .int .u16 at', .int .u8 c, .int .u8 how] w fun e w' => e = .returned (.bool true) ∧ Kept None w w' := by
  have hv' := Vs.lt hv
  have hhi : min hi w.heap.size ≤ w.heap.size := Nat.min_le_right _ _
  generalize min hi w.heap.size = hi' at hv' hhi
  obtain ⟨ar, cr, rfl, g1, g2, g3⟩ := hv.shape
  clear g3 hv
  have hv : Bs w lo hi' (.slice ar raw.length cr) raw := hv'
  clear hv'
  obtain ⟨R, hR⟩ : ∃ R, R = (x.map u8v).toArray := ⟨_, rfl⟩
  have aR : AggTy Try.prog 23 R.size := by rw [hR]; exact Hk.aH32 hx
  have hbd := fun w => Hp.build4 w (k : Int) (k : Int) ((k : Int) % 10) x hx
  have ok0 : Hd.Ok ⟨(k : Int), (k : Int), (k : Int) % 10, x, zero32, 0, 0⟩ := ⟨hx, rfl, zeroHd_ok.2.2⟩
  obtain ⟨h0, hh0⟩ : ∃ h0 : Hd, h0 = ⟨(k : Int), (k : Int), (k : Int) % 10, x, zero32, 0, 0⟩ := ⟨_, rfl⟩
  rw [← hh0] at hbd ok0
  have ok1 := signHd_ok 5 ok0
  have hs := fun W => RHp.sign 5 h0 W ok0
  obtain ⟨h, hh⟩ : ∃ h, h = signHd 5 h0 := ⟨_, rfl⟩
  rw [← hh] at hs ok1
  have hp := fun W => RHp.bytes h W ok1
  have hBl := putHd_len ok1
  obtain ⟨Bl, hB⟩ : ∃ Bl, Bl = putHd h := ⟨_, rfl⟩
  rw [← hB] at hp hBl
  simp only [hdV] at hs hp hbd
  simp only [hashV] at hbd ⊢
  rw [← hR] at hbd ⊢
  have H := hid (And.intro hs (And.intro hp hBl))
  have HB := hid hbd
  have HV := hid hv
  have HRL := hid _hlr
  have k1 : Kept None w (w.alloc (.cells R 23)) := (Kept.refl _ _).alloc _
  have r1 : Blk (w.alloc (.cells R 23)) w.heap.size R 23 := Blk.new w _ _
  clear hs hp hbd ok0 ok1 hh hh0 hB hR hv hx hBl
  go_enter Try.func4, Try.ntmps4
  go_wp2_with fail
  refine Calls.nm ?_
  intro w1 e1
  rw [← e1] at k1 r1
  clear e1
  refine (known w1).mono ?_
  rintro e w2 ⟨rfl, kn⟩
  have k2 := k1.trans kn
  have r2 := r1.kept kn (fun h => h)
  clear k1 r1 kn
  go_wp2_with (first | (refine wpList_load_blk rfl _ _ rfl rfl r2 aR ?_; refine wpList_build_four rfl rfl rfl rfl rfl rfl (HB.out _) ?_) | fail)
  refine (H.out.1 w2).mono ?_
  rintro e w3 ⟨rfl, kn⟩
  have k3 := k2.trans kn
  clear k2 r2 kn
  go_wp2_with fail
  refine (H.out.2.1 w3).mono ?_
  rintro e w4 ⟨u3, rfl, kn, b3⟩
  have k03 := k3.trans kn
  have dB3 := b3.bs (Nat.le_refl _)
  obtain ⟨aB, cB, rfl⟩ := b3.form
  have dr3 := HV.out.kept k03 (fun _ _ _ h => h)
  clear k3 kn b3 HV HB
  obtain ⟨w3, rfl⟩ : ∃ w3, w3 = w4 := ⟨_, rfl⟩
  go_wp2_with (first | (at_builtin; refine wpList_append_bo (l := []) (m := Bl) (base := w3.heap.size) rfl _ _ 29 rfl rtBytes rfl rfl (Bo.nil _ _ _) dB3 (by have := H.out.2.2; simp; omega) (Nat.le_refl _) ?k4) | fail)
  case k4 =>
    intro a4 n4 c4 w4 b4 k4
    have k04 := k03.then k4 (fun i _ h => by cases h)
    have hs4 : w3.heap.size ≤ w4.heap.size := k4.size
    have dr4 := dr3.kept k4 (fun _ _ _ h => by cases h)
    have dB4 := dB3.kept k4 (fun _ _ _ h => by cases h)
    have hws := k03.size
    have b4' : Ob w4 w3.heap.size (.slice a4 n4 c4) Bl := by simpa using b4
    have hb1 : 0 < Bl.length := by have := H.out.2.2; omega
    have hb2 : Bl.length ≤ 105 := by have := H.out.2.2; omega
    have hhi3 : hi' ≤ w3.heap.size := Nat.le_trans hhi hws
    clear k03 k4 dr3 dB3 b4 H
    obtain ⟨a4', c4', hval⟩ := b4'.form
    rw [hval] at b4' ⊢
    clear hval
    go_wp2_with (first | (at_builtin; refine wpList_append_byte (P := Try.prog) (w := w4) (b := (c : Int)) (e := 5) (v := .slice a4' Bl.length c4') (l := Bl) (base := w3.heap.size) rfl (.tmp 74) (.tmp 76) 29 rfl rtBytes rfl rfl b4' (by omega) (by omega) (by omega) hs4 ?k5) | fail)
    case k5 =>
      intro a5 n5 c5 w5 b5 k5
      have hO : ∀ k, (Value.slice a4' Bl.length c4').ownBlock = some k → w3.heap.size ≤ k := fun k hk => (b4'.own k hk).1
      have dr0 := dr4.kept k5 (fun k _ h (e : _ = _) => by have := hO k e; omega)
      have dB0 := dB4.kept k5 (fun k _ h (e : _ = _) => by have := hO k e; omega)
      have kE := k04.own k5 (fun k hk => by have := hO k hk; omega)
      have dC0 := b5.bs (Nat.le_refl _)
      obtain ⟨aC, cC, hval⟩ := b5.form
      rw [hval] at dC0 ⊢
      obtain ⟨Cl, hCl⟩ : ∃ Cl, Cl = Bl ++ [Go.Pm.byteOf (c : Int)] := ⟨_, rfl⟩
      rw [← hCl] at dC0 ⊢
      clear hval hCl b5 k5 hO dr4 dB4 k04 b4'
      obtain ⟨wE, rfl⟩ : ∃ wE, wE = w5 := ⟨_, rfl⟩
      go_wp2_with fail
      have hcv : Hid ((convert 29 29 (.slice (some ⟨wE.heap.size, 0, none⟩) 1 1)).run Try.prog (wE.alloc (.cells #[.int .u8 72] 5)) = .ok (.slice (some ⟨wE.heap.size, 0, none⟩) 1 1) (wE.alloc (.cells #[.int .u8 72] 5 (1, 2)))) := hid (constBytes wE #[.int .u8 72] 1 1 wE.heap.size rfl)
      have w72 : Bs (wE.alloc (.cells #[.int .u8 72] 5 (1, 2))) wE.heap.size (wE.alloc (.cells #[.int .u8 72] 5 (1, 2))).heap.size (.slice (some ⟨wE.heap.size, 0, none⟩) 1 1) [72] := by
        have h : Raw 5 (wE.alloc (.cells #[.int .u8 72] 5 (1, 2))) wE.heap.size (.slice (some ⟨wE.heap.size, 0, none⟩) 1 1) [72] := ⟨wE.heap.size, (1, 2), rfl, Nat.le_refl _, by rw [heap_alloc_new]; rfl⟩
        exact h.bs (by decide)
      have k72 : Kept None wE (wE.alloc (.cells #[.int .u8 72] 5 (1, 2))) := (Kept.refl _ _).alloc _
      have drh := dr0.kept k72 (fun _ _ _ h => h)
      obtain ⟨aH, cH, wH, hrun, dH0, kH⟩ := run_append_onto (ty := 29) (P := Try.prog) rtBytes (l := [72]) (n := 1) rfl w72 (by decide) drh (by have := HRL.out; simp only [List.length_cons, List.length_nil]; omega)
      have kEH := k72.trans kH
      have kW := kE.trans kEH
      have drH := dr0.kept kEH (fun _ _ _ h => h)
      have dBH := dB0.kept kEH (fun _ _ _ h => h)
      have dCH := dC0.kept kEH (fun _ _ _ h => h)
      obtain ⟨Hl, hHl⟩ : ∃ l, l = [72] ++ raw := ⟨_, rfl⟩
      rw [← hHl] at hrun dH0
      obtain ⟨nH, hnH⟩ : ∃ n, n = Hl.length := ⟨_, rfl⟩
      rw [← hnH] at hrun dH0
      clear hHl hnH w72 k72 drh kEH kH dr0 dB0 dC0 kE
      go_wp2_with fail
      rw [hcv.out]
      go_wp2_with (first | (at_builtin; refine wpList_append_run rfl (.tmp 82) (.tmp 83) 29 rfl rfl rfl hrun ?_) | fail)
      obtain ⟨wL, hwL⟩ : ∃ wL, wL = wH.alloc (.cells #[.slice ar raw.length cr, .slice aB Bl.length cB, .slice aC Cl.length cC, .slice aH nH cH] 29) := ⟨_, rfl⟩
      have hA : Blk wL wH.heap.size #[.slice ar raw.length cr, .slice aB Bl.length cB, .slice aC Cl.length cC, .slice aH nH cH] 29 := by rw [hwL]; exact Blk.new wH _ _
      have kAL : Kept None wH wL := by rw [hwL]; exact (Kept.refl _ _).alloc _
      have kL := kW.trans kAL
      have dr := drH.kept kAL (fun _ _ _ h => h)
      have dB := dBH.kept kAL (fun _ _ _ h => h)
      have dC := dCH.kept kAL (fun _ _ _ h => h)
      have dH := dH0.kept kAL (fun _ _ _ h => h)
      rw [← hwL]
      clear hcut hwL kAL drH dBH dCH dH0 kW hrun hcv
      have HD := hid (And.intro dr (And.intro dB (And.intro dC dH)))
      clear dr dB dC dH
      go_loopw [87] (fun i wr => ∃ k : Nat, k ≤ 4 ∧ i = .int .i64 k ∧ Kept None wL wr) (fun i _ => 4 - (intOf i).toNat)
      case atStart => exact ⟨0, by omega, rfl, Kept.refl _ _⟩
      case round =>
        obtain ⟨k, hk, rfl, hkk⟩ := hrel
        obtain ⟨wx, hwx⟩ : ∃ wx, wx = wr := ⟨_, rfl⟩
        rw [← hwx] at hkk ⊢
        clear hwx
        have hAx := hA.kept hkk (fun h => h)
        have k0x := kL.trans hkk
        have hc3 : k = 0 ∨ k = 1 ∨ k = 2 ∨ k = 3 ∨ k = 4 := by omega
        rcases hc3 with rfl | rfl | rfl | rfl | rfl
        · have c0 : wx.cell? ⟨wH.heap.size, 0, none⟩ = some (.slice ar raw.length cr) := hAx.cell 0
          have dy := HD.out.1.kept hkk (fun _ _ _ h => h)
          obtain ⟨X, E, sX, oX, neq, j1, j2⟩ := reads_both raw
          have aX : AggTy Try.prog 28 X.size := by rw [sX]; exact Hp.aHd
          have aXl : AggTy Try.prog 28 X.toList.length := by rw [Array.length_toList]; exact aX
          have J := hid (And.intro j1 (And.intro j2 (And.intro sX.symm oX)))
          have hEE : (E != E) = false := by simp
          have NEQ := hid neq
          clear j1 j2 hAx sX oX neq
          go_wp2_with fail
          clear c0
          refine (J.out.1 _ _ _ _ dy).mono ?_
          rintro e w2 ⟨rfl, k2⟩
          obtain ⟨y0, hy, y1⟩ := Blk.any (n := 69) (Blk.new w2 Try.zeroCells28 28) (by rfl)
          have ka : Kept None w2 (w2.alloc (.cells Try.zeroCells28 28)) := (Kept.refl _ _).alloc _
          have dy2 := (dy.kept k2 (fun _ _ _ h => h)).kept ka (fun _ _ _ h => h)
          have k02 := (hkk.trans k2).trans ka
          have EY := hid (hy.trans J.out.2.2.1)
          have OX := hid J.out.2.2.2
          have s2 := (hkk.trans k2).size
          have S2 := hid (And.intro s2 HD.out)
          clear dy k2 hkk k0x ka hy s2
          go_wp2_with (first | (refine wpList_store_blk rfl _ _ _ rfl rfl rfl y1 aX EY.out OX.out ?_; intro w3 y3 k23) | fail)
          have k03 : Kept None wL w3 := k02.then k23 (fun i hi (h : i = w2.heap.size) => by have := S2.out.1; omega)
          have dy3 := (S2.out.2.1.kept (k03) (fun _ _ _ h => h))
          clear k02 y1 k23 dy2
          refine (J.out.2.1 _ _ _ _ dy3).mono ?_
          rintro e w4 ⟨rfl, k4⟩
          obtain ⟨z0, hz, z1⟩ := Blk.any (n := 69) (Blk.new w4 Try.zeroCells28 28) (by rfl)
          have k04 := (k03.trans k4).alloc (.cells Try.zeroCells28 28)
          have y4 : Blk (w4.alloc (.cells Try.zeroCells28 28)) w2.heap.size X 28 := (y3.kept k4 (fun h => h)).alloc _
          have EZ := hid (hz.trans J.out.2.2.1)
          have s4 := (y3.kept k4 (fun h => h)).lt
          have s5 := (k03.trans k4).size
          clear k03 k4 y3 dy3 hz
          have neq := NEQ.out
          go_wp2_with (first | go_skip | (refine wpList_store_blk rfl _ _ _ rfl rfl rfl z1 aX EZ.out OX.out ?_; intro w5 z5 k45; have y5 := y4.kept k45 (fun (h : w2.heap.size = w4.heap.size) => by omega); have r5 : w5.rangeAt w2.heap.size 0 X.toList := (fun j v hj => by rw [Nat.zero_add, y5.cell]; simpa using hj); have q5 : w5.rangeAt w4.heap.size 0 X.toList := (fun j v hj => by rw [Nat.zero_add, z5.cell]; simpa using hj)) | (refine wpList_load_wr (by kernel_rfl) rfl rfl r5 aXl ?_) | (refine wpList_load_wr (by kernel_rfl) rfl rfl q5 aXl ?_) | fail)
          have k05 : Kept None wL w5 := k04.then k45 (fun i hi (h : i = w4.heap.size) => by omega)
          go_roundw
          case rel => exact ⟨0 + 1, by omega, by go_num, k05⟩
          case measure => simp [intOf]
        · have c1 : wx.cell? ⟨wH.heap.size, 1, none⟩ = some (.slice aB Bl.length cB) := hAx.cell 1
          have dy := HD.out.2.1.kept hkk (fun _ _ _ h => h)
          obtain ⟨X, E, sX, oX, neq, j1, j2⟩ := reads_both Bl
          have aX : AggTy Try.prog 28 X.size := by rw [sX]; exact Hp.aHd
          have aXl : AggTy Try.prog 28 X.toList.length := by rw [Array.length_toList]; exact aX
          have J := hid (And.intro j1 (And.intro j2 (And.intro sX.symm oX)))
          have hEE : (E != E) = false := by simp
          have NEQ := hid neq
          clear j1 j2 hAx sX oX neq
          go_wp2_with fail
          clear c1
          refine (J.out.1 _ _ _ _ dy).mono ?_
          rintro e w2 ⟨rfl, k2⟩
          obtain ⟨y0, hy, y1⟩ := Blk.any (n := 69) (Blk.new w2 Try.zeroCells28 28) (by rfl)
          have ka : Kept None w2 (w2.alloc (.cells Try.zeroCells28 28)) := (Kept.refl _ _).alloc _
          have dy2 := (dy.kept k2 (fun _ _ _ h => h)).kept ka (fun _ _ _ h => h)
          have k02 := (hkk.trans k2).trans ka
          have EY := hid (hy.trans J.out.2.2.1)
          have OX := hid J.out.2.2.2
          have s2 := (hkk.trans k2).size
          have S2 := hid (And.intro s2 HD.out)
          clear dy k2 hkk k0x ka hy s2
          go_wp2_with (first | (refine wpList_store_blk rfl _ _ _ rfl rfl rfl y1 aX EY.out OX.out ?_; intro w3 y3 k23) | fail)
          have k03 : Kept None wL w3 := k02.then k23 (fun i hi (h : i = w2.heap.size) => by have := S2.out.1; omega)
          have dy3 := (S2.out.2.2.1.kept (k03) (fun _ _ _ h => h))
          clear k02 y1 k23 dy2
          refine (J.out.2.1 _ _ _ _ dy3).mono ?_
          rintro e w4 ⟨rfl, k4⟩
          obtain ⟨z0, hz, z1⟩ := Blk.any (n := 69) (Blk.new w4 Try.zeroCells28 28) (by rfl)
          have k04 := (k03.trans k4).alloc (.cells Try.zeroCells28 28)
          have y4 : Blk (w4.alloc (.cells Try.zeroCells28 28)) w2.heap.size X 28 := (y3.kept k4 (fun h => h)).alloc _
          have EZ := hid (hz.trans J.out.2.2.1)
          have s4 := (y3.kept k4 (fun h => h)).lt
          have s5 := (k03.trans k4).size
          clear k03 k4 y3 dy3 hz
          have neq := NEQ.out
          go_wp2_with (first | go_skip | (refine wpList_store_blk rfl _ _ _ rfl rfl rfl z1 aX EZ.out OX.out ?_; intro w5 z5 k45; have y5 := y4.kept k45 (fun (h : w2.heap.size = w4.heap.size) => by omega); have r5 : w5.rangeAt w2.heap.size 0 X.toList := (fun j v hj => by rw [Nat.zero_add, y5.cell]; simpa using hj); have q5 : w5.rangeAt w4.heap.size 0 X.toList := (fun j v hj => by rw [Nat.zero_add, z5.cell]; simpa using hj)) | (refine wpList_load_wr (by kernel_rfl) rfl rfl r5 aXl ?_) | (refine wpList_load_wr (by kernel_rfl) rfl rfl q5 aXl ?_) | fail)
          have k05 : Kept None wL w5 := k04.then k45 (fun i hi (h : i = w4.heap.size) => by omega)
          go_roundw
          case rel => exact ⟨1 + 1, by omega, by go_num, k05⟩
          case measure => simp [intOf]
        · have c2 : wx.cell? ⟨wH.heap.size, 2, none⟩ = some (.slice aC Cl.length cC) := hAx.cell 2
          have dy := HD.out.2.2.1.kept hkk (fun _ _ _ h => h)
          obtain ⟨X, E, sX, oX, neq, j1, j2⟩ := reads_both Cl
          have aX : AggTy Try.prog 28 X.size := by rw [sX]; exact Hp.aHd
          have aXl : AggTy Try.prog 28 X.toList.length := by rw [Array.length_toList]; exact aX
          have J := hid (And.intro j1 (And.intro j2 (And.intro sX.symm oX)))
          have hEE : (E != E) = false := by simp
          have NEQ := hid neq
          clear j1 j2 hAx sX oX neq
          go_wp2_with fail
          clear c2
          refine (J.out.1 _ _ _ _ dy).mono ?_
          rintro e w2 ⟨rfl, k2⟩
          obtain ⟨y0, hy, y1⟩ := Blk.any (n := 69) (Blk.new w2 Try.zeroCells28 28) (by rfl)
          have ka : Kept None w2 (w2.alloc (.cells Try.zeroCells28 28)) := (Kept.refl _ _).alloc _
          have dy2 := (dy.kept k2 (fun _ _ _ h => h)).kept ka (fun _ _ _ h => h)
          have k02 := (hkk.trans k2).trans ka
          have EY := hid (hy.trans J.out.2.2.1)
          have OX := hid J.out.2.2.2
          have s2 := (hkk.trans k2).size
          have S2 := hid (And.intro s2 HD.out)
          clear dy k2 hkk k0x ka hy s2
          go_wp2_with (first | (refine wpList_store_blk rfl _ _ _ rfl rfl rfl y1 aX EY.out OX.out ?_; intro w3 y3 k23) | fail)
          have k03 : Kept None wL w3 := k02.then k23 (fun i hi (h : i = w2.heap.size) => by have := S2.out.1; omega)
          have dy3 := (S2.out.2.2.2.1.kept (k03) (fun _ _ _ h => h))
          clear k02 y1 k23 dy2
          refine (J.out.2.1 _ _ _ _ dy3).mono ?_
          rintro e w4 ⟨rfl, k4⟩
          obtain ⟨z0, hz, z1⟩ := Blk.any (n := 69) (Blk.new w4 Try.zeroCells28 28) (by rfl)
          have k04 := (k03.trans k4).alloc (.cells Try.zeroCells28 28)
          have y4 : Blk (w4.alloc (.cells Try.zeroCells28 28)) w2.heap.size X 28 := (y3.kept k4 (fun h => h)).alloc _
          have EZ := hid (hz.trans J.out.2.2.1)
          have s4 := (y3.kept k4 (fun h => h)).lt
          have s5 := (k03.trans k4).size
          clear k03 k4 y3 dy3 hz
          have neq := NEQ.out
          go_wp2_with (first | go_skip | (refine wpList_store_blk rfl _ _ _ rfl rfl rfl z1 aX EZ.out OX.out ?_; intro w5 z5 k45; have y5 := y4.kept k45 (fun (h : w2.heap.size = w4.heap.size) => by omega); have r5 : w5.rangeAt w2.heap.size 0 X.toList := (fun j v hj => by rw [Nat.zero_add, y5.cell]; simpa using hj); have q5 : w5.rangeAt w4.heap.size 0 X.toList := (fun j v hj => by rw [Nat.zero_add, z5.cell]; simpa using hj)) | (refine wpList_load_wr (by kernel_rfl) rfl rfl r5 aXl ?_) | (refine wpList_load_wr (by kernel_rfl) rfl rfl q5 aXl ?_) | fail)
          have k05 : Kept None wL w5 := k04.then k45 (fun i hi (h : i = w4.heap.size) => by omega)
          go_roundw
          case rel => exact ⟨2 + 1, by omega, by go_num, k05⟩
          case measure => simp [intOf]
        · have c3 : wx.cell? ⟨wH.heap.size, 3, none⟩ = some (.slice aH nH cH) := hAx.cell 3
          have dy := HD.out.2.2.2.kept hkk (fun _ _ _ h => h)
          obtain ⟨X, E, sX, oX, neq, j1, j2⟩ := reads_both Hl
          have aX : AggTy Try.prog 28 X.size := by rw [sX]; exact Hp.aHd
          have aXl : AggTy Try.prog 28 X.toList.length := by rw [Array.length_toList]; exact aX
          have J := hid (And.intro j1 (And.intro j2 (And.intro sX.symm oX)))
          have hEE : (E != E) = false := by simp
          have NEQ := hid neq
          clear j1 j2 hAx sX oX neq
          go_wp2_with fail
          clear c3
          refine (J.out.1 _ _ _ _ dy).mono ?_
          rintro e w2 ⟨rfl, k2⟩
          obtain ⟨y0, hy, y1⟩ := Blk.any (n := 69) (Blk.new w2 Try.zeroCells28 28) (by rfl)
          have ka : Kept None w2 (w2.alloc (.cells Try.zeroCells28 28)) := (Kept.refl _ _).alloc _
          have dy2 := (dy.kept k2 (fun _ _ _ h => h)).kept ka (fun _ _ _ h => h)
          have k02 := (hkk.trans k2).trans ka
          have EY := hid (hy.trans J.out.2.2.1)
          have OX := hid J.out.2.2.2
          have s2 := (hkk.trans k2).size
          have S2 := hid (And.intro s2 HD.out)
          clear dy k2 hkk k0x ka hy s2
          go_wp2_with (first | (refine wpList_store_blk rfl _ _ _ rfl rfl rfl y1 aX EY.out OX.out ?_; intro w3 y3 k23) | fail)
          have k03 : Kept None wL w3 := k02.then k23 (fun i hi (h : i = w2.heap.size) => by have := S2.out.1; omega)
          have dy3 := (S2.out.2.2.2.2.kept (k03) (fun _ _ _ h => h))
          clear k02 y1 k23 dy2
          refine (J.out.2.1 _ _ _ _ dy3).mono ?_
          rintro e w4 ⟨rfl, k4⟩
          obtain ⟨z0, hz, z1⟩ := Blk.any (n := 69) (Blk.new w4 Try.zeroCells28 28) (by rfl)
          have k04 := (k03.trans k4).alloc (.cells Try.zeroCells28 28)
          have y4 : Blk (w4.alloc (.cells Try.zeroCells28 28)) w2.heap.size X 28 := (y3.kept k4 (fun h => h)).alloc _
          have EZ := hid (hz.trans J.out.2.2.1)
          have s4 := (y3.kept k4 (fun h => h)).lt
          have s5 := (k03.trans k4).size
          clear k03 k4 y3 dy3 hz
          have neq := NEQ.out
          go_wp2_with (first | go_skip | (refine wpList_store_blk rfl _ _ _ rfl rfl rfl z1 aX EZ.out OX.out ?_; intro w5 z5 k45; have y5 := y4.kept k45 (fun (h : w2.heap.size = w4.heap.size) => by omega); have r5 : w5.rangeAt w2.heap.size 0 X.toList := (fun j v hj => by rw [Nat.zero_add, y5.cell]; simpa using hj); have q5 : w5.rangeAt w4.heap.size 0 X.toList := (fun j v hj => by rw [Nat.zero_add, z5.cell]; simpa using hj)) | (refine wpList_load_wr (by kernel_rfl) rfl rfl r5 aXl ?_) | (refine wpList_load_wr (by kernel_rfl) rfl rfl q5 aXl ?_) | fail)
          have k05 : Kept None wL w5 := k04.then k45 (fun i hi (h : i = w4.heap.size) => by omega)
          go_roundw
          case rel => exact ⟨3 + 1, by omega, by go_num, k05⟩
          case measure => simp [intOf]
        · go_wp2
          go_ret
          exact ⟨rfl, k0x⟩
end H10
end Go.Proofs.Ytidegffdhpdhjaa
