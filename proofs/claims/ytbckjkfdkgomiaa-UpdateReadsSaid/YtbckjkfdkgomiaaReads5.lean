/- postmarklaw5.UpdateReads: true. -/
import Derived.Test.YtbckjkfdkgomiaaKnown5
import Derived.Test.YtbckjkfdkgomiaaSeatU5
import Derived.Test.YtbckjkfdkgomiaaRRead5
import Derived.Test.YtbckjkfdkgomiaaZer5
namespace Go.Proofs.Ytbckjkfdkgomiaa
open Go.RowKit Go.Pm

theorem u8_xor (a b : Int) : 0 ≤ bits .xor .u8 a b ∧ bits .xor .u8 a b < 256 := by
  have h : bits .xor .u8 a b = IntKind.u8.wrap ((BitVec.ofInt 8 a ^^^ BitVec.ofInt 8 b).toNat : Int) := rfl
  rw [h]
  constructor <;> simp [IntKind.wrap, IntKind.bits, IntKind.signed] <;> omega
theorem reads_both (l : List UInt8) : ∃ (N : ByteArray) (V : Int) (K : Nat) (C : Int) (R S : Nat) (E : Int),
    (∀ v lo hi w, Bs w lo hi v l → Calls Try.prog 24 #[v] w fun e w' => e = .returned (.tuple #[.agg #[.string N, .int .i64 V, .int .u64 (K : Int), .int .i64 C, .int .u64 (R : Int), .int .u64 (S : Int)], .int .i64 E]) ∧ Kept None w w') ∧
    (∀ v lo hi w, Bs w lo hi v l → Calls Try.prog 26 #[v] w fun e w' => e = .returned (.tuple #[.agg #[.string N, .int .i64 V, .int .u64 (K : Int), .int .i64 C, .int .u64 (R : Int), .int .u64 (S : Int)], .int .i64 E]) ∧ Kept None w w') :=
  ⟨(readQ l).n, (readQ l).v, (readQ l).k, (readQ l).c, (readQ l).r, (readQ l).s, readE l, fun v lo hi w h => Up.read v lo hi l w h, fun v lo hi w h => RUp.read v lo hi l w h⟩
theorem tInt : Try.prog.underlying 3 = some (.int .i64) := by kernel_rfl
end Go.Proofs.Ytbckjkfdkgomiaa

namespace Go.Proofs.Ytbckjkfdkgomiaa
open Go.RowKit Go.Pm

set_option maxRecDepth 100000 in
set_option maxHeartbeats 8000000 in
theorem reads_0 (v : Value) (lo hi : Nat) (raw : List UInt8) (k cl how at' x cut : Nat) (w : World) (hv : Bs w lo hi v raw) (_hx : x < 256) (_ha : at' < 65536) (_hlr : ¬ 200 < raw.length) (hcut : (cut : Int) % 4 = 0) :
    Calls Try.prog 4 #[v, .int .u8 k, .int .u8 cl, .int .u8 how, .int .u16 at', .int .u8 x, .int .u8 cut] w fun e w' => e = .returned (.bool true) ∧ Kept None w w' := by
  have hv' := Vs.lt hv
  have hhi : min hi w.heap.size ≤ w.heap.size := Nat.min_le_right _ _
  generalize min hi w.heap.size = hi' at hv' hhi
  obtain ⟨ar, cr, rfl, g1, g2, g3⟩ := hv.shape
  clear g3 hv
  have hv : Bs w lo hi' (.slice ar raw.length cr) raw := hv'
  clear hv'
  have hN := Seat.nameS_size k
  have j0 := fun w => Seat.name k w
  have j1 := fun w => Seat.update (Seat.nameS k) 1 cl how w hN.2 (by decide) (by decide)
  obtain ⟨Q, hQ⟩ : ∃ Q, Q = Seat.req (Seat.nameS k) 1 cl how := ⟨_, rfl⟩
  have hf : Q.n = Seat.nameS k ∧ Q.k < 18446744073709551616 ∧ Q.r < 18446744073709551616 ∧ Q.s < 18446744073709551616 := by
    rw [hQ]
    exact ⟨rfl, Seat.keyN_lt _ _ _, Nat.lt_trans (sigR_lt _ _) (by decide), Nat.lt_trans (sigS_lt _ _) (by decide)⟩
  rw [← hQ] at j1
  have j2 := fun w => RUp.bytes Q.n Q.v Q.c Q.k Q.r Q.s w (by rw [hf.1]; omega) hf.2.1 hf.2.2.1 hf.2.2.2
  have hBl : 49 ≤ (putB Q.n Q.v Q.k Q.c Q.r Q.s).length ∧ (putB Q.n Q.v Q.k Q.c Q.r Q.s).length ≤ 80 := by rw [putB_len, hf.1]; omega
  obtain ⟨Bl, hB⟩ : ∃ Bl, Bl = putB Q.n Q.v Q.k Q.c Q.r Q.s := ⟨_, rfl⟩
  rw [← hB] at j2 hBl
  obtain ⟨N0, hN0⟩ : ∃ N0, N0 = Seat.nameS k := ⟨_, rfl⟩
  rw [← hN0] at j0 j1
  have H := hid (And.intro j0 (And.intro j1 (And.intro j2 hBl)))
  have HV := hid hv
  clear j0 j1 j2 hBl hf hQ hB hN hN0 hv
  go_enter Try.func4, Try.ntmps4
  go_wp2_with fail
  refine (known5 _).mono ?_
  rintro e w0 ⟨rfl, k0⟩
  go_wp2_with fail
  refine (H.out.1 _).mono ?_
  rintro e w1 ⟨rfl, k1⟩
  have k01 := k0.trans k1
  clear k0 k1
  go_wp2_with fail
  refine (H.out.2.1 _).mono ?_
  rintro e w2 ⟨rfl, k2⟩
  have k02 := k01.trans k2
  clear k01 k2
  go_wp2_with fail
  refine (H.out.2.2.1 _).mono ?_
  rintro e w3 ⟨u3, rfl, k3, b3⟩
  have k03 := k02.trans k3
  have dB3 := b3.bs (Nat.le_refl _)
  obtain ⟨aB, cB, rfl⟩ := b3.form
  have dr3 := HV.out.kept k03 (fun _ _ _ h => h)
  clear k02 k3 b3 HV
  go_wp2_with (first | (at_builtin; refine wpList_append_bo (l := []) (m := Bl) (base := w3.heap.size) rfl _ _ 32 rfl rtBytes rfl rfl (Bo.nil _ _ _) dB3 (by have := H.out.2.2.2; simp; omega) (Nat.le_refl _) ?k4) | fail)
  case k4 =>
    intro a4 n4 c4 w4 b4 k4
    have k04 := k03.then k4 (fun i _ h => by cases h)
    have hs4 : w3.heap.size ≤ w4.heap.size := k4.size
    have dr4 := dr3.kept k4 (fun _ _ _ h => by cases h)
    have dB4 := dB3.kept k4 (fun _ _ _ h => by cases h)
    have hws := k03.size
    have b4' : Ob w4 w3.heap.size (.slice a4 n4 c4) Bl := by simpa using b4
    have hb1 := H.out.2.2.2.1
    have hb2 := H.out.2.2.2.2
    clear k03 k4 dr3 dB3 b4 H
    obtain ⟨g, cc, cur, hval, hbg, hg, hnc, hcm, hcs, htake⟩ : ∃ g cap cur, (Value.slice a4 n4 c4) = .slice (some ⟨g, 0, none⟩) Bl.length cap ∧ w3.heap.size ≤ g ∧ w4.heap[g]? = some (.cells cur 5 (0, 0)) ∧ Bl.length ≤ cap ∧ cap ≤ maxLen ∧ cur.size = cap * 1 ∧ cur.toList.take (Bl.length * 1) = Bl.map u8v := by
      rcases b4'.2 with ⟨_, h0⟩ | h
      · omega
      · exact h
    have hB4 : Blk w4 g cur 5 := hg
    obtain ⟨rfl, rfl, rfl⟩ : a4 = some ⟨g, 0, none⟩ ∧ n4 = Bl.length ∧ c4 = cc := by
      injection hval with e1 e2 e3
      exact ⟨e1, e2, e3⟩
    have hrem : (at' : Int) % (Bl.length : Int) = ((at' % Bl.length : Nat) : Int) := by rw [Int.natCast_emod]
    have hil : at' % Bl.length < Bl.length := Nat.mod_lt _ (by omega)
    obtain ⟨i, hi⟩ : ∃ i, i = at' % Bl.length := ⟨_, rfl⟩
    rw [← hi] at hrem hil
    have htm : (at' : Int).tmod (Bl.length : Int) = (i : Int) := by rw [Int.tmod_eq_emod_of_nonneg (by omega)]; exact hrem
    have hLz : ((Bl.length : Int) == 0) = false := by rw [beq_eq_false_iff_ne]; omega
    have hcell : w4.cell? ⟨g, i, none⟩ = some (.int .u8 (bAt Bl i)) := by
      rw [hB4.cell, ← Array.getElem?_toList]
      have h1 : (Bl.map u8v)[i]? = some (.int .u8 (bAt Bl i)) := by rw [List.getElem?_map, List.getElem?_eq_getElem hil, Option.map_some, u8v_at Bl i hil]
      rw [← htake, List.getElem?_take, if_pos (by omega), ] at h1
      exact h1
    have hfree := hB4.free i
    have hy0 := bAt_ge Bl i
    have hy1 := bAt_lt Bl i
    obtain ⟨y, hy⟩ : ∃ y, y = bAt Bl i := ⟨_, rfl⟩
    rw [← hy] at hcell hy0 hy1
    have hz := u8_xor y (x : Int)
    obtain ⟨z, hzz⟩ : ∃ z, z = bits .xor .u8 y (x : Int) := ⟨_, rfl⟩
    have hzx := hzz.symm
    rw [hzx] at hz
    have b5 := b4'.set i z hz.1 hz.2
    have kS : Kept (Just g) w4 (w4.setCell ⟨g, i, none⟩ (.int .u8 z)) := Kept.one w4 g i _
    have dr0 := dr4.kept kS (fun k _ h (e : k = g) => by omega)
    have dB0 := dB4.kept kS (fun k _ h (e : k = g) => by omega)
    have kE := k04.then kS (fun k h (e : k = g) => by omega)
    have dC0 := b5.bs (Nat.le_refl _)
    obtain ⟨Cl, hCl⟩ : ∃ Cl, Cl = Bl.set i (Go.Pm.byteOf z) := ⟨_, rfl⟩
    rw [← hCl] at dC0
    clear hval hg hcs htake hB4 hi hy hzz b5 kS hCl b4' dr4 dB4 k04 hz
    go_wp2_with fail
    obtain ⟨wE, hwE⟩ : ∃ wE, wE = w4.setCell ⟨g, i, none⟩ (.int .u8 z) := ⟨_, rfl⟩
    have hszE : wE.heap.size = w4.heap.size := by rw [hwE]; simp
    rw [← hwE] at dr0 dB0 dC0 kE ⊢
    clear hwE hcell hfree hLz htm hrem hzx hy0 hy1 hil hnc hcm
    obtain ⟨wL, hwL⟩ : ∃ wL, wL = wE.alloc (.cells #[.slice ar raw.length cr, .slice aB Bl.length cB, .slice (some ⟨g, 0, none⟩) Bl.length c4] 32) := ⟨_, rfl⟩
    have hA : Blk wL w4.heap.size #[.slice ar raw.length cr, .slice aB Bl.length cB, .slice (some ⟨g, 0, none⟩) Bl.length c4] 32 := by rw [hwL]; have h := Blk.new wE #[.slice ar raw.length cr, .slice aB Bl.length cB, .slice (some ⟨g, 0, none⟩) Bl.length c4] 32; rw [hszE] at h; exact h
    have kAL : Kept None wE wL := by rw [hwL]; exact (Kept.refl _ _).alloc _
    have kL := kE.trans kAL
    have dr := dr0.kept kAL (fun _ _ _ h => h)
    have dB := dB0.kept kAL (fun _ _ _ h => h)
    have dC := dC0.kept kAL (fun _ _ _ h => h)
    rw [← hwL]
    clear hcut hwL kAL dr0 dB0 dC0 kE
    have HD := hid (And.intro dr (And.intro dB dC))
    clear dr dB dC
    go_loopw [80] (fun i wr => ∃ k : Nat, k ≤ 3 ∧ i = .int .i64 k ∧ Kept None wL wr) (fun i _ => 3 - (intOf i).toNat)
    case atStart => exact ⟨0, by omega, rfl, Kept.refl _ _⟩
    case round =>
      obtain ⟨k, hk, rfl, hkk⟩ := hrel
      obtain ⟨wx, hwx⟩ : ∃ wx, wx = wr := ⟨_, rfl⟩
      rw [← hwx] at hkk ⊢
      clear hwx
      have hAx := hA.kept hkk (fun h => h)
      have k0x := kL.trans hkk
      have hc3 : k = 0 ∨ k = 1 ∨ k = 2 ∨ k = 3 := by omega
      rcases hc3 with rfl | rfl | rfl | rfl
      · have c0 : wx.cell? ⟨w4.heap.size, 0, none⟩ = some (.slice ar raw.length cr) := hAx.cell 0
        have dy := HD.out.1.kept hkk (fun _ _ _ h => h)
        obtain ⟨N, V, K, C, R, S, E, j1, j2⟩ := reads_both raw
        have J := hid (And.intro j1 j2)
        have hEE : (E == E) = true := by simp
        clear j1 j2 hAx
        go_wp2_with fail
        clear c0
        refine (J.out.1 _ _ _ _ dy).mono ?_
        rintro e w2 ⟨rfl, k2⟩
        have hU := Blk.new w2 #[.string N, .int .i64 V, .int .u64 (K : Int), .int .i64 C, .int .u64 (R : Int), .int .u64 (S : Int)] 26
        have kU := k2.alloc (.cells #[.string N, .int .i64 V, .int .u64 (K : Int), .int .i64 C, .int .u64 (R : Int), .int .u64 (S : Int)] 26)
        have dy2 := dy.kept kU (fun _ _ _ h => h)
        have k02 := hkk.trans kU
        clear dy k2 kU hkk k0x
        go_wp2_with fail
        refine (J.out.2 _ _ _ _ dy2).mono ?_
        rintro e w3 ⟨rfl, k3⟩
        have hU3 := hU.kept k3 (fun h => h)
        have k03 := (k02.trans k3).alloc (.cells #[.string N, .int .i64 V, .int .u64 (K : Int), .int .i64 C, .int .u64 (R : Int), .int .u64 (S : Int)] 26)
        have hl3 := hU3.lt
        have p0 : w3.cell? ⟨w2.heap.size, 0, none⟩ = some (.string N) := hU3.cell 0
        have p1 : w3.cell? ⟨w2.heap.size, 1, none⟩ = some (.int .i64 V) := hU3.cell 1
        have p2 : w3.cell? ⟨w2.heap.size, 2, none⟩ = some (.int .u64 (K : Int)) := hU3.cell 2
        have p3 : w3.cell? ⟨w2.heap.size, 3, none⟩ = some (.int .i64 C) := hU3.cell 3
        have p4 : w3.cell? ⟨w2.heap.size, 4, none⟩ = some (.int .u64 (R : Int)) := hU3.cell 4
        have p5 : w3.cell? ⟨w2.heap.size, 5, none⟩ = some (.int .u64 (S : Int)) := hU3.cell 5
        clear dy2 hU k02 k3 hU3 J
        go_wp2
        go_roundw
        case rel => exact ⟨0 + 1, by omega, by go_num, k03⟩
        case measure => simp [intOf]
      · have c1 : wx.cell? ⟨w4.heap.size, 1, none⟩ = some (.slice aB Bl.length cB) := hAx.cell 1
        have dy := HD.out.2.1.kept hkk (fun _ _ _ h => h)
        obtain ⟨N, V, K, C, R, S, E, j1, j2⟩ := reads_both Bl
        have J := hid (And.intro j1 j2)
        have hEE : (E == E) = true := by simp
        clear j1 j2 hAx
        go_wp2_with fail
        clear c1
        refine (J.out.1 _ _ _ _ dy).mono ?_
        rintro e w2 ⟨rfl, k2⟩
        have hU := Blk.new w2 #[.string N, .int .i64 V, .int .u64 (K : Int), .int .i64 C, .int .u64 (R : Int), .int .u64 (S : Int)] 26
        have kU := k2.alloc (.cells #[.string N, .int .i64 V, .int .u64 (K : Int), .int .i64 C, .int .u64 (R : Int), .int .u64 (S : Int)] 26)
        have dy2 := dy.kept kU (fun _ _ _ h => h)
        have k02 := hkk.trans kU
        clear dy k2 kU hkk k0x
        go_wp2_with fail
        refine (J.out.2 _ _ _ _ dy2).mono ?_
        rintro e w3 ⟨rfl, k3⟩
        have hU3 := hU.kept k3 (fun h => h)
        have k03 := (k02.trans k3).alloc (.cells #[.string N, .int .i64 V, .int .u64 (K : Int), .int .i64 C, .int .u64 (R : Int), .int .u64 (S : Int)] 26)
        have hl3 := hU3.lt
        have p0 : w3.cell? ⟨w2.heap.size, 0, none⟩ = some (.string N) := hU3.cell 0
        have p1 : w3.cell? ⟨w2.heap.size, 1, none⟩ = some (.int .i64 V) := hU3.cell 1
        have p2 : w3.cell? ⟨w2.heap.size, 2, none⟩ = some (.int .u64 (K : Int)) := hU3.cell 2
        have p3 : w3.cell? ⟨w2.heap.size, 3, none⟩ = some (.int .i64 C) := hU3.cell 3
        have p4 : w3.cell? ⟨w2.heap.size, 4, none⟩ = some (.int .u64 (R : Int)) := hU3.cell 4
        have p5 : w3.cell? ⟨w2.heap.size, 5, none⟩ = some (.int .u64 (S : Int)) := hU3.cell 5
        clear dy2 hU k02 k3 hU3 J
        go_wp2
        go_roundw
        case rel => exact ⟨1 + 1, by omega, by go_num, k03⟩
        case measure => simp [intOf]
      · have c2 : wx.cell? ⟨w4.heap.size, 2, none⟩ = some (.slice (some ⟨g, 0, none⟩) Bl.length c4) := hAx.cell 2
        have dy := HD.out.2.2.kept hkk (fun _ _ _ h => h)
        obtain ⟨N, V, K, C, R, S, E, j1, j2⟩ := reads_both Cl
        have J := hid (And.intro j1 j2)
        have hEE : (E == E) = true := by simp
        clear j1 j2 hAx
        go_wp2_with fail
        clear c2
        refine (J.out.1 _ _ _ _ dy).mono ?_
        rintro e w2 ⟨rfl, k2⟩
        have hU := Blk.new w2 #[.string N, .int .i64 V, .int .u64 (K : Int), .int .i64 C, .int .u64 (R : Int), .int .u64 (S : Int)] 26
        have kU := k2.alloc (.cells #[.string N, .int .i64 V, .int .u64 (K : Int), .int .i64 C, .int .u64 (R : Int), .int .u64 (S : Int)] 26)
        have dy2 := dy.kept kU (fun _ _ _ h => h)
        have k02 := hkk.trans kU
        clear dy k2 kU hkk k0x
        go_wp2_with fail
        refine (J.out.2 _ _ _ _ dy2).mono ?_
        rintro e w3 ⟨rfl, k3⟩
        have hU3 := hU.kept k3 (fun h => h)
        have k03 := (k02.trans k3).alloc (.cells #[.string N, .int .i64 V, .int .u64 (K : Int), .int .i64 C, .int .u64 (R : Int), .int .u64 (S : Int)] 26)
        have hl3 := hU3.lt
        have p0 : w3.cell? ⟨w2.heap.size, 0, none⟩ = some (.string N) := hU3.cell 0
        have p1 : w3.cell? ⟨w2.heap.size, 1, none⟩ = some (.int .i64 V) := hU3.cell 1
        have p2 : w3.cell? ⟨w2.heap.size, 2, none⟩ = some (.int .u64 (K : Int)) := hU3.cell 2
        have p3 : w3.cell? ⟨w2.heap.size, 3, none⟩ = some (.int .i64 C) := hU3.cell 3
        have p4 : w3.cell? ⟨w2.heap.size, 4, none⟩ = some (.int .u64 (R : Int)) := hU3.cell 4
        have p5 : w3.cell? ⟨w2.heap.size, 5, none⟩ = some (.int .u64 (S : Int)) := hU3.cell 5
        clear dy2 hU k02 k3 hU3 J
        go_wp2
        go_roundw
        case rel => exact ⟨2 + 1, by omega, by go_num, k03⟩
        case measure => simp [intOf]
      · go_wp2
        go_ret
        exact ⟨rfl, k0x⟩
end Go.Proofs.Ytbckjkfdkgomiaa

namespace Go.Proofs.Ytbckjkfdkgomiaa
open Go.RowKit Go.Pm

set_option maxRecDepth 100000 in
set_option maxHeartbeats 8000000 in
theorem reads_1 (v : Value) (lo hi : Nat) (raw : List UInt8) (k cl how at' x cut : Nat) (w : World) (hv : Bs w lo hi v raw) (_hx : x < 256) (_ha : at' < 65536) (_hlr : ¬ 200 < raw.length) (hcut : (cut : Int) % 4 = 1) :
    Calls Try.prog 4 #[v, .int .u8 k, .int .u8 cl, .int .u8 how, .int .u16 at', .int .u8 x, .int .u8 cut] w fun e w' => e = .returned (.bool true) ∧ Kept None w w' := by
  have hv' := Vs.lt hv
  have hhi : min hi w.heap.size ≤ w.heap.size := Nat.min_le_right _ _
  generalize min hi w.heap.size = hi' at hv' hhi
  obtain ⟨ar, cr, rfl, g1, g2, g3⟩ := hv.shape
  clear g3 hv
  have hv : Bs w lo hi' (.slice ar raw.length cr) raw := hv'
  clear hv'
  have hN := Seat.nameS_size k
  have j0 := fun w => Seat.name k w
  have j1 := fun w => Seat.update (Seat.nameS k) 1 cl how w hN.2 (by decide) (by decide)
  obtain ⟨Q, hQ⟩ : ∃ Q, Q = Seat.req (Seat.nameS k) 1 cl how := ⟨_, rfl⟩
  have hf : Q.n = Seat.nameS k ∧ Q.k < 18446744073709551616 ∧ Q.r < 18446744073709551616 ∧ Q.s < 18446744073709551616 := by
    rw [hQ]
    exact ⟨rfl, Seat.keyN_lt _ _ _, Nat.lt_trans (sigR_lt _ _) (by decide), Nat.lt_trans (sigS_lt _ _) (by decide)⟩
  rw [← hQ] at j1
  have j2 := fun w => RUp.bytes Q.n Q.v Q.c Q.k Q.r Q.s w (by rw [hf.1]; omega) hf.2.1 hf.2.2.1 hf.2.2.2
  have hBl : 49 ≤ (putB Q.n Q.v Q.k Q.c Q.r Q.s).length ∧ (putB Q.n Q.v Q.k Q.c Q.r Q.s).length ≤ 80 := by rw [putB_len, hf.1]; omega
  obtain ⟨Bl, hB⟩ : ∃ Bl, Bl = putB Q.n Q.v Q.k Q.c Q.r Q.s := ⟨_, rfl⟩
  rw [← hB] at j2 hBl
  obtain ⟨N0, hN0⟩ : ∃ N0, N0 = Seat.nameS k := ⟨_, rfl⟩
  rw [← hN0] at j0 j1
  have H := hid (And.intro j0 (And.intro j1 (And.intro j2 hBl)))
  have HV := hid hv
  clear j0 j1 j2 hBl hf hQ hB hN hN0 hv
  go_enter Try.func4, Try.ntmps4
  go_wp2_with fail
  refine (known5 _).mono ?_
  rintro e w0 ⟨rfl, k0⟩
  go_wp2_with fail
  refine (H.out.1 _).mono ?_
  rintro e w1 ⟨rfl, k1⟩
  have k01 := k0.trans k1
  clear k0 k1
  go_wp2_with fail
  refine (H.out.2.1 _).mono ?_
  rintro e w2 ⟨rfl, k2⟩
  have k02 := k01.trans k2
  clear k01 k2
  go_wp2_with fail
  refine (H.out.2.2.1 _).mono ?_
  rintro e w3 ⟨u3, rfl, k3, b3⟩
  have k03 := k02.trans k3
  have dB3 := b3.bs (Nat.le_refl _)
  obtain ⟨aB, cB, rfl⟩ := b3.form
  have dr3 := HV.out.kept k03 (fun _ _ _ h => h)
  clear k02 k3 b3 HV
  go_wp2_with (first | (at_builtin; refine wpList_append_bo (l := []) (m := Bl) (base := w3.heap.size) rfl _ _ 32 rfl rtBytes rfl rfl (Bo.nil _ _ _) dB3 (by have := H.out.2.2.2; simp; omega) (Nat.le_refl _) ?k4) | fail)
  case k4 =>
    intro a4 n4 c4 w4 b4 k4
    have k04 := k03.then k4 (fun i _ h => by cases h)
    have hs4 : w3.heap.size ≤ w4.heap.size := k4.size
    have dr4 := dr3.kept k4 (fun _ _ _ h => by cases h)
    have dB4 := dB3.kept k4 (fun _ _ _ h => by cases h)
    have hws := k03.size
    have b4' : Ob w4 w3.heap.size (.slice a4 n4 c4) Bl := by simpa using b4
    have hb1 := H.out.2.2.2.1
    have hb2 := H.out.2.2.2.2
    clear k03 k4 dr3 dB3 b4 H
    obtain ⟨aC, cC, hval⟩ := b4'.form
    rw [hval] at b4' ⊢
    clear hval
    have d4 := b4'.bs (Nat.le_refl _)
    have hrem : (at' : Int) % (Bl.length : Int) = ((at' % Bl.length : Nat) : Int) := by rw [Int.natCast_emod]
    have hil : at' % Bl.length < Bl.length := Nat.mod_lt _ (by omega)
    obtain ⟨i, hi⟩ : ∃ i, i = at' % Bl.length := ⟨_, rfl⟩
    rw [← hi] at hrem hil
    have htm : (at' : Int).tmod (Bl.length : Int) = (i : Int) := by rw [Int.tmod_eq_emod_of_nonneg (by omega)]; exact hrem
    have hLz : ((Bl.length : Int) == 0) = false := by rw [beq_eq_false_iff_ne]; omega
    obtain ⟨a5, s1, p1⟩ := slice_to tBytes zBytes d4 .i64 (i : Int) (by omega) (by omega)
    simp only [Int.toNat_natCast] at s1 p1
    rw [← List.map_take] at p1
    have dC0 : Bs w4 w3.heap.size w4.heap.size (.slice a5 i cC) (Bl.take i) := p1
    obtain ⟨Cl, hCl⟩ : ∃ Cl, Cl = Bl.take i := ⟨_, rfl⟩
    rw [← hCl] at dC0
    have dr0 := dr4
    have dB0 := dB4
    have kE := k04
    clear hi hCl b4' dr4 dB4 k04 d4 p1
    go_wp2_with fail
    clear hLz htm hrem hil s1
    obtain ⟨wL, hwL⟩ : ∃ wL, wL = w4.alloc (.cells #[.slice ar raw.length cr, .slice aB Bl.length cB, .slice a5 i cC] 32) := ⟨_, rfl⟩
    have hA : Blk wL w4.heap.size #[.slice ar raw.length cr, .slice aB Bl.length cB, .slice a5 i cC] 32 := by rw [hwL]; exact Blk.new w4 _ _
    have kAL : Kept None w4 wL := by rw [hwL]; exact (Kept.refl _ _).alloc _
    have kL := kE.trans kAL
    have dr := dr0.kept kAL (fun _ _ _ h => h)
    have dB := dB0.kept kAL (fun _ _ _ h => h)
    have dC := dC0.kept kAL (fun _ _ _ h => h)
    rw [← hwL]
    clear hcut hwL kAL dr0 dB0 dC0 kE
    have HD := hid (And.intro dr (And.intro dB dC))
    clear dr dB dC
    go_loopw [80] (fun i wr => ∃ k : Nat, k ≤ 3 ∧ i = .int .i64 k ∧ Kept None wL wr) (fun i _ => 3 - (intOf i).toNat)
    case atStart => exact ⟨0, by omega, rfl, Kept.refl _ _⟩
    case round =>
      obtain ⟨k, hk, rfl, hkk⟩ := hrel
      obtain ⟨wx, hwx⟩ : ∃ wx, wx = wr := ⟨_, rfl⟩
      rw [← hwx] at hkk ⊢
      clear hwx
      have hAx := hA.kept hkk (fun h => h)
      have k0x := kL.trans hkk
      have hc3 : k = 0 ∨ k = 1 ∨ k = 2 ∨ k = 3 := by omega
      rcases hc3 with rfl | rfl | rfl | rfl
      · have c0 : wx.cell? ⟨w4.heap.size, 0, none⟩ = some (.slice ar raw.length cr) := hAx.cell 0
        have dy := HD.out.1.kept hkk (fun _ _ _ h => h)
        obtain ⟨N, V, K, C, R, S, E, j1, j2⟩ := reads_both raw
        have J := hid (And.intro j1 j2)
        have hEE : (E == E) = true := by simp
        clear j1 j2 hAx
        go_wp2_with fail
        clear c0
        refine (J.out.1 _ _ _ _ dy).mono ?_
        rintro e w2 ⟨rfl, k2⟩
        have hU := Blk.new w2 #[.string N, .int .i64 V, .int .u64 (K : Int), .int .i64 C, .int .u64 (R : Int), .int .u64 (S : Int)] 26
        have kU := k2.alloc (.cells #[.string N, .int .i64 V, .int .u64 (K : Int), .int .i64 C, .int .u64 (R : Int), .int .u64 (S : Int)] 26)
        have dy2 := dy.kept kU (fun _ _ _ h => h)
        have k02 := hkk.trans kU
        clear dy k2 kU hkk k0x
        go_wp2_with fail
        refine (J.out.2 _ _ _ _ dy2).mono ?_
        rintro e w3 ⟨rfl, k3⟩
        have hU3 := hU.kept k3 (fun h => h)
        have k03 := (k02.trans k3).alloc (.cells #[.string N, .int .i64 V, .int .u64 (K : Int), .int .i64 C, .int .u64 (R : Int), .int .u64 (S : Int)] 26)
        have hl3 := hU3.lt
        have p0 : w3.cell? ⟨w2.heap.size, 0, none⟩ = some (.string N) := hU3.cell 0
        have p1 : w3.cell? ⟨w2.heap.size, 1, none⟩ = some (.int .i64 V) := hU3.cell 1
        have p2 : w3.cell? ⟨w2.heap.size, 2, none⟩ = some (.int .u64 (K : Int)) := hU3.cell 2
        have p3 : w3.cell? ⟨w2.heap.size, 3, none⟩ = some (.int .i64 C) := hU3.cell 3
        have p4 : w3.cell? ⟨w2.heap.size, 4, none⟩ = some (.int .u64 (R : Int)) := hU3.cell 4
        have p5 : w3.cell? ⟨w2.heap.size, 5, none⟩ = some (.int .u64 (S : Int)) := hU3.cell 5
        clear dy2 hU k02 k3 hU3 J
        go_wp2
        go_roundw
        case rel => exact ⟨0 + 1, by omega, by go_num, k03⟩
        case measure => simp [intOf]
      · have c1 : wx.cell? ⟨w4.heap.size, 1, none⟩ = some (.slice aB Bl.length cB) := hAx.cell 1
        have dy := HD.out.2.1.kept hkk (fun _ _ _ h => h)
        obtain ⟨N, V, K, C, R, S, E, j1, j2⟩ := reads_both Bl
        have J := hid (And.intro j1 j2)
        have hEE : (E == E) = true := by simp
        clear j1 j2 hAx
        go_wp2_with fail
        clear c1
        refine (J.out.1 _ _ _ _ dy).mono ?_
        rintro e w2 ⟨rfl, k2⟩
        have hU := Blk.new w2 #[.string N, .int .i64 V, .int .u64 (K : Int), .int .i64 C, .int .u64 (R : Int), .int .u64 (S : Int)] 26
        have kU := k2.alloc (.cells #[.string N, .int .i64 V, .int .u64 (K : Int), .int .i64 C, .int .u64 (R : Int), .int .u64 (S : Int)] 26)
        have dy2 := dy.kept kU (fun _ _ _ h => h)
        have k02 := hkk.trans kU
        clear dy k2 kU hkk k0x
        go_wp2_with fail
        refine (J.out.2 _ _ _ _ dy2).mono ?_
        rintro e w3 ⟨rfl, k3⟩
        have hU3 := hU.kept k3 (fun h => h)
        have k03 := (k02.trans k3).alloc (.cells #[.string N, .int .i64 V, .int .u64 (K : Int), .int .i64 C, .int .u64 (R : Int), .int .u64 (S : Int)] 26)
        have hl3 := hU3.lt
        have p0 : w3.cell? ⟨w2.heap.size, 0, none⟩ = some (.string N) := hU3.cell 0
        have p1 : w3.cell? ⟨w2.heap.size, 1, none⟩ = some (.int .i64 V) := hU3.cell 1
        have p2 : w3.cell? ⟨w2.heap.size, 2, none⟩ = some (.int .u64 (K : Int)) := hU3.cell 2
        have p3 : w3.cell? ⟨w2.heap.size, 3, none⟩ = some (.int .i64 C) := hU3.cell 3
        have p4 : w3.cell? ⟨w2.heap.size, 4, none⟩ = some (.int .u64 (R : Int)) := hU3.cell 4
        have p5 : w3.cell? ⟨w2.heap.size, 5, none⟩ = some (.int .u64 (S : Int)) := hU3.cell 5
        clear dy2 hU k02 k3 hU3 J
        go_wp2
        go_roundw
        case rel => exact ⟨1 + 1, by omega, by go_num, k03⟩
        case measure => simp [intOf]
      · have c2 : wx.cell? ⟨w4.heap.size, 2, none⟩ = some (.slice a5 i cC) := hAx.cell 2
        have dy := HD.out.2.2.kept hkk (fun _ _ _ h => h)
        obtain ⟨N, V, K, C, R, S, E, j1, j2⟩ := reads_both Cl
        have J := hid (And.intro j1 j2)
        have hEE : (E == E) = true := by simp
        clear j1 j2 hAx
        go_wp2_with fail
        clear c2
        refine (J.out.1 _ _ _ _ dy).mono ?_
        rintro e w2 ⟨rfl, k2⟩
        have hU := Blk.new w2 #[.string N, .int .i64 V, .int .u64 (K : Int), .int .i64 C, .int .u64 (R : Int), .int .u64 (S : Int)] 26
        have kU := k2.alloc (.cells #[.string N, .int .i64 V, .int .u64 (K : Int), .int .i64 C, .int .u64 (R : Int), .int .u64 (S : Int)] 26)
        have dy2 := dy.kept kU (fun _ _ _ h => h)
        have k02 := hkk.trans kU
        clear dy k2 kU hkk k0x
        go_wp2_with fail
        refine (J.out.2 _ _ _ _ dy2).mono ?_
        rintro e w3 ⟨rfl, k3⟩
        have hU3 := hU.kept k3 (fun h => h)
        have k03 := (k02.trans k3).alloc (.cells #[.string N, .int .i64 V, .int .u64 (K : Int), .int .i64 C, .int .u64 (R : Int), .int .u64 (S : Int)] 26)
        have hl3 := hU3.lt
        have p0 : w3.cell? ⟨w2.heap.size, 0, none⟩ = some (.string N) := hU3.cell 0
        have p1 : w3.cell? ⟨w2.heap.size, 1, none⟩ = some (.int .i64 V) := hU3.cell 1
        have p2 : w3.cell? ⟨w2.heap.size, 2, none⟩ = some (.int .u64 (K : Int)) := hU3.cell 2
        have p3 : w3.cell? ⟨w2.heap.size, 3, none⟩ = some (.int .i64 C) := hU3.cell 3
        have p4 : w3.cell? ⟨w2.heap.size, 4, none⟩ = some (.int .u64 (R : Int)) := hU3.cell 4
        have p5 : w3.cell? ⟨w2.heap.size, 5, none⟩ = some (.int .u64 (S : Int)) := hU3.cell 5
        clear dy2 hU k02 k3 hU3 J
        go_wp2
        go_roundw
        case rel => exact ⟨2 + 1, by omega, by go_num, k03⟩
        case measure => simp [intOf]
      · go_wp2
        go_ret
        exact ⟨rfl, k0x⟩
end Go.Proofs.Ytbckjkfdkgomiaa

namespace Go.Proofs.Ytbckjkfdkgomiaa
open Go.RowKit Go.Pm

set_option maxRecDepth 100000 in
set_option maxHeartbeats 8000000 in
theorem reads_2 (v : Value) (lo hi : Nat) (raw : List UInt8) (k cl how at' x cut : Nat) (w : World) (hv : Bs w lo hi v raw) (_hx : x < 256) (_ha : at' < 65536) (_hlr : ¬ 200 < raw.length) (hcut : (cut : Int) % 4 = 2) :
    Calls Try.prog 4 #[v, .int .u8 k, .int .u8 cl, .int .u8 how, .int .u16 at', .int .u8 x, .int .u8 cut] w fun e w' => e = .returned (.bool true) ∧ Kept None w w' := by
  have hv' := Vs.lt hv
  have hhi : min hi w.heap.size ≤ w.heap.size := Nat.min_le_right _ _
  generalize min hi w.heap.size = hi' at hv' hhi
  obtain ⟨ar, cr, rfl, g1, g2, g3⟩ := hv.shape
  clear g3 hv
  have hv : Bs w lo hi' (.slice ar raw.length cr) raw := hv'
  clear hv'
  have hN := Seat.nameS_size k
  have j0 := fun w => Seat.name k w
  have j1 := fun w => Seat.update (Seat.nameS k) 1 cl how w hN.2 (by decide) (by decide)
  obtain ⟨Q, hQ⟩ : ∃ Q, Q = Seat.req (Seat.nameS k) 1 cl how := ⟨_, rfl⟩
  have hf : Q.n = Seat.nameS k ∧ Q.k < 18446744073709551616 ∧ Q.r < 18446744073709551616 ∧ Q.s < 18446744073709551616 := by
    rw [hQ]
    exact ⟨rfl, Seat.keyN_lt _ _ _, Nat.lt_trans (sigR_lt _ _) (by decide), Nat.lt_trans (sigS_lt _ _) (by decide)⟩
  rw [← hQ] at j1
  have j2 := fun w => RUp.bytes Q.n Q.v Q.c Q.k Q.r Q.s w (by rw [hf.1]; omega) hf.2.1 hf.2.2.1 hf.2.2.2
  have hBl : 49 ≤ (putB Q.n Q.v Q.k Q.c Q.r Q.s).length ∧ (putB Q.n Q.v Q.k Q.c Q.r Q.s).length ≤ 80 := by rw [putB_len, hf.1]; omega
  obtain ⟨Bl, hB⟩ : ∃ Bl, Bl = putB Q.n Q.v Q.k Q.c Q.r Q.s := ⟨_, rfl⟩
  rw [← hB] at j2 hBl
  obtain ⟨N0, hN0⟩ : ∃ N0, N0 = Seat.nameS k := ⟨_, rfl⟩
  rw [← hN0] at j0 j1
  have H := hid (And.intro j0 (And.intro j1 (And.intro j2 hBl)))
  have HV := hid hv
  clear j0 j1 j2 hBl hf hQ hB hN hN0 hv
  go_enter Try.func4, Try.ntmps4
  go_wp2_with fail
  refine (known5 _).mono ?_
  rintro e w0 ⟨rfl, k0⟩
  go_wp2_with fail
  refine (H.out.1 _).mono ?_
  rintro e w1 ⟨rfl, k1⟩
  have k01 := k0.trans k1
  clear k0 k1
  go_wp2_with fail
  refine (H.out.2.1 _).mono ?_
  rintro e w2 ⟨rfl, k2⟩
  have k02 := k01.trans k2
  clear k01 k2
  go_wp2_with fail
  refine (H.out.2.2.1 _).mono ?_
  rintro e w3 ⟨u3, rfl, k3, b3⟩
  have k03 := k02.trans k3
  have dB3 := b3.bs (Nat.le_refl _)
  obtain ⟨aB, cB, rfl⟩ := b3.form
  have dr3 := HV.out.kept k03 (fun _ _ _ h => h)
  clear k02 k3 b3 HV
  go_wp2_with (first | (at_builtin; refine wpList_append_bo (l := []) (m := Bl) (base := w3.heap.size) rfl _ _ 32 rfl rtBytes rfl rfl (Bo.nil _ _ _) dB3 (by have := H.out.2.2.2; simp; omega) (Nat.le_refl _) ?k4) | fail)
  case k4 =>
    intro a4 n4 c4 w4 b4 k4
    have k04 := k03.then k4 (fun i _ h => by cases h)
    have hs4 : w3.heap.size ≤ w4.heap.size := k4.size
    have dr4 := dr3.kept k4 (fun _ _ _ h => by cases h)
    have dB4 := dB3.kept k4 (fun _ _ _ h => by cases h)
    have hws := k03.size
    have b4' : Ob w4 w3.heap.size (.slice a4 n4 c4) Bl := by simpa using b4
    have hb1 := H.out.2.2.2.1
    have hb2 := H.out.2.2.2.2
    clear k03 k4 dr3 dB3 b4 H
    obtain ⟨a4', c4', hval⟩ := b4'.form
    rw [hval] at b4' ⊢
    clear hval
    go_wp2_with (first | (at_builtin; refine wpList_append_byte (P := Try.prog) (w := w4) (b := (x : Int)) (e := 5) (v := .slice a4' Bl.length c4') (l := Bl) (base := w3.heap.size) rfl (.tmp 71) (.tmp 73) 32 rfl rtBytes rfl rfl b4' (by omega) (by omega) (by omega) hs4 ?k5) | fail)
    case k5 =>
      intro a5 n5 c5 w5 b5 k5
      have hO : ∀ k, (Value.slice a4' Bl.length c4').ownBlock = some k → w3.heap.size ≤ k := fun k hk => (b4'.own k hk).1
      have dr0 := dr4.kept k5 (fun k _ h (e : _ = _) => by have := hO k e; omega)
      have dB0 := dB4.kept k5 (fun k _ h (e : _ = _) => by have := hO k e; omega)
      have kE := k04.own k5 (fun k hk => by have := hO k hk; omega)
      have dC0 := b5.bs (Nat.le_refl _)
      obtain ⟨aC, cC, hval⟩ := b5.form
      rw [hval] at dC0 ⊢
      obtain ⟨Cl, hCl⟩ : ∃ Cl, Cl = Bl ++ [Go.Pm.byteOf (x : Int)] := ⟨_, rfl⟩
      rw [← hCl] at dC0 ⊢
      clear hval hCl b5 k5 hO dr4 dB4 k04 b4'
      go_wp2_with fail
      obtain ⟨wL, hwL⟩ : ∃ wL, wL = w5.alloc (.cells #[.slice ar raw.length cr, .slice aB Bl.length cB, .slice aC Cl.length cC] 32) := ⟨_, rfl⟩
      have hA : Blk wL w5.heap.size #[.slice ar raw.length cr, .slice aB Bl.length cB, .slice aC Cl.length cC] 32 := by rw [hwL]; exact Blk.new w5 _ _
      have kAL : Kept None w5 wL := by rw [hwL]; exact (Kept.refl _ _).alloc _
      have kL := kE.trans kAL
      have dr := dr0.kept kAL (fun _ _ _ h => h)
      have dB := dB0.kept kAL (fun _ _ _ h => h)
      have dC := dC0.kept kAL (fun _ _ _ h => h)
      rw [← hwL]
      clear hcut hwL kAL dr0 dB0 dC0 kE
      have HD := hid (And.intro dr (And.intro dB dC))
      clear dr dB dC
      go_loopw [80] (fun i wr => ∃ k : Nat, k ≤ 3 ∧ i = .int .i64 k ∧ Kept None wL wr) (fun i _ => 3 - (intOf i).toNat)
      case atStart => exact ⟨0, by omega, rfl, Kept.refl _ _⟩
      case round =>
        obtain ⟨k, hk, rfl, hkk⟩ := hrel
        obtain ⟨wx, hwx⟩ : ∃ wx, wx = wr := ⟨_, rfl⟩
        rw [← hwx] at hkk ⊢
        clear hwx
        have hAx := hA.kept hkk (fun h => h)
        have k0x := kL.trans hkk
        have hc3 : k = 0 ∨ k = 1 ∨ k = 2 ∨ k = 3 := by omega
        rcases hc3 with rfl | rfl | rfl | rfl
        · have c0 : wx.cell? ⟨w5.heap.size, 0, none⟩ = some (.slice ar raw.length cr) := hAx.cell 0
          have dy := HD.out.1.kept hkk (fun _ _ _ h => h)
          obtain ⟨N, V, K, C, R, S, E, j1, j2⟩ := reads_both raw
          have J := hid (And.intro j1 j2)
          have hEE : (E == E) = true := by simp
          clear j1 j2 hAx
          go_wp2_with fail
          clear c0
          refine (J.out.1 _ _ _ _ dy).mono ?_
          rintro e w2 ⟨rfl, k2⟩
          have hU := Blk.new w2 #[.string N, .int .i64 V, .int .u64 (K : Int), .int .i64 C, .int .u64 (R : Int), .int .u64 (S : Int)] 26
          have kU := k2.alloc (.cells #[.string N, .int .i64 V, .int .u64 (K : Int), .int .i64 C, .int .u64 (R : Int), .int .u64 (S : Int)] 26)
          have dy2 := dy.kept kU (fun _ _ _ h => h)
          have k02 := hkk.trans kU
          clear dy k2 kU hkk k0x
          go_wp2_with fail
          refine (J.out.2 _ _ _ _ dy2).mono ?_
          rintro e w3 ⟨rfl, k3⟩
          have hU3 := hU.kept k3 (fun h => h)
          have k03 := (k02.trans k3).alloc (.cells #[.string N, .int .i64 V, .int .u64 (K : Int), .int .i64 C, .int .u64 (R : Int), .int .u64 (S : Int)] 26)
          have hl3 := hU3.lt
          have p0 : w3.cell? ⟨w2.heap.size, 0, none⟩ = some (.string N) := hU3.cell 0
          have p1 : w3.cell? ⟨w2.heap.size, 1, none⟩ = some (.int .i64 V) := hU3.cell 1
          have p2 : w3.cell? ⟨w2.heap.size, 2, none⟩ = some (.int .u64 (K : Int)) := hU3.cell 2
          have p3 : w3.cell? ⟨w2.heap.size, 3, none⟩ = some (.int .i64 C) := hU3.cell 3
          have p4 : w3.cell? ⟨w2.heap.size, 4, none⟩ = some (.int .u64 (R : Int)) := hU3.cell 4
          have p5 : w3.cell? ⟨w2.heap.size, 5, none⟩ = some (.int .u64 (S : Int)) := hU3.cell 5
          clear dy2 hU k02 k3 hU3 J
          go_wp2
          go_roundw
          case rel => exact ⟨0 + 1, by omega, by go_num, k03⟩
          case measure => simp [intOf]
        · have c1 : wx.cell? ⟨w5.heap.size, 1, none⟩ = some (.slice aB Bl.length cB) := hAx.cell 1
          have dy := HD.out.2.1.kept hkk (fun _ _ _ h => h)
          obtain ⟨N, V, K, C, R, S, E, j1, j2⟩ := reads_both Bl
          have J := hid (And.intro j1 j2)
          have hEE : (E == E) = true := by simp
          clear j1 j2 hAx
          go_wp2_with fail
          clear c1
          refine (J.out.1 _ _ _ _ dy).mono ?_
          rintro e w2 ⟨rfl, k2⟩
          have hU := Blk.new w2 #[.string N, .int .i64 V, .int .u64 (K : Int), .int .i64 C, .int .u64 (R : Int), .int .u64 (S : Int)] 26
          have kU := k2.alloc (.cells #[.string N, .int .i64 V, .int .u64 (K : Int), .int .i64 C, .int .u64 (R : Int), .int .u64 (S : Int)] 26)
          have dy2 := dy.kept kU (fun _ _ _ h => h)
          have k02 := hkk.trans kU
          clear dy k2 kU hkk k0x
          go_wp2_with fail
          refine (J.out.2 _ _ _ _ dy2).mono ?_
          rintro e w3 ⟨rfl, k3⟩
          have hU3 := hU.kept k3 (fun h => h)
          have k03 := (k02.trans k3).alloc (.cells #[.string N, .int .i64 V, .int .u64 (K : Int), .int .i64 C, .int .u64 (R : Int), .int .u64 (S : Int)] 26)
          have hl3 := hU3.lt
          have p0 : w3.cell? ⟨w2.heap.size, 0, none⟩ = some (.string N) := hU3.cell 0
          have p1 : w3.cell? ⟨w2.heap.size, 1, none⟩ = some (.int .i64 V) := hU3.cell 1
          have p2 : w3.cell? ⟨w2.heap.size, 2, none⟩ = some (.int .u64 (K : Int)) := hU3.cell 2
          have p3 : w3.cell? ⟨w2.heap.size, 3, none⟩ = some (.int .i64 C) := hU3.cell 3
          have p4 : w3.cell? ⟨w2.heap.size, 4, none⟩ = some (.int .u64 (R : Int)) := hU3.cell 4
          have p5 : w3.cell? ⟨w2.heap.size, 5, none⟩ = some (.int .u64 (S : Int)) := hU3.cell 5
          clear dy2 hU k02 k3 hU3 J
          go_wp2
          go_roundw
          case rel => exact ⟨1 + 1, by omega, by go_num, k03⟩
          case measure => simp [intOf]
        · have c2 : wx.cell? ⟨w5.heap.size, 2, none⟩ = some (.slice aC Cl.length cC) := hAx.cell 2
          have dy := HD.out.2.2.kept hkk (fun _ _ _ h => h)
          obtain ⟨N, V, K, C, R, S, E, j1, j2⟩ := reads_both Cl
          have J := hid (And.intro j1 j2)
          have hEE : (E == E) = true := by simp
          clear j1 j2 hAx
          go_wp2_with fail
          clear c2
          refine (J.out.1 _ _ _ _ dy).mono ?_
          rintro e w2 ⟨rfl, k2⟩
          have hU := Blk.new w2 #[.string N, .int .i64 V, .int .u64 (K : Int), .int .i64 C, .int .u64 (R : Int), .int .u64 (S : Int)] 26
          have kU := k2.alloc (.cells #[.string N, .int .i64 V, .int .u64 (K : Int), .int .i64 C, .int .u64 (R : Int), .int .u64 (S : Int)] 26)
          have dy2 := dy.kept kU (fun _ _ _ h => h)
          have k02 := hkk.trans kU
          clear dy k2 kU hkk k0x
          go_wp2_with fail
          refine (J.out.2 _ _ _ _ dy2).mono ?_
          rintro e w3 ⟨rfl, k3⟩
          have hU3 := hU.kept k3 (fun h => h)
          have k03 := (k02.trans k3).alloc (.cells #[.string N, .int .i64 V, .int .u64 (K : Int), .int .i64 C, .int .u64 (R : Int), .int .u64 (S : Int)] 26)
          have hl3 := hU3.lt
          have p0 : w3.cell? ⟨w2.heap.size, 0, none⟩ = some (.string N) := hU3.cell 0
          have p1 : w3.cell? ⟨w2.heap.size, 1, none⟩ = some (.int .i64 V) := hU3.cell 1
          have p2 : w3.cell? ⟨w2.heap.size, 2, none⟩ = some (.int .u64 (K : Int)) := hU3.cell 2
          have p3 : w3.cell? ⟨w2.heap.size, 3, none⟩ = some (.int .i64 C) := hU3.cell 3
          have p4 : w3.cell? ⟨w2.heap.size, 4, none⟩ = some (.int .u64 (R : Int)) := hU3.cell 4
          have p5 : w3.cell? ⟨w2.heap.size, 5, none⟩ = some (.int .u64 (S : Int)) := hU3.cell 5
          clear dy2 hU k02 k3 hU3 J
          go_wp2
          go_roundw
          case rel => exact ⟨2 + 1, by omega, by go_num, k03⟩
          case measure => simp [intOf]
        · go_wp2
          go_ret
          exact ⟨rfl, k0x⟩
end Go.Proofs.Ytbckjkfdkgomiaa

namespace Go.Proofs.Ytbckjkfdkgomiaa
open Go.RowKit Go.Pm

set_option maxRecDepth 100000 in
set_option maxHeartbeats 8000000 in
theorem reads_3 (v : Value) (lo hi : Nat) (raw : List UInt8) (k cl how at' x cut : Nat) (w : World) (hv : Bs w lo hi v raw) (_hx : x < 256) (_ha : at' < 65536) (_hlr : ¬ 200 < raw.length) (hcut : (cut : Int) % 4 = 3) :
    Calls Try.prog 4 #[v, .int .u8 k, .int .u8 cl, .int .u8 how, .int .u16 at', .int .u8 x, .int .u8 cut] w fun e w' => e = .returned (.bool true) ∧ Kept None w w' := by
  have hv' := Vs.lt hv
  have hhi : min hi w.heap.size ≤ w.heap.size := Nat.min_le_right _ _
  generalize min hi w.heap.size = hi' at hv' hhi
  obtain ⟨ar, cr, rfl, g1, g2, g3⟩ := hv.shape
  clear g3 hv
  have hv : Bs w lo hi' (.slice ar raw.length cr) raw := hv'
  clear hv'
  have hN := Seat.nameS_size k
  have j0 := fun w => Seat.name k w
  have j1 := fun w => Seat.update (Seat.nameS k) 1 cl how w hN.2 (by decide) (by decide)
  obtain ⟨Q, hQ⟩ : ∃ Q, Q = Seat.req (Seat.nameS k) 1 cl how := ⟨_, rfl⟩
  have hf : Q.n = Seat.nameS k ∧ Q.k < 18446744073709551616 ∧ Q.r < 18446744073709551616 ∧ Q.s < 18446744073709551616 := by
    rw [hQ]
    exact ⟨rfl, Seat.keyN_lt _ _ _, Nat.lt_trans (sigR_lt _ _) (by decide), Nat.lt_trans (sigS_lt _ _) (by decide)⟩
  rw [← hQ] at j1
  have j2 := fun w => RUp.bytes Q.n Q.v Q.c Q.k Q.r Q.s w (by rw [hf.1]; omega) hf.2.1 hf.2.2.1 hf.2.2.2
  have hBl : 49 ≤ (putB Q.n Q.v Q.k Q.c Q.r Q.s).length ∧ (putB Q.n Q.v Q.k Q.c Q.r Q.s).length ≤ 80 := by rw [putB_len, hf.1]; omega
  obtain ⟨Bl, hB⟩ : ∃ Bl, Bl = putB Q.n Q.v Q.k Q.c Q.r Q.s := ⟨_, rfl⟩
  rw [← hB] at j2 hBl
  obtain ⟨N0, hN0⟩ : ∃ N0, N0 = Seat.nameS k := ⟨_, rfl⟩
  rw [← hN0] at j0 j1
  have H := hid (And.intro j0 (And.intro j1 (And.intro j2 hBl)))
  have HV := hid hv
  clear j0 j1 j2 hBl hf hQ hB hN hN0 hv
  go_enter Try.func4, Try.ntmps4
  go_wp2_with fail
  refine (known5 _).mono ?_
  rintro e w0 ⟨rfl, k0⟩
  go_wp2_with fail
  refine (H.out.1 _).mono ?_
  rintro e w1 ⟨rfl, k1⟩
  have k01 := k0.trans k1
  clear k0 k1
  go_wp2_with fail
  refine (H.out.2.1 _).mono ?_
  rintro e w2 ⟨rfl, k2⟩
  have k02 := k01.trans k2
  clear k01 k2
  go_wp2_with fail
  refine (H.out.2.2.1 _).mono ?_
  rintro e w3 ⟨u3, rfl, k3, b3⟩
  have k03 := k02.trans k3
  have dB3 := b3.bs (Nat.le_refl _)
  obtain ⟨aB, cB, rfl⟩ := b3.form
  have dr3 := HV.out.kept k03 (fun _ _ _ h => h)
  clear k02 k3 b3 HV
  go_wp2_with (first | (at_builtin; refine wpList_append_bo (l := []) (m := Bl) (base := w3.heap.size) rfl _ _ 32 rfl rtBytes rfl rfl (Bo.nil _ _ _) dB3 (by have := H.out.2.2.2; simp; omega) (Nat.le_refl _) ?k4) | fail)
  case k4 =>
    intro a4 n4 c4 w4 b4 k4
    have k04 := k03.then k4 (fun i _ h => by cases h)
    have hs4 : w3.heap.size ≤ w4.heap.size := k4.size
    have dr4 := dr3.kept k4 (fun _ _ _ h => by cases h)
    have dB4 := dB3.kept k4 (fun _ _ _ h => by cases h)
    have hws := k03.size
    have b4' : Ob w4 w3.heap.size (.slice a4 n4 c4) Bl := by simpa using b4
    have hb1 := H.out.2.2.2.1
    have hb2 := H.out.2.2.2.2
    clear k03 k4 dr3 dB3 b4 H
    obtain ⟨a4', c4', hval⟩ := b4'.form
    rw [hval] at b4' ⊢
    clear hval
    have hz1 : (512 : Int) - (Bl.length : Int) + (x : Int) % 3 = ((512 - Bl.length + x % 3 : Nat) : Int) := by omega
    have hz2 : 0 < 512 - Bl.length + x % 3 ∧ 512 - Bl.length + x % 3 ≤ 1000 := by omega
    obtain ⟨kz, hkz⟩ : ∃ kz, kz = 512 - Bl.length + x % 3 := ⟨_, rfl⟩
    rw [← hkz] at hz1 hz2
    clear hkz
    go_wp2_with (first | (at_builtin; refine wpList_append_zeros (P := Try.prog) (w := w4) (kq := .i64) (kn := .i64) (e := 5) (v := .slice a4' Bl.length c4') (l := Bl) (base := w3.heap.size) rfl (.tmp 38) (.tmp 45) 32 3 rfl rtBytes tInt rfl b4' (by omega) kz rfl hz2.1 (by omega) hs4 ?k5) | fail)
    case k5 =>
      intro a5 n5 c5 w5 b5 k5
      have hO : ∀ k, (Value.slice a4' Bl.length c4').ownBlock = some k → w3.heap.size ≤ k := fun k hk => (b4'.own k hk).1
      have dr0 := dr4.kept k5 (fun k _ h (e : _ = _) => by have := hO k e; omega)
      have dB0 := dB4.kept k5 (fun k _ h (e : _ = _) => by have := hO k e; omega)
      have kE := k04.own k5 (fun k hk => by have := hO k hk; omega)
      have dC0 := b5.bs (Nat.le_refl _)
      obtain ⟨aC, cC, hval⟩ := b5.form
      rw [hval] at dC0 ⊢
      obtain ⟨Cl, hCl⟩ : ∃ Cl, Cl = Bl ++ zerosB kz := ⟨_, rfl⟩
      rw [← hCl] at dC0 ⊢
      clear hval hCl b5 k5 hO dr4 dB4 k04 b4'
      go_wp2_with fail
      obtain ⟨wL, hwL⟩ : ∃ wL, wL = w5.alloc (.cells #[.slice ar raw.length cr, .slice aB Bl.length cB, .slice aC Cl.length cC] 32) := ⟨_, rfl⟩
      have hA : Blk wL w5.heap.size #[.slice ar raw.length cr, .slice aB Bl.length cB, .slice aC Cl.length cC] 32 := by rw [hwL]; exact Blk.new w5 _ _
      have kAL : Kept None w5 wL := by rw [hwL]; exact (Kept.refl _ _).alloc _
      have kL := kE.trans kAL
      have dr := dr0.kept kAL (fun _ _ _ h => h)
      have dB := dB0.kept kAL (fun _ _ _ h => h)
      have dC := dC0.kept kAL (fun _ _ _ h => h)
      rw [← hwL]
      clear hcut hwL kAL dr0 dB0 dC0 kE
      have HD := hid (And.intro dr (And.intro dB dC))
      clear dr dB dC
      go_loopw [80] (fun i wr => ∃ k : Nat, k ≤ 3 ∧ i = .int .i64 k ∧ Kept None wL wr) (fun i _ => 3 - (intOf i).toNat)
      case atStart => exact ⟨0, by omega, rfl, Kept.refl _ _⟩
      case round =>
        obtain ⟨k, hk, rfl, hkk⟩ := hrel
        obtain ⟨wx, hwx⟩ : ∃ wx, wx = wr := ⟨_, rfl⟩
        rw [← hwx] at hkk ⊢
        clear hwx
        have hAx := hA.kept hkk (fun h => h)
        have k0x := kL.trans hkk
        have hc3 : k = 0 ∨ k = 1 ∨ k = 2 ∨ k = 3 := by omega
        rcases hc3 with rfl | rfl | rfl | rfl
        · have c0 : wx.cell? ⟨w5.heap.size, 0, none⟩ = some (.slice ar raw.length cr) := hAx.cell 0
          have dy := HD.out.1.kept hkk (fun _ _ _ h => h)
          obtain ⟨N, V, K, C, R, S, E, j1, j2⟩ := reads_both raw
          have J := hid (And.intro j1 j2)
          have hEE : (E == E) = true := by simp
          clear j1 j2 hAx
          go_wp2_with fail
          clear c0
          refine (J.out.1 _ _ _ _ dy).mono ?_
          rintro e w2 ⟨rfl, k2⟩
          have hU := Blk.new w2 #[.string N, .int .i64 V, .int .u64 (K : Int), .int .i64 C, .int .u64 (R : Int), .int .u64 (S : Int)] 26
          have kU := k2.alloc (.cells #[.string N, .int .i64 V, .int .u64 (K : Int), .int .i64 C, .int .u64 (R : Int), .int .u64 (S : Int)] 26)
          have dy2 := dy.kept kU (fun _ _ _ h => h)
          have k02 := hkk.trans kU
          clear dy k2 kU hkk k0x
          go_wp2_with fail
          refine (J.out.2 _ _ _ _ dy2).mono ?_
          rintro e w3 ⟨rfl, k3⟩
          have hU3 := hU.kept k3 (fun h => h)
          have k03 := (k02.trans k3).alloc (.cells #[.string N, .int .i64 V, .int .u64 (K : Int), .int .i64 C, .int .u64 (R : Int), .int .u64 (S : Int)] 26)
          have hl3 := hU3.lt
          have p0 : w3.cell? ⟨w2.heap.size, 0, none⟩ = some (.string N) := hU3.cell 0
          have p1 : w3.cell? ⟨w2.heap.size, 1, none⟩ = some (.int .i64 V) := hU3.cell 1
          have p2 : w3.cell? ⟨w2.heap.size, 2, none⟩ = some (.int .u64 (K : Int)) := hU3.cell 2
          have p3 : w3.cell? ⟨w2.heap.size, 3, none⟩ = some (.int .i64 C) := hU3.cell 3
          have p4 : w3.cell? ⟨w2.heap.size, 4, none⟩ = some (.int .u64 (R : Int)) := hU3.cell 4
          have p5 : w3.cell? ⟨w2.heap.size, 5, none⟩ = some (.int .u64 (S : Int)) := hU3.cell 5
          clear dy2 hU k02 k3 hU3 J
          go_wp2
          go_roundw
          case rel => exact ⟨0 + 1, by omega, by go_num, k03⟩
          case measure => simp [intOf]
        · have c1 : wx.cell? ⟨w5.heap.size, 1, none⟩ = some (.slice aB Bl.length cB) := hAx.cell 1
          have dy := HD.out.2.1.kept hkk (fun _ _ _ h => h)
          obtain ⟨N, V, K, C, R, S, E, j1, j2⟩ := reads_both Bl
          have J := hid (And.intro j1 j2)
          have hEE : (E == E) = true := by simp
          clear j1 j2 hAx
          go_wp2_with fail
          clear c1
          refine (J.out.1 _ _ _ _ dy).mono ?_
          rintro e w2 ⟨rfl, k2⟩
          have hU := Blk.new w2 #[.string N, .int .i64 V, .int .u64 (K : Int), .int .i64 C, .int .u64 (R : Int), .int .u64 (S : Int)] 26
          have kU := k2.alloc (.cells #[.string N, .int .i64 V, .int .u64 (K : Int), .int .i64 C, .int .u64 (R : Int), .int .u64 (S : Int)] 26)
          have dy2 := dy.kept kU (fun _ _ _ h => h)
          have k02 := hkk.trans kU
          clear dy k2 kU hkk k0x
          go_wp2_with fail
          refine (J.out.2 _ _ _ _ dy2).mono ?_
          rintro e w3 ⟨rfl, k3⟩
          have hU3 := hU.kept k3 (fun h => h)
          have k03 := (k02.trans k3).alloc (.cells #[.string N, .int .i64 V, .int .u64 (K : Int), .int .i64 C, .int .u64 (R : Int), .int .u64 (S : Int)] 26)
          have hl3 := hU3.lt
          have p0 : w3.cell? ⟨w2.heap.size, 0, none⟩ = some (.string N) := hU3.cell 0
          have p1 : w3.cell? ⟨w2.heap.size, 1, none⟩ = some (.int .i64 V) := hU3.cell 1
          have p2 : w3.cell? ⟨w2.heap.size, 2, none⟩ = some (.int .u64 (K : Int)) := hU3.cell 2
          have p3 : w3.cell? ⟨w2.heap.size, 3, none⟩ = some (.int .i64 C) := hU3.cell 3
          have p4 : w3.cell? ⟨w2.heap.size, 4, none⟩ = some (.int .u64 (R : Int)) := hU3.cell 4
          have p5 : w3.cell? ⟨w2.heap.size, 5, none⟩ = some (.int .u64 (S : Int)) := hU3.cell 5
          clear dy2 hU k02 k3 hU3 J
          go_wp2
          go_roundw
          case rel => exact ⟨1 + 1, by omega, by go_num, k03⟩
          case measure => simp [intOf]
        · have c2 : wx.cell? ⟨w5.heap.size, 2, none⟩ = some (.slice aC Cl.length cC) := hAx.cell 2
          have dy := HD.out.2.2.kept hkk (fun _ _ _ h => h)
          obtain ⟨N, V, K, C, R, S, E, j1, j2⟩ := reads_both Cl
          have J := hid (And.intro j1 j2)
          have hEE : (E == E) = true := by simp
          clear j1 j2 hAx
          go_wp2_with fail
          clear c2
          refine (J.out.1 _ _ _ _ dy).mono ?_
          rintro e w2 ⟨rfl, k2⟩
          have hU := Blk.new w2 #[.string N, .int .i64 V, .int .u64 (K : Int), .int .i64 C, .int .u64 (R : Int), .int .u64 (S : Int)] 26
          have kU := k2.alloc (.cells #[.string N, .int .i64 V, .int .u64 (K : Int), .int .i64 C, .int .u64 (R : Int), .int .u64 (S : Int)] 26)
          have dy2 := dy.kept kU (fun _ _ _ h => h)
          have k02 := hkk.trans kU
          clear dy k2 kU hkk k0x
          go_wp2_with fail
          refine (J.out.2 _ _ _ _ dy2).mono ?_
          rintro e w3 ⟨rfl, k3⟩
          have hU3 := hU.kept k3 (fun h => h)
          have k03 := (k02.trans k3).alloc (.cells #[.string N, .int .i64 V, .int .u64 (K : Int), .int .i64 C, .int .u64 (R : Int), .int .u64 (S : Int)] 26)
          have hl3 := hU3.lt
          have p0 : w3.cell? ⟨w2.heap.size, 0, none⟩ = some (.string N) := hU3.cell 0
          have p1 : w3.cell? ⟨w2.heap.size, 1, none⟩ = some (.int .i64 V) := hU3.cell 1
          have p2 : w3.cell? ⟨w2.heap.size, 2, none⟩ = some (.int .u64 (K : Int)) := hU3.cell 2
          have p3 : w3.cell? ⟨w2.heap.size, 3, none⟩ = some (.int .i64 C) := hU3.cell 3
          have p4 : w3.cell? ⟨w2.heap.size, 4, none⟩ = some (.int .u64 (R : Int)) := hU3.cell 4
          have p5 : w3.cell? ⟨w2.heap.size, 5, none⟩ = some (.int .u64 (S : Int)) := hU3.cell 5
          clear dy2 hU k02 k3 hU3 J
          go_wp2
          go_roundw
          case rel => exact ⟨2 + 1, by omega, by go_num, k03⟩
          case measure => simp [intOf]
        · go_wp2
          go_ret
          exact ⟨rfl, k0x⟩
end Go.Proofs.Ytbckjkfdkgomiaa

namespace Go.Proofs.Ytbckjkfdkgomiaa
open Go.RowKit Go.Pm

set_option maxRecDepth 100000 in
set_option maxHeartbeats 1000000 in
theorem updateReads (v : Value) (lo hi : Nat) (raw : List UInt8) (k cl how at' x cut : Nat) (w : World) (hv : Bs w lo hi v raw) (hx : x < 256) (ha : at' < 65536) :
    Calls Try.prog 4 #[v, .int .u8 k, .int .u8 cl, .int .u8 how, .int .u16 at', .int .u8 x, .int .u8 cut] w fun e w' => e = .returned (.bool true) ∧ Kept None w w' := by
  by_cases hl : 200 < raw.length
  · obtain ⟨ar, cr, rfl, g1, g2, g3⟩ := hv.shape
    clear g3 hv
    go_enter Try.func4, Try.ntmps4
    go_wp2_with fail
    refine (known5 _).mono ?_
    rintro e w0 ⟨rfl, k0⟩
    go_wp2
    go_ret
    exact ⟨rfl, k0⟩
  · have hc : cut % 4 = 0 ∨ cut % 4 = 1 ∨ cut % 4 = 2 ∨ cut % 4 = 3 := by omega
    have hi4 : (cut : Int) % 4 = ((cut % 4 : Nat) : Int) := by omega
    rcases hc with h | h | h | h <;> rw [h] at hi4
    · exact reads_0 v lo hi raw k cl how at' x cut w hv hx ha hl hi4
    · exact reads_1 v lo hi raw k cl how at' x cut w hv hx ha hl hi4
    · exact reads_2 v lo hi raw k cl how at' x cut w hv hx ha hl hi4
    · exact reads_3 v lo hi raw k cl how at' x cut w hv hx ha hl hi4
end Go.Proofs.Ytbckjkfdkgomiaa
