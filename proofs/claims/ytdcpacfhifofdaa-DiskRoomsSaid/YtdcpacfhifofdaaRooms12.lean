/- postmarklaw12.DiskRooms: true. -/
import Derived.Test.YtdcpacfhifofdaaKnown12
namespace Go.Proofs.Ytdcpacfhifofdaa
open Go.RowKit Go.Pm
namespace K12
open Dk
theorem _root_.Go.Pm.Dsk.idle_fl {D : Dsk} (h : D.ahead = -1) : D.fl = false := by simp [Dsk.fl, h]
theorem _root_.Go.Pm.Dsk.idle_wr {D : Dsk} (h : D.ahead = -1) : D.wr = D := by
  unfold Dsk.wr
  rw [if_pos h, ← h]
theorem used_add {D : Dsk} {j : Nat} (hj : j < 3) (x : List UInt8) : (D.set j ((D.f j).add x)).used = D.used + x.length := by
  match j, hj with
  | 0, _ => simp [Dsk.used, Dsk.set, Fl.add]; omega
  | 1, _ => simp [Dsk.used, Dsk.set, Fl.add]; omega
  | 2, _ => simp [Dsk.used, Dsk.set, Fl.add]; omega
/-- What the loop knows of the disk. -/
structure Rm (D : Dsk) (room used i : Nat) : Prop where
  room : D.room = (room : Int)
  ahead : D.ahead = -1
  used : D.used = used
  f : ∀ j, j < 3 → (D.f j).Ok ∧ (D.f j).t.length ≤ 20 * i ∧ (D.f j).b.length ≤ i
theorem Rm.ok {D : Dsk} {room used i : Nat} (h : Rm D room used i) (hi : i ≤ 40) (hr : room < 256) : D.Ok :=
  ⟨fun j hj => ⟨(h.f j hj).1, by have := (h.f j hj).2; omega, by have := (h.f j hj).2; omega⟩, by rw [h.room]; omega, by rw [h.ahead]; decide⟩
theorem Rm.more {D : Dsk} {room used i : Nat} (h : Rm D room used i) : Rm D room used (i + 1) :=
  ⟨h.room, h.ahead, h.used, fun j hj => ⟨(h.f j hj).1, by have := (h.f j hj).2; omega, by have := (h.f j hj).2; omega⟩⟩
theorem Rm.add {D : Dsk} {room used i : Nat} (h : Rm D room used i) {j : Nat} (hj : j < 3) (x : List UInt8) (hx : x.length ≤ 20) : Rm (D.set j ((D.f j).add x)) room (used + x.length) (i + 1) :=
  ⟨h.room, h.ahead, by rw [used_add hj, h.used], fun k hk => by
    simp only [Dsk.set]
    by_cases e : k = j
    · subst e
      rw [if_pos rfl]
      refine ⟨Fl.ok_add (h.f k hk).1 x, ?_, ?_⟩
      · have := (h.f k hk).2; simp [Fl.add]; omega
      · have := (h.f k hk).2; simp [Fl.add]; omega
    · rw [if_neg e]
      exact ⟨(h.f k hk).1, by have := (h.f k hk).2; omega, by have := (h.f k hk).2; omega⟩⟩
theorem Rm.app_no {D : Dsk} {room used i : Nat} (h : Rm D room used i) {j : Nat} {x : List UInt8} (hr : room < used + x.length) : Dsk.appE D x.length = 33 ∧ Dsk.appD D j x = D := by
  have h1 : D.room < D.used + x.length := by rw [h.room, h.used]; omega
  simp only [Dsk.appE, Dsk.appD, Dsk.idle_fl h.ahead, Bool.false_eq_true, if_false, if_pos h1]
  exact ⟨trivial, Dsk.idle_wr h.ahead⟩
theorem Rm.app_yes {D : Dsk} {room used i : Nat} (h : Rm D room used i) {j : Nat} {x : List UInt8} (hr : used + x.length ≤ room) : Dsk.appE D x.length = 0 ∧ Dsk.appD D j x = D.set j ((D.f j).add x) := by
  have h1 : ¬ D.room < D.used + x.length := by rw [h.room, h.used]; omega
  simp only [Dsk.appE, Dsk.appD, Dsk.idle_fl h.ahead, Bool.false_eq_true, if_false, if_neg h1, Dsk.idle_wr h.ahead]
  exact ⟨trivial, trivial⟩
set_option maxRecDepth 100000 in
set_option maxHeartbeats 16000000 in
theorem rooms (room : Nat) (v : Value) (lo hi : Nat) (l : List UInt8) (w : World) (hroom : room < 256) (hv : Bs w lo hi v l) : Calls Try.prog 6 #[.int .u8 (room : Int), v] w fun e w' => e = .returned (.bool true) ∧ Kept None w w' := by
  obtain ⟨a, c, rfl, g1, g2, g3⟩ := hv.shape
  have HV := hid hv
  have HR := hid hroom
  have wr1 : IntKind.i64.wrap (room : Int) = (room : Int) := by rw [IntKind.wrap_i64]; omega
  have wr2 : wrap64 (room : Int) = (room : Int) := by unfold wrap64; omega
  have WR := hid (And.intro wr1 wr2)
  clear hv g3 hroom wr1 wr2
  by_cases h40 : l.length ≤ 40
  · have d40 : decide ((40 : Int) < (l.length : Int)) = false := by simp; omega
    have HL := hid h40
    clear h40
    go_enter Try.func6, Try.ntmps6
    go_wp2_with fail
    refine (known w).mono ?_
    rintro e w1 ⟨rfl, k1⟩
    have wr1 := WR.out.1
    have wr2 := WR.out.2
    go_wp2_with fail
    refine (sx_new (room : Int) w w1 None k1 (fun _ h => h.elim) (by omega) 0).mono ?_
    rintro e w2 ⟨d, rfl, s2, _⟩
    have S2 := hid s2
    clear s2 k1
    go_wp2
    clear wr1 wr2
    go_loopg [6, 7] l.length (fun kx s6 s7 wr => ∃ (i used : Nat) (D : Dsk), s6 = .int .i64 (used : Int) ∧ s7 = .int .i64 (i : Int) ∧ i ≤ l.length ∧ l.length - i ≤ kx ∧ Hid (Rm D room used i ∧ used ≤ 20 * i) ∧ Hid (Sx w wr None d D))
    case atStart => exact ⟨0, 0, _, rfl, rfl, Nat.zero_le _, Nat.le_refl _, hid ⟨⟨rfl, rfl, rfl, fun j _ => ⟨by simp only [d1, ite_self]; exact Fl.ok_nil _, by simp [d1], by simp [d1]⟩⟩, Nat.le_refl _⟩, S2⟩
    case round =>
    obtain ⟨i, used, D, rfl, rfl, hi, hix, HM, HS⟩ := hrel
    by_cases hlt : i < l.length
    · have hlt' : decide ((i : Int) < (l.length : Int)) = true := by simpa using hlt
      have HOK := hid (HM.out.1.ok (by have := HL.out; omega) HR.out)
      obtain ⟨b, o, rfl, q1, q2, q3, hcell⟩ := HV.out.ne (by omega)
      have hci := hcell i hlt
      obtain ⟨R, hR⟩ : ∃ R : Nat, R = (l.getD i 0).toNat := ⟨_, rfl⟩
      rw [show bAt l i = (R : Int) by rw [hR]; rfl] at hci
      have hR2 : R < 256 := by rw [hR]; exact UInt8.toNat_lt _
      have HC0 := hid (fun W (hW : Kept None w W) => (hW.cell (p := ⟨b, o + i, none⟩) q3 (fun h => h)).trans hci)
      have hcw := HC0.out wr HS.out.kept
      obtain ⟨Q, hQ⟩ : ∃ Q, Q = R / 3 := ⟨_, rfl⟩
      obtain ⟨N, hN⟩ : ∃ N, N = Q % 20 := ⟨_, rfl⟩
      obtain ⟨F, hF⟩ : ∃ F, F = R % 3 := ⟨_, rfl⟩
      have r1 : (R : Int) / 3 = (Q : Int) := by omega
      have r2 : (Q : Int) % 20 = (N : Int) := by omega
      have r3 : (R : Int) % 3 = (F : Int) := by omega
      have HN2 := hid (show N < 20 by omega)
      have HF3 := hid (show F < 3 by omega)
      have r4 : (Q : Int) % 256 = (Q : Int) := by omega
      obtain ⟨i0, hi0, hz0, hz1, hz2⟩ := info_parts infoByte
      have hmk : ∀ W, (Instr.makeSlice 22 (.int .i64 (N : Int)) (.int .i64 (N : Int))).run Try.prog W = .ok (.slice (some ⟨W.heap.size, 0, none⟩) N N) (W.alloc (.cells (madeCells (Value.cells (.int .u8 0)) N) 5)) := fun W => by
        have := run_makeSlice (P := Try.prog) W 22 5 i0 (.int .u8 0) tBytes' hi0 hz0 .i64 .i64 (N : Int) (N : Int) (by omega) (Int.le_refl _) (by rw [hz1]; omega) (by rw [hz2]; omega) (by omega)
        rw [show ((N : Int)).toNat = N by omega, hz1, Nat.mul_one] at this
        exact this
      have hmc : (madeCells (Value.cells (.int .u8 0)) N).size = N := by simp [madeCells]
      have hml : (madeCells (Value.cells (.int .u8 0)) N).toList = (List.replicate N (0 : UInt8)).map u8v := by rw [List.map_replicate]; exact toList_madeCells_one _ _
      obtain ⟨C, hC⟩ : ∃ C, C = madeCells (Value.cells (.int .u8 0)) N := ⟨_, rfl⟩
      simp only [← hC] at hmk hmc hml
      have HC := hid (And.intro hmc hml)
      have hcw2 : (wr.alloc (.cells C 5)).cell? ⟨b, o + i, none⟩ = some (.int .u8 (R : Int)) := HC0.out _ (HS.out.kept.alloc _)
      have HLR := hid (show (List.replicate N (0 : UInt8)).length = N by simp)
      clear hcell hci q1 q2 q3 hR hR2 hmc hml hC hi0 hz0 hz1 hz2 hQ hN hF
      have n1 := HN2.out
      have f1 := HF3.out
      go_wp2_with fail
      clear hmk hcw hcw2 r1 r2 r3 r4 n1 f1
      obtain ⟨U, hU⟩ : ∃ U, U = used + N := ⟨_, rfl⟩
      have WI := hid (show wrap64 ((i : Int) + 1) = ((i + 1 : Nat) : Int) by rw [wrap_in _ (by omega) (by have := HL.out; omega)]; omega)
      have WU := hid (show wrap64 ((used : Int) + (N : Int)) = (U : Int) by rw [wrap_in _ (by omega) (by have := HM.out.2; have := HL.out; have := HN2.out; omega)]; omega)
      by_cases hr : room < used + N
      · have hm : True := trivial
        have ap := (HM.out.1).app_no (j := F) (x := List.replicate N 0) (by rw [HLR.out]; omega)
        have dU : decide ((U : Int) ≤ (room : Int)) = false := by simp; omega
        have dU2 : decide (U ≤ room) = false := by simp; omega
        have AP := hid ap
        have HU := hid (And.intro hr hU)
        clear hr hU ap
        refine (app_lit HS.out HOK.out F HF3.out C (List.replicate N 0) HC.out.2 N HC.out.1 (by have := HN2.out; omega) _ AP.out.1 AP.out.2).mono ?_
        rintro e w5 ⟨rfl, s⟩
        have S5 := hid s
        clear s
        have wi1 := WI.out
        have wU := WU.out
        have wr1 := WR.out.1
        have wr2 := WR.out.2
        go_wp2
        clear wi1 wU wr1 wr2
        go_roundg (l.length - (i + 1))
        case measure => omega
        case rel => exact ⟨i + 1, used, D, rfl, by go_num, by omega, Nat.le_refl _, hid ⟨HM.out.1.more, by have := HM.out.2; omega⟩, S5⟩
      · have hm : True := trivial
        have ap := (HM.out.1).app_yes (j := F) (x := List.replicate N 0) (by rw [HLR.out]; omega)
        have dU : decide ((U : Int) ≤ (room : Int)) = true := by simp; omega
        have dU2 : decide (U ≤ room) = true := by simp; omega
        have AP := hid ap
        have HU := hid (And.intro hr hU)
        clear hr hU ap
        refine (app_lit HS.out HOK.out F HF3.out C (List.replicate N 0) HC.out.2 N HC.out.1 (by have := HN2.out; omega) _ AP.out.1 AP.out.2).mono ?_
        rintro e w5 ⟨rfl, s⟩
        have S5 := hid s
        clear s
        have wi1 := WI.out
        have wU := WU.out
        have wr1 := WR.out.1
        have wr2 := WR.out.2
        go_wp2
        clear wi1 wU wr1 wr2
        go_roundg (l.length - (i + 1))
        case measure => omega
        case rel => exact ⟨i + 1, U, _, congrArg (Value.int .i64) WU.out, by go_num, by omega, Nat.le_refl _, hid ⟨by have := HM.out.1.add HF3.out (List.replicate N 0) (by rw [HLR.out]; have := HN2.out; omega); rw [HLR.out, ← HU.out.2] at this; exact this, by have := HM.out.2; have := HN2.out; have := HU.out.2; omega⟩, S5⟩
    · have hlt' : decide ((i : Int) < (l.length : Int)) = false := by simpa using hlt
      have HOK := hid (HM.out.1.ok (by have := HL.out; omega) HR.out)
      obtain ⟨T0, e0⟩ : ∃ T, T = (D.f 0).t := ⟨_, rfl⟩
      obtain ⟨T1, e1⟩ : ∃ T, T = (D.f 1).t := ⟨_, rfl⟩
      obtain ⟨T2, e2⟩ : ∃ T, T = (D.f 2).t := ⟨_, rfl⟩
      have hu := HM.out.1.used
      unfold Dsk.used at hu
      rw [← e0, ← e1, ← e2] at hu
      obtain ⟨U, hU⟩ : ∃ U, U = T0.length + T1.length := ⟨_, rfl⟩
      have WU := hid (show wrap64 ((T0.length : Int) + (T1.length : Int)) = (U : Int) by rw [wrap_in _ (by omega) (by have := HM.out.2; have := HL.out; omega)]; omega)
      have WV := hid (show wrap64 ((U : Int) + (T2.length : Int)) = (used : Int) by rw [wrap_in _ (by omega) (by have := HM.out.2; have := HL.out; omega)]; omega)
      have E0 := hid e0
      have E1 := hid e1
      have E2 := hid e2
      clear hu hU e0 e1 e2
      go_wp2_with fail
      refine (sx_read (i := 0) (l := T0) HS.out HOK.out (by decide) E0.out.symm).mono ?_
      rintro e w5 ⟨v5, rfl, k5, b5⟩
      obtain ⟨a5, c5, rfl⟩ := b5.form
      have S5 := hid (HS.out.keptN k5)
      clear k5 b5
      go_wp2_with fail
      refine (sx_read (i := 1) (l := T1) S5.out HOK.out (by decide) E1.out.symm).mono ?_
      rintro e w6 ⟨v6, rfl, k6, b6⟩
      obtain ⟨a6, c6, rfl⟩ := b6.form
      have S6 := hid (S5.out.keptN k6)
      clear k6 b6
      have wU := WU.out
      go_wp2_with fail
      refine (sx_read (i := 2) (l := T2) S6.out HOK.out (by decide) E2.out.symm).mono ?_
      rintro e w7 ⟨v7, rfl, k7, b7⟩
      obtain ⟨a7, c7, rfl⟩ := b7.form
      have S7 := hid (S6.out.keptN k7)
      clear k7 b7
      have wV := WV.out
      go_wp2_with fail
      refine (append_bad d 3 _ w7 (by omega)).mono ?_
      rintro e w8 ⟨rfl, rfl⟩
      go_wp2_with fail
      refine (sync_bad d (-1) w7 (by omega)).mono ?_
      rintro e w8 ⟨rfl, rfl⟩
      go_wp2
      go_ret
      exact ⟨rfl, S7.out.kept⟩
  · have d40 : decide ((40 : Int) < (l.length : Int)) = true := by simp; omega
    clear WR h40
    go_enter Try.func6, Try.ntmps6
    go_wp2_with fail
    refine (known w).mono ?_
    rintro e w1 ⟨rfl, k1⟩
    go_wp2
    go_ret
    exact ⟨rfl, k1⟩
end K12
end Go.Proofs.Ytdcpacfhifofdaa
