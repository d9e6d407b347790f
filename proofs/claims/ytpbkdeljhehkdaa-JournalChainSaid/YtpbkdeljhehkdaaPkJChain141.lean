/- Rows.JournalChainSaid: a journal that is laid anew has all that waits, in order, whatever waits and whatever its numbers. No condition. -/
import Derived.Test.YtpbkdeljhehkdaaPk2
import Derived.Test.YtpbkdeljhehkdaaPk4
import Derived.Deep.LoopGhost
import Derived.Test.YtpbkdeljhehkdaaRows
import Derived.Test.YtpbkdeljhehkdaaPk7
namespace Go.Pm
open Go Go.RowKit
/-- What stands behind i records. -/
def restJ (s : Int) (l : List Pn) (i : Nat) : List UInt8 := joinR (recsP s i (l.drop i))
theorem restJ_step (s : Int) (l : List Pn) (i : Nat) (h : i < l.length) : restJ s l i = putJL (recP s i l[i]) ++ restJ s l (i + 1) := by
  unfold restJ
  rw [List.drop_eq_getElem_cons h, recsP]
  simp [joinR]
theorem restJ_end (s : Int) (l : List Pn) : restJ s l l.length = [] := by
  unfold restJ
  rw [List.drop_length]
  rfl
theorem restJ_len (s : Int) (l : List Pn) (i : Nat) : (restJ s l i).length ≤ 109 * l.length := by
  unfold restJ
  have h := joinR_len (recsP s i (l.drop i))
  rw [recsP_len, List.length_drop] at h
  omega
theorem recB_yes {g s n : Nat} (hg : g < 65536) (hs : s < 65536) (hn : n ≤ 32) : rightJ (recB g s n) = true := by
  refine (rightJ_iff _).2 ⟨⟨by simp only [recB]; omega, by simp only [recB]; omega⟩, .inl ⟨rfl, ?_⟩⟩
  simp only [recB]
  omega
theorem recP_yes {s i : Nat} {x : Pn} (hs : s < 65536) (hi : i ≤ 1000) (hx : x.u.right = true) (ht : 0 ≤ x.tick ∧ x.tick ≤ 1003) : rightJ (recP s i x) = true := by
  refine (rightJ_iff _).2 ⟨⟨by simp only [recP]; omega, by simp only [recP]; omega⟩, .inr (.inl ⟨rfl, hx, ht.1, ?_⟩)⟩
  simp only [recP]
  omega
theorem allR_yes {s : Nat} (hs : s < 65536) : ∀ (l : List Pn) (i : Nat), i + l.length ≤ 1000 → (∀ x ∈ l, x.u.right = true ∧ 0 ≤ x.tick ∧ x.tick ≤ 1003) → allR (recsP s i l) = true
  | [], _, _, _ => rfl
  | x :: l, i, hi, h => by
    rw [List.length_cons] at hi
    have h1 := h x (List.mem_cons_self ..)
    have h2 := allR_yes hs l (i + 1) (by omega) (fun y hy => h y (List.mem_cons_of_mem _ hy))
    unfold allR at h2 ⊢
    rw [recsP, List.all_cons, recP_yes hs (by omega) h1.1 h1.2, h2]
    rfl
end Go.Pm
namespace Go.Proofs.Ytpbkdeljhehkdaa
open Go.RowKit Go.Pm
namespace K14
open Jr
set_option maxRecDepth 100000 in
set_option maxHeartbeats 8000000 in
theorem chain (hT : RightC) (hP : PutC) (hR : ReadC) (hB : BaseC) (g s : Nat) (v : Value) (lo hi : Nat) (l : List UInt8) (w : World) (hv : Bs w lo hi v l) (hg : g < 65536) (hs : s < 65536) :
    Calls Try.prog 5 #[v, .int .u16 (g : Int), .int .u16 (s : Int)] w fun e w' => e = .returned (.bool true) ∧ Kept None w w' := by
  obtain ⟨av, cv, rfl, _⟩ := hv.shape
  have HK := hid (fun W => known hT hP hR hB W)
  by_cases hl : l.length ≤ 32
  · have dl : decide ((32 : Int) < (l.length : Int)) = false := by simp; omega
    have dl2 : decide (32 < l.length) = false := by simp; omega
    obtain ⟨ps, hps⟩ : ∃ ps, ps = Seat.pendF l := ⟨_, rfl⟩
    have hpl : ps.length = l.length := by rw [hps]; exact Seat.pendN_len l _
    have hin := Seat.pendN_in l l.length (by omega)
    have hin2 : ∀ x ∈ ps, ((1 ≤ x.u.v ∧ x.u.v ≤ (l.length : Int)) ∧ x.u.right = true ∧ (0 ≤ x.tick ∧ x.tick ≤ 1003) ∧ x.u.r = 0 ∧ x.u.s = 0) := by rw [hps]; exact hin
    have hfit : ∀ x ∈ ps, x.u.Fits ∧ inI x.tick := fun x hx => by
      have h := hin2 x hx
      have hr := (rightB_iff _ _ _ _).1 h.2.1
      have h61 : prime61 = 2305843009213693951 := rfl
      refine ⟨⟨⟨by omega, by omega⟩, by omega, ⟨by omega, by omega⟩, by omega, by omega⟩, ⟨by omega, by omega⟩⟩
    have HPD := hid (fun W (h : Bs W lo hi (.slice av l.length cv) l) => Seat.pending _ lo hi l W h (by omega))
    rw [← hps] at HPD
    have hr0 := recB_yes (g := g) (s := s) (n := l.length) hg hs hl
    have hall := allR_yes hs ps 0 (by omega) (fun x hx => ⟨(hin2 x hx).2.1, (hin2 x hx).2.2.1⟩)
    have hbase : baseF g s ps = putJL (recB g s l.length) ++ restJ s ps 0 := by
      unfold baseF
      rw [hpl, hr0, hall]
      rfl
    have hrd := read_putJ (r := recB g s l.length) (restJ s ps 0) hr0 ⟨by show (0 : Nat) < _; decide, by show (0 : Nat) < _; decide⟩
    have hb16 : (bodyJ (recB g s l.length)).length = 16 := rfl
    have hl37 : (putJL (recB g s l.length)).length = 37 := by rw [putJ_len hr0, hb16]
    rw [← hbase, hb16] at hrd
    have hdrop : (baseF g s ps).drop 37 = restJ s ps 0 := by rw [hbase]; exact List.drop_left' hl37
    have hblen : (baseF g s ps).length ≤ 4000 ∧ 37 ≤ (baseF g s ps).length := by
      rw [hbase, List.length_append, hl37]
      have := restJ_len s ps 0
      omega
    have HBS := hid (fun (W : World) (u : Value) (lo hi : Nat) (h : Ps 9 W lo hi u (pensC ps)) => hB g s u lo hi ps W h hfit ⟨by omega, by omega⟩ ⟨by omega, by omega⟩ (by omega))
    obtain ⟨BB, hBB⟩ : ∃ b, b = baseF g s ps := ⟨_, rfl⟩
    rw [← hBB] at HBS hrd hdrop hblen
    have hrr := fun (W : World) (u : Value) (lo hi : Nat) (h : Bs W lo hi u BB) => hR u lo hi BB W h (by omega)
    simp only [hrd] at hrr
    have HRR := hid (show ∀ (W : World) (u : Value) (lo hi : Nat), Bs W lo hi u BB → Calls Try.prog 15 #[u] W fun e w' => e = .returned (.tuple #[.agg #[.int .i64 1, .int .i64 (s : Int), .int .i64 (g : Int), .int .i64 (l.length : Int), .string ⟨#[]⟩, .int .i64 0, .int .u64 0, .int .i64 0, .int .u64 0, .int .u64 0, .int .i64 0, .int .i64 0], .int .i64 37, .int .i64 0]) ∧ Kept None W w' from hrr)
    have HBL := hid hblen
    have HDR := hid hdrop
    have wg : wrap64 (g : Int) = (g : Int) := by unfold wrap64; omega
    have ws : wrap64 (s : Int) = (s : Int) := by unfold wrap64; omega
    have HWS := hid (And.intro wg ws)
    have HPL := hid (And.intro hpl hl)
    have HIN := hid hin2
    have HGS := hid (And.intro hg hs)
    have HR := hid hR
    have HV := hid hv
    clear hl hps hin hin2 hfit hr0 hall hbase hrd hb16 hl37 hblen hdrop hBB hrr hg hs hT hP hR hB hv hpl
    go_enter Try.func5, Try.ntmps5
    go_wp2_with fail
    refine (HK.out w).mono ?_
    rintro e w1 ⟨rfl, k1⟩
    have K1 := hid k1
    clear k1 HK
    go_wp2_with fail
    refine (HPD.out w1 (HV.out.kept K1.out (fun _ _ _ h => h))).mono ?_
    rintro e w2 ⟨u2, rfl, k2, p2⟩
    have hp2 := p2.ps (Nat.le_refl _)
    obtain ⟨a2, c2, hu2, _⟩ := hp2.form
    rw [pensC_len] at hu2
    subst hu2
    have K2 := hid (K1.out.trans k2)
    have P2 := hid hp2
    clear k2 p2 hp2 HPD
    go_wp2_with fail
    refine (HBS.out w2 _ _ _ P2.out).mono ?_
    rintro e w3 ⟨u3, rfl, k3, b3⟩
    obtain ⟨a3, c3, rfl⟩ := b3.form
    have K3 := hid (K2.out.trans k3)
    have P3 := hid (P2.out.kept k3 (fun _ _ _ h => h))
    have B3 := hid (b3.bs (Nat.le_refl _)).all
    clear k3 b3 HBS
    go_wp2_with fail
    refine (HRR.out w3 _ _ _ B3.out).mono ?_
    rintro e w4 ⟨rfl, k4⟩
    have K4 := hid (show Kept None w (w4.alloc (.cells #[.int .i64 1, .int .i64 (s : Int), .int .i64 (g : Int), .int .i64 (l.length : Int), .string ⟨#[]⟩, .int .i64 0, .int .u64 0, .int .i64 0, .int .u64 0, .int .u64 0, .int .i64 0, .int .i64 0] 28)) from (K3.out.trans k4).alloc _)
    have ka : Kept None w4 (w4.alloc (.cells #[.int .i64 1, .int .i64 (s : Int), .int .i64 (g : Int), .int .i64 (l.length : Int), .string ⟨#[]⟩, .int .i64 0, .int .u64 0, .int .i64 0, .int .u64 0, .int .u64 0, .int .i64 0, .int .i64 0] 28)) := (Kept.refl _ _).alloc _
    have P4 := hid ((P3.out.kept k4 (fun _ _ _ h => h)).kept ka (fun _ _ _ h => h))
    obtain ⟨x5, sl5, p5⟩ := slice_from tBytes zBytes ((B3.out.kept k4 (fun _ _ _ h => h)).kept ka (fun _ _ _ h => h)) .i64 37 (by decide) (by have := HBL.out; omega)
    simp only [show (37 : Int).toNat = 37 from rfl] at sl5 p5
    rw [← List.map_drop, HDR.out] at p5
    have P5 := hid p5
    have d1 : decide ((BB.length : Int) < 37) = false := by have := HBL.out; simp; omega
    have d2 : decide (BB.length < 37) = false := by have := HBL.out; simp; omega
    have wg := HWS.out.1
    have ws := HWS.out.2
    have h37 : ((21 + 16 : Nat) : Int) = 37 := rfl
    clear k4 p5 ka HRR
    go_wp2_with fail
    obtain ⟨wL, hwL⟩ : ∃ wL, wL = w4.alloc (.cells #[.int .i64 1, .int .i64 (s : Int), .int .i64 (g : Int), .int .i64 (l.length : Int), .string ⟨#[]⟩, .int .i64 0, .int .u64 0, .int .i64 0, .int .u64 0, .int .u64 0, .int .i64 0, .int .i64 0] 28) := ⟨_, rfl⟩
    have q4 := K4.out
    have q5 := P4.out
    have q6 := P5.out
    rw [← hwL] at q4 q5 q6 ⊢
    have KL := hid q4
    have PL := hid q5
    have BL := hid (Bs.all q6)
    clear hwL q4 q5 q6 K4 P4 P5 sl5 d1 d2 h37
    simp only [wg, ws]
    clear wg ws
    go_loopg [8, 12] ps.length (fun kx s8 s12 wr => ∃ (i : Nat) (a8 : Option Addr) (n8 c8 : Nat), s8 = .slice a8 n8 c8 ∧ s12 = .int .i64 (i : Int) ∧ i ≤ ps.length ∧ ps.length - i ≤ kx ∧ Hid (Kept None wL wr) ∧ Hid (Bs wr 0 wr.heap.size (.slice a8 n8 c8) (restJ s ps i)))
    case atStart => exact ⟨0, x5, _, _, rfl, rfl, Nat.zero_le _, Nat.le_refl _, hid (Kept.refl _ _), BL⟩
    case round =>
    obtain ⟨i, a8, n8, c8, rfl, rfl, hi, hix, HS, HB⟩ := hrel
    by_cases hlt : i < ps.length
    · have hlt' : decide ((i : Int) < (ps.length : Int)) = true := by simpa using hlt
      have hlb : (i : Int) < (ps.length : Int) := Int.ofNat_lt.mpr hlt
      obtain ⟨b, o, rfl, hbs, hcell⟩ := (PL.out.kept HS.out (fun _ _ _ h => h)).pen (by omega)
      obtain ⟨_, rx, ct, _, _⟩ := hcell i hlt
      have hstep := restJ_step s ps i hlt
      have hx0 := HIN.out ps[i] (List.getElem_mem _)
      obtain ⟨x, hx⟩ : ∃ x, x = ps[i] := ⟨_, rfl⟩
      rw [← hx] at rx ct hstep hx0
      have hry := recP_yes (s := s) (i := i) (x := x) HGS.out.2 (by have := HPL.out; omega) hx0.2.1 hx0.2.2.1
      have hrd := read_putJ (r := recP s i x) (restJ s ps (i + 1)) hry ⟨by show x.u.r < _; rw [hx0.2.2.2.1]; decide, by show x.u.s < _; rw [hx0.2.2.2.2]; decide⟩
      rw [← hstep] at hrd
      obtain ⟨N, hN⟩ : ∃ N, N = 21 + (bodyJ (recP s i x)).length := ⟨_, rfl⟩
      have hln : (putJL (recP s i x)).length = N := by rw [putJ_len hry, hN]
      have hNl : N ≤ (restJ s ps i).length := by rw [hstep, List.length_append, hln]; omega
      have hdr : (restJ s ps i).drop N = restJ s ps (i + 1) := by rw [hstep]; exact List.drop_left' hln
      rw [← hN] at hrd
      have hrl := restJ_len s ps i
      obtain ⟨L, hL⟩ : ∃ L, L = restJ s ps i := ⟨_, rfl⟩
      rw [← hL] at hrd hdr hNl hrl
      have hb := HB.out
      rw [← hL] at hb
      obtain ⟨a8', c8', he, _⟩ := hb.shape
      obtain ⟨rfl, rfl, rfl⟩ : a8 = a8' ∧ n8 = L.length ∧ c8 = c8' := by simpa using he
      have hrr := HR.out _ _ _ L wr hb (by have := HPL.out; omega)
      simp only [hrd] at hrr
      unfold recP Rec.V Rec.C at hrr
      have HRR := hid hrr
      have HBW := hid hb
      have HDR2 := hid (And.intro hdr hNl)
      obtain ⟨I1, hI1⟩ : ∃ m : Int, m = (s : Int) + 1 + (i : Int) := ⟨_, rfl⟩
      rw [← hI1] at HRR
      have HQ := hid (show IntKind.i64.wrap (s : Int) = (s : Int) ∧ IntKind.i64.wrap ((s : Int) + 1) = (s : Int) + 1 ∧ IntKind.i64.wrap ((s : Int) + 1 + (i : Int)) = I1 from by
        have h1 := HGS.out.2
        have h2 := HPL.out
        rw [IntKind.wrap_i64, IntKind.wrap_i64, IntKind.wrap_i64]
        omega)
      have hbs' := hid hbs
      clear hcell hx0 hx hry hrd hln hNl hdr hrl hL hb he hrr hstep hN hI1 hbs HB
      go_wp2_with fail
      refine HRR.out.mono ?_
      rintro e w5 ⟨rfl, k5⟩
      go_upto_region 15 with fail
      have bR := Blk.new w5 #[.int .i64 2, .int .i64 I1, .int .i64 0, .int .i64 0, .string x.u.n, .int .i64 x.u.v, .int .u64 (x.u.k : Int), .int .i64 x.u.c, .int .u64 (x.u.r : Int), .int .u64 (x.u.s : Int), .int .i64 x.tick, .int .i64 0] 28
      have k6 : Kept None wr (w5.alloc (.cells #[.int .i64 2, .int .i64 I1, .int .i64 0, .int .i64 0, .string x.u.n, .int .i64 x.u.v, .int .u64 (x.u.k : Int), .int .i64 x.u.c, .int .u64 (x.u.r : Int), .int .u64 (x.u.s : Int), .int .i64 x.tick, .int .i64 0] 28)) := k5.alloc _
      obtain ⟨w6, hw6⟩ : ∃ w6, w6 = w5.alloc (.cells #[.int .i64 2, .int .i64 I1, .int .i64 0, .int .i64 0, .string x.u.n, .int .i64 x.u.v, .int .u64 (x.u.k : Int), .int .i64 x.u.c, .int .u64 (x.u.r : Int), .int .u64 (x.u.s : Int), .int .i64 x.tick, .int .i64 0] 28) := ⟨_, rfl⟩
      rw [← hw6] at bR k6 ⊢
      have hrR : w6.rangeAt w5.heap.size 4 (reqC x.u) := fun j v hj => by
        rw [bR.cell]
        match j, hj with
        | 0, hj => exact hj
        | 1, hj => exact hj
        | 2, hj => exact hj
        | 3, hj => exact hj
        | 4, hj => exact hj
        | 5, hj => exact hj
        | j + 6, hj => simp at hj
      have HC := hid (fun W (hW : Kept None w6 W) => show W.cell? ⟨w5.heap.size, 0, none⟩ = some (.int .i64 2) ∧ W.cell? ⟨w5.heap.size, 1, none⟩ = some (.int .i64 I1) ∧ W.cell? ⟨w5.heap.size, 10, none⟩ = some (.int .i64 x.tick) ∧ W.cell? ⟨b, o + i * 9 + 6, none⟩ = some (.int .i64 x.tick) from
        ⟨(bR.kept hW (fun h => h)).cell 0, (bR.kept hW (fun h => h)).cell 1, (bR.kept hW (fun h => h)).cell 10, ((k6.trans hW).cell (p := ⟨b, o + i * 9 + 6, none⟩) hbs'.out (fun h => h)).trans ct⟩)
      have HR1 := hid (fun W (hW : Kept None w6 W) => rangeAt_kept hrR hW)
      have HR2 := hid (fun W (hW : Kept None w6 W) => rangeAt_kept rx (k6.trans hW))
      have hneq := fun W => Jq.neqReq x.u x.u W
      rw [reqEq_self] at hneq
      have HNQ := hid (show ∀ W, (binOp .neq 26 (.agg (reqC x.u).toArray) (.agg (reqC x.u).toArray)).run Try.prog W = .ok (.bool false) W from hneq)
      have HD := hid (show decide ((L.length : Int) < (N : Int)) = false ∧ decide (L.length < N) = false from by have := HDR2.out.2; constructor <;> (simp; omega))
      have K6 := hid k6
      clear hw6 bR k6 k5 hrR rx ct hneq HRR
      refine wp_region_kn w6 [] Go.Pm.Steady.nil (Kept.refl _ _) (by kernel_rfl) (by kernel_rfl) (by kernel_rfl) ?_
      iterate 43 (refine wpPar_pure rfl (by kernel_rfl) _ (fun W hW => by
          obtain ⟨c0, c1, c2, c3⟩ := HC.out W hW
          have hnq := HNQ.out
          obtain ⟨d1, d2⟩ := HD.out
          obtain ⟨q1, q2, q3⟩ := HQ.out
          first | exact exec_load_at rfl rfl (HR1.out W hW) Up.aUpd | exact exec_load_at rfl rfl (HR2.out W hW) Up.aUpd | (go_simp; exact rfl)) ?_; simp only [Act.put, List.setIfInBounds_toArray, List.set_cons_zero, List.set_cons_succ])
      refine wpPar_nil (fun w7 hW hG => ?_)
      have K7 := hid (K6.out.trans hW)
      have B7 := hid (HBW.out.kept K7.out (fun _ _ _ h => h))
      clear hG hW
      obtain ⟨x8, sl8, p8⟩ := slice_from tBytes zBytes B7.out .i64 (N : Int) (Int.natCast_nonneg _) (by have := HDR2.out.2; omega)
      simp only [Int.toNat_natCast] at sl8 p8
      rw [← List.map_drop, HDR2.out.1] at p8
      have HB8 : Hid (Bs w7 0 w7.heap.size (.slice x8 (L.length - N) (c8 - N)) (restJ s ps (i + 1))) := hid (Bs.all p8)
      clear p8
      go_wp2
      go_roundg (ps.length - (i + 1))
      case measure => omega
      case rel => exact ⟨i + 1, x8, _, _, rfl, by rw [show wrap64 ((i : Int) + 1) = ((i + 1 : Nat) : Int) by have := HPL.out; unfold wrap64; omega], hlt, Nat.le_refl _, hid (HS.out.trans K7.out), HB8⟩
    · have hlt' : decide ((i : Int) < (ps.length : Int)) = false := by simpa using hlt
      obtain rfl : i = ps.length := by omega
      have hb := HB.out
      rw [restJ_end] at hb
      obtain ⟨a8', c8', he, _⟩ := hb.shape
      obtain ⟨rfl, rfl, rfl⟩ : a8 = a8' ∧ n8 = 0 ∧ c8 = c8' := by simpa using he
      have KE := hid (KL.out.trans HS.out)
      clear hlt hi hix hb he HB
      go_wp2
      go_ret
      exact ⟨rfl, KE.out⟩
  · have dl : decide ((32 : Int) < (l.length : Int)) = true := by simp; omega
    have dl2 : decide (32 < l.length) = true := by simp; omega
    clear hl hv hg hs hT hP hR hB
    go_enter Try.func5, Try.ntmps5
    go_wp2_with fail
    refine (HK.out w).mono ?_
    rintro e w1 ⟨rfl, k1⟩
    go_wp2
    go_ret
    exact ⟨rfl, k1⟩
end K14
end Go.Proofs.Ytpbkdeljhehkdaa
namespace Go.Proofs.Ytpbkdeljhehkdaa
open Go.ChangeShapes Go.WideShapes Go.ChangeAt Go.RowKit Go.Pm

theorem laidOut : laidOutB Try.prog = true := by kernel_rfl
theorem ownKnobs : ownKnob Try.prog.godebug = none := by kernel_rfl
theorem rBool : Try.prog.underlying 4 = some .bool := by kernel_rfl
theorem rU16 : Try.prog.underlying 50 = some (.int .u16) := by kernel_rfl
theorem cByte : Try.prog.cellsOf 5 = 1 := by kernel_rfl

set_option maxRecDepth 100000 in
theorem journalChain_lifted (os : Os) (started : os.Started) (H : Type) (enc : TypeId × Value → H) :
    ReturnsInHanded {} Try.checked os 5 .any (Rows.journalChainSpec.pre6 enc Try.prog Try.f5 Rows.journalChainRow.domain false) (Rows.journalChainSpec.post enc Try.prog Try.f5 false true false false) := by
  refine returnsInHanded_of_change (C := Try.checked) ownKnobs started (by kernel_rfl) Try.func5
    (ChangeSpec.witness6 (enc := enc) (C := Try.checked) false ⟨#[], #[.slice none 0 0, .int .u16 0, .int .u16 0], []⟩ 8 (by kernel_rfl) (by kernel_rfl) (by kernel_rfl) (by kernel_rfl)) ?_
  intro W base args ds gs before hval0 hW _ _
  have hval : ∀ (j : Nat) t v, Try.f5.params[j]? = some t → args[j]? = some v → Value.okWide Try.prog W .any base t v := hval0
  have hlt : ∀ x ∈ before, x.block < W.heap.size := fun x hx => by simpa using hW.lt x hx
  have hW' := hW
  obtain ⟨p, q, hA0, hV, rfl, hfz, hnd⟩ := hW
  obtain ⟨rfl, rfl⟩ := trodVars_none hV
  have hA : DataW.TrodAll enc Try.prog W 0 (fun _ => true) true Try.f5.params.toList args.toList ds p := hA0
  rw [Try.params5] at hA hval
  obtain ⟨v0, v1, v2, d0, d1, d2, p0, p1, p2, rfl, rfl, rfl, h0, h1, h2⟩ := trodAll_three hA
  obtain ⟨l, hl⟩ := openBs tBytes' tByte cByte (hval 0 29 v0 rfl rfl) h0 (fun x hx => hlt x (by simp [hx]))
  obtain ⟨gen, rfl, b1⟩ := openNat_u16 rU16 (hval 1 50 v1 rfl rfl) h1
  obtain ⟨seq, rfl, b2⟩ := openNat_u16 rU16 (hval 2 50 v2 rfl rfl) h2
  refine (K14.chain Jr.rightC Jr.put Jr.read Jr.base gen seq v0 _ _ l W hl b1 b2).mono fun e W' ⟨he, hk⟩ => ?_
  subst he
  exact ⟨_, rfl, law_post (P := Try.prog) (f := Try.f5) rfl rfl rBool laidOut (by kernel_rfl) hW' rfl rfl rfl (hk.below (fun _ _ h => h))⟩

theorem journalChain_holds : Rows.JournalChainSaid :=
  OpenClaim.holds_of_wide 5 Try.f5 rfl rfl rfl rfl rfl rfl rfl ⟨rfl, rfl, rfl, rfl, rfl⟩ rfl rfl rfl rfl rfl (by kernel_rfl) Try.func5 (by kernel_rfl)
    (of_decide_eq_true (by kernel_rfl)) (by unfold Func.isWrapper; first | (rw [if_pos (by decide +kernel)]; kernel_rfl) | (rw [if_neg (by decide +kernel)]; exact ⟨rfl, rfl⟩))
    (fun os started H enc _ => journalChain_lifted os started H enc)
end Go.Proofs.Ytpbkdeljhehkdaa
