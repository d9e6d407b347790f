/- Texts joined: RLatest16, LowSponge, LowRefSponge, RefIdx6, RefLess6, Item6, RefItem6, RefRt6. -/
import Derived.Test.YtglibdggoobocaaPk2
import Derived.Deep.QuietTactic
import Derived.BigQuiet
import Derived.Deep.LoopGhost
import Derived.Deep.DeepCutAuto
import Derived.Test.YtglibdggoobocaaPk1
import Derived.StillTailTactics
import Derived.Outline
namespace Go.Proofs.Ytglibdggoobocaa
open Go.RowKit Go.Pm
namespace R16
theorem aKno : AggTy Try.prog 31 4 := Sg.AggTy.of (by kernel_rfl) (by kernel_rfl)
theorem res_ct {P : Program} {fn : Func} {p q : Tmp} {ty : TypeId} (h : fn.results = #[.cell p ty, .tmp q]) (tmps : Array Value) {w : World} {g : Nat} {t : TypeId} {cs : Array Value} (hp : tmps.getD p undef = .pointer (some ⟨g, 0, none⟩)) {x : Value} (hq : tmps.getD q undef = x) (hb : Blk w g cs t)
    (hT : AggTy P ty cs.size) : (results fn tmps).run P w = .ok (.tuple #[.agg cs, x]) w := by
  obtain ⟨d, hu, hd⟩ := hT.ag
  have hp' : tmps[p]?.getD undef = .pointer (some ⟨g, 0, none⟩) := by simpa using hp
  have hq' : tmps[q]?.getD undef = x := by simpa using hq
  have hl := run_loadVar_row w g t ty cs (0, 0) d hb hu (by cases d <;> first | rfl | exact hd) hT.size
  simp [results, h, hp', hq', asAddr, hl]
theorem kno_all (x : Kno) : (knoC x).toArray.all (·.oneCell') = true := all_oneCell_toArray (knoC_one x)
set_option maxRecDepth 100000 in
set_option maxHeartbeats 8000000 in
/-- Latest. -/
theorem latest (v : Value) (lo hi : Nat) (l : List Kno) (nm : ByteArray) (w : World) (hv : Ps 4 w lo hi v (knosC l)) (hlen : l.length ≤ 1099511627776) :
    Calls Try.prog 12 #[v, .string nm] w fun e w' => e = .returned (.tuple #[(latF l nm).1.V, .bool (latF l nm).2]) ∧ Kept None w w' := by
  obtain ⟨a, cap, rfl, g1, g2, g3⟩ := hv.form
  rw [knosC_len] at g1 hv ⊢
  have hall := latF_all l nm
  obtain ⟨RS, hRS⟩ : ∃ r, r = latF l nm := ⟨_, rfl⟩
  rw [← hRS] at hall ⊢
  obtain ⟨n, hn⟩ : ∃ n, n = l.length := ⟨_, rfl⟩
  rw [← hn] at g1 hlen hv hall ⊢
  have k0 : Kept None w ((w.alloc (.cells #[.string ⟨#[]⟩, .int .i64 0, .int .u64 0, .int .i64 0] 31)).alloc (.cells #[.string ⟨#[]⟩, .int .i64 0, .int .u64 0, .int .i64 0] 31)) := ((Kept.refl _ _).alloc _).alloc _
  have y0 : Blk ((w.alloc (.cells #[.string ⟨#[]⟩, .int .i64 0, .int .u64 0, .int .i64 0] 31)).alloc (.cells #[.string ⟨#[]⟩, .int .i64 0, .int .u64 0, .int .i64 0] 31)) (w.heap.size + 1) (knoC Kno.none).toArray 31 := Blk.new2 w _ _ _
  have z0 : Blk ((w.alloc (.cells #[.string ⟨#[]⟩, .int .i64 0, .int .u64 0, .int .i64 0] 31)).alloc (.cells #[.string ⟨#[]⟩, .int .i64 0, .int .u64 0, .int .i64 0] 31)) w.heap.size #[.string ⟨#[]⟩, .int .i64 0, .int .u64 0, .int .i64 0] 31 := (Blk.new w _ _).alloc _
  have HV := hid hv
  have HN := hid (And.intro hn hlen)
  have HA := hid (And.intro hall hRS)
  clear hv hn hall hRS g3
  have K0 := hid k0
  have Y0 := hid y0
  have Z0 := hid z0
  clear k0 y0 z0
  go_enter Try.func12, Try.ntmps12
  go_wp2
  go_loopg [7, 8] n (fun kx s7 s8 wr => ∃ (k : Nat) (X : Kno) (b : Bool), s8 = .int .i64 k ∧ s7 = .bool b ∧ k ≤ n ∧ n - k ≤ kx ∧ Hid (Kept None w wr) ∧ Hid (Blk wr (w.heap.size + 1) (knoC X).toArray 31) ∧ Hid (Blk wr w.heap.size #[.string ⟨#[]⟩, .int .i64 0, .int .u64 0, .int .i64 0] 31) ∧ Hid ((l.take k).foldl (latS nm) (Kno.none, false) = (X, b)))
  case atStart => exact ⟨0, Kno.none, false, rfl, rfl, Nat.zero_le _, Nat.le_refl _, K0, Y0, Z0, hid rfl⟩
  case round =>
    obtain ⟨k, X, b, rfl, rfl, hk, hkx, HK, HY, HZ, HT⟩ := hrel
    by_cases hlt : k < n
    · have hz : (k : Int) < (n : Int) := by omega
      have wk : IntKind.i64.wrap ((k : Int) + 1) = (k : Int) + 1 := by rw [IntKind.wrap_i64]; have := HN.out.2; omega
      have kl : k < l.length := by have := HN.out.1; omega
      obtain ⟨bb, o, q1, hc⟩ := (HV.out.kept HK.out (fun _ _ _ h => h)).kno (by omega)
      obtain rfl := q1
      obtain ⟨c0, c1, _, _, rx, _⟩ := hc k kl
      have hS := latF_take l nm k kl
      rw [HT.out] at hS
      have HS := hid hS
      have HR := hid rx
      obtain ⟨E, hE⟩ : ∃ E, E = eqN l[k].e.n nm := ⟨_, rfl⟩
      obtain ⟨G, hG⟩ : ∃ G, G = decide (X.e.v < l[k].e.v) := ⟨_, rfl⟩
      obtain ⟨x0, hx0⟩ : ∃ x, x = l[k].e.n := ⟨_, rfl⟩
      obtain ⟨x1, hx1⟩ : ∃ x, x = l[k].e.v := ⟨_, rfl⟩
      obtain ⟨t1, ht1⟩ : ∃ x, x = X.e.v := ⟨_, rfl⟩
      rw [← hx0] at c0
      rw [← hx1] at c1
      have hE' : (x0.toList == nm.toList) = E := by rw [hx0, hE]; rfl
      have hG' : decide (t1 < x1) = G := by rw [ht1, hx1, hG]
      have d1 : wr.cell? ⟨w.heap.size + 1, 1, none⟩ = some (.int .i64 t1) := by rw [ht1]; exact HY.out.cell 1
      have HX := hid (And.intro hE.symm (And.intro hG.symm True.intro))
      clear rx hc hS hE hG hx0 hx1 ht1
      cases E with
      | false =>
        go_wp2_with fail
        go_quiet (fail)
        obtain ⟨w6, hw6⟩ : ∃ w6, w6 = wr.drewN nq := ⟨_, rfl⟩
        have hW : Kept None wr w6 := hw6 ▸ Kept.toDrewN _ _ _
        rw [← hw6]
        clear hw6 c0 c1 d1
        have HW := hid (HK.out.trans hW)
        have y6 := HY.out.kept hW (fun h => h)
        have z6 := HZ.out.kept hW (fun h => h)
        have HY6 := hid y6
        have HZ6 := hid z6
        have HT2 : Hid ((l.take (k + 1)).foldl (latS nm) (Kno.none, false) = (X, b)) := hid (by rw [HS.out, latS, if_neg (by rw [HX.out.1]; simp)])
        clear HK hW y6 z6
        go_wp2
        go_roundg (n - (k + 1))
        case measure => omega
        case rel => exact ⟨k + 1, X, b, by go_num, rfl, by omega, Nat.le_refl _, HW, HY6, HZ6, HT2⟩
      | true =>
        cases b with
        | false =>
          go_wp2_with fail
          go_quiet (fail)
          obtain ⟨w6, hw6⟩ : ∃ w6, w6 = wr.drewN nq := ⟨_, rfl⟩
          have hW : Kept None wr w6 := hw6 ▸ Kept.toDrewN _ _ _
          rw [← hw6]
          clear hw6 c0 c1 d1
          have HW := hid (HK.out.trans hW)
          have y6 := HY.out.kept hW (fun h => h)
          have z6 := HZ.out.kept hW (fun h => h)
          have rx := rangeAt_kept HR.out hW
          have HT2 : Hid ((l.take (k + 1)).foldl (latS nm) (Kno.none, false) = (l[k]'(by have := HN.out; omega), true)) := hid (by rw [HS.out, latS, if_pos (by rw [HX.out.1, HX.out.2.1]; rfl)])
          clear HK
          go_wp2_with (first | (refine wpList_load_at (.refl _) _ _ rfl rfl rx aKno ?_) | (refine wpList_store_blk (.refl _) _ _ _ rfl rfl rfl y6 aKno rfl (kno_all _) ?_; intro w7 y7 k7) | fail)
          have HW7 : Hid (Kept None w w7) := hid (HW.out.then k7 (fun i hi (h : i = w.heap.size + 1) => by omega))
          have HY7 := hid y7
          have HZ7 := hid (z6.kept k7 (fun (h : w.heap.size = w.heap.size + 1) => by omega))
          clear y6 z6 y7 k7 HW hW rx
          go_roundg (n - (k + 1))
          case measure => omega
          case rel => exact ⟨k + 1, l[k]'(by have := HN.out; omega), true, by go_num, rfl, by omega, Nat.le_refl _, HW7, HY7, HZ7, HT2⟩
        | true =>
          cases G with
          | true =>
            go_wp2_with fail
            go_quiet (fail)
            obtain ⟨w6, hw6⟩ : ∃ w6, w6 = wr.drewN nq := ⟨_, rfl⟩
            have hW : Kept None wr w6 := hw6 ▸ Kept.toDrewN _ _ _
            rw [← hw6]
            clear hw6 c0 c1 d1
            have HW := hid (HK.out.trans hW)
            have y6 := HY.out.kept hW (fun h => h)
            have z6 := HZ.out.kept hW (fun h => h)
            have rx := rangeAt_kept HR.out hW
            have HT2 : Hid ((l.take (k + 1)).foldl (latS nm) (Kno.none, false) = (l[k]'(by have := HN.out; omega), true)) := hid (by rw [HS.out, latS, if_pos (by rw [HX.out.1, HX.out.2.1]; rfl)])
            clear HK
            go_wp2_with (first | (refine wpList_load_at (.refl _) _ _ rfl rfl rx aKno ?_) | (refine wpList_store_blk (.refl _) _ _ _ rfl rfl rfl y6 aKno rfl (kno_all _) ?_; intro w7 y7 k7) | fail)
            have HW7 : Hid (Kept None w w7) := hid (HW.out.then k7 (fun i hi (h : i = w.heap.size + 1) => by omega))
            have HY7 := hid y7
            have HZ7 := hid (z6.kept k7 (fun (h : w.heap.size = w.heap.size + 1) => by omega))
            clear y6 z6 y7 k7 HW hW rx
            go_roundg (n - (k + 1))
            case measure => omega
            case rel => exact ⟨k + 1, l[k]'(by have := HN.out; omega), true, by go_num, rfl, by omega, Nat.le_refl _, HW7, HY7, HZ7, HT2⟩
          | false =>
            go_wp2_with fail
            go_quiet (fail)
            obtain ⟨w6, hw6⟩ : ∃ w6, w6 = wr.drewN nq := ⟨_, rfl⟩
            have hW : Kept None wr w6 := hw6 ▸ Kept.toDrewN _ _ _
            rw [← hw6]
            clear hw6 c0 c1 d1
            have HW := hid (HK.out.trans hW)
            have y6 := HY.out.kept hW (fun h => h)
            have z6 := HZ.out.kept hW (fun h => h)
            have HY6 := hid y6
            have HZ6 := hid z6
            have HT2 : Hid ((l.take (k + 1)).foldl (latS nm) (Kno.none, false) = (X, true)) := hid (by rw [HS.out, latS, if_neg (by rw [HX.out.1, HX.out.2.1]; simp)])
            clear HK hW y6 z6
            go_wp2
            go_roundg (n - (k + 1))
            case measure => omega
            case rel => exact ⟨k + 1, X, true, by go_num, rfl, by omega, Nat.le_refl _, HW, HY6, HZ6, HT2⟩
    · have hz : ¬ (k : Int) < (n : Int) := by omega
      obtain rfl : k = n := by omega
      have hf : RS = (X, b) := by
        have h1 := HT.out
        rw [HA.out.1] at h1
        exact h1
      have HF := hid hf
      have y6 := HY.out
      have z6 := HZ.out
      clear HT hf
      go_wp2_with (first | (refine wpList_load_blk rfl _ _ rfl rfl y6 aKno ?_) | (refine wpList_store_blk rfl _ _ _ rfl rfl rfl z6 aKno rfl (kno_all _) ?_; intro w7 z7 k7) | fail)
      exact bodyPost_ret (v := .tuple #[X.V, .bool b]) (res_ct rfl _ rfl rfl z7 aKno) rfl ⟨by rw [HF.out], HK.out.then k7 (fun i hi (h : i = w.heap.size) => by omega)⟩
end R16
end Go.Proofs.Ytglibdggoobocaa
/- Package sponge: each function by its contract, over the plain functions of Spec2. So far: turn, spread, Perm. -/
namespace Go.Proofs.Ytglibdggoobocaa
open Go.RowKit Go.Pm
namespace Sp

set_option maxHeartbeats 400000 in
theorem turn (x : U64) (n : Nat) (w : World) (h0 : 0 < n) (h1 : n < 64) :
    Calls Try.prog 101 #[.int .u64 (U x), .int .i64 n] w fun e w' => e = .returned (.int .u64 (U (rot x n))) ∧ ∃ m, w' = w.drewN m := by
  have g0 := U_ge x
  have g1 := U_lt x
  go_enter Try.func101, Try.ntmps101
  go_wp2
  go_quiet (fail)
  go_wp2
  go_ret
  have e1 := U_shr x n
  have e2 := U_shl x (64 - n)
  push_cast at e1 e2
  refine ⟨?_, nq, rfl⟩
  show Ending.returned (.int .u64 (bits .or .u64 (U x / 2 ^ n) (IntKind.u64.wrap (U x * 2 ^ (64 - n))))) = _
  rw [e1, e2, U_or]
  rfl

set_option maxHeartbeats 400000 in
theorem spread (x : U64) (n m : Nat) (N M : Int) (hN : N = n) (hM : M = m) (w : World) (h0 : 0 < n) (h1 : n < 64) (h2 : 0 < m) (h3 : m < 64) :
    Calls Try.prog 98 #[.int .u64 (U x), .int .i64 N, .int .i64 M] w fun e w' => e = .returned (.int .u64 (U (lin x n m))) ∧ Kept None w w' := by
  subst hN hM
  have g0 := U_ge x
  have g1 := U_lt x
  go_enter Try.func98, Try.ntmps98
  go_wp2_with fail
  refine (turn x n _ h0 h1).mono ?_
  rintro e1 w1 ⟨rfl, m1, hw1⟩
  have k1 : Kept None w w1 := by rw [hw1]; exact Kept.toDrewN _ _ _
  clear hw1
  go_wp2_with fail
  refine (turn x m _ h2 h3).mono ?_
  rintro e2 w2 ⟨rfl, m2, hw2⟩
  have k2 : Kept None w w2 := by rw [hw2]; exact k1.drewN _
  clear hw2
  go_wp2
  go_ret
  simp only [U_xor]
  exact ⟨rfl, k2⟩

/-- A state, as the program has it. -/
abbrev sv (s : S5) : Value := .agg #[.int .u64 (U s.a), .int .u64 (U s.b), .int .u64 (U s.c), .int .u64 (U s.d), .int .u64 (U s.e)]
set_option maxRecDepth 100000 in
set_option maxHeartbeats 1000000 in
theorem perm (s : S5) (w : World) :
    Calls Try.prog 91 #[sv s] w fun e w' => e = .returned (sv s.perm) ∧ Kept None w w' := by
  generalize hs0 : s = s0
  have HS := hid hs0
  clear hs0
  obtain ⟨a, b, c, d, e⟩ := s
  go_enter Try.func91, Try.ntmps91
  go_wp2
  go_quiet (fail)
  go_wp2
  go_loopw [3, 4, 5, 6, 7, 8] (fun v3 v4 v5 v6 v7 v8 wr => ∃ (k : Nat) (t : S5) (n : U64), k ≤ 12 ∧ U n = 240 - 15 * k ∧ t = (consts.take k).foldl S5.round s0 ∧ v3 = .int .u64 (U t.a) ∧ v4 = .int .u64 (U t.b) ∧ v5 = .int .u64 (U t.c) ∧ v6 = .int .u64 (U t.d) ∧ v7 = .int .u64 (U t.e) ∧
      v8 = .int .u64 (U n) ∧ Kept None w wr ∧ Blk wr (w.heap.size + 1) #[.int .u64 0, .int .u64 0, .int .u64 0, .int .u64 0, .int .u64 0] 117) (fun _ _ _ _ _ v8 _ => (intOf v8).toNat)
  case atStart =>
    refine ⟨0, _, 240, by omega, rfl, rfl, ?_, ?_, ?_, ?_, ?_, rfl, ((Kept.refl _ _).alloc _).alloc _ |>.drewN _, (Blk.new2 _ _ _ _).drewN _⟩
    all_goals rw [← HS.out]; rfl
  case round =>
    obtain ⟨k, t, n, hk, hn, ht, rfl, rfl, rfl, rfl, rfl, rfl, hkk, hb⟩ := hrel
    by_cases hlt : k < 12
    · have hn1 : 75 ≤ U n := by omega
      have HM := hid (U_next n hn1)
      have HN := hid hn
      have HT := hid ht
      have HB := hid hb
      clear hn ht hb HS
      go_wp2_with fail
      simp only [U_xor, U_and, U_not']
      refine (spread _ 19 28 _ _ rfl rfl _ (by decide) (by decide) (by decide) (by decide)).mono ?_
      rintro e1 w1 ⟨rfl, k1⟩
      go_wp2_with fail
      refine (spread _ 61 39 _ _ rfl rfl _ (by decide) (by decide) (by decide) (by decide)).mono ?_
      rintro e2 w2 ⟨rfl, k2⟩
      go_wp2_with fail
      refine (spread _ 1 6 _ _ rfl rfl _ (by decide) (by decide) (by decide) (by decide)).mono ?_
      rintro e3 w3 ⟨rfl, k3⟩
      go_wp2_with fail
      refine (spread _ 10 17 _ _ rfl rfl _ (by decide) (by decide) (by decide) (by decide)).mono ?_
      rintro e4 w4 ⟨rfl, k4⟩
      go_wp2_with fail
      refine (spread _ 7 41 _ _ rfl rfl _ (by decide) (by decide) (by decide) (by decide)).mono ?_
      rintro e5 w5 ⟨rfl, k5⟩
      have kk := (((k1.trans k2).trans k3).trans k4).trans k5
      clear k1 k2 k3 k4 k5
      go_wp2
      go_roundw
      case rel =>
        obtain ⟨m, hm⟩ := HM.out
        refine ⟨k + 1, t.round n, m, by omega, by have := HN.out; omega, ?_, rfl, rfl, rfl, rfl, rfl, ?_, hkk.then kk (fun _ _ h => h), HB.out.kept kk (fun h => h)⟩
        · rw [HT.out]; exact (consts_step k hlt n HN.out s0).symm
        · rw [hm, wrap_next n hn1]
      case measure => simp only [intOf]; rw [wrap_next n hn1]; omega
    · have h12 : k = 12 := by omega
      have ht' : t = s0.perm := by rw [ht, h12]; rfl
      have hn1 : U n < 75 := by omega
      have HP := hid ht'
      have c2 := fun i => hb.cell i
      have hf : ∀ i, wr.frozen? ⟨w.heap.size + 1, i, none⟩ = false := fun i => hb.free i
      clear ht hn h12 ht'
      go_wp2
      have hb2 := ((((hb.set 0 (.int .u64 (U t.a))).set 1 (.int .u64 (U t.b))).set 2 (.int .u64 (U t.c))).set 3 (.int .u64 (U t.d))).set 4 (.int .u64 (U t.e))
      have hk2 : Kept None w (((((wr.setCell ⟨w.heap.size + 1, 0, none⟩ (.int .u64 (U t.a))).setCell ⟨w.heap.size + 1, 1, none⟩ (.int .u64 (U t.b))).setCell ⟨w.heap.size + 1, 2, none⟩ (.int .u64 (U t.c))).setCell ⟨w.heap.size + 1, 3, none⟩ (.int .u64 (U t.d))).setCell ⟨w.heap.size + 1, 4, none⟩ (.int .u64 (U t.e))) := by
        exact ((((hkk.setNew (by omega) _ _).setNew (by omega) _ _).setNew (by omega) _ _).setNew (by omega) _ _).setNew (by omega) _ _
      clear hb hkk c2 hf
      generalize (((((wr.setCell ⟨w.heap.size + 1, 0, none⟩ (.int .u64 (U t.a))).setCell ⟨w.heap.size + 1, 1, none⟩ (.int .u64 (U t.b))).setCell ⟨w.heap.size + 1, 2, none⟩ (.int .u64 (U t.c))).setCell ⟨w.heap.size + 1, 3, none⟩ (.int .u64 (U t.d))).setCell ⟨w.heap.size + 1, 4, none⟩ (.int .u64 (U t.e))) = w2 at *
      have c0 := hb2.cell 0
      have c1 := hb2.cell 1
      have c2 := hb2.cell 2
      have c3 := hb2.cell 3
      have c4 := hb2.cell 4
      simp at c0 c1 c2 c3 c4
      rw [← HP.out]
      exact bodyPost_ret (v := sv t) (by simp [results, Try.results91, go_sem, c0, c1, c2, c3, c4]) rfl ⟨rfl, hk2⟩

set_option maxHeartbeats 400000 in
/-- sponge.word. -/
theorem word (v : Value) (lo hi : Nat) (l : List UInt8) (w : World) (hv : Bs w lo hi v l) (hl : l.length ≤ 8) :
    Calls Try.prog 92 #[v] w fun en w' => en = .returned (.int .u64 (leV l)) ∧ w = w' := by
  obtain ⟨a, cap, rfl, g1, g2, g3⟩ := hv.shape
  go_enter Try.func92, Try.ntmps92
  go_wp2
  go_loop [3, 8] (fun x i => ∃ k : Nat, k ≤ l.length ∧ i = .int .i64 k ∧ x = .int .u64 (leV (l.take k))) (fun _ i => l.length - (intOf i).toNat)
  case atStart => exact ⟨0, Nat.zero_le _, rfl, by rw [leV_zero]⟩
  case round =>
    obtain ⟨k, hk, rfl, rfl⟩ := hrel
    by_cases hlt : k < l.length
    · obtain ⟨b, o, rfl, q1, q2, q3, hc⟩ := Bs.ne hv (by omega)
      have hc' := hc k hlt
      have c0 := bAt_ge l k
      have c1 := bAt_lt l k
      have HS := hid (word_step l k (by omega))
      clear hc hv g3
      generalize bAt l k = c at *
      go_wp2
      go_round
      case rel => exact ⟨k + 1, by omega, by go_num, by rw [HS.out]⟩
      case measure => simp [intOf]; omega
    · have h1 : l.take k = l := List.take_of_length_le (by omega)
      rw [h1]
      clear h1 hv g3
      go_wp2
      go_ret
      exact ⟨rfl, rfl⟩
end Sp
end Go.Proofs.Ytglibdggoobocaa

/- sponge.squeeze, by its contract. -/
namespace Go.Proofs.Ytglibdggoobocaa
open Go.RowKit Go.Pm
namespace Sp

theorem aS : AggTy Try.prog 117 5 := ⟨⟨.array 5 27, by kernel_rfl, rfl⟩, by kernel_rfl⟩
theorem aH : AggTy Try.prog 52 32 := ⟨⟨.array 32 5, by kernel_rfl, rfl⟩, by kernel_rfl⟩
/-- A state's cells. -/
abbrev sc (s : S5) : Array Value := #[.int .u64 (U s.a), .int .u64 (U s.b), .int .u64 (U s.c), .int .u64 (U s.d), .int .u64 (U s.e)]
theorem sc_all (s : S5) : (sc s).all (·.oneCell') = true := by simp [Value.oneCell']
/-- What has been squeezed so far, noughts behind it. -/
def sofar (s : S5) (k : Nat) : List Value := (eights s k).map u8v ++ List.replicate (32 - 8 * k) (.int .u8 0)

theorem sofar_zero (s : S5) : (sofar s 0).toArray = #[.int .u8 0, .int .u8 0, .int .u8 0, .int .u8 0, .int .u8 0, .int .u8 0, .int .u8 0, .int .u8 0, .int .u8 0, .int .u8 0, .int .u8 0, .int .u8 0, .int .u8 0, .int .u8 0, .int .u8 0, .int .u8 0, .int .u8 0, .int .u8 0, .int .u8 0, .int .u8 0, .int .u8 0, .int .u8 0, .int .u8 0, .int .u8 0, .int .u8 0, .int .u8 0, .int .u8 0, .int .u8 0, .int .u8 0, .int .u8 0, .int .u8 0, .int .u8 0] := rfl
theorem sofar_four (s : S5) : sofar s 4 = (eights s 4).map u8v := by unfold sofar; simp
theorem sofar_len (s : S5) (k : Nat) (hk : k ≤ 4) : (sofar s k).length = 32 := by unfold sofar; simp [eights_len]; omega
theorem zeros : ∀ n : Nat, (List.replicate n (Value.int .u8 0)).toArray = Array.replicate n (.int .u8 0) := fun n => by simp

theorem tHash : Try.prog.underlying 52 = some (.array (Try.prog.arrayLen 52) (Try.prog.elem 52)) := by kernel_rfl
theorem lHash : Try.prog.arrayLen 52 = 32 := by kernel_rfl
theorem zHash : ∀ W, (sizeOf (Try.prog.elem 52)).run Try.prog W = .ok 1 W := fun _ => by kernel_rfl
theorem cutHash (h k : Nat) (hk : k < 4) (W : World) : (Instr.sliceAt 52 (.pointer (some ⟨h, 0, none⟩)) (some (.int .i64 (8 * (k : Int)))) none none).run Try.prog W = .ok (.slice (some ⟨h, 8 * k, none⟩) (32 - 8 * k) (32 - 8 * k)) W := by
  rw [run_sliceAt_array_l W 52 ⟨h, 0, none⟩ tHash .i64 (8 * (k : Int)) (by omega) (by rw [lHash]; omega), zHash, lHash]
  have e : ((8 : Int) * (k : Int)).toNat = 8 * k := by omega
  simp only [Result.andThen, slicedAt, e]
  rw [if_neg (by omega), Nat.mul_one, Addr.add_lit, Nat.zero_add]
/-- What is known in the region that lays eight bytes into the hash: the hash's block; the bytes (operation 4); the hash behind the copy (operation 5). -/
def planSq (h H0 : Nat) (cur new : List Value) (l : List UInt8) : List Fct :=
  [{ k := 100, uses := [], fact := fun _ W => Blk W h cur.toArray 52 },
   { k := 4, uses := [], fact := fun v W => Ob W H0 v l },
   { k := 5, uses := [4, 100], spends := [100], fact := fun _ W => Blk W h new.toArray 52 }]
theorem planSq_pure {h H0 : Nat} {cur new : List Value} {l : List UInt8} : ∀ f ∈ planSq h H0 cur new l, ∃ v, f.pure v := by
  intro f hf
  simp only [planSq, List.mem_cons, List.not_mem_nil, or_false] at hf
  rcases hf with rfl | rfl | rfl <;> exact ⟨undef, trivial⟩
theorem planSq_keeps4 {base : World → Prop} {h H0 : Nat} {cur new : List Value} {l : List UInt8} {W W' : World} (hk : Kept None W W') : (planOf base (planSq h H0 cur new l)).keeps 4 W W' := by
  refine keeps_of fun f hf _ _ _ u hfu => ?_
  simp only [planSq, List.mem_cons, List.not_mem_nil, or_false] at hf
  rcases hf with rfl | rfl | rfl
  · exact Blk.kept hfu hk (fun h => h)
  · exact Bo.kept hfu hk (fun _ _ h => h)
  · exact Blk.kept hfu hk (fun h => h)
theorem planSq_keeps5 {base : World → Prop} {h H0 : Nat} {cur new : List Value} {l : List UInt8} {W W' : World} (hk : Kept (Just h) W W') (hh : h < H0) : (planOf base (planSq h H0 cur new l)).keeps 5 W W' := by
  refine keeps_of fun f hf hs _ hne u hfu => ?_
  simp only [planSq, List.mem_cons, List.not_mem_nil, or_false] at hf
  rcases hf with rfl | rfl | rfl
  · exact absurd (List.Mem.head _) hs
  · exact Bo.kept hfu hk (fun k hk' (e : k = h) => by have := (Bo.own hfu k hk').1; omega)
  · exact absurd rfl hne
theorem sofar_splice (s : S5) (k : Nat) (hk : k < 4) : splice (sofar s k) (8 * k) ((leB (U (Go.Pm.squeeze s k).a)).map u8v) = sofar s (k + 1) := by
  unfold splice sofar
  rw [List.take_left' (by simp [eights_len])]
  rw [show 8 * k + ((leB (U (Go.Pm.squeeze s k).a)).map u8v).length = ((eights s k).map u8v).length + 8 by simp [eights_len, leB_length]]
  rw [List.drop_append, List.drop_of_length_le (by simp)]
  simp only [eights, List.map_append, List.append_assoc, List.drop_replicate]
  congr 3
  simp
  omega

set_option maxHeartbeats 1000000 in
theorem sqz (s : S5) (w : World) :
    Calls Try.prog 93 #[sv s] w fun e w' => e = .returned (hashV (eights s 4)) ∧ Kept None w w' := by
  generalize hs0 : s = s0
  have HS := hid hs0
  clear hs0
  go_enter Try.func93, Try.ntmps93
  go_wp2
  go_loopw [4] (fun i wr => ∃ k : Nat, k ≤ 4 ∧ i = .int .i64 ((8 * k : Nat) : Int) ∧ Kept None w wr ∧ Blk wr w.heap.size (sc (squeeze s0 (k - 1))) 117 ∧ (∃ z : Array Value, z.size = 32 ∧ Blk wr (w.heap.size + 1) z 52) ∧
      Blk wr (w.heap.size + 1 + 1) (sofar s0 k).toArray 52) (fun i _ => 32 - (intOf i).toNat)
  case atStart =>
    refine ⟨0, by omega, rfl, (((Kept.refl _ _).alloc _).alloc _).alloc _, ?_, ⟨Array.replicate 32 (.int .u8 0), by simp, ?_⟩, ?_⟩
    · rw [← HS.out]; exact ((Blk.new _ _ _).alloc _).alloc _
    · exact (Blk.new2 _ _ _ _).alloc _
    · exact sofar_zero s0 ▸ Blk.new3 _ _ _ _ _
  case round =>
    obtain ⟨k, hk, rfl, hkk, hS, ⟨z, hz, hR⟩, hH⟩ := hrel
    have hsz := hkk.size
    by_cases h4 : k < 4
    · have hlt := hH.lt
      rcases Nat.eq_zero_or_pos k with h0 | h0
      case' inl =>
        obtain ⟨wx, hwx⟩ : ∃ wx, wx = wr := ⟨_, rfl⟩
        have hkx : Kept None w wx := by rw [hwx]; exact hkk
        have hSx : Blk wx w.heap.size (sc (Go.Pm.squeeze s0 k)) 117 := by rw [hwx, h0]; rw [h0] at hS; exact hS
        have hRx : Blk wx (w.heap.size + 1) z 52 := by rw [hwx]; exact hR
        have hHx : Blk wx (w.heap.size + 1 + 1) (sofar s0 k).toArray 52 := by rw [hwx]; exact hH
        rw [← hwx]
        have h0' : ¬ 0 < 8 * k := by omega
        clear hkk hS hR hH hwx hlt h0 hsz
        go_wp2
      case' inr =>
        have h0' : 0 < 8 * k := by omega
        go_wp2_with (first | (refine wpList_load_blk rfl _ _ rfl rfl hS aS ?_) | fail)
        refine (perm _ wr).mono ?_
        rintro e1 w1 ⟨rfl, k1⟩
        rw [show (Go.Pm.squeeze s0 (k - 1)).perm = Go.Pm.squeeze s0 k by obtain ⟨j, rfl⟩ : ∃ j, k = j + 1 := ⟨k - 1, by omega⟩; rfl]
        have hS1 := hS.kept k1 (fun h => h)
        go_wp2_with (first | (refine wpList_store_blk rfl _ _ _ rfl rfl rfl hS1 aS rfl (sc_all _) ?_; intro wx hSx k2))
        have hkx : Kept None w wx := (hkk.then k1 (fun _ _ h => h)).then k2 (fun i hi (h : i = _) => by omega)
        have hRx := (hR.kept k1 (fun h => h)).kept k2 (fun (h : _ = _) => by omega)
        have hHx := (hH.kept k1 (fun h => h)).kept k2 (fun (h : _ = _) => by omega)
        clear hkk hS hR hH hlt hS1 k1 k2 h0 hsz
      all_goals
        have hlx := hHx.lt
        have hu := U_ge (Go.Pm.squeeze s0 k).a
        have hu2 := U_lt (Go.Pm.squeeze s0 k).a
        have HU := hid (And.intro hu hu2)
        clear hu hu2
        try simp only [Act.put]
        refine wp_region_plan (Kept (Just (w.heap.size + 1 + 1)) wx) (planSq (w.heap.size + 1 + 1) wx.heap.size (sofar s0 k) (sofar s0 (k + 1)) (leB (U (Go.Pm.squeeze s0 k).a))) [100] (by kernel_rfl) (by kernel_rfl) (by kernel_rfl) rfl planSq_pure (Kept.refl _ _).drew (fun j hj => by
          obtain rfl : j = 100 := by simpa using hj
          exact hHx.drew) ?_
        iterate 4 (refine wpPar_pure rfl (by rfl) _ (fun W hW => by
          have c0 : W.cell? ⟨w.heap.size, 0, none⟩ = some (.int .u64 (U (Go.Pm.squeeze s0 k).a)) := (hSx.kept hW (fun (h : _ = _) => by omega)).cell 0
          have h1 := cutHash (w.heap.size + 1 + 1) k h4 W
          go_simp
          exact rfl) ?_; simp only [Act.put, List.setIfInBounds_toArray, List.set_cons_zero, List.set_cons_succ])
        refine wpPar_adds rfl (by rfl) (fun W hW _ => ?_) (fun v _ => ?_)
        · unfold Gives
          go_simp
          refine gives_call (Bin.num _ W HU.out.1 HU.out.2) ?_
          rintro e w3 ⟨v3, rfl, k3, hb3⟩
          exact ⟨_, rfl, hW.then k3 (fun _ _ h => h.elim), trivial, hb3.base hW.size, planSq_keeps4 k3⟩
        simp only [Act.put, List.setIfInBounds_toArray, List.set_cons_zero, List.set_cons_succ]
        refine wpPar_adds rfl (by rfl) (fun W hW hd => ?_) (fun v' _ => ?_)
        · have hv4 : Ob W wx.heap.size v (leB (U (Go.Pm.squeeze s0 k).a)) := hd 4 (List.Mem.head _)
          have hB : Blk W (w.heap.size + 1 + 1) (sofar s0 k).toArray 52 := hd 100 (List.Mem.tail _ (List.Mem.head _))
          refine gives_copy (.tmp 14) (.tmp 17) 22 22 rfl 5 tBytes' (by kernel_rfl) rfl rfl (hv4.bs (Nat.le_refl _)) (by rw [leB_length]; decide) hB (by rw [leB_length]; omega) (by rw [sofar_len _ _ hk, leB_length]; omega) ?_
          intro w' b' k'
          rw [sofar_splice _ _ h4] at b'
          exact ⟨hW.then k' (fun _ _ h => h), trivial, b', planSq_keeps5 k' hlx⟩
        simp only [Act.put, List.setIfInBounds_toArray, List.set_cons_zero, List.set_cons_succ]
        refine wpPar_nil (fun W hW hG => ?_)
        have hHn : Blk W (w.heap.size + 1 + 1) (sofar s0 (k + 1)).toArray 52 := hG 5
        have hkn : Kept None w W := hkx.then hW (fun i hi (h : i = _) => by omega)
        have hSn := hSx.kept hW (fun (h : _ = _) => by omega)
        have hRn := hRx.kept hW (fun (h : _ = _) => by omega)
        clear hkx hSx hRx hHx hW hG HU
        go_wp2
        go_roundw
        case rel => exact ⟨k + 1, by omega, by go_num, hkn, hSn, ⟨z, hz, hRn⟩, hHn⟩
        case measure => simp [intOf]; omega
    · have hk4 : k = 4 := by omega
      subst hk4
      rw [sofar_four] at hH
      have e32 : ((eights s0 4).map u8v).toArray.size = 32 := by simp [eights_len]
      have aH' : AggTy Try.prog 52 ((eights s0 4).map u8v).toArray.size := by rw [e32]; exact aH
      have hz' := hz.trans e32.symm
      have E := hid (And.intro hz hz')
      clear e32 hz hz'
      go_wp2_with (first | (refine wpList_load_blk rfl _ _ rfl rfl hH aH' ?_) | (refine wpList_store_blk rfl _ _ _ rfl rfl rfl hR aH' E.out.2 (u8v_all _) ?_; intro w2 b2 k2))
      exact bodyPost_ret (v := hashV (eights s0 4)) (results_blk rfl _ rfl b2 aH') rfl ⟨rfl, hkk.then k2 (fun i hi (h : i = _) => by omega)⟩
end Sp
end Go.Proofs.Ytglibdggoobocaa

/- sponge.Sum, Text, Tag, by their contracts. -/
namespace Go.Proofs.Ytglibdggoobocaa
open Go.RowKit Go.Pm
namespace Sp

def lenOf : Value → Nat
  | .slice _ n _ => n
  | _ => 0
theorem perm_first (w : World) : Calls Try.prog 91 #[.agg #[.int .u64 8800401358850, .int .u64 0, .int .u64 0, .int .u64 0, .int .u64 0]] w fun e w' => e = .returned (sv first) ∧ Kept None w w' :=
  perm ⟨0x0000080100cc0002, 0, 0, 0, 0⟩ w
set_option maxRecDepth 100000 in
set_option maxHeartbeats 1000000 in
theorem sum (v : Value) (lo hi : Nat) (l : List UInt8) (w : World) (hv : Bs w lo hi v l) :
    Calls Try.prog 82 #[v] w fun e w' => e = .returned (hashV (sumB l)) ∧ Kept None w w' := by
  have pf := perm_first
  have key1 := absorb_step l first
  have key2 := soaked_last l
  have e32 : ((sumB l).map u8v).toArray.size = 32 := by simp [sumB_len]
  show Calls _ _ _ w fun e w' => e = .returned (hashV (eights (soaked l) 4)) ∧ Kept None w w'
  change ((eights (soaked l) 4).map u8v).toArray.size = 32 at e32
  have sq := fun w => sqz (soaked l) w
  -- an 'obtain' keeps each under its name in the proof's term too: what stands behind the names unfolds without end
  obtain ⟨res, hres⟩ : ∃ res, res = eights (soaked l) 4 := ⟨_, rfl⟩
  obtain ⟨so, hso⟩ : ∃ so, so = soaked l := ⟨_, rfl⟩
  obtain ⟨F, hF⟩ : ∃ F, F = first := ⟨_, rfl⟩
  rw [← hres] at e32 sq ⊢
  rw [← hso] at sq key2
  rw [← hF] at pf key1 key2
  have PF := hid pf
  have SQ := hid sq
  have K1 := hid key1
  have K2 := hid key2
  have K3 := hid e32
  clear key1 key2 e32 sq pf hres hso hF
  obtain ⟨a, cap, rfl, g1, g2, g3⟩ := hv.shape
  go_enter Try.func82, Try.ntmps82
  go_wp2_with fail
  refine (PF.out _).mono ?_
  rintro e1 w1 ⟨rfl, k1⟩
  have k1' : Kept None w w1 := ((Kept.refl _ _).alloc _).trans k1
  have hR := (Blk.new w _ _).kept k1 (fun h => h)
  obtain ⟨z, hz, hR'⟩ : ∃ z : Array Value, z.size = 32 ∧ Blk w1 w.heap.size z 52 := ⟨_, rfl, hR⟩
  have hs1 : w.heap.size < w1.heap.size := hR'.lt
  clear k1 hR
  go_wp2
  have hv0 := (Vs.lt hv).kept (k1'.alloc (.cells (sc F) 117)) (fun _ _ _ h => h)
  have hhi : min hi w.heap.size ≤ w1.heap.size := by omega
  generalize min hi w.heap.size = hi' at hv0 hhi
  go_loopw [0] (fun v wr => ∃ (k n : Nat) (a : Option Addr) (c : Nat), v = .slice a n c ∧ 8 * k + n = l.length ∧ Bs wr lo hi' (.slice a n c) (l.drop (8 * k)) ∧ Kept None w wr ∧ Blk wr w1.heap.size (sc (absorb (padded l) F k)) 117 ∧ Blk wr w.heap.size z 52) (fun v _ => lenOf v)
  case atStart => exact ⟨0, l.length, a, cap, rfl, by omega, hv0, k1'.alloc _, Blk.new _ _ _, hR'.alloc _⟩
  case round =>
    clear hv0 hR' hv g3
    obtain ⟨k, n, a, c, rfl, hn, hb, hk, hS, hR⟩ := hrel
    have hnc : n ≤ c ∧ c ≤ 9223372036854775807 := by
      obtain ⟨a', c', e, h1, h2, _⟩ := hb.shape
      injection e with e1 e2 e3
      omega
    obtain ⟨hnc1, hnc2⟩ := hnc
    have hlt := hS.lt
    by_cases h8 : 8 ≤ n
    · obtain ⟨a1, s1, p1⟩ := slice_to tBytes zBytes hb .i64 8 (by omega) (by omega)
      obtain ⟨a2, s2, p2⟩ := slice_from tBytes zBytes hb .i64 8 (by omega) (by omega)
      have c0 := hS.cell 0
      have f0 := hS.free 0
      simp at c0
      go_wp2
      clear c0 f0
      refine wp_tail 7 (by kernel_rfl) (by kernel_rfl) (fun wy ky => ?_)
      have hS' := hS.kept ky (fun h => h)
      have c0 := hS'.cell 0
      have f0 := hS'.free 0
      simp at c0
      simp only [List.take_succ_cons, List.take_zero, List.drop_succ_cons, List.drop_zero]
      repeat still_step
      have hb1 : Bs wy lo hi' (.slice a1 8 c) ((l.drop (8 * k)).take 8) := by
        have := Vs.kept p1 ky (fun _ _ _ h => h)
        rw [← List.map_take] at this
        exact this
      still_call (Calls.same (word (.slice a1 8 c) lo hi' _ wy hb1 (by simp; omega)))
      repeat still_step
      refine wpStill_nil ?_
      have hx := mixed_a (absorb (padded l) F k) (leV ((l.drop (8 * k)).take 8)) (leV_ge _) (leV_lt _)
      have HST := hid (K1.out k (by omega))
      generalize hx' : leV ((l.drop (8 * k)).take 8) = x at *
      clear hx'
      generalize hst : absorb (padded l) F k = st at *
      clear hst
      simp only [hx]
      have hS2 : Blk (wy.setCell ⟨w1.heap.size, 0, none⟩ (.int .u64 (U (st.mixed (W x)).a))) w1.heap.size (sc (st.mixed (W x))) 117 := hS'.set 0 _
      have ky2 := (Kept.one wy w1.heap.size 0 (.int .u64 (U (st.mixed (W x)).a)))
      have hb2 : Bs wy lo hi' (.slice a2 (n - 8) (c - 8)) (l.drop (8 * (k + 1))) := by
        have := Vs.kept p2 ky (fun _ _ _ h => h)
        rw [← List.map_drop, List.drop_drop] at this
        exact this
      have hR2 := hR.kept ky (fun h => h)
      have hk2 := hk.then ky (fun _ _ h => h)
      clear hR hk hx p1 p2 hb1 hS hb hS' ky
      go_wp2_with (first | (refine wpList_load_blk rfl _ _ rfl rfl hS2 aS ?_) | fail)
      refine (perm _ _).mono ?_
      rintro e1 w2 ⟨rfl, k1⟩
      rw [← HST.out]
      obtain ⟨st', hst'⟩ : ∃ st', st' = absorb (padded l) F (k + 1) := ⟨_, rfl⟩
      rw [← hst']
      have HN := hid hst'
      clear hst' HST
      have hS3 := hS2.kept k1 (fun h => h)
      have hk3 : Kept None w w2 := (hk2.then ky2 (fun i hi (h : i = w1.heap.size) => by omega)).then k1 (fun _ _ h => h)
      have hb3 := (hb2.kept ky2 (fun i h1 h2 (h : i = w1.heap.size) => by omega)).kept k1 (fun _ _ _ h => h)
      have hR3 := (hR2.kept ky2 (fun (h : w.heap.size = w1.heap.size) => by omega)).kept k1 (fun h => h)
      clear hS2 hk2 hb2 hR2 ky2 k1 c0 f0
      go_wp2_with (first | (refine wpList_store_blk rfl _ _ _ rfl rfl rfl hS3 aS rfl (sc_all _) ?_; intro w3 hS4 k4))
      exact ⟨⟨k + 1, n - 8, a2, c - 8, rfl, by omega, hb3.kept k4 (fun i h1 h2 (h : i = w1.heap.size) => by omega), hk3.then k4 (fun i hi (h : i = w1.heap.size) => by omega), HN.out ▸ hS4, hR3.kept k4 (fun (h : w.heap.size = w1.heap.size) => by omega)⟩, by simp only [lenOf]; omega⟩
    · go_wp2
      refine wp_tail 11 (by kernel_rfl) (by kernel_rfl) (fun wy ky => ?_)
      have hS' := hS.kept ky (fun h => h)
      have c0 := hS'.cell 0
      have f0 := hS'.free 0
      simp at c0
      have hb' := hb.kept ky (fun _ _ _ h => h)
      simp only [List.take_succ_cons, List.take_zero, List.drop_succ_cons, List.drop_zero]
      repeat still_step
      have hlen : (l.drop (8 * k)).length ≤ 8 := by simp; omega
      have e1 : IntKind.i64.wrap (8 * (n : Int)) = 8 * (n : Int) := by rw [IntKind.wrap_i64]; omega
      have e2 : (0 : Int) ≤ 8 * (n : Int) := by omega
      have e3 : ((8 : Int) * (n : Int)).toNat = 8 * n := by omega
      still_call (Calls.same (word _ lo hi' _ wy hb' hlen))
      repeat still_step
      refine wpStill_nil ?_
      rw [last_word l k n hn (by omega)]
      have hx := mixed_a (absorb (padded l) F k) (leV ((padded l).drop (8 * k))) (leV_ge _) (leV_lt _)
      have HST := hid (K2.out k n hn (by omega))
      generalize hx' : leV ((padded l).drop (8 * k)) = x at *
      clear hx'
      generalize hst : absorb (padded l) F k = st at *
      clear hst
      simp only [hx]
      have hS2 : Blk (wy.setCell ⟨w1.heap.size, 0, none⟩ (.int .u64 (U (st.mixed (W x)).a))) w1.heap.size (sc (st.mixed (W x))) 117 := hS'.set 0 _
      have ky2 := (Kept.one wy w1.heap.size 0 (.int .u64 (U (st.mixed (W x)).a)))
      have hR2 := hR.kept ky (fun h => h)
      have hk2 := hk.then ky (fun _ _ h => h)
      clear hR hk hx hS hb hS' ky hb' hlen e1 e2 e3
      go_wp2_with (first | (refine wpList_load_blk rfl _ _ rfl rfl hS2 aS ?_) | fail)
      refine (perm _ _).mono ?_
      rintro e1 w2 ⟨rfl, k1⟩
      rw [← HST.out]
      have hS3 := hS2.kept k1 (fun h => h)
      have hk3 : Kept None w w2 := (hk2.then ky2 (fun i hi (h : i = w1.heap.size) => by omega)).then k1 (fun _ _ h => h)
      have hR3 := (hR2.kept ky2 (fun (h : w.heap.size = w1.heap.size) => by omega)).kept k1 (fun h => h)
      clear hS2 hk2 hR2 ky2 k1 c0 f0
      go_wp2_with (first | (refine wpList_store_blk rfl _ _ _ rfl rfl rfl hS3 aS rfl (sc_all _) ?_; intro w3 hS4 k4) | (refine wpList_load_blk rfl _ _ rfl rfl hS4 aS ?_) | fail)
      have hk4 := hk3.then k4 (fun i hi (h : i = w1.heap.size) => by omega)
      have hR4 := hR3.kept k4 (fun (h : w.heap.size = w1.heap.size) => by omega)
      clear hS3 hk3 hR3 k4
      refine (SQ.out _).mono ?_
      rintro e2 w5 ⟨rfl, k5⟩
      have hR5 := hR4.kept k5 (fun h => h)
      have hk5 := hk4.then k5 (fun _ _ h => h)
      have e32 : (res.map u8v).toArray.size = 32 := K3.out
      have aH' : AggTy Try.prog 52 (res.map u8v).toArray.size := by rw [e32]; exact aH
      have hz' := hz.trans e32.symm
      have E := hid (And.intro hz hz')
      clear e32 hz hz' hR4 hk4 k5 hS4
      go_wp2_with (first | (refine wpList_store_blk rfl _ _ _ rfl rfl rfl hR5 aH' E.out.2 (u8v_all _) ?_; intro w6 hR6 k6) | fail)
      exact bodyPost_ret (v := hashV res) (results_blk rfl _ rfl hR6 aH') rfl ⟨rfl, hk5.then k6 (fun i hi (h : i = w.heap.size) => by omega)⟩
end Sp
end Go.Proofs.Ytglibdggoobocaa

/- sponge.Text, sponge.Tag, by their contracts. -/
namespace Go.Proofs.Ytglibdggoobocaa
open Go.RowKit Go.Pm

theorem tLists : Try.prog.underlying 106 = some (.slice 22) := by kernel_rfl
theorem infoBytes : (Try.prog.info? 22).map (fun i => (i.zero, i.size, i.bytes)) = some (some (.slice none 0 0), 1, 24) := by kernel_rfl
theorem rtLists : RowTy Try.prog 106 22 (.slice none 0 0) 24 := ⟨by kernel_rfl, info_parts infoBytes, rfl⟩
/-- A [][]byte of the call's own. -/
abbrev Obs (w : World) (base : Nat) (v : Value) (ls : List (List UInt8)) : Prop := Bos 22 w base v ls
namespace Sp
set_option maxRecDepth 100000 in
set_option maxHeartbeats 1000000 in
/-- sponge.Text. -/
theorem text (tag : Int) (v : Value) (lo hi lo' hi' : Nat) (ls : List (List UInt8)) (w : World) (ht0 : 0 ≤ tag) (ht1 : tag < 256) (hv : Bss w lo hi lo' hi' v ls) (hn : ls.length ≤ 1099511627776) (hl : total ls ≤ 1099511627776) :
    Calls Try.prog 83 #[.int .u8 tag, v] w fun e w' => ∃ v', e = .returned v' ∧ Kept None w w' ∧ Ob w' w.heap.size v' (textB tag ls) := by
  obtain ⟨a, cap, rfl, g1, g2, g3⟩ := hv.shape
  obtain ⟨i0, hi0, hz0, hz1, hz2⟩ := info_parts infoBytes
  go_enter Try.func83, Try.ntmps83
  go_wp2_with (at_make; refine wpList_make_own _ rfl _ _ 106 rfl w.heap.size 22 i0 (.slice none 0 0) 1 tLists hi0 hz0 hz1 .i64 .i64 ((ls.length : Int) + 1) (ls.length + 1) rfl rfl rfl ?h1 ?h2 ?h3 ?h4)
  case h1 => rw [hz2]; omega
  case h2 => unfold maxLen; omega
  case h3 => exact Nat.le_refl _
  case h4 =>
    intro w1 hown hgrow
    have hk1 : Kept None w w1 := Kept.grown (Kept.refl _ _) hgrow (fun _ h => by cases h)
    have hb1 : Obs w1 w.heap.size (.slice (some ⟨w.heap.size, 0, none⟩) 0 (ls.length + 1)) [] := ⟨[], hown, fun i x l h => by simp at h⟩
    have hs1 := (hb1.own w.heap.size rfl).2
    have hb2 := hb1.kept ((Kept.refl None w1).alloc (.cells #[.int .u8 tag] 5))
    have hk2 := hk1.alloc (.cells #[.int .u8 tag] 5)
    have hy : Bs (w1.alloc (.cells #[.int .u8 tag] 5)) 0 (w1.alloc (.cells #[.int .u8 tag] 5)).heap.size (.slice (some ⟨w1.heap.size, 0, none⟩) 1 1) [Go.Pm.byteOf tag] := by
      have := Bo.new w1 5 [Go.Pm.byteOf tag] #[.int .u8 tag] (by simp [u8v_byteOf' ht0 ht1]) 1 rfl (by decide)
      exact (this.bs (Nat.le_refl _)).all
    have E := hid (And.intro hz2 g3)
    clear hown hgrow hb1 hk1 hz0 hz1 hz2 hi0 g3
    go_wp2_with (at_builtin; refine wpList_append_item rfl _ _ 106 rfl rtLists rfl rfl ?k1 hb2 hy ?k2 ?k3 ?k4 ?k5)
    case k1 => simp
    case k2 =>
      intro _ k hk e
      have h1 : w1.heap.size = k := Option.some.inj hk
      have h2 : w.heap.size = k := Option.some.inj e
      omega
    case k3 => simp
    case k4 => simp; omega
    case k5 =>
      intro a2 n2 c2 w2 hb3 hk3 _
      have hk4 : Kept None w w2 := hk2.then hk3 (fun i hi (h : _ = some i) => by simp [Value.ownBlock] at h; omega)
      clear hb2 hy hk2 hk3
      go_wp2
      go_loopw [5, 19] (fun t i wr => ∃ k : Nat, k ≤ ls.length ∧ i = .int .i64 k ∧ (∃ a n c, t = .slice a n c) ∧ Obs wr w.heap.size t (partsB tag (ls.take k)) ∧ Kept None w wr) (fun _ i _ => ls.length - (intOf i).toNat)
      case atStart => exact ⟨0, Nat.zero_le _, rfl, ⟨_, _, _, rfl⟩, hb3, hk4⟩
      case round =>
        clear hb3 hk4
        obtain ⟨k, hk, rfl, ⟨a3, n3, c3, rfl⟩, hb, hkk⟩ := hrel
        have hsz := hkk.size
        by_cases hlt : k < ls.length
        · have hvr := hv.kept hkk (fun _ _ _ h => h) (fun _ _ _ h => h)
          obtain ⟨b, o, rfl, q1, q2, q3, hc⟩ := Bss.at hvr (by omega)
          obtain ⟨a', c', hc', hb'⟩ := hc k hlt
          have hlen := at_total ls k hlt
          have HP := hid (partsB_take tag ls k hlt)
          have hpl := partsB_len tag (ls.take k)
          have hpl' : (partsB tag (ls.take k)).length ≤ ls.length + 1 := by rw [hpl, List.length_take]; omega
          clear hpl hc hvr hv
          generalize ls[k] = x at *
          go_wp2_with fail
          refine (Bin.lump _ _ _ _ _ hb' (by omega)).mono ?_
          rintro e1 w4 ⟨v4, rfl, k4, b4⟩
          have hyl : (leB x.length ++ x).length = x.length + 8 := by simp [leB_length]; omega
          have HP' := HP.out
          generalize leB x.length ++ x = y at *
          have HP2 := hid HP'
          clear HP HP'
          have hb4 := hb.kept k4
          have hk5 := hkk.then k4 (fun _ _ h => h)
          have hne : 0 < y.length → ∀ j, v4.ownBlock = some j → (Value.slice a3 n3 c3).ownBlock ≠ some j := fun _ j h1 h2 => by
            have := (b4.own j h1).1
            have := (hb.own j h2).2
            omega
          have hs4 := k4.size
          have hb4' := (b4.bs (Nat.le_refl _)).all
          obtain ⟨a4, c4, rfl⟩ := b4.form
          have HY := hid hyl
          clear hyl hb hkk k4 b4 hb'
          go_wp2_with (at_builtin; refine wpList_append_item rfl _ _ 106 rfl rtLists rfl rfl rfl hb4 hb4' ?m0 ?m1 ?m2 ?m3)
          case m0 => exact hne
          case m1 => omega
          case m2 => omega
          case m3 =>
            intro a5 n5 c5 w5 hb5 hk6 _
            have hk7 : Kept None w w5 := hk5.then hk6 (fun i hi (h : _ = some i) => by have := (hb4.own i h).1; omega)
            rw [← HP2.out] at hb5
            clear hb4 hb4' hk5 hk6 HP2 hne
            go_wp2
            go_roundw
            case rel => exact ⟨k + 1, by omega, by go_num, ⟨_, _, _, rfl⟩, hb5, hk7⟩
            case measure => simp [intOf]; omega
        · have hb6 : Obs wr w.heap.size (.slice a3 n3 c3) (partsB tag ls) := by rw [List.take_of_length_le (by omega)] at hb; exact hb
          clear hb hv
          go_wp2_with fail
          refine (Bin.join _ _ _ _ _ _ _ hb6.bss (by show (textB tag ls).length ≤ _; rw [textB_length]; omega)).mono ?_
          rintro e1 w7 ⟨v7, rfl, k7, b7⟩
          have b8 := b7.base hsz
          have k8 := hkk.then k7 (fun _ _ h => h)
          clear b7 k7 hkk hb6
          go_wp2
          go_ret
          exact ⟨_, rfl, k8, b8⟩

set_option maxRecDepth 100000 in
set_option maxHeartbeats 400000 in
/-- sponge.Tag. -/
theorem tag (tg : Int) (v : Value) (lo hi lo' hi' : Nat) (ls : List (List UInt8)) (w : World) (ht0 : 0 ≤ tg) (ht1 : tg < 256) (hv : Bss w lo hi lo' hi' v ls) (hn : ls.length ≤ 1099511627776) (hl : total ls ≤ 1099511627776) :
    Calls Try.prog 69 #[.int .u8 tg, v] w fun e w' => e = .returned (hashV (sumB (textB tg ls))) ∧ Kept None w w' := by
  have hs := fun v lo hi w h => sum v lo hi (textB tg ls) w h
  have e32 := sumB_len (textB tg ls)
  obtain ⟨res, hres⟩ : ∃ res, res = sumB (textB tg ls) := ⟨_, rfl⟩
  rw [← hres] at hs e32 ⊢
  have HS := hid hs
  have H32 := hid e32
  clear hs e32 hres
  obtain ⟨a, cap, rfl, g1, g2, g3⟩ := hv.shape
  clear g3
  go_enter Try.func69, Try.ntmps69
  go_wp2_with fail
  have hv1 := hv.kept ((Kept.refl None w).alloc (.cells (Array.replicate 32 (.int .u8 0)) 52)) (fun _ _ _ h => h) (fun _ _ _ h => h)
  refine (text tg _ lo hi lo' hi' ls _ ht0 ht1 hv1 hn hl).mono ?_
  rintro e1 w1 ⟨v1, rfl, k1, b1⟩
  obtain ⟨z, hz, hR⟩ : ∃ z : Array Value, z.size = 32 ∧ Blk w1 w.heap.size z 52 := ⟨Array.replicate 32 (.int .u8 0), by simp, (Blk.new w _ _).kept k1 (fun h => h)⟩
  have k2 : Kept None w w1 := ((Kept.refl _ _).alloc _).trans k1
  clear hv hv1 k1
  go_wp2_with fail
  refine (HS.out _ _ _ _ (b1.bs (Nat.le_refl _))).mono ?_
  rintro e2 w2 ⟨rfl, k3⟩
  have hR2 := hR.kept k3 (fun h => h)
  have k4 := k2.then k3 (fun _ _ h => h)
  have e32 : (res.map u8v).toArray.size = 32 := by simpa using H32.out
  have aH' : AggTy Try.prog 52 (res.map u8v).toArray.size := by rw [e32]; exact aH
  have E := hid (hz.trans e32.symm)
  clear hR k3 k2 b1 e32 hz
  go_wp2_with (first | (refine wpList_store_blk rfl _ _ _ rfl rfl rfl hR2 aH' E.out (u8v_all _) ?_; intro w6 hR6 k6) | fail)
  exact bodyPost_ret (v := hashV res) (results_blk rfl _ rfl hR6 aH') rfl ⟨rfl, k4.then k6 (fun i hi (h : i = w.heap.size) => by omega)⟩
end Sp
end Go.Proofs.Ytglibdggoobocaa
/- postmarkref1.turn, round, Perm, by their contracts. -/
namespace Go.Proofs.Ytglibdggoobocaa
open Go.RowKit Go.Pm
namespace Ref

set_option maxRecDepth 100000 in
set_option maxHeartbeats 400000 in
theorem turn (x : U64) (n : Nat) (N : Int) (hN : N = n) (w : World) (h0 : 0 < n) (h1 : n < 64) :
    Calls Try.prog 100 #[.int .u64 (U x), .int .i64 N] w fun e w' => e = .returned (.int .u64 (U (rot x n))) ∧ Kept None w w' := by
  subst hN
  have g0 := U_ge x
  have g1 := U_lt x
  go_enter Try.func100, Try.ntmps100
  go_wp2
  go_quiet (fail)
  go_wp2
  go_ret
  have e1 := U_shr x n
  have e2 := U_shl x (64 - n)
  push_cast at e1 e2
  refine ⟨?_, Kept.toDrewN _ _ _⟩
  show Ending.returned (.int .u64 (bits .or .u64 (U x / 2 ^ n) (IntKind.u64.wrap (U x * 2 ^ (64 - n))))) = _
  rw [e1, e2, U_or]
  rfl

/-- The first k of t's words. -/
def tc (t : S5) : Nat → Array Value
  | 0 => #[.int .u64 0, .int .u64 0, .int .u64 0, .int .u64 0, .int .u64 0]
  | 1 => #[.int .u64 (U t.a), .int .u64 0, .int .u64 0, .int .u64 0, .int .u64 0]
  | 2 => #[.int .u64 (U t.a), .int .u64 (U t.b), .int .u64 0, .int .u64 0, .int .u64 0]
  | 3 => #[.int .u64 (U t.a), .int .u64 (U t.b), .int .u64 (U t.c), .int .u64 0, .int .u64 0]
  | 4 => #[.int .u64 (U t.a), .int .u64 (U t.b), .int .u64 (U t.c), .int .u64 (U t.d), .int .u64 0]
  | _ => #[.int .u64 (U t.a), .int .u64 (U t.b), .int .u64 (U t.c), .int .u64 (U t.d), .int .u64 (U t.e)]

theorem sgn : (if IntKind.u64.signed = true then (-1 : Int) else IntKind.u64.max) = IntKind.u64.max := rfl
theorem tc_size (t : S5) (k : Nat) : (tc t k).size = 5 := by unfold tc; split <;> rfl
theorem chi_a (s : S5) : bits .xor .u64 (U s.a) (bits .and .u64 (bits .xor .u64 IntKind.u64.max (U s.b)) (U s.c)) = U s.chi.a := by simp only [U_xor, U_and, U_not']; rfl
theorem chi_b (s : S5) : bits .xor .u64 (U s.b) (bits .and .u64 (bits .xor .u64 IntKind.u64.max (U s.c)) (U s.d)) = U s.chi.b := by simp only [U_xor, U_and, U_not']; rfl
theorem chi_c (s : S5) : bits .xor .u64 (U s.c) (bits .and .u64 (bits .xor .u64 IntKind.u64.max (U s.d)) (U s.e)) = U s.chi.c := by simp only [U_xor, U_and, U_not']; rfl
theorem chi_d (s : S5) : bits .xor .u64 (U s.d) (bits .and .u64 (bits .xor .u64 IntKind.u64.max (U s.e)) (U s.a)) = U s.chi.d := by simp only [U_xor, U_and, U_not']; rfl
theorem chi_e (s : S5) : bits .xor .u64 (U s.e) (bits .and .u64 (bits .xor .u64 IntKind.u64.max (U s.a)) (U s.b)) = U s.chi.e := by simp only [U_xor, U_and, U_not']; rfl

/-- What is known in a region that spreads a word: the state's block; the two turned words (operations 4, 8); the state's block behind the store (operation 11). -/
def planTurn (r : Nat) (cur new : Array Value) (x : U64) (n m : Nat) : List Fct :=
  [{ k := 100, uses := [], fact := fun _ W => Blk W r cur 117 },
   { k := 4, uses := [], pure := fun v => v = .int .u64 (U (rot x n)) },
   { k := 8, uses := [], pure := fun v => v = .int .u64 (U (rot x m)) },
   { k := 11, uses := [100], spends := [100], fact := fun _ W => Blk W r new 117 }]
theorem planTurn_pure {r : Nat} {cur new : Array Value} {x : U64} {n m : Nat} : ∀ f ∈ planTurn r cur new x n m, ∃ v, f.pure v := by
  intro f hf
  simp only [planTurn, List.mem_cons, List.not_mem_nil, or_false] at hf
  rcases hf with rfl | rfl | rfl | rfl
  · exact ⟨undef, trivial⟩
  · exact ⟨_, rfl⟩
  · exact ⟨_, rfl⟩
  · exact ⟨undef, trivial⟩
theorem planTurn_keeps {base : World → Prop} {r i : Nat} {cur new : Array Value} {x : U64} {n m : Nat} {W W' : World} (hk : Kept None W W') : (planOf base (planTurn r cur new x n m)).keeps i W W' := by
  refine keeps_of fun f hf _ _ _ u hfu => ?_
  simp only [planTurn, List.mem_cons, List.not_mem_nil, or_false] at hf
  rcases hf with rfl | rfl | rfl | rfl
  · exact Blk.kept hfu hk (fun h => h)
  · trivial
  · trivial
  · exact Blk.kept hfu hk (fun h => h)
theorem planTurn_keeps11 {base : World → Prop} {r : Nat} {cur new : Array Value} {x : U64} {n m : Nat} {W W' : World} : (planOf base (planTurn r cur new x n m)).keeps 11 W W' := by
  refine keeps_of fun f hf hs _ hne u hfu => ?_
  simp only [planTurn, List.mem_cons, List.not_mem_nil, or_false] at hf
  rcases hf with rfl | rfl | rfl | rfl
  · exact absurd (List.Mem.head _) hs
  · trivial
  · trivial
  · exact absurd rfl hne
theorem lin_xor (x : U64) (n m : Nat) : bits .xor .u64 (bits .xor .u64 (U x) (U (rot x n))) (U (rot x m)) = U (lin x n m) := by simp only [U_xor]; rfl

set_option maxRecDepth 100000 in
set_option maxHeartbeats 4000000 in
theorem round (s : S5) (c : U64) (w : World) :
    Calls Try.prog 97 #[Sp.sv s, .int .u64 (U c)] w fun e w' => e = .returned (Sp.sv (s.round c)) ∧ Kept None w w' := by
  obtain ⟨p, hp⟩ : ∃ p, p = s.add c := ⟨_, rfl⟩
  have ca := chi_a p
  have cb := chi_b p
  have cc := chi_c p
  have cd := chi_d p
  have ce := chi_e p
  show Calls _ _ _ w fun e w' => e = .returned (Sp.sv (((s.add c).chi).mix.spread)) ∧ Kept None w w'
  rw [← hp]
  have hp' : Sp.sc p = #[.int .u64 (bits .xor .u64 (U s.a) (U s.e)), .int .u64 (U s.b), .int .u64 (bits .xor .u64 (bits .xor .u64 (U s.c) (U c)) (U s.b)), .int .u64 (U s.d), .int .u64 (bits .xor .u64 (U s.e) (U s.d))] := by
    rw [hp]; simp only [U_xor]; rfl
  obtain ⟨q, hq⟩ : ∃ q, q = p.chi := ⟨_, rfl⟩
  rw [← hq] at ca cb cc cd ce ⊢
  obtain ⟨r, hr⟩ : ∃ r, r = q.mix.spread := ⟨_, rfl⟩
  rw [← hr]
  have HP := hid hp'
  have HR := hid hr
  have HC := hid (And.intro ca (And.intro cb (And.intro cc (And.intro cd ce))))
  clear ca cb cc cd ce hp hp' hq hr
  obtain ⟨a, b, x, d, e⟩ := s
  go_enter Try.func97, Try.ntmps97
  go_wp2
  go_loopw [6] (fun i wr => ∃ k : Nat, k ≤ 5 ∧ i = .int .i64 k ∧ Kept None w wr ∧ Blk wr w.heap.size (Sp.sc p) 117 ∧ (∃ z : Array Value, z.size = 5 ∧ Blk wr (w.heap.size + 1) z 117) ∧ Blk wr (w.heap.size + 1 + 1) (tc q k) 117) (fun i _ => 5 - (intOf i).toNat)
  case atStart =>
    refine ⟨0, by omega, rfl, (((Kept.refl _ _).alloc _).alloc _).alloc _, ?_, ⟨_, ?_, (Blk.new2 _ _ _ _).alloc _⟩, Blk.new3 _ _ _ _ _⟩
    · rw [HP.out]; exact ((Blk.new _ _ _).alloc _).alloc _
    · rfl
  case round =>
    obtain ⟨k, hk, rfl, hkk, hS, ⟨z, hz, hR⟩, hT⟩ := hrel
    by_cases h5 : k < 5
    · have hk5 : k = 0 ∨ k = 1 ∨ k = 2 ∨ k = 3 ∨ k = 4 := by omega
      clear hk h5
      rcases hk5 with rfl | rfl | rfl | rfl | rfl
      all_goals
        go_wp2
        refine wp_tail 18 (by kernel_rfl) (by kernel_rfl) (fun wy ky => ?_)
        have hS' := hS.kept ky (fun h => h)
        have hT' := hT.kept ky (fun h => h)
        have c0 := hS'.cell 0
        have c1 := hS'.cell 1
        have c2 := hS'.cell 2
        have c3 := hS'.cell 3
        have c4 := hS'.cell 4
        simp at c0 c1 c2 c3 c4
        have w1 : IntKind.i64.wrap 1 = 1 := by decide
        have w2 : IntKind.i64.wrap 2 = 2 := by decide
        have w3 : IntKind.i64.wrap 3 = 3 := by decide
        have w4 : IntKind.i64.wrap 4 = 4 := by decide
        have w5 : IntKind.i64.wrap 5 = 5 := by decide
        have w6 : IntKind.i64.wrap 6 = 6 := by decide
        have m1 : (1 : Int).tmod 5 = 1 := by decide
        have m2 : (2 : Int).tmod 5 = 2 := by decide
        have m3 : (3 : Int).tmod 5 = 3 := by decide
        have m4 : (4 : Int).tmod 5 = 4 := by decide
        have m5 : (5 : Int).tmod 5 = 0 := by decide
        have m6 : (6 : Int).tmod 5 = 1 := by decide
        simp only [List.take_succ_cons, List.take_zero, List.drop_succ_cons, List.drop_zero]
        repeat still_step
        refine wpStill_nil ?_
        try simp only [sgn]
        simp only [HC.out.1, HC.out.2.1, HC.out.2.2.1, HC.out.2.2.2.1, HC.out.2.2.2.2]
        clear w1 w2 w3 w4 w5 w6 m1 m2 m3 m4 m5 m6 c0 c1 c2 c3 c4 hS'
      · have f0 := hT'.free 0
        have t0 := hT'.cell 0
        have hT2 : Blk _ _ (tc q 1) _ := hT'.set 0 (.int .u64 (U q.a))
        have kT := Kept.one wy (w.heap.size + 1 + 1) 0 (.int .u64 (U q.a))
        simp [tc] at t0
        go_wp2
        exact ⟨⟨1, by omega, rfl, (hkk.then ky (fun _ _ h => h)).then kT (fun i hi (h : i = w.heap.size + 1 + 1) => by omega), (hS.kept ky (fun h => h)).kept kT (fun (h : w.heap.size = w.heap.size + 1 + 1) => by omega), ⟨z, hz, (hR.kept ky (fun h => h)).kept kT (fun (h : w.heap.size + 1 = w.heap.size + 1 + 1) => by omega)⟩, hT2⟩, by simp [intOf]⟩
      · have f0 := hT'.free 1
        have t0 := hT'.cell 1
        have hT2 : Blk _ _ (tc q 2) _ := hT'.set 1 (.int .u64 (U q.b))
        have kT := Kept.one wy (w.heap.size + 1 + 1) 1 (.int .u64 (U q.b))
        simp [tc] at t0
        go_wp2
        exact ⟨⟨2, by omega, rfl, (hkk.then ky (fun _ _ h => h)).then kT (fun i hi (h : i = w.heap.size + 1 + 1) => by omega), (hS.kept ky (fun h => h)).kept kT (fun (h : w.heap.size = w.heap.size + 1 + 1) => by omega), ⟨z, hz, (hR.kept ky (fun h => h)).kept kT (fun (h : w.heap.size + 1 = w.heap.size + 1 + 1) => by omega)⟩, hT2⟩, by simp [intOf]⟩
      · have f0 := hT'.free 2
        have t0 := hT'.cell 2
        have hT2 : Blk _ _ (tc q 3) _ := hT'.set 2 (.int .u64 (U q.c))
        have kT := Kept.one wy (w.heap.size + 1 + 1) 2 (.int .u64 (U q.c))
        simp [tc] at t0
        go_wp2
        exact ⟨⟨3, by omega, rfl, (hkk.then ky (fun _ _ h => h)).then kT (fun i hi (h : i = w.heap.size + 1 + 1) => by omega), (hS.kept ky (fun h => h)).kept kT (fun (h : w.heap.size = w.heap.size + 1 + 1) => by omega), ⟨z, hz, (hR.kept ky (fun h => h)).kept kT (fun (h : w.heap.size + 1 = w.heap.size + 1 + 1) => by omega)⟩, hT2⟩, by simp [intOf]⟩
      · have f0 := hT'.free 3
        have t0 := hT'.cell 3
        have hT2 : Blk _ _ (tc q 4) _ := hT'.set 3 (.int .u64 (U q.d))
        have kT := Kept.one wy (w.heap.size + 1 + 1) 3 (.int .u64 (U q.d))
        simp [tc] at t0
        go_wp2
        exact ⟨⟨4, by omega, rfl, (hkk.then ky (fun _ _ h => h)).then kT (fun i hi (h : i = w.heap.size + 1 + 1) => by omega), (hS.kept ky (fun h => h)).kept kT (fun (h : w.heap.size = w.heap.size + 1 + 1) => by omega), ⟨z, hz, (hR.kept ky (fun h => h)).kept kT (fun (h : w.heap.size + 1 = w.heap.size + 1 + 1) => by omega)⟩, hT2⟩, by simp [intOf]⟩
      · have f0 := hT'.free 4
        have t0 := hT'.cell 4
        have hT2 : Blk _ _ (tc q 5) _ := hT'.set 4 (.int .u64 (U q.e))
        have kT := Kept.one wy (w.heap.size + 1 + 1) 4 (.int .u64 (U q.e))
        simp [tc] at t0
        go_wp2
        exact ⟨⟨5, by omega, rfl, (hkk.then ky (fun _ _ h => h)).then kT (fun i hi (h : i = w.heap.size + 1 + 1) => by omega), (hS.kept ky (fun h => h)).kept kT (fun (h : w.heap.size = w.heap.size + 1 + 1) => by omega), ⟨z, hz, (hR.kept ky (fun h => h)).kept kT (fun (h : w.heap.size + 1 = w.heap.size + 1 + 1) => by omega)⟩, hT2⟩, by simp [intOf]⟩
    · have h5' : k = 5 := by omega
      subst h5'
      have hT0 : Blk wr (w.heap.size + 1 + 1) (Sp.sc q) 117 := hT
      have mb := U_xor q.b q.a
      have ma := U_xor q.a q.e
      have md := U_xor q.d q.c
      have mc := U_not' q.c
      change _ = U q.mix.b at mb
      change _ = U q.mix.a at ma
      change _ = U q.mix.d at md
      change _ = U q.mix.c at mc
      have me : U q.e = U q.mix.e := rfl
      obtain ⟨m, hm⟩ : ∃ m, m = q.mix := ⟨_, rfl⟩
      rw [← hm] at ma mb mc md me
      have HM := hid (And.intro ma (And.intro mb (And.intro mc (And.intro md me))))
      have hRm : r = m.spread := by rw [hm]; exact HR.out
      have HR2 := hid hRm
      clear ma mb mc md me hm HR hRm
      have c0 := hT0.cell 0
      have c1 := hT0.cell 1
      have c2 := hT0.cell 2
      have c3 := hT0.cell 3
      have c4 := hT0.cell 4
      have f0 := hT0.free 0
      have f1 := hT0.free 1
      have f2 := hT0.free 2
      have f3 := hT0.free 3
      simp at c0 c1 c2 c3 c4
      go_wp2
      simp only [HM.out.1, HM.out.2.1, HM.out.2.2.1, HM.out.2.2.2.1]
      have hT1 : Blk ((((wr.setCell ⟨w.heap.size + 1 + 1, 1, none⟩ (.int .u64 (U m.b))).setCell ⟨w.heap.size + 1 + 1, 0, none⟩ (.int .u64 (U m.a))).setCell ⟨w.heap.size + 1 + 1, 3, none⟩ (.int .u64 (U m.d))).setCell ⟨w.heap.size + 1 + 1, 2, none⟩ (.int .u64 (U m.c))) (w.heap.size + 1 + 1) (Sp.sc m) 117 := by
        have h1 := (((hT0.set 1 (.int .u64 (U m.b))).set 0 (.int .u64 (U m.a))).set 3 (.int .u64 (U m.d))).set 2 (.int .u64 (U m.c))
        rw [show Sp.sc m = #[.int .u64 (U m.a), .int .u64 (U m.b), .int .u64 (U m.c), .int .u64 (U m.d), .int .u64 (U q.e)] by rw [HM.out.2.2.2.2]]
        exact h1
      have kA : Kept (Just (w.heap.size + 1 + 1)) wr ((((wr.setCell ⟨w.heap.size + 1 + 1, 1, none⟩ (.int .u64 (U m.b))).setCell ⟨w.heap.size + 1 + 1, 0, none⟩ (.int .u64 (U m.a))).setCell ⟨w.heap.size + 1 + 1, 3, none⟩ (.int .u64 (U m.d))).setCell ⟨w.heap.size + 1 + 1, 2, none⟩ (.int .u64 (U m.c))) :=
        (((Kept.one wr _ 1 _).one' 0 _).one' 3 _).one' 2 _
      clear c0 c1 c2 c3 c4 f0 f1 f2 f3 hT0 hT
      obtain ⟨wA, hwA⟩ : ∃ wA, wA = ((((wr.setCell ⟨w.heap.size + 1 + 1, 1, none⟩ (.int .u64 (U m.b))).setCell ⟨w.heap.size + 1 + 1, 0, none⟩ (.int .u64 (U m.a))).setCell ⟨w.heap.size + 1 + 1, 3, none⟩ (.int .u64 (U m.d))).setCell ⟨w.heap.size + 1 + 1, 2, none⟩ (.int .u64 (U m.c))) := ⟨_, rfl⟩
      rw [← hwA] at hT1 kA ⊢
      have hk0 : Kept None w wA := hkk.then kA (fun i hi (h : i = w.heap.size + 1 + 1) => by omega)
      have hS0 := hS.kept kA (fun (h : w.heap.size = w.heap.size + 1 + 1) => by omega)
      have hR0 := hR.kept kA (fun (h : w.heap.size + 1 = w.heap.size + 1 + 1) => by omega)
      clear hwA kA hkk hS hR HC HP
      -- word 0
      refine wp_region_plan (Kept (Just w.heap.size) wA) (planTurn w.heap.size #[.int .u64 (U p.a), .int .u64 (U p.b), .int .u64 (U p.c), .int .u64 (U p.d), .int .u64 (U p.e)] #[.int .u64 (U (lin m.a 19 28)), .int .u64 (U p.b), .int .u64 (U p.c), .int .u64 (U p.d), .int .u64 (U p.e)] m.a 19 28) [100] (by kernel_rfl) (by kernel_rfl) (by kernel_rfl) rfl planTurn_pure (Kept.refl _ _).drew (fun j hj => by
          obtain rfl : j = 100 := by simpa using hj
          exact hS0.drew) ?_
      iterate 4 (refine wpPar_pure rfl (by rfl) _ (fun W hW => by
          have c0 : W.cell? ⟨w.heap.size + 1 + 1, 0, none⟩ = some (.int .u64 (U m.a)) := (hT1.kept hW (fun (h : w.heap.size + 1 + 1 = w.heap.size) => by omega)).cell 0
          go_simp
          exact rfl) ?_; simp only [Act.put, List.setIfInBounds_toArray, List.set_cons_zero, List.set_cons_succ])
      refine wpPar_adds rfl (by rfl) (fun W hW _ => ?_) (fun v hv' => ?_)
      · unfold Gives
        go_simp
        refine gives_call (turn _ 19 _ rfl W (by decide) (by decide)) ?_
        rintro e w3 ⟨rfl, k3⟩
        exact ⟨_, rfl, hW.then k3 (fun _ _ h => h.elim), rfl, trivial, planTurn_keeps k3⟩
      obtain rfl : v = .int .u64 (U (rot m.a 19)) := hv'
      simp only [Act.put, List.setIfInBounds_toArray, List.set_cons_zero, List.set_cons_succ]
      iterate 3 (refine wpPar_pure rfl (by rfl) _ (fun W hW => by
          have c0 : W.cell? ⟨w.heap.size + 1 + 1, 0, none⟩ = some (.int .u64 (U m.a)) := (hT1.kept hW (fun (h : w.heap.size + 1 + 1 = w.heap.size) => by omega)).cell 0
          go_simp
          exact rfl) ?_; simp only [Act.put, List.setIfInBounds_toArray, List.set_cons_zero, List.set_cons_succ])
      refine wpPar_adds rfl (by rfl) (fun W hW _ => ?_) (fun v hv' => ?_)
      · unfold Gives
        go_simp
        refine gives_call (turn _ 28 _ rfl W (by decide) (by decide)) ?_
        rintro e w3 ⟨rfl, k3⟩
        exact ⟨_, rfl, hW.then k3 (fun _ _ h => h.elim), rfl, trivial, planTurn_keeps k3⟩
      obtain rfl : v = .int .u64 (U (rot m.a 28)) := hv'
      simp only [Act.put, List.setIfInBounds_toArray, List.set_cons_zero, List.set_cons_succ]
      iterate 2 (refine wpPar_pure rfl (by rfl) _ (fun W hW => by
          go_simp
          exact rfl) ?_; simp only [Act.put, List.setIfInBounds_toArray, List.set_cons_zero, List.set_cons_succ])
      simp only [lin_xor]
      refine wpPar_adds rfl (by rfl) (fun W hW hd => ?_) (fun v' _ => ?_)
      · have hB : Blk W w.heap.size #[.int .u64 (U p.a), .int .u64 (U p.b), .int .u64 (U p.c), .int .u64 (U p.d), .int .u64 (U p.e)] 117 := hd 100 (List.Mem.head _)
        have c0 := hB.cell 0
        have f0 := hB.free 0
        simp at c0
        have hB2 : Blk _ _ #[.int .u64 (U (lin m.a 19 28)), .int .u64 (U p.b), .int .u64 (U p.c), .int .u64 (U p.d), .int .u64 (U p.e)] _ := hB.set 0 (.int .u64 (U (lin m.a 19 28)))
        unfold Gives
        go_simp
        exact ⟨hW.one' 0 _, trivial, hB2, planTurn_keeps11⟩
      simp only [Act.put]
      refine wpPar_nil (fun w1 hW hG => ?_)
      have hS1 : Blk w1 w.heap.size #[.int .u64 (U (lin m.a 19 28)), .int .u64 (U p.b), .int .u64 (U p.c), .int .u64 (U p.d), .int .u64 (U p.e)] 117 := hG 11
      have hk1 : Kept None w w1 := hk0.then hW (fun i hi (h : i = w.heap.size) => by omega)
      have hR1 := hR0.kept hW (fun (h : w.heap.size + 1 = w.heap.size) => by omega)
      have hT2 := hT1.kept hW (fun (h : w.heap.size + 1 + 1 = w.heap.size) => by omega)
      clear hG hS0 hk0 hR0 hT1 hW
      go_wp2
      -- word 1
      refine wp_region_plan (Kept (Just w.heap.size) w1) (planTurn w.heap.size #[.int .u64 (U (lin m.a 19 28)), .int .u64 (U p.b), .int .u64 (U p.c), .int .u64 (U p.d), .int .u64 (U p.e)] #[.int .u64 (U (lin m.a 19 28)), .int .u64 (U (lin m.b 61 39)), .int .u64 (U p.c), .int .u64 (U p.d), .int .u64 (U p.e)] m.b 61 39) [100] (by kernel_rfl) (by kernel_rfl) (by kernel_rfl) rfl planTurn_pure (Kept.refl _ _).drew (fun j hj => by
          obtain rfl : j = 100 := by simpa using hj
          exact hS1.drew) ?_
      iterate 4 (refine wpPar_pure rfl (by rfl) _ (fun W hW => by
          have c0 : W.cell? ⟨w.heap.size + 1 + 1, 1, none⟩ = some (.int .u64 (U m.b)) := (hT2.kept hW (fun (h : w.heap.size + 1 + 1 = w.heap.size) => by omega)).cell 1
          go_simp
          exact rfl) ?_; simp only [Act.put, List.setIfInBounds_toArray, List.set_cons_zero, List.set_cons_succ])
      refine wpPar_adds rfl (by rfl) (fun W hW _ => ?_) (fun v hv' => ?_)
      · unfold Gives
        go_simp
        refine gives_call (turn _ 61 _ rfl W (by decide) (by decide)) ?_
        rintro e w3 ⟨rfl, k3⟩
        exact ⟨_, rfl, hW.then k3 (fun _ _ h => h.elim), rfl, trivial, planTurn_keeps k3⟩
      obtain rfl : v = .int .u64 (U (rot m.b 61)) := hv'
      simp only [Act.put, List.setIfInBounds_toArray, List.set_cons_zero, List.set_cons_succ]
      iterate 3 (refine wpPar_pure rfl (by rfl) _ (fun W hW => by
          have c0 : W.cell? ⟨w.heap.size + 1 + 1, 1, none⟩ = some (.int .u64 (U m.b)) := (hT2.kept hW (fun (h : w.heap.size + 1 + 1 = w.heap.size) => by omega)).cell 1
          go_simp
          exact rfl) ?_; simp only [Act.put, List.setIfInBounds_toArray, List.set_cons_zero, List.set_cons_succ])
      refine wpPar_adds rfl (by rfl) (fun W hW _ => ?_) (fun v hv' => ?_)
      · unfold Gives
        go_simp
        refine gives_call (turn _ 39 _ rfl W (by decide) (by decide)) ?_
        rintro e w3 ⟨rfl, k3⟩
        exact ⟨_, rfl, hW.then k3 (fun _ _ h => h.elim), rfl, trivial, planTurn_keeps k3⟩
      obtain rfl : v = .int .u64 (U (rot m.b 39)) := hv'
      simp only [Act.put, List.setIfInBounds_toArray, List.set_cons_zero, List.set_cons_succ]
      iterate 2 (refine wpPar_pure rfl (by rfl) _ (fun W hW => by
          go_simp
          exact rfl) ?_; simp only [Act.put, List.setIfInBounds_toArray, List.set_cons_zero, List.set_cons_succ])
      simp only [lin_xor]
      refine wpPar_adds rfl (by rfl) (fun W hW hd => ?_) (fun v' _ => ?_)
      · have hB : Blk W w.heap.size #[.int .u64 (U (lin m.a 19 28)), .int .u64 (U p.b), .int .u64 (U p.c), .int .u64 (U p.d), .int .u64 (U p.e)] 117 := hd 100 (List.Mem.head _)
        have c0 := hB.cell 1
        have f0 := hB.free 1
        simp at c0
        have hB2 : Blk _ _ #[.int .u64 (U (lin m.a 19 28)), .int .u64 (U (lin m.b 61 39)), .int .u64 (U p.c), .int .u64 (U p.d), .int .u64 (U p.e)] _ := hB.set 1 (.int .u64 (U (lin m.b 61 39)))
        unfold Gives
        go_simp
        exact ⟨hW.one' 1 _, trivial, hB2, planTurn_keeps11⟩
      simp only [Act.put]
      refine wpPar_nil (fun w2 hW hG => ?_)
      have hS2 : Blk w2 w.heap.size #[.int .u64 (U (lin m.a 19 28)), .int .u64 (U (lin m.b 61 39)), .int .u64 (U p.c), .int .u64 (U p.d), .int .u64 (U p.e)] 117 := hG 11
      have hk2 : Kept None w w2 := hk1.then hW (fun i hi (h : i = w.heap.size) => by omega)
      have hR2 := hR1.kept hW (fun (h : w.heap.size + 1 = w.heap.size) => by omega)
      have hT3 := hT2.kept hW (fun (h : w.heap.size + 1 + 1 = w.heap.size) => by omega)
      clear hG hS1 hk1 hR1 hT2 hW
      go_wp2
      -- word 2
      refine wp_region_plan (Kept (Just w.heap.size) w2) (planTurn w.heap.size #[.int .u64 (U (lin m.a 19 28)), .int .u64 (U (lin m.b 61 39)), .int .u64 (U p.c), .int .u64 (U p.d), .int .u64 (U p.e)] #[.int .u64 (U (lin m.a 19 28)), .int .u64 (U (lin m.b 61 39)), .int .u64 (U (lin m.c 1 6)), .int .u64 (U p.d), .int .u64 (U p.e)] m.c 1 6) [100] (by kernel_rfl) (by kernel_rfl) (by kernel_rfl) rfl planTurn_pure (Kept.refl _ _).drew (fun j hj => by
          obtain rfl : j = 100 := by simpa using hj
          exact hS2.drew) ?_
      iterate 4 (refine wpPar_pure rfl (by rfl) _ (fun W hW => by
          have c0 : W.cell? ⟨w.heap.size + 1 + 1, 2, none⟩ = some (.int .u64 (U m.c)) := (hT3.kept hW (fun (h : w.heap.size + 1 + 1 = w.heap.size) => by omega)).cell 2
          go_simp
          exact rfl) ?_; simp only [Act.put, List.setIfInBounds_toArray, List.set_cons_zero, List.set_cons_succ])
      refine wpPar_adds rfl (by rfl) (fun W hW _ => ?_) (fun v hv' => ?_)
      · unfold Gives
        go_simp
        refine gives_call (turn _ 1 _ rfl W (by decide) (by decide)) ?_
        rintro e w3 ⟨rfl, k3⟩
        exact ⟨_, rfl, hW.then k3 (fun _ _ h => h.elim), rfl, trivial, planTurn_keeps k3⟩
      obtain rfl : v = .int .u64 (U (rot m.c 1)) := hv'
      simp only [Act.put, List.setIfInBounds_toArray, List.set_cons_zero, List.set_cons_succ]
      iterate 3 (refine wpPar_pure rfl (by rfl) _ (fun W hW => by
          have c0 : W.cell? ⟨w.heap.size + 1 + 1, 2, none⟩ = some (.int .u64 (U m.c)) := (hT3.kept hW (fun (h : w.heap.size + 1 + 1 = w.heap.size) => by omega)).cell 2
          go_simp
          exact rfl) ?_; simp only [Act.put, List.setIfInBounds_toArray, List.set_cons_zero, List.set_cons_succ])
      refine wpPar_adds rfl (by rfl) (fun W hW _ => ?_) (fun v hv' => ?_)
      · unfold Gives
        go_simp
        refine gives_call (turn _ 6 _ rfl W (by decide) (by decide)) ?_
        rintro e w3 ⟨rfl, k3⟩
        exact ⟨_, rfl, hW.then k3 (fun _ _ h => h.elim), rfl, trivial, planTurn_keeps k3⟩
      obtain rfl : v = .int .u64 (U (rot m.c 6)) := hv'
      simp only [Act.put, List.setIfInBounds_toArray, List.set_cons_zero, List.set_cons_succ]
      iterate 2 (refine wpPar_pure rfl (by rfl) _ (fun W hW => by
          go_simp
          exact rfl) ?_; simp only [Act.put, List.setIfInBounds_toArray, List.set_cons_zero, List.set_cons_succ])
      simp only [lin_xor]
      refine wpPar_adds rfl (by rfl) (fun W hW hd => ?_) (fun v' _ => ?_)
      · have hB : Blk W w.heap.size #[.int .u64 (U (lin m.a 19 28)), .int .u64 (U (lin m.b 61 39)), .int .u64 (U p.c), .int .u64 (U p.d), .int .u64 (U p.e)] 117 := hd 100 (List.Mem.head _)
        have c0 := hB.cell 2
        have f0 := hB.free 2
        simp at c0
        have hB2 : Blk _ _ #[.int .u64 (U (lin m.a 19 28)), .int .u64 (U (lin m.b 61 39)), .int .u64 (U (lin m.c 1 6)), .int .u64 (U p.d), .int .u64 (U p.e)] _ := hB.set 2 (.int .u64 (U (lin m.c 1 6)))
        unfold Gives
        go_simp
        exact ⟨hW.one' 2 _, trivial, hB2, planTurn_keeps11⟩
      simp only [Act.put]
      refine wpPar_nil (fun w3 hW hG => ?_)
      have hS3 : Blk w3 w.heap.size #[.int .u64 (U (lin m.a 19 28)), .int .u64 (U (lin m.b 61 39)), .int .u64 (U (lin m.c 1 6)), .int .u64 (U p.d), .int .u64 (U p.e)] 117 := hG 11
      have hk3 : Kept None w w3 := hk2.then hW (fun i hi (h : i = w.heap.size) => by omega)
      have hR3 := hR2.kept hW (fun (h : w.heap.size + 1 = w.heap.size) => by omega)
      have hT4 := hT3.kept hW (fun (h : w.heap.size + 1 + 1 = w.heap.size) => by omega)
      clear hG hS2 hk2 hR2 hT3 hW
      go_wp2
      -- word 3
      refine wp_region_plan (Kept (Just w.heap.size) w3) (planTurn w.heap.size #[.int .u64 (U (lin m.a 19 28)), .int .u64 (U (lin m.b 61 39)), .int .u64 (U (lin m.c 1 6)), .int .u64 (U p.d), .int .u64 (U p.e)] #[.int .u64 (U (lin m.a 19 28)), .int .u64 (U (lin m.b 61 39)), .int .u64 (U (lin m.c 1 6)), .int .u64 (U (lin m.d 10 17)), .int .u64 (U p.e)] m.d 10 17) [100] (by kernel_rfl) (by kernel_rfl) (by kernel_rfl) rfl planTurn_pure (Kept.refl _ _).drew (fun j hj => by
          obtain rfl : j = 100 := by simpa using hj
          exact hS3.drew) ?_
      iterate 4 (refine wpPar_pure rfl (by rfl) _ (fun W hW => by
          have c0 : W.cell? ⟨w.heap.size + 1 + 1, 3, none⟩ = some (.int .u64 (U m.d)) := (hT4.kept hW (fun (h : w.heap.size + 1 + 1 = w.heap.size) => by omega)).cell 3
          go_simp
          exact rfl) ?_; simp only [Act.put, List.setIfInBounds_toArray, List.set_cons_zero, List.set_cons_succ])
      refine wpPar_adds rfl (by rfl) (fun W hW _ => ?_) (fun v hv' => ?_)
      · unfold Gives
        go_simp
        refine gives_call (turn _ 10 _ rfl W (by decide) (by decide)) ?_
        rintro e w3 ⟨rfl, k3⟩
        exact ⟨_, rfl, hW.then k3 (fun _ _ h => h.elim), rfl, trivial, planTurn_keeps k3⟩
      obtain rfl : v = .int .u64 (U (rot m.d 10)) := hv'
      simp only [Act.put, List.setIfInBounds_toArray, List.set_cons_zero, List.set_cons_succ]
      iterate 3 (refine wpPar_pure rfl (by rfl) _ (fun W hW => by
          have c0 : W.cell? ⟨w.heap.size + 1 + 1, 3, none⟩ = some (.int .u64 (U m.d)) := (hT4.kept hW (fun (h : w.heap.size + 1 + 1 = w.heap.size) => by omega)).cell 3
          go_simp
          exact rfl) ?_; simp only [Act.put, List.setIfInBounds_toArray, List.set_cons_zero, List.set_cons_succ])
      refine wpPar_adds rfl (by rfl) (fun W hW _ => ?_) (fun v hv' => ?_)
      · unfold Gives
        go_simp
        refine gives_call (turn _ 17 _ rfl W (by decide) (by decide)) ?_
        rintro e w3 ⟨rfl, k3⟩
        exact ⟨_, rfl, hW.then k3 (fun _ _ h => h.elim), rfl, trivial, planTurn_keeps k3⟩
      obtain rfl : v = .int .u64 (U (rot m.d 17)) := hv'
      simp only [Act.put, List.setIfInBounds_toArray, List.set_cons_zero, List.set_cons_succ]
      iterate 2 (refine wpPar_pure rfl (by rfl) _ (fun W hW => by
          go_simp
          exact rfl) ?_; simp only [Act.put, List.setIfInBounds_toArray, List.set_cons_zero, List.set_cons_succ])
      simp only [lin_xor]
      refine wpPar_adds rfl (by rfl) (fun W hW hd => ?_) (fun v' _ => ?_)
      · have hB : Blk W w.heap.size #[.int .u64 (U (lin m.a 19 28)), .int .u64 (U (lin m.b 61 39)), .int .u64 (U (lin m.c 1 6)), .int .u64 (U p.d), .int .u64 (U p.e)] 117 := hd 100 (List.Mem.head _)
        have c0 := hB.cell 3
        have f0 := hB.free 3
        simp at c0
        have hB2 : Blk _ _ #[.int .u64 (U (lin m.a 19 28)), .int .u64 (U (lin m.b 61 39)), .int .u64 (U (lin m.c 1 6)), .int .u64 (U (lin m.d 10 17)), .int .u64 (U p.e)] _ := hB.set 3 (.int .u64 (U (lin m.d 10 17)))
        unfold Gives
        go_simp
        exact ⟨hW.one' 3 _, trivial, hB2, planTurn_keeps11⟩
      simp only [Act.put]
      refine wpPar_nil (fun w4 hW hG => ?_)
      have hS4 : Blk w4 w.heap.size #[.int .u64 (U (lin m.a 19 28)), .int .u64 (U (lin m.b 61 39)), .int .u64 (U (lin m.c 1 6)), .int .u64 (U (lin m.d 10 17)), .int .u64 (U p.e)] 117 := hG 11
      have hk4 : Kept None w w4 := hk3.then hW (fun i hi (h : i = w.heap.size) => by omega)
      have hR4 := hR3.kept hW (fun (h : w.heap.size + 1 = w.heap.size) => by omega)
      have hT5 := hT4.kept hW (fun (h : w.heap.size + 1 + 1 = w.heap.size) => by omega)
      clear hG hS3 hk3 hR3 hT4 hW
      go_wp2
      -- word 4
      refine wp_region_plan (Kept (Just w.heap.size) w4) (planTurn w.heap.size #[.int .u64 (U (lin m.a 19 28)), .int .u64 (U (lin m.b 61 39)), .int .u64 (U (lin m.c 1 6)), .int .u64 (U (lin m.d 10 17)), .int .u64 (U p.e)] #[.int .u64 (U (lin m.a 19 28)), .int .u64 (U (lin m.b 61 39)), .int .u64 (U (lin m.c 1 6)), .int .u64 (U (lin m.d 10 17)), .int .u64 (U (lin m.e 7 41))] m.e 7 41) [100] (by kernel_rfl) (by kernel_rfl) (by kernel_rfl) rfl planTurn_pure (Kept.refl _ _).drew (fun j hj => by
          obtain rfl : j = 100 := by simpa using hj
          exact hS4.drew) ?_
      iterate 4 (refine wpPar_pure rfl (by rfl) _ (fun W hW => by
          have c0 : W.cell? ⟨w.heap.size + 1 + 1, 4, none⟩ = some (.int .u64 (U m.e)) := (hT5.kept hW (fun (h : w.heap.size + 1 + 1 = w.heap.size) => by omega)).cell 4
          go_simp
          exact rfl) ?_; simp only [Act.put, List.setIfInBounds_toArray, List.set_cons_zero, List.set_cons_succ])
      refine wpPar_adds rfl (by rfl) (fun W hW _ => ?_) (fun v hv' => ?_)
      · unfold Gives
        go_simp
        refine gives_call (turn _ 7 _ rfl W (by decide) (by decide)) ?_
        rintro e w3 ⟨rfl, k3⟩
        exact ⟨_, rfl, hW.then k3 (fun _ _ h => h.elim), rfl, trivial, planTurn_keeps k3⟩
      obtain rfl : v = .int .u64 (U (rot m.e 7)) := hv'
      simp only [Act.put, List.setIfInBounds_toArray, List.set_cons_zero, List.set_cons_succ]
      iterate 3 (refine wpPar_pure rfl (by rfl) _ (fun W hW => by
          have c0 : W.cell? ⟨w.heap.size + 1 + 1, 4, none⟩ = some (.int .u64 (U m.e)) := (hT5.kept hW (fun (h : w.heap.size + 1 + 1 = w.heap.size) => by omega)).cell 4
          go_simp
          exact rfl) ?_; simp only [Act.put, List.setIfInBounds_toArray, List.set_cons_zero, List.set_cons_succ])
      refine wpPar_adds rfl (by rfl) (fun W hW _ => ?_) (fun v hv' => ?_)
      · unfold Gives
        go_simp
        refine gives_call (turn _ 41 _ rfl W (by decide) (by decide)) ?_
        rintro e w3 ⟨rfl, k3⟩
        exact ⟨_, rfl, hW.then k3 (fun _ _ h => h.elim), rfl, trivial, planTurn_keeps k3⟩
      obtain rfl : v = .int .u64 (U (rot m.e 41)) := hv'
      simp only [Act.put, List.setIfInBounds_toArray, List.set_cons_zero, List.set_cons_succ]
      iterate 2 (refine wpPar_pure rfl (by rfl) _ (fun W hW => by
          go_simp
          exact rfl) ?_; simp only [Act.put, List.setIfInBounds_toArray, List.set_cons_zero, List.set_cons_succ])
      simp only [lin_xor]
      refine wpPar_adds rfl (by rfl) (fun W hW hd => ?_) (fun v' _ => ?_)
      · have hB : Blk W w.heap.size #[.int .u64 (U (lin m.a 19 28)), .int .u64 (U (lin m.b 61 39)), .int .u64 (U (lin m.c 1 6)), .int .u64 (U (lin m.d 10 17)), .int .u64 (U p.e)] 117 := hd 100 (List.Mem.head _)
        have c0 := hB.cell 4
        have f0 := hB.free 4
        simp at c0
        have hB2 : Blk _ _ #[.int .u64 (U (lin m.a 19 28)), .int .u64 (U (lin m.b 61 39)), .int .u64 (U (lin m.c 1 6)), .int .u64 (U (lin m.d 10 17)), .int .u64 (U (lin m.e 7 41))] _ := hB.set 4 (.int .u64 (U (lin m.e 7 41)))
        unfold Gives
        go_simp
        exact ⟨hW.one' 4 _, trivial, hB2, planTurn_keeps11⟩
      simp only [Act.put]
      refine wpPar_nil (fun w5 hW hG => ?_)
      have hS5 : Blk w5 w.heap.size #[.int .u64 (U (lin m.a 19 28)), .int .u64 (U (lin m.b 61 39)), .int .u64 (U (lin m.c 1 6)), .int .u64 (U (lin m.d 10 17)), .int .u64 (U (lin m.e 7 41))] 117 := hG 11
      have hk5 : Kept None w w5 := hk4.then hW (fun i hi (h : i = w.heap.size) => by omega)
      have hR5 := hR4.kept hW (fun (h : w.heap.size + 1 = w.heap.size) => by omega)
      have hT6 := hT5.kept hW (fun (h : w.heap.size + 1 + 1 = w.heap.size) => by omega)
      clear hG hS4 hk4 hR4 hT5 hW
      have hS6 : Blk w5 w.heap.size (Sp.sc r) 117 := by rw [HR2.out]; exact hS5
      clear hS5 HR2 HM
      have E := hid hz
      clear hz
      go_wp2_with (first | (refine wpList_load_blk rfl _ _ rfl rfl hS6 Sp.aS ?_) | (refine wpList_store_blk rfl _ _ _ rfl rfl rfl hR5 Sp.aS E.out (Sp.sc_all _) ?_; intro w6 hR6 k6) | fail)
      exact bodyPost_ret (v := Sp.sv r) (results_blk rfl _ rfl hR6 Sp.aS) rfl ⟨rfl, hk5.then k6 (fun i hi (h : i = w.heap.size + 1) => by omega)⟩
end Ref
end Go.Proofs.Ytglibdggoobocaa

/- postmarkref1.Perm, by its contract. -/
namespace Go.Proofs.Ytglibdggoobocaa
open Go.RowKit Go.Pm
namespace Ref

/-- The rounds' numbers, as the reference has them. -/
abbrev constC : Array Value := #[.int .u64 240, .int .u64 225, .int .u64 210, .int .u64 195, .int .u64 180, .int .u64 165, .int .u64 150, .int .u64 135, .int .u64 120, .int .u64 105, .int .u64 90, .int .u64 75]
theorem constC_at : ∀ k : Nat, k < 12 → constC[k]? = some (.int .u64 (240 - 15 * k)) := by
  intro k hk
  match k, hk with
  | 0, _ => rfl
  | 1, _ => rfl
  | 2, _ => rfl
  | 3, _ => rfl
  | 4, _ => rfl
  | 5, _ => rfl
  | 6, _ => rfl
  | 7, _ => rfl
  | 8, _ => rfl
  | 9, _ => rfl
  | 10, _ => rfl
  | 11, _ => rfl

set_option maxRecDepth 100000 in
set_option maxHeartbeats 1000000 in
theorem perm (s : S5) (w : World) :
    Calls Try.prog 87 #[Sp.sv s] w fun e w' => e = .returned (Sp.sv s.perm) ∧ Kept None w w' := by
  obtain ⟨st, hst⟩ : ∃ st : Nat → S5, ∀ k, st k = (consts.take k).foldl S5.round s := ⟨_, fun _ => rfl⟩
  have h0 : st 0 = s := hst 0
  have hs : ∀ k : Nat, k < 12 → ∀ n : U64, U n = 240 - 15 * k → st (k + 1) = (st k).round n := fun k hk n hn => by rw [hst, hst]; exact consts_step k hk n hn s
  have he : s.perm = st 12 := by rw [hst]; rfl
  rw [he]
  have H0 := hid h0
  have HS := hid hs
  clear h0 hs he hst
  go_enter Try.func87, Try.ntmps87
  go_wp2
  go_loopw [4] (fun i wr => ∃ k : Nat, k ≤ 12 ∧ i = .int .i64 k ∧ Kept None w wr ∧ Blk wr w.heap.size (Sp.sc (st k)) 117 ∧ (∃ z : Array Value, z.size = 5 ∧ Blk wr (w.heap.size + 1) z 117) ∧ Blk wr (w.heap.size + 1 + 1) constC 126) (fun i _ => 12 - (intOf i).toNat)
  case atStart =>
    refine ⟨0, by omega, rfl, (((Kept.refl _ _).alloc _).alloc _).alloc _, ?_, ⟨_, ?_, (Blk.new2 _ _ _ _).alloc _⟩, Blk.new3 _ _ _ _ _⟩
    · rw [H0.out]; exact ((Blk.new _ _ _).alloc _).alloc _
    · rfl
  case round =>
    obtain ⟨k, hk, rfl, hkk, hS, ⟨z, hz, hR⟩, hC⟩ := hrel
    by_cases hlt : k < 12
    · obtain ⟨n, hn⟩ : ∃ n : U64, U n = 240 - 15 * k := ⟨W (240 - 15 * k), U_W _ (by omega) (by omega)⟩
      have hc := hC.cell k
      rw [constC_at k hlt, ← hn] at hc
      have HN := hid (HS.out k hlt n hn)
      clear hn
      go_wp2
      refine wp_tail 4 (by kernel_rfl) (by kernel_rfl) (fun wy ky => ?_)
      have hS' := hS.kept ky (fun h => h)
      have hR' := hR.kept ky (fun h => h)
      have hC' := hC.kept ky (fun h => h)
      have hk' := hkk.then ky (fun _ _ h => h)
      have hc' : wy.cell? ⟨w.heap.size + 1 + 1, k, none⟩ = some (.int .u64 (U n)) := by
        rw [← hc]; exact (hC'.cell k).trans (hC.cell k).symm
      have c0 := hS'.cell 0
      have c1 := hS'.cell 1
      have c2 := hS'.cell 2
      have c3 := hS'.cell 3
      have c4 := hS'.cell 4
      simp at c0 c1 c2 c3 c4
      clear hc ky hS hR hC hkk
      simp only [List.take_succ_cons, List.take_zero, List.drop_succ_cons, List.drop_zero]
      repeat still_step
      refine wpStill_nil ?_
      clear c0 c1 c2 c3 c4 hc'
      go_wp2_with fail
      refine (round (st k) n _).mono ?_
      rintro e1 w1 ⟨rfl, k1⟩
      rw [← HN.out]
      have hS1 := hS'.kept k1 (fun h => h)
      have hR1 := hR'.kept k1 (fun h => h)
      have hC1 := hC'.kept k1 (fun h => h)
      have hk1 := hk'.then k1 (fun _ _ h => h)
      clear hS' hR' hC' hk' k1 HN
      go_wp2_with (first | (refine wpList_store_blk rfl _ _ _ rfl rfl rfl hS1 Sp.aS rfl (Sp.sc_all _) ?_; intro w2 hS2 k2) | fail)
      have hC2 := hC1.kept k2 (fun (h : w.heap.size + 1 + 1 = w.heap.size) => by omega)
      have hR2 := hR1.kept k2 (fun (h : w.heap.size + 1 = w.heap.size) => by omega)
      have hk2 := hk1.then k2 (fun i hi (h : i = w.heap.size) => by omega)
      clear hS1 hR1 hC1 hk1 k2
      go_wp2
      go_roundw
      case rel => exact ⟨k + 1, by omega, by go_num, hk2, hS2, ⟨z, hz, hR2⟩, hC2⟩
      case measure => simp [intOf]; omega
    · have h12 : k = 12 := by omega
      subst h12
      have E := hid hz
      clear hz hC
      go_wp2_with (first | (refine wpList_load_blk rfl _ _ rfl rfl hS Sp.aS ?_) | (refine wpList_store_blk rfl _ _ _ rfl rfl rfl hR Sp.aS E.out (Sp.sc_all _) ?_; intro w6 hR6 k6) | fail)
      exact bodyPost_ret (v := Sp.sv (st 12)) (results_blk rfl _ rfl hR6 Sp.aS) rfl ⟨rfl, hkk.then k6 (fun i hi (h : i = w.heap.size + 1) => by omega)⟩
end Ref
end Go.Proofs.Ytglibdggoobocaa

/- postmarkref1.Sum, by its contract. -/
namespace Go.Proofs.Ytglibdggoobocaa
open Go.RowKit Go.Pm
namespace Ref

theorem perm_first (w : World) : Calls Try.prog 87 #[.agg #[.int .u64 8800401358850, .int .u64 0, .int .u64 0, .int .u64 0, .int .u64 0]] w fun e w' => e = .returned (Sp.sv first) ∧ Kept None w w' :=
  perm ⟨0x0000080100cc0002, 0, 0, 0, 0⟩ w

set_option maxRecDepth 100000 in
set_option maxHeartbeats 2000000 in
theorem sum (v : Value) (lo hi : Nat) (l : List UInt8) (w : World) (hv : Bs w lo hi v l) (hl : l.length ≤ 140737488355000) :
    Calls Try.prog 74 #[v] w fun e w' => e = .returned (hashV (sumB l)) ∧ Kept None w w' := by
  have pf := perm_first
  obtain ⟨ab, ab0, abS, abE⟩ := absorb_all l
  have e32 : ((eights (soaked l) 4).map u8v).toArray.size = 32 := by simp [eights_len]
  show Calls _ _ _ w fun e w' => e = .returned (hashV (eights (soaked l) 4)) ∧ Kept None w w'
  obtain ⟨so, hso⟩ : ∃ so, so = soaked l := ⟨_, rfl⟩
  rw [← ab0] at pf
  rw [← hso] at abE e32 ⊢
  have PF := hid pf
  have AS := hid abS
  have AE := hid abE
  have K3 := hid e32
  clear pf abS abE e32 hso ab0
  obtain ⟨a, cap, rfl, g1, g2, g3⟩ := hv.shape
  clear g3
  go_enter Try.func74, Try.ntmps74
  have hv0 := hv.kept ((Kept.refl None w).alloc (.cells (Array.replicate 32 (.int .u8 0)) 52)) (fun _ _ _ h => h)
  go_wp2_with (at_builtin; refine wpList_append_bo (l := []) (m := l) (base := w.heap.size + 1) (lo := lo) (hi := hi) rfl _ _ 22 rfl rtBytes rfl rfl ?h1 ?h2 ?h3 ?h4 ?h5)
  case h1 => exact Bo.nil _ _ _
  case h2 => exact hv0
  case h3 => simp; omega
  case h4 => simp
  intro a1 n1 c1 w1 b1 k1
  obtain ⟨z, hz, hR⟩ : ∃ z : Array Value, z.size = 32 ∧ Blk w1 w.heap.size z 52 := ⟨Array.replicate 32 (.int .u8 0), by simp, (Blk.new w _ _).kept k1 (fun h => by cases h)⟩
  have k2 : Kept None w w1 := ((Kept.refl _ _).alloc _).then k1 (fun i hi h => by cases h)
  have hs1 := k1.size
  simp only [World.size_alloc] at hs1
  have HZ := hid hz
  clear hv hv0 k1 hz
  go_wp2_with (at_builtin; refine wpList_append_byte rfl _ _ 22 rfl rtBytes rfl rfl b1 (by decide) (by decide) ?h1 ?h2 ?h3)
  case h1 => omega
  case h2 => exact hs1
  case h3 =>
  intro a2 n2 c2 w2 b2 k3
  have k4 : Kept None w w2 := k2.own k3 (fun k hk => by have := (b1.own k hk).1; omega)
  have hR2 : Blk w2 w.heap.size z 52 := hR.kept k3 (fun h => by have := (b1.own _ h).1; omega)
  have b3 : Ob w2 (w.heap.size + 1) (.slice a2 n2 c2) ((l ++ [1]) ++ List.replicate 0 0) := by
    rw [show Go.Pm.byteOf 1 = 1 from rfl] at b2
    simpa using b2
  clear b1 b2 k2 k3 hR
  go_wp2
  go_loopw [3] (fun x wr => ∃ j : Nat, j ≤ noughts l ∧ (∃ a n c, x = .slice a n c) ∧ Ob wr (w.heap.size + 1) x ((l ++ [1]) ++ List.replicate j 0) ∧ Kept None w wr ∧ Blk wr w.heap.size z 52) (fun x _ => l.length + 9 - Sp.lenOf x)
  case atStart => exact ⟨0, Nat.zero_le _, ⟨_, _, _, rfl⟩, b3, k4, hR2⟩
  case round =>
    clear b3 k4 hR2
    obtain ⟨j, hj, ⟨a3, n3, c3, rfl⟩, hb, hkk, hR⟩ := hrel
    have hn3 : n3 = l.length + 1 + j := by
      obtain ⟨_, _, hf⟩ := hb.form
      injection hf with _ h2 _
      rw [h2]; simp; omega
    have hn8 : noughts l < 8 := Nat.mod_lt _ (by decide)
    have hsz : w.heap.size + 1 ≤ wr.heap.size := hR.lt
    by_cases h8 : n3 % 8 = 0
    · have hj2 : j = noughts l := by unfold noughts at hj ⊢; omega
      have b5 : Ob wr (w.heap.size + 1) (.slice a3 n3 c3) (padded l) := by rw [padded_is, ← hj2]; exact hb
      have hpl := padded_len l
      have hn4 : n3 = 8 * (l.length / 8 + 1) := by
        obtain ⟨_, _, hf⟩ := b5.form
        injection hf with _ h2 _
        rw [h2, hpl]
      obtain ⟨M, hM⟩ : ∃ M, M = l.length / 8 + 1 := ⟨_, rfl⟩
      rw [← hM] at hn4 hpl AE
      have hM2 : M ≤ 17592186044500 := by omega
      have h8' : ((n3 : Int) % 8 != 0) = false := by simp; omega
      have HPL := hid hpl
      have HN := hid hn4
      clear hj hj2 hb hn3 hn8 hpl hM hn4
      go_wp2_with fail
      refine (PF.out _).mono ?_
      rintro e1 w3 ⟨rfl, k3⟩
      have hR3 := hR.kept k3 (fun h => h)
      have b6 := b5.kept k3 (fun _ _ h => h)
      have k4 := hkk.then k3 (fun _ _ h => h)
      have hs3 := k3.size
      have hz3 := hR3.lt
      clear hkk hR b5 k3
      go_wp2
      obtain ⟨wo, rfl⟩ : ∃ wo : World, wo = wr := ⟨_, rfl⟩
      go_loopw [5] (fun i wr => ∃ j : Nat, j ≤ M ∧ i = .int .i64 (8 * (j : Int)) ∧ Kept None w wr ∧ Blk wr w3.heap.size (Sp.sc (ab j)) 117 ∧ Blk wr w.heap.size z 52 ∧ Ob wr (w.heap.size + 1) (.slice a3 n3 c3) (padded l)) (fun i _ => 8 * M - (intOf i).toNat)
      case atStart => exact ⟨0, Nat.zero_le _, by simp, k4.alloc _, Blk.new _ _ _, hR3.alloc _, b6.alloc _⟩
      case round =>
        have hown : ∀ k, (Value.slice a3 n3 c3).ownBlock = some k → w.heap.size + 1 ≤ k ∧ k < w3.heap.size := b6.own
        clear k4 hR3 b6
        obtain ⟨j, hj, rfl, hkk, hS, hR, hb⟩ := hrel
        by_cases hlt : j < M
        · have hn3 := HN.out
          have hpl := HPL.out
          have hbs := hb.bs (Nat.le_refl _)
          obtain ⟨a', s1, p1⟩ := slice_mid tBytes zBytes hbs .i64 .i64 (8 * (j : Int)) (8 * (j : Int) + 8) (by omega) (by omega) (by omega)
          rw [show (8 * (j : Int)).toNat = 8 * j by omega, show (8 * (j : Int) + 8).toNat = 8 * j + 8 by omega, show 8 * j + 8 - 8 * j = 8 by omega] at s1 p1
          rw [← List.map_take, ← List.map_drop] at p1
          have hlr : leV (((padded l).take (8 * j + 8)).drop (8 * j)) = leV ((padded l).drop (8 * j)) := by
            rw [List.drop_take, show 8 * j + 8 - 8 * j = 8 by omega, leV_take]
          have hl8 : (((padded l).take (8 * j + 8)).drop (8 * j)).length = 8 := by rw [List.length_drop, List.length_take, hpl]; omega
          have hc3 : n3 ≤ c3 ∧ c3 ≤ 9223372036854775807 := by
            obtain ⟨_, _, e, h1, h2, _⟩ := hbs.shape
            injection e with e1 e2 e3
            omega
          have hlt2 : 8 * j < n3 := by omega
          have hlt3 : n3 ≤ 140737488356000 := by omega
          have hlts := hS.lt
          obtain ⟨hc31, hc32⟩ := hc3
          have ew : IntKind.i64.wrap (8 * (j : Int) + 8) = 8 * (j : Int) + 8 := by rw [IntKind.wrap_i64]; omega
          have hx := mixed_a (ab j) (leV ((padded l).drop (8 * j))) (leV_ge _) (leV_lt _)
          have HST := hid (AS.out j)
          have HX := hid (And.intro hlr (And.intro hl8 (And.intro hx ew)))
          clear hn3 hpl hlr hl8 hx ew hbs
          go_wp2
          refine wp_tail 10 (by kernel_rfl) (by kernel_rfl) (fun wy ky => ?_)
          have hS' := hS.kept ky (fun h => h)
          have hR' := hR.kept ky (fun h => h)
          have hb' := hb.kept ky (fun _ _ h => h)
          have hk' := hkk.then ky (fun _ _ h => h)
          have hv' := Vs.kept p1 ky (fun _ _ _ h => h)
          have c0 := hS'.cell 0
          have f0 := hS'.free 0
          simp at c0
          have ew := HX.out.2.2.2
          simp only [List.take_succ_cons, List.take_zero, List.drop_succ_cons, List.drop_zero]
          repeat still_step
          still_call (Calls.same (word _ _ _ _ wy hv' HX.out.2.1))
          repeat still_step
          refine wpStill_nil ?_
          clear ew
          rw [HX.out.1, HX.out.2.2.1]
          generalize hx' : leV ((padded l).drop (8 * j)) = x at *
          have hS2 : Blk (wy.setCell ⟨w3.heap.size, 0, none⟩ (.int .u64 (U ((ab j).mixed (W x)).a))) w3.heap.size (Sp.sc ((ab j).mixed (W x))) 117 := hS'.set 0 _
          have ky2 := (Kept.one wy w3.heap.size 0 (.int .u64 (U ((ab j).mixed (W x)).a)))
          have HX2 := hid hx'
          clear hx' HX hS hR hkk hb p1 hv' hS' ky
          go_wp2_with (first | (refine wpList_load_blk rfl _ _ rfl rfl hS2 Sp.aS ?_) | fail)
          refine (perm _ _).mono ?_
          rintro e1 w4 ⟨rfl, k1⟩
          rw [← HST.out]
          have hS3 := hS2.kept k1 (fun h => h)
          have hk3 : Kept None w w4 := (hk'.then ky2 (fun i hi (h : i = w3.heap.size) => by omega)).then k1 (fun _ _ h => h)
          have hb3 := (hb'.kept ky2 (fun i h1 (h : i = w3.heap.size) => by have := hown i h1; omega)).kept k1 (fun _ _ h => h)
          have hR3 := (hR'.kept ky2 (fun (h : w.heap.size = w3.heap.size) => by omega)).kept k1 (fun h => h)
          clear hS2 hk' hb' hR' ky2 k1 c0 f0
          go_wp2_with (first | (refine wpList_store_blk rfl _ _ _ rfl rfl rfl hS3 Sp.aS rfl (Sp.sc_all _) ?_; intro w5 hS4 k4) | fail)
          exact ⟨⟨j + 1, by omega, by go_num, hk3.then k4 (fun i hi (h : i = w3.heap.size) => by omega), hS4, hR3.kept k4 (fun (h : w.heap.size = w3.heap.size) => by omega), hb3.kept k4 (fun i h1 (h : i = w3.heap.size) => by have := hown i h1; omega)⟩, by simp only [intOf]; omega⟩
        · have hjM : j = M := by omega
          subst hjM
          rw [← AE.out] at hS
          have hn3 := HN.out
          have hge : n3 ≤ 8 * j := by omega
          have hlts := hS.lt
          clear hn3 hb hown
          go_wp2
          obtain ⟨wp, rfl⟩ : ∃ wp : World, wp = wr := ⟨_, rfl⟩
          go_loopw [7] (fun i wr => ∃ k : Nat, k ≤ 4 ∧ i = .int .i64 k ∧ Kept None w wr ∧ Blk wr w3.heap.size (Sp.sc (Go.Pm.squeeze so (k - 1))) 117 ∧ Blk wr w.heap.size z 52 ∧ Blk wr wp.heap.size (Sp.sofar so k).toArray 52) (fun i _ => 4 - (intOf i).toNat)
          case atStart => exact ⟨0, Nat.zero_le _, rfl, hkk.alloc _, hS.alloc _, hR.alloc _, Sp.sofar_zero so ▸ Blk.new _ _ _⟩
          case round =>
            clear hkk hS hR
            obtain ⟨k, hk, rfl, hkk, hS, hR, hH⟩ := hrel
            by_cases hlt : k < 4
            · have hwp := hH.lt
              rcases Nat.eq_zero_or_pos k with h0 | h0
              case' inl =>
                obtain ⟨wx, hwx⟩ : ∃ wx, wx = wr := ⟨_, rfl⟩
                have hkx : Kept None w wx := by rw [hwx]; exact hkk
                have hSx : Blk wx w3.heap.size (Sp.sc (Go.Pm.squeeze so k)) 117 := by rw [hwx, h0]; rw [h0] at hS; exact hS
                have hRx : Blk wx w.heap.size z 52 := by rw [hwx]; exact hR
                have hHx : Blk wx wp.heap.size (Sp.sofar so k).toArray 52 := by rw [hwx]; exact hH
                rw [← hwx]
                have h0' : ¬ 0 < k := by omega
                clear hkk hS hR hH hwx h0
                have c0 := hSx.cell 0
                simp at c0
                go_wp2_with fail
              case' inr =>
                have h0' : 0 < k := h0
                go_wp2_with (first | (refine wpList_load_blk rfl _ _ rfl rfl hS Sp.aS ?_) | fail)
                refine (perm _ _).mono ?_
                rintro e1 w4 ⟨rfl, k1⟩
                rw [show (Go.Pm.squeeze so (k - 1)).perm = Go.Pm.squeeze so k by obtain ⟨i, rfl⟩ : ∃ i, k = i + 1 := ⟨k - 1, by omega⟩; rfl]
                have hS1 := hS.kept k1 (fun h => h)
                go_wp2_with (first | (refine wpList_store_blk rfl _ _ _ rfl rfl rfl hS1 Sp.aS rfl (Sp.sc_all _) ?_; intro wx hSx k2; have c0 := hSx.cell 0; simp at c0) | fail)
                have hkx : Kept None w wx := (hkk.then k1 (fun _ _ h => h)).then k2 (fun i hi (h : i = w3.heap.size) => by omega)
                have hRx := (hR.kept k1 (fun h => h)).kept k2 (fun (h : w.heap.size = w3.heap.size) => by omega)
                have hHx := (hH.kept k1 (fun h => h)).kept k2 (fun (h : wp.heap.size = w3.heap.size) => by omega)
                clear hkk hS hR hH hS1 k1 k2 h0
              all_goals
                have hu := U_ge (Go.Pm.squeeze so k).a
                have hu2 := U_lt (Go.Pm.squeeze so k).a
                refine (num _ _ hu hu2).mono ?_
                rintro e2 w6 ⟨v6, rfl, k6, b6⟩
                obtain ⟨X, hX⟩ : ∃ X, X = leB (U (Go.Pm.squeeze so k).a) := ⟨_, rfl⟩
                rw [← hX] at b6
                have hX8 : X.length = 8 := by rw [hX]; rfl
                have hend := Sp.sofar_splice so k hlt
                rw [← hX] at hend
                have hfull := Sp.sofar_len so k hk
                have hS6 := hSx.kept k6 (fun h => h)
                have hR6 := hRx.kept k6 (fun h => h)
                have hH6 : Blk w6 wp.heap.size (splice (Sp.sofar so k) (8 * k) ((X.map u8v).take 0)).toArray 52 := by
                  have : splice (Sp.sofar so k) (8 * k) ((X.map u8v).take 0) = Sp.sofar so k := by simp [splice]
                  rw [this]; exact hHx.kept k6 (fun h => h)
                have hk6 := hkx.then k6 (fun _ _ h => h)
                have hwx := hHx.lt
                have hbo : ∀ i, v6.ownBlock = some i → wp.heap.size < i := fun i hi => by have := (b6.own i hi).1; omega
                obtain ⟨a6, c6, rfl⟩ := b6.form
                rw [hX8] at b6 hbo ⊢
                have HE := hid (And.intro hX8 (And.intro hend hfull))
                clear hu hu2 hX hX8 hend hfull hSx hRx hHx hkx k6 c0
                obtain ⟨wq, rfl⟩ : ∃ wq : World, wq = wx := ⟨_, rfl⟩
                go_wp2
                go_loopw [9] (fun q wr => ∃ m : Nat, m ≤ 8 ∧ q = .int .i64 m ∧ Kept None w wr ∧ Blk wr w3.heap.size (Sp.sc (Go.Pm.squeeze so k)) 117 ∧ Blk wr w.heap.size z 52 ∧ Blk wr wp.heap.size (splice (Sp.sofar so k) (8 * k) ((X.map u8v).take m)).toArray 52 ∧ Ob wr wq.heap.size (.slice a6 8 c6) X) (fun q _ => 8 - (intOf q).toNat)
                case atStart => exact ⟨0, Nat.zero_le _, rfl, hk6, hS6, hR6, hH6, b6⟩
                case round =>
                  clear hk6 hS6 hR6 hH6 b6
                  obtain ⟨m, hm, rfl, hkk, hS, hR, hH, hb⟩ := hrel
                  by_cases hm8 : m < 8
                  · obtain ⟨hX8, hend, hfull⟩ := HE.out
                    obtain ⟨b, o, rfl, q1, q2, q3, hcs⟩ := Bs.ne (hb.bs (Nat.le_refl _)) (by omega)
                    have hc := hcs m (by omega)
                    have hxm : (X.map u8v)[m]? = some (.int .u8 (bAt X m)) := by
                      rw [List.getElem?_map, List.getElem?_eq_getElem (by omega), Option.map_some, u8v_at X m (by omega)]
                    have hst := splice_step (Sp.sofar so k) (X.map u8v) (8 * k) m (by simp; omega) (by simp; omega) _ hxm
                    have hlen : (splice (Sp.sofar so k) (8 * k) ((X.map u8v).take m)).length = 32 := by
                      rw [length_splice _ _ _ (by simp; omega), hfull]
                    obtain ⟨y, hy⟩ : ∃ y, wr.cell? ⟨wp.heap.size, 8 * k + m, none⟩ = some y := ⟨_, (hH.cell (8 * k + m)).trans (by rw [List.getElem?_toArray, List.getElem?_eq_getElem (by omega)])⟩
                    have fy := hH.free (8 * k + m)
                    have hH2 : Blk (wr.setCell ⟨wp.heap.size, 8 * k + m, none⟩ (.int .u8 (bAt X m))) wp.heap.size (splice (Sp.sofar so k) (8 * k) ((X.map u8v).take (m + 1))).toArray 52 := by
                      have := hH.set (8 * k + m) (.int .u8 (bAt X m))
                      rw [List.setIfInBounds_toArray, hst] at this
                      exact this
                    have kH := Kept.one wr wp.heap.size (8 * k + m) (.int .u8 (bAt X m))
                    have b0 := bAt_ge X m
                    have b1 := bAt_lt X m
                    have et : (8 * (k : Int) + (m : Int)).toNat = 8 * k + m := by omega
                    have hbo' := hbo b rfl
                    have hS2 := hS.kept kH (fun (h : w3.heap.size = wp.heap.size) => by omega)
                    have hR2 := hR.kept kH (fun (h : w.heap.size = wp.heap.size) => by omega)
                    have hk2 := hkk.then kH (fun i hi (h : i = wp.heap.size) => by omega)
                    have hb2 := hb.kept kH (fun i hi (h : i = wp.heap.size) => by have := hbo i hi; omega)
                    clear hcs hxm hst hlen hX8 hend hfull hS hR hkk hb kH hH
                    generalize bAt X m = c at *
                    go_wp2
                    exact ⟨⟨m + 1, by omega, by go_num, hk2, hS2, hR2, hH2, hb2⟩, by simp only [intOf]; omega⟩
                  · have hm8' : m = 8 := by omega
                    have hH2 : Blk wr wp.heap.size (Sp.sofar so (k + 1)).toArray 52 := by
                      rw [← HE.out.2.1]
                      rw [hm8', List.take_of_length_le (by simp [HE.out.1])] at hH
                      exact hH
                    clear hm8' hH hb hbo
                    go_wp2
                    exact ⟨⟨k + 1, by omega, by go_num, hkk, hS, hR, hH2⟩, by simp only [intOf]; omega⟩
            · have hk4 : k = 4 := by omega
              subst hk4
              rw [Sp.sofar_four] at hH
              have aH' : AggTy Try.prog 52 ((eights so 4).map u8v).toArray.size := by rw [K3.out]; exact Sp.aH
              have E := hid (HZ.out.trans K3.out.symm)
              go_wp2_with (first | (refine wpList_load_blk rfl _ _ rfl rfl hH aH' ?_) | (refine wpList_store_blk rfl _ _ _ rfl rfl rfl hR aH' E.out (u8v_all _) ?_; intro w6 hR6 k6) | fail)
              exact bodyPost_ret (v := hashV (eights so 4)) (results_blk rfl _ rfl hR6 aH') rfl ⟨rfl, hkk.then k6 (fun i hi (h : i = w.heap.size) => by omega)⟩
    · have hj1 : j + 1 ≤ noughts l := by
        unfold noughts at hj ⊢
        omega
      have h8' : decide ((n3 : Int) % 8 = 0) = false := by simp; omega
      have h8'' : ((n3 : Int) % 8 != 0) = true := by simp; omega
      have H3 := hid hn3
      clear hn3
      go_wp2_with (at_builtin; refine wpList_append_byte rfl _ _ 22 rfl rtBytes rfl rfl hb (by decide) (by decide) ?m1 ?m2 ?m3)
      case m1 => simp; omega
      case m2 => exact hsz
      case m3 =>
        intro a4 n4 c4 w4 b4 k5
        have k6 : Kept None w w4 := hkk.own k5 (fun k hk => by have := (hb.own k hk).1; omega)
        have hR4 : Blk w4 w.heap.size z 52 := hR.kept k5 (fun h => by have := (hb.own _ h).1; omega)
        have b5 : Ob w4 (w.heap.size + 1) (.slice a4 n4 c4) ((l ++ [1]) ++ List.replicate (j + 1) 0) := by
          rw [show Go.Pm.byteOf 0 = 0 from rfl] at b4
          rw [replicate_one]
          simpa using b4
        have hn4 : n4 = l.length + 1 + (j + 1) := by
          obtain ⟨_, _, hf⟩ := b5.form
          injection hf with _ h2 _
          rw [h2]; simp; omega
        have hn3 := H3.out
        clear hb hkk hR b4 k5
        have H4 := hid (And.intro hn3 hn4)
        clear hn3 hn4
        go_wp2
        have hn3 := H4.out.1
        have hn4 := H4.out.2
        exact ⟨⟨j + 1, hj1, ⟨_, _, _, rfl⟩, b5, k6, hR4⟩, by simp only [Sp.lenOf]; omega⟩
end Ref
end Go.Proofs.Ytglibdggoobocaa

/- postmarkref1.Text, Tag, by their contracts. -/
namespace Go.Proofs.Ytglibdggoobocaa
open Go.RowKit Go.Pm
namespace Ref

set_option maxRecDepth 100000 in
set_option maxHeartbeats 1000000 in
/-- postmarkref1.Text. -/
theorem text (tag : Int) (v : Value) (lo hi lo' hi' : Nat) (ls : List (List UInt8)) (w : World) (ht0 : 0 ≤ tag) (ht1 : tag < 256) (hv : Bss w lo hi lo' hi' v ls) (hn : ls.length ≤ 1099511627776) (hl : total ls ≤ 1099511627776) :
    Calls Try.prog 75 #[.int .u8 tag, v] w fun e w' => ∃ v', e = .returned v' ∧ Kept None w w' ∧ Ob w' w.heap.size v' (textB tag ls) := by
  obtain ⟨a, cap, rfl, g1, g2, g3⟩ := hv.shape
  have b0 : Ob (w.alloc (.cells #[.int .u8 tag] 5)) w.heap.size (.slice (some ⟨w.heap.size, 0, none⟩) 1 1) (textB tag (ls.take 0)) := by
    have := Bo.new w 5 [Go.Pm.byteOf tag] #[.int .u8 tag] (by simp [u8v_byteOf' ht0 ht1]) 1 rfl (by decide)
    simpa [textB] using this
  have k0 : Kept None w (w.alloc (.cells #[.int .u8 tag] 5)) := (Kept.refl _ _).alloc _
  go_enter Try.func75, Try.ntmps75
  go_wp2
  go_loopw [5, 6] (fun t i wr => ∃ k : Nat, k ≤ ls.length ∧ i = .int .i64 k ∧ (∃ a n c, t = .slice a n c) ∧ Ob wr w.heap.size t (textB tag (ls.take k)) ∧ Kept None w wr) (fun _ i _ => ls.length - (intOf i).toNat)
  case atStart => exact ⟨0, Nat.zero_le _, rfl, ⟨_, _, _, rfl⟩, b0, k0⟩
  case round =>
    clear b0 k0
    obtain ⟨k, hk, rfl, ⟨a3, n3, c3, rfl⟩, hb, hkk⟩ := hrel
    have hsz := hkk.size
    by_cases hlt : k < ls.length
    · have hvr := hv.kept hkk (fun _ _ _ h => h) (fun _ _ _ h => h)
      obtain ⟨b, o, rfl, q1, q2, q3, hc⟩ := Bss.at hvr (by omega)
      obtain ⟨a', c', hc', hb'⟩ := hc k hlt
      have hlen := at_total ls k hlt
      have HP := hid (textB_take tag ls k hlt)
      have htl : (textB tag (ls.take k)).length ≤ 1 + 8 * ls.length + total ls := by
        rw [textB_length, List.length_take]
        have := total_take_le ls k
        omega
      clear hc hvr hv g3
      generalize ls[k] = x at *
      go_wp2_with fail
      refine (lump _ _ _ _ _ hb' (by omega)).mono ?_
      rintro e1 w4 ⟨v4, rfl, k4, b4⟩
      have hyl : (leB x.length ++ x).length = x.length + 8 := by simp [leB_length]; omega
      have HP' := HP.out
      generalize leB x.length ++ x = y at *
      have HP2 := hid HP'
      clear HP HP'
      have hb4 := hb.kept k4 (fun _ _ h => h)
      have hk5 := hkk.then k4 (fun _ _ h => h)
      have hs4 := k4.size
      have hb4' := b4.bs (Nat.le_refl _)
      obtain ⟨a4, c4, rfl⟩ := b4.form
      have HY := hid hyl
      clear hyl hb hkk k4 b4 hb'
      go_wp2_with (at_builtin; refine wpList_append_bo rfl _ _ 22 rfl rtBytes rfl rfl hb4 hb4' ?m1 ?m2 ?m3)
      case m1 => have := HY.out; omega
      case m2 => omega
      case m3 =>
        intro a5 n5 c5 w5 hb5 hk6
        have hk7 : Kept None w w5 := hk5.own hk6 (fun i h => by have := (hb4.own i h).1; omega)
        rw [← HP2.out] at hb5
        clear hb4 hb4' hk5 hk6 HP2
        go_wp2
        go_roundw
        case rel => exact ⟨k + 1, by omega, by go_num, ⟨_, _, _, rfl⟩, hb5, hk7⟩
        case measure => simp [intOf]; omega
    · have hb6 : Ob wr w.heap.size (.slice a3 n3 c3) (textB tag ls) := by rw [List.take_of_length_le (by omega)] at hb; exact hb
      clear hb hv g3
      go_wp2
      go_ret
      exact ⟨_, rfl, hkk, hb6⟩

set_option maxRecDepth 100000 in
set_option maxHeartbeats 400000 in
/-- postmarkref1.Tag. -/
theorem tag (tg : Int) (v : Value) (lo hi lo' hi' : Nat) (ls : List (List UInt8)) (w : World) (ht0 : 0 ≤ tg) (ht1 : tg < 256) (hv : Bss w lo hi lo' hi' v ls) (hn : ls.length ≤ 1099511627776) (hl : total ls ≤ 1099511627776) :
    Calls Try.prog 55 #[.int .u8 tg, v] w fun e w' => e = .returned (hashV (sumB (textB tg ls))) ∧ Kept None w w' := by
  have hs := fun v lo hi w h => sum v lo hi (textB tg ls) w h (by rw [textB_length]; omega)
  have e32 := sumB_len (textB tg ls)
  obtain ⟨res, hres⟩ : ∃ res, res = sumB (textB tg ls) := ⟨_, rfl⟩
  rw [← hres] at hs e32 ⊢
  have HS := hid hs
  have H32 := hid e32
  clear hs e32 hres
  obtain ⟨a, cap, rfl, g1, g2, g3⟩ := hv.shape
  clear g3
  go_enter Try.func55, Try.ntmps55
  go_wp2_with fail
  have hv1 := hv.kept ((Kept.refl None w).alloc (.cells (Array.replicate 32 (.int .u8 0)) 52)) (fun _ _ _ h => h) (fun _ _ _ h => h)
  refine (text tg _ lo hi lo' hi' ls _ ht0 ht1 hv1 hn hl).mono ?_
  rintro e1 w1 ⟨v1, rfl, k1, b1⟩
  obtain ⟨z, hz, hR⟩ : ∃ z : Array Value, z.size = 32 ∧ Blk w1 w.heap.size z 52 := ⟨Array.replicate 32 (.int .u8 0), by simp, (Blk.new w _ _).kept k1 (fun h => h)⟩
  have k2 : Kept None w w1 := ((Kept.refl _ _).alloc _).trans k1
  clear hv hv1 k1
  go_wp2_with fail
  refine (HS.out _ _ _ _ (b1.bs (Nat.le_refl _))).mono ?_
  rintro e2 w2 ⟨rfl, k3⟩
  have hR2 := hR.kept k3 (fun h => h)
  have k4 := k2.then k3 (fun _ _ h => h)
  have e32 : (res.map u8v).toArray.size = 32 := by simpa using H32.out
  have aH' : AggTy Try.prog 52 (res.map u8v).toArray.size := by rw [e32]; exact Sp.aH
  have E := hid (hz.trans e32.symm)
  clear hR k3 k2 b1 e32 hz
  go_wp2_with (first | (refine wpList_store_blk rfl _ _ _ rfl rfl rfl hR2 aH' E.out (u8v_all _) ?_; intro w6 hR6 k6) | fail)
  exact bodyPost_ret (v := hashV res) (results_blk rfl _ rfl hR6 aH') rfl ⟨rfl, k4.then k6 (fun i hi (h : i = w.heap.size) => by omega)⟩
end Ref
end Go.Proofs.Ytglibdggoobocaa
namespace Go.Pm
open Go Go.RowKit
/-- A name's index, a version's value. -/
def indexH (n : ByteArray) : List UInt8 := sumB (textB 105 [strB n])
def valueH (a : Int) (k : Nat) : List UInt8 := sumB (textB 118 [leB (U6 a), leB k])
theorem indexH_len (n : ByteArray) : (indexH n).length = 32 := sumB_len _
theorem valueH_len (a : Int) (k : Nat) : (valueH a k).length = 32 := sumB_len _
/-- An item as a value. -/
abbrev itemV (x : It) : Value := .agg ((x.i ++ x.v).map u8v).toArray
/-- A part of a block of bytes. -/
theorem Blk.bs {W : World} {g : Nat} {l : List UInt8} {t : TypeId} (h : Blk W g (l.map u8v).toArray t) (off n : Nat) (hn : off + n ≤ l.length) (hm : n ≤ 9223372036854775807) : Bs W g (g + 1) (.slice (some ⟨g, off, none⟩) n n) ((l.drop off).take n) := by
  have hl : ((l.drop off).take n).length = n := by rw [List.length_take, List.length_drop]; omega
  refine ⟨some ⟨g, off, none⟩, n, by rw [List.length_map, hl], by rw [List.length_map, hl]; exact Nat.le_refl _, by unfold maxLen; omega, (fun h => by cases h), fun ad had i x hx => ?_⟩
  obtain rfl := Option.some.inj had
  refine ⟨Nat.le_refl _, Nat.lt_succ_self _, ?_⟩
  rw [Addr.add_lit, h.cell]
  have hi := (List.getElem?_eq_some_iff.1 hx).1
  rw [List.length_map, hl] at hi
  rw [List.getElem?_map, List.getElem?_take, if_pos hi, List.getElem?_drop] at hx
  rw [List.getElem?_toArray, List.getElem?_map]
  exact hx
end Go.Pm
namespace Go.Proofs.Ytglibdggoobocaa
open Go.RowKit Go.Pm
namespace RTr
set_option maxRecDepth 100000 in
set_option maxHeartbeats 2000000 in
/-- Index. -/
theorem index (n : ByteArray) (w : World) (hn : n.size ≤ 274877906944) : Calls Try.prog 39 #[.string n] w fun e w' => e = .returned (hashV (indexH n)) ∧ Kept None w w' := by
  have hsn := strB_len n
  have hs := fun v lo hi lo' hi' w hv => Ref.tag 105 v lo hi lo' hi' [strB n] w (by decide) (by decide) hv (by simp) (by simp [total]; omega)
  have e32 := indexH_len n
  rw [show sumB (textB 105 [strB n]) = indexH n from rfl] at hs
  obtain ⟨res, hres⟩ : ∃ res, res = indexH n := ⟨_, rfl⟩
  rw [← hres] at hs e32 ⊢
  have HS := hid hs
  have H32 := hid e32
  have HN := hid hn
  clear hs e32 hres hn
  have k0 : Kept None w (w.alloc (.cells (Array.replicate 32 (.int .u8 0)) 52)) := (Kept.refl _ _).alloc _
  have v0 := Blk.new w (Array.replicate 32 (.int .u8 0)) 52
  go_enter Try.func39, Try.ntmps39
  go_wp2_with (first | (refine wpList_bytes rfl 9 22 5 _ rfl tString tBytes' tByte rfl (by have := HN.out; omega) ?k1) | fail)
  case k1 =>
    intro gB cB w2 hgB kB bB
    have k02 := k0.trans kB
    have v2 := v0.kept kB (fun h => h)
    obtain ⟨z, hz, hR⟩ : ∃ z : Array Value, z.size = 32 ∧ Blk w2 w.heap.size z 52 := ⟨_, by simp, v2⟩
    have hbs := Bss.new w2 #[.slice (some ⟨gB, 0, none⟩) n.size cB] 22 [strB n] 1 rfl (by decide) ⟨bB.all, trivial⟩
    have k03 := k02.alloc (.cells #[.slice (some ⟨gB, 0, none⟩) n.size cB] 22)
    have hR3 := hR.alloc (.cells #[.slice (some ⟨gB, 0, none⟩) n.size cB] 22)
    clear k0 v0 kB bB k02 v2 hR
    go_wp2_with fail
    refine (HS.out _ _ _ _ _ _ hbs).mono ?_
    rintro e w4 ⟨rfl, k4⟩
    have k04 := k03.trans k4
    have hR4 := hR3.kept k4 (fun h => h)
    clear k03 k4 hR3 hbs
    have e32' : (res.map u8v).toArray.size = 32 := by simpa using H32.out
    have aH' : AggTy Try.prog 52 (res.map u8v).toArray.size := by rw [e32']; exact Sp.aH
    have E := hid (hz.trans e32'.symm)
    clear e32' hz
    go_wp2_with (first | (refine wpList_store_blk rfl _ _ _ rfl rfl rfl hR4 aH' E.out (u8v_all _) ?_; intro w6 hR6 k6) | fail)
    exact bodyPost_ret (v := hashV res) (results_blk rfl _ rfl hR6 aH') rfl ⟨rfl, k04.then k6 (fun i hi (h : i = w.heap.size) => by omega)⟩

set_option maxRecDepth 100000 in
set_option maxHeartbeats 2000000 in
/-- Value. -/
theorem value (a : Int) (k : Nat) (w : World) (hk : k < 18446744073709551616) : Calls Try.prog 40 #[.int .i64 a, .int .u64 k] w fun e w' => e = .returned (hashV (valueH a k)) ∧ Kept None w w' := by
  have hw1 : IntKind.u64.wrap a = U6 a := by rw [IntKind.wrap_u64]
  have hs := fun v lo hi lo' hi' w hv => Ref.tag 118 v lo hi lo' hi' [leB (U6 a), leB k] w (by decide) (by decide) hv (by simp) (by simp [total, leB_length])
  have e32 := valueH_len a k
  rw [show sumB (textB 118 [leB (U6 a), leB k]) = valueH a k from rfl] at hs
  obtain ⟨res, hres⟩ : ∃ res, res = valueH a k := ⟨_, rfl⟩
  rw [← hres] at hs e32 ⊢
  have hV := And.intro (U6_ge a) (And.intro (U6_lt a) hk)
  obtain ⟨V, hVV⟩ : ∃ V, V = U6 a := ⟨_, rfl⟩
  rw [← hVV] at hw1 hs hV
  have HS := hid hs
  have H32 := hid e32
  have HV := hid hV
  clear hs e32 hres hV hVV hk
  have k0 : Kept None w (w.alloc (.cells (Array.replicate 32 (.int .u8 0)) 52)) := (Kept.refl _ _).alloc _
  have v0 := Blk.new w (Array.replicate 32 (.int .u8 0)) 52
  obtain ⟨z, hz, hR⟩ : ∃ z : Array Value, z.size = 32 ∧ Blk (w.alloc (.cells (Array.replicate 32 (.int .u8 0)) 52)) w.heap.size z 52 := ⟨_, by simp, v0⟩
  clear v0
  go_enter Try.func40, Try.ntmps40
  go_wp2_with fail
  refine (Ref.num V _ HV.out.1 HV.out.2.1).mono ?_
  rintro e w1 ⟨u1, rfl, k1, b1⟩
  have k01 := k0.trans k1
  have hR1 := hR.kept k1 (fun h => h)
  have d1 := b1.bs (Nat.le_refl _)
  obtain ⟨a1, c1, rfl⟩ := b1.form
  rw [leB_length] at d1 ⊢
  clear k0 k1 hR b1
  go_wp2_with fail
  refine (Ref.num k _ (by omega) (by have := HV.out; omega)).mono ?_
  rintro e w2 ⟨u2, rfl, k2, b2⟩
  have k02 := k01.trans k2
  have hR2 := hR1.kept k2 (fun h => h)
  have d1' := d1.kept k2 (fun _ _ _ h => h)
  have d2 := b2.bs (Nat.le_refl _)
  obtain ⟨a2, c2, rfl⟩ := b2.form
  rw [leB_length] at d2 ⊢
  have hbs := Bss.new w2 #[.slice a1 8 c1, .slice a2 8 c2] 22 [leB V, leB k] 2 rfl (by decide) ⟨d1'.all, d2.all, trivial⟩
  have k03 := k02.alloc (.cells #[.slice a1 8 c1, .slice a2 8 c2] 22)
  have hR3 := hR2.alloc (.cells #[.slice a1 8 c1, .slice a2 8 c2] 22)
  clear k01 k2 hR1 d1 b2 k02 hR2 d1' d2
  go_wp2_with fail
  refine (HS.out _ _ _ _ _ _ hbs).mono ?_
  rintro e w4 ⟨rfl, k4⟩
  have k04 := k03.trans k4
  have hR4 := hR3.kept k4 (fun h => h)
  clear k03 k4 hR3 hbs
  have e32' : (res.map u8v).toArray.size = 32 := by simpa using H32.out
  have aH' : AggTy Try.prog 52 (res.map u8v).toArray.size := by rw [e32']; exact Sp.aH
  have E := hid (hz.trans e32'.symm)
  clear e32' hz
  go_wp2_with (first | (refine wpList_store_blk rfl _ _ _ rfl rfl rfl hR4 aH' E.out (u8v_all _) ?_; intro w6 hR6 k6) | fail)
  exact bodyPost_ret (v := hashV res) (results_blk rfl _ rfl hR6 aH') rfl ⟨rfl, k04.then k6 (fun i hi (h : i = w.heap.size) => by omega)⟩
end RTr
end Go.Proofs.Ytglibdggoobocaa
namespace Go.Proofs.Ytglibdggoobocaa
open Go.RowKit Go.Pm
namespace RTr
set_option maxRecDepth 100000 in
set_option maxHeartbeats 2000000 in
/-- Less. -/
theorem less (l r : List UInt8) (w : World) (hl : l.length = 32) (hr : r.length = 32) : Calls Try.prog 54 #[hashV l, hashV r] w fun e w' => e = .returned (.bool (Op.bytesLess l r)) ∧ Kept None w w' := by
  show Calls Try.prog 54 #[.agg (l.map u8v).toArray, .agg (r.map u8v).toArray] w fun e w' => e = .returned (.bool (Op.bytesLess l r)) ∧ Kept None w w'
  obtain ⟨L, hLL⟩ : ∃ L : Array Value, L = (l.map u8v).toArray := ⟨_, rfl⟩
  obtain ⟨R, hRR⟩ : ∃ R : Array Value, R = (r.map u8v).toArray := ⟨_, rfl⟩
  rw [← hLL, ← hRR]
  have HLL := hid (And.intro hLL hRR)
  clear hLL hRR
  have k0 : Kept None w ((w.alloc (.cells L 52)).alloc (.cells R 52)) := ((Kept.refl _ _).alloc _).alloc _
  have hX : Blk ((w.alloc (.cells L 52)).alloc (.cells R 52)) w.heap.size L 52 := (Blk.new w _ _).alloc _
  have hY := Blk.new2 w (.cells L 52) R 52
  go_enter Try.func54, Try.ntmps54
  go_wp2_with fail
  obtain ⟨wB, hwB⟩ : ∃ wB, wB = (w.alloc (.cells L 52)).alloc (.cells R 52) := ⟨_, rfl⟩
  rw [← hwB] at k0 hX hY ⊢
  clear hwB
  have hL : ∀ W, Kept None wB W → Bs W w.heap.size (w.heap.size + 1) (.slice (some ⟨w.heap.size, 0, none⟩) 32 32) l := fun W hW => by
    have h := (HLL.out.1 ▸ (hX.kept hW (fun h => h)) : Blk W w.heap.size (l.map u8v).toArray 52).bs 0 32 (by omega) (by decide)
    rwa [List.drop_zero, List.take_of_length_le (by omega)] at h
  have hR : ∀ W, Kept None wB W → Bs W (w.heap.size + 1) (w.heap.size + 1 + 1) (.slice (some ⟨w.heap.size + 1, 0, none⟩) 32 32) r := fun W hW => by
    have h := (HLL.out.2 ▸ (hY.kept hW (fun h => h)) : Blk W (w.heap.size + 1) (r.map u8v).toArray 52).bs 0 32 (by omega) (by decide)
    rwa [List.drop_zero, List.take_of_length_le (by omega)] at h
  have hs : Steady [.val 1 (.string ⟨l.toArray⟩), .val 3 (.string ⟨r.toArray⟩)] := Steady.val (Steady.val (Steady.nil))
  refine wp_region_kn wB _ hs (Kept.refl _ _) (by kernel_rfl) (by kernel_rfl) (by kernel_rfl) ?_
  iterate 1 (refine wpPar_pure rfl (by rfl) _ (fun W hW => by
      go_simp
      exact rfl) ?_; simp only [Act.put, List.setIfInBounds_toArray, List.set_cons_zero, List.set_cons_succ])
  refine wpKn_adds hs rfl (by rfl) (fun W hW hd => ?_) (fun v1 hv => ?_)
  · unfold Gives
    have hcv := cvBytes (hL W hW)
    go_simp
    exact ⟨Kept.refl _ _, rfl, trivial⟩
  obtain rfl : v1 = .string ⟨l.toArray⟩ := hv
  simp only [Act.put, List.setIfInBounds_toArray, List.set_cons_zero, List.set_cons_succ]
  iterate 1 (refine wpPar_pure rfl (by rfl) _ (fun W hW => by
      go_simp
      exact rfl) ?_; simp only [Act.put, List.setIfInBounds_toArray, List.set_cons_zero, List.set_cons_succ])
  refine wpKn_adds hs rfl (by rfl) (fun W hW hd => ?_) (fun v3 hv => ?_)
  · unfold Gives
    have hcv := cvBytes (hR W hW)
    go_simp
    exact ⟨Kept.refl _ _, rfl, trivial⟩
  obtain rfl : v3 = .string ⟨r.toArray⟩ := hv
  simp only [Act.put, List.setIfInBounds_toArray, List.set_cons_zero, List.set_cons_succ]
  iterate 2 (refine wpPar_pure rfl (by rfl) _ (fun W hW => by
      go_simp
      exact rfl) ?_; simp only [Act.put, List.setIfInBounds_toArray, List.set_cons_zero, List.set_cons_succ])
  refine wpPar_nil (fun W hW hG => ?_)
  have k04 := k0.trans hW
  clear hG hs hW k0 hL hR hX hY
  go_wp2
  go_ret
  exact ⟨rfl, k04⟩
end RTr
end Go.Proofs.Ytglibdggoobocaa
namespace Go.Proofs.Ytglibdggoobocaa
open Go.RowKit Go.Pm
theorem built_item (parts : List (Nat × Value)) : Try.prog.built 54 parts = Instr.fill (fun i => #[(0, 32), (32, 32)][i]?) (Array.replicate 64 (.int .u8 0)) parts := by kernel_rfl
/-- An item out of two hashes. -/
theorem build_item (w : World) (a b : List UInt8) (ha : a.length = 32) (hb : b.length = 32) : (Instr.build 54 #[(0, hashV a), (1, hashV b)]).run Try.prog w = .ok (itemV ⟨a, b⟩) w := by
  refine run_build w _ _ _ ?_
  rw [built_item]
  have h := fill_two (Array.replicate 64 (.int .u8 0)) (a.map u8v).toArray (b.map u8v).toArray (by simp) (by simpa using ha) (by simpa using hb)
  rw [show (#[(0, hashV a), (1, hashV b)] : Array (Nat × Value)).toList = [(0, .agg (a.map u8v).toArray), (1, .agg (b.map u8v).toArray)] from rfl, h]
  simp
end Go.Proofs.Ytglibdggoobocaa
namespace Go.Proofs.Ytglibdggoobocaa
open Go.RowKit Go.Pm

namespace RTr
theorem aI : AggTy Try.prog 54 64 := aggOf (by kernel_rfl) (by kernel_rfl)
set_option maxRecDepth 100000 in
set_option maxHeartbeats 4000000 in
/-- Item. -/
theorem item (n : ByteArray) (a : Int) (k : Nat) (w : World) (hn : n.size ≤ 274877906944) (hk : k < 18446744073709551616) : Calls Try.prog 24 #[entV n a k] w fun e w' => e = .returned (itemV ⟨indexH n, valueH a k⟩) ∧ Kept None w w' := by
  have j0 := fun w => index n w hn
  have j1 := fun w => value a k w hk
  have i32 := indexH_len n
  have v32 := valueH_len a k
  obtain ⟨I, hI⟩ : ∃ I, I = indexH n := ⟨_, rfl⟩
  obtain ⟨V, hV⟩ : ∃ V, V = valueH a k := ⟨_, rfl⟩
  rw [← hI] at j0 i32 ⊢
  rw [← hV] at j1 v32 ⊢
  have J := hid (And.intro j0 j1)
  have h64 : ((I ++ V).map u8v).toArray.size = 64 := by simp [i32, v32]
  have aI' : AggTy Try.prog 54 ((I ++ V).map u8v).toArray.size := by rw [h64]; exact aI
  have HB := hid (fun W => build_item W I V i32 v32)
  have H64 := hid h64
  clear j0 j1 i32 v32 hI hV hn hk h64
  have k0 : Kept None w ((w.alloc (.cells #[.string n, .int .i64 a, .int .u64 (k : Int)] 29)).alloc (.cells #[.int .u8 0, .int .u8 0, .int .u8 0, .int .u8 0, .int .u8 0, .int .u8 0, .int .u8 0, .int .u8 0, .int .u8 0, .int .u8 0, .int .u8 0, .int .u8 0, .int .u8 0, .int .u8 0, .int .u8 0, .int .u8 0, .int .u8 0, .int .u8 0, .int .u8 0, .int .u8 0, .int .u8 0, .int .u8 0, .int .u8 0, .int .u8 0, .int .u8 0, .int .u8 0, .int .u8 0, .int .u8 0, .int .u8 0, .int .u8 0, .int .u8 0, .int .u8 0, .int .u8 0, .int .u8 0, .int .u8 0, .int .u8 0, .int .u8 0, .int .u8 0, .int .u8 0, .int .u8 0, .int .u8 0, .int .u8 0, .int .u8 0, .int .u8 0, .int .u8 0, .int .u8 0, .int .u8 0, .int .u8 0, .int .u8 0, .int .u8 0, .int .u8 0, .int .u8 0, .int .u8 0, .int .u8 0, .int .u8 0, .int .u8 0, .int .u8 0, .int .u8 0, .int .u8 0, .int .u8 0, .int .u8 0, .int .u8 0, .int .u8 0, .int .u8 0] 54)) := ((Kept.refl _ _).alloc _).alloc _
  have hB : Blk ((w.alloc (.cells #[.string n, .int .i64 a, .int .u64 (k : Int)] 29)).alloc (.cells #[.int .u8 0, .int .u8 0, .int .u8 0, .int .u8 0, .int .u8 0, .int .u8 0, .int .u8 0, .int .u8 0, .int .u8 0, .int .u8 0, .int .u8 0, .int .u8 0, .int .u8 0, .int .u8 0, .int .u8 0, .int .u8 0, .int .u8 0, .int .u8 0, .int .u8 0, .int .u8 0, .int .u8 0, .int .u8 0, .int .u8 0, .int .u8 0, .int .u8 0, .int .u8 0, .int .u8 0, .int .u8 0, .int .u8 0, .int .u8 0, .int .u8 0, .int .u8 0, .int .u8 0, .int .u8 0, .int .u8 0, .int .u8 0, .int .u8 0, .int .u8 0, .int .u8 0, .int .u8 0, .int .u8 0, .int .u8 0, .int .u8 0, .int .u8 0, .int .u8 0, .int .u8 0, .int .u8 0, .int .u8 0, .int .u8 0, .int .u8 0, .int .u8 0, .int .u8 0, .int .u8 0, .int .u8 0, .int .u8 0, .int .u8 0, .int .u8 0, .int .u8 0, .int .u8 0, .int .u8 0, .int .u8 0, .int .u8 0, .int .u8 0, .int .u8 0] 54)) w.heap.size #[.string n, .int .i64 a, .int .u64 (k : Int)] 29 := (Blk.new w _ _).alloc _
  have v0 := Blk.new2 w (.cells #[.string n, .int .i64 a, .int .u64 (k : Int)] 29) #[.int .u8 0, .int .u8 0, .int .u8 0, .int .u8 0, .int .u8 0, .int .u8 0, .int .u8 0, .int .u8 0, .int .u8 0, .int .u8 0, .int .u8 0, .int .u8 0, .int .u8 0, .int .u8 0, .int .u8 0, .int .u8 0, .int .u8 0, .int .u8 0, .int .u8 0, .int .u8 0, .int .u8 0, .int .u8 0, .int .u8 0, .int .u8 0, .int .u8 0, .int .u8 0, .int .u8 0, .int .u8 0, .int .u8 0, .int .u8 0, .int .u8 0, .int .u8 0, .int .u8 0, .int .u8 0, .int .u8 0, .int .u8 0, .int .u8 0, .int .u8 0, .int .u8 0, .int .u8 0, .int .u8 0, .int .u8 0, .int .u8 0, .int .u8 0, .int .u8 0, .int .u8 0, .int .u8 0, .int .u8 0, .int .u8 0, .int .u8 0, .int .u8 0, .int .u8 0, .int .u8 0, .int .u8 0, .int .u8 0, .int .u8 0, .int .u8 0, .int .u8 0, .int .u8 0, .int .u8 0, .int .u8 0, .int .u8 0, .int .u8 0, .int .u8 0] 54
  go_enter Try.func24, Try.ntmps24
  go_wp2_with fail
  obtain ⟨wB, hwB⟩ : ∃ wB, wB = (w.alloc (.cells #[.string n, .int .i64 a, .int .u64 (k : Int)] 29)).alloc (.cells #[.int .u8 0, .int .u8 0, .int .u8 0, .int .u8 0, .int .u8 0, .int .u8 0, .int .u8 0, .int .u8 0, .int .u8 0, .int .u8 0, .int .u8 0, .int .u8 0, .int .u8 0, .int .u8 0, .int .u8 0, .int .u8 0, .int .u8 0, .int .u8 0, .int .u8 0, .int .u8 0, .int .u8 0, .int .u8 0, .int .u8 0, .int .u8 0, .int .u8 0, .int .u8 0, .int .u8 0, .int .u8 0, .int .u8 0, .int .u8 0, .int .u8 0, .int .u8 0, .int .u8 0, .int .u8 0, .int .u8 0, .int .u8 0, .int .u8 0, .int .u8 0, .int .u8 0, .int .u8 0, .int .u8 0, .int .u8 0, .int .u8 0, .int .u8 0, .int .u8 0, .int .u8 0, .int .u8 0, .int .u8 0, .int .u8 0, .int .u8 0, .int .u8 0, .int .u8 0, .int .u8 0, .int .u8 0, .int .u8 0, .int .u8 0, .int .u8 0, .int .u8 0, .int .u8 0, .int .u8 0, .int .u8 0, .int .u8 0, .int .u8 0, .int .u8 0] 54) := ⟨_, rfl⟩
  rw [← hwB] at k0 hB v0 ⊢
  clear hwB
  have hc0 : ∀ W, Kept None wB W → W.cell? ⟨w.heap.size, 0, none⟩ = some (.string n) := fun W hW => (hB.kept hW (fun h => h)).cell 0
  have hc1 : ∀ W, Kept None wB W → W.cell? ⟨w.heap.size, 1, none⟩ = some (.int .i64 a) := fun W hW => (hB.kept hW (fun h => h)).cell 1
  have hc2 : ∀ W, Kept None wB W → W.cell? ⟨w.heap.size, 2, none⟩ = some (.int .u64 (k : Int)) := fun W hW => (hB.kept hW (fun h => h)).cell 2
  have hs : Steady [.val 2 (hashV I), .val 7 (hashV V)] := Steady.val (Steady.val (Steady.nil))
  refine wp_region_kn_tail 9 wB _ hs (Kept.refl _ _) (by kernel_rfl) (by kernel_rfl) (by kernel_rfl) ?_
  simp only [List.take_succ_cons, List.take_zero, List.drop_succ_cons, List.drop_zero]
  iterate 2 (refine wpPar_pure rfl (by rfl) _ (fun W hW => by
      have c0 := hc0 W hW
      have c1 := hc1 W hW
      have c2 := hc2 W hW
      go_simp
      exact rfl) ?_; simp only [Act.put, List.setIfInBounds_toArray, List.set_cons_zero, List.set_cons_succ])
  refine wpKn_adds hs rfl (by rfl) (fun W hW hd => ?_) (fun v2 hv => ?_)
  · unfold Gives
    go_simp
    refine gives_call (J.out.1 W) ?_
    rintro e w3 ⟨rfl, k3⟩
    exact ⟨_, rfl, k3, rfl, trivial⟩
  obtain rfl : v2 = hashV I := hv
  simp only [Act.put, List.setIfInBounds_toArray, List.set_cons_zero, List.set_cons_succ]
  iterate 4 (refine wpPar_pure rfl (by rfl) _ (fun W hW => by
      have c0 := hc0 W hW
      have c1 := hc1 W hW
      have c2 := hc2 W hW
      go_simp
      exact rfl) ?_; simp only [Act.put, List.setIfInBounds_toArray, List.set_cons_zero, List.set_cons_succ])
  refine wpKn_adds hs rfl (by rfl) (fun W hW hd => ?_) (fun v7 hv => ?_)
  · unfold Gives
    go_simp
    refine gives_call (J.out.2 W) ?_
    rintro e w3 ⟨rfl, k3⟩
    exact ⟨_, rfl, k3, rfl, trivial⟩
  obtain rfl : v7 = hashV V := hv
  simp only [Act.put, List.setIfInBounds_toArray, List.set_cons_zero, List.set_cons_succ]
  refine wpPar_pure rfl (by rfl) (itemV ⟨I, V⟩) (fun W hW => by
      have hbd := HB.out W
      refine run_execOp_build rfl ?_
      simp only [List.map_toArray, List.map_cons, List.map_nil]
      exact hbd) ?_
  simp only [Act.put, List.setIfInBounds_toArray, List.set_cons_zero, List.set_cons_succ]
  refine wpPar_nil (fun W hW hG => ?_)
  have k04 := k0.trans hW
  have v4 := v0.kept hW (fun h => h)
  obtain ⟨z, hz, hR4⟩ : ∃ z : Array Value, z.size = 64 ∧ Blk W (w.heap.size + 1) z 54 := ⟨_, by rfl, v4⟩
  clear hG hs hW k0 v0 v4 hc0 hc1 hc2 hB
  have E := hid (hz.trans H64.out.symm)
  clear hz
  go_wp2_with (first | (refine wpList_store_blk rfl _ _ _ rfl rfl rfl hR4 aI' E.out (u8v_all _) ?_; intro w6 hR6 k6) | fail)
  exact bodyPost_ret (v := itemV ⟨I, V⟩) (results_blk rfl _ rfl hR6 aI') rfl ⟨rfl, k04.then k6 (fun i hi (h : i = w.heap.size + 1) => by omega)⟩
end RTr
end Go.Proofs.Ytglibdggoobocaa
namespace Go.Proofs.Ytglibdggoobocaa
open Go.RowKit Go.Pm
namespace RTr
theorem rtyK {P : Program} {t e : TypeId} {z : Value} {k bytes : Nat} (h1 : P.underlying t = some (.slice e)) (h2 : (P.info? e).map (fun i => (i.zero, i.size, i.bytes)) = some (some z, k, bytes)) (h3 : z.cells.size = k) (h4 : 0 < k) : RowTyK P t e z k bytes := by
  refine ⟨h1, ?_, h3, h4⟩
  cases hi : P.info? e with
  | none => rw [hi] at h2; cases h2
  | some i =>
    rw [hi] at h2
    simp only [Option.map_some, Option.some.injEq, Prod.mk.injEq] at h2
    exact ⟨i, rfl, h2.1, h2.2.1, h2.2.2⟩
abbrev zItem : Value := .agg (Array.replicate 64 (.int .u8 0))
theorem rtItems : RowTyK Try.prog 46 54 zItem 64 64 := rtyK (by kernel_rfl) (by kernel_rfl) (by rfl) (by decide)
theorem aI64 : AggTy Try.prog 54 64 := aggOf (by kernel_rfl) (by kernel_rfl)

end RTr
end Go.Proofs.Ytglibdggoobocaa
