/- Texts joined: RLatest16, Frame13, Jrn14, Pn14, UpRight, RNext16, AdP17, EntRight, EntFields, RefFieldM, LowSponge. -/
import Derived.Test.YtdobmebhjmgkmaaPk2
import Derived.Deep.QuietTactic
import Derived.BigQuiet
import Derived.Deep.LoopGhost
import Derived.Deep.DeepCutAuto
import Derived.Test.YtdobmebhjmgkmaaPk1
import Derived.Test.YtdobmebhjmgkmaaProg
import Derived.Lib.Mul64
import Derived.Laws.Bits64b
import Derived.KernelRfl
import Derived.Deep.CutBlock
import Derived.StillTailTactics
import Derived.Outline
namespace Go.Proofs.Ytdobmebhjmgkmaa
open Go.RowKit Go.Pm
namespace R16
theorem aKno : AggTy Try.prog 50 4 := Sg.AggTy.of (by kernel_rfl) (by kernel_rfl)
theorem res_ct {P : Program} {fn : Func} {p q : Tmp} {ty : TypeId} (h : fn.results = #[.cell p ty, .tmp q]) (tmps : Array Value) {w : World} {g : Nat} {t : TypeId} {cs : Array Value} (hp : tmps.getD p undef = .pointer (some ⟨g, 0, none⟩)) {x : Value} (hq : tmps.getD q undef = x) (hb : Blk w g cs t)
    (hT : AggTy P ty cs.size) : (results fn tmps).run P w = .ok (.tuple #[.agg cs, x]) w := by
  obtain ⟨d, hu, hd⟩ := hT.ag
  have hp' : tmps[p]?.getD undef = .pointer (some ⟨g, 0, none⟩) := by simpa using hp
  have hq' : tmps[q]?.getD undef = x := by simpa using hq
  have hl := run_loadVar_row w g t ty cs (0, 0) d hb hu (by cases d <;> first | rfl | exact hd) hT.size
  simp [results, h, hp', hq', asAddr, hl]
theorem kno_all (x : Kno) : (knoC x).toArray.all (·.oneCell') = true := all_oneCell_toArray (knoC_one x)
set_option maxRecDepth 100000 in
set_option maxHeartbeats 8000000 in
/-- Latest. -/
theorem latest (v : Value) (lo hi : Nat) (l : List Kno) (nm : ByteArray) (w : World) (hv : Ps 4 w lo hi v (knosC l)) (hlen : l.length ≤ 1099511627776) :
    Calls Try.prog 17 #[v, .string nm] w fun e w' => e = .returned (.tuple #[(latF l nm).1.V, .bool (latF l nm).2]) ∧ Kept None w w' := by
  obtain ⟨a, cap, rfl, g1, g2, g3⟩ := hv.form
  rw [knosC_len] at g1 hv ⊢
  have hall := latF_all l nm
  obtain ⟨RS, hRS⟩ : ∃ r, r = latF l nm := ⟨_, rfl⟩
  rw [← hRS] at hall ⊢
  obtain ⟨n, hn⟩ : ∃ n, n = l.length := ⟨_, rfl⟩
  rw [← hn] at g1 hlen hv hall ⊢
  have k0 : Kept None w ((w.alloc (.cells #[.string ⟨#[]⟩, .int .i64 0, .int .u64 0, .int .i64 0] 50)).alloc (.cells #[.string ⟨#[]⟩, .int .i64 0, .int .u64 0, .int .i64 0] 50)) := ((Kept.refl _ _).alloc _).alloc _
  have y0 : Blk ((w.alloc (.cells #[.string ⟨#[]⟩, .int .i64 0, .int .u64 0, .int .i64 0] 50)).alloc (.cells #[.string ⟨#[]⟩, .int .i64 0, .int .u64 0, .int .i64 0] 50)) (w.heap.size + 1) (knoC Kno.none).toArray 50 := Blk.new2 w _ _ _
  have z0 : Blk ((w.alloc (.cells #[.string ⟨#[]⟩, .int .i64 0, .int .u64 0, .int .i64 0] 50)).alloc (.cells #[.string ⟨#[]⟩, .int .i64 0, .int .u64 0, .int .i64 0] 50)) w.heap.size #[.string ⟨#[]⟩, .int .i64 0, .int .u64 0, .int .i64 0] 50 := (Blk.new w _ _).alloc _
  have HV := hid hv
  have HN := hid (And.intro hn hlen)
  have HA := hid (And.intro hall hRS)
  clear hv hn hall hRS g3
  have K0 := hid k0
  have Y0 := hid y0
  have Z0 := hid z0
  clear k0 y0 z0
  go_enter Try.func17, Try.ntmps17
  go_wp2
  go_loopg [7, 8] n (fun kx s7 s8 wr => ∃ (k : Nat) (X : Kno) (b : Bool), s8 = .int .i64 k ∧ s7 = .bool b ∧ k ≤ n ∧ n - k ≤ kx ∧ Hid (Kept None w wr) ∧ Hid (Blk wr (w.heap.size + 1) (knoC X).toArray 50) ∧ Hid (Blk wr w.heap.size #[.string ⟨#[]⟩, .int .i64 0, .int .u64 0, .int .i64 0] 50) ∧ Hid ((l.take k).foldl (latS nm) (Kno.none, false) = (X, b)))
  case atStart => exact ⟨0, Kno.none, false, rfl, rfl, Nat.zero_le _, Nat.le_refl _, K0, Y0, Z0, hid rfl⟩
  case round =>
    obtain ⟨k, X, b, rfl, rfl, hk, hkx, HK, HY, HZ, HT⟩ := hrel
    by_cases hlt : k < n
    · have hz : (k : Int) < (n : Int) := by omega
      have wk : IntKind.i64.wrap ((k : Int) + 1) = (k : Int) + 1 := by rw [IntKind.wrap_i64]; have := HN.out.2; omega
      have kl : k < l.length := by have := HN.out.1; omega
      obtain ⟨bb, o, q1, hc⟩ := (HV.out.kept HK.out (fun _ _ _ h => h)).kno (by omega)
      obtain rfl := q1
      obtain ⟨c0, c1, _, _, rx, _⟩ := hc k kl
      have hS := latF_take l nm k kl
      rw [HT.out] at hS
      have HS := hid hS
      have HR := hid rx
      obtain ⟨E, hE⟩ : ∃ E, E = eqN l[k].e.n nm := ⟨_, rfl⟩
      obtain ⟨G, hG⟩ : ∃ G, G = decide (X.e.v < l[k].e.v) := ⟨_, rfl⟩
      obtain ⟨x0, hx0⟩ : ∃ x, x = l[k].e.n := ⟨_, rfl⟩
      obtain ⟨x1, hx1⟩ : ∃ x, x = l[k].e.v := ⟨_, rfl⟩
      obtain ⟨t1, ht1⟩ : ∃ x, x = X.e.v := ⟨_, rfl⟩
      rw [← hx0] at c0
      rw [← hx1] at c1
      have hE' : (x0.toList == nm.toList) = E := by rw [hx0, hE]; rfl
      have hG' : decide (t1 < x1) = G := by rw [ht1, hx1, hG]
      have d1 : wr.cell? ⟨w.heap.size + 1, 1, none⟩ = some (.int .i64 t1) := by rw [ht1]; exact HY.out.cell 1
      have HX := hid (And.intro hE.symm (And.intro hG.symm True.intro))
      clear rx hc hS hE hG hx0 hx1 ht1
      cases E with
      | false =>
        go_wp2_with fail
        go_quiet (fail)
        obtain ⟨w6, hw6⟩ : ∃ w6, w6 = wr.drewN nq := ⟨_, rfl⟩
        have hW : Kept None wr w6 := hw6 ▸ Kept.toDrewN _ _ _
        rw [← hw6]
        clear hw6 c0 c1 d1
        have HW := hid (HK.out.trans hW)
        have y6 := HY.out.kept hW (fun h => h)
        have z6 := HZ.out.kept hW (fun h => h)
        have HY6 := hid y6
        have HZ6 := hid z6
        have HT2 : Hid ((l.take (k + 1)).foldl (latS nm) (Kno.none, false) = (X, b)) := hid (by rw [HS.out, latS, if_neg (by rw [HX.out.1]; simp)])
        clear HK hW y6 z6
        go_wp2
        go_roundg (n - (k + 1))
        case measure => omega
        case rel => exact ⟨k + 1, X, b, by go_num, rfl, by omega, Nat.le_refl _, HW, HY6, HZ6, HT2⟩
      | true =>
        cases b with
        | false =>
          go_wp2_with fail
          go_quiet (fail)
          obtain ⟨w6, hw6⟩ : ∃ w6, w6 = wr.drewN nq := ⟨_, rfl⟩
          have hW : Kept None wr w6 := hw6 ▸ Kept.toDrewN _ _ _
          rw [← hw6]
          clear hw6 c0 c1 d1
          have HW := hid (HK.out.trans hW)
          have y6 := HY.out.kept hW (fun h => h)
          have z6 := HZ.out.kept hW (fun h => h)
          have rx := rangeAt_kept HR.out hW
          have HT2 : Hid ((l.take (k + 1)).foldl (latS nm) (Kno.none, false) = (l[k]'(by have := HN.out; omega), true)) := hid (by rw [HS.out, latS, if_pos (by rw [HX.out.1, HX.out.2.1]; rfl)])
          clear HK
          go_wp2_with (first | (refine wpList_load_at (.refl _) _ _ rfl rfl rx aKno ?_) | (refine wpList_store_blk (.refl _) _ _ _ rfl rfl rfl y6 aKno rfl (kno_all _) ?_; intro w7 y7 k7) | fail)
          have HW7 : Hid (Kept None w w7) := hid (HW.out.then k7 (fun i hi (h : i = w.heap.size + 1) => by omega))
          have HY7 := hid y7
          have HZ7 := hid (z6.kept k7 (fun (h : w.heap.size = w.heap.size + 1) => by omega))
          clear y6 z6 y7 k7 HW hW rx
          go_roundg (n - (k + 1))
          case measure => omega
          case rel => exact ⟨k + 1, l[k]'(by have := HN.out; omega), true, by go_num, rfl, by omega, Nat.le_refl _, HW7, HY7, HZ7, HT2⟩
        | true =>
          cases G with
          | true =>
            go_wp2_with fail
            go_quiet (fail)
            obtain ⟨w6, hw6⟩ : ∃ w6, w6 = wr.drewN nq := ⟨_, rfl⟩
            have hW : Kept None wr w6 := hw6 ▸ Kept.toDrewN _ _ _
            rw [← hw6]
            clear hw6 c0 c1 d1
            have HW := hid (HK.out.trans hW)
            have y6 := HY.out.kept hW (fun h => h)
            have z6 := HZ.out.kept hW (fun h => h)
            have rx := rangeAt_kept HR.out hW
            have HT2 : Hid ((l.take (k + 1)).foldl (latS nm) (Kno.none, false) = (l[k]'(by have := HN.out; omega), true)) := hid (by rw [HS.out, latS, if_pos (by rw [HX.out.1, HX.out.2.1]; rfl)])
            clear HK
            go_wp2_with (first | (refine wpList_load_at (.refl _) _ _ rfl rfl rx aKno ?_) | (refine wpList_store_blk (.refl _) _ _ _ rfl rfl rfl y6 aKno rfl (kno_all _) ?_; intro w7 y7 k7) | fail)
            have HW7 : Hid (Kept None w w7) := hid (HW.out.then k7 (fun i hi (h : i = w.heap.size + 1) => by omega))
            have HY7 := hid y7
            have HZ7 := hid (z6.kept k7 (fun (h : w.heap.size = w.heap.size + 1) => by omega))
            clear y6 z6 y7 k7 HW hW rx
            go_roundg (n - (k + 1))
            case measure => omega
            case rel => exact ⟨k + 1, l[k]'(by have := HN.out; omega), true, by go_num, rfl, by omega, Nat.le_refl _, HW7, HY7, HZ7, HT2⟩
          | false =>
            go_wp2_with fail
            go_quiet (fail)
            obtain ⟨w6, hw6⟩ : ∃ w6, w6 = wr.drewN nq := ⟨_, rfl⟩
            have hW : Kept None wr w6 := hw6 ▸ Kept.toDrewN _ _ _
            rw [← hw6]
            clear hw6 c0 c1 d1
            have HW := hid (HK.out.trans hW)
            have y6 := HY.out.kept hW (fun h => h)
            have z6 := HZ.out.kept hW (fun h => h)
            have HY6 := hid y6
            have HZ6 := hid z6
            have HT2 : Hid ((l.take (k + 1)).foldl (latS nm) (Kno.none, false) = (X, true)) := hid (by rw [HS.out, latS, if_neg (by rw [HX.out.1, HX.out.2.1]; simp)])
            clear HK hW y6 z6
            go_wp2
            go_roundg (n - (k + 1))
            case measure => omega
            case rel => exact ⟨k + 1, X, true, by go_num, rfl, by omega, Nat.le_refl _, HW, HY6, HZ6, HT2⟩
    · have hz : ¬ (k : Int) < (n : Int) := by omega
      obtain rfl : k = n := by omega
      have hf : RS = (X, b) := by
        have h1 := HT.out
        rw [HA.out.1] at h1
        exact h1
      have HF := hid hf
      have y6 := HY.out
      have z6 := HZ.out
      clear HT hf
      go_wp2_with (first | (refine wpList_load_blk rfl _ _ rfl rfl y6 aKno ?_) | (refine wpList_store_blk rfl _ _ _ rfl rfl rfl z6 aKno rfl (kno_all _) ?_; intro w7 z7 k7) | fail)
      exact bodyPost_ret (v := .tuple #[X.V, .bool b]) (res_ct rfl _ rfl rfl z7 aKno) rfl ⟨by rw [HF.out], HK.out.then k7 (fun i hi (h : i = w.heap.size) => by omega)⟩
end R16
end Go.Proofs.Ytdobmebhjmgkmaa
namespace Go.Pm
open Go Go.RowKit
def le4 (n : Int) : List UInt8 := [byteOf n, byteOf (n / 256), byteOf (n / 65536), byteOf (n / 16777216)]
def le4V (l : List UInt8) : Int := bAt l 0 + bAt l 1 * 256 + bAt l 2 * 65536 + bAt l 3 * 16777216
/-- A frame's mark. -/
def markF (k s : Int) (b : List UInt8) : List UInt8 := (sumB (textB 102 [[byteOf k], leB s, b])).take 8
def putF (k s : Int) (b : List UInt8) : List UInt8 := le4 b.length ++ [byteOf k] ++ leB s ++ b ++ markF k s b
def putFE (k s : Int) (b : List UInt8) : Int := if k < 1 ∨ 255 < k ∨ s < 0 then 23 else if 4096 < b.length then 22 else 0
def putFL (k s : Int) (b : List UInt8) : List UInt8 := if putFE k s b = 0 then putF k s b else []
structure Fr where
  kind : Int
  seq : Int
  body : List UInt8
  n : Nat
  e : Int
def readF (b : List UInt8) : Fr :=
  if b.length < 13 then ⟨0, 0, [], 0, 21⟩
  else if 4096 < le4V b ∨ bAt b 4 = 0 ∨ 9223372036854775807 < leV (b.drop 5) then ⟨0, 0, [], 0, 20⟩
  else if (b.length : Int) < 21 + le4V b then ⟨0, 0, [], 0, 21⟩
  else if markF (bAt b 4) (leV (b.drop 5)) ((b.drop 13).take (le4V b).toNat) = (b.drop (13 + (le4V b).toNat)).take 8 then ⟨bAt b 4, leV (b.drop 5), (b.drop 13).take (le4V b).toNat, 21 + (le4V b).toNat, 0⟩
  else ⟨0, 0, [], 0, 24⟩
theorem le4V_ge (l : List UInt8) : 0 ≤ le4V l := by
  have := bAt_ge l 0
  have := bAt_ge l 1
  have := bAt_ge l 2
  have := bAt_ge l 3
  unfold le4V
  omega
theorem le4V_lt (l : List UInt8) : le4V l < 4294967296 := by
  have := bAt_lt l 0
  have := bAt_lt l 1
  have := bAt_lt l 2
  have := bAt_lt l 3
  unfold le4V
  omega
theorem le4_length (n : Int) : (le4 n).length = 4 := rfl
theorem markF_len (k s : Int) (b : List UInt8) : (markF k s b).length = 8 := by simp [markF, sumB_len]
theorem putF_len (k s : Int) (b : List UInt8) : (putF k s b).length = 21 + b.length := by
  simp [putF, le4_length, leB_length, markF_len]
  omega
theorem le4V_le4 (n : Int) (h0 : 0 ≤ n) (h1 : n < 4294967296) (r : List UInt8) : le4V (le4 n ++ r) = n := by
  show ((Go.Pm.byteOf n).toNat : Int) + ((Go.Pm.byteOf (n / 256)).toNat : Int) * 256 + ((Go.Pm.byteOf (n / 65536)).toNat : Int) * 65536 + ((Go.Pm.byteOf (n / 16777216)).toNat : Int) * 16777216 = n
  rw [byteOf_toNat, byteOf_toNat, byteOf_toNat, byteOf_toNat]
  omega
/-- A frame, and whatever stands behind it, reads as the frame. -/
theorem read_putF (k s : Int) (b r : List UInt8) (k0 : 1 ≤ k) (k1 : k ≤ 255) (s0 : 0 ≤ s) (s1 : s ≤ 9223372036854775807) (hb : b.length ≤ 4096) : readF (putF k s b ++ r) = ⟨k, s, b, 21 + b.length, 0⟩ := by
  have e0 : putF k s b ++ r = le4 b.length ++ ([Go.Pm.byteOf k] ++ (leB s ++ (b ++ (markF k s b ++ r)))) := by simp [putF]
  have hM : le4V (putF k s b ++ r) = (b.length : Int) := by rw [e0]; exact le4V_le4 _ (by omega) (by omega) _
  have hK : bAt (putF k s b ++ r) 4 = k := by
    rw [e0]
    show ((Go.Pm.byteOf k).toNat : Int) = k
    rw [byteOf_toNat]
    omega
  have d5 : (putF k s b ++ r).drop 5 = leB s ++ (b ++ (markF k s b ++ r)) := by
    rw [e0, ← List.append_assoc]
    exact List.drop_left' (by simp [le4_length])
  have hS : leV ((putF k s b ++ r).drop 5) = s := by rw [d5]; exact leV_leB s s0 (by omega) _
  have d13 : (putF k s b ++ r).drop 13 = b ++ (markF k s b ++ r) := by
    rw [e0, ← List.append_assoc, ← List.append_assoc]
    exact List.drop_left' (by simp [le4_length, leB_length])
  have dB : (putF k s b ++ r).drop (13 + b.length) = markF k s b ++ r := by
    rw [← List.drop_drop, d13]
    exact List.drop_left' rfl
  have hl : (putF k s b ++ r).length = 21 + b.length + r.length := by rw [List.length_append, putF_len]
  have tB : ((putF k s b ++ r).drop 13).take b.length = b := by rw [d13]; exact List.take_left' rfl
  have tM : ((putF k s b ++ r).drop (13 + b.length)).take 8 = markF k s b := by rw [dB]; exact List.take_left' (markF_len _ _ _)
  unfold readF
  rw [if_neg (by omega), if_neg (by rw [hM, hK, hS]; omega), if_neg (by rw [hM, hl]; omega), hM, hK, hS, Int.toNat_natCast, tB, tM, if_pos rfl]
theorem readF_body (b : List UInt8) : (readF b).e ≠ 0 → (readF b).body = [] := by
  unfold readF
  split
  · exact fun _ => rfl
  · split
    · exact fun _ => rfl
    · split
      · exact fun _ => rfl
      · split
        · exact fun h => absurd rfl h
        · exact fun _ => rfl
/-- What readF says, in numbers. -/
theorem readF_bad {b : List UInt8} {M K S : Nat} (hl : ¬ b.length < 13) (e : le4V b = (M : Int) ∧ bAt b 4 = (K : Int) ∧ leV (b.drop 5) = (S : Int)) (h : 4096 < M ∨ K = 0 ∨ 9223372036854775807 < S) : readF b = ⟨0, 0, [], 0, 20⟩ := by
  unfold readF
  rw [if_neg hl, if_pos (by rw [e.1, e.2.1, e.2.2]; omega)]
theorem readF_short {b : List UInt8} {M K S : Nat} (hl : ¬ b.length < 13) (e : le4V b = (M : Int) ∧ bAt b 4 = (K : Int) ∧ leV (b.drop 5) = (S : Int)) (h : ¬ (4096 < M ∨ K = 0 ∨ 9223372036854775807 < S)) (hs : b.length < 21 + M) : readF b = ⟨0, 0, [], 0, 21⟩ := by
  unfold readF
  rw [if_neg hl, if_neg (by rw [e.1, e.2.1, e.2.2]; omega), if_pos (by rw [e.1]; omega)]
theorem readF_sum {b : List UInt8} {M K S : Nat} (hl : ¬ b.length < 13) (e : le4V b = (M : Int) ∧ bAt b 4 = (K : Int) ∧ leV (b.drop 5) = (S : Int)) (h : ¬ (4096 < M ∨ K = 0 ∨ 9223372036854775807 < S)) (hs : ¬ b.length < 21 + M) (hm : ¬ markF K S ((b.drop 13).take M) = (b.drop (13 + M)).take 8) : readF b = ⟨0, 0, [], 0, 24⟩ := by
  unfold readF
  rw [if_neg hl, if_neg (by rw [e.1, e.2.1, e.2.2]; omega), if_neg (by rw [e.1]; omega), if_neg (by rw [e.1, e.2.1, e.2.2, Int.toNat_natCast]; exact hm)]
theorem readF_ok {b : List UInt8} {M K S : Nat} (hl : ¬ b.length < 13) (e : le4V b = (M : Int) ∧ bAt b 4 = (K : Int) ∧ leV (b.drop 5) = (S : Int)) (h : ¬ (4096 < M ∨ K = 0 ∨ 9223372036854775807 < S)) (hs : ¬ b.length < 21 + M) (hm : markF K S ((b.drop 13).take M) = (b.drop (13 + M)).take 8) : readF b = ⟨K, S, (b.drop 13).take M, 21 + M, 0⟩ := by
  unfold readF
  rw [if_neg hl, if_neg (by rw [e.1, e.2.1, e.2.2]; omega), if_neg (by rw [e.1]; omega), if_pos (by rw [e.1, e.2.1, e.2.2, Int.toNat_natCast]; exact hm), e.1, e.2.1, e.2.2, Int.toNat_natCast]
theorem Fm.putFL_ok {k s : Int} {b : List UInt8} (k0 : 1 ≤ k) (k1 : k ≤ 255) (s0 : 0 ≤ s) (hb : b.length ≤ 4096) : putFE k s b = 0 ∧ putFL k s b = putF k s b := by
  have e : putFE k s b = 0 := by unfold putFE; rw [if_neg (by omega), if_neg (by omega)]
  exact ⟨e, by unfold putFL; rw [if_pos e]⟩
end Go.Pm
namespace Go.Pm
open Go Go.RowKit
/-- A record. -/
structure Rec where
  kind : Int
  seq : Int
  gen : Int
  count : Int
  u : Req
  tick : Int
  epoch : Int
def Rec.none : Rec := ⟨0, 0, 0, 0, Req.none, 0, 0⟩
def Rec.C (r : Rec) : Array Value := #[.int .i64 r.kind, .int .i64 r.seq, .int .i64 r.gen, .int .i64 r.count, .string r.u.n, .int .i64 r.u.v, .int .u64 (r.u.k : Int), .int .i64 r.u.c, .int .u64 (r.u.r : Int), .int .u64 (r.u.s : Int), .int .i64 r.tick, .int .i64 r.epoch]
abbrev Rec.V (r : Rec) : Value := .agg r.C
/-- No request at all. -/
def Req.no (q : Req) : Bool := decide (q.n.size = 0) && decide (q.v = 0) && decide (q.k = 0) && decide (q.c = 0) && decide (q.r = 0) && decide (q.s = 0)
/-- The fields of a request are numbers of their types. -/
def Req.Fits (q : Req) : Prop := (-9223372036854775808 ≤ q.v ∧ q.v < 9223372036854775808) ∧ q.k < 18446744073709551616 ∧ (-9223372036854775808 ≤ q.c ∧ q.c < 9223372036854775808) ∧ q.r < 18446744073709551616 ∧ q.s < 18446744073709551616
def inI (x : Int) : Prop := -9223372036854775808 ≤ x ∧ x < 9223372036854775808
def Rec.Fits (r : Rec) : Prop := inI r.kind ∧ inI r.seq ∧ inI r.gen ∧ inI r.count ∧ r.u.Fits ∧ inI r.tick ∧ inI r.epoch
def baseJ (r : Rec) : Bool := decide (r.kind = 1) && r.u.no && decide (r.tick = 0) && decide (r.epoch = 0) && decide (0 ≤ r.gen) && decide (r.gen ≤ 1152921504606846976) && decide (0 ≤ r.count) && decide (r.count ≤ 32)
def pendJ (r : Rec) : Bool := decide (r.kind = 2) && decide (r.gen = 0) && decide (r.count = 0) && decide (r.epoch = 0) && r.u.right && decide (0 ≤ r.tick) && decide (r.tick ≤ 1152921504606846976)
def doneJ (r : Rec) : Bool := decide (r.kind = 3) && decide (r.gen = 0) && decide (r.count = 0) && r.u.no && decide (r.tick = 0) && decide (1 ≤ r.epoch) && decide (r.epoch ≤ 1073741824)
def seqJ (r : Rec) : Bool := decide (0 ≤ r.seq) && decide (r.seq ≤ 1152921504606846976)
/-- Right. -/
def rightJ (r : Rec) : Bool := seqJ r && (baseJ r || pendJ r || doneJ r)
def reqB (q : Req) : List UInt8 := putB q.n q.v q.k q.c q.r q.s
/-- A record's body. -/
def bodyJ (r : Rec) : List UInt8 := if r.kind = 1 then leB r.gen ++ leB r.count else if r.kind = 2 then leB r.tick ++ reqB r.u else leB r.epoch
def putJE (r : Rec) : Int := if rightJ r then 0 else 23
def putJL (r : Rec) : List UInt8 := if rightJ r then putF r.kind r.seq (bodyJ r) else []
/-- The one record that a body can be of. -/
def candJ (k s : Int) (b : List UInt8) : Rec :=
  if k = 1 then ⟨k, s, leV b, leV (b.drop 8), Req.none, 0, 0⟩
  else if k = 2 then ⟨k, s, 0, 0, readQ (b.drop 8), leV b, 0⟩
  else ⟨k, s, 0, 0, Req.none, 0, leV b⟩
def okJ (k s : Int) (b : List UInt8) : Bool := rightJ (candJ k s b) && decide (bodyJ (candJ k s b) = b)
structure Rd14 where
  r : Rec
  n : Nat
  e : Int
def readJ (b : List UInt8) : Rd14 :=
  if (readF b).e = 0 then (if okJ (readF b).kind (readF b).seq (readF b).body then ⟨candJ (readF b).kind (readF b).seq (readF b).body, (readF b).n, 0⟩ else ⟨Rec.none, 0, 20⟩) else ⟨Rec.none, 0, (readF b).e⟩

theorem Rec.C_size (r : Rec) : r.C.size = 12 := rfl
theorem Rec.C_one (r : Rec) : r.C.all (·.oneCell') = true := by simp [Rec.C]; exact ⟨rfl, rfl, rfl, rfl, rfl, rfl, rfl, rfl, rfl, rfl, rfl, rfl⟩
theorem Req.no_iff (q : Req) : q.no = true ↔ q = Req.none := by
  unfold Req.no
  simp only [Bool.and_eq_true, decide_eq_true_eq]
  constructor
  · rintro ⟨⟨⟨⟨⟨h1, h2⟩, h3⟩, h4⟩, h5⟩, h6⟩
    obtain ⟨⟨d⟩, v, k, c, r, s⟩ := q
    have : d = #[] := Array.eq_empty_of_size_eq_zero h1
    simp only at h2 h3 h4 h5 h6
    subst h2 h3 h4 h5 h6 this
    rfl
  · rintro rfl
    exact ⟨⟨⟨⟨⟨rfl, rfl⟩, rfl⟩, rfl⟩, rfl⟩, rfl⟩
theorem baseJ_iff (r : Rec) : baseJ r = true ↔ r = ⟨1, r.seq, r.gen, r.count, Req.none, 0, 0⟩ ∧ 0 ≤ r.gen ∧ r.gen ≤ 1152921504606846976 ∧ 0 ≤ r.count ∧ r.count ≤ 32 := by
  unfold baseJ
  simp only [Bool.and_eq_true, decide_eq_true_eq, Req.no_iff]
  obtain ⟨k, s, g, c, u, t, e⟩ := r
  simp only [Rec.mk.injEq, true_and, and_assoc]
theorem pendJ_iff (r : Rec) : pendJ r = true ↔ r = ⟨2, r.seq, 0, 0, r.u, r.tick, 0⟩ ∧ r.u.right = true ∧ 0 ≤ r.tick ∧ r.tick ≤ 1152921504606846976 := by
  unfold pendJ
  simp only [Bool.and_eq_true, decide_eq_true_eq]
  obtain ⟨k, s, g, c, u, t, e⟩ := r
  simp only [Rec.mk.injEq, true_and, and_assoc]
theorem doneJ_iff (r : Rec) : doneJ r = true ↔ r = ⟨3, r.seq, 0, 0, Req.none, 0, r.epoch⟩ ∧ 1 ≤ r.epoch ∧ r.epoch ≤ 1073741824 := by
  unfold doneJ
  simp only [Bool.and_eq_true, decide_eq_true_eq, Req.no_iff]
  obtain ⟨k, s, g, c, u, t, e⟩ := r
  simp only [Rec.mk.injEq, true_and, and_true, and_assoc]
theorem rightJ_iff (r : Rec) : rightJ r = true ↔ (0 ≤ r.seq ∧ r.seq ≤ 1152921504606846976) ∧ ((r = ⟨1, r.seq, r.gen, r.count, Req.none, 0, 0⟩ ∧ 0 ≤ r.gen ∧ r.gen ≤ 1152921504606846976 ∧ 0 ≤ r.count ∧ r.count ≤ 32) ∨ (r = ⟨2, r.seq, 0, 0, r.u, r.tick, 0⟩ ∧ r.u.right = true ∧ 0 ≤ r.tick ∧ r.tick ≤ 1152921504606846976) ∨ (r = ⟨3, r.seq, 0, 0, Req.none, 0, r.epoch⟩ ∧ 1 ≤ r.epoch ∧ r.epoch ≤ 1073741824)) := by
  unfold rightJ seqJ
  rw [Bool.and_eq_true, Bool.or_eq_true, Bool.or_eq_true, baseJ_iff, pendJ_iff, doneJ_iff, Bool.and_eq_true, decide_eq_true_eq, decide_eq_true_eq, or_assoc]
theorem rightJ_kind {r : Rec} (h : rightJ r = true) : 1 ≤ r.kind ∧ r.kind ≤ 3 := by
  rcases (rightJ_iff r).1 h with ⟨_, h | h | h⟩
  · have : r.kind = 1 := by rw [h.1]
    omega
  · have : r.kind = 2 := by rw [h.1]
    omega
  · have : r.kind = 3 := by rw [h.1]
    omega
theorem reqB_len (q : Req) (h : q.right = true) : (reqB q).length ≤ 80 := by
  unfold reqB
  rw [putB_len]
  have := ((rightB_iff _ _ _ _).1 h).1
  omega
theorem bodyJ_len {r : Rec} (h : rightJ r = true) : (bodyJ r).length ≤ 88 := by
  rcases (rightJ_iff r).1 h with ⟨_, h | h | h⟩
  · unfold bodyJ; rw [h.1]; simp [leB_length]
  · unfold bodyJ
    have hk : r.kind = 2 := by rw [h.1]
    rw [if_neg (by omega), if_pos hk, List.length_append, leB_length]
    have := reqB_len r.u h.2.1
    omega
  · unfold bodyJ; rw [h.1]; simp [leB_length]
theorem putJ_len {r : Rec} (h : rightJ r = true) : (putJL r).length = 21 + (bodyJ r).length := by
  unfold putJL
  rw [if_pos h, putF_len]
theorem putJL_len (r : Rec) : (putJL r).length ≤ 109 := by
  by_cases h : rightJ r = true
  · rw [putJ_len h]; have := bodyJ_len h; omega
  · unfold putJL; rw [if_neg h]; decide
/-- A body is of the record that it was made of. -/
theorem candJ_body {r : Rec} (h : rightJ r = true) (hf : r.u.r < 18446744073709551616 ∧ r.u.s < 18446744073709551616) : candJ r.kind r.seq (bodyJ r) = r := by
  rcases (rightJ_iff r).1 h with ⟨_, h | h | h⟩
  · have hk : r.kind = 1 := by rw [h.1]
    have hb : bodyJ r = leB r.gen ++ leB r.count := by unfold bodyJ; rw [if_pos hk]
    have e1 : leV (bodyJ r) = r.gen := by rw [hb]; exact leV_leB _ (by omega) (by omega) _
    have e2 : leV ((bodyJ r).drop 8) = r.count := by
      rw [hb, List.drop_left' (leB_length _)]
      have := leV_leB r.count (by omega) (by omega) []
      rwa [List.append_nil] at this
    unfold candJ
    rw [if_pos hk, e1, e2, hk]
    exact h.1.symm
  · have hk : r.kind = 2 := by rw [h.1]
    have hb : bodyJ r = leB r.tick ++ reqB r.u := by unfold bodyJ; rw [if_neg (by omega), if_pos hk]
    have e1 : leV (bodyJ r) = r.tick := by rw [hb]; exact leV_leB _ (by omega) (by omega) _
    have e2 : (bodyJ r).drop 8 = reqB r.u := by rw [hb, List.drop_left' (leB_length _)]
    have e3 := (read_put r.u.n r.u.v r.u.k r.u.c r.u.r r.u.s h.2.1 hf.1 hf.2).2
    unfold candJ
    rw [if_neg (by omega), if_pos hk, e1, e2, hk]
    have e4 : readQ (reqB r.u) = r.u := e3
    rw [e4]
    exact h.1.symm
  · have hk : r.kind = 3 := by rw [h.1]
    have hb : bodyJ r = leB r.epoch := by unfold bodyJ; rw [if_neg (by omega), if_neg (by omega)]
    have e1 : leV (bodyJ r) = r.epoch := by
      rw [hb]
      have := leV_leB r.epoch (by omega) (by omega) []
      rwa [List.append_nil] at this
    unfold candJ
    rw [if_neg (by omega), if_neg (by omega), e1, hk]
    exact h.1.symm
/-- A record, and whatever stands behind it, reads as the record. -/
theorem read_putJ {r : Rec} (t : List UInt8) (h : rightJ r = true) (hf : r.u.r < 18446744073709551616 ∧ r.u.s < 18446744073709551616) : readJ (putJL r ++ t) = ⟨r, 21 + (bodyJ r).length, 0⟩ := by
  have hk := rightJ_kind h
  have hs := ((rightJ_iff r).1 h).1
  have hl := bodyJ_len h
  have e := read_putF r.kind r.seq (bodyJ r) t hk.1 (by omega) hs.1 (by omega) (by omega)
  have e2 : putJL r = putF r.kind r.seq (bodyJ r) := by unfold putJL; rw [if_pos h]
  have e3 := candJ_body h hf
  unfold readJ
  rw [e2, e]
  simp only [if_pos]
  rw [if_pos (by unfold okJ; rw [e3, h]; simp), e3]
theorem byteOf_of (b : UInt8) : Go.Pm.byteOf (b.toNat : Int) = b := by
  apply UInt8.toNat_inj.1
  have h1 := byteOf_toNat (b.toNat : Int)
  have h2 := b.toNat_lt
  omega
theorem byteOf_u (b : UInt8) (x : Int) (h : x % 256 = (b.toNat : Int)) : Go.Pm.byteOf x = b := by
  rw [← byteOf_mod, h]
  exact byteOf_of b
theorem byte_of (b : List UInt8) (h : 4 < b.length) : [Go.Pm.byteOf (bAt b 4)] = (b.drop 4).take 1 := by
  match b, h with
  | a :: c :: d :: e :: f :: r, _ => exact congrArg (· :: []) (byteOf_of f)
theorem le4_of (b : List UInt8) (h : 4 ≤ b.length) : b.take 4 = le4 (le4V b) := by
  match b, h with
  | a :: c :: d :: e :: r, _ =>
    have e0 : le4V (a :: c :: d :: e :: r) = (a.toNat : Int) + (c.toNat : Int) * 256 + (d.toNat : Int) * 65536 + (e.toNat : Int) * 16777216 := rfl
    have ha := a.toNat_lt
    have hc := c.toNat_lt
    have hd := d.toNat_lt
    have he := e.toNat_lt
    rw [e0]
    unfold le4
    rw [byteOf_u a _ (by omega), byteOf_u c _ (by omega), byteOf_u d _ (by omega), byteOf_u e _ (by omega)]
    rfl
theorem leB_of (b : List UInt8) (h : 8 ≤ b.length) : leB (leV b) = b.take 8 := by
  match b, h with
  | a :: c :: d :: e :: f :: g :: i :: j :: r, _ =>
    have e0 : leV (a :: c :: d :: e :: f :: g :: i :: j :: r) = (a.toNat : Int) + (c.toNat : Int) * 256 + (d.toNat : Int) * 65536 + (e.toNat : Int) * 16777216 + (f.toNat : Int) * 4294967296 + (g.toNat : Int) * 1099511627776 + (i.toNat : Int) * 281474976710656 + (j.toNat : Int) * 72057594037927936 := rfl
    have ha := a.toNat_lt
    have hc := c.toNat_lt
    have hd := d.toNat_lt
    have he := e.toNat_lt
    have hf := f.toNat_lt
    have hg := g.toNat_lt
    have hi := i.toNat_lt
    have hj := j.toNat_lt
    rw [e0]
    unfold leB
    rw [byteOf_u a _ (by omega), byteOf_u c _ (by omega), byteOf_u d _ (by omega), byteOf_u e _ (by omega), byteOf_u f _ (by omega), byteOf_u g _ (by omega), byteOf_u i _ (by omega), byteOf_u j _ (by omega)]
    rfl
/-- What readF took is the frame itself. -/
theorem readF_take {b : List UInt8} (h : (readF b).e = 0) : b.take (readF b).n = putF (readF b).kind (readF b).seq (readF b).body ∧ (readF b).body.length ≤ 4096 ∧ (readF b).n = 21 + (readF b).body.length ∧ (readF b).n ≤ b.length ∧ 1 ≤ (readF b).kind ∧ (readF b).kind ≤ 255 ∧ 0 ≤ (readF b).seq ∧ (readF b).seq ≤ 9223372036854775807 := by
  unfold readF at h ⊢
  by_cases h1 : b.length < 13
  · rw [if_pos h1] at h; exact absurd h (by decide)
  rw [if_neg h1] at h ⊢
  by_cases h2 : 4096 < le4V b ∨ bAt b 4 = 0 ∨ 9223372036854775807 < leV (b.drop 5)
  · rw [if_pos h2] at h; exact absurd h (by decide)
  rw [if_neg h2] at h ⊢
  by_cases h3 : (b.length : Int) < 21 + le4V b
  · rw [if_pos h3] at h; exact absurd h (by decide)
  rw [if_neg h3] at h ⊢
  by_cases h4n : ¬ markF (bAt b 4) (leV (b.drop 5)) ((b.drop 13).take (le4V b).toNat) = (b.drop (13 + (le4V b).toNat)).take 8
  · rw [if_neg h4n] at h; exact absurd h (by decide)
  have h4 := Classical.not_not.1 h4n
  rw [if_pos h4]
  have g0 := le4V_ge b
  have g1 := bAt_ge b 4
  have g2 := bAt_lt b 4
  have g3 := leV_ge (b.drop 5)
  obtain ⟨M, hM⟩ : ∃ M : Nat, M = (le4V b).toNat := ⟨_, rfl⟩
  have eM : le4V b = (M : Int) := by rw [hM, Int.toNat_of_nonneg g0]
  rw [← hM] at h4 ⊢
  have hM4 : M ≤ 4096 := by omega
  have hlen : 21 + M ≤ b.length := by omega
  have hbl : ((b.drop 13).take M).length = M := by rw [List.length_take, List.length_drop]; omega
  refine ⟨?_, by simp only; omega, by simp only; omega, hlen, by simp only; omega, by simp only; omega, g3, by simp only; omega⟩
  simp only
  unfold putF
  rw [hbl, h4]
  have eL : le4 (M : Int) = b.take 4 := by
    rw [← eM]
    exact (le4_of b (by omega)).symm
  have eK : [Go.Pm.byteOf (bAt b 4)] = (b.drop 4).take 1 := byte_of b (by omega)
  have eS : leB (leV (b.drop 5)) = (b.drop 5).take 8 := leB_of (b.drop 5) (by rw [List.length_drop]; omega)
  rw [eL, eK, eS]
  have q : ∀ (l : List UInt8) (i j : Nat), l.take i ++ (l.drop i).take j = l.take (i + j) := fun l i j => (List.take_add ..).symm
  rw [q, q, q, q]
  congr 1
  omega
end Go.Pm
namespace Go.Pm
open Go Go.RowKit
structure Pn where
  u : Req
  tick : Int
  seq : Int
  sync : Bool
abbrev penC (x : Pn) : List Value := [.string x.u.n, .int .i64 x.u.v, .int .u64 (x.u.k : Int), .int .i64 x.u.c, .int .u64 (x.u.r : Int), .int .u64 (x.u.s : Int), .int .i64 x.tick, .int .i64 x.seq, .bool x.sync]
abbrev reqC (u : Req) : List Value := [.string u.n, .int .i64 u.v, .int .u64 (u.k : Int), .int .i64 u.c, .int .u64 (u.r : Int), .int .u64 (u.s : Int)]
def pensC (l : List Pn) : List (List Value) := l.map penC
theorem pensC_len (l : List Pn) : (pensC l).length = l.length := List.length_map _
theorem pensC_at (l : List Pn) (i : Nat) (h : i < l.length) : (pensC l)[i]? = some (penC l[i]) := by simp [pensC, h]
theorem pensC_app (a b : List Pn) : pensC (a ++ b) = pensC a ++ pensC b := List.map_append
theorem pensC_each (l : List Pn) : Each 9 (pensC l) := fun x hx => by
  obtain ⟨y, _, rfl⟩ := List.mem_map.1 hx
  rfl
theorem penC_one (x : Pn) : ∀ c ∈ penC x, c.oneCell' = true := by simp [Value.oneCell']
theorem pensC_one (l : List Pn) : ∀ x ∈ pensC l, ∀ c ∈ x, c.oneCell' = true := fun x hx => by
  obtain ⟨y, _, rfl⟩ := List.mem_map.1 hx
  exact penC_one y
/-- A row of pendings: where each one's parts lie. -/
theorem Ps.pen {w : World} {lo hi : Nat} {a : Option Addr} {n cap : Nat} {l : List Pn} (h : Ps 9 w lo hi (.slice a n cap) (pensC l)) (hn : 0 < l.length) :
    ∃ b o, a = some ⟨b, o, none⟩ ∧ b < w.heap.size ∧ ∀ i (hi : i < l.length), w.rangeAt b (o + i * 9) (penC l[i]) ∧ w.rangeAt b (o + i * 9) (reqC l[i].u) ∧ w.cell? ⟨b, o + i * 9 + 6, none⟩ = some (.int .i64 l[i].tick) ∧ w.cell? ⟨b, o + i * 9 + 7, none⟩ = some (.int .i64 l[i].seq) ∧ w.cell? ⟨b, o + i * 9 + 8, none⟩ = some (.bool l[i].sync) := by
  obtain ⟨b, o, rfl, _, _, h3, hr⟩ := h.ne (by decide) (by rw [pensC_len]; exact hn)
  refine ⟨b, o, rfl, h3, fun i hi => ?_⟩
  have h1 := hr i _ (pensC_at l i hi)
  refine ⟨h1, fun j v hj => h1 j v ?_, h1 6 _ rfl, h1 7 _ rfl, h1 8 _ rfl⟩
  match j, hj with
  | 0, hj => exact hj
  | 1, hj => exact hj
  | 2, hj => exact hj
  | 3, hj => exact hj
  | 4, hj => exact hj
  | 5, hj => exact hj
  | j + 6, hj => simp at hj
/-- The requests' bounds: their signatures are words. -/
def PnFits (l : List Pn) : Prop := ∀ x ∈ l, x.u.r < 18446744073709551616 ∧ x.u.s < 18446744073709551616
/-- The i-th record behind a base of number s. -/
def recP (s : Int) (i : Nat) (x : Pn) : Rec := ⟨2, s + 1 + i, 0, 0, x.u, x.tick, 0⟩
def recB (gen s : Int) (n : Nat) : Rec := ⟨1, s, gen, n, Req.none, 0, 0⟩
/-- All records, from the i-th on. -/
def recsP (s : Int) : Nat → List Pn → List Rec
  | _, [] => []
  | i, x :: l => recP s i x :: recsP s (i + 1) l
theorem recsP_len (s : Int) : ∀ (l : List Pn) (i : Nat), (recsP s i l).length = l.length
  | [], _ => rfl
  | x :: l, i => by rw [recsP, List.length_cons, recsP_len s l (i + 1), List.length_cons]
theorem recsP_app (s : Int) : ∀ (l m : List Pn) (i : Nat), recsP s i (l ++ m) = recsP s i l ++ recsP s (i + l.length) m
  | [], m, i => by simp [recsP]
  | x :: l, m, i => by
    rw [List.cons_append, recsP, recsP, recsP_app s l m (i + 1), List.cons_append, List.length_cons, show i + 1 + l.length = i + (l.length + 1) by omega]
def allR (l : List Rec) : Bool := l.all rightJ
def joinR (l : List Rec) : List UInt8 := (l.map putJL).flatten
/-- Base. -/
def baseF (gen s : Int) (l : List Pn) : List UInt8 := if rightJ (recB gen s l.length) && allR (recsP s 0 l) then putJL (recB gen s l.length) ++ joinR (recsP s 0 l) else []
theorem take_snoc {α : Type} (l : List α) (i : Nat) (h : i < l.length) : l.take (i + 1) = l.take i ++ [l[i]] := by rw [List.take_succ_eq_append_getElem h]
theorem recsP_take (s : Int) (l : List Pn) (i : Nat) (h : i < l.length) : recsP s 0 (l.take (i + 1)) = recsP s 0 (l.take i) ++ [recP s i l[i]] := by
  rw [take_snoc l i h, recsP_app, List.length_take, Nat.min_eq_left (Nat.le_of_lt h), Nat.zero_add]
  rfl
theorem allR_app (a b : List Rec) : allR (a ++ b) = (allR a && allR b) := List.all_append
theorem joinR_app (a b : List Rec) : joinR (a ++ b) = joinR a ++ joinR b := by simp [joinR]
theorem allR_take {s : Int} {l : List Pn} {i : Nat} (h : i < l.length) (hb : rightJ (recP s i l[i]) = false) : allR (recsP s 0 l) = false := by
  have e : l = l.take (i + 1) ++ l.drop (i + 1) := (List.take_append_drop _ _).symm
  rw [e, recsP_app, allR_app, recsP_take s l i h, allR_app]
  simp [allR, hb]
theorem joinR_len (l : List Rec) : (joinR l).length ≤ 109 * l.length := by
  unfold joinR
  induction l with
  | nil => simp
  | cons x l ih =>
    rw [List.map_cons, List.flatten_cons, List.length_append, List.length_cons]
    have := putJL_len x
    omega
theorem recB_right {gen s : Int} {n : Nat} (h : rightJ (recB gen s n) = true) : 0 ≤ s ∧ s ≤ 1152921504606846976 ∧ n ≤ 32 := by
  have h1 := (rightJ_iff _).1 h
  simp only [recB, Rec.mk.injEq] at h1
  rcases h1 with ⟨h0, h1 | h1 | h1⟩
  · exact ⟨h0.1, h0.2, by omega⟩
  · exact absurd h1.1.1 (by decide)
  · exact absurd h1.1.1 (by decide)
end Go.Pm
namespace Go.Proofs.Ytdobmebhjmgkmaa
open Go.RowKit Go.Pm
namespace Up
theorem aUpd : AggTy Try.prog 27 6 := Sg.AggTy.of (by kernel_rfl) (by kernel_rfl)
theorem upd_all (n : ByteArray) (v c : Int) (k r s : Nat) : (#[.string n, .int .i64 v, .int .u64 (k : Int), .int .i64 c, .int .u64 (r : Int), .int .u64 (s : Int)] : Array Value).all (·.oneCell') = true := by simp [Value.oneCell']

theorem prime_ge (s : Nat) (b : Bool) (h : decide (prime61 ≤ s) = b) : ∀ z, z = s → decide ((2305843009213693951 : Int) ≤ (z : Int)) = b := by
  rintro z rfl
  rw [← h, decide_eq_decide]
  unfold prime61
  omega

set_option maxRecDepth 100000 in
set_option maxHeartbeats 1000000 in
/-- update.Right. -/
theorem right (n : ByteArray) (v c : Int) (k r s : Nat) (w : World) : Calls Try.prog 21 #[updV n v k c r s] w fun e w' => e = .returned (.bool (rightB n.size v k c)) ∧ Kept None w w' := by
  have k0 : Kept None w (w.alloc (.cells #[.string n, .int .i64 v, .int .u64 (k : Int), .int .i64 c, .int .u64 (r : Int), .int .u64 (s : Int)] 27)) := (Kept.refl _ _).alloc _
  by_cases h1 : n.size < 1
  · rw [rightB_no (by omega)]
    go_enter Try.func21, Try.ntmps21
    go_wp2
    go_ret
    exact ⟨rfl, k0⟩
  by_cases h2 : 32 < n.size
  · rw [rightB_no (by omega)]
    go_enter Try.func21, Try.ntmps21
    go_wp2
    go_ret
    exact ⟨rfl, k0⟩
  by_cases h3 : v < 1
  · rw [rightB_no (by omega)]
    go_enter Try.func21, Try.ntmps21
    go_wp2
    go_ret
    exact ⟨rfl, k0⟩
  by_cases h4 : 1073741824 < v
  · rw [rightB_no (by omega)]
    go_enter Try.func21, Try.ntmps21
    go_wp2
    go_ret
    exact ⟨rfl, k0⟩
  by_cases h5 : k < 1
  · rw [rightB_no (by omega)]
    go_enter Try.func21, Try.ntmps21
    go_wp2
    go_ret
    exact ⟨rfl, k0⟩
  by_cases h6 : prime61 ≤ k
  · rw [rightB_no (by omega)]
    have hb := prime_ge k true (decide_eq_true h6)
    clear h6
    go_enter Try.func21, Try.ntmps21
    go_wp2
    go_ret
    exact ⟨rfl, k0⟩
  have hb := prime_ge k false (decide_eq_false h6)
  have e1 : rightB n.size v k c = (c == 0 || c == 1) := by
    rw [Bool.eq_iff_iff, rightB_iff]
    simp only [Bool.or_eq_true, beq_iff_eq]
    omega
  rw [e1]
  clear h6 e1 k0
  go_enter Try.func21, Try.ntmps21
  go_wp2
  all_goals
    go_ret
    exact ⟨rfl, (Kept.refl _ _).alloc _⟩
end Up
end Go.Proofs.Ytdobmebhjmgkmaa
namespace Go.Pm
open Go Go.RowKit
/-- One step of Next. -/
def nxS (nm : ByteArray) (s : Int × Nat) (x : Pn) : Int × Nat := if eqN x.u.n nm && decide (s.1 < x.u.v) then (x.u.v, x.u.k) else s
def nxF (s : Int × Nat) (l : List Pn) (nm : ByteArray) : Int × Nat := l.foldl (nxS nm) s
theorem nxF_take (s : Int × Nat) (l : List Pn) (nm : ByteArray) (i : Nat) (h : i < l.length) : nxF s (l.take (i + 1)) nm = nxS nm (nxF s (l.take i) nm) l[i] := by
  unfold nxF
  rw [take_snoc l i h, List.foldl_append]
  rfl
end Go.Pm
namespace Go.Proofs.Ytdobmebhjmgkmaa
open Go.RowKit Go.Pm
namespace R16
set_option maxRecDepth 100000 in
set_option maxHeartbeats 4000000 in
theorem next (v v' : Value) (lo hi lo' hi' : Nat) (l : List Kno) (p : List Pn) (nm : ByteArray) (w : World) (hv : Ps 4 w lo hi v (knosC l)) (hv' : Ps 9 w lo' hi' v' (pensC p)) (hlen : l.length ≤ 1099511627776) (hpl : p.length ≤ 1099511627776) :
    Calls Try.prog 11 #[v, v', .string nm] w fun en w' => en = .returned (.tuple #[.int .i64 (wrap64 ((nxF ((latF l nm).1.e.v, (latF l nm).1.e.k) p nm).1 + 1)), .int .u64 ((nxF ((latF l nm).1.e.v, (latF l nm).1.e.k) p nm).2 : Int)]) ∧ Kept None w w' := by
  obtain ⟨ap, np, cp, rfl, hnp⟩ : ∃ a n c, v' = .slice a n c ∧ n = p.length := by
    obtain ⟨a, c, h, _⟩ := hv'.form
    rw [pensC_len] at h
    exact ⟨a, _, c, h, rfl⟩
  subst hnp
  have HL := hid (latest v lo hi l nm w hv hlen)
  have HV := hid hv'
  have HN := hid hpl
  obtain ⟨k0, hk0⟩ : ∃ k, k = (latF l nm).1 := ⟨_, rfl⟩
  obtain ⟨f0, hf0⟩ : ∃ f, f = (latF l nm).2 := ⟨_, rfl⟩
  rw [← hk0, ← hf0] at HL
  rw [← hk0]
  obtain ⟨nn, hnn⟩ : ∃ x, x = k0.e.n := ⟨_, rfl⟩
  obtain ⟨v0, hv0⟩ : ∃ x, x = k0.e.v := ⟨_, rfl⟩
  obtain ⟨y0, hy0⟩ : ∃ x, x = k0.e.k := ⟨_, rfl⟩
  obtain ⟨p0, hp0⟩ : ∃ x, x = k0.p := ⟨_, rfl⟩
  unfold Kno.V knoC at HL
  rw [← hnn, ← hv0, ← hy0, ← hp0] at HL
  rw [← hv0, ← hy0]
  clear hv hv' hlen hpl hk0 hf0 hnn hv0 hy0 hp0
  go_enter Try.func11, Try.ntmps11
  go_wp2_with fail
  refine HL.out.mono ?_
  rintro e1 w1 ⟨rfl, k1⟩
  have K1 := hid k1
  clear k1 HL
  go_upto_region 2 with fail
  go_region
  obtain ⟨w2, hw2⟩ : ∃ w2, w2 = (w1.alloc (.cells #[.string nn, .int .i64 v0, .int .u64 (y0 : Int), .int .i64 p0] 50)).drew := ⟨_, rfl⟩
  have k2 : Kept None w w2 := by
    rw [hw2]
    exact (K1.out.alloc _).drew
  rw [← hw2]
  have K2 := hid k2
  clear k2 hw2 K1
  go_wp2_with fail
  go_loopg [10, 11, 12] p.length (fun kx s10 s11 s12 wr => ∃ (i : Nat) (V : Int) (Y : Nat), s12 = .int .i64 (i : Int) ∧ s10 = .int .i64 V ∧ s11 = .int .u64 (Y : Int) ∧ i ≤ p.length ∧ p.length - i ≤ kx ∧ Hid (nxF (v0, y0) (p.take i) nm = (V, Y)) ∧ Hid (Kept None w wr))
  case atStart => exact ⟨0, v0, y0, rfl, rfl, rfl, Nat.zero_le _, Nat.le_refl _, hid rfl, K2⟩
  case round =>
  obtain ⟨i, V, Y, rfl, rfl, rfl, hi, hix, HF, HS⟩ := hrel
  by_cases hlt : i < p.length
  · have hlt' : decide ((i : Int) < (p.length : Int)) = true := by simpa using hlt
    have hlb : (i : Int) < (p.length : Int) := Int.ofNat_lt.mpr hlt
    obtain ⟨b, o, rfl, hbs, hcell⟩ := (HV.out.kept HS.out (fun _ _ _ h => h)).pen (by omega)
    obtain ⟨_, rx, _, _, _⟩ := hcell i hlt
    have hS := nxF_take (v0, y0) p nm i hlt
    rw [HF.out] at hS
    obtain ⟨x, hx⟩ : ∃ x, x = p[i] := ⟨_, rfl⟩
    rw [← hx] at rx hS
    obtain ⟨⟨xn, xv, xk, xc, xr, xs⟩, xt, xq, xb⟩ := x
    simp only [nxS] at hS
    simp only [reqC] at rx
    obtain ⟨E, hE⟩ : ∃ E, E = eqN xn nm := ⟨_, rfl⟩
    have hE' : (xn.toList == nm.toList) = E := by rw [hE]; rfl
    obtain ⟨G, hG⟩ : ∃ G, G = decide (V < xv) := ⟨_, rfl⟩
    have hG' := hG.symm
    rw [← hE, ← hG] at hS
    have HSS := hid hS
    have hw : wrap64 ((i : Int) + 1) = ((i + 1 : Nat) : Int) := by have := HN.out; unfold wrap64; omega
    have HW := hid hw
    clear hcell hx hE hG hS hbs hw
    cases E with
    | false =>
      go_wp2_with (first | (refine wpList_load_at (.refl _) _ _ rfl rfl rx Up.aUpd ?_) | fail)
      have HF2 : Hid (nxF (v0, y0) (p.take (i + 1)) nm = (V, Y)) := hid (by rw [HSS.out]; simp)
      go_roundg (p.length - (i + 1))
      case measure => omega
      case rel => exact ⟨i + 1, V, Y, by rw [HW.out], rfl, rfl, hlt, Nat.le_refl _, HF2, hid (HS.out.alloc _)⟩
    | true =>
      cases G with
      | false =>
        go_wp2_with (first | (refine wpList_load_at (.refl _) _ _ rfl rfl rx Up.aUpd ?_) | fail)
        have HF2 : Hid (nxF (v0, y0) (p.take (i + 1)) nm = (V, Y)) := hid (by rw [HSS.out]; simp)
        go_roundg (p.length - (i + 1))
        case measure => omega
        case rel => exact ⟨i + 1, V, Y, by rw [HW.out], rfl, rfl, hlt, Nat.le_refl _, HF2, hid (HS.out.alloc _)⟩
      | true =>
        go_upto_region 8 with (first | (refine wpList_load_at (.refl _) _ _ rfl rfl rx Up.aUpd ?_) | fail)
        go_region
        go_wp2
        have HF2 : Hid (nxF (v0, y0) (p.take (i + 1)) nm = (xv, xk)) := hid (by rw [HSS.out]; simp)
        go_roundg (p.length - (i + 1))
        case measure => omega
        case rel => exact ⟨i + 1, xv, xk, by rw [HW.out], rfl, rfl, hlt, Nat.le_refl _, HF2, hid ((HS.out.alloc _).drew)⟩
  · have hlt' : decide ((i : Int) < (p.length : Int)) = false := by simpa using hlt
    obtain rfl : i = p.length := by omega
    have hF := HF.out
    rw [List.take_length] at hF
    have HF2 := hid hF
    clear hlt hi hix hF
    go_wp2
    go_ret2
    rw [HF2.out]
    exact ⟨rfl, HS.out⟩
end R16
end Go.Proofs.Ytdobmebhjmgkmaa
namespace Go.Pm
open Go Go.RowKit
/-- The next version of a name, and the key ahead of it. -/
def nextP (l : List Kno) (p : List Pn) (nm : ByteArray) : Int × Nat := (wrap64 ((nxF ((latF l nm).1.e.v, (latF l nm).1.e.k) p nm).1 + 1), (nxF ((latF l nm).1.e.v, (latF l nm).1.e.k) p nm).2)
/-- Is it that one who waits? -/
def isP (nm : ByteArray) (v : Int) (x : Pn) : Bool := eqN x.u.n nm && decide (x.u.v = v)
def waitP (p : List Pn) (nm : ByteArray) (v : Int) : Option Pn := p.find? (isP nm v)
/-- What is told of a request whose version is neither known nor waits. -/
def freshP (N : Int × Nat) (u : Req) : Int × Int :=
  if u.v = N.1 then (if checkN (if N.1 = 1 then u.k else N.2) (msgB u.n u.v u.k) u.r u.s = true then (0, 0) else (0, 25)) else (0, 27)
def keyP (k : Nat) (u : Req) (kind : Int) : Int × Int := if k = u.k then (kind, 0) else (0, 26)
def waitsP (N : Int × Nat) (u : Req) : Option Pn → Int × Int
  | some x => keyP x.u.k u 1
  | none => freshP N u
def decP (l : List Kno) (p : List Pn) (u : Req) : Int × Int :=
  if u.right = true then (if (finK l u.n u.v).2 = true then keyP (finK l u.n u.v).1.e.k u 2 else waitsP (nextP l p u.n) u (waitP p u.n u.v)) else (0, 23)
theorem waitP_take (p : List Pn) (nm : ByteArray) (v : Int) (i : Nat) (h : i < p.length) (h0 : waitP (p.take i) nm v = none) : waitP (p.take (i + 1)) nm v = if isP nm v p[i] = true then some p[i] else none := by
  unfold waitP at h0 ⊢
  rw [List.take_succ_eq_append_getElem h, List.find?_append, h0, Option.none_or, List.find?_cons, List.find?_nil]
  cases isP nm v p[i] <;> rfl
theorem waitP_some (p : List Pn) (nm : ByteArray) (v : Int) (i : Nat) (x : Pn) (h : waitP (p.take i) nm v = some x) : waitP p nm v = some x := by
  unfold waitP at h ⊢
  rw [← List.take_append_drop i p, List.find?_append, h]
  rfl
/-- Those who wait, as admit is told of them: versions from 1 on, one key for a name's version. -/
structure PnOk (p : List Pn) : Prop where
  fits : ∀ x ∈ p, x.u.Fits
  pos : ∀ x ∈ p, 1 ≤ x.u.v
  same : ∀ x ∈ p, ∀ y ∈ p, x.u.n.toList = y.u.n.toList → x.u.v = y.u.v → x.u.k = y.u.k
theorem PnOk.nil : PnOk [] := ⟨(fun _ h => by cases h), (fun _ h => by cases h), (fun _ h => by cases h)⟩
end Go.Pm
namespace Go.Proofs.Ytdobmebhjmgkmaa
open Go.RowKit Go.Pm
namespace Ad
def NextC : Prop := ∀ (v v' : Value) (lo hi lo' hi' : Nat) (l : List Kno) (p : List Pn) (nm : ByteArray) (w : World), Ps 4 w lo hi v (knosC l) → Ps 9 w lo' hi' v' (pensC p) → RtK l → KOk l → PnOk p → l.length ≤ 1000000 → p.length ≤ 1000000 →
    Calls Try.prog 15 #[v, v', .string nm] w fun e w' => e = .returned (.tuple #[.int .i64 (nextP l p nm).1, .int .u64 ((nextP l p nm).2 : Int)]) ∧ Kept None w w'
def DecideC : Prop := ∀ (v v' : Value) (lo hi lo' hi' : Nat) (l : List Kno) (p : List Pn) (u : Req) (w : World), Ps 4 w lo hi v (knosC l) → Ps 9 w lo' hi' v' (pensC p) → RtK l → KOk l → PnOk p → u.Fits → u.n.size ≤ 1000 → l.length ≤ 1000000 → p.length ≤ 1000000 →
    Calls Try.prog 13 #[v, v', u.V] w fun e w' => e = .returned (.tuple #[.int .i64 (decP l p u).1, .int .i64 (decP l p u).2]) ∧ Kept None w w'
end Ad
end Go.Proofs.Ytdobmebhjmgkmaa
namespace Go.Proofs.Ytdobmebhjmgkmaa
open Go.RowKit Go.Pm
namespace RUp
theorem prime_lt (s : Nat) (b : Bool) (h : decide (s < prime61) = b) : ∀ z, z = s → decide ((z : Int) < (2305843009213693951 : Int)) = b := by
  rintro z rfl
  rw [← h, decide_eq_decide]
  unfold prime61
  omega
theorem entR_no {m : Nat} {v : Int} {k : Nat} (h : ¬ (1 ≤ m ∧ m ≤ 32 ∧ 1 ≤ v ∧ v ≤ 1073741824 ∧ 1 ≤ k ∧ k < prime61)) : entR m v k = false := by
  cases hb : entR m v k with
  | false => rfl
  | true =>
    unfold entR at hb
    simp only [Bool.and_eq_true, decide_eq_true_eq, and_assoc] at hb
    exact absurd hb h
theorem entR_yes {m : Nat} {v : Int} {k : Nat} (h : 1 ≤ m ∧ m ≤ 32 ∧ 1 ≤ v ∧ v ≤ 1073741824 ∧ 1 ≤ k ∧ k < prime61) : entR m v k = true := by
  unfold entR
  simp only [Bool.and_eq_true, decide_eq_true_eq, and_assoc]
  exact h

set_option maxRecDepth 100000 in
set_option maxHeartbeats 1000000 in
/-- postmarkref5.EntryRight. -/
theorem entryRight (n : ByteArray) (v : Int) (k : Nat) (w : World) : Calls Try.prog 33 #[entV n v k] w fun e w' => e = .returned (.bool (entR n.size v k)) ∧ Kept None w w' := by
  have k0 : Kept None w (w.alloc (.cells #[.string n, .int .i64 v, .int .u64 (k : Int)] 48)) := (Kept.refl _ _).alloc _
  by_cases h1 : n.size < 1
  · rw [entR_no (by omega)]
    go_enter Try.func33, Try.ntmps33
    go_wp2
    go_ret
    exact ⟨rfl, k0⟩
  by_cases h2 : 32 < n.size
  · rw [entR_no (by omega)]
    go_enter Try.func33, Try.ntmps33
    go_wp2
    go_ret
    exact ⟨rfl, k0⟩
  by_cases h3 : v < 1
  · rw [entR_no (by omega)]
    go_enter Try.func33, Try.ntmps33
    go_wp2
    go_ret
    exact ⟨rfl, k0⟩
  by_cases h4 : 1073741824 < v
  · rw [entR_no (by omega)]
    go_enter Try.func33, Try.ntmps33
    go_wp2
    go_ret
    exact ⟨rfl, k0⟩
  by_cases h5 : k < 1
  · rw [entR_no (by omega)]
    go_enter Try.func33, Try.ntmps33
    go_wp2
    go_ret
    exact ⟨rfl, k0⟩
  by_cases h6 : k < prime61
  · rw [entR_yes (by omega)]
    have hb := prime_lt k true (decide_eq_true h6)
    clear h6
    go_enter Try.func33, Try.ntmps33
    go_wp2
    go_ret
    exact ⟨rfl, k0⟩
  · rw [entR_no (by omega)]
    have hb := prime_lt k false (decide_eq_false h6)
    clear h6
    go_enter Try.func33, Try.ntmps33
    go_wp2
    go_ret
    exact ⟨rfl, k0⟩
end RUp
end Go.Proofs.Ytdobmebhjmgkmaa
namespace Go.Proofs.Ytdobmebhjmgkmaa
open Go.RowKit Go.Pm
namespace RUp
theorem fields_flat (n : ByteArray) (v : Int) (k : Nat) : lumpB (strB n) ++ leB (U6 v) ++ leB (k : Int) = fieldsB n v k := rfl
set_option maxRecDepth 100000 in
set_option maxHeartbeats 4000000 in
/-- postmarkref5.Fields. -/
theorem fields (n : ByteArray) (v : Int) (k : Nat) (w : World) (hn : n.size ≤ 274877906944) (hk : k < 18446744073709551616) : Calls Try.prog 49 #[entV n v k] w fun e w' => ∃ u, e = .returned u ∧ Kept None w w' ∧ Ob w' w.heap.size u (fieldsB n v k) := by
  have hsn := strB_len n
  have hv0 := U6_ge v
  have hv1 := U6_lt v
  have hw : IntKind.u64.wrap v = U6 v := by rw [IntKind.wrap_u64]
  have hf := fields_flat n v k
  obtain ⟨V, hV⟩ : ∃ V, V = U6 v := ⟨_, rfl⟩
  rw [← hV] at hv0 hv1 hw hf
  obtain ⟨L, hL⟩ : ∃ L, L = lumpB (strB n) := ⟨_, rfl⟩
  have hLl : L.length = 8 + n.size := by rw [hL, lumpB_len, hsn]
  have hj : ∀ v lo hi W, Bs W lo hi v (strB n) → Calls Try.prog 61 #[v] W fun en w' => ∃ v', en = .returned v' ∧ Kept None W w' ∧ Ob w' W.heap.size v' L := by
    intro v lo hi W h
    rw [hL]
    exact Ref.lump v lo hi (strB n) W h (by omega)
  rw [← hL] at hf
  obtain ⟨F, hF⟩ : ∃ F, F = fieldsB n v k := ⟨_, rfl⟩
  rw [← hF] at hf ⊢
  have H := hid (And.intro hj (And.intro hf (And.intro hLl (And.intro hn (And.intro hk (And.intro hv0 hv1))))))
  have B0 := Blk.new w #[.string n, .int .i64 v, .int .u64 (k : Int)] 48
  have k0 : Kept None w (w.alloc (.cells #[.string n, .int .i64 v, .int .u64 (k : Int)] 48)) := (Kept.refl _ _).alloc _
  clear hj hf hLl hF hL hV hn hk hv0 hv1
  go_enter Try.func49, Try.ntmps49
  have c0 := World.cell?_alloc_new w #[.string n, .int .i64 v, .int .u64 (k : Int)] 48
  clear c0
  go_wp2_with (first | (refine wpList_bytes rfl 9 22 5 _ rfl tString tBytes' tByte rfl (by have := H.out; omega) ?_; intro gB cB w2 hgB kB bB) | fail)
  refine (H.out.1 _ _ _ _ bB).mono ?_
  rintro e w3 ⟨u, rfl, k3, b3⟩
  have kk := kB.trans k3
  have B3 := B0.kept kk (fun h => h)
  have k03 := k0.trans kk
  have hs3 := k03.size
  have b3' := b3.base (base' := w.heap.size + 1) (B0.kept kB (fun h => h)).lt
  obtain ⟨aL, cL, rfl⟩ := b3.form
  have c1 : w3.cell? ⟨w.heap.size, 1, none⟩ = some (.int .i64 v) := B3.cell 1
  clear B0 k0 kB bB k3 kk b3
  go_wp2_with fail
  refine (Ref.num V _ H.out.2.2.2.2.2.1 H.out.2.2.2.2.2.2).mono ?_
  rintro e w4 ⟨u4, rfl, k4, b4⟩
  have B4 := B3.kept k4 (fun h => h)
  have k04 := k03.trans k4
  have hs4 : w.heap.size + 1 ≤ w4.heap.size := B4.lt
  have d4 := b4.bs (Nat.le_refl _)
  obtain ⟨a4, c4, rfl⟩ := b4.form
  have b3'' := b3'.kept k4 (fun _ _ h => h)
  clear B3 k03 k4 b4 b3' c1 hs3
  go_wp2_with (first | (at_builtin; refine wpList_append_bo (l := L) (m := leB V) (base := w.heap.size + 1) rfl _ _ 22 rfl rtBytes rfl rfl b3'' d4 (by have := H.out; rw [leB_length]; omega) hs4 ?k5) | fail)
  case k5 =>
    intro a5 n5 c5 w5 b5 k5
    have hne : ∀ k, (Value.slice aL L.length cL).ownBlock = some k → w.heap.size + 1 ≤ k := fun k hk => (b3''.own k hk).1
    have k05 := Kept.own k04 k5 (fun k hk => Nat.le_of_succ_le (hne k hk))
    have B5 := B4.kept k5 (fun h => absurd (hne _ h) (by omega))
    have c2 : w5.cell? ⟨w.heap.size, 2, none⟩ = some (.int .u64 (k : Int)) := B5.cell 2
    clear b3'' B4 k04 k5 hne d4 hs4
    go_wp2_with fail
    refine (Ref.num k _ (by omega) (by have := H.out; omega)).mono ?_
    rintro e w6 ⟨u6, rfl, k6, b6⟩
    have k06 := k05.trans k6
    have d6 := b6.bs (Nat.le_refl _)
    have hs6 : w.heap.size + 1 ≤ w6.heap.size := (B5.kept k6 (fun h => h)).lt
    obtain ⟨a6, c6, rfl⟩ := b6.form
    have b5' := b5.kept k6 (fun _ _ h => h)
    clear B5 k05 k6 b6 b5 c2
    go_wp2_with (first | (at_builtin; refine wpList_append_bo (l := L ++ leB V) (m := leB k) (base := w.heap.size + 1) rfl _ _ 22 rfl rtBytes rfl rfl b5' d6 (by have := H.out; rw [List.length_append, leB_length, leB_length]; omega) hs6 ?k7) | fail)
    case k7 =>
      intro a7 n7 c7 w7 b7 k7
      have k07 := Kept.own k06 k7 (fun k hk => Nat.le_of_succ_le (b5'.own k hk).1)
      rw [← List.append_assoc, H.out.2.1] at b7
      have b8 := b7.base (Nat.le_succ w.heap.size)
      clear b5' k06 k7 d6 b7
      go_wp2
      go_ret
      exact ⟨_, rfl, k07, b8⟩
end RUp
end Go.Proofs.Ytdobmebhjmgkmaa
namespace Go.Proofs.Ytdobmebhjmgkmaa
open Go.RowKit Go.Pm
namespace Ref
/-- The modulus that counts. -/
def modOf (m : Nat) : Nat := if m = order61 then order61 else prime61
theorem modOf_pos (m : Nat) : 0 < modOf m := by unfold modOf; split <;> decide
theorem modOf_le (m : Nat) : modOf m ≤ 4611686018427387904 := by unfold modOf; split <;> decide

theorem modulus (m : Nat) (w : World) : Calls Try.prog 57 #[.int .u64 m] w fun e w' => e = .returned (.int .u64 (modOf m : Nat)) ∧ w = w' := by
  by_cases h : m = order61
  · have e1 : modOf m = order61 := if_pos h
    rw [e1, h]
    go_enter Try.func57, Try.ntmps57
    go_wp2
    go_ret
    exact ⟨rfl, rfl⟩
  · have e1 : modOf m = prime61 := if_neg h
    rw [e1]
    have h2 : ((m : Int) == 2305843009213693950) = false := by
      simp only [beq_eq_false_iff_ne, ne_eq]
      intro e
      exact h (by unfold order61; omega)
    go_enter Try.func57, Try.ntmps57
    go_wp2
    go_ret
    exact ⟨rfl, rfl⟩

set_option maxHeartbeats 400000 in
theorem add (a b m : Nat) (w : World) : Calls Try.prog 47 #[.int .u64 a, .int .u64 b, .int .u64 m] w fun e w' => e = .returned (.int .u64 ((a + b) % modOf m : Nat)) ∧ Kept None w w' := by
  have m0 := modOf_pos m
  have m1 := modOf_le m
  have hmod := modulus m
  generalize modOf m = M at *
  have HM := hid hmod
  clear hmod
  go_enter Try.func47, Try.ntmps47
  go_wp2_with fail
  refine (HM.out _).mono ?_
  rintro e w1 ⟨rfl, rfl⟩
  go_wp2
  have p0 : (0 : Int) < M := by omega
  have x0 := Int.emod_nonneg (a : Int) (show (M : Int) ≠ 0 by omega)
  have y0 := Int.emod_nonneg (b : Int) (show (M : Int) ≠ 0 by omega)
  have x1 := Int.emod_lt_of_pos (a : Int) p0
  have y1 := Int.emod_lt_of_pos (b : Int) p0
  have ew : IntKind.u64.wrap ((a : Int) % M + (b : Int) % M) = (a : Int) % M + (b : Int) % M := by rw [IntKind.wrap_u64]; exact Int.emod_eq_of_lt (by omega) (by omega)
  have t1 : (a : Int).tmod M = (a : Int) % M := Int.tmod_eq_emod_of_nonneg (by omega)
  have t2 : (b : Int).tmod M = (b : Int) % M := Int.tmod_eq_emod_of_nonneg (by omega)
  have t3 : ((a : Int) % M + (b : Int) % M).tmod M = ((a : Int) % M + (b : Int) % M) % M := Int.tmod_eq_emod_of_nonneg (by omega)
  clear x0 x1 y0 y1 m0 m1
  go_quiet (fail)
  go_wp2
  go_ret
  exact ⟨by rw [Int.natCast_emod, Int.natCast_add]; rfl, Kept.toDrewN _ _ _⟩

theorem and_one (n : Nat) : bits .and .u64 (n : Int) 1 = ((n % 2 : Nat) : Int) := by
  have key : (BitVec.ofInt 64 (n : Int) &&& BitVec.ofInt 64 1).toNat = n % 2 := by
    rw [BitVec.toNat_and, BitVec.ofInt_natCast, BitVec.toNat_ofNat, show (BitVec.ofInt 64 1).toNat = 2 ^ 1 - 1 from rfl, Nat.and_two_pow_sub_one_eq_mod]
    omega
  show IntKind.u64.wrap ((BitVec.ofInt 64 (n : Int) &&& BitVec.ofInt 64 1).toNat : Int) = _
  rw [key, IntKind.wrap_u64]
  omega

set_option maxHeartbeats 1000000 in
theorem mul (a b m : Nat) (w : World) : Calls Try.prog 48 #[.int .u64 a, .int .u64 b, .int .u64 m] w fun e w' => e = .returned (.int .u64 (a * b % modOf m : Nat)) ∧ Kept None w w' := by
  have m0 := modOf_pos m
  have m1 := modOf_le m
  have hmod := modulus m
  generalize modOf m = M at *
  have HM := hid hmod
  clear hmod
  go_enter Try.func48, Try.ntmps48
  go_wp2_with fail
  refine (HM.out _).mono ?_
  rintro e w1 ⟨rfl, rfl⟩
  go_wp2
  have t1 : (a : Int).tmod M = ((a % M : Nat) : Int) := by rw [Int.natCast_emod]; exact Int.tmod_eq_emod_of_nonneg (by omega)
  have t2 : (b : Int).tmod M = ((b % M : Nat) : Int) := by rw [Int.natCast_emod]; exact Int.tmod_eq_emod_of_nonneg (by omega)
  have p0 : (0 : Int) < M := by omega
  go_quiet (fail)
  clear t1 t2
  go_wp2
  go_loopw [0, 1, 7] (fun x y z wr => ∃ a' b' o : Nat, x = .int .u64 a' ∧ y = .int .u64 b' ∧ z = .int .u64 o ∧ a' < M ∧ o < M ∧ (o + a' * b') % M = a * b % M ∧ Kept None w wr) (fun _ y _ _ => (intOf y).toNat)
  case atStart =>
    refine ⟨a % M, b % M, 0, ?_, ?_, rfl, Nat.mod_lt _ m0, m0, by rw [Nat.zero_add, ← Nat.mul_mod], Kept.toDrewN _ _ _⟩
    · rw [Int.natCast_emod]
    · rw [Int.natCast_emod]
  case round =>
    obtain ⟨x, y, o, rfl, rfl, rfl, hx, ho, he, hk⟩ := hrel
    by_cases hy : 0 < y
    · have hand := and_one y
      rcases Nat.mod_two_eq_zero_or_one y with hp | hp
      · rw [hp] at hand
        have HE := hid ((mul_even M o x y hp).trans he)
        clear he hp
        go_wp2
        go_roundw
        case rel => exact ⟨(x + x) % M, y / 2, o, by simp, by simp, rfl, Nat.mod_lt _ m0, ho, HE.out, hk⟩
        case measure => simp [intOf]; omega
      · rw [hp] at hand
        have HE := hid ((mul_odd M o x y hp).trans he)
        clear he hp
        go_wp2
        go_roundw
        case rel => exact ⟨(x + x) % M, y / 2, (o + x) % M, by simp, by simp, by simp, Nat.mod_lt _ m0, Nat.mod_lt _ m0, HE.out, hk⟩
        case measure => simp [intOf]; omega
    · have hy0 : y = 0 := by omega
      subst hy0
      rw [Nat.mul_zero, Nat.add_zero, Nat.mod_eq_of_lt ho] at he
      have HE := hid he
      clear he
      go_wp2
      go_ret
      rw [← HE.out]
      exact ⟨rfl, hk⟩

theorem modOf_modOf (m : Nat) : modOf (modOf m) = modOf m := by
  unfold modOf
  by_cases h : m = order61
  · rw [if_pos h, if_pos rfl]
  · rw [if_neg h, if_neg (by decide)]

set_option maxHeartbeats 1000000 in
theorem pow (a n m : Nat) (w : World) : Calls Try.prog 42 #[.int .u64 a, .int .u64 n, .int .u64 m] w fun e w' => e = .returned (.int .u64 (powm (modOf m) a n : Nat)) ∧ Kept None w w' := by
  have m0 := modOf_pos m
  have m1 := modOf_le m
  have hmod := modulus m
  have hmul := fun a b => mul a b (modOf m)
  simp only [modOf_modOf] at hmul
  generalize modOf m = M at *
  have HM := hid hmod
  have HU := hid hmul
  clear hmod hmul
  go_enter Try.func42, Try.ntmps42
  go_wp2_with fail
  refine (HM.out _).mono ?_
  rintro e w1 ⟨rfl, rfl⟩
  go_wp2
  go_loopw [0, 1, 7] (fun x y z wr => ∃ a' b' o : Nat, x = .int .u64 a' ∧ y = .int .u64 b' ∧ z = .int .u64 o ∧ o < M ∧ o * powm M a' b' % M = powm M a n ∧ Kept None w wr) (fun _ y _ _ => (intOf y).toNat)
  case atStart =>
    refine ⟨a % M, n, 1 % M, by simp, rfl, by simp, Nat.mod_lt _ m0, ?_, Kept.refl _ _⟩
    rw [Nat.mod_mul_mod, Nat.one_mul, powm_mod, Nat.mod_eq_of_lt (powm_lt M a n m0)]
  case round =>
    obtain ⟨x, y, o, rfl, rfl, rfl, ho, he, hk⟩ := hrel
    by_cases hy : 0 < y
    · have hand := and_one y
      rcases Nat.mod_two_eq_zero_or_one y with hp | hp
      · rw [hp] at hand
        have HE := hid ((pow_even M o x y hp).trans he)
        clear he hp
        go_wp2_with fail
        refine (HU.out x x _).mono ?_
        rintro e w2 ⟨rfl, k2⟩
        have hk2 := hk.then k2 (fun _ _ h => h)
        go_wp2
        go_roundw
        case rel => exact ⟨x * x % M, y / 2, o, rfl, by simp, rfl, ho, HE.out, hk2⟩
        case measure => simp [intOf]; omega
      · rw [hp] at hand
        have HE := hid ((pow_odd M o x y hp).trans he)
        clear he hp
        go_wp2_with fail
        refine (HU.out o x _).mono ?_
        rintro e w2 ⟨rfl, k2⟩
        have hk2 := hk.then k2 (fun _ _ h => h)
        go_wp2_with fail
        refine (HU.out x x _).mono ?_
        rintro e w3 ⟨rfl, k3⟩
        have hk3 := hk2.then k3 (fun _ _ h => h)
        go_wp2
        go_roundw
        case rel => exact ⟨x * x % M, y / 2, o * x % M, rfl, by simp, rfl, Nat.mod_lt _ m0, HE.out, hk3⟩
        case measure => simp [intOf]; omega
    · have hy0 : y = 0 := by omega
      subst hy0
      rw [powm_zero, Nat.mul_mod_mod, Nat.mul_one, Nat.mod_eq_of_lt ho] at he
      have HE := hid he
      clear he
      go_wp2
      go_ret
      rw [← HE.out]
      exact ⟨rfl, hk⟩
end Ref
end Go.Proofs.Ytdobmebhjmgkmaa
/- Package sponge: each function by its contract, over the plain functions of Spec2. So far: turn, spread, Perm. -/
namespace Go.Proofs.Ytdobmebhjmgkmaa
open Go.RowKit Go.Pm
namespace Sp

set_option maxHeartbeats 400000 in
theorem turn (x : U64) (n : Nat) (w : World) (h0 : 0 < n) (h1 : n < 64) :
    Calls Try.prog 79 #[.int .u64 (U x), .int .i64 n] w fun e w' => e = .returned (.int .u64 (U (rot x n))) ∧ ∃ m, w' = w.drewN m := by
  have g0 := U_ge x
  have g1 := U_lt x
  go_enter Try.func79, Try.ntmps79
  go_wp2
  go_quiet (fail)
  go_wp2
  go_ret
  have e1 := U_shr x n
  have e2 := U_shl x (64 - n)
  push_cast at e1 e2
  refine ⟨?_, nq, rfl⟩
  show Ending.returned (.int .u64 (bits .or .u64 (U x / 2 ^ n) (IntKind.u64.wrap (U x * 2 ^ (64 - n))))) = _
  rw [e1, e2, U_or]
  rfl

set_option maxHeartbeats 400000 in
theorem spread (x : U64) (n m : Nat) (N M : Int) (hN : N = n) (hM : M = m) (w : World) (h0 : 0 < n) (h1 : n < 64) (h2 : 0 < m) (h3 : m < 64) :
    Calls Try.prog 77 #[.int .u64 (U x), .int .i64 N, .int .i64 M] w fun e w' => e = .returned (.int .u64 (U (lin x n m))) ∧ Kept None w w' := by
  subst hN hM
  have g0 := U_ge x
  have g1 := U_lt x
  go_enter Try.func77, Try.ntmps77
  go_wp2_with fail
  refine (turn x n _ h0 h1).mono ?_
  rintro e1 w1 ⟨rfl, m1, hw1⟩
  have k1 : Kept None w w1 := by rw [hw1]; exact Kept.toDrewN _ _ _
  clear hw1
  go_wp2_with fail
  refine (turn x m _ h2 h3).mono ?_
  rintro e2 w2 ⟨rfl, m2, hw2⟩
  have k2 : Kept None w w2 := by rw [hw2]; exact k1.drewN _
  clear hw2
  go_wp2
  go_ret
  simp only [U_xor]
  exact ⟨rfl, k2⟩

/-- A state, as the program has it. -/
abbrev sv (s : S5) : Value := .agg #[.int .u64 (U s.a), .int .u64 (U s.b), .int .u64 (U s.c), .int .u64 (U s.d), .int .u64 (U s.e)]
set_option maxRecDepth 100000 in
set_option maxHeartbeats 1000000 in
theorem perm (s : S5) (w : World) :
    Calls Try.prog 72 #[sv s] w fun e w' => e = .returned (sv s.perm) ∧ Kept None w w' := by
  generalize hs0 : s = s0
  have HS := hid hs0
  clear hs0
  obtain ⟨a, b, c, d, e⟩ := s
  go_enter Try.func72, Try.ntmps72
  go_wp2
  go_quiet (fail)
  go_wp2
  go_loopw [3, 4, 5, 6, 7, 8] (fun v3 v4 v5 v6 v7 v8 wr => ∃ (k : Nat) (t : S5) (n : U64), k ≤ 12 ∧ U n = 240 - 15 * k ∧ t = (consts.take k).foldl S5.round s0 ∧ v3 = .int .u64 (U t.a) ∧ v4 = .int .u64 (U t.b) ∧ v5 = .int .u64 (U t.c) ∧ v6 = .int .u64 (U t.d) ∧ v7 = .int .u64 (U t.e) ∧
      v8 = .int .u64 (U n) ∧ Kept None w wr ∧ Blk wr (w.heap.size + 1) #[.int .u64 0, .int .u64 0, .int .u64 0, .int .u64 0, .int .u64 0] 97) (fun _ _ _ _ _ v8 _ => (intOf v8).toNat)
  case atStart =>
    refine ⟨0, _, 240, by omega, rfl, rfl, ?_, ?_, ?_, ?_, ?_, rfl, ((Kept.refl _ _).alloc _).alloc _ |>.drewN _, (Blk.new2 _ _ _ _).drewN _⟩
    all_goals rw [← HS.out]; rfl
  case round =>
    obtain ⟨k, t, n, hk, hn, ht, rfl, rfl, rfl, rfl, rfl, rfl, hkk, hb⟩ := hrel
    by_cases hlt : k < 12
    · have hn1 : 75 ≤ U n := by omega
      have HM := hid (U_next n hn1)
      have HN := hid hn
      have HT := hid ht
      have HB := hid hb
      clear hn ht hb HS
      go_wp2_with fail
      simp only [U_xor, U_and, U_not']
      refine (spread _ 19 28 _ _ rfl rfl _ (by decide) (by decide) (by decide) (by decide)).mono ?_
      rintro e1 w1 ⟨rfl, k1⟩
      go_wp2_with fail
      refine (spread _ 61 39 _ _ rfl rfl _ (by decide) (by decide) (by decide) (by decide)).mono ?_
      rintro e2 w2 ⟨rfl, k2⟩
      go_wp2_with fail
      refine (spread _ 1 6 _ _ rfl rfl _ (by decide) (by decide) (by decide) (by decide)).mono ?_
      rintro e3 w3 ⟨rfl, k3⟩
      go_wp2_with fail
      refine (spread _ 10 17 _ _ rfl rfl _ (by decide) (by decide) (by decide) (by decide)).mono ?_
      rintro e4 w4 ⟨rfl, k4⟩
      go_wp2_with fail
      refine (spread _ 7 41 _ _ rfl rfl _ (by decide) (by decide) (by decide) (by decide)).mono ?_
      rintro e5 w5 ⟨rfl, k5⟩
      have kk := (((k1.trans k2).trans k3).trans k4).trans k5
      clear k1 k2 k3 k4 k5
      go_wp2
      go_roundw
      case rel =>
        obtain ⟨m, hm⟩ := HM.out
        refine ⟨k + 1, t.round n, m, by omega, by have := HN.out; omega, ?_, rfl, rfl, rfl, rfl, rfl, ?_, hkk.then kk (fun _ _ h => h), HB.out.kept kk (fun h => h)⟩
        · rw [HT.out]; exact (consts_step k hlt n HN.out s0).symm
        · rw [hm, wrap_next n hn1]
      case measure => simp only [intOf]; rw [wrap_next n hn1]; omega
    · have h12 : k = 12 := by omega
      have ht' : t = s0.perm := by rw [ht, h12]; rfl
      have hn1 : U n < 75 := by omega
      have HP := hid ht'
      have c2 := fun i => hb.cell i
      have hf : ∀ i, wr.frozen? ⟨w.heap.size + 1, i, none⟩ = false := fun i => hb.free i
      clear ht hn h12 ht'
      go_wp2
      have hb2 := ((((hb.set 0 (.int .u64 (U t.a))).set 1 (.int .u64 (U t.b))).set 2 (.int .u64 (U t.c))).set 3 (.int .u64 (U t.d))).set 4 (.int .u64 (U t.e))
      have hk2 : Kept None w (((((wr.setCell ⟨w.heap.size + 1, 0, none⟩ (.int .u64 (U t.a))).setCell ⟨w.heap.size + 1, 1, none⟩ (.int .u64 (U t.b))).setCell ⟨w.heap.size + 1, 2, none⟩ (.int .u64 (U t.c))).setCell ⟨w.heap.size + 1, 3, none⟩ (.int .u64 (U t.d))).setCell ⟨w.heap.size + 1, 4, none⟩ (.int .u64 (U t.e))) := by
        exact ((((hkk.setNew (by omega) _ _).setNew (by omega) _ _).setNew (by omega) _ _).setNew (by omega) _ _).setNew (by omega) _ _
      clear hb hkk c2 hf
      generalize (((((wr.setCell ⟨w.heap.size + 1, 0, none⟩ (.int .u64 (U t.a))).setCell ⟨w.heap.size + 1, 1, none⟩ (.int .u64 (U t.b))).setCell ⟨w.heap.size + 1, 2, none⟩ (.int .u64 (U t.c))).setCell ⟨w.heap.size + 1, 3, none⟩ (.int .u64 (U t.d))).setCell ⟨w.heap.size + 1, 4, none⟩ (.int .u64 (U t.e))) = w2 at *
      have c0 := hb2.cell 0
      have c1 := hb2.cell 1
      have c2 := hb2.cell 2
      have c3 := hb2.cell 3
      have c4 := hb2.cell 4
      simp at c0 c1 c2 c3 c4
      rw [← HP.out]
      exact bodyPost_ret (v := sv t) (by simp [results, Try.results72, go_sem, c0, c1, c2, c3, c4]) rfl ⟨rfl, hk2⟩

set_option maxHeartbeats 400000 in
/-- sponge.word. -/
theorem word (v : Value) (lo hi : Nat) (l : List UInt8) (w : World) (hv : Bs w lo hi v l) (hl : l.length ≤ 8) :
    Calls Try.prog 73 #[v] w fun en w' => en = .returned (.int .u64 (leV l)) ∧ w = w' := by
  obtain ⟨a, cap, rfl, g1, g2, g3⟩ := hv.shape
  go_enter Try.func73, Try.ntmps73
  go_wp2
  go_loop [3, 8] (fun x i => ∃ k : Nat, k ≤ l.length ∧ i = .int .i64 k ∧ x = .int .u64 (leV (l.take k))) (fun _ i => l.length - (intOf i).toNat)
  case atStart => exact ⟨0, Nat.zero_le _, rfl, by rw [leV_zero]⟩
  case round =>
    obtain ⟨k, hk, rfl, rfl⟩ := hrel
    by_cases hlt : k < l.length
    · obtain ⟨b, o, rfl, q1, q2, q3, hc⟩ := Bs.ne hv (by omega)
      have hc' := hc k hlt
      have c0 := bAt_ge l k
      have c1 := bAt_lt l k
      have HS := hid (word_step l k (by omega))
      clear hc hv g3
      generalize bAt l k = c at *
      go_wp2
      go_round
      case rel => exact ⟨k + 1, by omega, by go_num, by rw [HS.out]⟩
      case measure => simp [intOf]; omega
    · have h1 : l.take k = l := List.take_of_length_le (by omega)
      rw [h1]
      clear h1 hv g3
      go_wp2
      go_ret
      exact ⟨rfl, rfl⟩
end Sp
end Go.Proofs.Ytdobmebhjmgkmaa

/- sponge.squeeze, by its contract. -/
namespace Go.Proofs.Ytdobmebhjmgkmaa
open Go.RowKit Go.Pm
namespace Sp

theorem aS : AggTy Try.prog 97 5 := ⟨⟨.array 5 23, by kernel_rfl, rfl⟩, by kernel_rfl⟩
theorem aH : AggTy Try.prog 83 32 := ⟨⟨.array 32 5, by kernel_rfl, rfl⟩, by kernel_rfl⟩
/-- A state's cells. -/
abbrev sc (s : S5) : Array Value := #[.int .u64 (U s.a), .int .u64 (U s.b), .int .u64 (U s.c), .int .u64 (U s.d), .int .u64 (U s.e)]
theorem sc_all (s : S5) : (sc s).all (·.oneCell') = true := by simp [Value.oneCell']
/-- What has been squeezed so far, noughts behind it. -/
def sofar (s : S5) (k : Nat) : List Value := (eights s k).map u8v ++ List.replicate (32 - 8 * k) (.int .u8 0)

theorem sofar_zero (s : S5) : (sofar s 0).toArray = #[.int .u8 0, .int .u8 0, .int .u8 0, .int .u8 0, .int .u8 0, .int .u8 0, .int .u8 0, .int .u8 0, .int .u8 0, .int .u8 0, .int .u8 0, .int .u8 0, .int .u8 0, .int .u8 0, .int .u8 0, .int .u8 0, .int .u8 0, .int .u8 0, .int .u8 0, .int .u8 0, .int .u8 0, .int .u8 0, .int .u8 0, .int .u8 0, .int .u8 0, .int .u8 0, .int .u8 0, .int .u8 0, .int .u8 0, .int .u8 0, .int .u8 0, .int .u8 0] := rfl
theorem sofar_four (s : S5) : sofar s 4 = (eights s 4).map u8v := by unfold sofar; simp
theorem sofar_len (s : S5) (k : Nat) (hk : k ≤ 4) : (sofar s k).length = 32 := by unfold sofar; simp [eights_len]; omega
theorem zeros : ∀ n : Nat, (List.replicate n (Value.int .u8 0)).toArray = Array.replicate n (.int .u8 0) := fun n => by simp

theorem tHash : Try.prog.underlying 83 = some (.array (Try.prog.arrayLen 83) (Try.prog.elem 83)) := by kernel_rfl
theorem lHash : Try.prog.arrayLen 83 = 32 := by kernel_rfl
theorem zHash : ∀ W, (sizeOf (Try.prog.elem 83)).run Try.prog W = .ok 1 W := fun _ => by kernel_rfl
theorem cutHash (h k : Nat) (hk : k < 4) (W : World) : (Instr.sliceAt 83 (.pointer (some ⟨h, 0, none⟩)) (some (.int .i64 (8 * (k : Int)))) none none).run Try.prog W = .ok (.slice (some ⟨h, 8 * k, none⟩) (32 - 8 * k) (32 - 8 * k)) W := by
  rw [run_sliceAt_array_l W 83 ⟨h, 0, none⟩ tHash .i64 (8 * (k : Int)) (by omega) (by rw [lHash]; omega), zHash, lHash]
  have e : ((8 : Int) * (k : Int)).toNat = 8 * k := by omega
  simp only [Result.andThen, slicedAt, e]
  rw [if_neg (by omega), Nat.mul_one, Addr.add_lit, Nat.zero_add]
/-- What is known in the region that lays eight bytes into the hash: the hash's block; the bytes (operation 4); the hash behind the copy (operation 5). -/
def planSq (h H0 : Nat) (cur new : List Value) (l : List UInt8) : List Fct :=
  [{ k := 100, uses := [], fact := fun _ W => Blk W h cur.toArray 83 },
   { k := 4, uses := [], fact := fun v W => Ob W H0 v l },
   { k := 5, uses := [4, 100], spends := [100], fact := fun _ W => Blk W h new.toArray 83 }]
theorem planSq_pure {h H0 : Nat} {cur new : List Value} {l : List UInt8} : ∀ f ∈ planSq h H0 cur new l, ∃ v, f.pure v := by
  intro f hf
  simp only [planSq, List.mem_cons, List.not_mem_nil, or_false] at hf
  rcases hf with rfl | rfl | rfl <;> exact ⟨undef, trivial⟩
theorem planSq_keeps4 {base : World → Prop} {h H0 : Nat} {cur new : List Value} {l : List UInt8} {W W' : World} (hk : Kept None W W') : (planOf base (planSq h H0 cur new l)).keeps 4 W W' := by
  refine keeps_of fun f hf _ _ _ u hfu => ?_
  simp only [planSq, List.mem_cons, List.not_mem_nil, or_false] at hf
  rcases hf with rfl | rfl | rfl
  · exact Blk.kept hfu hk (fun h => h)
  · exact Bo.kept hfu hk (fun _ _ h => h)
  · exact Blk.kept hfu hk (fun h => h)
theorem planSq_keeps5 {base : World → Prop} {h H0 : Nat} {cur new : List Value} {l : List UInt8} {W W' : World} (hk : Kept (Just h) W W') (hh : h < H0) : (planOf base (planSq h H0 cur new l)).keeps 5 W W' := by
  refine keeps_of fun f hf hs _ hne u hfu => ?_
  simp only [planSq, List.mem_cons, List.not_mem_nil, or_false] at hf
  rcases hf with rfl | rfl | rfl
  · exact absurd (List.Mem.head _) hs
  · exact Bo.kept hfu hk (fun k hk' (e : k = h) => by have := (Bo.own hfu k hk').1; omega)
  · exact absurd rfl hne
theorem sofar_splice (s : S5) (k : Nat) (hk : k < 4) : splice (sofar s k) (8 * k) ((leB (U (Go.Pm.squeeze s k).a)).map u8v) = sofar s (k + 1) := by
  unfold splice sofar
  rw [List.take_left' (by simp [eights_len])]
  rw [show 8 * k + ((leB (U (Go.Pm.squeeze s k).a)).map u8v).length = ((eights s k).map u8v).length + 8 by simp [eights_len, leB_length]]
  rw [List.drop_append, List.drop_of_length_le (by simp)]
  simp only [eights, List.map_append, List.append_assoc, List.drop_replicate]
  congr 3
  simp
  omega

set_option maxHeartbeats 1000000 in
theorem sqz (s : S5) (w : World) :
    Calls Try.prog 74 #[sv s] w fun e w' => e = .returned (hashV (eights s 4)) ∧ Kept None w w' := by
  generalize hs0 : s = s0
  have HS := hid hs0
  clear hs0
  go_enter Try.func74, Try.ntmps74
  go_wp2
  go_loopw [4] (fun i wr => ∃ k : Nat, k ≤ 4 ∧ i = .int .i64 ((8 * k : Nat) : Int) ∧ Kept None w wr ∧ Blk wr w.heap.size (sc (squeeze s0 (k - 1))) 97 ∧ (∃ z : Array Value, z.size = 32 ∧ Blk wr (w.heap.size + 1) z 83) ∧
      Blk wr (w.heap.size + 1 + 1) (sofar s0 k).toArray 83) (fun i _ => 32 - (intOf i).toNat)
  case atStart =>
    refine ⟨0, by omega, rfl, (((Kept.refl _ _).alloc _).alloc _).alloc _, ?_, ⟨Array.replicate 32 (.int .u8 0), by simp, ?_⟩, ?_⟩
    · rw [← HS.out]; exact ((Blk.new _ _ _).alloc _).alloc _
    · exact (Blk.new2 _ _ _ _).alloc _
    · exact sofar_zero s0 ▸ Blk.new3 _ _ _ _ _
  case round =>
    obtain ⟨k, hk, rfl, hkk, hS, ⟨z, hz, hR⟩, hH⟩ := hrel
    have hsz := hkk.size
    by_cases h4 : k < 4
    · have hlt := hH.lt
      rcases Nat.eq_zero_or_pos k with h0 | h0
      case' inl =>
        obtain ⟨wx, hwx⟩ : ∃ wx, wx = wr := ⟨_, rfl⟩
        have hkx : Kept None w wx := by rw [hwx]; exact hkk
        have hSx : Blk wx w.heap.size (sc (Go.Pm.squeeze s0 k)) 97 := by rw [hwx, h0]; rw [h0] at hS; exact hS
        have hRx : Blk wx (w.heap.size + 1) z 83 := by rw [hwx]; exact hR
        have hHx : Blk wx (w.heap.size + 1 + 1) (sofar s0 k).toArray 83 := by rw [hwx]; exact hH
        rw [← hwx]
        have h0' : ¬ 0 < 8 * k := by omega
        clear hkk hS hR hH hwx hlt h0 hsz
        go_wp2
      case' inr =>
        have h0' : 0 < 8 * k := by omega
        go_wp2_with (first | (refine wpList_load_blk rfl _ _ rfl rfl hS aS ?_) | fail)
        refine (perm _ wr).mono ?_
        rintro e1 w1 ⟨rfl, k1⟩
        rw [show (Go.Pm.squeeze s0 (k - 1)).perm = Go.Pm.squeeze s0 k by obtain ⟨j, rfl⟩ : ∃ j, k = j + 1 := ⟨k - 1, by omega⟩; rfl]
        have hS1 := hS.kept k1 (fun h => h)
        go_wp2_with (first | (refine wpList_store_blk rfl _ _ _ rfl rfl rfl hS1 aS rfl (sc_all _) ?_; intro wx hSx k2))
        have hkx : Kept None w wx := (hkk.then k1 (fun _ _ h => h)).then k2 (fun i hi (h : i = _) => by omega)
        have hRx := (hR.kept k1 (fun h => h)).kept k2 (fun (h : _ = _) => by omega)
        have hHx := (hH.kept k1 (fun h => h)).kept k2 (fun (h : _ = _) => by omega)
        clear hkk hS hR hH hlt hS1 k1 k2 h0 hsz
      all_goals
        have hlx := hHx.lt
        have hu := U_ge (Go.Pm.squeeze s0 k).a
        have hu2 := U_lt (Go.Pm.squeeze s0 k).a
        have HU := hid (And.intro hu hu2)
        clear hu hu2
        try simp only [Act.put]
        refine wp_region_plan (Kept (Just (w.heap.size + 1 + 1)) wx) (planSq (w.heap.size + 1 + 1) wx.heap.size (sofar s0 k) (sofar s0 (k + 1)) (leB (U (Go.Pm.squeeze s0 k).a))) [100] (by kernel_rfl) (by kernel_rfl) (by kernel_rfl) rfl planSq_pure (Kept.refl _ _).drew (fun j hj => by
          obtain rfl : j = 100 := by simpa using hj
          exact hHx.drew) ?_
        iterate 4 (refine wpPar_pure rfl (by rfl) _ (fun W hW => by
          have c0 : W.cell? ⟨w.heap.size, 0, none⟩ = some (.int .u64 (U (Go.Pm.squeeze s0 k).a)) := (hSx.kept hW (fun (h : _ = _) => by omega)).cell 0
          have h1 := cutHash (w.heap.size + 1 + 1) k h4 W
          go_simp
          exact rfl) ?_; simp only [Act.put, List.setIfInBounds_toArray, List.set_cons_zero, List.set_cons_succ])
        refine wpPar_adds rfl (by rfl) (fun W hW _ => ?_) (fun v _ => ?_)
        · unfold Gives
          go_simp
          refine gives_call (Bin.num _ W HU.out.1 HU.out.2) ?_
          rintro e w3 ⟨v3, rfl, k3, hb3⟩
          exact ⟨_, rfl, hW.then k3 (fun _ _ h => h.elim), trivial, hb3.base hW.size, planSq_keeps4 k3⟩
        simp only [Act.put, List.setIfInBounds_toArray, List.set_cons_zero, List.set_cons_succ]
        refine wpPar_adds rfl (by rfl) (fun W hW hd => ?_) (fun v' _ => ?_)
        · have hv4 : Ob W wx.heap.size v (leB (U (Go.Pm.squeeze s0 k).a)) := hd 4 (List.Mem.head _)
          have hB : Blk W (w.heap.size + 1 + 1) (sofar s0 k).toArray 83 := hd 100 (List.Mem.tail _ (List.Mem.head _))
          refine gives_copy (.tmp 14) (.tmp 17) 22 22 rfl 5 tBytes' (by kernel_rfl) rfl rfl (hv4.bs (Nat.le_refl _)) (by rw [leB_length]; decide) hB (by rw [leB_length]; omega) (by rw [sofar_len _ _ hk, leB_length]; omega) ?_
          intro w' b' k'
          rw [sofar_splice _ _ h4] at b'
          exact ⟨hW.then k' (fun _ _ h => h), trivial, b', planSq_keeps5 k' hlx⟩
        simp only [Act.put, List.setIfInBounds_toArray, List.set_cons_zero, List.set_cons_succ]
        refine wpPar_nil (fun W hW hG => ?_)
        have hHn : Blk W (w.heap.size + 1 + 1) (sofar s0 (k + 1)).toArray 83 := hG 5
        have hkn : Kept None w W := hkx.then hW (fun i hi (h : i = _) => by omega)
        have hSn := hSx.kept hW (fun (h : _ = _) => by omega)
        have hRn := hRx.kept hW (fun (h : _ = _) => by omega)
        clear hkx hSx hRx hHx hW hG HU
        go_wp2
        go_roundw
        case rel => exact ⟨k + 1, by omega, by go_num, hkn, hSn, ⟨z, hz, hRn⟩, hHn⟩
        case measure => simp [intOf]; omega
    · have hk4 : k = 4 := by omega
      subst hk4
      rw [sofar_four] at hH
      have e32 : ((eights s0 4).map u8v).toArray.size = 32 := by simp [eights_len]
      have aH' : AggTy Try.prog 83 ((eights s0 4).map u8v).toArray.size := by rw [e32]; exact aH
      have hz' := hz.trans e32.symm
      have E := hid (And.intro hz hz')
      clear e32 hz hz'
      go_wp2_with (first | (refine wpList_load_blk rfl _ _ rfl rfl hH aH' ?_) | (refine wpList_store_blk rfl _ _ _ rfl rfl rfl hR aH' E.out.2 (u8v_all _) ?_; intro w2 b2 k2))
      exact bodyPost_ret (v := hashV (eights s0 4)) (results_blk rfl _ rfl b2 aH') rfl ⟨rfl, hkk.then k2 (fun i hi (h : i = _) => by omega)⟩
end Sp
end Go.Proofs.Ytdobmebhjmgkmaa

/- sponge.Sum, Text, Tag, by their contracts. -/
namespace Go.Proofs.Ytdobmebhjmgkmaa
open Go.RowKit Go.Pm
namespace Sp

def lenOf : Value → Nat
  | .slice _ n _ => n
  | _ => 0
theorem perm_first (w : World) : Calls Try.prog 72 #[.agg #[.int .u64 8800401358850, .int .u64 0, .int .u64 0, .int .u64 0, .int .u64 0]] w fun e w' => e = .returned (sv first) ∧ Kept None w w' :=
  perm ⟨0x0000080100cc0002, 0, 0, 0, 0⟩ w
set_option maxRecDepth 100000 in
set_option maxHeartbeats 1000000 in
theorem sum (v : Value) (lo hi : Nat) (l : List UInt8) (w : World) (hv : Bs w lo hi v l) :
    Calls Try.prog 68 #[v] w fun e w' => e = .returned (hashV (sumB l)) ∧ Kept None w w' := by
  have pf := perm_first
  have key1 := absorb_step l first
  have key2 := soaked_last l
  have e32 : ((sumB l).map u8v).toArray.size = 32 := by simp [sumB_len]
  show Calls _ _ _ w fun e w' => e = .returned (hashV (eights (soaked l) 4)) ∧ Kept None w w'
  change ((eights (soaked l) 4).map u8v).toArray.size = 32 at e32
  have sq := fun w => sqz (soaked l) w
  -- an 'obtain' keeps each under its name in the proof's term too: what stands behind the names unfolds without end
  obtain ⟨res, hres⟩ : ∃ res, res = eights (soaked l) 4 := ⟨_, rfl⟩
  obtain ⟨so, hso⟩ : ∃ so, so = soaked l := ⟨_, rfl⟩
  obtain ⟨F, hF⟩ : ∃ F, F = first := ⟨_, rfl⟩
  rw [← hres] at e32 sq ⊢
  rw [← hso] at sq key2
  rw [← hF] at pf key1 key2
  have PF := hid pf
  have SQ := hid sq
  have K1 := hid key1
  have K2 := hid key2
  have K3 := hid e32
  clear key1 key2 e32 sq pf hres hso hF
  obtain ⟨a, cap, rfl, g1, g2, g3⟩ := hv.shape
  go_enter Try.func68, Try.ntmps68
  go_wp2_with fail
  refine (PF.out _).mono ?_
  rintro e1 w1 ⟨rfl, k1⟩
  have k1' : Kept None w w1 := ((Kept.refl _ _).alloc _).trans k1
  have hR := (Blk.new w _ _).kept k1 (fun h => h)
  obtain ⟨z, hz, hR'⟩ : ∃ z : Array Value, z.size = 32 ∧ Blk w1 w.heap.size z 83 := ⟨_, rfl, hR⟩
  have hs1 : w.heap.size < w1.heap.size := hR'.lt
  clear k1 hR
  go_wp2
  have hv0 := (Vs.lt hv).kept (k1'.alloc (.cells (sc F) 97)) (fun _ _ _ h => h)
  have hhi : min hi w.heap.size ≤ w1.heap.size := by omega
  generalize min hi w.heap.size = hi' at hv0 hhi
  go_loopw [0] (fun v wr => ∃ (k n : Nat) (a : Option Addr) (c : Nat), v = .slice a n c ∧ 8 * k + n = l.length ∧ Bs wr lo hi' (.slice a n c) (l.drop (8 * k)) ∧ Kept None w wr ∧ Blk wr w1.heap.size (sc (absorb (padded l) F k)) 97 ∧ Blk wr w.heap.size z 83) (fun v _ => lenOf v)
  case atStart => exact ⟨0, l.length, a, cap, rfl, by omega, hv0, k1'.alloc _, Blk.new _ _ _, hR'.alloc _⟩
  case round =>
    clear hv0 hR' hv g3
    obtain ⟨k, n, a, c, rfl, hn, hb, hk, hS, hR⟩ := hrel
    have hnc : n ≤ c ∧ c ≤ 9223372036854775807 := by
      obtain ⟨a', c', e, h1, h2, _⟩ := hb.shape
      injection e with e1 e2 e3
      omega
    obtain ⟨hnc1, hnc2⟩ := hnc
    have hlt := hS.lt
    by_cases h8 : 8 ≤ n
    · obtain ⟨a1, s1, p1⟩ := slice_to tBytes zBytes hb .i64 8 (by omega) (by omega)
      obtain ⟨a2, s2, p2⟩ := slice_from tBytes zBytes hb .i64 8 (by omega) (by omega)
      have c0 := hS.cell 0
      have f0 := hS.free 0
      simp at c0
      go_wp2
      clear c0 f0
      refine wp_tail 7 (by kernel_rfl) (by kernel_rfl) (fun wy ky => ?_)
      have hS' := hS.kept ky (fun h => h)
      have c0 := hS'.cell 0
      have f0 := hS'.free 0
      simp at c0
      simp only [List.take_succ_cons, List.take_zero, List.drop_succ_cons, List.drop_zero]
      repeat still_step
      have hb1 : Bs wy lo hi' (.slice a1 8 c) ((l.drop (8 * k)).take 8) := by
        have := Vs.kept p1 ky (fun _ _ _ h => h)
        rw [← List.map_take] at this
        exact this
      still_call (Calls.same (word (.slice a1 8 c) lo hi' _ wy hb1 (by simp; omega)))
      repeat still_step
      refine wpStill_nil ?_
      have hx := mixed_a (absorb (padded l) F k) (leV ((l.drop (8 * k)).take 8)) (leV_ge _) (leV_lt _)
      have HST := hid (K1.out k (by omega))
      generalize hx' : leV ((l.drop (8 * k)).take 8) = x at *
      clear hx'
      generalize hst : absorb (padded l) F k = st at *
      clear hst
      simp only [hx]
      have hS2 : Blk (wy.setCell ⟨w1.heap.size, 0, none⟩ (.int .u64 (U (st.mixed (W x)).a))) w1.heap.size (sc (st.mixed (W x))) 97 := hS'.set 0 _
      have ky2 := (Kept.one wy w1.heap.size 0 (.int .u64 (U (st.mixed (W x)).a)))
      have hb2 : Bs wy lo hi' (.slice a2 (n - 8) (c - 8)) (l.drop (8 * (k + 1))) := by
        have := Vs.kept p2 ky (fun _ _ _ h => h)
        rw [← List.map_drop, List.drop_drop] at this
        exact this
      have hR2 := hR.kept ky (fun h => h)
      have hk2 := hk.then ky (fun _ _ h => h)
      clear hR hk hx p1 p2 hb1 hS hb hS' ky
      go_wp2_with (first | (refine wpList_load_blk rfl _ _ rfl rfl hS2 aS ?_) | fail)
      refine (perm _ _).mono ?_
      rintro e1 w2 ⟨rfl, k1⟩
      rw [← HST.out]
      obtain ⟨st', hst'⟩ : ∃ st', st' = absorb (padded l) F (k + 1) := ⟨_, rfl⟩
      rw [← hst']
      have HN := hid hst'
      clear hst' HST
      have hS3 := hS2.kept k1 (fun h => h)
      have hk3 : Kept None w w2 := (hk2.then ky2 (fun i hi (h : i = w1.heap.size) => by omega)).then k1 (fun _ _ h => h)
      have hb3 := (hb2.kept ky2 (fun i h1 h2 (h : i = w1.heap.size) => by omega)).kept k1 (fun _ _ _ h => h)
      have hR3 := (hR2.kept ky2 (fun (h : w.heap.size = w1.heap.size) => by omega)).kept k1 (fun h => h)
      clear hS2 hk2 hb2 hR2 ky2 k1 c0 f0
      go_wp2_with (first | (refine wpList_store_blk rfl _ _ _ rfl rfl rfl hS3 aS rfl (sc_all _) ?_; intro w3 hS4 k4))
      exact ⟨⟨k + 1, n - 8, a2, c - 8, rfl, by omega, hb3.kept k4 (fun i h1 h2 (h : i = w1.heap.size) => by omega), hk3.then k4 (fun i hi (h : i = w1.heap.size) => by omega), HN.out ▸ hS4, hR3.kept k4 (fun (h : w.heap.size = w1.heap.size) => by omega)⟩, by simp only [lenOf]; omega⟩
    · go_wp2
      refine wp_tail 11 (by kernel_rfl) (by kernel_rfl) (fun wy ky => ?_)
      have hS' := hS.kept ky (fun h => h)
      have c0 := hS'.cell 0
      have f0 := hS'.free 0
      simp at c0
      have hb' := hb.kept ky (fun _ _ _ h => h)
      simp only [List.take_succ_cons, List.take_zero, List.drop_succ_cons, List.drop_zero]
      repeat still_step
      have hlen : (l.drop (8 * k)).length ≤ 8 := by simp; omega
      have e1 : IntKind.i64.wrap (8 * (n : Int)) = 8 * (n : Int) := by rw [IntKind.wrap_i64]; omega
      have e2 : (0 : Int) ≤ 8 * (n : Int) := by omega
      have e3 : ((8 : Int) * (n : Int)).toNat = 8 * n := by omega
      still_call (Calls.same (word _ lo hi' _ wy hb' hlen))
      repeat still_step
      refine wpStill_nil ?_
      rw [last_word l k n hn (by omega)]
      have hx := mixed_a (absorb (padded l) F k) (leV ((padded l).drop (8 * k))) (leV_ge _) (leV_lt _)
      have HST := hid (K2.out k n hn (by omega))
      generalize hx' : leV ((padded l).drop (8 * k)) = x at *
      clear hx'
      generalize hst : absorb (padded l) F k = st at *
      clear hst
      simp only [hx]
      have hS2 : Blk (wy.setCell ⟨w1.heap.size, 0, none⟩ (.int .u64 (U (st.mixed (W x)).a))) w1.heap.size (sc (st.mixed (W x))) 97 := hS'.set 0 _
      have ky2 := (Kept.one wy w1.heap.size 0 (.int .u64 (U (st.mixed (W x)).a)))
      have hR2 := hR.kept ky (fun h => h)
      have hk2 := hk.then ky (fun _ _ h => h)
      clear hR hk hx hS hb hS' ky hb' hlen e1 e2 e3
      go_wp2_with (first | (refine wpList_load_blk rfl _ _ rfl rfl hS2 aS ?_) | fail)
      refine (perm _ _).mono ?_
      rintro e1 w2 ⟨rfl, k1⟩
      rw [← HST.out]
      have hS3 := hS2.kept k1 (fun h => h)
      have hk3 : Kept None w w2 := (hk2.then ky2 (fun i hi (h : i = w1.heap.size) => by omega)).then k1 (fun _ _ h => h)
      have hR3 := (hR2.kept ky2 (fun (h : w.heap.size = w1.heap.size) => by omega)).kept k1 (fun h => h)
      clear hS2 hk2 hR2 ky2 k1 c0 f0
      go_wp2_with (first | (refine wpList_store_blk rfl _ _ _ rfl rfl rfl hS3 aS rfl (sc_all _) ?_; intro w3 hS4 k4) | (refine wpList_load_blk rfl _ _ rfl rfl hS4 aS ?_) | fail)
      have hk4 := hk3.then k4 (fun i hi (h : i = w1.heap.size) => by omega)
      have hR4 := hR3.kept k4 (fun (h : w.heap.size = w1.heap.size) => by omega)
      clear hS3 hk3 hR3 k4
      refine (SQ.out _).mono ?_
      rintro e2 w5 ⟨rfl, k5⟩
      have hR5 := hR4.kept k5 (fun h => h)
      have hk5 := hk4.then k5 (fun _ _ h => h)
      have e32 : (res.map u8v).toArray.size = 32 := K3.out
      have aH' : AggTy Try.prog 83 (res.map u8v).toArray.size := by rw [e32]; exact aH
      have hz' := hz.trans e32.symm
      have E := hid (And.intro hz hz')
      clear e32 hz hz' hR4 hk4 k5 hS4
      go_wp2_with (first | (refine wpList_store_blk rfl _ _ _ rfl rfl rfl hR5 aH' E.out.2 (u8v_all _) ?_; intro w6 hR6 k6) | fail)
      exact bodyPost_ret (v := hashV res) (results_blk rfl _ rfl hR6 aH') rfl ⟨rfl, hk5.then k6 (fun i hi (h : i = w.heap.size) => by omega)⟩
end Sp
end Go.Proofs.Ytdobmebhjmgkmaa

/- sponge.Text, sponge.Tag, by their contracts. -/
namespace Go.Proofs.Ytdobmebhjmgkmaa
open Go.RowKit Go.Pm

theorem tLists : Try.prog.underlying 92 = some (.slice 22) := by kernel_rfl
theorem infoBytes : (Try.prog.info? 22).map (fun i => (i.zero, i.size, i.bytes)) = some (some (.slice none 0 0), 1, 24) := by kernel_rfl
theorem rtLists : RowTy Try.prog 92 22 (.slice none 0 0) 24 := ⟨by kernel_rfl, info_parts infoBytes, rfl⟩
/-- A [][]byte of the call's own. -/
abbrev Obs (w : World) (base : Nat) (v : Value) (ls : List (List UInt8)) : Prop := Bos 22 w base v ls
namespace Sp
set_option maxRecDepth 100000 in
set_option maxHeartbeats 1000000 in
/-- sponge.Text. -/
theorem text (tag : Int) (v : Value) (lo hi lo' hi' : Nat) (ls : List (List UInt8)) (w : World) (ht0 : 0 ≤ tag) (ht1 : tag < 256) (hv : Bss w lo hi lo' hi' v ls) (hn : ls.length ≤ 1099511627776) (hl : total ls ≤ 1099511627776) :
    Calls Try.prog 69 #[.int .u8 tag, v] w fun e w' => ∃ v', e = .returned v' ∧ Kept None w w' ∧ Ob w' w.heap.size v' (textB tag ls) := by
  obtain ⟨a, cap, rfl, g1, g2, g3⟩ := hv.shape
  obtain ⟨i0, hi0, hz0, hz1, hz2⟩ := info_parts infoBytes
  go_enter Try.func69, Try.ntmps69
  go_wp2_with (at_make; refine wpList_make_own _ rfl _ _ 92 rfl w.heap.size 22 i0 (.slice none 0 0) 1 tLists hi0 hz0 hz1 .i64 .i64 ((ls.length : Int) + 1) (ls.length + 1) rfl rfl rfl ?h1 ?h2 ?h3 ?h4)
  case h1 => rw [hz2]; omega
  case h2 => unfold maxLen; omega
  case h3 => exact Nat.le_refl _
  case h4 =>
    intro w1 hown hgrow
    have hk1 : Kept None w w1 := Kept.grown (Kept.refl _ _) hgrow (fun _ h => by cases h)
    have hb1 : Obs w1 w.heap.size (.slice (some ⟨w.heap.size, 0, none⟩) 0 (ls.length + 1)) [] := ⟨[], hown, fun i x l h => by simp at h⟩
    have hs1 := (hb1.own w.heap.size rfl).2
    have hb2 := hb1.kept ((Kept.refl None w1).alloc (.cells #[.int .u8 tag] 5))
    have hk2 := hk1.alloc (.cells #[.int .u8 tag] 5)
    have hy : Bs (w1.alloc (.cells #[.int .u8 tag] 5)) 0 (w1.alloc (.cells #[.int .u8 tag] 5)).heap.size (.slice (some ⟨w1.heap.size, 0, none⟩) 1 1) [Go.Pm.byteOf tag] := by
      have := Bo.new w1 5 [Go.Pm.byteOf tag] #[.int .u8 tag] (by simp [u8v_byteOf' ht0 ht1]) 1 rfl (by decide)
      exact (this.bs (Nat.le_refl _)).all
    have E := hid (And.intro hz2 g3)
    clear hown hgrow hb1 hk1 hz0 hz1 hz2 hi0 g3
    go_wp2_with (at_builtin; refine wpList_append_item rfl _ _ 92 rfl rtLists rfl rfl ?k1 hb2 hy ?k2 ?k3 ?k4 ?k5)
    case k1 => simp
    case k2 =>
      intro _ k hk e
      have h1 : w1.heap.size = k := Option.some.inj hk
      have h2 : w.heap.size = k := Option.some.inj e
      omega
    case k3 => simp
    case k4 => simp; omega
    case k5 =>
      intro a2 n2 c2 w2 hb3 hk3 _
      have hk4 : Kept None w w2 := hk2.then hk3 (fun i hi (h : _ = some i) => by simp [Value.ownBlock] at h; omega)
      clear hb2 hy hk2 hk3
      go_wp2
      go_loopw [5, 19] (fun t i wr => ∃ k : Nat, k ≤ ls.length ∧ i = .int .i64 k ∧ (∃ a n c, t = .slice a n c) ∧ Obs wr w.heap.size t (partsB tag (ls.take k)) ∧ Kept None w wr) (fun _ i _ => ls.length - (intOf i).toNat)
      case atStart => exact ⟨0, Nat.zero_le _, rfl, ⟨_, _, _, rfl⟩, hb3, hk4⟩
      case round =>
        clear hb3 hk4
        obtain ⟨k, hk, rfl, ⟨a3, n3, c3, rfl⟩, hb, hkk⟩ := hrel
        have hsz := hkk.size
        by_cases hlt : k < ls.length
        · have hvr := hv.kept hkk (fun _ _ _ h => h) (fun _ _ _ h => h)
          obtain ⟨b, o, rfl, q1, q2, q3, hc⟩ := Bss.at hvr (by omega)
          obtain ⟨a', c', hc', hb'⟩ := hc k hlt
          have hlen := at_total ls k hlt
          have HP := hid (partsB_take tag ls k hlt)
          have hpl := partsB_len tag (ls.take k)
          have hpl' : (partsB tag (ls.take k)).length ≤ ls.length + 1 := by rw [hpl, List.length_take]; omega
          clear hpl hc hvr hv
          generalize ls[k] = x at *
          go_wp2_with fail
          refine (Bin.lump _ _ _ _ _ hb' (by omega)).mono ?_
          rintro e1 w4 ⟨v4, rfl, k4, b4⟩
          have hyl : (leB x.length ++ x).length = x.length + 8 := by simp [leB_length]; omega
          have HP' := HP.out
          generalize leB x.length ++ x = y at *
          have HP2 := hid HP'
          clear HP HP'
          have hb4 := hb.kept k4
          have hk5 := hkk.then k4 (fun _ _ h => h)
          have hne : 0 < y.length → ∀ j, v4.ownBlock = some j → (Value.slice a3 n3 c3).ownBlock ≠ some j := fun _ j h1 h2 => by
            have := (b4.own j h1).1
            have := (hb.own j h2).2
            omega
          have hs4 := k4.size
          have hb4' := (b4.bs (Nat.le_refl _)).all
          obtain ⟨a4, c4, rfl⟩ := b4.form
          have HY := hid hyl
          clear hyl hb hkk k4 b4 hb'
          go_wp2_with (at_builtin; refine wpList_append_item rfl _ _ 92 rfl rtLists rfl rfl rfl hb4 hb4' ?m0 ?m1 ?m2 ?m3)
          case m0 => exact hne
          case m1 => omega
          case m2 => omega
          case m3 =>
            intro a5 n5 c5 w5 hb5 hk6 _
            have hk7 : Kept None w w5 := hk5.then hk6 (fun i hi (h : _ = some i) => by have := (hb4.own i h).1; omega)
            rw [← HP2.out] at hb5
            clear hb4 hb4' hk5 hk6 HP2 hne
            go_wp2
            go_roundw
            case rel => exact ⟨k + 1, by omega, by go_num, ⟨_, _, _, rfl⟩, hb5, hk7⟩
            case measure => simp [intOf]; omega
        · have hb6 : Obs wr w.heap.size (.slice a3 n3 c3) (partsB tag ls) := by rw [List.take_of_length_le (by omega)] at hb; exact hb
          clear hb hv
          go_wp2_with fail
          refine (Bin.join _ _ _ _ _ _ _ hb6.bss (by show (textB tag ls).length ≤ _; rw [textB_length]; omega)).mono ?_
          rintro e1 w7 ⟨v7, rfl, k7, b7⟩
          have b8 := b7.base hsz
          have k8 := hkk.then k7 (fun _ _ h => h)
          clear b7 k7 hkk hb6
          go_wp2
          go_ret
          exact ⟨_, rfl, k8, b8⟩

set_option maxRecDepth 100000 in
set_option maxHeartbeats 400000 in
/-- sponge.Tag. -/
theorem tag (tg : Int) (v : Value) (lo hi lo' hi' : Nat) (ls : List (List UInt8)) (w : World) (ht0 : 0 ≤ tg) (ht1 : tg < 256) (hv : Bss w lo hi lo' hi' v ls) (hn : ls.length ≤ 1099511627776) (hl : total ls ≤ 1099511627776) :
    Calls Try.prog 63 #[.int .u8 tg, v] w fun e w' => e = .returned (hashV (sumB (textB tg ls))) ∧ Kept None w w' := by
  have hs := fun v lo hi w h => sum v lo hi (textB tg ls) w h
  have e32 := sumB_len (textB tg ls)
  obtain ⟨res, hres⟩ : ∃ res, res = sumB (textB tg ls) := ⟨_, rfl⟩
  rw [← hres] at hs e32 ⊢
  have HS := hid hs
  have H32 := hid e32
  clear hs e32 hres
  obtain ⟨a, cap, rfl, g1, g2, g3⟩ := hv.shape
  clear g3
  go_enter Try.func63, Try.ntmps63
  go_wp2_with fail
  have hv1 := hv.kept ((Kept.refl None w).alloc (.cells (Array.replicate 32 (.int .u8 0)) 83)) (fun _ _ _ h => h) (fun _ _ _ h => h)
  refine (text tg _ lo hi lo' hi' ls _ ht0 ht1 hv1 hn hl).mono ?_
  rintro e1 w1 ⟨v1, rfl, k1, b1⟩
  obtain ⟨z, hz, hR⟩ : ∃ z : Array Value, z.size = 32 ∧ Blk w1 w.heap.size z 83 := ⟨Array.replicate 32 (.int .u8 0), by simp, (Blk.new w _ _).kept k1 (fun h => h)⟩
  have k2 : Kept None w w1 := ((Kept.refl _ _).alloc _).trans k1
  clear hv hv1 k1
  go_wp2_with fail
  refine (HS.out _ _ _ _ (b1.bs (Nat.le_refl _))).mono ?_
  rintro e2 w2 ⟨rfl, k3⟩
  have hR2 := hR.kept k3 (fun h => h)
  have k4 := k2.then k3 (fun _ _ h => h)
  have e32 : (res.map u8v).toArray.size = 32 := by simpa using H32.out
  have aH' : AggTy Try.prog 83 (res.map u8v).toArray.size := by rw [e32]; exact aH
  have E := hid (hz.trans e32.symm)
  clear hR k3 k2 b1 e32 hz
  go_wp2_with (first | (refine wpList_store_blk rfl _ _ _ rfl rfl rfl hR2 aH' E.out (u8v_all _) ?_; intro w6 hR6 k6) | fail)
  exact bodyPost_ret (v := hashV res) (results_blk rfl _ rfl hR6 aH') rfl ⟨rfl, k4.then k6 (fun i hi (h : i = w.heap.size) => by omega)⟩
end Sp
end Go.Proofs.Ytdobmebhjmgkmaa
