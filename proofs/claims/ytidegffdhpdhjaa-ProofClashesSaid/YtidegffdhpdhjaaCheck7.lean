/- Package proof, climb and Check: by contract. -/
import Derived.Test.YtidegffdhpdhjaaClimbM7
namespace Go.Proofs.Ytidegffdhpdhjaa
open Go.RowKit Go.Pm
namespace Pr
/-- climb. -/
theorem climb (i : List UInt8) (s : Value) (p : Pf) (hi : i.length = 32) (hp : p.Ok) (hn : p.path.length ≤ 256) : ∀ (m j : Nat) (w : World), j + m = p.path.length → Rh 0 w s p.path →
    Calls Try.prog 67 #[hashV i, pfV s p, .int .i64 j] w fun e w' => ∃ u, e = .returned (.tuple #[hashV (climbH i (footB p) (p.path.drop j) j), u]) ∧ Kept None w w' ∧ Rl w.heap.size w' u (climbB i (footB p) (p.path.drop j) j) := by
  intro m
  induction m with
  | zero =>
    intro j w hj hs
    obtain rfl : j = p.path.length := by omega
    rw [List.drop_length]
    exact climb_foot i s p w hi hp hs hn
  | succ m ih =>
    intro j w hj hs
    have hlt : j < p.path.length := by omega
    rw [List.drop_eq_getElem_cons hlt]
    have hlen : (climbB i (footB p) (p.path.drop (j + 1)) (j + 1)).length ≤ 1000 := by rw [climbB_len, List.length_drop]; omega
    have hih := fun w hs => ih (j + 1) w (by omega) hs
    unfold climbH
    rw [climbB]
    rcases bitI_two i j with hb | hb
    · rw [if_neg (by rw [hb]; decide)]
      exact climb_more0 i s p j _ _ _ w hi hp hs hn hlt rfl (climbH_len _ _ _ _) hlen hb hih
    · rw [if_pos hb]
      exact climb_more1 i s p j _ _ _ w hi hp hs hn hlt rfl (climbH_len _ _ _ _) hlen hb hih

set_option maxRecDepth 100000 in
set_option maxHeartbeats 1000000 in
/-- Check. -/
theorem check (root i : List UInt8) (s : Value) (p : Pf) (w : World) (hr : root.length = 32) (hi : i.length = 32) (hp : p.Ok) (hs : Rh 0 w s p.path) :
    Calls Try.prog 58 #[hashV root, hashV i, pfV s p] w fun e w' => e = .returned (.tuple #[hashV (checkV root i p), .bool (checkH root i p), .bool (okP root i p)]) ∧ Kept None w w' := by
  obtain ⟨X, hX⟩ : ∃ X, X = (pfC s p).toArray := ⟨_, rfl⟩
  obtain ⟨L, hL⟩ : ∃ L : Array Value, L = (i.map u8v).toArray := ⟨_, rfl⟩
  obtain ⟨RO, hRO⟩ : ∃ RO : Array Value, RO = (root.map u8v).toArray := ⟨_, rfl⟩
  have hRi : ∀ w, Rh 0 w s p.path → Calls Try.prog 61 #[.agg (i.map u8v).toArray, .agg (pfC s p).toArray] w fun e w' => e = .returned (.bool (rightP i p)) ∧ Kept None w w' := fun w h => right i s p w hi hp h
  have hC : p.path.length ≤ 256 → ∀ w, Rh 0 w s p.path → Calls Try.prog 67 #[.agg (i.map u8v).toArray, .agg (pfC s p).toArray, .int .i64 0] w fun e w' => ∃ u, e = .returned (.tuple #[.agg ((rootP i p).map u8v).toArray, u]) ∧ Kept None w w' ∧ Rl w.heap.size w' u (textsP i p) := fun hn w h => climb i s p hi hp hn p.path.length 0 w (by omega) h
  have hS : ∀ w, Calls Try.prog 104 #[.agg (pfC s p).toArray] w fun e w' => e = .returned (.tuple #[.agg ((saysV p).map u8v).toArray, .bool (saysH p)]) ∧ Kept None w w' := fun w => says s p w hp
  have aP' : AggTy Try.prog 63 (pfC s p).toArray.size := aP hp
  have aL := aH32 hi
  have aO := aH32 hr
  have aC := aH32 (climbH_len i (footB p) p.path 0)
  have aS := aH32 (saysV_len hp)
  have hE := Tr.neqHash (rootP i p) root (climbH_len _ _ _ _) hr
  have sC : ((rootP i p).map u8v).toArray.size = 32 := by
    have h : (rootP i p).length = 32 := climbH_len i (footB p) p.path 0
    simpa using h
  have sS : ((saysV p).map u8v).toArray.size = 32 := by simpa using saysV_len hp
  have hlen : rightP i p = true → p.path.length ≤ 256 := rightP_len
  have hV : checkV root i p = if rightP i p && (rootP i p == root) then saysV p else zero32 := rfl
  have hH : checkH root i p = (rightP i p && (rootP i p == root) && saysH p) := rfl
  have hO : okP root i p = (rightP i p && (rootP i p == root)) := rfl
  have HSv := hid hs
  obtain ⟨cv, hcv⟩ : ∃ r, r = checkV root i p := ⟨_, rfl⟩
  obtain ⟨ch, hch⟩ : ∃ r, r = checkH root i p := ⟨_, rfl⟩
  obtain ⟨co, hco⟩ : ∃ r, r = okP root i p := ⟨_, rfl⟩
  rw [← hcv, ← hch, ← hco]
  rw [hV] at hcv
  rw [hH] at hch
  rw [hO] at hco
  show Calls Try.prog 58 #[.agg (root.map u8v).toArray, .agg (i.map u8v).toArray, .agg (pfC s p).toArray] w _
  rw [← hX, ← hL] at hRi hC
  rw [← hX] at hS aP'
  rw [← hL] at aL
  rw [← hRO] at aO hE
  rw [← hX, ← hL, ← hRO]
  obtain ⟨TL, hTL⟩ : ∃ TL, TL = textsP i p := ⟨_, rfl⟩
  rw [← hTL] at hC
  obtain ⟨n, hn⟩ : ∃ n, n = p.path.length := ⟨_, rfl⟩
  rw [← hn] at hC hlen
  obtain ⟨path, hpath⟩ : ∃ q, q = p.path := ⟨_, rfl⟩
  rw [← hpath] at hRi hC HSv
  change AggTy Try.prog 23 ((rootP i p).map u8v).toArray.size at aC
  obtain ⟨rp, hrp⟩ : ∃ r, r = rootP i p := ⟨_, rfl⟩
  rw [← hrp] at hC hE aC sC hcv hch hco
  obtain ⟨sv, hsv⟩ : ∃ r, r = saysV p := ⟨_, rfl⟩
  rw [← hsv] at hS aS sS hcv
  obtain ⟨sh, hsh⟩ : ∃ r, r = saysH p := ⟨_, rfl⟩
  rw [← hsh] at hS hch
  obtain ⟨bR, hbR⟩ : ∃ r, r = rightP i p := ⟨_, rfl⟩
  rw [← hbR] at hRi hlen hcv hch hco
  obtain ⟨bE, hbE⟩ : ∃ r, r = (rp == root) := ⟨_, rfl⟩
  rw [← hbE] at hE hcv hch hco
  have HX := hid hX
  have HRE := hid (And.intro hcv (And.intro hch hco))
  have HR := hid hRi
  have HC := hid hC
  have HS := hid hS
  have HL := hid hlen
  have HZ := hid (And.intro sC sS)
  clear hcv hch hco hX hL hRO hRi hC hS hTL hn hpath hrp hsv hsh hbR hbE hV hH hO hlen sC sS hs
  have k0 : Kept None w ((((w.alloc (.cells RO 23)).alloc (.cells L 23)).alloc (.cells X 63)).alloc (.cells #[.int .u8 0, .int .u8 0, .int .u8 0, .int .u8 0, .int .u8 0, .int .u8 0, .int .u8 0, .int .u8 0, .int .u8 0, .int .u8 0, .int .u8 0, .int .u8 0, .int .u8 0, .int .u8 0, .int .u8 0, .int .u8 0, .int .u8 0, .int .u8 0, .int .u8 0, .int .u8 0, .int .u8 0, .int .u8 0, .int .u8 0, .int .u8 0, .int .u8 0, .int .u8 0, .int .u8 0, .int .u8 0, .int .u8 0, .int .u8 0, .int .u8 0, .int .u8 0] 23)) := ((((Kept.refl _ _).alloc _).alloc _).alloc _).alloc _
  have bO : Blk ((((w.alloc (.cells RO 23)).alloc (.cells L 23)).alloc (.cells X 63)).alloc (.cells #[.int .u8 0, .int .u8 0, .int .u8 0, .int .u8 0, .int .u8 0, .int .u8 0, .int .u8 0, .int .u8 0, .int .u8 0, .int .u8 0, .int .u8 0, .int .u8 0, .int .u8 0, .int .u8 0, .int .u8 0, .int .u8 0, .int .u8 0, .int .u8 0, .int .u8 0, .int .u8 0, .int .u8 0, .int .u8 0, .int .u8 0, .int .u8 0, .int .u8 0, .int .u8 0, .int .u8 0, .int .u8 0, .int .u8 0, .int .u8 0, .int .u8 0, .int .u8 0] 23)) w.heap.size RO 23 := (((Blk.new w _ _).alloc _).alloc _).alloc _
  have bL : Blk ((((w.alloc (.cells RO 23)).alloc (.cells L 23)).alloc (.cells X 63)).alloc (.cells #[.int .u8 0, .int .u8 0, .int .u8 0, .int .u8 0, .int .u8 0, .int .u8 0, .int .u8 0, .int .u8 0, .int .u8 0, .int .u8 0, .int .u8 0, .int .u8 0, .int .u8 0, .int .u8 0, .int .u8 0, .int .u8 0, .int .u8 0, .int .u8 0, .int .u8 0, .int .u8 0, .int .u8 0, .int .u8 0, .int .u8 0, .int .u8 0, .int .u8 0, .int .u8 0, .int .u8 0, .int .u8 0, .int .u8 0, .int .u8 0, .int .u8 0, .int .u8 0] 23)) (w.heap.size + 1) L 23 := ((Blk.new2 w _ _ _).alloc _).alloc _
  have bX : Blk ((((w.alloc (.cells RO 23)).alloc (.cells L 23)).alloc (.cells X 63)).alloc (.cells #[.int .u8 0, .int .u8 0, .int .u8 0, .int .u8 0, .int .u8 0, .int .u8 0, .int .u8 0, .int .u8 0, .int .u8 0, .int .u8 0, .int .u8 0, .int .u8 0, .int .u8 0, .int .u8 0, .int .u8 0, .int .u8 0, .int .u8 0, .int .u8 0, .int .u8 0, .int .u8 0, .int .u8 0, .int .u8 0, .int .u8 0, .int .u8 0, .int .u8 0, .int .u8 0, .int .u8 0, .int .u8 0, .int .u8 0, .int .u8 0, .int .u8 0, .int .u8 0] 23)) (w.heap.size + 1 + 1) X 63 := (Blk.new3 w _ _ _ _).alloc _
  have v0 : Blk ((((w.alloc (.cells RO 23)).alloc (.cells L 23)).alloc (.cells X 63)).alloc (.cells #[.int .u8 0, .int .u8 0, .int .u8 0, .int .u8 0, .int .u8 0, .int .u8 0, .int .u8 0, .int .u8 0, .int .u8 0, .int .u8 0, .int .u8 0, .int .u8 0, .int .u8 0, .int .u8 0, .int .u8 0, .int .u8 0, .int .u8 0, .int .u8 0, .int .u8 0, .int .u8 0, .int .u8 0, .int .u8 0, .int .u8 0, .int .u8 0, .int .u8 0, .int .u8 0, .int .u8 0, .int .u8 0, .int .u8 0, .int .u8 0, .int .u8 0, .int .u8 0] 23)) (w.heap.size + 1 + 1 + 1) #[.int .u8 0, .int .u8 0, .int .u8 0, .int .u8 0, .int .u8 0, .int .u8 0, .int .u8 0, .int .u8 0, .int .u8 0, .int .u8 0, .int .u8 0, .int .u8 0, .int .u8 0, .int .u8 0, .int .u8 0, .int .u8 0, .int .u8 0, .int .u8 0, .int .u8 0, .int .u8 0, .int .u8 0, .int .u8 0, .int .u8 0, .int .u8 0, .int .u8 0, .int .u8 0, .int .u8 0, .int .u8 0, .int .u8 0, .int .u8 0, .int .u8 0, .int .u8 0] 23 := by simpa using Blk.new3 (w.alloc _) _ _ _ _
  obtain ⟨z, hz, hZ⟩ := Blk.any (n := 32) v0 (by rfl)
  clear v0
  go_enter Try.func58, Try.ntmps58
  go_wp2_with (first | (refine wpList_load_blk rfl _ _ rfl rfl bX aP' ?_) | (refine wpList_load_blk rfl _ _ rfl rfl bL aL ?_) | fail)
  refine Calls.nm ?_
  intro w1 e1
  rw [← e1] at k0 hZ bL bX bO
  clear e1
  refine (HR.out w1 (HSv.out.kept k0)).mono ?_
  rintro e w2 ⟨rfl, k2⟩
  have k02 := k0.trans k2
  have hZ2 := hZ.kept k2 (fun h => h)
  have bO2 := bO.kept k2 (fun h => h)
  have bL2 := bL.kept k2 (fun h => h)
  have bX2 := bX.kept k2 (fun h => h)
  clear k0 k2 hZ bO bL bX
  cases bR with
  | false =>
    clear bO2 bL2 bX2 hE
    go_wp2_with (first | (refine wpList_store_blk rfl _ _ _ rfl rfl rfl hZ2 Sp.aH hz zero_all32 ?_; intro w9 hR9 k9) | fail)
    exact bodyPost_ret (v := .tuple #[.agg #[.int .u8 0, .int .u8 0, .int .u8 0, .int .u8 0, .int .u8 0, .int .u8 0, .int .u8 0, .int .u8 0, .int .u8 0, .int .u8 0, .int .u8 0, .int .u8 0, .int .u8 0, .int .u8 0, .int .u8 0, .int .u8 0, .int .u8 0, .int .u8 0, .int .u8 0, .int .u8 0, .int .u8 0, .int .u8 0, .int .u8 0, .int .u8 0, .int .u8 0, .int .u8 0, .int .u8 0, .int .u8 0, .int .u8 0, .int .u8 0, .int .u8 0, .int .u8 0], .bool false, .bool false]) (res_cell_tmp2 rfl _ rfl rfl rfl hR9 Sp.aH) rfl ⟨by rw [HRE.out.1, HRE.out.2.1, HRE.out.2.2]; rfl, k02.then k9 (fun i hi (h : i = w.heap.size + 1 + 1 + 1) => by omega)⟩
  | true =>
    have h256 := HL.out rfl
    go_wp2_with (first | (refine wpList_load_blk rfl _ _ rfl rfl bX2 aP' ?_) | (refine wpList_load_blk rfl _ _ rfl rfl bL2 aL ?_) | fail)
    refine (HC.out h256 w2 (HSv.out.kept k02)).mono ?_
    rintro e w3 ⟨u, rfl, k3, b3⟩
    have k03 := k02.trans k3
    have hZ3 := hZ2.kept k3 (fun h => h)
    have bO3 := bO2.kept k3 (fun h => h)
    have bX3 := bX2.kept k3 (fun h => h)
    obtain ⟨au, cu, rfl⟩ := b3.form
    obtain ⟨z8, hz8, hZ8⟩ := Blk.any (n := 32) (Blk.new w3 #[.int .u8 0, .int .u8 0, .int .u8 0, .int .u8 0, .int .u8 0, .int .u8 0, .int .u8 0, .int .u8 0, .int .u8 0, .int .u8 0, .int .u8 0, .int .u8 0, .int .u8 0, .int .u8 0, .int .u8 0, .int .u8 0, .int .u8 0, .int .u8 0, .int .u8 0, .int .u8 0, .int .u8 0, .int .u8 0, .int .u8 0, .int .u8 0, .int .u8 0, .int .u8 0, .int .u8 0, .int .u8 0, .int .u8 0, .int .u8 0, .int .u8 0, .int .u8 0] 23) (by rfl)
    have E8 := hid (hz8.trans HZ.out.1.symm)
    have hle := hid k03.size
    clear k02 k3 hZ2 bO2 bL2 bX2 b3 hz8
    cases bE with
    | false =>
      go_wp2_with (first | (refine wpList_store_blk rfl _ _ _ rfl rfl rfl hZ8 aC E8.out (u8v_all' _) ?_; intro w4 h4 k4; have k34 := k4.fresh; have bO4 := bO3.kept k34 (fun h => h); have hZ4 := hZ3.kept k34 (fun h => h)) | (refine wpList_load_blk rfl _ _ rfl rfl h4 aC ?_) | (refine wpList_load_blk rfl _ _ rfl rfl bO4 aO ?_) | (refine wpList_store_blk rfl _ _ _ rfl rfl rfl hZ4 Sp.aH hz zero_all32 ?_; intro w9 hR9 k9) | fail)
      exact bodyPost_ret (v := .tuple #[.agg #[.int .u8 0, .int .u8 0, .int .u8 0, .int .u8 0, .int .u8 0, .int .u8 0, .int .u8 0, .int .u8 0, .int .u8 0, .int .u8 0, .int .u8 0, .int .u8 0, .int .u8 0, .int .u8 0, .int .u8 0, .int .u8 0, .int .u8 0, .int .u8 0, .int .u8 0, .int .u8 0, .int .u8 0, .int .u8 0, .int .u8 0, .int .u8 0, .int .u8 0, .int .u8 0, .int .u8 0, .int .u8 0, .int .u8 0, .int .u8 0, .int .u8 0, .int .u8 0], .bool false, .bool false]) (res_cell_tmp2 rfl _ rfl rfl rfl hR9 Sp.aH) rfl ⟨by rw [HRE.out.1, HRE.out.2.1, HRE.out.2.2]; rfl, (k03.trans k34).then k9 (fun i hi (h : i = w.heap.size + 1 + 1 + 1) => by omega)⟩
    | true =>
      go_wp2_with (first | (refine wpList_store_blk rfl _ _ _ rfl rfl rfl hZ8 aC E8.out (u8v_all' _) ?_; intro w4 h4 k4; have k34 := k4.fresh; have bO4 := bO3.kept k34 (fun h => h); have hZ4 := hZ3.kept k34 (fun h => h); have bX4 := bX3.kept k34 (fun h => h)) | (refine wpList_load_blk rfl _ _ rfl rfl h4 aC ?_) | (refine wpList_load_blk rfl _ _ rfl rfl bO4 aO ?_) | (refine wpList_load_blk rfl _ _ rfl rfl bX4 aP' ?_) | fail)
      refine (HS.out w4).mono ?_
      rintro e w5 ⟨rfl, k5⟩
      have k05 := (k03.trans k34).trans k5
      have hZ5 := hZ4.kept k5 (fun h => h)
      obtain ⟨z9, hz9, hZ9⟩ := Blk.any (n := 32) (Blk.new w5 #[.int .u8 0, .int .u8 0, .int .u8 0, .int .u8 0, .int .u8 0, .int .u8 0, .int .u8 0, .int .u8 0, .int .u8 0, .int .u8 0, .int .u8 0, .int .u8 0, .int .u8 0, .int .u8 0, .int .u8 0, .int .u8 0, .int .u8 0, .int .u8 0, .int .u8 0, .int .u8 0, .int .u8 0, .int .u8 0, .int .u8 0, .int .u8 0, .int .u8 0, .int .u8 0, .int .u8 0, .int .u8 0, .int .u8 0, .int .u8 0, .int .u8 0, .int .u8 0] 23) (by rfl)
      have E9 := hid (hz9.trans HZ.out.2.symm)
      have E := hid (hz.trans HZ.out.2.symm)
      clear k4 k34 bO4 hZ4 bX4 h4 k5 hZ8 hz9 hz bO3 bX3 hZ3 k03
      go_wp2_with (first | (refine wpList_store_blk rfl _ _ _ rfl rfl rfl hZ9 aS E9.out (u8v_all' _) ?_; intro w6 h6 k6; have k56 := k6.fresh; have hZ6 := hZ5.kept k56 (fun h => h)) | (refine wpList_load_blk rfl _ _ rfl rfl h6 aS ?_) | (refine wpList_store_blk rfl _ _ _ rfl rfl rfl hZ6 aS E.out (u8v_all' _) ?_; intro w9 hR9 k9) | fail)
      exact bodyPost_ret (v := .tuple #[hashV sv, .bool sh, .bool true]) (res_cell_tmp2 rfl _ rfl rfl rfl hR9 aS) rfl ⟨by rw [HRE.out.1, HRE.out.2.1, HRE.out.2.2]; cases sh <;> rfl, (k05.trans k56).then k9 (fun i hi (h : i = w.heap.size + 1 + 1 + 1) => by omega)⟩
end Pr
end Go.Proofs.Ytidegffdhpdhjaa
