/- postmarkref1.Sum, by its contract. -/
import Derived.Test.YtbckjkfdkgomiaaRefPerm
import Derived.Test.YtbckjkfdkgomiaaSum
namespace Go.Proofs.Ytbckjkfdkgomiaa
open Go.RowKit Go.Pm
namespace Ref

theorem perm_first (w : World) : Calls Try.prog 84 #[.agg #[.int .u64 8800401358850, .int .u64 0, .int .u64 0, .int .u64 0, .int .u64 0]] w fun e w' => e = .returned (Sp.sv first) ∧ Kept None w w' :=
  perm ⟨0x0000080100cc0002, 0, 0, 0, 0⟩ w

set_option maxRecDepth 100000 in
set_option maxHeartbeats 2000000 in
theorem sum (v : Value) (lo hi : Nat) (l : List UInt8) (w : World) (hv : Bs w lo hi v l) (hl : l.length ≤ 140737488355000) :
    Calls Try.prog 75 #[v] w fun e w' => e = .returned (hashV (sumB l)) ∧ Kept None w w' := by
  have pf := perm_first
  obtain ⟨ab, ab0, abS, abE⟩ := absorb_all l
  have e32 : ((eights (soaked l) 4).map u8v).toArray.size = 32 := by simp [eights_len]
  show Calls _ _ _ w fun e w' => e = .returned (hashV (eights (soaked l) 4)) ∧ Kept None w w'
  obtain ⟨so, hso⟩ : ∃ so, so = soaked l := ⟨_, rfl⟩
  rw [← ab0] at pf
  rw [← hso] at abE e32 ⊢
  have PF := hid pf
  have AS := hid abS
  have AE := hid abE
  have K3 := hid e32
  clear pf abS abE e32 hso ab0
  obtain ⟨a, cap, rfl, g1, g2, g3⟩ := hv.shape
  clear g3
  go_enter Try.func75, Try.ntmps75
  have hv0 := hv.kept ((Kept.refl None w).alloc (.cells (Array.replicate 32 (.int .u8 0)) 83)) (fun _ _ _ h => h)
  go_wp2_with (at_builtin; refine wpList_append_bo (l := []) (m := l) (base := w.heap.size + 1) (lo := lo) (hi := hi) rfl _ _ 32 rfl rtBytes rfl rfl ?h1 ?h2 ?h3 ?h4 ?h5)
  case h1 => exact Bo.nil _ _ _
  case h2 => exact hv0
  case h3 => simp; omega
  case h4 => simp
  intro a1 n1 c1 w1 b1 k1
  obtain ⟨z, hz, hR⟩ : ∃ z : Array Value, z.size = 32 ∧ Blk w1 w.heap.size z 83 := ⟨Array.replicate 32 (.int .u8 0), by simp, (Blk.new w _ _).kept k1 (fun h => by cases h)⟩
  have k2 : Kept None w w1 := ((Kept.refl _ _).alloc _).then k1 (fun i hi h => by cases h)
  have hs1 := k1.size
  simp only [World.size_alloc] at hs1
  have HZ := hid hz
  clear hv hv0 k1 hz
  go_wp2_with (at_builtin; refine wpList_append_byte rfl _ _ 32 rfl rtBytes rfl rfl b1 (by decide) (by decide) ?h1 ?h2 ?h3)
  case h1 => omega
  case h2 => exact hs1
  case h3 =>
  intro a2 n2 c2 w2 b2 k3
  have k4 : Kept None w w2 := k2.own k3 (fun k hk => by have := (b1.own k hk).1; omega)
  have hR2 : Blk w2 w.heap.size z 83 := hR.kept k3 (fun h => by have := (b1.own _ h).1; omega)
  have b3 : Ob w2 (w.heap.size + 1) (.slice a2 n2 c2) ((l ++ [1]) ++ List.replicate 0 0) := by
    rw [show Go.Pm.byteOf 1 = 1 from rfl] at b2
    simpa using b2
  clear b1 b2 k2 k3 hR
  go_wp2
  go_loopw [3] (fun x wr => ∃ j : Nat, j ≤ noughts l ∧ (∃ a n c, x = .slice a n c) ∧ Ob wr (w.heap.size + 1) x ((l ++ [1]) ++ List.replicate j 0) ∧ Kept None w wr ∧ Blk wr w.heap.size z 83) (fun x _ => l.length + 9 - Sp.lenOf x)
  case atStart => exact ⟨0, Nat.zero_le _, ⟨_, _, _, rfl⟩, b3, k4, hR2⟩
  case round =>
    clear b3 k4 hR2
    obtain ⟨j, hj, ⟨a3, n3, c3, rfl⟩, hb, hkk, hR⟩ := hrel
    have hn3 : n3 = l.length + 1 + j := by
      obtain ⟨_, _, hf⟩ := hb.form
      injection hf with _ h2 _
      rw [h2]; simp; omega
    have hn8 : noughts l < 8 := Nat.mod_lt _ (by decide)
    have hsz : w.heap.size + 1 ≤ wr.heap.size := hR.lt
    by_cases h8 : n3 % 8 = 0
    · have hj2 : j = noughts l := by unfold noughts at hj ⊢; omega
      have b5 : Ob wr (w.heap.size + 1) (.slice a3 n3 c3) (padded l) := by rw [padded_is, ← hj2]; exact hb
      have hpl := padded_len l
      have hn4 : n3 = 8 * (l.length / 8 + 1) := by
        obtain ⟨_, _, hf⟩ := b5.form
        injection hf with _ h2 _
        rw [h2, hpl]
      obtain ⟨M, hM⟩ : ∃ M, M = l.length / 8 + 1 := ⟨_, rfl⟩
      rw [← hM] at hn4 hpl AE
      have hM2 : M ≤ 17592186044500 := by omega
      have h8' : ((n3 : Int) % 8 != 0) = false := by simp; omega
      have HPL := hid hpl
      have HN := hid hn4
      clear hj hj2 hb hn3 hn8 hpl hM hn4
      go_wp2_with fail
      refine (PF.out _).mono ?_
      rintro e1 w3 ⟨rfl, k3⟩
      have hR3 := hR.kept k3 (fun h => h)
      have b6 := b5.kept k3 (fun _ _ h => h)
      have k4 := hkk.then k3 (fun _ _ h => h)
      have hs3 := k3.size
      have hz3 := hR3.lt
      clear hkk hR b5 k3
      go_wp2
      obtain ⟨wo, rfl⟩ : ∃ wo : World, wo = wr := ⟨_, rfl⟩
      go_loopw [5] (fun i wr => ∃ j : Nat, j ≤ M ∧ i = .int .i64 (8 * (j : Int)) ∧ Kept None w wr ∧ Blk wr w3.heap.size (Sp.sc (ab j)) 98 ∧ Blk wr w.heap.size z 83 ∧ Ob wr (w.heap.size + 1) (.slice a3 n3 c3) (padded l)) (fun i _ => 8 * M - (intOf i).toNat)
      case atStart => exact ⟨0, Nat.zero_le _, by simp, k4.alloc _, Blk.new _ _ _, hR3.alloc _, b6.alloc _⟩
      case round =>
        have hown : ∀ k, (Value.slice a3 n3 c3).ownBlock = some k → w.heap.size + 1 ≤ k ∧ k < w3.heap.size := b6.own
        clear k4 hR3 b6
        obtain ⟨j, hj, rfl, hkk, hS, hR, hb⟩ := hrel
        by_cases hlt : j < M
        · have hn3 := HN.out
          have hpl := HPL.out
          have hbs := hb.bs (Nat.le_refl _)
          obtain ⟨a', s1, p1⟩ := slice_mid tBytes zBytes hbs .i64 .i64 (8 * (j : Int)) (8 * (j : Int) + 8) (by omega) (by omega) (by omega)
          rw [show (8 * (j : Int)).toNat = 8 * j by omega, show (8 * (j : Int) + 8).toNat = 8 * j + 8 by omega, show 8 * j + 8 - 8 * j = 8 by omega] at s1 p1
          rw [← List.map_take, ← List.map_drop] at p1
          have hlr : leV (((padded l).take (8 * j + 8)).drop (8 * j)) = leV ((padded l).drop (8 * j)) := by
            rw [List.drop_take, show 8 * j + 8 - 8 * j = 8 by omega, leV_take]
          have hl8 : (((padded l).take (8 * j + 8)).drop (8 * j)).length = 8 := by rw [List.length_drop, List.length_take, hpl]; omega
          have hc3 : n3 ≤ c3 ∧ c3 ≤ 9223372036854775807 := by
            obtain ⟨_, _, e, h1, h2, _⟩ := hbs.shape
            injection e with e1 e2 e3
            omega
          have hlt2 : 8 * j < n3 := by omega
          have hlt3 : n3 ≤ 140737488356000 := by omega
          have hlts := hS.lt
          obtain ⟨hc31, hc32⟩ := hc3
          have ew : IntKind.i64.wrap (8 * (j : Int) + 8) = 8 * (j : Int) + 8 := by rw [IntKind.wrap_i64]; omega
          have hx := mixed_a (ab j) (leV ((padded l).drop (8 * j))) (leV_ge _) (leV_lt _)
          have HST := hid (AS.out j)
          have HX := hid (And.intro hlr (And.intro hl8 (And.intro hx ew)))
          clear hn3 hpl hlr hl8 hx ew hbs
          go_wp2
          refine wp_tail 10 (by kernel_rfl) (by kernel_rfl) (fun wy ky => ?_)
          have hS' := hS.kept ky (fun h => h)
          have hR' := hR.kept ky (fun h => h)
          have hb' := hb.kept ky (fun _ _ h => h)
          have hk' := hkk.then ky (fun _ _ h => h)
          have hv' := Vs.kept p1 ky (fun _ _ _ h => h)
          have c0 := hS'.cell 0
          have f0 := hS'.free 0
          simp at c0
          have ew := HX.out.2.2.2
          simp only [List.take_succ_cons, List.take_zero, List.drop_succ_cons, List.drop_zero]
          repeat still_step
          still_call (Calls.same (word _ _ _ _ wy hv' HX.out.2.1))
          repeat still_step
          refine wpStill_nil ?_
          clear ew
          rw [HX.out.1, HX.out.2.2.1]
          generalize hx' : leV ((padded l).drop (8 * j)) = x at *
          have hS2 : Blk (wy.setCell ⟨w3.heap.size, 0, none⟩ (.int .u64 (U ((ab j).mixed (W x)).a))) w3.heap.size (Sp.sc ((ab j).mixed (W x))) 98 := hS'.set 0 _
          have ky2 := (Kept.one wy w3.heap.size 0 (.int .u64 (U ((ab j).mixed (W x)).a)))
          have HX2 := hid hx'
          clear hx' HX hS hR hkk hb p1 hv' hS' ky
          go_wp2_with (first | (refine wpList_load_blk rfl _ _ rfl rfl hS2 Sp.aS ?_) | fail)
          refine (perm _ _).mono ?_
          rintro e1 w4 ⟨rfl, k1⟩
          rw [← HST.out]
          have hS3 := hS2.kept k1 (fun h => h)
          have hk3 : Kept None w w4 := (hk'.then ky2 (fun i hi (h : i = w3.heap.size) => by omega)).then k1 (fun _ _ h => h)
          have hb3 := (hb'.kept ky2 (fun i h1 (h : i = w3.heap.size) => by have := hown i h1; omega)).kept k1 (fun _ _ h => h)
          have hR3 := (hR'.kept ky2 (fun (h : w.heap.size = w3.heap.size) => by omega)).kept k1 (fun h => h)
          clear hS2 hk' hb' hR' ky2 k1 c0 f0
          go_wp2_with (first | (refine wpList_store_blk rfl _ _ _ rfl rfl rfl hS3 Sp.aS rfl (Sp.sc_all _) ?_; intro w5 hS4 k4) | fail)
          exact ⟨⟨j + 1, by omega, by go_num, hk3.then k4 (fun i hi (h : i = w3.heap.size) => by omega), hS4, hR3.kept k4 (fun (h : w.heap.size = w3.heap.size) => by omega), hb3.kept k4 (fun i h1 (h : i = w3.heap.size) => by have := hown i h1; omega)⟩, by simp only [intOf]; omega⟩
        · have hjM : j = M := by omega
          subst hjM
          rw [← AE.out] at hS
          have hn3 := HN.out
          have hge : n3 ≤ 8 * j := by omega
          have hlts := hS.lt
          clear hn3 hb hown
          go_wp2
          obtain ⟨wp, rfl⟩ : ∃ wp : World, wp = wr := ⟨_, rfl⟩
          go_loopw [7] (fun i wr => ∃ k : Nat, k ≤ 4 ∧ i = .int .i64 k ∧ Kept None w wr ∧ Blk wr w3.heap.size (Sp.sc (Go.Pm.squeeze so (k - 1))) 98 ∧ Blk wr w.heap.size z 83 ∧ Blk wr wp.heap.size (Sp.sofar so k).toArray 83) (fun i _ => 4 - (intOf i).toNat)
          case atStart => exact ⟨0, Nat.zero_le _, rfl, hkk.alloc _, hS.alloc _, hR.alloc _, Sp.sofar_zero so ▸ Blk.new _ _ _⟩
          case round =>
            clear hkk hS hR
            obtain ⟨k, hk, rfl, hkk, hS, hR, hH⟩ := hrel
            by_cases hlt : k < 4
            · have hwp := hH.lt
              rcases Nat.eq_zero_or_pos k with h0 | h0
              case' inl =>
                obtain ⟨wx, hwx⟩ : ∃ wx, wx = wr := ⟨_, rfl⟩
                have hkx : Kept None w wx := by rw [hwx]; exact hkk
                have hSx : Blk wx w3.heap.size (Sp.sc (Go.Pm.squeeze so k)) 98 := by rw [hwx, h0]; rw [h0] at hS; exact hS
                have hRx : Blk wx w.heap.size z 83 := by rw [hwx]; exact hR
                have hHx : Blk wx wp.heap.size (Sp.sofar so k).toArray 83 := by rw [hwx]; exact hH
                rw [← hwx]
                have h0' : ¬ 0 < k := by omega
                clear hkk hS hR hH hwx h0
                have c0 := hSx.cell 0
                simp at c0
                go_wp2_with fail
              case' inr =>
                have h0' : 0 < k := h0
                go_wp2_with (first | (refine wpList_load_blk rfl _ _ rfl rfl hS Sp.aS ?_) | fail)
                refine (perm _ _).mono ?_
                rintro e1 w4 ⟨rfl, k1⟩
                rw [show (Go.Pm.squeeze so (k - 1)).perm = Go.Pm.squeeze so k by obtain ⟨i, rfl⟩ : ∃ i, k = i + 1 := ⟨k - 1, by omega⟩; rfl]
                have hS1 := hS.kept k1 (fun h => h)
                go_wp2_with (first | (refine wpList_store_blk rfl _ _ _ rfl rfl rfl hS1 Sp.aS rfl (Sp.sc_all _) ?_; intro wx hSx k2; have c0 := hSx.cell 0; simp at c0) | fail)
                have hkx : Kept None w wx := (hkk.then k1 (fun _ _ h => h)).then k2 (fun i hi (h : i = w3.heap.size) => by omega)
                have hRx := (hR.kept k1 (fun h => h)).kept k2 (fun (h : w.heap.size = w3.heap.size) => by omega)
                have hHx := (hH.kept k1 (fun h => h)).kept k2 (fun (h : wp.heap.size = w3.heap.size) => by omega)
                clear hkk hS hR hH hS1 k1 k2 h0
              all_goals
                have hu := U_ge (Go.Pm.squeeze so k).a
                have hu2 := U_lt (Go.Pm.squeeze so k).a
                refine (num _ _ hu hu2).mono ?_
                rintro e2 w6 ⟨v6, rfl, k6, b6⟩
                obtain ⟨X, hX⟩ : ∃ X, X = leB (U (Go.Pm.squeeze so k).a) := ⟨_, rfl⟩
                rw [← hX] at b6
                have hX8 : X.length = 8 := by rw [hX]; rfl
                have hend := Sp.sofar_splice so k hlt
                rw [← hX] at hend
                have hfull := Sp.sofar_len so k hk
                have hS6 := hSx.kept k6 (fun h => h)
                have hR6 := hRx.kept k6 (fun h => h)
                have hH6 : Blk w6 wp.heap.size (splice (Sp.sofar so k) (8 * k) ((X.map u8v).take 0)).toArray 83 := by
                  have : splice (Sp.sofar so k) (8 * k) ((X.map u8v).take 0) = Sp.sofar so k := by simp [splice]
                  rw [this]; exact hHx.kept k6 (fun h => h)
                have hk6 := hkx.then k6 (fun _ _ h => h)
                have hwx := hHx.lt
                have hbo : ∀ i, v6.ownBlock = some i → wp.heap.size < i := fun i hi => by have := (b6.own i hi).1; omega
                obtain ⟨a6, c6, rfl⟩ := b6.form
                rw [hX8] at b6 hbo ⊢
                have HE := hid (And.intro hX8 (And.intro hend hfull))
                clear hu hu2 hX hX8 hend hfull hSx hRx hHx hkx k6 c0
                obtain ⟨wq, rfl⟩ : ∃ wq : World, wq = wx := ⟨_, rfl⟩
                go_wp2
                go_loopw [9] (fun q wr => ∃ m : Nat, m ≤ 8 ∧ q = .int .i64 m ∧ Kept None w wr ∧ Blk wr w3.heap.size (Sp.sc (Go.Pm.squeeze so k)) 98 ∧ Blk wr w.heap.size z 83 ∧ Blk wr wp.heap.size (splice (Sp.sofar so k) (8 * k) ((X.map u8v).take m)).toArray 83 ∧ Ob wr wq.heap.size (.slice a6 8 c6) X) (fun q _ => 8 - (intOf q).toNat)
                case atStart => exact ⟨0, Nat.zero_le _, rfl, hk6, hS6, hR6, hH6, b6⟩
                case round =>
                  clear hk6 hS6 hR6 hH6 b6
                  obtain ⟨m, hm, rfl, hkk, hS, hR, hH, hb⟩ := hrel
                  by_cases hm8 : m < 8
                  · obtain ⟨hX8, hend, hfull⟩ := HE.out
                    obtain ⟨b, o, rfl, q1, q2, q3, hcs⟩ := Bs.ne (hb.bs (Nat.le_refl _)) (by omega)
                    have hc := hcs m (by omega)
                    have hxm : (X.map u8v)[m]? = some (.int .u8 (bAt X m)) := by
                      rw [List.getElem?_map, List.getElem?_eq_getElem (by omega), Option.map_some, u8v_at X m (by omega)]
                    have hst := splice_step (Sp.sofar so k) (X.map u8v) (8 * k) m (by simp; omega) (by simp; omega) _ hxm
                    have hlen : (splice (Sp.sofar so k) (8 * k) ((X.map u8v).take m)).length = 32 := by
                      rw [length_splice _ _ _ (by simp; omega), hfull]
                    obtain ⟨y, hy⟩ : ∃ y, wr.cell? ⟨wp.heap.size, 8 * k + m, none⟩ = some y := ⟨_, (hH.cell (8 * k + m)).trans (by rw [List.getElem?_toArray, List.getElem?_eq_getElem (by omega)])⟩
                    have fy := hH.free (8 * k + m)
                    have hH2 : Blk (wr.setCell ⟨wp.heap.size, 8 * k + m, none⟩ (.int .u8 (bAt X m))) wp.heap.size (splice (Sp.sofar so k) (8 * k) ((X.map u8v).take (m + 1))).toArray 83 := by
                      have := hH.set (8 * k + m) (.int .u8 (bAt X m))
                      rw [List.setIfInBounds_toArray, hst] at this
                      exact this
                    have kH := Kept.one wr wp.heap.size (8 * k + m) (.int .u8 (bAt X m))
                    have b0 := bAt_ge X m
                    have b1 := bAt_lt X m
                    have et : (8 * (k : Int) + (m : Int)).toNat = 8 * k + m := by omega
                    have hbo' := hbo b rfl
                    have hS2 := hS.kept kH (fun (h : w3.heap.size = wp.heap.size) => by omega)
                    have hR2 := hR.kept kH (fun (h : w.heap.size = wp.heap.size) => by omega)
                    have hk2 := hkk.then kH (fun i hi (h : i = wp.heap.size) => by omega)
                    have hb2 := hb.kept kH (fun i hi (h : i = wp.heap.size) => by have := hbo i hi; omega)
                    clear hcs hxm hst hlen hX8 hend hfull hS hR hkk hb kH hH
                    generalize bAt X m = c at *
                    go_wp2
                    exact ⟨⟨m + 1, by omega, by go_num, hk2, hS2, hR2, hH2, hb2⟩, by simp only [intOf]; omega⟩
                  · have hm8' : m = 8 := by omega
                    have hH2 : Blk wr wp.heap.size (Sp.sofar so (k + 1)).toArray 83 := by
                      rw [← HE.out.2.1]
                      rw [hm8', List.take_of_length_le (by simp [HE.out.1])] at hH
                      exact hH
                    clear hm8' hH hb hbo
                    go_wp2
                    exact ⟨⟨k + 1, by omega, by go_num, hkk, hS, hR, hH2⟩, by simp only [intOf]; omega⟩
            · have hk4 : k = 4 := by omega
              subst hk4
              rw [Sp.sofar_four] at hH
              have aH' : AggTy Try.prog 83 ((eights so 4).map u8v).toArray.size := by rw [K3.out]; exact Sp.aH
              have E := hid (HZ.out.trans K3.out.symm)
              go_wp2_with (first | (refine wpList_load_blk rfl _ _ rfl rfl hH aH' ?_) | (refine wpList_store_blk rfl _ _ _ rfl rfl rfl hR aH' E.out (u8v_all _) ?_; intro w6 hR6 k6) | fail)
              exact bodyPost_ret (v := hashV (eights so 4)) (results_blk rfl _ rfl hR6 aH') rfl ⟨rfl, hkk.then k6 (fun i hi (h : i = w.heap.size) => by omega)⟩
    · have hj1 : j + 1 ≤ noughts l := by
        unfold noughts at hj ⊢
        omega
      have h8' : decide ((n3 : Int) % 8 = 0) = false := by simp; omega
      have h8'' : ((n3 : Int) % 8 != 0) = true := by simp; omega
      have H3 := hid hn3
      clear hn3
      go_wp2_with (at_builtin; refine wpList_append_byte rfl _ _ 32 rfl rtBytes rfl rfl hb (by decide) (by decide) ?m1 ?m2 ?m3)
      case m1 => simp; omega
      case m2 => exact hsz
      case m3 =>
        intro a4 n4 c4 w4 b4 k5
        have k6 : Kept None w w4 := hkk.own k5 (fun k hk => by have := (hb.own k hk).1; omega)
        have hR4 : Blk w4 w.heap.size z 83 := hR.kept k5 (fun h => by have := (hb.own _ h).1; omega)
        have b5 : Ob w4 (w.heap.size + 1) (.slice a4 n4 c4) ((l ++ [1]) ++ List.replicate (j + 1) 0) := by
          rw [show Go.Pm.byteOf 0 = 0 from rfl] at b4
          rw [replicate_one]
          simpa using b4
        have hn4 : n4 = l.length + 1 + (j + 1) := by
          obtain ⟨_, _, hf⟩ := b5.form
          injection hf with _ h2 _
          rw [h2]; simp; omega
        have hn3 := H3.out
        clear hb hkk hR b4 k5
        have H4 := hid (And.intro hn3 hn4)
        clear hn3 hn4
        go_wp2
        have hn3 := H4.out.1
        have hn4 := H4.out.2
        exact ⟨⟨j + 1, hj1, ⟨_, _, _, rfl⟩, b5, k6, hR4⟩, by simp only [Sp.lenOf]; omega⟩
end Ref
end Go.Proofs.Ytbckjkfdkgomiaa
