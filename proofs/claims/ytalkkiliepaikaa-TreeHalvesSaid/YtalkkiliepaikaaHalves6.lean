/- postmarklaw6.TreeHalves: true. -/
import Derived.Test.YtalkkiliepaikaaBelow6
namespace Go.Proofs.Ytalkkiliepaikaa
open Go.RowKit Go.Pm

theorem two_first (z : Array Value) (C : List Value) (hz : z.size = 64) (hC : C.length = 32) : (z.toList.take 0 ++ C ++ z.toList.drop (0 + C.length)).toArray.size = 64 ∧ (z.toList.take 0 ++ C ++ z.toList.drop (0 + C.length)).toArray.toList.take 32 = C := by
  refine ⟨by simp [hz, hC], ?_⟩
  rw [List.toList_toArray, List.take_zero, List.nil_append, List.take_left' hC]
theorem two_second (z : Array Value) (C : List Value) (hz : z.size = 64) (hC : C.length = 32) : (z.toList.take 32 ++ C ++ z.toList.drop (32 + C.length)).toArray.size = 64 ∧ (z.toList.take 32 ++ C ++ z.toList.drop (32 + C.length)).toArray.toList.take 32 = z.toList.take 32 ∧ (z.toList.take 32 ++ C ++ z.toList.drop (32 + C.length)).toArray.toList.drop 32 = C := by
  have h0 : z.toList.drop (32 + C.length) = [] := List.drop_eq_nil_of_le (by simp [hz, hC])
  have h1 : (z.toList.take 32).length = 32 := by simp [hz]
  rw [h0, List.append_nil, List.toList_toArray]
  exact ⟨by simp [hz, hC], List.take_left' h1, List.drop_left' h1⟩
namespace Tr
set_option maxRecDepth 100000 in
set_option maxHeartbeats 4000000 in
theorem treeHalves (v : Value) (lo hi : Nat) (ns : List Int) (w : World) (hv : U16s w lo hi v ns) :
    Calls Try.prog 5 #[v] w fun e w' => e = .returned (.bool true) ∧ Kept None w w' := by
  obtain ⟨a, cap, rfl, g1, g2⟩ := hv.form
  obtain ⟨n, hn⟩ : ∃ n, n = ns.length := ⟨_, rfl⟩
  rw [← hn] at hv g1 ⊢
  have HV := hid hv
  have HN := hid hn
  have e1 := eqHash emptyH emptyH (sumB_len _) (sumB_len _)
  simp only [beq_self_eq_true] at e1
  obtain ⟨CE, hCE⟩ : ∃ CE, CE = emptyH.map u8v := ⟨_, rfl⟩
  have hE : ∀ W, Calls Try.prog 22 #[] W fun e w' => e = .returned (.agg CE.toArray) ∧ Kept None W w' := by rw [hCE]; exact empty
  have hRN : ∀ W, Calls Try.prog 12 #[.slice none 0 0] W fun e w' => e = .returned (.agg CE.toArray) ∧ Kept None W w' := fun W => by
    have h := root (.slice none 0 0) 0 0 [] W (Its.nil _ _ _) (by decide)
    rw [rootOf_nil] at h
    rw [hCE]; exact h
  rw [← hCE] at e1
  have HE := hid (And.intro hE hRN)
  clear hv hn hCE hE hRN
  go_enter Try.func5, Try.ntmps5
  go_wp2_with fail
  refine (known _).mono ?_
  rintro e w1 ⟨rfl, k1⟩
  by_cases h30 : 30 < n
  · have hz : (30 : Int) < (n : Int) := by omega
    clear e1
    go_wp2
    go_ret
    exact ⟨rfl, k1⟩
  have hz : ¬ (30 : Int) < (n : Int) := by omega
  go_wp2_with fail
  refine (items _ _ _ ns w1 (by have := HV.out.kept k1 (fun _ _ _ h => h); rw [HN.out] at this ⊢; exact this) (by have := HN.out; omega)).mono ?_
  rintro e w2 ⟨v2, xs, rfl, hxs, hxl, k2⟩
  have k02 := k1.trans k2
  obtain ⟨a2, c2, rfl⟩ := hxs.form
  have hset := RTr.set (.slice a2 xs.length c2) (.slice none 0 0) _ _ 0 0 xs [] w2 (hxs.its (Nat.le_refl _)) (Its.nil _ _ _) (by have := HN.out; rw [List.length_nil]; omega)
  rw [List.append_nil] at hset
  have hsl := len_setI xs
  have HSET := hid hset
  have HXL := hid hxl
  clear hset hxl
  go_wp2_with fail
  refine HSET.out.mono ?_
  rintro e w3 ⟨v3, rfl, hX, k3⟩
  have k03 := k02.trans k3
  have hS := srt_setI xs
  obtain ⟨l, hl⟩ : ∃ l, l = setI xs := ⟨_, rfl⟩
  rw [← hl] at hX hS hsl
  have hl30 : l.length ≤ 30 := by have := HN.out; have := HXL.out; omega
  obtain ⟨a3, c3, rfl⟩ := hX.form
  have HI := hid (hX.its (Nat.le_refl _))
  have HS := hid hS
  have hls := k02.size
  have hls3 := k3.size
  clear hxs k1 k2 k3 k02 hX hS hsl hl HSET
  by_cases h2 : l.length < 2
  · have hz2 : (l.length : Int) < 2 := by omega
    go_wp2_with fail
    refine (HE.out.2 _).mono ?_
    rintro e w4 ⟨rfl, k4⟩
    go_wp2_with fail
    refine (HE.out.1 _).mono ?_
    rintro e w5 ⟨rfl, k5⟩
    have k05 := (k03.trans k4).trans k5
    clear k03 k4 k5
    go_wp2
    go_ret
    exact ⟨rfl, k05⟩
  have hz2 : ¬ (l.length : Int) < 2 := by omega
  have hh : rootOf l = nodeH (rootI 255 (half l 0 0) 1) (rootI 255 (half l 0 1) 1) := root_halves HS.out (by omega)
  obtain ⟨A, hA⟩ : ∃ A, A = rootI 255 (half l 0 0) 1 := ⟨_, rfl⟩
  obtain ⟨B, hB⟩ : ∃ B, B = rootI 255 (half l 0 1) 1 := ⟨_, rfl⟩
  have hag : Agree l 0 := fun _ _ _ _ k hk => by omega
  have hA32 : A.length = 32 := by rw [hA]; exact Go.Pm.rootI_len 255 (srt_half HS.out 0 0) (len_half HI.out.1 0 0) (agree_half hag 0) (by omega)
  have hB32 : B.length = 32 := by rw [hB]; exact Go.Pm.rootI_len 255 (srt_half HS.out 0 1) (len_half HI.out.1 0 1) (agree_half hag 1) (by omega)
  have HND := hid (fun W => node A B W hA32 hB32)
  have HR := hid (fun v lo hi W h => root v lo hi l W h (by omega))
  have HBL := hid (fun (b : Nat) v lo hi W h => below 255 (half l 0 b) 1 v lo hi W h (srt_half HS.out 0 b) (agree_half hag b) (by omega) (by omega) (Nat.le_trans (RTr.half_len l 0 b) (by omega)))
  rw [hh, ← hA, ← hB] at HR
  have hc : (rootOf l).length = 32 := by rw [hh]; exact sumB_len _
  rw [hh, ← hA, ← hB] at hc
  have e2 := eqHash (nodeH A B) (nodeH A B) hc hc
  simp only [beq_self_eq_true] at e2
  obtain ⟨CR, hCR⟩ : ∃ CR, CR = (nodeH A B).map u8v := ⟨_, rfl⟩
  obtain ⟨CA, hCA⟩ : ∃ CA, CA = A.map u8v := ⟨_, rfl⟩
  obtain ⟨CB, hCB⟩ : ∃ CB, CB = B.map u8v := ⟨_, rfl⟩
  have lCA : CA.length = 32 := by rw [hCA, List.length_map]; exact hA32
  have lCB : CB.length = 32 := by rw [hCB, List.length_map]; exact hB32
  rw [← hCR] at e2
  have HROOT : Hid (∀ v lo hi W, Its W lo hi v l → Calls Try.prog 12 #[v] W fun e w' => e = .returned (.agg CR.toArray) ∧ Kept None W w') := hid (by rw [hCR]; exact HR.out)
  have HNODE : Hid (∀ W, Calls Try.prog 20 #[.agg CA.toArray, .agg CB.toArray] W fun e w' => e = .returned (.agg CR.toArray) ∧ Kept None W w') := hid (by rw [hCR, hCA, hCB]; exact HND.out)
  have HBA : Hid (∀ v lo hi W, Its W lo hi v (half l 0 0) → Calls Try.prog 26 #[v, .int .i64 1] W fun e w' => e = .returned (.agg CA.toArray) ∧ Kept None W w') := hid (by rw [hCA, hA]; exact HBL.out 0)
  have HBB : Hid (∀ v lo hi W, Its W lo hi v (half l 0 1) → Calls Try.prog 26 #[v, .int .i64 1] W fun e w' => e = .returned (.agg CB.toArray) ∧ Kept None W w') := hid (by rw [hCB, hB]; exact HBL.out 1)
  have oA : CA.toArray.all (·.oneCell') = true := by rw [hCA]; exact u8v_all A
  have oB : CB.toArray.all (·.oneCell') = true := by rw [hCB]; exact u8v_all B
  have HLEN := hid HI.out.1
  have HO := hid (And.intro oA oB)
  have HL := hid (And.intro lCA lCB)
  have aCA : AggTy Try.prog 24 CA.length := by rw [lCA]; exact Sp.aH
  have aCB : AggTy Try.prog 24 CB.length := by rw [lCB]; exact Sp.aH
  have HAG := hid (And.intro aCA aCB)
  clear hh hA hB hag hA32 hB32 HND HR HBL hc hCR hCA hCB lCA lCB oA oB aCA aCB
  have kz : Kept None w (w3.alloc (.cells #[.int .u8 0, .int .u8 0, .int .u8 0, .int .u8 0, .int .u8 0, .int .u8 0, .int .u8 0, .int .u8 0, .int .u8 0, .int .u8 0, .int .u8 0, .int .u8 0, .int .u8 0, .int .u8 0, .int .u8 0, .int .u8 0, .int .u8 0, .int .u8 0, .int .u8 0, .int .u8 0, .int .u8 0, .int .u8 0, .int .u8 0, .int .u8 0, .int .u8 0, .int .u8 0, .int .u8 0, .int .u8 0, .int .u8 0, .int .u8 0, .int .u8 0, .int .u8 0, .int .u8 0, .int .u8 0, .int .u8 0, .int .u8 0, .int .u8 0, .int .u8 0, .int .u8 0, .int .u8 0, .int .u8 0, .int .u8 0, .int .u8 0, .int .u8 0, .int .u8 0, .int .u8 0, .int .u8 0, .int .u8 0, .int .u8 0, .int .u8 0, .int .u8 0, .int .u8 0, .int .u8 0, .int .u8 0, .int .u8 0, .int .u8 0, .int .u8 0, .int .u8 0, .int .u8 0, .int .u8 0, .int .u8 0, .int .u8 0, .int .u8 0, .int .u8 0] 45)) := k03.alloc _
  have v0 := Blk.new w3 #[.int .u8 0, .int .u8 0, .int .u8 0, .int .u8 0, .int .u8 0, .int .u8 0, .int .u8 0, .int .u8 0, .int .u8 0, .int .u8 0, .int .u8 0, .int .u8 0, .int .u8 0, .int .u8 0, .int .u8 0, .int .u8 0, .int .u8 0, .int .u8 0, .int .u8 0, .int .u8 0, .int .u8 0, .int .u8 0, .int .u8 0, .int .u8 0, .int .u8 0, .int .u8 0, .int .u8 0, .int .u8 0, .int .u8 0, .int .u8 0, .int .u8 0, .int .u8 0, .int .u8 0, .int .u8 0, .int .u8 0, .int .u8 0, .int .u8 0, .int .u8 0, .int .u8 0, .int .u8 0, .int .u8 0, .int .u8 0, .int .u8 0, .int .u8 0, .int .u8 0, .int .u8 0, .int .u8 0, .int .u8 0, .int .u8 0, .int .u8 0, .int .u8 0, .int .u8 0, .int .u8 0, .int .u8 0, .int .u8 0, .int .u8 0, .int .u8 0, .int .u8 0, .int .u8 0, .int .u8 0, .int .u8 0, .int .u8 0, .int .u8 0, .int .u8 0] 45
  obtain ⟨z0, hz0, hR0⟩ : ∃ z : Array Value, z.size = 64 ∧ Blk (w3.alloc (.cells #[.int .u8 0, .int .u8 0, .int .u8 0, .int .u8 0, .int .u8 0, .int .u8 0, .int .u8 0, .int .u8 0, .int .u8 0, .int .u8 0, .int .u8 0, .int .u8 0, .int .u8 0, .int .u8 0, .int .u8 0, .int .u8 0, .int .u8 0, .int .u8 0, .int .u8 0, .int .u8 0, .int .u8 0, .int .u8 0, .int .u8 0, .int .u8 0, .int .u8 0, .int .u8 0, .int .u8 0, .int .u8 0, .int .u8 0, .int .u8 0, .int .u8 0, .int .u8 0, .int .u8 0, .int .u8 0, .int .u8 0, .int .u8 0, .int .u8 0, .int .u8 0, .int .u8 0, .int .u8 0, .int .u8 0, .int .u8 0, .int .u8 0, .int .u8 0, .int .u8 0, .int .u8 0, .int .u8 0, .int .u8 0, .int .u8 0, .int .u8 0, .int .u8 0, .int .u8 0, .int .u8 0, .int .u8 0, .int .u8 0, .int .u8 0, .int .u8 0, .int .u8 0, .int .u8 0, .int .u8 0, .int .u8 0, .int .u8 0, .int .u8 0, .int .u8 0] 45)) w3.heap.size z 45 := ⟨_, by rfl, v0⟩
  have hX4 := HI.out.kept (S := None) ((Kept.refl None w3).alloc (.cells #[.int .u8 0, .int .u8 0, .int .u8 0, .int .u8 0, .int .u8 0, .int .u8 0, .int .u8 0, .int .u8 0, .int .u8 0, .int .u8 0, .int .u8 0, .int .u8 0, .int .u8 0, .int .u8 0, .int .u8 0, .int .u8 0, .int .u8 0, .int .u8 0, .int .u8 0, .int .u8 0, .int .u8 0, .int .u8 0, .int .u8 0, .int .u8 0, .int .u8 0, .int .u8 0, .int .u8 0, .int .u8 0, .int .u8 0, .int .u8 0, .int .u8 0, .int .u8 0, .int .u8 0, .int .u8 0, .int .u8 0, .int .u8 0, .int .u8 0, .int .u8 0, .int .u8 0, .int .u8 0, .int .u8 0, .int .u8 0, .int .u8 0, .int .u8 0, .int .u8 0, .int .u8 0, .int .u8 0, .int .u8 0, .int .u8 0, .int .u8 0, .int .u8 0, .int .u8 0, .int .u8 0, .int .u8 0, .int .u8 0, .int .u8 0, .int .u8 0, .int .u8 0, .int .u8 0, .int .u8 0, .int .u8 0, .int .u8 0, .int .u8 0, .int .u8 0] 45)) (fun _ _ _ h => h)
  obtain ⟨w4, hw4⟩ : ∃ w4, w4 = w3.alloc (.cells #[.int .u8 0, .int .u8 0, .int .u8 0, .int .u8 0, .int .u8 0, .int .u8 0, .int .u8 0, .int .u8 0, .int .u8 0, .int .u8 0, .int .u8 0, .int .u8 0, .int .u8 0, .int .u8 0, .int .u8 0, .int .u8 0, .int .u8 0, .int .u8 0, .int .u8 0, .int .u8 0, .int .u8 0, .int .u8 0, .int .u8 0, .int .u8 0, .int .u8 0, .int .u8 0, .int .u8 0, .int .u8 0, .int .u8 0, .int .u8 0, .int .u8 0, .int .u8 0, .int .u8 0, .int .u8 0, .int .u8 0, .int .u8 0, .int .u8 0, .int .u8 0, .int .u8 0, .int .u8 0, .int .u8 0, .int .u8 0, .int .u8 0, .int .u8 0, .int .u8 0, .int .u8 0, .int .u8 0, .int .u8 0, .int .u8 0, .int .u8 0, .int .u8 0, .int .u8 0, .int .u8 0, .int .u8 0, .int .u8 0, .int .u8 0, .int .u8 0, .int .u8 0, .int .u8 0, .int .u8 0, .int .u8 0, .int .u8 0, .int .u8 0, .int .u8 0] 45) := ⟨_, rfl⟩
  have hs4 : w4.heap.size = w3.heap.size + 1 := by rw [hw4]; simp
  have HW4 := hid hw4
  rw [← hw4] at kz hR0 hX4
  have HX4 := hid hX4
  have HZ := hid (And.intro hz0 (And.intro hR0 kz))
  have HSZ := hid (And.intro hls (And.intro hls3 hs4))
  have E2 := hid e2
  clear v0 k03 hw4 hX4 hz0 hR0 kz hls hls3 hs4 HI e1 e2
  go_wp2
  rw [← HW4.out]
  go_loopg [5, 6, 7] 2 (fun kx s5 s6 s7 wr => ∃ (s : Nat) (u6 u7 : Value) (z : Array Value), s5 = .int .i64 s ∧ s6 = u6 ∧ s7 = u7 ∧ s ≤ 2 ∧ 2 - s ≤ kx ∧ Hid (z.size = 64 ∧ Blk wr w3.heap.size z 45 ∧ Kept (Just w3.heap.size) w4 wr ∧ (1 ≤ s → z.toList.take 32 = CA) ∧ (2 ≤ s → z.toList.drop 32 = CB)))
  case atStart => exact ⟨0, _, _, z0, rfl, rfl, rfl, Nat.zero_le _, Nat.le_refl _, ⟨HZ.out.1, HZ.out.2.1, Kept.refl _ _, fun h => by omega, fun h => by omega⟩⟩
  case round =>
    obtain ⟨s, u6, u7, z, rfl, rfl, rfl, hs2, hsx, HQ⟩ := hrel
    by_cases hlt : s < 2
    · have hzs : (s : Int) < 2 := by omega
      obtain ⟨wo, rfl⟩ : ∃ wo : World, wo = wr := ⟨_, rfl⟩
      go_wp2
      go_loopg [6, 7] l.length (fun ky s6 s7 wr => ∃ (k : Nat) (ao : Option Addr) (no co : Nat), s6 = .slice ao no co ∧ s7 = .int .i64 k ∧ k ≤ l.length ∧ l.length - k ≤ ky ∧ Hid (Ito 35 wr wo.heap.size (.slice ao no co) (half (l.take k) 0 s) ∧ Kept None wo wr))
      case atStart => exact ⟨0, none, 0, 0, rfl, rfl, Nat.zero_le _, Nat.le_refl _, ⟨Ito.nil _ _ _, Kept.refl _ _⟩⟩
      case round =>
        obtain ⟨k, ao, no, co, rfl, rfl, hk, hky, HJ⟩ := hrel
        by_cases hkl : k < l.length
        · have hzk : (k : Int) < (l.length : Int) := by omega
          have hvr := (HX4.out.kept HQ.out.2.2.1 (fun q _ h2 (e : q = w3.heap.size) => by omega)).kept HJ.out.2 (fun _ _ _ h => h)
          obtain ⟨b, o, hbo, q1, q2, q3, hcx⟩ := hvr.ne (by omega)
          obtain rfl := hbo
          have hx := hcx k l[k] (List.getElem?_eq_getElem hkl)
          have hlen := hvr.1 l[k] (List.getElem_mem hkl)
          have HF := hid (RTr.half_take l 0 s k hkl)
          have e0 : (half (l.take k) 0 s).length ≤ k := Nat.le_trans (RTr.half_len _ _ _) (by simp; omega)
          have hsz := HJ.out.2.size
          have hsz4 := HQ.out.2.2.1.size
          generalize l[k] = x at *
          have h64 := itC_len hlen
          have hxi : wr.rangeAt b (o + k * 64) (x.i.map u8v) := by
            have h := rangeAt_take hx 32
            rwa [show (itC x).take 32 = x.i.map u8v from List.take_left' (by simp [hlen.1])] at h
          have aX : AggTy Try.prog 24 (x.i.map u8v).length := by rw [List.length_map, hlen.1]; exact Sp.aH
          have aY : AggTy Try.prog 35 (itC x).length := by rw [h64]; exact RTr.aI64
          have hbit : ∀ W, Calls Try.prog 24 #[.agg (x.i.map u8v).toArray, .int .i64 0] W fun e w' => e = .returned (.int .i64 (bitI x.i 0 : Nat)) ∧ Kept None W w' := fun W => bit x.i hlen.1 0 (by decide) W
          have HBIT := hid hbit
          clear hbit hcx hvr
          go_wp2_with (first | (refine wpList_load_at (.refl _) _ _ rfl rfl hxi aX ?_) | fail)
          refine (HBIT.out wr).mono ?_
          rintro e w5 ⟨rfl, k5⟩
          have hx5 := rangeAt_kept hx k5
          have hJ5 := HJ.out.1.kept k5 (fun _ _ h => h)
          have k05 := HJ.out.2.trans k5
          have hs5 := k5.size
          clear hx hxi aX k5 HJ HBIT
          by_cases hb : bitI x.i 0 = s
          · have hb' : (((bitI x.i 0 : Nat) : Int) == (s : Int)) = true := by rw [hb]; exact beq_self_eq_true _
            rw [if_pos hb] at HF
            have hO := Its.one w5 35 x hlen
            have hJ6 := hJ5.alloc (.cells (itC x).toArray 35)
            have k06 := k05.alloc (.cells (itC x).toArray 35)
            have hsz6 : wo.heap.size ≤ (w5.alloc (.cells (itC x).toArray 35)).heap.size := by simp; omega
            clear hJ5 k05 hb
            go_wp2_with (first | (refine wpList_load_at (.refl _) _ _ rfl rfl hx5 aY ?_) | (refine wpList_one_item (.refl _) _ _ rfl RTr.rtItems (by decide) rfl (by simpa using h64) ?_) | (at_builtin; refine wpList_append_ito (v := .slice ao no co) (u := .slice (some ⟨w5.heap.size, 0, none⟩) 1 1) (.refl _) _ _ 25 rfl RTr.rtItems rfl rfl hJ6 hO (by simp; omega) hsz6 ?_; intro a9 n9 c9 w9 hO9 k9 f9) | fail)
            have k09 : Kept None wo w9 := Kept.own k06 k9 (fun q hq => (hJ6.own q hq).1)
            go_roundg (l.length - (k + 1))
            case measure => omega
            case rel => exact ⟨k + 1, a9, n9, c9, rfl, by go_num, by omega, Nat.le_refl _, ⟨by rw [HF.out]; exact hO9, k09⟩⟩
          · have hb' : (((bitI x.i 0 : Nat) : Int) == (s : Int)) = false := beq_eq_false_iff_ne.2 (by omega)
            rw [if_neg hb, List.append_nil] at HF
            clear hb
            go_wp2
            go_roundg (l.length - (k + 1))
            case measure => omega
            case rel => exact ⟨k + 1, ao, no, co, rfl, by go_num, by omega, Nat.le_refl _, ⟨by rw [HF.out]; exact hJ5, k05⟩⟩
        · have hzk : ¬ (k : Int) < (l.length : Int) := by omega
          have hkk : k = l.length := by omega
          subst hkk
          rw [List.take_length] at HJ
          have iH := HJ.out.1.its (Nat.le_refl _)
          rcases (show s = 0 ∨ s = 1 by omega) with hs | hs
          · subst hs
            go_wp2_with fail
            refine (HBA.out _ _ _ _ iH).mono ?_
            rintro e w5 ⟨rfl, k5⟩
            have hB5 := (HQ.out.2.1.kept HJ.out.2 (fun h => h)).kept k5 (fun h => h)
            have hzz := HQ.out.1
            have hCl := HL.out.1
            have hOA := HO.out.1
            have th0 : w5.there w3.heap.size 0 CA.toArray.size := fun j hj => by
              have hj' : j < 32 := by simpa [hCl] using hj
              refine ⟨?_, hB5.free _⟩
              rw [hB5.cell]
              rw [Array.getElem?_eq_getElem (by omega)]
              rfl
            have aH0 : (Try.prog.info? 24).map (·.size) = some CA.toArray.size := by rw [show CA.toArray.size = 32 by simpa using hCl]; exact Sp.aH.size
            have hB9 := Blk.setCells CA.toArray.toList 0 w5 z hB5 (by simp [hCl, hzz])
            have hk8 := kept_setCells (S := Just w3.heap.size) (a := w5) (b := w3.heap.size) (fun _ => rfl) CA.toArray.toList 0 w5 (Kept.refl _ _)
            have k48 := ((HQ.out.2.2.1.then HJ.out.2 (fun _ _ h => False.elim h)).then k5 (fun _ _ h => False.elim h)).trans hk8
            have hT := two_first z CA.toArray.toList hzz (by simpa using hCl)
            have hQ4 := HQ.out.2.2.2.1
            have HZZ := hid hzz
            have HCL := hid hCl
            clear hk8 k5 hB5 hzz hCl iH HJ HQ
            go_wp2_with (first | (refine wpList_store_mid (.refl _) _ _ _ rfl w3.heap.size 0 CA.toArray rfl rfl th0 aH0 hOA ?_; generalize w5.setCells w3.heap.size 0 CA.toArray.toList = w10 at hB9 k48 ⊢) | fail)
            go_roundg 1
            case measure => omega
            case rel => exact ⟨1, _, _, _, rfl, rfl, rfl, by omega, by omega, ⟨hT.1, hB9, k48, fun _ => hT.2, fun h => by omega⟩⟩
          · subst hs
            go_wp2_with fail
            refine (HBB.out _ _ _ _ iH).mono ?_
            rintro e w5 ⟨rfl, k5⟩
            have hB5 := (HQ.out.2.1.kept HJ.out.2 (fun h => h)).kept k5 (fun h => h)
            have hzz := HQ.out.1
            have hCl := HL.out.2
            have hOA := HO.out.2
            have th0 : w5.there w3.heap.size 32 CB.toArray.size := fun j hj => by
              have hj' : j < 32 := by simpa [hCl] using hj
              refine ⟨?_, hB5.free _⟩
              rw [hB5.cell]
              rw [Array.getElem?_eq_getElem (by omega)]
              rfl
            have aH0 : (Try.prog.info? 24).map (·.size) = some CB.toArray.size := by rw [show CB.toArray.size = 32 by simpa using hCl]; exact Sp.aH.size
            have hB9 := Blk.setCells CB.toArray.toList 32 w5 z hB5 (by simp [hCl, hzz])
            have hk8 := kept_setCells (S := Just w3.heap.size) (a := w5) (b := w3.heap.size) (fun _ => rfl) CB.toArray.toList 32 w5 (Kept.refl _ _)
            have k48 := ((HQ.out.2.2.1.then HJ.out.2 (fun _ _ h => False.elim h)).then k5 (fun _ _ h => False.elim h)).trans hk8
            have hT := two_second z CB.toArray.toList hzz (by simpa using hCl)
            have hQ4 := HQ.out.2.2.2.1
            have HZZ := hid hzz
            have HCL := hid hCl
            clear hk8 k5 hB5 hzz hCl iH HJ HQ
            go_wp2_with (first | (refine wpList_store_mid (.refl _) _ _ _ rfl w3.heap.size 32 CB.toArray rfl rfl th0 aH0 hOA ?_; generalize w5.setCells w3.heap.size 32 CB.toArray.toList = w10 at hB9 k48 ⊢) | fail)
            go_roundg 0
            case measure => omega
            case rel => exact ⟨2, _, _, _, rfl, rfl, rfl, by omega, by omega, ⟨hT.1, hB9, k48, fun _ => hT.2.1.trans (hQ4 (Nat.le_refl _)), fun _ => hT.2.2⟩⟩
    · have hzs : ¬ (s : Int) < 2 := by omega
      have hs : s = 2 := by omega
      subst hs
      have hB := HQ.out.2.1
      have tA := HQ.out.2.2.2.1 (by omega)
      have tB := HQ.out.2.2.2.2 (Nat.le_refl _)
      have hA9 : wr.rangeAt w3.heap.size 0 CA := fun j c hj => by
        rw [Nat.zero_add, hB.cell]
        rw [← tA, List.getElem?_take] at hj
        split at hj
        · simpa using hj
        · cases hj
      have hB9 : wr.rangeAt w3.heap.size 32 CB := fun j c hj => by
        rw [hB.cell]
        rw [← tB, List.getElem?_drop] at hj
        simpa using hj
      have hX9 := HX4.out.kept HQ.out.2.2.1 (fun q _ h2 (e : q = w3.heap.size) => by omega)
      have k09 := HZ.out.2.2.then HQ.out.2.2.1 (fun i hi (e : i = w3.heap.size) => by have := HSZ.out; omega)
      have aCA := HAG.out.1
      have aCB := HAG.out.2
      have e2 := E2.out
      clear hB tA tB HQ
      go_wp2_with fail
      have hs : Steady [.val 1 (.agg CR.toArray), .val 6 (.agg CR.toArray)] := Steady.val (Steady.val (Steady.nil))
      refine wp_region_kn wr _ hs (Kept.refl _ _) (by kernel_rfl) (by kernel_rfl) (by kernel_rfl) ?_
      iterate 1 (refine wpPar_pure rfl (by rfl) _ (fun W hW => by
          go_simp
          exact rfl) ?_; simp only [Act.put, List.setIfInBounds_toArray, List.set_cons_zero, List.set_cons_succ])
      refine wpKn_adds hs rfl (by rfl) (fun W hW hd => ?_) (fun v1 hv => ?_)
      · unfold Gives
        go_simp
        refine gives_call (HROOT.out _ _ _ W (hX9.kept hW (fun _ _ _ h => h))) ?_
        rintro e w3 ⟨rfl, k3⟩
        exact ⟨_, rfl, k3, rfl, trivial⟩
      obtain rfl : v1 = .agg CR.toArray := hv
      simp only [Act.put, List.setIfInBounds_toArray, List.set_cons_zero, List.set_cons_succ]
      iterate 1 (refine wpPar_pure rfl (by rfl) _ (fun W hW => by
          go_simp
          exact rfl) ?_; simp only [Act.put, List.setIfInBounds_toArray, List.set_cons_zero, List.set_cons_succ])
      refine wpPar_pure rfl (by rfl) _ (fun W hW => exec_load_at rfl rfl (rangeAt_kept hA9 hW) aCA) ?_; simp only [Act.put, List.setIfInBounds_toArray, List.set_cons_zero, List.set_cons_succ]
      iterate 1 (refine wpPar_pure rfl (by rfl) _ (fun W hW => by
          go_simp
          exact rfl) ?_; simp only [Act.put, List.setIfInBounds_toArray, List.set_cons_zero, List.set_cons_succ])
      refine wpPar_pure rfl (by rfl) _ (fun W hW => exec_load_at rfl rfl (rangeAt_kept hB9 hW) aCB) ?_; simp only [Act.put, List.setIfInBounds_toArray, List.set_cons_zero, List.set_cons_succ]
      refine wpKn_adds hs rfl (by rfl) (fun W hW hd => ?_) (fun v6 hv => ?_)
      · unfold Gives
        go_simp
        refine gives_call (HNODE.out W) ?_
        rintro e w3 ⟨rfl, k3⟩
        exact ⟨_, rfl, k3, rfl, trivial⟩
      obtain rfl : v6 = .agg CR.toArray := hv
      simp only [Act.put, List.setIfInBounds_toArray, List.set_cons_zero, List.set_cons_succ]
      iterate 2 (refine wpPar_pure rfl (by rfl) _ (fun W hW => by
          go_simp
          exact rfl) ?_; simp only [Act.put, List.setIfInBounds_toArray, List.set_cons_zero, List.set_cons_succ])
      refine wpPar_nil (fun w9 hW hG => ?_)
      have k10 := k09.trans hW
      clear hG hs hW k09 e2 hX9 hA9 hB9
      go_wp2
      go_ret
      exact ⟨rfl, k10⟩
end Tr
end Go.Proofs.Ytalkkiliepaikaa
