/- postmarklaw9.leaves: by contract. -/
import Derived.Test.YtkogkcaflhjlhaaLv8
namespace Go.Proofs.Ytkogkcaflhjlhaa
open Go.RowKit Go.Pm
namespace L9
set_option maxRecDepth 100000 in
set_option maxHeartbeats 1000000 in
/-- leaves. -/
theorem leaves (v : Value) (lo hi : Nat) (l : List UInt8) (w : World) (hv : Bs w lo hi v l) (hl : l.length ≤ 200) : Calls Try.prog 11 #[v] w fun e w' => ∃ u, e = .returned u ∧ Kept None w w' ∧ Ho 25 w' w.heap.size u (leavesL l) := by
  obtain ⟨a, cap, rfl, g1, g2, g3⟩ := hv.shape
  have HV := hid hv
  obtain ⟨n, hn⟩ : ∃ n, n = l.length := ⟨_, rfl⟩
  rw [← hn] at HV hl ⊢
  have HN := hid hn
  clear hv g3 g1 hn
  go_enter Try.func11, Try.ntmps11
  go_wp2
  go_loopg [3, 4] n (fun kx s3 s4 wr => ∃ (k : Nat) (a3 : Option Addr) (c3 : Nat), s3 = .slice a3 k c3 ∧ s4 = .int .i64 k ∧ k ≤ n ∧ n - k ≤ kx ∧ Hid (Kept None w wr) ∧ Hid (Ho 25 wr w.heap.size (.slice a3 k c3) (leavesK l k)))
  case atStart => exact ⟨0, none, 0, rfl, rfl, Nat.zero_le _, Nat.le_refl _, Kept.refl _ _, Ho.nil _ _ _⟩
  case round =>
    obtain ⟨k, a3, c3, rfl, rfl, hk, hkx, HK, HO⟩ := hrel
    by_cases hlt : k < n
    · have hz : (k : Int) < (n : Int) := by omega
      obtain ⟨wo, rfl⟩ : ∃ wo : World, wo = wr := ⟨_, rfl⟩
      obtain ⟨b, o, hab, _, _, _, hc⟩ := (HV.out.kept HK.out (fun _ _ _ h => h)).ne (by have := HN.out; omega)
      obtain rfl := hab
      have c0 := hc k (by have := HN.out; omega)
      obtain ⟨B, hB⟩ : ∃ B, B = bAt l k := ⟨_, rfl⟩
      rw [← hB] at c0
      have rk : IntKind.u8.wrap (k : Int) = (k : Int) := by rw [IntKind.wrap_u8]; omega
      have b0 := bAt_ge l k
      have b1 := bAt_lt l k
      rw [← hB] at b0 b1
      have HB := hid hB
      obtain ⟨e, he⟩ : ∃ e, e = leafAt l k := ⟨_, rfl⟩
      have e32 : e.length = 32 := by rw [he]; exact leafL_len _
      have HL : Hid (∀ W : World, Calls Try.prog 18 #[.slice (some ⟨W.heap.size, 0, none⟩) 2 2] (W.alloc (.cells #[.int .u8 B, .int .u8 k] 5)) fun e' w' => e' = .returned (hashV e) ∧ Kept None (W.alloc (.cells #[.int .u8 B, .int .u8 k] 5)) w') := hid (fun W => by
        have h := RLg.leaf _ _ _ _ _ (Bs.two W 5 (l.getD k 0) (k : Int) (by omega) (by omega)) (by simp)
        rw [hB, he]
        exact h)
      have HE := hid (And.intro e32 he)
      clear hc hB e32 he
      go_wp2_with fail
      refine (HL.out _).mono ?_
      rintro e' w4 ⟨rfl, k4⟩
      have k04 := (HK.out.alloc (.cells #[.int .u8 B, .int .u8 k] 5)).trans k4
      have HO4 := hid ((HO.out.kept ((Kept.refl None wo).alloc (.cells #[.int .u8 B, .int .u8 k] 5)) (fun _ _ h => h)).kept k4 (fun _ _ h => h))
      have hrow := Blk.new w4 (e.map u8v).toArray 25
      have ka : Kept None w4 (w4.alloc (.cells (e.map u8v).toArray 25)) := (Kept.refl _ _).alloc _
      have HO5 := hid (HO4.out.kept ka (fun _ _ h => h))
      have HU := hid (Hs.ofBlk hrow HE.out.1)
      have KW := hid (k04.trans ka)
      have HA : Hid ((e.map u8v).toArray.size = 32) := hid (by simpa using HE.out.1)
      clear k4 k04 HO4 hrow ka HK HO c0 HL
      go_wp2_with (first | (refine wpList_one_item rfl _ _ rfl Hk.rtHashes (by decide) rfl HA.out ?_) | (at_builtin; refine wpList_append_po rfl _ _ 23 rfl Hk.rtHashes (by decide) rfl rfl HO5.out.2 HU.out.2 (hsC_one _) (by rw [hsC_len, hsC_len, leavesK_len]; simp; omega) KW.out.size ?_; intro a9 n9 c9 w9 p9 k9 o9) | fail)
      have hown := HO5.out.2.own
      have HH : Ho 25 w9 w.heap.size (.slice a9 n9 c9) (leavesK l (k + 1)) := by
        rw [leavesK_succ, ← HE.out.2]
        exact ⟨HO5.out.1.append (H32.one HE.out.1), by rw [hsC_append]; exact p9⟩
      have hn9 : n9 = k + 1 := by
        obtain ⟨_, _, h⟩ := HH.form
        injection h with _ h
        rw [h, leavesK_len]
      subst hn9
      have HP9 := hid (And.intro HH (KW.out.then k9 (fun i hi h => by have := (hown i h).1; omega)))
      clear p9 k9 o9 hown HH KW HO5 HU
      go_wp2
      go_roundg (n - (k + 1))
      case measure => omega
      case rel => exact ⟨k + 1, a9, c9, rfl, by go_num, by omega, Nat.le_refl _, HP9.out.2, HP9.out.1⟩
    · have hz : ¬ (k : Int) < (n : Int) := by omega
      obtain rfl : k = n := by omega
      go_wp2
      go_ret
      exact ⟨_, rfl, HK.out, by unfold leavesL; rw [← HN.out]; exact HO.out⟩
end L9
end Go.Proofs.Ytkogkcaflhjlhaa
