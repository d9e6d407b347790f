/- sponge.Text, sponge.Tag, by their contracts. -/
import Derived.Test.YtbckjkfdkgomiaaSum
import Derived.Test.YtbckjkfdkgomiaaLst
namespace Go.Proofs.Ytbckjkfdkgomiaa
open Go.RowKit Go.Pm

theorem tLists : Try.prog.underlying 52 = some (.slice 32) := by kernel_rfl
theorem infoBytes : (Try.prog.info? 32).map (fun i => (i.zero, i.size, i.bytes)) = some (some (.slice none 0 0), 1, 24) := by kernel_rfl
theorem rtLists : RowTy Try.prog 52 32 (.slice none 0 0) 24 := ⟨by kernel_rfl, info_parts infoBytes, rfl⟩
/-- A [][]byte of the call's own. -/
abbrev Obs (w : World) (base : Nat) (v : Value) (ls : List (List UInt8)) : Prop := Bos 32 w base v ls
namespace Sp
set_option maxRecDepth 100000 in
set_option maxHeartbeats 1000000 in
/-- sponge.Text. -/
theorem text (tag : Int) (v : Value) (lo hi lo' hi' : Nat) (ls : List (List UInt8)) (w : World) (ht0 : 0 ≤ tag) (ht1 : tag < 256) (hv : Bss w lo hi lo' hi' v ls) (hn : ls.length ≤ 1099511627776) (hl : total ls ≤ 1099511627776) :
    Calls Try.prog 82 #[.int .u8 tag, v] w fun e w' => ∃ v', e = .returned v' ∧ Kept None w w' ∧ Ob w' w.heap.size v' (textB tag ls) := by
  obtain ⟨a, cap, rfl, g1, g2, g3⟩ := hv.shape
  obtain ⟨i0, hi0, hz0, hz1, hz2⟩ := info_parts infoBytes
  go_enter Try.func82, Try.ntmps82
  go_wp2_with (at_make; refine wpList_make_own _ rfl _ _ 52 rfl w.heap.size 32 i0 (.slice none 0 0) 1 tLists hi0 hz0 hz1 .i64 .i64 ((ls.length : Int) + 1) (ls.length + 1) rfl rfl rfl ?h1 ?h2 ?h3 ?h4)
  case h1 => rw [hz2]; omega
  case h2 => unfold maxLen; omega
  case h3 => exact Nat.le_refl _
  case h4 =>
    intro w1 hown hgrow
    have hk1 : Kept None w w1 := Kept.grown (Kept.refl _ _) hgrow (fun _ h => by cases h)
    have hb1 : Obs w1 w.heap.size (.slice (some ⟨w.heap.size, 0, none⟩) 0 (ls.length + 1)) [] := ⟨[], hown, fun i x l h => by simp at h⟩
    have hs1 := (hb1.own w.heap.size rfl).2
    have hb2 := hb1.kept ((Kept.refl None w1).alloc (.cells #[.int .u8 tag] 5))
    have hk2 := hk1.alloc (.cells #[.int .u8 tag] 5)
    have hy : Bs (w1.alloc (.cells #[.int .u8 tag] 5)) 0 (w1.alloc (.cells #[.int .u8 tag] 5)).heap.size (.slice (some ⟨w1.heap.size, 0, none⟩) 1 1) [Go.Pm.byteOf tag] := by
      have := Bo.new w1 5 [Go.Pm.byteOf tag] #[.int .u8 tag] (by simp [u8v_byteOf' ht0 ht1]) 1 rfl (by decide)
      exact (this.bs (Nat.le_refl _)).all
    have E := hid (And.intro hz2 g3)
    clear hown hgrow hb1 hk1 hz0 hz1 hz2 hi0 g3
    go_wp2_with (at_builtin; refine wpList_append_item rfl _ _ 52 rfl rtLists rfl rfl ?k1 hb2 hy ?k2 ?k3 ?k4 ?k5)
    case k1 => simp
    case k2 =>
      intro _ k hk e
      have h1 : w1.heap.size = k := Option.some.inj hk
      have h2 : w.heap.size = k := Option.some.inj e
      omega
    case k3 => simp
    case k4 => simp; omega
    case k5 =>
      intro a2 n2 c2 w2 hb3 hk3 _
      have hk4 : Kept None w w2 := hk2.then hk3 (fun i hi (h : _ = some i) => by simp [Value.ownBlock] at h; omega)
      clear hb2 hy hk2 hk3
      go_wp2
      go_loopw [5, 19] (fun t i wr => ∃ k : Nat, k ≤ ls.length ∧ i = .int .i64 k ∧ (∃ a n c, t = .slice a n c) ∧ Obs wr w.heap.size t (partsB tag (ls.take k)) ∧ Kept None w wr) (fun _ i _ => ls.length - (intOf i).toNat)
      case atStart => exact ⟨0, Nat.zero_le _, rfl, ⟨_, _, _, rfl⟩, hb3, hk4⟩
      case round =>
        clear hb3 hk4
        obtain ⟨k, hk, rfl, ⟨a3, n3, c3, rfl⟩, hb, hkk⟩ := hrel
        have hsz := hkk.size
        by_cases hlt : k < ls.length
        · have hvr := hv.kept hkk (fun _ _ _ h => h) (fun _ _ _ h => h)
          obtain ⟨b, o, rfl, q1, q2, q3, hc⟩ := Bss.at hvr (by omega)
          obtain ⟨a', c', hc', hb'⟩ := hc k hlt
          have hlen := at_total ls k hlt
          have HP := hid (partsB_take tag ls k hlt)
          have hpl := partsB_len tag (ls.take k)
          have hpl' : (partsB tag (ls.take k)).length ≤ ls.length + 1 := by rw [hpl, List.length_take]; omega
          clear hpl hc hvr hv
          generalize ls[k] = x at *
          go_wp2_with fail
          refine (Bin.lump _ _ _ _ _ hb' (by omega)).mono ?_
          rintro e1 w4 ⟨v4, rfl, k4, b4⟩
          have hyl : (leB x.length ++ x).length = x.length + 8 := by simp [leB_length]; omega
          have HP' := HP.out
          generalize leB x.length ++ x = y at *
          have HP2 := hid HP'
          clear HP HP'
          have hb4 := hb.kept k4
          have hk5 := hkk.then k4 (fun _ _ h => h)
          have hne : 0 < y.length → ∀ j, v4.ownBlock = some j → (Value.slice a3 n3 c3).ownBlock ≠ some j := fun _ j h1 h2 => by
            have := (b4.own j h1).1
            have := (hb.own j h2).2
            omega
          have hs4 := k4.size
          have hb4' := (b4.bs (Nat.le_refl _)).all
          obtain ⟨a4, c4, rfl⟩ := b4.form
          have HY := hid hyl
          clear hyl hb hkk k4 b4 hb'
          go_wp2_with (at_builtin; refine wpList_append_item rfl _ _ 52 rfl rtLists rfl rfl rfl hb4 hb4' ?m0 ?m1 ?m2 ?m3)
          case m0 => exact hne
          case m1 => omega
          case m2 => omega
          case m3 =>
            intro a5 n5 c5 w5 hb5 hk6 _
            have hk7 : Kept None w w5 := hk5.then hk6 (fun i hi (h : _ = some i) => by have := (hb4.own i h).1; omega)
            rw [← HP2.out] at hb5
            clear hb4 hb4' hk5 hk6 HP2 hne
            go_wp2
            go_roundw
            case rel => exact ⟨k + 1, by omega, by go_num, ⟨_, _, _, rfl⟩, hb5, hk7⟩
            case measure => simp [intOf]; omega
        · have hb6 : Obs wr w.heap.size (.slice a3 n3 c3) (partsB tag ls) := by rw [List.take_of_length_le (by omega)] at hb; exact hb
          clear hb hv
          go_wp2_with fail
          refine (Bin.join _ _ _ _ _ _ _ hb6.bss (by show (textB tag ls).length ≤ _; rw [textB_length]; omega)).mono ?_
          rintro e1 w7 ⟨v7, rfl, k7, b7⟩
          have b8 := b7.base hsz
          have k8 := hkk.then k7 (fun _ _ h => h)
          clear b7 k7 hkk hb6
          go_wp2
          go_ret
          exact ⟨_, rfl, k8, b8⟩

set_option maxRecDepth 100000 in
set_option maxHeartbeats 400000 in
/-- sponge.Tag. -/
theorem tag (tg : Int) (v : Value) (lo hi lo' hi' : Nat) (ls : List (List UInt8)) (w : World) (ht0 : 0 ≤ tg) (ht1 : tg < 256) (hv : Bss w lo hi lo' hi' v ls) (hn : ls.length ≤ 1099511627776) (hl : total ls ≤ 1099511627776) :
    Calls Try.prog 71 #[.int .u8 tg, v] w fun e w' => e = .returned (hashV (sumB (textB tg ls))) ∧ Kept None w w' := by
  have hs := fun v lo hi w h => sum v lo hi (textB tg ls) w h
  have e32 := sumB_len (textB tg ls)
  obtain ⟨res, hres⟩ : ∃ res, res = sumB (textB tg ls) := ⟨_, rfl⟩
  rw [← hres] at hs e32 ⊢
  have HS := hid hs
  have H32 := hid e32
  clear hs e32 hres
  obtain ⟨a, cap, rfl, g1, g2, g3⟩ := hv.shape
  clear g3
  go_enter Try.func71, Try.ntmps71
  go_wp2_with fail
  have hv1 := hv.kept ((Kept.refl None w).alloc (.cells (Array.replicate 32 (.int .u8 0)) 83)) (fun _ _ _ h => h) (fun _ _ _ h => h)
  refine (text tg _ lo hi lo' hi' ls _ ht0 ht1 hv1 hn hl).mono ?_
  rintro e1 w1 ⟨v1, rfl, k1, b1⟩
  obtain ⟨z, hz, hR⟩ : ∃ z : Array Value, z.size = 32 ∧ Blk w1 w.heap.size z 83 := ⟨Array.replicate 32 (.int .u8 0), by simp, (Blk.new w _ _).kept k1 (fun h => h)⟩
  have k2 : Kept None w w1 := ((Kept.refl _ _).alloc _).trans k1
  clear hv hv1 k1
  go_wp2_with fail
  refine (HS.out _ _ _ _ (b1.bs (Nat.le_refl _))).mono ?_
  rintro e2 w2 ⟨rfl, k3⟩
  have hR2 := hR.kept k3 (fun h => h)
  have k4 := k2.then k3 (fun _ _ h => h)
  have e32 : (res.map u8v).toArray.size = 32 := by simpa using H32.out
  have aH' : AggTy Try.prog 83 (res.map u8v).toArray.size := by rw [e32]; exact aH
  have E := hid (hz.trans e32.symm)
  clear hR k3 k2 b1 e32 hz
  go_wp2_with (first | (refine wpList_store_blk rfl _ _ _ rfl rfl rfl hR2 aH' E.out (u8v_all _) ?_; intro w6 hR6 k6) | fail)
  exact bodyPost_ret (v := hashV res) (results_blk rfl _ rfl hR6 aH') rfl ⟨rfl, k4.then k6 (fun i hi (h : i = w.heap.size) => by omega)⟩
end Sp
end Go.Proofs.Ytbckjkfdkgomiaa
