/- postmarkref1.Text, Tag, by their contracts. -/
import Derived.Test.YtbckjkfdkgomiaaRefSum
import Derived.Test.YtbckjkfdkgomiaaText
namespace Go.Proofs.Ytbckjkfdkgomiaa
open Go.RowKit Go.Pm
namespace Ref

set_option maxRecDepth 100000 in
set_option maxHeartbeats 1000000 in
/-- postmarkref1.Text. -/
theorem text (tag : Int) (v : Value) (lo hi lo' hi' : Nat) (ls : List (List UInt8)) (w : World) (ht0 : 0 ≤ tag) (ht1 : tag < 256) (hv : Bss w lo hi lo' hi' v ls) (hn : ls.length ≤ 1099511627776) (hl : total ls ≤ 1099511627776) :
    Calls Try.prog 76 #[.int .u8 tag, v] w fun e w' => ∃ v', e = .returned v' ∧ Kept None w w' ∧ Ob w' w.heap.size v' (textB tag ls) := by
  obtain ⟨a, cap, rfl, g1, g2, g3⟩ := hv.shape
  have b0 : Ob (w.alloc (.cells #[.int .u8 tag] 5)) w.heap.size (.slice (some ⟨w.heap.size, 0, none⟩) 1 1) (textB tag (ls.take 0)) := by
    have := Bo.new w 5 [Go.Pm.byteOf tag] #[.int .u8 tag] (by simp [u8v_byteOf' ht0 ht1]) 1 rfl (by decide)
    simpa [textB] using this
  have k0 : Kept None w (w.alloc (.cells #[.int .u8 tag] 5)) := (Kept.refl _ _).alloc _
  go_enter Try.func76, Try.ntmps76
  go_wp2
  go_loopw [5, 6] (fun t i wr => ∃ k : Nat, k ≤ ls.length ∧ i = .int .i64 k ∧ (∃ a n c, t = .slice a n c) ∧ Ob wr w.heap.size t (textB tag (ls.take k)) ∧ Kept None w wr) (fun _ i _ => ls.length - (intOf i).toNat)
  case atStart => exact ⟨0, Nat.zero_le _, rfl, ⟨_, _, _, rfl⟩, b0, k0⟩
  case round =>
    clear b0 k0
    obtain ⟨k, hk, rfl, ⟨a3, n3, c3, rfl⟩, hb, hkk⟩ := hrel
    have hsz := hkk.size
    by_cases hlt : k < ls.length
    · have hvr := hv.kept hkk (fun _ _ _ h => h) (fun _ _ _ h => h)
      obtain ⟨b, o, rfl, q1, q2, q3, hc⟩ := Bss.at hvr (by omega)
      obtain ⟨a', c', hc', hb'⟩ := hc k hlt
      have hlen := at_total ls k hlt
      have HP := hid (textB_take tag ls k hlt)
      have htl : (textB tag (ls.take k)).length ≤ 1 + 8 * ls.length + total ls := by
        rw [textB_length, List.length_take]
        have := total_take_le ls k
        omega
      clear hc hvr hv g3
      generalize ls[k] = x at *
      go_wp2_with fail
      refine (lump _ _ _ _ _ hb' (by omega)).mono ?_
      rintro e1 w4 ⟨v4, rfl, k4, b4⟩
      have hyl : (leB x.length ++ x).length = x.length + 8 := by simp [leB_length]; omega
      have HP' := HP.out
      generalize leB x.length ++ x = y at *
      have HP2 := hid HP'
      clear HP HP'
      have hb4 := hb.kept k4 (fun _ _ h => h)
      have hk5 := hkk.then k4 (fun _ _ h => h)
      have hs4 := k4.size
      have hb4' := b4.bs (Nat.le_refl _)
      obtain ⟨a4, c4, rfl⟩ := b4.form
      have HY := hid hyl
      clear hyl hb hkk k4 b4 hb'
      go_wp2_with (at_builtin; refine wpList_append_bo rfl _ _ 32 rfl rtBytes rfl rfl hb4 hb4' ?m1 ?m2 ?m3)
      case m1 => have := HY.out; omega
      case m2 => omega
      case m3 =>
        intro a5 n5 c5 w5 hb5 hk6
        have hk7 : Kept None w w5 := hk5.own hk6 (fun i h => by have := (hb4.own i h).1; omega)
        rw [← HP2.out] at hb5
        clear hb4 hb4' hk5 hk6 HP2
        go_wp2
        go_roundw
        case rel => exact ⟨k + 1, by omega, by go_num, ⟨_, _, _, rfl⟩, hb5, hk7⟩
        case measure => simp [intOf]; omega
    · have hb6 : Ob wr w.heap.size (.slice a3 n3 c3) (textB tag ls) := by rw [List.take_of_length_le (by omega)] at hb; exact hb
      clear hb hv g3
      go_wp2
      go_ret
      exact ⟨_, rfl, hkk, hb6⟩

set_option maxRecDepth 100000 in
set_option maxHeartbeats 400000 in
/-- postmarkref1.Tag. -/
theorem tag (tg : Int) (v : Value) (lo hi lo' hi' : Nat) (ls : List (List UInt8)) (w : World) (ht0 : 0 ≤ tg) (ht1 : tg < 256) (hv : Bss w lo hi lo' hi' v ls) (hn : ls.length ≤ 1099511627776) (hl : total ls ≤ 1099511627776) :
    Calls Try.prog 56 #[.int .u8 tg, v] w fun e w' => e = .returned (hashV (sumB (textB tg ls))) ∧ Kept None w w' := by
  have hs := fun v lo hi w h => sum v lo hi (textB tg ls) w h (by rw [textB_length]; omega)
  have e32 := sumB_len (textB tg ls)
  obtain ⟨res, hres⟩ : ∃ res, res = sumB (textB tg ls) := ⟨_, rfl⟩
  rw [← hres] at hs e32 ⊢
  have HS := hid hs
  have H32 := hid e32
  clear hs e32 hres
  obtain ⟨a, cap, rfl, g1, g2, g3⟩ := hv.shape
  clear g3
  go_enter Try.func56, Try.ntmps56
  go_wp2_with fail
  have hv1 := hv.kept ((Kept.refl None w).alloc (.cells (Array.replicate 32 (.int .u8 0)) 83)) (fun _ _ _ h => h) (fun _ _ _ h => h)
  refine (text tg _ lo hi lo' hi' ls _ ht0 ht1 hv1 hn hl).mono ?_
  rintro e1 w1 ⟨v1, rfl, k1, b1⟩
  obtain ⟨z, hz, hR⟩ : ∃ z : Array Value, z.size = 32 ∧ Blk w1 w.heap.size z 83 := ⟨Array.replicate 32 (.int .u8 0), by simp, (Blk.new w _ _).kept k1 (fun h => h)⟩
  have k2 : Kept None w w1 := ((Kept.refl _ _).alloc _).trans k1
  clear hv hv1 k1
  go_wp2_with fail
  refine (HS.out _ _ _ _ (b1.bs (Nat.le_refl _))).mono ?_
  rintro e2 w2 ⟨rfl, k3⟩
  have hR2 := hR.kept k3 (fun h => h)
  have k4 := k2.then k3 (fun _ _ h => h)
  have e32 : (res.map u8v).toArray.size = 32 := by simpa using H32.out
  have aH' : AggTy Try.prog 83 (res.map u8v).toArray.size := by rw [e32]; exact Sp.aH
  have E := hid (hz.trans e32.symm)
  clear hR k3 k2 b1 e32 hz
  go_wp2_with (first | (refine wpList_store_blk rfl _ _ _ rfl rfl rfl hR2 aH' E.out (u8v_all _) ?_; intro w6 hR6 k6) | fail)
  exact bodyPost_ret (v := hashV res) (results_blk rfl _ rfl hR6 aH') rfl ⟨rfl, k4.then k6 (fun i hi (h : i = w.heap.size) => by omega)⟩
end Ref
end Go.Proofs.Ytbckjkfdkgomiaa
