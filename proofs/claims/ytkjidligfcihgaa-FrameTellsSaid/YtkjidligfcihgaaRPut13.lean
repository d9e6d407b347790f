/- postmarkref12.FramePut: by contract. -/
import Derived.Test.YtkjidligfcihgaaRMark13
namespace Go.Proofs.Ytkjidligfcihgaa
open Go.RowKit Go.Pm
namespace R12
set_option maxRecDepth 100000 in
set_option maxHeartbeats 4000000 in
theorem put (k s : Int) (v : Value) (lo hi : Nat) (b : List UInt8) (w : World) (hv : Bs w lo hi v b) (s1 : s < 9223372036854775808) (hl : b.length ≤ 1099511627000) :
    Calls Try.prog 9 #[.int .i64 k, .int .i64 s, v] w fun e w' => ∃ u, e = .returned (.tuple #[u, .int .i64 (putFE k s b)]) ∧ Kept None w w' ∧ Ob w' w.heap.size u (putFL k s b) := by
  obtain ⟨av, cv, rfl, _⟩ := hv.shape
  have bad : ∀ E : Int, putFE k s b = E → E ≠ 0 → putFL k s b = [] := fun E h1 h2 => by unfold putFL; rw [if_neg (by rw [h1]; exact h2)]
  by_cases hk1 : k < 1
  · have e : putFE k s b = 23 := by unfold putFE; rw [if_pos (.inl hk1)]
    rw [e, bad 23 e (by decide)]
    have d1 : decide (k < 1) = true := by simpa using hk1
    clear bad e hk1 hv
    go_enter Try.func9, Try.ntmps9
    go_wp2
    go_ret2
    exact ⟨_, rfl, Kept.refl _ _, Bo.nil _ _ _⟩
  · by_cases hk2 : 255 < k
    · have e : putFE k s b = 23 := by unfold putFE; rw [if_pos (.inr (.inl hk2))]
      rw [e, bad 23 e (by decide)]
      have d1 : decide (k < 1) = false := by simpa using hk1
      have d2 : decide (255 < k) = true := by simpa using hk2
      clear bad e hk1 hk2 hv
      go_enter Try.func9, Try.ntmps9
      go_wp2
      go_ret2
      exact ⟨_, rfl, Kept.refl _ _, Bo.nil _ _ _⟩
    · by_cases hs0 : s < 0
      · have e : putFE k s b = 23 := by unfold putFE; rw [if_pos (.inr (.inr hs0))]
        rw [e, bad 23 e (by decide)]
        have d1 : decide (k < 1) = false := by simpa using hk1
        have d2 : decide (255 < k) = false := by simpa using hk2
        have d3 : decide (s < 0) = true := by simpa using hs0
        clear bad e hk1 hk2 hs0 hv
        go_enter Try.func9, Try.ntmps9
        go_wp2
        go_ret2
        exact ⟨_, rfl, Kept.refl _ _, Bo.nil _ _ _⟩
      · have d1 : decide (k < 1) = false := by simpa using hk1
        have d2 : decide (255 < k) = false := by simpa using hk2
        have d3 : decide (s < 0) = false := by simpa using hs0
        have hc : ¬ (k < 1 ∨ 255 < k ∨ s < 0) := by omega
        by_cases hlen : 4096 < b.length
        · have e : putFE k s b = 22 := by unfold putFE; rw [if_neg hc, if_pos hlen]
          rw [e, bad 22 e (by decide)]
          have d4 : decide ((4096 : Int) < (b.length : Int)) = true := by simp; omega
          have d5 : decide (4096 < b.length) = true := by simpa using hlen
          clear bad e hk1 hk2 hs0 hc hlen hv
          go_enter Try.func9, Try.ntmps9
          go_wp2
          go_ret2
          exact ⟨_, rfl, Kept.refl _ _, Bo.nil _ _ _⟩
        · have e : putFE k s b = 0 := by unfold putFE; rw [if_neg hc, if_neg hlen]
          have eL : putFL k s b = putF k s b := by unfold putFL; rw [if_pos e]
          rw [e, eL]
          have d4 : decide ((4096 : Int) < (b.length : Int)) = false := by simp; omega
          have d5 : decide (4096 < b.length) = false := by simpa using hlen
          obtain ⟨n, hn⟩ : ∃ n, n = b.length := ⟨_, rfl⟩
          have HN := hid (fun W => Ref.num s W (by omega) (by omega))
          have HM := hid (fun W lo hi v (h : Bs W lo hi v b) => mark k s v lo hi b W h (by omega) (by omega) (by omega) s1 (by omega))
          have HV := hid hv.all
          have HL := hid (show b.length ≤ 4096 by omega)
          have ws : IntKind.u64.wrap s = s := by rw [IntKind.wrap_u64]; omega
          have wk : IntKind.u8.wrap k = k := by rw [IntKind.wrap_u8]; omega
          have HK := hid (show 0 ≤ k ∧ k < 256 by omega)
          clear bad e eL hc hv hlen
          go_enter Try.func9, Try.ntmps9
          go_wp2_with fail
          have hb0 : Ob (w.alloc (.cells #[.int .u8 ((b.length : Int) % 256), .int .u8 ((b.length : Int) / 256 % 256), .int .u8 ((b.length : Int) / 65536 % 256), .int .u8 ((b.length : Int) / 16777216 % 256), .int .u8 k] 5)) w.heap.size (.slice (some ⟨w.heap.size, 0, none⟩) 5 5) (le4 b.length ++ [Go.Pm.byteOf k]) :=
            Bo.new w 5 (le4 b.length ++ [Go.Pm.byteOf k]) #[.int .u8 ((b.length : Int) % 256), .int .u8 ((b.length : Int) / 256 % 256), .int .u8 ((b.length : Int) / 65536 % 256), .int .u8 ((b.length : Int) / 16777216 % 256), .int .u8 k] (by simp [le4, u8v_byteOf, u8v_byteOf' HK.out.1 HK.out.2]) 5 rfl (by decide)
          have k0 : Kept None w (w.alloc (.cells #[.int .u8 ((b.length : Int) % 256), .int .u8 ((b.length : Int) / 256 % 256), .int .u8 ((b.length : Int) / 65536 % 256), .int .u8 ((b.length : Int) / 16777216 % 256), .int .u8 k] 5)) := (Kept.refl _ _).alloc _
          refine (HN.out _).mono ?_
          rintro e w2 ⟨v2, rfl, k2, b2⟩
          obtain ⟨a2, c2, rfl⟩ := b2.form
          have hb2 := hb0.kept k2 (fun _ _ h => h)
          have hu2 : Bs w2 0 w2.heap.size (.slice a2 (leB s).length c2) (leB s) := (b2.bs (Nat.le_refl _)).all
          have kk2 := k0.trans k2
          have hl2 : (le4 b.length ++ [Go.Pm.byteOf k]).length + (leB s).length ≤ 140737488355328 := by simp [le4, leB_length]
          have hz2 := kk2.size
          clear hb0 k0 k2 b2
          go_wp2_with (first | (refine wpList_append_bo rfl _ _ 22 rfl rtBytes rfl rfl hb2 hu2 hl2 hz2 ?_; intro a3 n3 c3 w3 hb3 hk3; have kk3 := Kept.own kk2 hk3 (fun g hg => (hb2.own g hg).1); have hu3 := HV.out.kept kk3 (fun _ _ _ h => h); have hl3 : ((le4 b.length ++ [Go.Pm.byteOf k]) ++ leB s).length + b.length ≤ 140737488355328 := (by have := HL.out; simp [le4, leB_length]; omega); have hz3 := kk3.size; clear hk3 hb2 hu2 hl2 hz2 kk2) | (refine wpList_append_bo rfl _ _ 22 rfl rtBytes rfl rfl hb3 hu3 hl3 hz3 ?_; intro a4 n4 c4 w4 hb4 hk4; have kk4 := Kept.own kk3 hk4 (fun g hg => (hb3.own g hg).1); have hu4 := HV.out.kept kk4 (fun _ _ _ h => h); clear hk4 hb3 hu3 hl3 hz3 kk3) | fail)
          refine (HM.out _ _ _ _ hu4).mono ?_
          rintro e w5 ⟨a5, c5, rfl, k5, b5⟩
          have hb5 := hb4.kept k5 (fun _ _ h => h)
          have kk5 := kk4.trans k5
          have hm8 : (markF k s b).length = 8 := by simp [markF, sumB_len]
          have hl5 : (((le4 b.length ++ [Go.Pm.byteOf k]) ++ leB s) ++ b).length + (markF k s b).length ≤ 140737488355328 := by have := HL.out; rw [hm8]; simp [le4, leB_length]; omega
          have hz5 := kk5.size
          clear hb4 kk4 k5 hu4 hm8
          go_wp2_with (first | (refine wpList_append_bo rfl _ _ 22 rfl rtBytes rfl rfl hb5 b5 hl5 hz5 ?_; intro a6 n6 c6 w6 hb6 hk6; have kk6 := Kept.own kk5 hk6 (fun g hg => (hb5.own g hg).1)) | fail)
          go_ret2
          exact ⟨_, rfl, kk6, hb6⟩
end R12
end Go.Proofs.Ytkjidligfcihgaa
