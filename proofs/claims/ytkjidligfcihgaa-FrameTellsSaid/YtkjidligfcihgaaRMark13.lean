/- postmarkref12.mark: by contract. -/
import Derived.Test.YtkjidligfcihgaaLowRefSponge
import Derived.Test.YtkjidligfcihgaaNmA
import Derived.Test.YtkjidligfcihgaaFrame13
namespace Go.Proofs.Ytkjidligfcihgaa
open Go.RowKit Go.Pm
namespace R12
set_option maxRecDepth 100000 in
set_option maxHeartbeats 2000000 in
theorem mark (k s : Int) (v : Value) (lo hi : Nat) (b : List UInt8) (w : World) (hv : Bs w lo hi v b) (k0 : 0 ≤ k) (k1 : k < 256) (s0 : 0 ≤ s) (s1 : s < 9223372036854775808) (hl : b.length ≤ 1099511627000) :
    Calls Try.prog 16 #[.int .i64 k, .int .i64 s, v] w fun e w' => ∃ a c, e = .returned (.slice a 8 c) ∧ Kept None w w' ∧ Bs w' w.heap.size w'.heap.size (.slice a 8 c) (markF k s b) := by
  have wk : IntKind.u8.wrap k = k := by rw [IntKind.wrap_u8]; omega
  have ws : IntKind.u64.wrap s = s := by rw [IntKind.wrap_u64]; omega
  obtain ⟨av, cv, rfl, _⟩ := hv.shape
  have hn := fun W => Ref.num s W s0 (by omega)
  have ht := fun W lo hi lo' hi' u h => Ref.tag 102 u lo hi lo' hi' [[Go.Pm.byteOf k], leB s, b] W (by decide) (by decide) h (by simp) (by simp [total, leB_length]; omega)
  have HN := hid hn
  have HT := hid ht
  have HV := hid hv.all
  have HK := hid (And.intro k0 k1)
  obtain ⟨H, hH⟩ : ∃ H, H = sumB (textB 102 [[Go.Pm.byteOf k], leB s, b]) := ⟨_, rfl⟩
  have h32 : H.length = 32 := by rw [hH]; exact sumB_len _
  have hM : markF k s b = H.take 8 := by rw [hH]; rfl
  obtain ⟨HA, hHA⟩ : ∃ A : Array Value, A = (H.map u8v).toArray := ⟨_, rfl⟩
  have aH : AggTy Try.prog 53 HA.size := by rw [hHA, show (H.map u8v).toArray.size = 32 by simpa using h32]; exact Sp.aH
  have HH := hid (And.intro hH (And.intro h32 (And.intro hM hHA)))
  clear hn ht hv k0 k1 s0 s1 hl hH h32 hM hHA
  go_enter Try.func16, Try.ntmps16
  go_wp2_with fail
  refine (HN.out _).mono ?_
  rintro e w2 ⟨v2, rfl, k2, b2⟩
  obtain ⟨a2, c2, rfl⟩ := b2.form
  have kx : Kept None w w2 := ((Kept.refl None w).alloc (.cells #[.int .u8 k] 5)).trans k2
  have hk1 : Bs w2 0 w2.heap.size (.slice (some ⟨w.heap.size, 0, none⟩) 1 1) [Go.Pm.byteOf k] := by
    have h0 : Bs (w.alloc (.cells #[.int .u8 k] 5)) w.heap.size (w.heap.size + 1) (.slice (some ⟨w.heap.size, 0, none⟩) 1 1) [Go.Pm.byteOf k] :=
      Bs.newMark w #[.int .u8 k] 5 (0, 0) 1 rfl (by decide) [Go.Pm.byteOf k] (by simp [u8v_byteOf' HK.out.1 HK.out.2])
    exact (h0.kept k2 (fun _ _ _ h => h)).all
  have hbs := Bss.new w2 #[.slice (some ⟨w.heap.size, 0, none⟩) 1 1, .slice a2 (leB s).length c2, .slice av b.length cv] 22 [[Go.Pm.byteOf k], leB s, b] 3 rfl (by decide) ⟨hk1, (b2.bs (Nat.le_refl _)).all, (HV.out.kept kx (fun _ _ _ h => h)).all, trivial⟩
  have HB := hid hbs
  have k3 : Kept None w (w2.alloc (.cells #[.slice (some ⟨w.heap.size, 0, none⟩) 1 1, .slice a2 (leB s).length c2, .slice av b.length cv] 22)) := kx.alloc _
  have K3 := hid k3
  clear hbs hk1 kx k2 b2 k3
  go_wp2_with fail
  refine (HT.out _ _ _ _ _ _ HB.out).mono ?_
  rintro e w4 ⟨rfl, k4⟩
  have K4 := hid (K3.out.trans k4)
  rw [← HH.out.1]
  show _
  unfold hashV
  rw [← HH.out.2.2.2]
  have z1 : Blk (w4.alloc (.cells #[.int .u8 0, .int .u8 0, .int .u8 0, .int .u8 0, .int .u8 0, .int .u8 0, .int .u8 0, .int .u8 0, .int .u8 0, .int .u8 0, .int .u8 0, .int .u8 0, .int .u8 0, .int .u8 0, .int .u8 0, .int .u8 0, .int .u8 0, .int .u8 0, .int .u8 0, .int .u8 0, .int .u8 0, .int .u8 0, .int .u8 0, .int .u8 0, .int .u8 0, .int .u8 0, .int .u8 0, .int .u8 0, .int .u8 0, .int .u8 0, .int .u8 0, .int .u8 0] 53)) w4.heap.size #[.int .u8 0, .int .u8 0, .int .u8 0, .int .u8 0, .int .u8 0, .int .u8 0, .int .u8 0, .int .u8 0, .int .u8 0, .int .u8 0, .int .u8 0, .int .u8 0, .int .u8 0, .int .u8 0, .int .u8 0, .int .u8 0, .int .u8 0, .int .u8 0, .int .u8 0, .int .u8 0, .int .u8 0, .int .u8 0, .int .u8 0, .int .u8 0, .int .u8 0, .int .u8 0, .int .u8 0, .int .u8 0, .int .u8 0, .int .u8 0, .int .u8 0, .int .u8 0] 53 := Blk.new _ _ _
  obtain ⟨z, hz, hZ⟩ := Blk.any (n := 32) z1 (by rfl)
  have hsz : HA.size = 32 := by rw [HH.out.2.2.2]; simpa using HH.out.2.1
  have hal : HA.all (·.oneCell') = true := by rw [HH.out.2.2.2]; exact u8v_all' _
  have E := hid (And.intro (hz.trans hsz.symm) hal)
  have kz : Kept None w (w4.alloc (.cells #[.int .u8 0, .int .u8 0, .int .u8 0, .int .u8 0, .int .u8 0, .int .u8 0, .int .u8 0, .int .u8 0, .int .u8 0, .int .u8 0, .int .u8 0, .int .u8 0, .int .u8 0, .int .u8 0, .int .u8 0, .int .u8 0, .int .u8 0, .int .u8 0, .int .u8 0, .int .u8 0, .int .u8 0, .int .u8 0, .int .u8 0, .int .u8 0, .int .u8 0, .int .u8 0, .int .u8 0, .int .u8 0, .int .u8 0, .int .u8 0, .int .u8 0, .int .u8 0] 53)) := K4.out.alloc _
  have KZ := hid kz
  have h4 := K4.out.size
  have H4 := hid h4
  clear k4 z1 hz hsz hal kz h4
  go_wp2_with (first | (refine wpList_store_blk rfl _ _ _ rfl rfl rfl hZ aH E.out.1 E.out.2 ?_; intro w9 hR9 k9) | fail)
  go_ret
  refine ⟨_, _, rfl, KZ.out.then k9 (fun i hi e => by have e : i = w4.heap.size := e; have := H4.out; omega), ?_⟩
  rw [HH.out.2.2.1]
  have hlt := hR9.lt
  refine ⟨some ⟨w4.heap.size, 0, none⟩, 32, by simp [HH.out.2.1], by simp [HH.out.2.1], by decide, (fun h => by cases h), fun ad had i x hx => ?_⟩
  obtain rfl := Option.some.inj had
  have hi : i < 8 := by
    have := (List.getElem?_eq_some_iff.1 hx).1
    simp [HH.out.2.1] at this
    omega
  refine ⟨H4.out, hlt, ?_⟩
  have ea : (⟨w4.heap.size, 0, none⟩ : Addr).add i = ⟨w4.heap.size, i, none⟩ := by unfold Addr.add; split <;> simp_all
  rw [ea, hR9.cell, HH.out.2.2.2]
  rw [List.map_take, List.getElem?_take_of_lt hi] at hx
  simpa using hx
end R12
end Go.Proofs.Ytkjidligfcihgaa
