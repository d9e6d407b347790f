/- TreeBits: true. -/
import Derived.Test.YtalkkiliepaikaaKnown6
namespace Go.Pm
open Go Go.RowKit
/-- What is known of a hash once its first k bits have been laid, each behind the other. -/
def laid (h : List UInt8) (k q : Nat) : Nat := (h.getD q 0).toNat / 2 ^ (8 * (q + 1) - k)
def laidB (h : List UInt8) (k : Nat) : List UInt8 := (List.range 32).map fun q => UInt8.ofNat (laid h k q)
theorem laidB_len (h : List UInt8) (k : Nat) : (laidB h k).length = 32 := by simp [laidB]
theorem laid_lt (h : List UInt8) (k q : Nat) : laid h k q < 256 := Nat.lt_of_le_of_lt (Nat.div_le_self _ _) (UInt8.toNat_lt _)
theorem laidB_at (h : List UInt8) (k q : Nat) (hq : q < 32) : ((laidB h k).map u8v)[q]? = some (.int .u8 (laid h k q : Nat)) := by
  simp [laidB, hq, u8v, Nat.mod_eq_of_lt (laid_lt h k q)]
theorem pow_le8 {e : Nat} (he : 8 ≤ e) : 256 ≤ 2 ^ e := by
  calc 256 = 2 ^ 8 := by decide
    _ ≤ 2 ^ e := Nat.pow_le_pow_right (by decide) he
theorem laidB_zero (h : List UInt8) : laidB h 0 = List.replicate 32 0 := by
  apply List.ext_getElem (by simp [laidB])
  intro q h1 h2
  simp only [laidB, List.getElem_map, List.getElem_range, List.getElem_replicate]
  have : laid h 0 q = 0 := by
    unfold laid
    rw [Nat.div_eq_of_lt]
    exact Nat.lt_of_lt_of_le (UInt8.toNat_lt _) (pow_le8 (by omega))
  rw [this]
  rfl
theorem laidB_all (h : List UInt8) (hl : h.length = 32) : laidB h 256 = h := by
  apply List.ext_getElem (by simp [laidB, hl])
  intro q h1 h2
  have hq : q < 32 := by omega
  simp only [laidB, List.getElem_map, List.getElem_range]
  have : laid h 256 q = (h[q]).toNat := by
    unfold laid
    rw [show 8 * (q + 1) - 256 = 0 by omega]
    simp [List.getD, List.getElem?_eq_getElem h2]
  rw [this]
  simp
theorem laid_step (h : List UInt8) (k : Nat) : laid h (k + 1) (k / 8) = 2 * laid h k (k / 8) + bitI h k := by
  unfold laid bitI
  generalize (h.getD (k / 8) 0).toNat = a
  have e1 : 8 * (k / 8 + 1) - (k + 1) = 7 - k % 8 := by omega
  have e2 : 8 * (k / 8 + 1) - k = (7 - k % 8) + 1 := by omega
  rw [e1, e2, Nat.pow_succ, ← Nat.div_div_eq_div_mul]
  omega
theorem laid_other (h : List UInt8) (k q : Nat) (hq : q ≠ k / 8) : laid h (k + 1) q = laid h k q := by
  unfold laid
  have hlt := UInt8.toNat_lt (h.getD q 0)
  generalize (h.getD q 0).toNat = a at hlt ⊢
  by_cases h1 : 8 * (q + 1) ≤ k
  · rw [show 8 * (q + 1) - (k + 1) = 0 by omega, show 8 * (q + 1) - k = 0 by omega]
  · rw [Nat.div_eq_of_lt, Nat.div_eq_of_lt]
    · exact Nat.lt_of_lt_of_le hlt (pow_le8 (by omega))
    · exact Nat.lt_of_lt_of_le hlt (pow_le8 (by omega))
theorem laidB_next (h : List UInt8) (k : Nat) (_hk : k < 256) : (laidB h (k + 1)).map u8v = ((laidB h k).map u8v).set (k / 8) (.int .u8 (2 * laid h k (k / 8) + bitI h k : Nat)) := by
  apply List.ext_getElem?
  intro q
  by_cases hq : q < 32
  · rw [laidB_at h (k + 1) q hq]
    by_cases e : q = k / 8
    · subst e
      rw [List.getElem?_set_self (by simpa [laidB] using hq), laid_step]
    · rw [List.getElem?_set_ne (fun h => e h.symm), laidB_at h k q hq, laid_other h k q e]
  · rw [List.getElem?_eq_none (by simp [laidB]; omega), List.getElem?_eq_none (by simp [laidB]; omega)]
theorem laid_small (h : List UInt8) (k : Nat) : laid h k (k / 8) < 128 := by
  unfold laid
  have hlt := UInt8.toNat_lt (h.getD (k / 8) 0)
  rw [show 8 * (k / 8 + 1) - k = (7 - k % 8) + 1 by omega, Nat.pow_succ]
  have h2 : 1 ≤ 2 ^ (7 - k % 8) := Nat.one_le_two_pow
  rw [Nat.div_lt_iff_lt_mul (by omega)]
  omega
theorem or_bit (x : Nat) (hx : x < 128) (b : Nat) (hb : b < 2) : bits .or .u8 ((2 * x : Nat) : Int) (b : Int) = ((2 * x + b : Nat) : Int) := by
  have h : ∀ y : Fin 128, ∀ c : Fin 2, bits .or .u8 ((2 * y.1 : Nat) : Int) (c.1 : Int) = ((2 * y.1 + c.1 : Nat) : Int) := by decide +kernel
  exact h ⟨x, hx⟩ ⟨b, hb⟩
/-- A load of a known range, guarded or not. -/
theorem wpList_load_rng {P : Program} {ops : Array Oper} {rest : List Oper} {o : Oper} {a : Act} {w : World} {Q : Exit → Act → World → Prop} (hw : Region.wanted o (yielded ops a.tmps) = true) {ty : TypeId} {x : Operand} (ho : o.op = .load ty x)
    {b off : Nat} (hx : a.eval x = .pointer (some ⟨b, off, none⟩)) {cs : List Value} (hc : w.rangeAt b off cs) (hT : AggTy P ty cs.length)
    (h : wpList P ops Q rest (a.put o.dst (.agg cs.toArray)) w) : wpList P ops Q (o :: rest) a w :=
  BigFrame.wpList_want hw fun K hK => by
    unfold Oper.wp
    rw [exec_load_at ho hx hc hT]
    exact hK _ _ h
theorem Blk.range {w : World} {g : Nat} {cs : List Value} {t : TypeId} (h : Blk w g cs.toArray t) : w.rangeAt g 0 cs := fun j c hj => by rw [Nat.zero_add, h.cell]; simpa using hj
end Go.Pm
namespace Go.Proofs.Ytalkkiliepaikaa
open Go.RowKit Go.Pm

namespace Tr
set_option maxRecDepth 100000 in
set_option maxHeartbeats 4000000 in
/-- TreeBits. -/
theorem treeBits (h : List UInt8) (hl : h.length = 32) (w : World) : Calls Try.prog 6 #[hashV h] w fun e w' => e = .returned (.bool true) ∧ Kept None w w' := by
  show Calls Try.prog 6 #[.agg (h.map u8v).toArray] w fun e w' => e = .returned (.bool true) ∧ Kept None w w'
  have hb := fun j hj w => bit h hl j hj w
  have hb1 := fun w => bit_out h (-1) (.inl (by decide)) w
  have hb2 := fun w => bit_out h 256 (.inr (by decide)) w
  have e1 := eqHash h h hl hl
  simp only [beq_self_eq_true] at e1
  obtain ⟨H, hH⟩ : ∃ H : Array Value, H = (h.map u8v).toArray := ⟨_, rfl⟩
  rw [show hashV h = .agg H by rw [hH]] at hb hb1 hb2
  rw [← hH] at e1 ⊢
  have hH32 : H.size = 32 := by rw [hH]; simpa using hl
  have aH : AggTy Try.prog 24 H.size := by rw [hH32]; exact Sp.aH
  have HB := hid (And.intro hb (And.intro hb1 hb2))
  have HH := hid hH
  have HL := hid hl
  have k0 : Kept None w (w.alloc (.cells H 24)) := (Kept.refl _ _).alloc _
  have hB0 := Blk.new w H 24
  clear hb hb1 hb2 hH hH32 hl
  go_enter Try.func6, Try.ntmps6
  go_wp2_with fail
  refine (known _).mono ?_
  rintro e w1 ⟨rfl, k1⟩
  have hB1 := hB0.kept k1 (fun h => h)
  have k01 := k0.trans k1
  have hlt := hB1.lt
  have v0 := Blk.new w1 #[.int .u8 0, .int .u8 0, .int .u8 0, .int .u8 0, .int .u8 0, .int .u8 0, .int .u8 0, .int .u8 0, .int .u8 0, .int .u8 0, .int .u8 0, .int .u8 0, .int .u8 0, .int .u8 0, .int .u8 0, .int .u8 0, .int .u8 0, .int .u8 0, .int .u8 0, .int .u8 0, .int .u8 0, .int .u8 0, .int .u8 0, .int .u8 0, .int .u8 0, .int .u8 0, .int .u8 0, .int .u8 0, .int .u8 0, .int .u8 0, .int .u8 0, .int .u8 0] 24
  have k02 : Kept None w (w1.alloc (.cells #[.int .u8 0, .int .u8 0, .int .u8 0, .int .u8 0, .int .u8 0, .int .u8 0, .int .u8 0, .int .u8 0, .int .u8 0, .int .u8 0, .int .u8 0, .int .u8 0, .int .u8 0, .int .u8 0, .int .u8 0, .int .u8 0, .int .u8 0, .int .u8 0, .int .u8 0, .int .u8 0, .int .u8 0, .int .u8 0, .int .u8 0, .int .u8 0, .int .u8 0, .int .u8 0, .int .u8 0, .int .u8 0, .int .u8 0, .int .u8 0, .int .u8 0, .int .u8 0] 24)) := k01.alloc _
  have hB2 : Blk (w1.alloc (.cells #[.int .u8 0, .int .u8 0, .int .u8 0, .int .u8 0, .int .u8 0, .int .u8 0, .int .u8 0, .int .u8 0, .int .u8 0, .int .u8 0, .int .u8 0, .int .u8 0, .int .u8 0, .int .u8 0, .int .u8 0, .int .u8 0, .int .u8 0, .int .u8 0, .int .u8 0, .int .u8 0, .int .u8 0, .int .u8 0, .int .u8 0, .int .u8 0, .int .u8 0, .int .u8 0, .int .u8 0, .int .u8 0, .int .u8 0, .int .u8 0, .int .u8 0, .int .u8 0] 24)) w.heap.size H 24 := hB1.alloc _
  have hG : Blk (w1.alloc (.cells #[.int .u8 0, .int .u8 0, .int .u8 0, .int .u8 0, .int .u8 0, .int .u8 0, .int .u8 0, .int .u8 0, .int .u8 0, .int .u8 0, .int .u8 0, .int .u8 0, .int .u8 0, .int .u8 0, .int .u8 0, .int .u8 0, .int .u8 0, .int .u8 0, .int .u8 0, .int .u8 0, .int .u8 0, .int .u8 0, .int .u8 0, .int .u8 0, .int .u8 0, .int .u8 0, .int .u8 0, .int .u8 0, .int .u8 0, .int .u8 0, .int .u8 0, .int .u8 0] 24)) w1.heap.size ((laidB h 0).map u8v).toArray 24 := by rw [laidB_zero]; exact v0
  have HG := hid (And.intro k02 (And.intro hB2 hG))
  clear k0 hB0 k1 hB1 k01 v0 k02 hB2 hG
  go_wp2
  go_loopg [4, 5] 256 (fun kx s4 s5 wr => ∃ (k : Nat) (v5 : Value), s4 = .int .i64 k ∧ s5 = v5 ∧ k ≤ 256 ∧ 256 - k ≤ kx ∧ Hid (Kept None w wr ∧ Blk wr w.heap.size H 24 ∧ Blk wr w1.heap.size ((laidB h k).map u8v).toArray 24))
  case atStart => exact ⟨0, _, rfl, rfl, by omega, Nat.le_refl _, HG⟩
  case round =>
    obtain ⟨k, v5, rfl, rfl, hk, hkx, HR⟩ := hrel
    clear HG
    have hB := HR.out.2.1
    by_cases hlt2 : k < 256
    · have hz : (k : Int) < 256 := by omega
      have hq : (k : Int) / 8 = ((k / 8 : Nat) : Int) := by omega
      obtain ⟨q, hqq⟩ : ∃ q, q = k / 8 := ⟨_, rfl⟩
      rw [← hqq] at hq
      have hq32 : q < 32 := by omega
      have hq32z : (q : Int) < 32 := by omega
      have hc : wr.cell? ⟨w1.heap.size, q, none⟩ = some (.int .u8 (laid h k q : Nat)) := by rw [HR.out.2.2.cell, List.getElem?_toArray]; exact laidB_at h k q hq32
      have hf : wr.frozen? ⟨w1.heap.size, q, none⟩ = false := HR.out.2.2.free q
      have hx := laid_small h k
      have HQ := hid hqq
      rw [← hqq] at hx
      obtain ⟨x, hxx⟩ : ∃ x, x = laid h k q := ⟨_, rfl⟩
      rw [← hxx] at hc hx
      have HX := hid hxx
      obtain ⟨b, hbb⟩ : ∃ b, b = bitI h k := ⟨_, rfl⟩
      have hb2 : b = 0 ∨ b = 1 := by rw [hbb]; exact bitI_two h k
      have hor := or_bit x hx b (by omega)
      have hBit := fun w => HB.out.1 k hlt2 w
      rw [← hbb] at hBit
      have HBB := hid (And.intro hbb hBit)
      have HOR := hid hor
      clear hqq hxx hbb hBit hor
      go_wp2_with (first | (refine wpList_load_blk (.refl _) _ _ rfl rfl hB aH ?_) | fail)
      refine (HBB.out.2 _).mono ?_
      rintro e w3 ⟨rfl, k3⟩
      have c3 : w3.cell? ⟨w1.heap.size, q, none⟩ = some (.int .u8 x) := by rw [k3.cell (block_lt_of_cell hc) (fun h => h)]; exact hc
      have f3 : w3.frozen? ⟨w1.heap.size, q, none⟩ = false := by rw [k3.frozen (block_lt_of_cell hc) (fun h => h)]; exact hf
      have hw2 : IntKind.u8.wrap (2 * (x : Int)) = ((2 * x : Nat) : Int) := by rw [IntKind.wrap_u8]; omega
      have HR3 := hid (And.intro (HR.out.1.trans k3) (And.intro (hB.kept k3 (fun h => h)) (HR.out.2.2.kept k3 (fun h => h))))
      clear hc hf hB HR k3
      rcases hb2 with rfl | rfl
      · go_wp2
        go_roundg (256 - (k + 1))
        case measure => omega
        case rel =>
          refine ⟨k + 1, _, by go_num, rfl, by omega, Nat.le_refl _, ⟨HR3.out.1.setCell (p := ⟨w1.heap.size, q, none⟩) (fun hi => by have hi' : w1.heap.size < w.heap.size := hi; omega) _, HR3.out.2.1.setOther (by show w.heap.size ≠ w1.heap.size; omega) _, ?_⟩⟩
          have e1 := HOR.out
          rw [show ((2 * x : Nat) : Int) = (x : Int) * 2 by omega] at e1
          have hs := HR3.out.2.2.set q (.int .u8 (bits .or .u8 ((x : Int) * 2) ((0 : Nat) : Int)))
          rw [laidB_next h k hlt2, ← HQ.out, ← HX.out, ← HBB.out.1, ← e1]
          simpa using hs
      · go_wp2
        go_roundg (256 - (k + 1))
        case measure => omega
        case rel =>
          refine ⟨k + 1, _, by go_num, rfl, by omega, Nat.le_refl _, ⟨HR3.out.1.setCell (p := ⟨w1.heap.size, q, none⟩) (fun hi => by have hi' : w1.heap.size < w.heap.size := hi; omega) _, HR3.out.2.1.setOther (by show w.heap.size ≠ w1.heap.size; omega) _, ?_⟩⟩
          have e1 := HOR.out
          rw [show ((2 * x : Nat) : Int) = (x : Int) * 2 by omega] at e1
          have hs := HR3.out.2.2.set q (.int .u8 (bits .or .u8 ((x : Int) * 2) ((1 : Nat) : Int)))
          rw [laidB_next h k hlt2, ← HQ.out, ← HX.out, ← HBB.out.1, ← e1]
          simpa using hs
    · obtain rfl : k = 256 := by omega
      have hz : ¬ ((256 : Nat) : Int) < 256 := by omega
      have hG := HR.out.2.2
      rw [laidB_all h HL.out, ← HH.out] at hG
      have KK := hid HR.out.1
      have r1 : wr.rangeAt w.heap.size 0 H.toList := Blk.range (by simpa using hB)
      have r2 : wr.rangeAt w1.heap.size 0 H.toList := Blk.range (by simpa using hG)
      have aL : AggTy Try.prog 24 H.toList.length := by simpa using aH
      clear HR hB hG
      go_wp2_with (first | (refine wpList_load_rng (by rfl) rfl rfl r1 aL ?_) | (refine wpList_load_rng (by rfl) rfl rfl r2 aL ?_) | fail)
      refine (HB.out.2.1 _).mono ?_
      rintro e w5 ⟨rfl, k5⟩
      have r1' := rangeAt_kept r1 k5
      have k05 := hid (KK.out.trans k5)
      clear r1 r2 k5 KK
      go_wp2_with (first | (refine wpList_load_rng (by rfl) rfl rfl r1' aL ?_) | fail)
      refine (HB.out.2.2 _).mono ?_
      rintro e w6 ⟨rfl, k6⟩
      have k06 := hid (k05.out.trans k6)
      clear r1' k6 k05
      go_wp2
      go_ret
      exact ⟨rfl, k06.out⟩
end Tr
end Go.Proofs.Ytalkkiliepaikaa
