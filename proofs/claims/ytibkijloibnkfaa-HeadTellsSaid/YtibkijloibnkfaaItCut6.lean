/- Items, cut; halves of sorted ones. -/
import Derived.Test.YtibkijloibnkfaaRefRoot6
import Derived.Deep.LoopGhost
namespace Go.Pm
open Go Go.RowKit
/-! ### Bits and the order -/
theorem less_at : ∀ (q : Nat) (a b : List UInt8), (∀ k, k < q → a.getD k 0 = b.getD k 0) → q < a.length → q < b.length → b.getD q 0 < a.getD q 0 → Op.bytesLess b a = true
  | 0, x :: a, y :: b, _, _, _, h => by
    unfold Op.bytesLess
    have h' : y < x := h
    simp [h']
  | q + 1, x :: a, y :: b, he, ha, hb, h => by
    have h0 : x = y := he 0 (by omega)
    subst h0
    have ih := less_at q a b (fun k hk => by simpa using he (k + 1) (by omega)) (by simpa using ha) (by simpa using hb) (by simpa using h)
    unfold Op.bytesLess
    simp [ih]
  | _, [], _, _, ha, _, _ => by simp at ha
  | _, _ :: _, [], _, _, hb, _ => by simp at hb
theorem byte_less {a b r : Nat} (ha : a < 256) (hb : b < 256) (hr : r < 8) (he : ∀ k, k < r → a / 2 ^ (7 - k) % 2 = b / 2 ^ (7 - k) % 2) (h1 : a / 2 ^ (7 - r) % 2 = 1) (h0 : b / 2 ^ (7 - r) % 2 = 0) : b < a := by
  have p : ∀ k, k < 8 → (2 : Nat) ^ (7 - k) = [128, 64, 32, 16, 8, 4, 2, 1].getD k 0 := by decide
  have q : r = 0 ∨ r = 1 ∨ r = 2 ∨ r = 3 ∨ r = 4 ∨ r = 5 ∨ r = 6 ∨ r = 7 := by omega
  have e : ∀ k, k < r → a / [128, 64, 32, 16, 8, 4, 2, 1].getD k 0 % 2 = b / [128, 64, 32, 16, 8, 4, 2, 1].getD k 0 % 2 := fun k hk => by rw [← p k (by omega)]; exact he k hk
  rw [p r hr] at h1 h0
  clear he p
  rcases q with rfl | rfl | rfl | rfl | rfl | rfl | rfl | rfl
  · simp at h1 h0; omega
  · have e0 := e 0 (by omega); simp at h1 h0 e0; omega
  · have e0 := e 0 (by omega); have e1 := e 1 (by omega); simp at h1 h0 e0 e1; omega
  · have e0 := e 0 (by omega); have e1 := e 1 (by omega); have e2 := e 2 (by omega); simp at h1 h0 e0 e1 e2; omega
  · have e0 := e 0 (by omega); have e1 := e 1 (by omega); have e2 := e 2 (by omega); have e3 := e 3 (by omega); simp at h1 h0 e0 e1 e2 e3; omega
  · have e0 := e 0 (by omega); have e1 := e 1 (by omega); have e2 := e 2 (by omega); have e3 := e 3 (by omega); have e4 := e 4 (by omega); simp at h1 h0 e0 e1 e2 e3 e4; omega
  · have e0 := e 0 (by omega); have e1 := e 1 (by omega); have e2 := e 2 (by omega); have e3 := e 3 (by omega); have e4 := e 4 (by omega); have e5 := e 5 (by omega); simp at h1 h0 e0 e1 e2 e3 e4 e5; omega
  · have e0 := e 0 (by omega); have e1 := e 1 (by omega); have e2 := e 2 (by omega); have e3 := e 3 (by omega); have e4 := e 4 (by omega); have e5 := e 5 (by omega); have e6 := e 6 (by omega); simp at h1 h0 e0 e1 e2 e3 e4 e5 e6; omega
/-- Of two that agree on the bits ahead of a place the one with a bit there is the greater one. -/
theorem bit_less {a b : List UInt8} (ha : a.length = 32) (hb : b.length = 32) {j : Nat} (hj : j < 256) (he : ∀ k, k < j → bitI a k = bitI b k) (h1 : bitI a j = 1) (h0 : bitI b j = 0) : Op.bytesLess b a = true := by
  refine less_at (j / 8) a b (fun k hk => ?_) (by omega) (by omega) ?_
  · apply UInt8.toNat_inj.1
    refine byte_bits (UInt8.toNat_lt _) (UInt8.toNat_lt _) fun r hr => ?_
    have h := he (8 * k + r) (by omega)
    unfold bitI at h
    rwa [show (8 * k + r) / 8 = k by omega, show (8 * k + r) % 8 = r by omega] at h
  · refine byte_less (r := j % 8) (UInt8.toNat_lt _) (UInt8.toNat_lt _) (by omega) (fun r hr => ?_) h1 h0
    have h := he (8 * (j / 8) + r) (by omega)
    unfold bitI at h
    rwa [show (8 * (j / 8) + r) / 8 = j / 8 by omega, show (8 * (j / 8) + r) % 8 = r by omega] at h
theorem bits_mono {l : List It} (hs : Srt l) (hl : Len l) {j : Nat} (hj : j < 256) (ha : Agree l j) {a b : Nat} (hab : a ≤ b) (hb : b < l.length) (h : bitI (l[a]'(by omega)).i j = 1) : bitI l[b].i j = 1 := by
  by_cases e : a = b
  · subst e; exact h
  rcases bitI_two l[b].i j with h0 | h0
  · have hx : l[a]'(by omega) ∈ l := List.getElem_mem _
    have hy : l[b] ∈ l := List.getElem_mem _
    have q1 := bit_less (hl _ hx).1 (hl _ hy).1 hj (fun k hk => ha _ hx _ hy k hk) h h0
    have q2 := List.pairwise_iff_getElem.1 hs a b (by omega) hb (by omega)
    rw [less_asymm q1] at q2
    cases q2
  · exact h0
theorem half_split {l : List It} {j k : Nat} (hk : k ≤ l.length) (h0 : ∀ i (h : i < l.length), i < k → bitI l[i].i j = 0) (h1 : ∀ i (h : i < l.length), k ≤ i → bitI l[i].i j = 1) : half l j 0 = l.take k ∧ half l j 1 = l.drop k := by
  have e : l = l.take k ++ l.drop k := (List.take_append_drop k l).symm
  have a0 : ∀ x ∈ l.take k, bitI x.i j = 0 := fun x hx => by
    obtain ⟨i, hi, rfl⟩ := List.getElem_of_mem hx
    rw [List.length_take] at hi
    rw [List.getElem_take]
    exact h0 i (by omega) (by omega)
  have a1 : ∀ x ∈ l.drop k, bitI x.i j = 1 := fun x hx => by
    obtain ⟨i, hi, rfl⟩ := List.getElem_of_mem hx
    rw [List.length_drop] at hi
    rw [List.getElem_drop]
    exact h1 (k + i) (by omega) (by omega)
  constructor
  · unfold half
    conv => lhs; rw [e]
    rw [List.filter_append, List.filter_eq_self.2 (fun x hx => by simp [a0 x hx]), List.filter_eq_nil_iff.2 (fun x hx => by simp [a1 x hx]), List.append_nil]
  · unfold half
    conv => lhs; rw [e]
    rw [List.filter_append, List.filter_eq_nil_iff.2 (fun x hx => by simp [a0 x hx]), List.filter_eq_self.2 (fun x hx => by simp [a1 x hx]), List.nil_append]
/-- 's[:i]', 's[i:]' of items. -/
theorem items_to {P : Program} {t : TypeId} (ht : P.underlying t = some (.slice (P.elem t))) (hz : ∀ W, (sizeOf (P.elem t)).run P W = .ok 64 W) {w : World} {lo hi : Nat} {a : Option Addr} {n cap : Nat} {l : List It} (h : Its w lo hi (.slice a n cap) l) (k : IntKind) (i : Nat) (h1 : i ≤ n) :
    ∃ a', (∀ W, (Instr.slice t (.slice a n cap) none (some (.int k i)) none).run P W = .ok (.slice a' i cap) W) ∧ Its w lo hi (.slice a' i cap) (l.take i) := by
  have hc : n ≤ cap := by obtain ⟨a', cap', hv, hc, _⟩ := h.form; injection hv; omega
  refine ⟨if cap = 0 then a else a.map (·.add 0), fun W => ?_, ?_⟩
  · rw [run_slice_h (P := P) W t a n cap ht k i (by omega) (by omega), hz]
    simp [Go.sliced]
  · have := Its.sliced h 0 i (by omega) (by omega)
    simpa using this
theorem items_from {P : Program} {t : TypeId} (ht : P.underlying t = some (.slice (P.elem t))) (hz : ∀ W, (sizeOf (P.elem t)).run P W = .ok 64 W) {w : World} {lo hi : Nat} {a : Option Addr} {n cap : Nat} {l : List It} (h : Its w lo hi (.slice a n cap) l) (k : IntKind) (i : Nat) (h1 : i ≤ n) :
    ∃ a', (∀ W, (Instr.slice t (.slice a n cap) (some (.int k i)) none none).run P W = .ok (.slice a' (n - i) (cap - i)) W) ∧ Its w lo hi (.slice a' (n - i) (cap - i)) (l.drop i) := by
  refine ⟨if cap = i then a else a.map (·.add (i * 64)), fun W => ?_, ?_⟩
  · rw [run_slice_l (P := P) W t a n cap ht k i (by omega) (by omega), hz]
    simp [Go.sliced]
  · have hn : n = l.length := by obtain ⟨a', cap', hv, _⟩ := h.form; injection hv
    have := Its.sliced h i n (by omega) (Nat.le_refl _)
    rw [List.take_of_length_le (by omega)] at this
    exact this
end Go.Pm
namespace Go.Proofs.Ytibkijloibnkfaa
open Go.RowKit Go.Pm
namespace Tr
theorem uHash : Try.prog.underlying 23 = some (.array 32 5) := by kernel_rfl
theorem uByte : Try.prog.underlying 5 = some (.int .u8) := by kernel_rfl
theorem zByte : ∀ w, (sizeOf 5).run Try.prog w = .ok 1 w := fun _ => by kernel_rfl
theorem eqHash (xs ys : List UInt8) (hx : xs.length = 32) (hy : ys.length = 32) : ∀ w, (binOp .eql 23 (.agg (xs.map u8v).toArray) (.agg (ys.map u8v).toArray)).run Try.prog w = .ok (.bool (xs == ys)) w := run_eql_hash uByte zByte uHash xs ys hx hy
theorem elItems : Try.prog.elem 126 = 139 := by kernel_rfl
theorem tItems' : Try.prog.underlying 126 = some (.slice (Try.prog.elem 126)) := by rw [elItems]; exact Try.underlying126
theorem zItems' : ∀ W, (sizeOf (Try.prog.elem 126)).run Try.prog W = .ok 64 W := by rw [elItems]; exact Try.sizeOf139
end Tr
end Go.Proofs.Ytibkijloibnkfaa
