/- Hashes, cut. -/
import Derived.Test.YtibkijloibnkfaaLog8
import Derived.Test.YtibkijloibnkfaaHk8
namespace Go.Pm
open Go Go.RowKit
/-- 's[:i]', 's[i:]' of hashes. -/
theorem Hs.cut {w : World} {lo hi : Nat} {a : Option Addr} {n cap : Nat} {hs : List (List UInt8)} (h : Hs w lo hi (.slice a n cap) hs) (l m : Nat) (hl : l ≤ m) (hm : m ≤ n) :
    Hs w lo hi (.slice (if cap = l then a else a.map (·.add (l * 32))) (m - l) (cap - l)) ((hs.take m).drop l) := by
  refine ⟨(h.1.take m).drop l, ?_⟩
  have h2 := Ps.sliced h.2 l m hl hm
  rwa [show hsC ((hs.take m).drop l) = ((hsC hs).take m).drop l by rw [hsC, hsC, List.map_drop, List.map_take]]
theorem rh_to {P : Program} {t : TypeId} (ht : P.underlying t = some (.slice (P.elem t))) (hz : ∀ W, (sizeOf (P.elem t)).run P W = .ok 32 W) {lo : Nat} {w : World} {a : Option Addr} {n cap : Nat} {hs : List (List UInt8)} (h : Rh lo w (.slice a n cap) hs) (k : IntKind) (i : Nat) (h1 : i ≤ n) :
    ∃ a', (∀ W, (Instr.slice t (.slice a n cap) none (some (.int k i)) none).run P W = .ok (.slice a' i cap) W) ∧ Rh lo w (.slice a' i cap) (hs.take i) := by
  obtain ⟨hi, h⟩ := h
  have hc : n ≤ cap := by obtain ⟨a', cap', hv, hc, _⟩ := h.form; injection hv; omega
  refine ⟨if cap = 0 then a else a.map (·.add 0), fun W => ?_, hi, ?_⟩
  · rw [run_slice_h (P := P) W t a n cap ht k i (by omega) (by omega), hz]
    simp [Go.sliced]
  · have := Hs.cut h 0 i (by omega) (by omega)
    simpa using this
theorem rh_from {P : Program} {t : TypeId} (ht : P.underlying t = some (.slice (P.elem t))) (hz : ∀ W, (sizeOf (P.elem t)).run P W = .ok 32 W) {lo : Nat} {w : World} {a : Option Addr} {n cap : Nat} {hs : List (List UInt8)} (h : Rh lo w (.slice a n cap) hs) (k : IntKind) (i : Nat) (h1 : i ≤ n) :
    ∃ a', (∀ W, (Instr.slice t (.slice a n cap) (some (.int k i)) none none).run P W = .ok (.slice a' (n - i) (cap - i)) W) ∧ Rh lo w (.slice a' (n - i) (cap - i)) (hs.drop i) := by
  obtain ⟨hi, h⟩ := h
  refine ⟨if cap = i then a else a.map (·.add (i * 32)), fun W => ?_, hi, ?_⟩
  · rw [run_slice_l (P := P) W t a n cap ht k i (by omega) (by omega), hz]
    simp [Go.sliced]
  · have hn : n = hs.length := by obtain ⟨a', cap', hv, _⟩ := h.form; injection hv
    have := Hs.cut h i n (by omega) (Nat.le_refl _)
    rw [List.take_of_length_le (by omega)] at this
    exact this
end Go.Pm
namespace Go.Proofs.Ytibkijloibnkfaa
open Go.RowKit Go.Pm
namespace Lg8
theorem elHashes : Try.prog.elem 129 = 23 := by kernel_rfl
theorem tHashes : Try.prog.underlying 129 = some (.slice (Try.prog.elem 129)) := by rw [elHashes]; exact Try.underlying129
theorem zHashes : ∀ W, (sizeOf (Try.prog.elem 129)).run Try.prog W = .ok 32 W := by rw [elHashes]; exact Try.sizeOf23
end Lg8
end Go.Proofs.Ytibkijloibnkfaa
