/- Split, Path of packages logtree and postmarkref8 at any number. -/
import Derived.Test.YtdlnikkfpfdbbaaLogPath8
namespace Go.Pm
open Go Go.RowKit
theorem iwN (k : Nat) (h : k < 4294967296) : IntKind.i64.wrap (k : Int) = (k : Int) := by rw [IntKind.wrap_i64]; omega
theorem wwN (k : Nat) (h : k < 4294967296) : wrap64 (k : Int) = (k : Int) := by unfold wrap64; omega
theorem iwZ (k m : Nat) (h : k + 1 = m) (h2 : m < 4294967296) : IntKind.i64.wrap ((k : Int) + 1) = (m : Int) := by rw [IntKind.wrap_i64]; omega
theorem Rh.most {lo : Nat} {w : World} {v : Value} {hs : List (List UInt8)} (h : Rh lo w v hs) : Hs w lo w.heap.size v hs := by
  obtain ⟨hi, h1, h2⟩ := h
  exact ⟨h1, (Ps.lt h2).wider (Nat.le_refl _) (Nat.min_le_right _ _)⟩
def splitZ (n : Int) : Int := if n < 2 then 0 else (splitN n.toNat : Int)
def inR (l : List (List UInt8)) (i : Int) : Bool := decide (0 ≤ i ∧ i < l.length)
def pathZ (l : List (List UInt8)) (i : Int) : List (List UInt8) := if 0 ≤ i ∧ i < l.length then pathL l i.toNat else []
theorem pathZ_h32 {l : List (List UInt8)} (h : H32 l) (i : Int) : H32 (pathZ l i) := by
  unfold pathZ
  split
  · exact pathL_h32 l.length _ (Nat.le_refl _) h
  · exact H32.nil
theorem pathZ_len (l : List (List UInt8)) (i : Int) : (pathZ l i).length ≤ l.length := by
  unfold pathZ
  split
  · exact pathL_len l.length _ (Nat.le_refl _)
  · simp
end Go.Pm
namespace Go.Proofs.Ytdlnikkfpfdbbaa
open Go.RowKit Go.Pm
namespace Lg
/-- Split, of any number. -/
theorem splitAny (n : Int) (w : World) (h0 : -9223372036854775808 ≤ n) (hn : n < 9223372036854775808) : Calls Try.prog 15 #[.int .i64 n] w fun e w' => e = .returned (.int .i64 (splitZ n)) ∧ Kept None w w' := by
  unfold splitZ
  by_cases h : n < 2
  · rw [if_pos h]
    exact (split_few n w h).mono fun e w' ⟨h1, h2⟩ => ⟨h1, h2 ▸ Kept.refl _ _⟩
  · rw [if_neg h]
    have h2 := split n.toNat w (by omega) (by omega)
    rw [Int.toNat_of_nonneg (by omega)] at h2
    exact h2.mono fun e w' ⟨h1, h2⟩ => ⟨h1, h2 ▸ Kept.refl _ _⟩
/-- Path, of any place. -/
theorem pathAny (l : List (List UInt8)) (i : Int) (v : Value) (w : World) (hv : Rh 0 w v l) (hl : l.length ≤ 549755813888) : Calls Try.prog 21 #[v, .int .i64 i] w fun e w' => ∃ u, e = .returned (.tuple #[u, .bool (inR l i)]) ∧ Kept None w w' ∧ Ho 25 w' w.heap.size u (pathZ l i) := by
  unfold inR pathZ
  by_cases h : 0 ≤ i ∧ i < l.length
  · rw [if_pos h, decide_eq_true h]
    have h2 := path l i.toNat v w hv hl (by omega)
    rwa [Int.toNat_of_nonneg h.1] at h2
  · rw [if_neg h, decide_eq_false h]
    exact (path_out l i v w hv (by omega)).mono fun e w' ⟨h1, h2⟩ => ⟨_, h1, h2 ▸ Kept.refl _ _, Ho.nil _ _ _⟩
end Lg
namespace RLg
/-- Split, of any number. -/
theorem splitAny (n : Int) (w : World) (h0 : -9223372036854775808 ≤ n) (hn : n < 9223372036854775808) : Calls Try.prog 16 #[.int .i64 n] w fun e w' => e = .returned (.int .i64 (splitZ n)) ∧ Kept None w w' := by
  unfold splitZ
  by_cases h : n < 2
  · rw [if_pos h]
    exact (split_few n w h).mono fun e w' ⟨h1, h2⟩ => ⟨h1, h2 ▸ Kept.refl _ _⟩
  · rw [if_neg h]
    have h2 := split n.toNat w (by omega) (by omega)
    rw [Int.toNat_of_nonneg (by omega)] at h2
    exact h2.mono fun e w' ⟨h1, h2⟩ => ⟨h1, h2 ▸ Kept.refl _ _⟩
/-- Path, of any place. -/
theorem pathAny (l : List (List UInt8)) (i : Int) (v : Value) (w : World) (hv : Rh 0 w v l) (hl : l.length ≤ 549755813888) : Calls Try.prog 22 #[v, .int .i64 i] w fun e w' => ∃ u, e = .returned (.tuple #[u, .bool (inR l i)]) ∧ Kept None w w' ∧ Ho 25 w' w.heap.size u (pathZ l i) := by
  unfold inR pathZ
  by_cases h : 0 ≤ i ∧ i < l.length
  · rw [if_pos h, decide_eq_true h]
    have h2 := path l.length l i.toNat v w hv (Nat.le_refl _) hl (by omega)
    rwa [Int.toNat_of_nonneg h.1] at h2
  · rw [if_neg h, decide_eq_false h]
    exact (path_out l i v w hv (by omega)).mono fun e w' ⟨h1, h2⟩ => ⟨_, h1, h2 ▸ Kept.refl _ _, Ho.nil _ _ _⟩
end RLg
end Go.Proofs.Ytdlnikkfpfdbbaa
