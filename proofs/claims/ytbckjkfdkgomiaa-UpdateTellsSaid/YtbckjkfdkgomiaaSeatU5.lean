/- postmarkseat.Update, by contract. -/
import Derived.Test.YtbckjkfdkgomiaaSeatO5
import Derived.Test.YtbckjkfdkgomiaaSeatA5
import Derived.Test.YtbckjkfdkgomiaaSeatB5
import Derived.Test.YtbckjkfdkgomiaaSeatC5
namespace Go.Proofs.Ytbckjkfdkgomiaa
open Go.RowKit Go.Pm
namespace Seat

theorem update (n : ByteArray) (v : Int) (cl how : Nat) (w : World) (hn : n.size ≤ 32) (hv0 : 1 ≤ v) (hv1 : v ≤ 1000) :
    Calls Try.prog 8 #[.string n, .int .i64 v, .int .u8 cl, .int .u8 how] w fun e w' => e = .returned (req n v cl how).V ∧ Kept None w w' := by
  have hb : ∀ j : Nat, ((how : Int) % 8 == (j : Int)) = (how % 8 == j) := fun j => by
    rw [Bool.eq_iff_iff, beq_iff_eq, beq_iff_eq]
    omega
  have h5 : ((how : Int) % 8 == 5) = (how % 8 == 5) := hb 5
  have h6 : ((how : Int) % 8 == 6) = (how % 8 == 6) := hb 6
  have h7 : ((how : Int) % 8 == 7) = (how % 8 == 7) := hb 7
  have hc : how % 8 = 5 ∨ how % 8 = 6 ∨ how % 8 = 7 ∨ (how % 8 ≠ 5 ∧ how % 8 ≠ 6 ∧ how % 8 ≠ 7) := by omega
  unfold req
  rcases hc with h | h | h | ⟨ha, hb', hc⟩
  · rw [h] at h5 h6 h7 ⊢
    by_cases h1 : v = 1
    · subst h1; exact upd_a1 n cl how w hn h5 h6 h7
    · exact upd_a0 n v cl how w hn (by omega) hv1 h5 h6 h7
  · rw [h] at h5 h6 h7 ⊢
    by_cases h1 : v = 1
    · subst h1; exact upd_b1 n cl how w hn h5 h6 h7
    · exact upd_b0 n v cl how w hn (by omega) hv1 h5 h6 h7
  · rw [h] at h5 h6 h7 ⊢
    by_cases h1 : v = 1
    · subst h1; exact upd_c1 n cl how w hn h5 h6 h7
    · exact upd_c0 n v cl how w hn (by omega) hv1 h5 h6 h7
  · have g5 : (how % 8 == 5) = false := by simpa using ha
    have g6 : (how % 8 == 6) = false := by simpa using hb'
    have g7 : (how % 8 == 7) = false := by simpa using hc
    rw [g5] at h5 ⊢
    rw [g6] at h6 ⊢
    rw [g7] at h7 ⊢
    by_cases h1 : v = 1
    · subst h1; exact upd_o1 n cl how w hn h5 h6 h7
    · exact upd_o0 n v cl how w hn (by omega) hv1 h5 h6 h7
end Seat
end Go.Proofs.Ytbckjkfdkgomiaa
