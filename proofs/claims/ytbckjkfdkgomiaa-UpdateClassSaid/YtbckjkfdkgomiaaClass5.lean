/- postmarklaw5.UpdateClass: true. -/
import Derived.Test.YtbckjkfdkgomiaaClassA5
import Derived.Test.YtbckjkfdkgomiaaClassB5
namespace Go.Proofs.Ytbckjkfdkgomiaa
open Go.RowKit Go.Pm

theorem updateClass (kk ver : Nat) (cl : Int) (w : World) : Calls Try.prog 6 #[.int .u8 kk, .int .u8 ver, .int .i64 cl] w fun e w' => e = .returned (.bool true) ∧ Kept None w w' := by
  by_cases hx : ver % 5 = 0
  · have h : (ver : Int) % 5 = 0 := by omega
    by_cases h0 : cl = 0
    · subst h0; exact class_a0 kk ver h w
    by_cases h1 : cl = 1
    · subst h1; exact class_a1 kk ver h w
    exact class_ao kk ver h cl h0 h1 w
  · have h : (ver : Int) % 5 = ((ver % 5 : Nat) : Int) := by omega
    by_cases h0 : cl = 0
    · subst h0; exact class_b0 kk (ver % 5) ver h (by omega) (by omega) w
    by_cases h1 : cl = 1
    · subst h1; exact class_b1 kk (ver % 5) ver h (by omega) (by omega) w
    exact class_bo kk (ver % 5) ver h (by omega) (by omega) cl h0 h1 w
end Go.Proofs.Ytbckjkfdkgomiaa
