/- What package frame's Put and Read are asked to satisfy, as propositions: the laws are walked over them. -/
import Derived.Test.YtkjidligfcihgaaLowBin
import Derived.Test.YtkjidligfcihgaaNmA
import Derived.Test.YtkjidligfcihgaaFrame13
namespace Go.Proofs.Ytkjidligfcihgaa
open Go.RowKit Go.Pm
namespace Fm
def PutC : Prop := ∀ (k s : Int) (v : Value) (lo hi : Nat) (b : List UInt8) (w : World), Bs w lo hi v b → -9223372036854775808 ≤ k → k < 9223372036854775808 → -9223372036854775808 ≤ s → s < 9223372036854775808 → b.length ≤ 1099511627000 →
    Calls Try.prog 8 #[.int .i64 k, .int .i64 s, v] w fun e w' => ∃ u, e = .returned (.tuple #[u, .int .i64 (putFE k s b)]) ∧ Kept None w w' ∧ Ob w' w.heap.size u (putFL k s b)
def ReadC : Prop := ∀ (v : Value) (lo hi : Nat) (b : List UInt8) (w : World), Bs w lo hi v b → b.length ≤ 1099511627000 →
    Calls Try.prog 10 #[v] w fun e w' => ∃ u, e = .returned (.tuple #[.int .i64 (readF b).kind, .int .i64 (readF b).seq, u, .int .i64 (readF b).n, .int .i64 (readF b).e]) ∧ Kept None w w' ∧ Bs w' 0 w'.heap.size u (readF b).body
theorem putFL_ok {k s : Int} {b : List UInt8} (k0 : 1 ≤ k) (k1 : k ≤ 255) (s0 : 0 ≤ s) (hb : b.length ≤ 4096) : putFE k s b = 0 ∧ putFL k s b = putF k s b := by
  have e : putFE k s b = 0 := by unfold putFE; rw [if_neg (by omega), if_neg (by omega)]
  exact ⟨e, by unfold putFL; rw [if_pos e]⟩
end Fm
end Go.Proofs.Ytkjidligfcihgaa
