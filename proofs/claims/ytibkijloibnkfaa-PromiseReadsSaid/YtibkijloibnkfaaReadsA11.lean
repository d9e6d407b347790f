/- postmarklaw11.PromiseReads, what its parts share. -/
import Derived.Test.YtibkijloibnkfaaKnown11
import Derived.Test.YtibkijloibnkfaaRPmB11
import Derived.Test.YtibkijloibnkfaaSeat10
import Derived.Test.YtibkijloibnkfaaOnto10
import Derived.Deep.LoopGhost
import Derived.Deep.DeepCutAuto
namespace Go.Proofs.Ytibkijloibnkfaa
open Go.RowKit Go.Pm
namespace P11
theorem tInt : Try.prog.underlying 3 = some (.int .i64) := by kernel_rfl
/-- What both tell of some bytes: the same promise, by the same word. -/
theorem reads_both (l : List UInt8) : ∃ (pn : ByteArray) (pv : Int) (pk : Nat) (pt pd : Int) (pr ps : Nat) (E : Int),
    (∀ v lo hi w, Bs w lo hi v l → Calls Try.prog 25 #[v] w fun e w' => e = .returned (.tuple #[prV pn pv pk pt pd pr ps, .int .i64 E]) ∧ Kept None w w') ∧
    (∀ v lo hi w, Bs w lo hi v l → Calls Try.prog 26 #[v] w fun e w' => e = .returned (.tuple #[prV pn pv pk pt pd pr ps, .int .i64 E]) ∧ Kept None w w') :=
  ⟨(readPr l).n, (readPr l).v, (readPr l).k, (readPr l).t, (readPr l).d, (readPr l).r, (readPr l).s, readPrE l, fun v lo hi w h => Pp.read v lo hi l w h, fun v lo hi w h => RPp.read v lo hi l w h⟩
theorem and_16 (t : Int) : 0 ≤ bits .and .i64 t 65535 ∧ bits .and .i64 t 65535 ≤ 65535 := by
  have h : bits .and .i64 t 65535 = IntKind.i64.wrap ((BitVec.ofInt 64 t &&& BitVec.ofInt 64 65535).toNat : Int) := rfl
  have h2 : (BitVec.ofInt 64 t &&& BitVec.ofInt 64 65535).toNat ≤ 65535 := by
    rw [BitVec.toNat_and]
    exact Nat.and_le_right
  rw [h, IntKind.wrap_i64]
  omega
end P11
end Go.Proofs.Ytibkijloibnkfaa
