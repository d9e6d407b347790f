/- An api.Entry's cells. -/
import Derived.Test.YtibkijloibnkfaaLowSigs
namespace Go.Proofs.Ytibkijloibnkfaa
open Go.RowKit Go.Pm
namespace Up
theorem aEnt : AggTy Try.prog 53 3 := Sg.AggTy.of (by kernel_rfl) (by kernel_rfl)
theorem ent_all (n : ByteArray) (v : Int) (k : Nat) : (#[.string n, .int .i64 v, .int .u64 (k : Int)] : Array Value).all (·.oneCell') = true := by simp [Value.oneCell']
end Up
end Go.Proofs.Ytibkijloibnkfaa
