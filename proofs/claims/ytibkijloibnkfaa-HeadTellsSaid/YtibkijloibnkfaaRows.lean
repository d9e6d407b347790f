/-
  No cell of these rows narrows 'for every input' (looked for: loops, veiled, ifaces, maps, wideKeys, modest, calm, conditions, laid).
  DERIVED. THE GIVEN ROWS OF THIS SEAT. 3 by the template 'for every input the law returns true; each argument reads behind the call as it read before'; 0 by the template 'total and deterministic' (their statements: YtibkijloibnkfaaTotals.lean).
  GIVEN WITH THE SEED: the statements are not yours to turn. If you find one false, say at which input.
  Laid BY PROGRAM, IN A SANDBOX (cutbox-rows.mjs): the forced cells as the released guide's own fill.sh prints them over the translation 120bea98ed9d9664… (all of the seat's roots in one cut). By AI agents, Wed Nov 11 2026. No macro, syntax, notation, axiom, sorry.
-/
import Derived.Test.YtibkijloibnkfaaChecked
import GoSem.Claim
import GoSem.ClaimJoined
import GoSem.ClaimMapViews
import Derived.JoinedTies
import Derived.KernelRfl
namespace Go.Proofs.Ytibkijloibnkfaa
/- THE CELL 'sum', in the pinned program and in every row, IS THE sha256 OF THE DUMP (.gsa) THAT YtibkijloibnkfaaProg.lean LOADS. Nothing in Lean hashes anything: it is a label: what it is worth is what the hold of that sum in a sandbox is worth. -/
noncomputable def Try.pinned : Pinned := { name := "ytibkijloibnkfaa", sum := "120bea98ed9d9664f45aa41adea07a42bc37eae6d8669f33ea790d0e59c7554f", checked := Try.checked }
namespace Rows
def none {H : Type} : Left H := { results := [], args := [] }

/-- 'postmarklaw10.HeadTells': WHATEVER THE INPUT: true; the input reads as it did. -/
def headTellsSpec : ChangeSpec := { name := "headTells", fn := fun _ => fun
  | [d1, d2, d3, d4, d5, d6, d7, d8] => { results := [.lit (.bool true)], args := [d1, d2, d3, d4, d5, d6, d7, d8] }
  | _ => none }
def headTellsRow : OpenClaim := { program := "ytibkijloibnkfaa", sum := "120bea98ed9d9664f45aa41adea07a42bc37eae6d8669f33ea790d0e59c7554f", func := "postmark/postmarklaw10.HeadTells", spec := "headTells", recurses := true, named := ["math/bits.divideError", "math/bits.overflowError"], apart := false }
def HeadTellsSaid : Prop := headTellsRow.holds Try.pinned (OpenSpec.ofChange headTellsSpec)

/-- ITS FALSE NEIGHBOUR: 'it returns false'. Refute it at one input. -/
def headTellsWrong : ChangeSpec := { name := "headTells", fn := fun _ => fun
  | [d1, d2, d3, d4, d5, d6, d7, d8] => { results := [.lit (.bool false)], args := [d1, d2, d3, d4, d5, d6, d7, d8] }
  | _ => none }
def HeadTellsWrongFalsely : Prop := headTellsRow.holds Try.pinned (OpenSpec.ofChange headTellsWrong)

/-- 'postmarklaw11.PromiseReads': WHATEVER THE INPUT: true; the input reads as it did. -/
def promiseReadsSpec : ChangeSpec := { name := "promiseReads", fn := fun _ => fun
  | [d1, d2, d3, d4, d5, d6] => { results := [.lit (.bool true)], args := [d1, d2, d3, d4, d5, d6] }
  | _ => none }
def promiseReadsRow : OpenClaim := { program := "ytibkijloibnkfaa", sum := "120bea98ed9d9664f45aa41adea07a42bc37eae6d8669f33ea790d0e59c7554f", func := "postmark/postmarklaw11.PromiseReads", spec := "promiseReads", named := ["math/bits.divideError", "math/bits.overflowError"], apart := false }
def PromiseReadsSaid : Prop := promiseReadsRow.holds Try.pinned (OpenSpec.ofChange promiseReadsSpec)

/-- ITS FALSE NEIGHBOUR: 'it returns false'. Refute it at one input. -/
def promiseReadsWrong : ChangeSpec := { name := "promiseReads", fn := fun _ => fun
  | [d1, d2, d3, d4, d5, d6] => { results := [.lit (.bool false)], args := [d1, d2, d3, d4, d5, d6] }
  | _ => none }
def PromiseReadsWrongFalsely : Prop := promiseReadsRow.holds Try.pinned (OpenSpec.ofChange promiseReadsWrong)

/-- 'postmarklaw11.PromiseClock': WHATEVER THE INPUT: true; the input reads as it did. -/
def promiseClockSpec : ChangeSpec := { name := "promiseClock", fn := fun _ => fun
  | [d1, d2, d3] => { results := [.lit (.bool true)], args := [d1, d2, d3] }
  | _ => none }
def promiseClockRow : OpenClaim := { program := "ytibkijloibnkfaa", sum := "120bea98ed9d9664f45aa41adea07a42bc37eae6d8669f33ea790d0e59c7554f", func := "postmark/postmarklaw11.PromiseClock", spec := "promiseClock", named := ["math/bits.divideError", "math/bits.overflowError"], apart := false }
def PromiseClockSaid : Prop := promiseClockRow.holds Try.pinned (OpenSpec.ofChange promiseClockSpec)

/-- ITS FALSE NEIGHBOUR: 'it returns false'. Refute it at one input. -/
def promiseClockWrong : ChangeSpec := { name := "promiseClock", fn := fun _ => fun
  | [d1, d2, d3] => { results := [.lit (.bool false)], args := [d1, d2, d3] }
  | _ => none }
def PromiseClockWrongFalsely : Prop := promiseClockRow.holds Try.pinned (OpenSpec.ofChange promiseClockWrong)

/- THE SECOND FORM. 'bulk': how many values and letters a reading holds, each counted each time it is reached (what is shared counts as often as it is met; a slice's spare places count too). A statement '..UptoSaid' is the law's where the arguments, and the package variables that the reading takes, are together of bulk at most 1048576: NARROWER than '..Said'. Prove '..Said' where nothing that the law and all that it calls make is longer than what came in: it says more and counts as full. Else prove '..UptoSaid'. A law counts once. -/
mutual
def uptoBulk {H : Type} : DataW H → Nat
  | .lit (.string bytes) => bytes.length + 1
  | .lit _ => 1
  | .nil => 1
  | .ptr d => uptoBulk d + 1
  | .slice elems spare => uptoBulkAll elems + uptoBulkAll spare + 1
  | .agg parts => uptoBulkAll parts + 1
  | .iface _ d => uptoBulk d + 1
  | .map entries => uptoBulkEntries entries + 1
  | .held _ => 1
def uptoBulkAll {H : Type} : List (DataW H) → Nat
  | [] => 0
  | d :: r => uptoBulk d + uptoBulkAll r
def uptoBulkEntries {H : Type} : List (Lit × DataW H) → Nat
  | [] => 0
  | x :: r => uptoBulkEntry x + uptoBulkEntries r
def uptoBulkEntry {H : Type} : Lit × DataW H → Nat
  | (.string bytes, d) => bytes.length + uptoBulk d + 1
  | (_, d) => uptoBulk d + 1
 end
def uptoSmall : (H : Type) → List (DataW H) → Bool := fun _ ds => decide (uptoBulkAll ds ≤ 1048576)
def OpenSpec.upto (s : _root_.Go.ChangeSpec) : _root_.Go.OpenSpec := { _root_.Go.OpenSpec.ofChange s with cond := some uptoSmall }

/-- 'postmarklaw10.HeadTells', WHERE WHAT IT READS IS OF BULK AT MOST 1048576: true; the input reads as it did. -/
def headTellsUptoRow : OpenClaim := { program := "ytibkijloibnkfaa", sum := "120bea98ed9d9664f45aa41adea07a42bc37eae6d8669f33ea790d0e59c7554f", func := "postmark/postmarklaw10.HeadTells", spec := "headTells", recurses := true, named := ["math/bits.divideError", "math/bits.overflowError"], apart := false, narrowed := true }
def HeadTellsUptoSaid : Prop := headTellsUptoRow.holds Try.pinned (OpenSpec.upto headTellsSpec)

/-- 'postmarklaw11.PromiseReads', WHERE WHAT IT READS IS OF BULK AT MOST 1048576: true; the input reads as it did. -/
def promiseReadsUptoRow : OpenClaim := { program := "ytibkijloibnkfaa", sum := "120bea98ed9d9664f45aa41adea07a42bc37eae6d8669f33ea790d0e59c7554f", func := "postmark/postmarklaw11.PromiseReads", spec := "promiseReads", named := ["math/bits.divideError", "math/bits.overflowError"], apart := false, narrowed := true }
def PromiseReadsUptoSaid : Prop := promiseReadsUptoRow.holds Try.pinned (OpenSpec.upto promiseReadsSpec)

/-- 'postmarklaw11.PromiseClock', WHERE WHAT IT READS IS OF BULK AT MOST 1048576: true; the input reads as it did. -/
def promiseClockUptoRow : OpenClaim := { program := "ytibkijloibnkfaa", sum := "120bea98ed9d9664f45aa41adea07a42bc37eae6d8669f33ea790d0e59c7554f", func := "postmark/postmarklaw11.PromiseClock", spec := "promiseClock", named := ["math/bits.divideError", "math/bits.overflowError"], apart := false, narrowed := true }
def PromiseClockUptoSaid : Prop := promiseClockUptoRow.holds Try.pinned (OpenSpec.upto promiseClockSpec)

end Rows
end Go.Proofs.Ytibkijloibnkfaa
