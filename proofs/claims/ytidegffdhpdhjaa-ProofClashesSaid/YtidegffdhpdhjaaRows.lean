/-
  No cell of these rows narrows 'for every input' (looked for: loops, veiled, ifaces, maps, wideKeys, modest, calm, conditions, laid).
  DERIVED. THE GIVEN ROWS OF THIS SEAT. 5 by the template 'for every input the law returns true; each argument reads behind the call as it read before'; 0 by the template 'total and deterministic' (their statements: YtidegffdhpdhjaaTotals.lean).
  GIVEN WITH THE SEED: the statements are not yours to turn. If you find one false, say at which input.
  Laid BY PROGRAM, IN A SANDBOX (cutbox-rows.mjs): the forced cells as the released guide's own fill.sh prints them over the translation 2bb1746f72ebb3c1… (all of the seat's roots in one cut). By AI agents, Wed Nov 11 2026. No macro, syntax, notation, axiom, sorry.
-/
import Derived.Test.YtidegffdhpdhjaaChecked
import GoSem.Claim
import GoSem.ClaimJoined
import GoSem.ClaimMapViews
import Derived.JoinedTies
import Derived.KernelRfl
namespace Go.Proofs.Ytidegffdhpdhjaa
/- THE CELL 'sum', in the pinned program and in every row, IS THE sha256 OF THE DUMP (.gsa) THAT YtidegffdhpdhjaaProg.lean LOADS. Nothing in Lean hashes anything: it is a label: what it is worth is what the hold of that sum in a sandbox is worth. -/
noncomputable def Try.pinned : Pinned := { name := "ytidegffdhpdhjaa", sum := "2bb1746f72ebb3c19e47a5e4f16774e2e3e9b41ca7b31b778bb19ad0f12324f1", checked := Try.checked }
namespace Rows
def none {H : Type} : Left H := { results := [], args := [] }

/-- 'postmarklaw10.HeadTells': WHATEVER THE INPUT: true; the input reads as it did. -/
def headTellsSpec : ChangeSpec := { name := "headTells", fn := fun _ => fun
  | [d1, d2, d3, d4, d5, d6, d7, d8] => { results := [.lit (.bool true)], args := [d1, d2, d3, d4, d5, d6, d7, d8] }
  | _ => none }
def headTellsRow : OpenClaim := { program := "ytidegffdhpdhjaa", sum := "2bb1746f72ebb3c19e47a5e4f16774e2e3e9b41ca7b31b778bb19ad0f12324f1", func := "postmark/postmarklaw10.HeadTells", spec := "headTells", recurses := true, named := ["math/bits.divideError", "math/bits.overflowError"], apart := false }
def HeadTellsSaid : Prop := headTellsRow.holds Try.pinned (OpenSpec.ofChange headTellsSpec)

/-- ITS FALSE NEIGHBOUR: 'it returns false'. Refute it at one input. -/
def headTellsWrong : ChangeSpec := { name := "headTells", fn := fun _ => fun
  | [d1, d2, d3, d4, d5, d6, d7, d8] => { results := [.lit (.bool false)], args := [d1, d2, d3, d4, d5, d6, d7, d8] }
  | _ => none }
def HeadTellsWrongFalsely : Prop := headTellsRow.holds Try.pinned (OpenSpec.ofChange headTellsWrong)

/-- 'postmarklaw10.HeadReads': WHATEVER THE INPUT: true; the input reads as it did. -/
def headReadsSpec : ChangeSpec := { name := "headReads", fn := fun _ => fun
  | [d1, d2, d3, d4, d5, d6] => { results := [.lit (.bool true)], args := [d1, d2, d3, d4, d5, d6] }
  | _ => none }
def headReadsRow : OpenClaim := { program := "ytidegffdhpdhjaa", sum := "2bb1746f72ebb3c19e47a5e4f16774e2e3e9b41ca7b31b778bb19ad0f12324f1", func := "postmark/postmarklaw10.HeadReads", spec := "headReads", named := ["math/bits.divideError", "math/bits.overflowError"], apart := false }
def HeadReadsSaid : Prop := headReadsRow.holds Try.pinned (OpenSpec.ofChange headReadsSpec)

/-- ITS FALSE NEIGHBOUR: 'it returns false'. Refute it at one input. -/
def headReadsWrong : ChangeSpec := { name := "headReads", fn := fun _ => fun
  | [d1, d2, d3, d4, d5, d6] => { results := [.lit (.bool false)], args := [d1, d2, d3, d4, d5, d6] }
  | _ => none }
def HeadReadsWrongFalsely : Prop := headReadsRow.holds Try.pinned (OpenSpec.ofChange headReadsWrong)

/-- 'postmarklaw10.HeadOwn': WHATEVER THE INPUT: true; the input reads as it did. -/
def headOwnSpec : ChangeSpec := { name := "headOwn", fn := fun _ => fun
  | [d1, d2, d3, d4, d5, d6, d7] => { results := [.lit (.bool true)], args := [d1, d2, d3, d4, d5, d6, d7] }
  | _ => none }
def headOwnRow : OpenClaim := { program := "ytidegffdhpdhjaa", sum := "2bb1746f72ebb3c19e47a5e4f16774e2e3e9b41ca7b31b778bb19ad0f12324f1", func := "postmark/postmarklaw10.HeadOwn", spec := "headOwn", named := ["math/bits.divideError", "math/bits.overflowError"], apart := false }
def HeadOwnSaid : Prop := headOwnRow.holds Try.pinned (OpenSpec.ofChange headOwnSpec)

/-- ITS FALSE NEIGHBOUR: 'it returns false'. Refute it at one input. -/
def headOwnWrong : ChangeSpec := { name := "headOwn", fn := fun _ => fun
  | [d1, d2, d3, d4, d5, d6, d7] => { results := [.lit (.bool false)], args := [d1, d2, d3, d4, d5, d6, d7] }
  | _ => none }
def HeadOwnWrongFalsely : Prop := headOwnRow.holds Try.pinned (OpenSpec.ofChange headOwnWrong)

/-- 'postmarklaw7.ProofClashes': WHATEVER THE INPUT: true; the input reads as it did. -/
def proofClashesSpec : ChangeSpec := { name := "proofClashes", fn := fun _ => fun
  | [d1, d2, d3, d4, d5, d6, d7] => { results := [.lit (.bool true)], args := [d1, d2, d3, d4, d5, d6, d7] }
  | _ => none }
def proofClashesRow : OpenClaim := { program := "ytidegffdhpdhjaa", sum := "2bb1746f72ebb3c19e47a5e4f16774e2e3e9b41ca7b31b778bb19ad0f12324f1", func := "postmark/postmarklaw7.ProofClashes", spec := "proofClashes", inPlace := ["internal/bytealg.Compare"], unfollowed := true, recurses := true, apart := false }
def ProofClashesSaid : Prop := proofClashesRow.holds Try.pinned (OpenSpec.ofChange proofClashesSpec)

/-- ITS FALSE NEIGHBOUR: 'it returns false'. Refute it at one input. -/
def proofClashesWrong : ChangeSpec := { name := "proofClashes", fn := fun _ => fun
  | [d1, d2, d3, d4, d5, d6, d7] => { results := [.lit (.bool false)], args := [d1, d2, d3, d4, d5, d6, d7] }
  | _ => none }
def ProofClashesWrongFalsely : Prop := proofClashesRow.holds Try.pinned (OpenSpec.ofChange proofClashesWrong)

/-- 'postmarklaw7.ProofReads': WHATEVER THE INPUT: true; the input reads as it did. -/
def proofReadsSpec : ChangeSpec := { name := "proofReads", fn := fun _ => fun
  | [d1, d2, d3, d4, d5, d6, d7] => { results := [.lit (.bool true)], args := [d1, d2, d3, d4, d5, d6, d7] }
  | _ => none }
def proofReadsRow : OpenClaim := { program := "ytidegffdhpdhjaa", sum := "2bb1746f72ebb3c19e47a5e4f16774e2e3e9b41ca7b31b778bb19ad0f12324f1", func := "postmark/postmarklaw7.ProofReads", spec := "proofReads", inPlace := ["internal/bytealg.Compare"], unfollowed := true, recurses := true, apart := false }
def ProofReadsSaid : Prop := proofReadsRow.holds Try.pinned (OpenSpec.ofChange proofReadsSpec)

/-- ITS FALSE NEIGHBOUR: 'it returns false'. Refute it at one input. -/
def proofReadsWrong : ChangeSpec := { name := "proofReads", fn := fun _ => fun
  | [d1, d2, d3, d4, d5, d6, d7] => { results := [.lit (.bool false)], args := [d1, d2, d3, d4, d5, d6, d7] }
  | _ => none }
def ProofReadsWrongFalsely : Prop := proofReadsRow.holds Try.pinned (OpenSpec.ofChange proofReadsWrong)

/- THE SECOND FORM. 'bulk': how many values and letters a reading holds, each counted each time it is reached (what is shared counts as often as it is met; a slice's spare places count too). A statement '..UptoSaid' is the law's where the arguments, and the package variables that the reading takes, are together of bulk at most 1048576: NARROWER than '..Said'. Prove '..Said' where nothing that the law and all that it calls make is longer than what came in: it says more and counts as full. Else prove '..UptoSaid'. A law counts once. -/
mutual
def uptoBulk {H : Type} : DataW H → Nat
  | .lit (.string bytes) => bytes.length + 1
  | .lit _ => 1
  | .nil => 1
  | .ptr d => uptoBulk d + 1
  | .slice elems spare => uptoBulkAll elems + uptoBulkAll spare + 1
  | .agg parts => uptoBulkAll parts + 1
  | .iface _ d => uptoBulk d + 1
  | .map entries => uptoBulkEntries entries + 1
  | .held _ => 1
def uptoBulkAll {H : Type} : List (DataW H) → Nat
  | [] => 0
  | d :: r => uptoBulk d + uptoBulkAll r
def uptoBulkEntries {H : Type} : List (Lit × DataW H) → Nat
  | [] => 0
  | x :: r => uptoBulkEntry x + uptoBulkEntries r
def uptoBulkEntry {H : Type} : Lit × DataW H → Nat
  | (.string bytes, d) => bytes.length + uptoBulk d + 1
  | (_, d) => uptoBulk d + 1
 end
def uptoSmall : (H : Type) → List (DataW H) → Bool := fun _ ds => decide (uptoBulkAll ds ≤ 1048576)
def OpenSpec.upto (s : _root_.Go.ChangeSpec) : _root_.Go.OpenSpec := { _root_.Go.OpenSpec.ofChange s with cond := some uptoSmall }

/-- 'postmarklaw10.HeadTells', WHERE WHAT IT READS IS OF BULK AT MOST 1048576: true; the input reads as it did. -/
def headTellsUptoRow : OpenClaim := { program := "ytidegffdhpdhjaa", sum := "2bb1746f72ebb3c19e47a5e4f16774e2e3e9b41ca7b31b778bb19ad0f12324f1", func := "postmark/postmarklaw10.HeadTells", spec := "headTells", recurses := true, named := ["math/bits.divideError", "math/bits.overflowError"], apart := false, narrowed := true }
def HeadTellsUptoSaid : Prop := headTellsUptoRow.holds Try.pinned (OpenSpec.upto headTellsSpec)

/-- 'postmarklaw10.HeadReads', WHERE WHAT IT READS IS OF BULK AT MOST 1048576: true; the input reads as it did. -/
def headReadsUptoRow : OpenClaim := { program := "ytidegffdhpdhjaa", sum := "2bb1746f72ebb3c19e47a5e4f16774e2e3e9b41ca7b31b778bb19ad0f12324f1", func := "postmark/postmarklaw10.HeadReads", spec := "headReads", named := ["math/bits.divideError", "math/bits.overflowError"], apart := false, narrowed := true }
def HeadReadsUptoSaid : Prop := headReadsUptoRow.holds Try.pinned (OpenSpec.upto headReadsSpec)

/-- 'postmarklaw10.HeadOwn', WHERE WHAT IT READS IS OF BULK AT MOST 1048576: true; the input reads as it did. -/
def headOwnUptoRow : OpenClaim := { program := "ytidegffdhpdhjaa", sum := "2bb1746f72ebb3c19e47a5e4f16774e2e3e9b41ca7b31b778bb19ad0f12324f1", func := "postmark/postmarklaw10.HeadOwn", spec := "headOwn", named := ["math/bits.divideError", "math/bits.overflowError"], apart := false, narrowed := true }
def HeadOwnUptoSaid : Prop := headOwnUptoRow.holds Try.pinned (OpenSpec.upto headOwnSpec)

/-- 'postmarklaw7.ProofClashes', WHERE WHAT IT READS IS OF BULK AT MOST 1048576: true; the input reads as it did. -/
def proofClashesUptoRow : OpenClaim := { program := "ytidegffdhpdhjaa", sum := "2bb1746f72ebb3c19e47a5e4f16774e2e3e9b41ca7b31b778bb19ad0f12324f1", func := "postmark/postmarklaw7.ProofClashes", spec := "proofClashes", inPlace := ["internal/bytealg.Compare"], unfollowed := true, recurses := true, apart := false, narrowed := true }
def ProofClashesUptoSaid : Prop := proofClashesUptoRow.holds Try.pinned (OpenSpec.upto proofClashesSpec)

/-- 'postmarklaw7.ProofReads', WHERE WHAT IT READS IS OF BULK AT MOST 1048576: true; the input reads as it did. -/
def proofReadsUptoRow : OpenClaim := { program := "ytidegffdhpdhjaa", sum := "2bb1746f72ebb3c19e47a5e4f16774e2e3e9b41ca7b31b778bb19ad0f12324f1", func := "postmark/postmarklaw7.ProofReads", spec := "proofReads", inPlace := ["internal/bytealg.Compare"], unfollowed := true, recurses := true, apart := false, narrowed := true }
def ProofReadsUptoSaid : Prop := proofReadsUptoRow.holds Try.pinned (OpenSpec.upto proofReadsSpec)

end Rows
end Go.Proofs.Ytidegffdhpdhjaa
