/-
  No cell of these rows narrows 'for every input' (looked for: loops, veiled, ifaces, maps, wideKeys, modest, calm, conditions, laid).
  DERIVED. THE GIVEN ROWS OF THIS SEAT. 7 by the template 'for every input the law returns true; each argument reads behind the call as it read before'; 0 by the template 'total and deterministic' (their statements: YtkogkcaflhjlhaaTotals.lean).
  GIVEN WITH THE SEED: the statements are not yours to turn. If you find one false, say at which input.
  Laid BY PROGRAM, IN A SANDBOX (cutbox-rows.mjs): the forced cells as the released guide's own fill.sh prints them over the translation eae3a1901c93f03d… (all of the seat's roots in one cut). By AI agents, Wed Nov 11 2026. No macro, syntax, notation, axiom, sorry.
-/
import Derived.Test.YtkogkcaflhjlhaaChecked
import GoSem.Claim
import GoSem.ClaimJoined
import GoSem.ClaimMapViews
import Derived.JoinedTies
import Derived.KernelRfl
namespace Go.Proofs.Ytkogkcaflhjlhaa
/- THE CELL 'sum', in the pinned program and in every row, IS THE sha256 OF THE DUMP (.gsa) THAT YtkogkcaflhjlhaaProg.lean LOADS. Nothing in Lean hashes anything: it is a label: what it is worth is what the hold of that sum in a sandbox is worth. -/
noncomputable def Try.pinned : Pinned := { name := "ytkogkcaflhjlhaa", sum := "eae3a1901c93f03d4c08d1ca9770409fa13d79bbbc9bfbb3a23b4072552d5aab", checked := Try.checked }
namespace Rows
def none {H : Type} : Left H := { results := [], args := [] }

/-- 'postmarklaw9.GrowTells': WHATEVER THE INPUT: true; the input reads as it did. -/
def growTellsSpec : ChangeSpec := { name := "growTells", fn := fun _ => fun
  | [d1, d2, d3, d4, d5, d6, d7] => { results := [.lit (.bool true)], args := [d1, d2, d3, d4, d5, d6, d7] }
  | _ => none }
def growTellsRow : OpenClaim := { program := "ytkogkcaflhjlhaa", sum := "eae3a1901c93f03d4c08d1ca9770409fa13d79bbbc9bfbb3a23b4072552d5aab", func := "postmark/postmarklaw9.GrowTells", spec := "growTells", recurses := true, apart := false }
def GrowTellsSaid : Prop := growTellsRow.holds Try.pinned (OpenSpec.ofChange growTellsSpec)

/-- ITS FALSE NEIGHBOUR: 'it returns false'. Refute it at one input. -/
def growTellsWrong : ChangeSpec := { name := "growTells", fn := fun _ => fun
  | [d1, d2, d3, d4, d5, d6, d7] => { results := [.lit (.bool false)], args := [d1, d2, d3, d4, d5, d6, d7] }
  | _ => none }
def GrowTellsWrongFalsely : Prop := growTellsRow.holds Try.pinned (OpenSpec.ofChange growTellsWrong)

/-- 'postmarklaw9.GrowChain': WHATEVER THE INPUT: true; the input reads as it did. -/
def growChainSpec : ChangeSpec := { name := "growChain", fn := fun _ => fun
  | [d1, d2] => { results := [.lit (.bool true)], args := [d1, d2] }
  | _ => none }
def growChainRow : OpenClaim := { program := "ytkogkcaflhjlhaa", sum := "eae3a1901c93f03d4c08d1ca9770409fa13d79bbbc9bfbb3a23b4072552d5aab", func := "postmark/postmarklaw9.GrowChain", spec := "growChain", recurses := true, apart := false }
def GrowChainSaid : Prop := growChainRow.holds Try.pinned (OpenSpec.ofChange growChainSpec)

/-- ITS FALSE NEIGHBOUR: 'it returns false'. Refute it at one input. -/
def growChainWrong : ChangeSpec := { name := "growChain", fn := fun _ => fun
  | [d1, d2] => { results := [.lit (.bool false)], args := [d1, d2] }
  | _ => none }
def GrowChainWrongFalsely : Prop := growChainRow.holds Try.pinned (OpenSpec.ofChange growChainWrong)

/-- 'postmarklaw9.GrowSame': WHATEVER THE INPUT: true; the input reads as it did. -/
def growSameSpec : ChangeSpec := { name := "growSame", fn := fun _ => fun
  | [d1, d2] => { results := [.lit (.bool true)], args := [d1, d2] }
  | _ => none }
def growSameRow : OpenClaim := { program := "ytkogkcaflhjlhaa", sum := "eae3a1901c93f03d4c08d1ca9770409fa13d79bbbc9bfbb3a23b4072552d5aab", func := "postmark/postmarklaw9.GrowSame", spec := "growSame", recurses := true, apart := false }
def GrowSameSaid : Prop := growSameRow.holds Try.pinned (OpenSpec.ofChange growSameSpec)

/-- ITS FALSE NEIGHBOUR: 'it returns false'. Refute it at one input. -/
def growSameWrong : ChangeSpec := { name := "growSame", fn := fun _ => fun
  | [d1, d2] => { results := [.lit (.bool false)], args := [d1, d2] }
  | _ => none }
def GrowSameWrongFalsely : Prop := growSameRow.holds Try.pinned (OpenSpec.ofChange growSameWrong)

/-- 'postmarklaw9.GrowLong': WHATEVER THE INPUT: true; the input reads as it did. -/
def growLongSpec : ChangeSpec := { name := "growLong", fn := fun _ => fun
  | [d1, d2, d3] => { results := [.lit (.bool true)], args := [d1, d2, d3] }
  | _ => none }
def growLongRow : OpenClaim := { program := "ytkogkcaflhjlhaa", sum := "eae3a1901c93f03d4c08d1ca9770409fa13d79bbbc9bfbb3a23b4072552d5aab", func := "postmark/postmarklaw9.GrowLong", spec := "growLong", recurses := true, apart := false }
def GrowLongSaid : Prop := growLongRow.holds Try.pinned (OpenSpec.ofChange growLongSpec)

/-- ITS FALSE NEIGHBOUR: 'it returns false'. Refute it at one input. -/
def growLongWrong : ChangeSpec := { name := "growLong", fn := fun _ => fun
  | [d1, d2, d3] => { results := [.lit (.bool false)], args := [d1, d2, d3] }
  | _ => none }
def GrowLongWrongFalsely : Prop := growLongRow.holds Try.pinned (OpenSpec.ofChange growLongWrong)

/-- 'postmarklaw7.ProofTells': WHATEVER THE INPUT: true; the input reads as it did. -/
def proofTellsSpec : ChangeSpec := { name := "proofTells", fn := fun _ => fun
  | [d1, d2, d3, d4, d5, d6, d7] => { results := [.lit (.bool true)], args := [d1, d2, d3, d4, d5, d6, d7] }
  | _ => none }
def proofTellsRow : OpenClaim := { program := "ytkogkcaflhjlhaa", sum := "eae3a1901c93f03d4c08d1ca9770409fa13d79bbbc9bfbb3a23b4072552d5aab", func := "postmark/postmarklaw7.ProofTells", spec := "proofTells", inPlace := ["internal/bytealg.Compare"], unfollowed := true, recurses := true, apart := false }
def ProofTellsSaid : Prop := proofTellsRow.holds Try.pinned (OpenSpec.ofChange proofTellsSpec)

/-- ITS FALSE NEIGHBOUR: 'it returns false'. Refute it at one input. -/
def proofTellsWrong : ChangeSpec := { name := "proofTells", fn := fun _ => fun
  | [d1, d2, d3, d4, d5, d6, d7] => { results := [.lit (.bool false)], args := [d1, d2, d3, d4, d5, d6, d7] }
  | _ => none }
def ProofTellsWrongFalsely : Prop := proofTellsRow.holds Try.pinned (OpenSpec.ofChange proofTellsWrong)

/-- 'postmarklaw7.ProofClashes': WHATEVER THE INPUT: true; the input reads as it did. -/
def proofClashesSpec : ChangeSpec := { name := "proofClashes", fn := fun _ => fun
  | [d1, d2, d3, d4, d5, d6, d7] => { results := [.lit (.bool true)], args := [d1, d2, d3, d4, d5, d6, d7] }
  | _ => none }
def proofClashesRow : OpenClaim := { program := "ytkogkcaflhjlhaa", sum := "eae3a1901c93f03d4c08d1ca9770409fa13d79bbbc9bfbb3a23b4072552d5aab", func := "postmark/postmarklaw7.ProofClashes", spec := "proofClashes", inPlace := ["internal/bytealg.Compare"], unfollowed := true, recurses := true, apart := false }
def ProofClashesSaid : Prop := proofClashesRow.holds Try.pinned (OpenSpec.ofChange proofClashesSpec)

/-- ITS FALSE NEIGHBOUR: 'it returns false'. Refute it at one input. -/
def proofClashesWrong : ChangeSpec := { name := "proofClashes", fn := fun _ => fun
  | [d1, d2, d3, d4, d5, d6, d7] => { results := [.lit (.bool false)], args := [d1, d2, d3, d4, d5, d6, d7] }
  | _ => none }
def ProofClashesWrongFalsely : Prop := proofClashesRow.holds Try.pinned (OpenSpec.ofChange proofClashesWrong)

/-- 'postmarklaw7.ProofReads': WHATEVER THE INPUT: true; the input reads as it did. -/
def proofReadsSpec : ChangeSpec := { name := "proofReads", fn := fun _ => fun
  | [d1, d2, d3, d4, d5, d6, d7] => { results := [.lit (.bool true)], args := [d1, d2, d3, d4, d5, d6, d7] }
  | _ => none }
def proofReadsRow : OpenClaim := { program := "ytkogkcaflhjlhaa", sum := "eae3a1901c93f03d4c08d1ca9770409fa13d79bbbc9bfbb3a23b4072552d5aab", func := "postmark/postmarklaw7.ProofReads", spec := "proofReads", inPlace := ["internal/bytealg.Compare"], unfollowed := true, recurses := true, apart := false }
def ProofReadsSaid : Prop := proofReadsRow.holds Try.pinned (OpenSpec.ofChange proofReadsSpec)

/-- ITS FALSE NEIGHBOUR: 'it returns false'. Refute it at one input. -/
def proofReadsWrong : ChangeSpec := { name := "proofReads", fn := fun _ => fun
  | [d1, d2, d3, d4, d5, d6, d7] => { results := [.lit (.bool false)], args := [d1, d2, d3, d4, d5, d6, d7] }
  | _ => none }
def ProofReadsWrongFalsely : Prop := proofReadsRow.holds Try.pinned (OpenSpec.ofChange proofReadsWrong)

/- THE SECOND FORM. 'bulk': how many values and letters a reading holds, each counted each time it is reached (what is shared counts as often as it is met; a slice's spare places count too). A statement '..UptoSaid' is the law's where the arguments, and the package variables that the reading takes, are together of bulk at most 1048576: NARROWER than '..Said'. Prove '..Said' where nothing that the law and all that it calls make is longer than what came in: it says more and counts as full. Else prove '..UptoSaid'. A law counts once. -/
mutual
def uptoBulk {H : Type} : DataW H → Nat
  | .lit (.string bytes) => bytes.length + 1
  | .lit _ => 1
  | .nil => 1
  | .ptr d => uptoBulk d + 1
  | .slice elems spare => uptoBulkAll elems + uptoBulkAll spare + 1
  | .agg parts => uptoBulkAll parts + 1
  | .iface _ d => uptoBulk d + 1
  | .map entries => uptoBulkEntries entries + 1
  | .held _ => 1
def uptoBulkAll {H : Type} : List (DataW H) → Nat
  | [] => 0
  | d :: r => uptoBulk d + uptoBulkAll r
def uptoBulkEntries {H : Type} : List (Lit × DataW H) → Nat
  | [] => 0
  | x :: r => uptoBulkEntry x + uptoBulkEntries r
def uptoBulkEntry {H : Type} : Lit × DataW H → Nat
  | (.string bytes, d) => bytes.length + uptoBulk d + 1
  | (_, d) => uptoBulk d + 1
 end
def uptoSmall : (H : Type) → List (DataW H) → Bool := fun _ ds => decide (uptoBulkAll ds ≤ 1048576)
def OpenSpec.upto (s : _root_.Go.ChangeSpec) : _root_.Go.OpenSpec := { _root_.Go.OpenSpec.ofChange s with cond := some uptoSmall }

/-- 'postmarklaw9.GrowTells', WHERE WHAT IT READS IS OF BULK AT MOST 1048576: true; the input reads as it did. -/
def growTellsUptoRow : OpenClaim := { program := "ytkogkcaflhjlhaa", sum := "eae3a1901c93f03d4c08d1ca9770409fa13d79bbbc9bfbb3a23b4072552d5aab", func := "postmark/postmarklaw9.GrowTells", spec := "growTells", recurses := true, apart := false, narrowed := true }
def GrowTellsUptoSaid : Prop := growTellsUptoRow.holds Try.pinned (OpenSpec.upto growTellsSpec)

/-- 'postmarklaw9.GrowChain', WHERE WHAT IT READS IS OF BULK AT MOST 1048576: true; the input reads as it did. -/
def growChainUptoRow : OpenClaim := { program := "ytkogkcaflhjlhaa", sum := "eae3a1901c93f03d4c08d1ca9770409fa13d79bbbc9bfbb3a23b4072552d5aab", func := "postmark/postmarklaw9.GrowChain", spec := "growChain", recurses := true, apart := false, narrowed := true }
def GrowChainUptoSaid : Prop := growChainUptoRow.holds Try.pinned (OpenSpec.upto growChainSpec)

/-- 'postmarklaw9.GrowSame', WHERE WHAT IT READS IS OF BULK AT MOST 1048576: true; the input reads as it did. -/
def growSameUptoRow : OpenClaim := { program := "ytkogkcaflhjlhaa", sum := "eae3a1901c93f03d4c08d1ca9770409fa13d79bbbc9bfbb3a23b4072552d5aab", func := "postmark/postmarklaw9.GrowSame", spec := "growSame", recurses := true, apart := false, narrowed := true }
def GrowSameUptoSaid : Prop := growSameUptoRow.holds Try.pinned (OpenSpec.upto growSameSpec)

/-- 'postmarklaw9.GrowLong', WHERE WHAT IT READS IS OF BULK AT MOST 1048576: true; the input reads as it did. -/
def growLongUptoRow : OpenClaim := { program := "ytkogkcaflhjlhaa", sum := "eae3a1901c93f03d4c08d1ca9770409fa13d79bbbc9bfbb3a23b4072552d5aab", func := "postmark/postmarklaw9.GrowLong", spec := "growLong", recurses := true, apart := false, narrowed := true }
def GrowLongUptoSaid : Prop := growLongUptoRow.holds Try.pinned (OpenSpec.upto growLongSpec)

/-- 'postmarklaw7.ProofTells', WHERE WHAT IT READS IS OF BULK AT MOST 1048576: true; the input reads as it did. -/
def proofTellsUptoRow : OpenClaim := { program := "ytkogkcaflhjlhaa", sum := "eae3a1901c93f03d4c08d1ca9770409fa13d79bbbc9bfbb3a23b4072552d5aab", func := "postmark/postmarklaw7.ProofTells", spec := "proofTells", inPlace := ["internal/bytealg.Compare"], unfollowed := true, recurses := true, apart := false, narrowed := true }
def ProofTellsUptoSaid : Prop := proofTellsUptoRow.holds Try.pinned (OpenSpec.upto proofTellsSpec)

/-- 'postmarklaw7.ProofClashes', WHERE WHAT IT READS IS OF BULK AT MOST 1048576: true; the input reads as it did. -/
def proofClashesUptoRow : OpenClaim := { program := "ytkogkcaflhjlhaa", sum := "eae3a1901c93f03d4c08d1ca9770409fa13d79bbbc9bfbb3a23b4072552d5aab", func := "postmark/postmarklaw7.ProofClashes", spec := "proofClashes", inPlace := ["internal/bytealg.Compare"], unfollowed := true, recurses := true, apart := false, narrowed := true }
def ProofClashesUptoSaid : Prop := proofClashesUptoRow.holds Try.pinned (OpenSpec.upto proofClashesSpec)

/-- 'postmarklaw7.ProofReads', WHERE WHAT IT READS IS OF BULK AT MOST 1048576: true; the input reads as it did. -/
def proofReadsUptoRow : OpenClaim := { program := "ytkogkcaflhjlhaa", sum := "eae3a1901c93f03d4c08d1ca9770409fa13d79bbbc9bfbb3a23b4072552d5aab", func := "postmark/postmarklaw7.ProofReads", spec := "proofReads", inPlace := ["internal/bytealg.Compare"], unfollowed := true, recurses := true, apart := false, narrowed := true }
def ProofReadsUptoSaid : Prop := proofReadsUptoRow.holds Try.pinned (OpenSpec.upto proofReadsSpec)

end Rows
end Go.Proofs.Ytkogkcaflhjlhaa
