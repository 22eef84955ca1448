/-
  No cell of these rows narrows 'for every input' (looked for: loops, veiled, ifaces, maps, wideKeys, modest, calm, conditions, laid).
  DERIVED. THE GIVEN ROWS OF THIS SEAT. 6 by the template 'for every input the law returns true; each argument reads behind the call as it read before'; 0 by the template 'total and deterministic' (their statements: YtkohnleeiajiiaaTotals.lean).
  GIVEN WITH THE SEED: the statements are not yours to turn. If you find one false, say at which input.
  Laid BY PROGRAM, IN A SANDBOX (cutbox-rows.mjs): the forced cells as the released guide's own fill.sh prints them over the translation 1d4449e474ccf7d0… (all of the seat's roots in one cut). By AI agents, Wed Nov 11 2026. No macro, syntax, notation, axiom, sorry.
-/
import Derived.Test.YtkohnleeiajiiaaChecked
import GoSem.Claim
import GoSem.ClaimJoined
import GoSem.ClaimMapViews
import Derived.JoinedTies
import Derived.KernelRfl
namespace Go.Proofs.Ytkohnleeiajiiaa
/- THE CELL 'sum', in the pinned program and in every row, IS THE sha256 OF THE DUMP (.gsa) THAT YtkohnleeiajiiaaProg.lean LOADS. Nothing in Lean hashes anything: it is a label: what it is worth is what the hold of that sum in a sandbox is worth. -/
noncomputable def Try.pinned : Pinned := { name := "ytkohnleeiajiiaa", sum := "1d4449e474ccf7d06a8968bcbbe2b6169f43ed567f59e3e0b58cc3c08b4bc959", checked := Try.checked }
namespace Rows
def none {H : Type} : Left H := { results := [], args := [] }

/-- 'girderlaw05.BpduCodes': WHATEVER THE INPUT: true; the input reads as it did. -/
def bpduCodesSpec : ChangeSpec := { name := "bpduCodes", fn := fun _ => fun
  | [d1, d2, d3] => { results := [.lit (.bool true)], args := [d1, d2, d3] }
  | _ => none }
def bpduCodesRow : OpenClaim := { program := "ytkohnleeiajiiaa", sum := "1d4449e474ccf7d06a8968bcbbe2b6169f43ed567f59e3e0b58cc3c08b4bc959", func := "girder/girderlaw05.BpduCodes", spec := "bpduCodes", apart := false }
def BpduCodesSaid : Prop := bpduCodesRow.holds Try.pinned (OpenSpec.ofChange bpduCodesSpec)

/-- ITS FALSE NEIGHBOUR: 'it returns false'. Refute it at one input. -/
def bpduCodesWrong : ChangeSpec := { name := "bpduCodes", fn := fun _ => fun
  | [d1, d2, d3] => { results := [.lit (.bool false)], args := [d1, d2, d3] }
  | _ => none }
def BpduCodesWrongFalsely : Prop := bpduCodesRow.holds Try.pinned (OpenSpec.ofChange bpduCodesWrong)

/-- 'girderlaw05.BpduReads': WHATEVER THE INPUT: true; the input reads as it did. -/
def bpduReadsSpec : ChangeSpec := { name := "bpduReads", fn := fun _ => fun
  | [d] => { results := [.lit (.bool true)], args := [d] }
  | _ => none }
def bpduReadsRow : OpenClaim := { program := "ytkohnleeiajiiaa", sum := "1d4449e474ccf7d06a8968bcbbe2b6169f43ed567f59e3e0b58cc3c08b4bc959", func := "girder/girderlaw05.BpduReads", spec := "bpduReads", apart := false }
def BpduReadsSaid : Prop := bpduReadsRow.holds Try.pinned (OpenSpec.ofChange bpduReadsSpec)

/-- ITS FALSE NEIGHBOUR: 'it returns false'. Refute it at one input. -/
def bpduReadsWrong : ChangeSpec := { name := "bpduReads", fn := fun _ => fun
  | [d] => { results := [.lit (.bool false)], args := [d] }
  | _ => none }
def BpduReadsWrongFalsely : Prop := bpduReadsRow.holds Try.pinned (OpenSpec.ofChange bpduReadsWrong)

/-- 'girderlaw05.BpduOpens': WHATEVER THE INPUT: true; the input reads as it did. -/
def bpduOpensSpec : ChangeSpec := { name := "bpduOpens", fn := fun _ => fun
  | [d] => { results := [.lit (.bool true)], args := [d] }
  | _ => none }
def bpduOpensRow : OpenClaim := { program := "ytkohnleeiajiiaa", sum := "1d4449e474ccf7d06a8968bcbbe2b6169f43ed567f59e3e0b58cc3c08b4bc959", func := "girder/girderlaw05.BpduOpens", spec := "bpduOpens", apart := false }
def BpduOpensSaid : Prop := bpduOpensRow.holds Try.pinned (OpenSpec.ofChange bpduOpensSpec)

/-- ITS FALSE NEIGHBOUR: 'it returns false'. Refute it at one input. -/
def bpduOpensWrong : ChangeSpec := { name := "bpduOpens", fn := fun _ => fun
  | [d] => { results := [.lit (.bool false)], args := [d] }
  | _ => none }
def BpduOpensWrongFalsely : Prop := bpduOpensRow.holds Try.pinned (OpenSpec.ofChange bpduOpensWrong)

/-- 'girderlaw06.VectorBetter': WHATEVER THE INPUT: true; the input reads as it did. -/
def vectorBetterSpec : ChangeSpec := { name := "vectorBetter", fn := fun _ => fun
  | [d1, d2, d3] => { results := [.lit (.bool true)], args := [d1, d2, d3] }
  | _ => none }
def vectorBetterRow : OpenClaim := { program := "ytkohnleeiajiiaa", sum := "1d4449e474ccf7d06a8968bcbbe2b6169f43ed567f59e3e0b58cc3c08b4bc959", func := "girder/girderlaw06.VectorBetter", spec := "vectorBetter", apart := false }
def VectorBetterSaid : Prop := vectorBetterRow.holds Try.pinned (OpenSpec.ofChange vectorBetterSpec)

/-- ITS FALSE NEIGHBOUR: 'it returns false'. Refute it at one input. -/
def vectorBetterWrong : ChangeSpec := { name := "vectorBetter", fn := fun _ => fun
  | [d1, d2, d3] => { results := [.lit (.bool false)], args := [d1, d2, d3] }
  | _ => none }
def VectorBetterWrongFalsely : Prop := vectorBetterRow.holds Try.pinned (OpenSpec.ofChange vectorBetterWrong)

/-- 'girderlaw06.VectorBest': WHATEVER THE INPUT: true; the input reads as it did. -/
def vectorBestSpec : ChangeSpec := { name := "vectorBest", fn := fun _ => fun
  | [d] => { results := [.lit (.bool true)], args := [d] }
  | _ => none }
def vectorBestRow : OpenClaim := { program := "ytkohnleeiajiiaa", sum := "1d4449e474ccf7d06a8968bcbbe2b6169f43ed567f59e3e0b58cc3c08b4bc959", func := "girder/girderlaw06.VectorBest", spec := "vectorBest", apart := false }
def VectorBestSaid : Prop := vectorBestRow.holds Try.pinned (OpenSpec.ofChange vectorBestSpec)

/-- ITS FALSE NEIGHBOUR: 'it returns false'. Refute it at one input. -/
def vectorBestWrong : ChangeSpec := { name := "vectorBest", fn := fun _ => fun
  | [d] => { results := [.lit (.bool false)], args := [d] }
  | _ => none }
def VectorBestWrongFalsely : Prop := vectorBestRow.holds Try.pinned (OpenSpec.ofChange vectorBestWrong)

/-- 'girderlaw06.VectorLine': WHATEVER THE INPUT: true; the input reads as it did. -/
def vectorLineSpec : ChangeSpec := { name := "vectorLine", fn := fun _ => fun
  | [d1, d2, d3] => { results := [.lit (.bool true)], args := [d1, d2, d3] }
  | _ => none }
def vectorLineRow : OpenClaim := { program := "ytkohnleeiajiiaa", sum := "1d4449e474ccf7d06a8968bcbbe2b6169f43ed567f59e3e0b58cc3c08b4bc959", func := "girder/girderlaw06.VectorLine", spec := "vectorLine", apart := false }
def VectorLineSaid : Prop := vectorLineRow.holds Try.pinned (OpenSpec.ofChange vectorLineSpec)

/-- ITS FALSE NEIGHBOUR: 'it returns false'. Refute it at one input. -/
def vectorLineWrong : ChangeSpec := { name := "vectorLine", fn := fun _ => fun
  | [d1, d2, d3] => { results := [.lit (.bool false)], args := [d1, d2, d3] }
  | _ => none }
def VectorLineWrongFalsely : Prop := vectorLineRow.holds Try.pinned (OpenSpec.ofChange vectorLineWrong)

/- THE SECOND FORM. 'bulk': how many values and letters a reading holds, each counted each time it is reached (what is shared counts as often as it is met; a slice's spare places count too). A statement '..UptoSaid' is the law's where the arguments, and the package variables that the reading takes, are together of bulk at most 1048576: NARROWER than '..Said'. Prove '..Said' where nothing that the law and all that it calls make is longer than what came in: it says more and counts as full. Else prove '..UptoSaid'. A law counts once. -/
mutual
def uptoBulk {H : Type} : DataW H → Nat
  | .lit (.string bytes) => bytes.length + 1
  | .lit _ => 1
  | .nil => 1
  | .ptr d => uptoBulk d + 1
  | .slice elems spare => uptoBulkAll elems + uptoBulkAll spare + 1
  | .agg parts => uptoBulkAll parts + 1
  | .iface _ d => uptoBulk d + 1
  | .map entries => uptoBulkEntries entries + 1
  | .held _ => 1
def uptoBulkAll {H : Type} : List (DataW H) → Nat
  | [] => 0
  | d :: r => uptoBulk d + uptoBulkAll r
def uptoBulkEntries {H : Type} : List (Lit × DataW H) → Nat
  | [] => 0
  | x :: r => uptoBulkEntry x + uptoBulkEntries r
def uptoBulkEntry {H : Type} : Lit × DataW H → Nat
  | (.string bytes, d) => bytes.length + uptoBulk d + 1
  | (_, d) => uptoBulk d + 1
 end
def uptoSmall : (H : Type) → List (DataW H) → Bool := fun _ ds => decide (uptoBulkAll ds ≤ 1048576)
def OpenSpec.upto (s : _root_.Go.ChangeSpec) : _root_.Go.OpenSpec := { _root_.Go.OpenSpec.ofChange s with cond := some uptoSmall }

/-- 'girderlaw05.BpduCodes', WHERE WHAT IT READS IS OF BULK AT MOST 1048576: true; the input reads as it did. -/
def bpduCodesUptoRow : OpenClaim := { program := "ytkohnleeiajiiaa", sum := "1d4449e474ccf7d06a8968bcbbe2b6169f43ed567f59e3e0b58cc3c08b4bc959", func := "girder/girderlaw05.BpduCodes", spec := "bpduCodes", apart := false, narrowed := true }
def BpduCodesUptoSaid : Prop := bpduCodesUptoRow.holds Try.pinned (OpenSpec.upto bpduCodesSpec)

/-- 'girderlaw05.BpduReads', WHERE WHAT IT READS IS OF BULK AT MOST 1048576: true; the input reads as it did. -/
def bpduReadsUptoRow : OpenClaim := { program := "ytkohnleeiajiiaa", sum := "1d4449e474ccf7d06a8968bcbbe2b6169f43ed567f59e3e0b58cc3c08b4bc959", func := "girder/girderlaw05.BpduReads", spec := "bpduReads", apart := false, narrowed := true }
def BpduReadsUptoSaid : Prop := bpduReadsUptoRow.holds Try.pinned (OpenSpec.upto bpduReadsSpec)

/-- 'girderlaw05.BpduOpens', WHERE WHAT IT READS IS OF BULK AT MOST 1048576: true; the input reads as it did. -/
def bpduOpensUptoRow : OpenClaim := { program := "ytkohnleeiajiiaa", sum := "1d4449e474ccf7d06a8968bcbbe2b6169f43ed567f59e3e0b58cc3c08b4bc959", func := "girder/girderlaw05.BpduOpens", spec := "bpduOpens", apart := false, narrowed := true }
def BpduOpensUptoSaid : Prop := bpduOpensUptoRow.holds Try.pinned (OpenSpec.upto bpduOpensSpec)

/-- 'girderlaw06.VectorBetter', WHERE WHAT IT READS IS OF BULK AT MOST 1048576: true; the input reads as it did. -/
def vectorBetterUptoRow : OpenClaim := { program := "ytkohnleeiajiiaa", sum := "1d4449e474ccf7d06a8968bcbbe2b6169f43ed567f59e3e0b58cc3c08b4bc959", func := "girder/girderlaw06.VectorBetter", spec := "vectorBetter", apart := false, narrowed := true }
def VectorBetterUptoSaid : Prop := vectorBetterUptoRow.holds Try.pinned (OpenSpec.upto vectorBetterSpec)

/-- 'girderlaw06.VectorBest', WHERE WHAT IT READS IS OF BULK AT MOST 1048576: true; the input reads as it did. -/
def vectorBestUptoRow : OpenClaim := { program := "ytkohnleeiajiiaa", sum := "1d4449e474ccf7d06a8968bcbbe2b6169f43ed567f59e3e0b58cc3c08b4bc959", func := "girder/girderlaw06.VectorBest", spec := "vectorBest", apart := false, narrowed := true }
def VectorBestUptoSaid : Prop := vectorBestUptoRow.holds Try.pinned (OpenSpec.upto vectorBestSpec)

/-- 'girderlaw06.VectorLine', WHERE WHAT IT READS IS OF BULK AT MOST 1048576: true; the input reads as it did. -/
def vectorLineUptoRow : OpenClaim := { program := "ytkohnleeiajiiaa", sum := "1d4449e474ccf7d06a8968bcbbe2b6169f43ed567f59e3e0b58cc3c08b4bc959", func := "girder/girderlaw06.VectorLine", spec := "vectorLine", apart := false, narrowed := true }
def VectorLineUptoSaid : Prop := vectorLineUptoRow.holds Try.pinned (OpenSpec.upto vectorLineSpec)

end Rows
end Go.Proofs.Ytkohnleeiajiiaa
