/-
  No cell of these rows narrows 'for every input' (looked for: loops, veiled, ifaces, maps, wideKeys, modest, calm, conditions, laid).
  DERIVED. THE GIVEN ROWS OF THIS SEAT. 3 by the template 'for every input the law returns true; each argument reads behind the call as it read before'; 0 by the template 'total and deterministic' (their statements: YteeinlbhcdpnnaaTotals.lean).
  GIVEN WITH THE SEED: the statements are not yours to turn. If you find one false, say at which input.
  Laid BY PROGRAM, IN A SANDBOX (cutbox-rows.mjs): the forced cells as the released guide's own fill.sh prints them over the translation 457636482ad8f813… (all of the seat's roots in one cut). By AI agents, Wed Nov 11 2026. No macro, syntax, notation, axiom, sorry.
-/
import Derived.Test.YteeinlbhcdpnnaaChecked
import GoSem.Claim
import GoSem.ClaimJoined
import GoSem.ClaimMapViews
import Derived.JoinedTies
import Derived.KernelRfl
namespace Go.Proofs.Yteeinlbhcdpnnaa
/- THE CELL 'sum', in the pinned program and in every row, IS THE sha256 OF THE DUMP (.gsa) THAT YteeinlbhcdpnnaaProg.lean LOADS. Nothing in Lean hashes anything: it is a label: what it is worth is what the hold of that sum in a sandbox is worth. -/
noncomputable def Try.pinned : Pinned := { name := "yteeinlbhcdpnnaa", sum := "457636482ad8f81320d586a15f36babfaebd57ae902327c8ab59c5713c42e0b5", checked := Try.checked }
namespace Rows
def none {H : Type} : Left H := { results := [], args := [] }

/-- 'girderlaw17.StateAssumes': WHATEVER THE INPUT: true; the input reads as it did. -/
def stateAssumesSpec : ChangeSpec := { name := "stateAssumes", fn := fun _ => fun
  | [d] => { results := [.lit (.bool true)], args := [d] }
  | _ => none }
def stateAssumesRow : OpenClaim := { program := "yteeinlbhcdpnnaa", sum := "457636482ad8f81320d586a15f36babfaebd57ae902327c8ab59c5713c42e0b5", func := "girder/girderlaw17.StateAssumes", spec := "stateAssumes", apart := false }
def StateAssumesSaid : Prop := stateAssumesRow.holds Try.pinned (OpenSpec.ofChange stateAssumesSpec)

/-- ITS FALSE NEIGHBOUR: 'it returns false'. Refute it at one input. -/
def stateAssumesWrong : ChangeSpec := { name := "stateAssumes", fn := fun _ => fun
  | [d] => { results := [.lit (.bool false)], args := [d] }
  | _ => none }
def StateAssumesWrongFalsely : Prop := stateAssumesRow.holds Try.pinned (OpenSpec.ofChange stateAssumesWrong)

/-- 'girderlaw17.StateSteps': WHATEVER THE INPUT: true; the input reads as it did. -/
def stateStepsSpec : ChangeSpec := { name := "stateSteps", fn := fun _ => fun
  | [d1, d2] => { results := [.lit (.bool true)], args := [d1, d2] }
  | _ => none }
def stateStepsRow : OpenClaim := { program := "yteeinlbhcdpnnaa", sum := "457636482ad8f81320d586a15f36babfaebd57ae902327c8ab59c5713c42e0b5", func := "girder/girderlaw17.StateSteps", spec := "stateSteps", apart := false }
def StateStepsSaid : Prop := stateStepsRow.holds Try.pinned (OpenSpec.ofChange stateStepsSpec)

/-- ITS FALSE NEIGHBOUR: 'it returns false'. Refute it at one input. -/
def stateStepsWrong : ChangeSpec := { name := "stateSteps", fn := fun _ => fun
  | [d1, d2] => { results := [.lit (.bool false)], args := [d1, d2] }
  | _ => none }
def StateStepsWrongFalsely : Prop := stateStepsRow.holds Try.pinned (OpenSpec.ofChange stateStepsWrong)

/-- 'girderlaw17.StateWaits': WHATEVER THE INPUT: true; the input reads as it did. -/
def stateWaitsSpec : ChangeSpec := { name := "stateWaits", fn := fun _ => fun
  | [d1, d2] => { results := [.lit (.bool true)], args := [d1, d2] }
  | _ => none }
def stateWaitsRow : OpenClaim := { program := "yteeinlbhcdpnnaa", sum := "457636482ad8f81320d586a15f36babfaebd57ae902327c8ab59c5713c42e0b5", func := "girder/girderlaw17.StateWaits", spec := "stateWaits", apart := false }
def StateWaitsSaid : Prop := stateWaitsRow.holds Try.pinned (OpenSpec.ofChange stateWaitsSpec)

/-- ITS FALSE NEIGHBOUR: 'it returns false'. Refute it at one input. -/
def stateWaitsWrong : ChangeSpec := { name := "stateWaits", fn := fun _ => fun
  | [d1, d2] => { results := [.lit (.bool false)], args := [d1, d2] }
  | _ => none }
def StateWaitsWrongFalsely : Prop := stateWaitsRow.holds Try.pinned (OpenSpec.ofChange stateWaitsWrong)

/- THE SECOND FORM. 'bulk': how many values and letters a reading holds, each counted each time it is reached (what is shared counts as often as it is met; a slice's spare places count too). A statement '..UptoSaid' is the law's where the arguments, and the package variables that the reading takes, are together of bulk at most 1048576: NARROWER than '..Said'. Prove '..Said' where nothing that the law and all that it calls make is longer than what came in: it says more and counts as full. Else prove '..UptoSaid'. A law counts once. -/
mutual
def uptoBulk {H : Type} : DataW H → Nat
  | .lit (.string bytes) => bytes.length + 1
  | .lit _ => 1
  | .nil => 1
  | .ptr d => uptoBulk d + 1
  | .slice elems spare => uptoBulkAll elems + uptoBulkAll spare + 1
  | .agg parts => uptoBulkAll parts + 1
  | .iface _ d => uptoBulk d + 1
  | .map entries => uptoBulkEntries entries + 1
  | .held _ => 1
def uptoBulkAll {H : Type} : List (DataW H) → Nat
  | [] => 0
  | d :: r => uptoBulk d + uptoBulkAll r
def uptoBulkEntries {H : Type} : List (Lit × DataW H) → Nat
  | [] => 0
  | x :: r => uptoBulkEntry x + uptoBulkEntries r
def uptoBulkEntry {H : Type} : Lit × DataW H → Nat
  | (.string bytes, d) => bytes.length + uptoBulk d + 1
  | (_, d) => uptoBulk d + 1
 end
def uptoSmall : (H : Type) → List (DataW H) → Bool := fun _ ds => decide (uptoBulkAll ds ≤ 1048576)
def OpenSpec.upto (s : _root_.Go.ChangeSpec) : _root_.Go.OpenSpec := { _root_.Go.OpenSpec.ofChange s with cond := some uptoSmall }

/-- 'girderlaw17.StateAssumes', WHERE WHAT IT READS IS OF BULK AT MOST 1048576: true; the input reads as it did. -/
def stateAssumesUptoRow : OpenClaim := { program := "yteeinlbhcdpnnaa", sum := "457636482ad8f81320d586a15f36babfaebd57ae902327c8ab59c5713c42e0b5", func := "girder/girderlaw17.StateAssumes", spec := "stateAssumes", apart := false, narrowed := true }
def StateAssumesUptoSaid : Prop := stateAssumesUptoRow.holds Try.pinned (OpenSpec.upto stateAssumesSpec)

/-- 'girderlaw17.StateSteps', WHERE WHAT IT READS IS OF BULK AT MOST 1048576: true; the input reads as it did. -/
def stateStepsUptoRow : OpenClaim := { program := "yteeinlbhcdpnnaa", sum := "457636482ad8f81320d586a15f36babfaebd57ae902327c8ab59c5713c42e0b5", func := "girder/girderlaw17.StateSteps", spec := "stateSteps", apart := false, narrowed := true }
def StateStepsUptoSaid : Prop := stateStepsUptoRow.holds Try.pinned (OpenSpec.upto stateStepsSpec)

/-- 'girderlaw17.StateWaits', WHERE WHAT IT READS IS OF BULK AT MOST 1048576: true; the input reads as it did. -/
def stateWaitsUptoRow : OpenClaim := { program := "yteeinlbhcdpnnaa", sum := "457636482ad8f81320d586a15f36babfaebd57ae902327c8ab59c5713c42e0b5", func := "girder/girderlaw17.StateWaits", spec := "stateWaits", apart := false, narrowed := true }
def StateWaitsUptoSaid : Prop := stateWaitsUptoRow.holds Try.pinned (OpenSpec.upto stateWaitsSpec)

end Rows
end Go.Proofs.Yteeinlbhcdpnnaa
