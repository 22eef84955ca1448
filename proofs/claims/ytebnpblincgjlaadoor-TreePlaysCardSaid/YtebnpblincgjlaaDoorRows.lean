/-
  NARROWER THAN 'FOR EVERY INPUT', by the rows' own cells (each row's printed sentence says how): TreePlays: laid · TreeRoles: laid · TreePair: laid.
  DERIVED. THE GIVEN ROWS OF THIS SEAT. 3 by the template 'for every input the law returns true; each argument reads behind the call as it read before'; 0 by the template 'total and deterministic' (their statements: YtebnpblincgjlaaDoorTotals.lean).
  GIVEN WITH THE SEED: the statements are not yours to turn. If you find one false, say at which input.
  Laid BY PROGRAM, IN A SANDBOX (cutbox-rows.mjs): the forced cells as the released guide's own fill.sh prints them over the translation 8e56b00d7116444c… (all of the seat's roots in one cut). By AI agents, Wed Nov 11 2026. No macro, syntax, notation, axiom, sorry.
-/
import Derived.Test.YtebnpblincgjlaaDoorChecked
import GoSem.Claim
import GoSem.ClaimJoined
import GoSem.ClaimMapViews
import Derived.JoinedTies
import Derived.KernelRfl
namespace Go.Proofs.YtebnpblincgjlaaDoor
/- THE CELL 'sum', in the pinned program and in every row, IS THE sha256 OF THE DUMP (.gsa) THAT YtebnpblincgjlaaDoorProg.lean LOADS. Nothing in Lean hashes anything: it is a label: what it is worth is what the hold of that sum in a sandbox is worth. -/
noncomputable def Tryd.pinned : Pinned := { name := "ytebnpblincgjlaadoor", sum := "8e56b00d7116444cff195d44589dd3501fba213daf14ee83384f083cdf3ee153", checked := Tryd.checked }
namespace Rows
def none {H : Type} : Left H := { results := [], args := [] }

/- WHAT THE LISTED PACKAGE-LEVEL VARIABLES READ AS WHEN THE CALL BEGINS. Each datum BY PROGRAM (the guide's laid-datum.mjs) off the statement by which the dump's own 'gosem.cut.vars' lays the variable. In a bare row this is a premise. The card (YtebnpblincgjlaaDoorCards.lean) ties it to the program's text. -/
def laid_girder_tree_roles {H : Type} : DataW H := .agg [.lit (.int .u8 0), .lit (.int .u8 1), .lit (.int .u8 1), .lit (.int .u8 2), .lit (.int .u8 3)]

/-- 'girderlaw18.TreePlays': WHATEVER THE INPUT: true; the input reads as it did. -/
def treePlaysSpec : ChangeSpec := { name := "treePlays", fn := fun _ => fun
  | [d1, d2] => { results := [.lit (.bool true)], args := [d1, d2] }
  | _ => none }
def treePlaysRow : OpenClaim := { program := "ytebnpblincgjlaadoor", sum := "8e56b00d7116444cff195d44589dd3501fba213daf14ee83384f083cdf3ee153", func := "girder/girderlaw18.TreePlays", spec := "treePlays", unfollowed := true, recurses := true, named := ["girder/tree.roles"], apart := false, laid := [("girder/tree.roles", laid_girder_tree_roles)] }
def TreePlaysSaid : Prop := treePlaysRow.holds Tryd.pinned (OpenSpec.ofChange treePlaysSpec)

/-- ITS FALSE NEIGHBOUR: 'it returns false'. Refute it at one input. -/
def treePlaysWrong : ChangeSpec := { name := "treePlays", fn := fun _ => fun
  | [d1, d2] => { results := [.lit (.bool false)], args := [d1, d2] }
  | _ => none }
def TreePlaysWrongFalsely : Prop := treePlaysRow.holds Tryd.pinned (OpenSpec.ofChange treePlaysWrong)

/-- 'girderlaw18.TreeRoles': WHATEVER THE INPUT: true; the input reads as it did. -/
def treeRolesSpec : ChangeSpec := { name := "treeRoles", fn := fun _ => fun
  | [d1, d2] => { results := [.lit (.bool true)], args := [d1, d2] }
  | _ => none }
def treeRolesRow : OpenClaim := { program := "ytebnpblincgjlaadoor", sum := "8e56b00d7116444cff195d44589dd3501fba213daf14ee83384f083cdf3ee153", func := "girder/girderlaw18.TreeRoles", spec := "treeRoles", unfollowed := true, recurses := true, named := ["girder/tree.roles"], apart := false, laid := [("girder/tree.roles", laid_girder_tree_roles)] }
def TreeRolesSaid : Prop := treeRolesRow.holds Tryd.pinned (OpenSpec.ofChange treeRolesSpec)

/-- ITS FALSE NEIGHBOUR: 'it returns false'. Refute it at one input. -/
def treeRolesWrong : ChangeSpec := { name := "treeRoles", fn := fun _ => fun
  | [d1, d2] => { results := [.lit (.bool false)], args := [d1, d2] }
  | _ => none }
def TreeRolesWrongFalsely : Prop := treeRolesRow.holds Tryd.pinned (OpenSpec.ofChange treeRolesWrong)

/-- 'girderlaw18.TreePair': WHATEVER THE INPUT: true; the input reads as it did. -/
def treePairSpec : ChangeSpec := { name := "treePair", fn := fun _ => fun
  | [d1, d2] => { results := [.lit (.bool true)], args := [d1, d2] }
  | _ => none }
def treePairRow : OpenClaim := { program := "ytebnpblincgjlaadoor", sum := "8e56b00d7116444cff195d44589dd3501fba213daf14ee83384f083cdf3ee153", func := "girder/girderlaw18.TreePair", spec := "treePair", unfollowed := true, recurses := true, named := ["girder/tree.roles"], apart := false, laid := [("girder/tree.roles", laid_girder_tree_roles)] }
def TreePairSaid : Prop := treePairRow.holds Tryd.pinned (OpenSpec.ofChange treePairSpec)

/-- ITS FALSE NEIGHBOUR: 'it returns false'. Refute it at one input. -/
def treePairWrong : ChangeSpec := { name := "treePair", fn := fun _ => fun
  | [d1, d2] => { results := [.lit (.bool false)], args := [d1, d2] }
  | _ => none }
def TreePairWrongFalsely : Prop := treePairRow.holds Tryd.pinned (OpenSpec.ofChange treePairWrong)

/- THE SECOND FORM. 'bulk': how many values and letters a reading holds, each counted each time it is reached (what is shared counts as often as it is met; a slice's spare places count too). A statement '..UptoSaid' is the law's where the arguments, and the package variables that the reading takes, are together of bulk at most 1048576: NARROWER than '..Said'. Prove '..Said' where nothing that the law and all that it calls make is longer than what came in: it says more and counts as full. Else prove '..UptoSaid'. A law counts once. -/
mutual
def uptoBulk {H : Type} : DataW H → Nat
  | .lit (.string bytes) => bytes.length + 1
  | .lit _ => 1
  | .nil => 1
  | .ptr d => uptoBulk d + 1
  | .slice elems spare => uptoBulkAll elems + uptoBulkAll spare + 1
  | .agg parts => uptoBulkAll parts + 1
  | .iface _ d => uptoBulk d + 1
  | .map entries => uptoBulkEntries entries + 1
  | .held _ => 1
def uptoBulkAll {H : Type} : List (DataW H) → Nat
  | [] => 0
  | d :: r => uptoBulk d + uptoBulkAll r
def uptoBulkEntries {H : Type} : List (Lit × DataW H) → Nat
  | [] => 0
  | x :: r => uptoBulkEntry x + uptoBulkEntries r
def uptoBulkEntry {H : Type} : Lit × DataW H → Nat
  | (.string bytes, d) => bytes.length + uptoBulk d + 1
  | (_, d) => uptoBulk d + 1
 end
def uptoSmall : (H : Type) → List (DataW H) → Bool := fun _ ds => decide (uptoBulkAll ds ≤ 1048576)
def OpenSpec.upto (s : _root_.Go.ChangeSpec) : _root_.Go.OpenSpec := { _root_.Go.OpenSpec.ofChange s with cond := some uptoSmall }

/-- 'girderlaw18.TreePlays', WHERE WHAT IT READS IS OF BULK AT MOST 1048576: true; the input reads as it did. -/
def treePlaysUptoRow : OpenClaim := { program := "ytebnpblincgjlaadoor", sum := "8e56b00d7116444cff195d44589dd3501fba213daf14ee83384f083cdf3ee153", func := "girder/girderlaw18.TreePlays", spec := "treePlays", unfollowed := true, recurses := true, named := ["girder/tree.roles"], apart := false, laid := [("girder/tree.roles", laid_girder_tree_roles)], narrowed := true }
def TreePlaysUptoSaid : Prop := treePlaysUptoRow.holds Tryd.pinned (OpenSpec.upto treePlaysSpec)

/-- 'girderlaw18.TreeRoles', WHERE WHAT IT READS IS OF BULK AT MOST 1048576: true; the input reads as it did. -/
def treeRolesUptoRow : OpenClaim := { program := "ytebnpblincgjlaadoor", sum := "8e56b00d7116444cff195d44589dd3501fba213daf14ee83384f083cdf3ee153", func := "girder/girderlaw18.TreeRoles", spec := "treeRoles", unfollowed := true, recurses := true, named := ["girder/tree.roles"], apart := false, laid := [("girder/tree.roles", laid_girder_tree_roles)], narrowed := true }
def TreeRolesUptoSaid : Prop := treeRolesUptoRow.holds Tryd.pinned (OpenSpec.upto treeRolesSpec)

/-- 'girderlaw18.TreePair', WHERE WHAT IT READS IS OF BULK AT MOST 1048576: true; the input reads as it did. -/
def treePairUptoRow : OpenClaim := { program := "ytebnpblincgjlaadoor", sum := "8e56b00d7116444cff195d44589dd3501fba213daf14ee83384f083cdf3ee153", func := "girder/girderlaw18.TreePair", spec := "treePair", unfollowed := true, recurses := true, named := ["girder/tree.roles"], apart := false, laid := [("girder/tree.roles", laid_girder_tree_roles)], narrowed := true }
def TreePairUptoSaid : Prop := treePairUptoRow.holds Tryd.pinned (OpenSpec.upto treePairSpec)

end Rows
end Go.Proofs.YtebnpblincgjlaaDoor
