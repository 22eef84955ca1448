/-
  No cell of these rows narrows 'for every input' (looked for: loops, veiled, ifaces, maps, wideKeys, modest, calm, conditions, laid).
  DERIVED. THE GIVEN ROWS OF THIS SEAT. 6 by the template 'for every input the law returns true; each argument reads behind the call as it read before'; 0 by the template 'total and deterministic' (their statements: YtojijeaofkndpaaTotals.lean).
  GIVEN WITH THE SEED: the statements are not yours to turn. If you find one false, say at which input.
  Laid BY PROGRAM, IN A SANDBOX (cutbox-rows.mjs): the forced cells as the released guide's own fill.sh prints them over the translation 441b8f71fe43103e… (all of the seat's roots in one cut). By AI agents, Wed Nov 11 2026. No macro, syntax, notation, axiom, sorry.
-/
import Derived.Test.YtojijeaofkndpaaChecked
import GoSem.Claim
import GoSem.ClaimJoined
import GoSem.ClaimMapViews
import Derived.JoinedTies
import Derived.KernelRfl
namespace Go.Proofs.Ytojijeaofkndpaa
/- THE CELL 'sum', in the pinned program and in every row, IS THE sha256 OF THE DUMP (.gsa) THAT YtojijeaofkndpaaProg.lean LOADS. Nothing in Lean hashes anything: it is a label: what it is worth is what the hold of that sum in a sandbox is worth. -/
noncomputable def Try.pinned : Pinned := { name := "ytojijeaofkndpaa", sum := "441b8f71fe43103e9764896fe9622089592bc25de776db124abd94ad72b3223f", checked := Try.checked }
namespace Rows
def none {H : Type} : Left H := { results := [], args := [] }

/-- 'girderlaw15.RoleChooses': WHATEVER THE INPUT: true; the input reads as it did. -/
def roleChoosesSpec : ChangeSpec := { name := "roleChooses", fn := fun _ => fun
  | [d1, d2] => { results := [.lit (.bool true)], args := [d1, d2] }
  | _ => none }
def roleChoosesRow : OpenClaim := { program := "ytojijeaofkndpaa", sum := "441b8f71fe43103e9764896fe9622089592bc25de776db124abd94ad72b3223f", func := "girder/girderlaw15.RoleChooses", spec := "roleChooses", apart := false }
def RoleChoosesSaid : Prop := roleChoosesRow.holds Try.pinned (OpenSpec.ofChange roleChoosesSpec)

/-- ITS FALSE NEIGHBOUR: 'it returns false'. Refute it at one input. -/
def roleChoosesWrong : ChangeSpec := { name := "roleChooses", fn := fun _ => fun
  | [d1, d2] => { results := [.lit (.bool false)], args := [d1, d2] }
  | _ => none }
def RoleChoosesWrongFalsely : Prop := roleChoosesRow.holds Try.pinned (OpenSpec.ofChange roleChoosesWrong)

/-- 'girderlaw15.RoleOne': WHATEVER THE INPUT: true; the input reads as it did. -/
def roleOneSpec : ChangeSpec := { name := "roleOne", fn := fun _ => fun
  | [d1, d2] => { results := [.lit (.bool true)], args := [d1, d2] }
  | _ => none }
def roleOneRow : OpenClaim := { program := "ytojijeaofkndpaa", sum := "441b8f71fe43103e9764896fe9622089592bc25de776db124abd94ad72b3223f", func := "girder/girderlaw15.RoleOne", spec := "roleOne", apart := false }
def RoleOneSaid : Prop := roleOneRow.holds Try.pinned (OpenSpec.ofChange roleOneSpec)

/-- ITS FALSE NEIGHBOUR: 'it returns false'. Refute it at one input. -/
def roleOneWrong : ChangeSpec := { name := "roleOne", fn := fun _ => fun
  | [d1, d2] => { results := [.lit (.bool false)], args := [d1, d2] }
  | _ => none }
def RoleOneWrongFalsely : Prop := roleOneRow.holds Try.pinned (OpenSpec.ofChange roleOneWrong)

/-- 'girderlaw16.InfoHears': WHATEVER THE INPUT: true; the input reads as it did. -/
def infoHearsSpec : ChangeSpec := { name := "infoHears", fn := fun _ => fun
  | [d1, d2, d3] => { results := [.lit (.bool true)], args := [d1, d2, d3] }
  | _ => none }
def infoHearsRow : OpenClaim := { program := "ytojijeaofkndpaa", sum := "441b8f71fe43103e9764896fe9622089592bc25de776db124abd94ad72b3223f", func := "girder/girderlaw16.InfoHears", spec := "infoHears", apart := false }
def InfoHearsSaid : Prop := infoHearsRow.holds Try.pinned (OpenSpec.ofChange infoHearsSpec)

/-- ITS FALSE NEIGHBOUR: 'it returns false'. Refute it at one input. -/
def infoHearsWrong : ChangeSpec := { name := "infoHears", fn := fun _ => fun
  | [d1, d2, d3] => { results := [.lit (.bool false)], args := [d1, d2, d3] }
  | _ => none }
def InfoHearsWrongFalsely : Prop := infoHearsRow.holds Try.pinned (OpenSpec.ofChange infoHearsWrong)

/-- 'girderlaw16.InfoFades': WHATEVER THE INPUT: true; the input reads as it did. -/
def infoFadesSpec : ChangeSpec := { name := "infoFades", fn := fun _ => fun
  | [d] => { results := [.lit (.bool true)], args := [d] }
  | _ => none }
def infoFadesRow : OpenClaim := { program := "ytojijeaofkndpaa", sum := "441b8f71fe43103e9764896fe9622089592bc25de776db124abd94ad72b3223f", func := "girder/girderlaw16.InfoFades", spec := "infoFades", apart := false }
def InfoFadesSaid : Prop := infoFadesRow.holds Try.pinned (OpenSpec.ofChange infoFadesSpec)

/-- ITS FALSE NEIGHBOUR: 'it returns false'. Refute it at one input. -/
def infoFadesWrong : ChangeSpec := { name := "infoFades", fn := fun _ => fun
  | [d] => { results := [.lit (.bool false)], args := [d] }
  | _ => none }
def InfoFadesWrongFalsely : Prop := infoFadesRow.holds Try.pinned (OpenSpec.ofChange infoFadesWrong)

/-- 'girderlaw16.InfoSwitches': WHATEVER THE INPUT: true; the input reads as it did. -/
def infoSwitchesSpec : ChangeSpec := { name := "infoSwitches", fn := fun _ => fun
  | [d1, d2, d3] => { results := [.lit (.bool true)], args := [d1, d2, d3] }
  | _ => none }
def infoSwitchesRow : OpenClaim := { program := "ytojijeaofkndpaa", sum := "441b8f71fe43103e9764896fe9622089592bc25de776db124abd94ad72b3223f", func := "girder/girderlaw16.InfoSwitches", spec := "infoSwitches", apart := false }
def InfoSwitchesSaid : Prop := infoSwitchesRow.holds Try.pinned (OpenSpec.ofChange infoSwitchesSpec)

/-- ITS FALSE NEIGHBOUR: 'it returns false'. Refute it at one input. -/
def infoSwitchesWrong : ChangeSpec := { name := "infoSwitches", fn := fun _ => fun
  | [d1, d2, d3] => { results := [.lit (.bool false)], args := [d1, d2, d3] }
  | _ => none }
def InfoSwitchesWrongFalsely : Prop := infoSwitchesRow.holds Try.pinned (OpenSpec.ofChange infoSwitchesWrong)

/-- 'girderlaw16.InfoLives': WHATEVER THE INPUT: true; the input reads as it did. -/
def infoLivesSpec : ChangeSpec := { name := "infoLives", fn := fun _ => fun
  | [d1, d2, d3] => { results := [.lit (.bool true)], args := [d1, d2, d3] }
  | _ => none }
def infoLivesRow : OpenClaim := { program := "ytojijeaofkndpaa", sum := "441b8f71fe43103e9764896fe9622089592bc25de776db124abd94ad72b3223f", func := "girder/girderlaw16.InfoLives", spec := "infoLives", apart := false }
def InfoLivesSaid : Prop := infoLivesRow.holds Try.pinned (OpenSpec.ofChange infoLivesSpec)

/-- ITS FALSE NEIGHBOUR: 'it returns false'. Refute it at one input. -/
def infoLivesWrong : ChangeSpec := { name := "infoLives", fn := fun _ => fun
  | [d1, d2, d3] => { results := [.lit (.bool false)], args := [d1, d2, d3] }
  | _ => none }
def InfoLivesWrongFalsely : Prop := infoLivesRow.holds Try.pinned (OpenSpec.ofChange infoLivesWrong)

/- THE SECOND FORM. 'bulk': how many values and letters a reading holds, each counted each time it is reached (what is shared counts as often as it is met; a slice's spare places count too). A statement '..UptoSaid' is the law's where the arguments, and the package variables that the reading takes, are together of bulk at most 1048576: NARROWER than '..Said'. Prove '..Said' where nothing that the law and all that it calls make is longer than what came in: it says more and counts as full. Else prove '..UptoSaid'. A law counts once. -/
mutual
def uptoBulk {H : Type} : DataW H → Nat
  | .lit (.string bytes) => bytes.length + 1
  | .lit _ => 1
  | .nil => 1
  | .ptr d => uptoBulk d + 1
  | .slice elems spare => uptoBulkAll elems + uptoBulkAll spare + 1
  | .agg parts => uptoBulkAll parts + 1
  | .iface _ d => uptoBulk d + 1
  | .map entries => uptoBulkEntries entries + 1
  | .held _ => 1
def uptoBulkAll {H : Type} : List (DataW H) → Nat
  | [] => 0
  | d :: r => uptoBulk d + uptoBulkAll r
def uptoBulkEntries {H : Type} : List (Lit × DataW H) → Nat
  | [] => 0
  | x :: r => uptoBulkEntry x + uptoBulkEntries r
def uptoBulkEntry {H : Type} : Lit × DataW H → Nat
  | (.string bytes, d) => bytes.length + uptoBulk d + 1
  | (_, d) => uptoBulk d + 1
 end
def uptoSmall : (H : Type) → List (DataW H) → Bool := fun _ ds => decide (uptoBulkAll ds ≤ 1048576)
def OpenSpec.upto (s : _root_.Go.ChangeSpec) : _root_.Go.OpenSpec := { _root_.Go.OpenSpec.ofChange s with cond := some uptoSmall }

/-- 'girderlaw15.RoleChooses', WHERE WHAT IT READS IS OF BULK AT MOST 1048576: true; the input reads as it did. -/
def roleChoosesUptoRow : OpenClaim := { program := "ytojijeaofkndpaa", sum := "441b8f71fe43103e9764896fe9622089592bc25de776db124abd94ad72b3223f", func := "girder/girderlaw15.RoleChooses", spec := "roleChooses", apart := false, narrowed := true }
def RoleChoosesUptoSaid : Prop := roleChoosesUptoRow.holds Try.pinned (OpenSpec.upto roleChoosesSpec)

/-- 'girderlaw15.RoleOne', WHERE WHAT IT READS IS OF BULK AT MOST 1048576: true; the input reads as it did. -/
def roleOneUptoRow : OpenClaim := { program := "ytojijeaofkndpaa", sum := "441b8f71fe43103e9764896fe9622089592bc25de776db124abd94ad72b3223f", func := "girder/girderlaw15.RoleOne", spec := "roleOne", apart := false, narrowed := true }
def RoleOneUptoSaid : Prop := roleOneUptoRow.holds Try.pinned (OpenSpec.upto roleOneSpec)

/-- 'girderlaw16.InfoHears', WHERE WHAT IT READS IS OF BULK AT MOST 1048576: true; the input reads as it did. -/
def infoHearsUptoRow : OpenClaim := { program := "ytojijeaofkndpaa", sum := "441b8f71fe43103e9764896fe9622089592bc25de776db124abd94ad72b3223f", func := "girder/girderlaw16.InfoHears", spec := "infoHears", apart := false, narrowed := true }
def InfoHearsUptoSaid : Prop := infoHearsUptoRow.holds Try.pinned (OpenSpec.upto infoHearsSpec)

/-- 'girderlaw16.InfoFades', WHERE WHAT IT READS IS OF BULK AT MOST 1048576: true; the input reads as it did. -/
def infoFadesUptoRow : OpenClaim := { program := "ytojijeaofkndpaa", sum := "441b8f71fe43103e9764896fe9622089592bc25de776db124abd94ad72b3223f", func := "girder/girderlaw16.InfoFades", spec := "infoFades", apart := false, narrowed := true }
def InfoFadesUptoSaid : Prop := infoFadesUptoRow.holds Try.pinned (OpenSpec.upto infoFadesSpec)

/-- 'girderlaw16.InfoSwitches', WHERE WHAT IT READS IS OF BULK AT MOST 1048576: true; the input reads as it did. -/
def infoSwitchesUptoRow : OpenClaim := { program := "ytojijeaofkndpaa", sum := "441b8f71fe43103e9764896fe9622089592bc25de776db124abd94ad72b3223f", func := "girder/girderlaw16.InfoSwitches", spec := "infoSwitches", apart := false, narrowed := true }
def InfoSwitchesUptoSaid : Prop := infoSwitchesUptoRow.holds Try.pinned (OpenSpec.upto infoSwitchesSpec)

/-- 'girderlaw16.InfoLives', WHERE WHAT IT READS IS OF BULK AT MOST 1048576: true; the input reads as it did. -/
def infoLivesUptoRow : OpenClaim := { program := "ytojijeaofkndpaa", sum := "441b8f71fe43103e9764896fe9622089592bc25de776db124abd94ad72b3223f", func := "girder/girderlaw16.InfoLives", spec := "infoLives", apart := false, narrowed := true }
def InfoLivesUptoSaid : Prop := infoLivesUptoRow.holds Try.pinned (OpenSpec.upto infoLivesSpec)

end Rows
end Go.Proofs.Ytojijeaofkndpaa
