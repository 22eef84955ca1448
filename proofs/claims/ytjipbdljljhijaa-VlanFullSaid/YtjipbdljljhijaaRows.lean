/-
  No cell of these rows narrows 'for every input' (looked for: loops, veiled, ifaces, maps, wideKeys, modest, calm, conditions, laid).
  DERIVED. THE GIVEN ROWS OF THIS SEAT. 4 by the template 'for every input the law returns true; each argument reads behind the call as it read before'; 0 by the template 'total and deterministic' (their statements: YtjipbdljljhijaaTotals.lean).
  GIVEN WITH THE SEED: the statements are not yours to turn. If you find one false, say at which input.
  Laid BY PROGRAM, IN A SANDBOX (cutbox-rows.mjs): the forced cells as the released guide's own fill.sh prints them over the translation 9855b86c22aa93bb… (all of the seat's roots in one cut). By AI agents, Wed Nov 11 2026. No macro, syntax, notation, axiom, sorry.
-/
import Derived.Test.YtjipbdljljhijaaChecked
import GoSem.Claim
import GoSem.ClaimJoined
import GoSem.ClaimMapViews
import Derived.JoinedTies
import Derived.KernelRfl
namespace Go.Proofs.Ytjipbdljljhijaa
/- THE CELL 'sum', in the pinned program and in every row, IS THE sha256 OF THE DUMP (.gsa) THAT YtjipbdljljhijaaProg.lean LOADS. Nothing in Lean hashes anything: it is a label: what it is worth is what the hold of that sum in a sandbox is worth. -/
noncomputable def Try.pinned : Pinned := { name := "ytjipbdljljhijaa", sum := "9855b86c22aa93bb0ac4fdc00319528d0568c9c04887a8f937433daed5f9b73d", checked := Try.checked }
namespace Rows
def none {H : Type} : Left H := { results := [], args := [] }

/-- 'girderlaw07.PortsHold': WHATEVER THE INPUT: true; the input reads as it did. -/
def portsHoldSpec : ChangeSpec := { name := "portsHold", fn := fun _ => fun
  | [d1, d2, d3] => { results := [.lit (.bool true)], args := [d1, d2, d3] }
  | _ => none }
def portsHoldRow : OpenClaim := { program := "ytjipbdljljhijaa", sum := "9855b86c22aa93bb0ac4fdc00319528d0568c9c04887a8f937433daed5f9b73d", func := "girder/girderlaw07.PortsHold", spec := "portsHold", unfollowed := true, recurses := true, apart := false }
def PortsHoldSaid : Prop := portsHoldRow.holds Try.pinned (OpenSpec.ofChange portsHoldSpec)

/-- ITS FALSE NEIGHBOUR: 'it returns false'. Refute it at one input. -/
def portsHoldWrong : ChangeSpec := { name := "portsHold", fn := fun _ => fun
  | [d1, d2, d3] => { results := [.lit (.bool false)], args := [d1, d2, d3] }
  | _ => none }
def PortsHoldWrongFalsely : Prop := portsHoldRow.holds Try.pinned (OpenSpec.ofChange portsHoldWrong)

/-- 'girderlaw07.PortsOf': WHATEVER THE INPUT: true; the input reads as it did. -/
def portsOfSpec : ChangeSpec := { name := "portsOf", fn := fun _ => fun
  | [d] => { results := [.lit (.bool true)], args := [d] }
  | _ => none }
def portsOfRow : OpenClaim := { program := "ytjipbdljljhijaa", sum := "9855b86c22aa93bb0ac4fdc00319528d0568c9c04887a8f937433daed5f9b73d", func := "girder/girderlaw07.PortsOf", spec := "portsOf", unfollowed := true, recurses := true, apart := false }
def PortsOfSaid : Prop := portsOfRow.holds Try.pinned (OpenSpec.ofChange portsOfSpec)

/-- ITS FALSE NEIGHBOUR: 'it returns false'. Refute it at one input. -/
def portsOfWrong : ChangeSpec := { name := "portsOf", fn := fun _ => fun
  | [d] => { results := [.lit (.bool false)], args := [d] }
  | _ => none }
def PortsOfWrongFalsely : Prop := portsOfRow.holds Try.pinned (OpenSpec.ofChange portsOfWrong)

/-- 'girderlaw08.VlanPlays': WHATEVER THE INPUT: true; the input reads as it did. -/
def vlanPlaysSpec : ChangeSpec := { name := "vlanPlays", fn := fun _ => fun
  | [d] => { results := [.lit (.bool true)], args := [d] }
  | _ => none }
def vlanPlaysRow : OpenClaim := { program := "ytjipbdljljhijaa", sum := "9855b86c22aa93bb0ac4fdc00319528d0568c9c04887a8f937433daed5f9b73d", func := "girder/girderlaw08.VlanPlays", spec := "vlanPlays", unfollowed := true, recurses := true, apart := false }
def VlanPlaysSaid : Prop := vlanPlaysRow.holds Try.pinned (OpenSpec.ofChange vlanPlaysSpec)

/-- ITS FALSE NEIGHBOUR: 'it returns false'. Refute it at one input. -/
def vlanPlaysWrong : ChangeSpec := { name := "vlanPlays", fn := fun _ => fun
  | [d] => { results := [.lit (.bool false)], args := [d] }
  | _ => none }
def VlanPlaysWrongFalsely : Prop := vlanPlaysRow.holds Try.pinned (OpenSpec.ofChange vlanPlaysWrong)

/-- 'girderlaw08.VlanFull': WHATEVER THE INPUT: true; the input reads as it did. -/
def vlanFullSpec : ChangeSpec := { name := "vlanFull", fn := fun _ => fun
  | [d1, d2] => { results := [.lit (.bool true)], args := [d1, d2] }
  | _ => none }
def vlanFullRow : OpenClaim := { program := "ytjipbdljljhijaa", sum := "9855b86c22aa93bb0ac4fdc00319528d0568c9c04887a8f937433daed5f9b73d", func := "girder/girderlaw08.VlanFull", spec := "vlanFull", unfollowed := true, recurses := true, apart := false }
def VlanFullSaid : Prop := vlanFullRow.holds Try.pinned (OpenSpec.ofChange vlanFullSpec)

/-- ITS FALSE NEIGHBOUR: 'it returns false'. Refute it at one input. -/
def vlanFullWrong : ChangeSpec := { name := "vlanFull", fn := fun _ => fun
  | [d1, d2] => { results := [.lit (.bool false)], args := [d1, d2] }
  | _ => none }
def VlanFullWrongFalsely : Prop := vlanFullRow.holds Try.pinned (OpenSpec.ofChange vlanFullWrong)

/- THE SECOND FORM. 'bulk': how many values and letters a reading holds, each counted each time it is reached (what is shared counts as often as it is met; a slice's spare places count too). A statement '..UptoSaid' is the law's where the arguments, and the package variables that the reading takes, are together of bulk at most 1048576: NARROWER than '..Said'. Prove '..Said' where nothing that the law and all that it calls make is longer than what came in: it says more and counts as full. Else prove '..UptoSaid'. A law counts once. -/
mutual
def uptoBulk {H : Type} : DataW H → Nat
  | .lit (.string bytes) => bytes.length + 1
  | .lit _ => 1
  | .nil => 1
  | .ptr d => uptoBulk d + 1
  | .slice elems spare => uptoBulkAll elems + uptoBulkAll spare + 1
  | .agg parts => uptoBulkAll parts + 1
  | .iface _ d => uptoBulk d + 1
  | .map entries => uptoBulkEntries entries + 1
  | .held _ => 1
def uptoBulkAll {H : Type} : List (DataW H) → Nat
  | [] => 0
  | d :: r => uptoBulk d + uptoBulkAll r
def uptoBulkEntries {H : Type} : List (Lit × DataW H) → Nat
  | [] => 0
  | x :: r => uptoBulkEntry x + uptoBulkEntries r
def uptoBulkEntry {H : Type} : Lit × DataW H → Nat
  | (.string bytes, d) => bytes.length + uptoBulk d + 1
  | (_, d) => uptoBulk d + 1
 end
def uptoSmall : (H : Type) → List (DataW H) → Bool := fun _ ds => decide (uptoBulkAll ds ≤ 1048576)
def OpenSpec.upto (s : _root_.Go.ChangeSpec) : _root_.Go.OpenSpec := { _root_.Go.OpenSpec.ofChange s with cond := some uptoSmall }

/-- 'girderlaw07.PortsHold', WHERE WHAT IT READS IS OF BULK AT MOST 1048576: true; the input reads as it did. -/
def portsHoldUptoRow : OpenClaim := { program := "ytjipbdljljhijaa", sum := "9855b86c22aa93bb0ac4fdc00319528d0568c9c04887a8f937433daed5f9b73d", func := "girder/girderlaw07.PortsHold", spec := "portsHold", unfollowed := true, recurses := true, apart := false, narrowed := true }
def PortsHoldUptoSaid : Prop := portsHoldUptoRow.holds Try.pinned (OpenSpec.upto portsHoldSpec)

/-- 'girderlaw07.PortsOf', WHERE WHAT IT READS IS OF BULK AT MOST 1048576: true; the input reads as it did. -/
def portsOfUptoRow : OpenClaim := { program := "ytjipbdljljhijaa", sum := "9855b86c22aa93bb0ac4fdc00319528d0568c9c04887a8f937433daed5f9b73d", func := "girder/girderlaw07.PortsOf", spec := "portsOf", unfollowed := true, recurses := true, apart := false, narrowed := true }
def PortsOfUptoSaid : Prop := portsOfUptoRow.holds Try.pinned (OpenSpec.upto portsOfSpec)

/-- 'girderlaw08.VlanPlays', WHERE WHAT IT READS IS OF BULK AT MOST 1048576: true; the input reads as it did. -/
def vlanPlaysUptoRow : OpenClaim := { program := "ytjipbdljljhijaa", sum := "9855b86c22aa93bb0ac4fdc00319528d0568c9c04887a8f937433daed5f9b73d", func := "girder/girderlaw08.VlanPlays", spec := "vlanPlays", unfollowed := true, recurses := true, apart := false, narrowed := true }
def VlanPlaysUptoSaid : Prop := vlanPlaysUptoRow.holds Try.pinned (OpenSpec.upto vlanPlaysSpec)

/-- 'girderlaw08.VlanFull', WHERE WHAT IT READS IS OF BULK AT MOST 1048576: true; the input reads as it did. -/
def vlanFullUptoRow : OpenClaim := { program := "ytjipbdljljhijaa", sum := "9855b86c22aa93bb0ac4fdc00319528d0568c9c04887a8f937433daed5f9b73d", func := "girder/girderlaw08.VlanFull", spec := "vlanFull", unfollowed := true, recurses := true, apart := false, narrowed := true }
def VlanFullUptoSaid : Prop := vlanFullUptoRow.holds Try.pinned (OpenSpec.upto vlanFullSpec)

end Rows
end Go.Proofs.Ytjipbdljljhijaa
