/-
  No cell of these rows narrows 'for every input' (looked for: loops, veiled, ifaces, maps, wideKeys, modest, calm, conditions, laid).
  DERIVED. THE GIVEN ROWS OF THIS SEAT. 3 by the template 'for every input the law returns true; each argument reads behind the call as it read before'; 0 by the template 'total and deterministic' (their statements: YtmbafeemiclmeaaTotals.lean).
  GIVEN WITH THE SEED: the statements are not yours to turn. If you find one false, say at which input.
  Laid BY PROGRAM, IN A SANDBOX (cutbox-rows.mjs): the forced cells as the released guide's own fill.sh prints them over the translation 0f2e30afcf1438f3… (all of the seat's roots in one cut). By AI agents, Wed Nov 11 2026. No macro, syntax, notation, axiom, sorry.
-/
import Derived.Test.YtmbafeemiclmeaaChecked
import GoSem.Claim
import GoSem.ClaimJoined
import GoSem.ClaimMapViews
import Derived.JoinedTies
import Derived.KernelRfl
namespace Go.Proofs.Ytmbafeemiclmeaa
/- THE CELL 'sum', in the pinned program and in every row, IS THE sha256 OF THE DUMP (.gsa) THAT YtmbafeemiclmeaaProg.lean LOADS. Nothing in Lean hashes anything: it is a label: what it is worth is what the hold of that sum in a sandbox is worth. -/
noncomputable def Try.pinned : Pinned := { name := "ytmbafeemiclmeaa", sum := "0f2e30afcf1438f32e3836e8fcc96cbc876f7b1d9b12a08e1a053c37f854438c", checked := Try.checked }
namespace Rows
def none {H : Type} : Left H := { results := [], args := [] }

/-- 'girderlaw21.TlvBuilds': WHATEVER THE INPUT: true; the input reads as it did. -/
def tlvBuildsSpec : ChangeSpec := { name := "tlvBuilds", fn := fun _ => fun
  | [d1, d2] => { results := [.lit (.bool true)], args := [d1, d2] }
  | _ => none }
def tlvBuildsRow : OpenClaim := { program := "ytmbafeemiclmeaa", sum := "0f2e30afcf1438f32e3836e8fcc96cbc876f7b1d9b12a08e1a053c37f854438c", func := "girder/girderlaw21.TlvBuilds", spec := "tlvBuilds", inPlace := ["internal/abi.NoEscape"], unfollowed := true, recurses := true, apart := false }
def TlvBuildsSaid : Prop := tlvBuildsRow.holds Try.pinned (OpenSpec.ofChange tlvBuildsSpec)

/-- ITS FALSE NEIGHBOUR: 'it returns false'. Refute it at one input. -/
def tlvBuildsWrong : ChangeSpec := { name := "tlvBuilds", fn := fun _ => fun
  | [d1, d2] => { results := [.lit (.bool false)], args := [d1, d2] }
  | _ => none }
def TlvBuildsWrongFalsely : Prop := tlvBuildsRow.holds Try.pinned (OpenSpec.ofChange tlvBuildsWrong)

/-- 'girderlaw21.TlvParses': WHATEVER THE INPUT: true; the input reads as it did. -/
def tlvParsesSpec : ChangeSpec := { name := "tlvParses", fn := fun _ => fun
  | [d1, d2] => { results := [.lit (.bool true)], args := [d1, d2] }
  | _ => none }
def tlvParsesRow : OpenClaim := { program := "ytmbafeemiclmeaa", sum := "0f2e30afcf1438f32e3836e8fcc96cbc876f7b1d9b12a08e1a053c37f854438c", func := "girder/girderlaw21.TlvParses", spec := "tlvParses", inPlace := ["internal/abi.NoEscape"], unfollowed := true, recurses := true, apart := false }
def TlvParsesSaid : Prop := tlvParsesRow.holds Try.pinned (OpenSpec.ofChange tlvParsesSpec)

/-- ITS FALSE NEIGHBOUR: 'it returns false'. Refute it at one input. -/
def tlvParsesWrong : ChangeSpec := { name := "tlvParses", fn := fun _ => fun
  | [d1, d2] => { results := [.lit (.bool false)], args := [d1, d2] }
  | _ => none }
def TlvParsesWrongFalsely : Prop := tlvParsesRow.holds Try.pinned (OpenSpec.ofChange tlvParsesWrong)

/-- 'girderlaw21.TlvRots': WHATEVER THE INPUT: true; the input reads as it did. -/
def tlvRotsSpec : ChangeSpec := { name := "tlvRots", fn := fun _ => fun
  | [d1, d2, d3] => { results := [.lit (.bool true)], args := [d1, d2, d3] }
  | _ => none }
def tlvRotsRow : OpenClaim := { program := "ytmbafeemiclmeaa", sum := "0f2e30afcf1438f32e3836e8fcc96cbc876f7b1d9b12a08e1a053c37f854438c", func := "girder/girderlaw21.TlvRots", spec := "tlvRots", inPlace := ["internal/abi.NoEscape"], unfollowed := true, recurses := true, apart := false }
def TlvRotsSaid : Prop := tlvRotsRow.holds Try.pinned (OpenSpec.ofChange tlvRotsSpec)

/-- ITS FALSE NEIGHBOUR: 'it returns false'. Refute it at one input. -/
def tlvRotsWrong : ChangeSpec := { name := "tlvRots", fn := fun _ => fun
  | [d1, d2, d3] => { results := [.lit (.bool false)], args := [d1, d2, d3] }
  | _ => none }
def TlvRotsWrongFalsely : Prop := tlvRotsRow.holds Try.pinned (OpenSpec.ofChange tlvRotsWrong)

/- THE SECOND FORM. 'bulk': how many values and letters a reading holds, each counted each time it is reached (what is shared counts as often as it is met; a slice's spare places count too). A statement '..UptoSaid' is the law's where the arguments, and the package variables that the reading takes, are together of bulk at most 1048576: NARROWER than '..Said'. Prove '..Said' where nothing that the law and all that it calls make is longer than what came in: it says more and counts as full. Else prove '..UptoSaid'. A law counts once. -/
mutual
def uptoBulk {H : Type} : DataW H → Nat
  | .lit (.string bytes) => bytes.length + 1
  | .lit _ => 1
  | .nil => 1
  | .ptr d => uptoBulk d + 1
  | .slice elems spare => uptoBulkAll elems + uptoBulkAll spare + 1
  | .agg parts => uptoBulkAll parts + 1
  | .iface _ d => uptoBulk d + 1
  | .map entries => uptoBulkEntries entries + 1
  | .held _ => 1
def uptoBulkAll {H : Type} : List (DataW H) → Nat
  | [] => 0
  | d :: r => uptoBulk d + uptoBulkAll r
def uptoBulkEntries {H : Type} : List (Lit × DataW H) → Nat
  | [] => 0
  | x :: r => uptoBulkEntry x + uptoBulkEntries r
def uptoBulkEntry {H : Type} : Lit × DataW H → Nat
  | (.string bytes, d) => bytes.length + uptoBulk d + 1
  | (_, d) => uptoBulk d + 1
 end
def uptoSmall : (H : Type) → List (DataW H) → Bool := fun _ ds => decide (uptoBulkAll ds ≤ 1048576)
def OpenSpec.upto (s : _root_.Go.ChangeSpec) : _root_.Go.OpenSpec := { _root_.Go.OpenSpec.ofChange s with cond := some uptoSmall }

/-- 'girderlaw21.TlvBuilds', WHERE WHAT IT READS IS OF BULK AT MOST 1048576: true; the input reads as it did. -/
def tlvBuildsUptoRow : OpenClaim := { program := "ytmbafeemiclmeaa", sum := "0f2e30afcf1438f32e3836e8fcc96cbc876f7b1d9b12a08e1a053c37f854438c", func := "girder/girderlaw21.TlvBuilds", spec := "tlvBuilds", inPlace := ["internal/abi.NoEscape"], unfollowed := true, recurses := true, apart := false, narrowed := true }
def TlvBuildsUptoSaid : Prop := tlvBuildsUptoRow.holds Try.pinned (OpenSpec.upto tlvBuildsSpec)

/-- 'girderlaw21.TlvParses', WHERE WHAT IT READS IS OF BULK AT MOST 1048576: true; the input reads as it did. -/
def tlvParsesUptoRow : OpenClaim := { program := "ytmbafeemiclmeaa", sum := "0f2e30afcf1438f32e3836e8fcc96cbc876f7b1d9b12a08e1a053c37f854438c", func := "girder/girderlaw21.TlvParses", spec := "tlvParses", inPlace := ["internal/abi.NoEscape"], unfollowed := true, recurses := true, apart := false, narrowed := true }
def TlvParsesUptoSaid : Prop := tlvParsesUptoRow.holds Try.pinned (OpenSpec.upto tlvParsesSpec)

/-- 'girderlaw21.TlvRots', WHERE WHAT IT READS IS OF BULK AT MOST 1048576: true; the input reads as it did. -/
def tlvRotsUptoRow : OpenClaim := { program := "ytmbafeemiclmeaa", sum := "0f2e30afcf1438f32e3836e8fcc96cbc876f7b1d9b12a08e1a053c37f854438c", func := "girder/girderlaw21.TlvRots", spec := "tlvRots", inPlace := ["internal/abi.NoEscape"], unfollowed := true, recurses := true, apart := false, narrowed := true }
def TlvRotsUptoSaid : Prop := tlvRotsUptoRow.holds Try.pinned (OpenSpec.upto tlvRotsSpec)

end Rows
end Go.Proofs.Ytmbafeemiclmeaa
