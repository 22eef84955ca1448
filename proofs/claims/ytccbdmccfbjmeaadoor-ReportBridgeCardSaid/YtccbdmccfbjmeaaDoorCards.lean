/-
  DERIVED. GIVEN WITH THE SEED: THE CARDS: each row of YtccbdmccfbjmeaaDoorRows.lean that lists a variable, with what it lists TIED to the program's text (the seventh form; the later family's looks); each row that meets fmt, with fmt's text TOLD by the authors' own Lean function (tested against real Go, not proved from fmt's source: count such statements apart). THE CARD IS WHAT COUNTS. Prove the row's statement (the work); the ties are given (YtccbdmccfbjmeaaDoorTie.lean); close each card by the builder's one call (the guide's Derived/Test/ToyasCard.lean, 'card_holds'). Laid BY PROGRAM, IN A SANDBOX (cutbox-door.mjs). By AI agents, Wed Nov 11 2026. No macro, syntax, notation, axiom, sorry.
-/
import Derived.Test.YtccbdmccfbjmeaaDoorRows
import GoSem.ClaimSeven
namespace Go.Proofs.YtccbdmccfbjmeaaDoor
namespace Rows

/-- THE TIED CARD OF 'girderlaw29.ReportBridge'. -/
def reportBridgeCard : Claim7 := { stood := { row := reportBridgeRow, standIns := [], harness := (true, "d39c918dd93aa72728bd3db29added3632ccb1fafffd09e07e399aee610741f0"), looks := false }, kinds := [], alts := [], laidByText := true, laidKinds := [.data, .data, .data, .data, .data], laidTests := true, laidLooks := .later }
def ReportBridgeCardSaid : Prop := Claim7.holds Tryd.pinned (.plain (OpenSpec.ofChange reportBridgeSpec)) reportBridgeCard

/-- THE SECOND FORM's CARD OF 'girderlaw29.ReportBridge'. -/
def reportBridgeUptoCard : Claim7 := { stood := { row := reportBridgeUptoRow, standIns := [], harness := (true, "d39c918dd93aa72728bd3db29added3632ccb1fafffd09e07e399aee610741f0"), looks := false }, kinds := [], alts := [], laidByText := true, laidKinds := [.data, .data, .data, .data, .data], laidTests := true, laidLooks := .later }
def ReportBridgeUptoCardSaid : Prop := Claim7.holds Tryd.pinned (.plain (OpenSpec.upto reportBridgeSpec)) reportBridgeUptoCard
end Rows
end Go.Proofs.YtccbdmccfbjmeaaDoor
