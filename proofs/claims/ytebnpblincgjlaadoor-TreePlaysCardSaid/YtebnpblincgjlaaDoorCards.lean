/-
  DERIVED. GIVEN WITH THE SEED: THE CARDS: each row of YtebnpblincgjlaaDoorRows.lean that lists a variable, with what it lists TIED to the program's text (the seventh form; the later family's looks); each row that meets fmt, with fmt's text TOLD by the authors' own Lean function (tested against real Go, not proved from fmt's source: count such statements apart). THE CARD IS WHAT COUNTS. Prove the row's statement (the work); the ties are given (YtebnpblincgjlaaDoorTie.lean); close each card by the builder's one call (the guide's Derived/Test/ToyasCard.lean, 'card_holds'). Laid BY PROGRAM, IN A SANDBOX (cutbox-door.mjs). By AI agents, Wed Nov 11 2026. No macro, syntax, notation, axiom, sorry.
-/
import Derived.Test.YtebnpblincgjlaaDoorRows
import GoSem.ClaimSeven
namespace Go.Proofs.YtebnpblincgjlaaDoor
namespace Rows

/-- THE TIED CARD OF 'girderlaw18.TreePlays'. -/
def treePlaysCard : Claim7 := { stood := { row := treePlaysRow, standIns := [], harness := (true, "9f4ef72e3f4689fded2bd8f8a0fefc0d1d9fc0831196bec382e054f6f99d67fc"), looks := false }, kinds := [], alts := [], laidByText := true, laidKinds := [.data], laidTests := true, laidLooks := .later }
def TreePlaysCardSaid : Prop := Claim7.holds Tryd.pinned (.plain (OpenSpec.ofChange treePlaysSpec)) treePlaysCard

/-- THE TIED CARD OF 'girderlaw18.TreeRoles'. -/
def treeRolesCard : Claim7 := { stood := { row := treeRolesRow, standIns := [], harness := (true, "9f4ef72e3f4689fded2bd8f8a0fefc0d1d9fc0831196bec382e054f6f99d67fc"), looks := false }, kinds := [], alts := [], laidByText := true, laidKinds := [.data], laidTests := true, laidLooks := .later }
def TreeRolesCardSaid : Prop := Claim7.holds Tryd.pinned (.plain (OpenSpec.ofChange treeRolesSpec)) treeRolesCard

/-- THE TIED CARD OF 'girderlaw18.TreePair'. -/
def treePairCard : Claim7 := { stood := { row := treePairRow, standIns := [], harness := (true, "9f4ef72e3f4689fded2bd8f8a0fefc0d1d9fc0831196bec382e054f6f99d67fc"), looks := false }, kinds := [], alts := [], laidByText := true, laidKinds := [.data], laidTests := true, laidLooks := .later }
def TreePairCardSaid : Prop := Claim7.holds Tryd.pinned (.plain (OpenSpec.ofChange treePairSpec)) treePairCard

/-- THE SECOND FORM's CARD OF 'girderlaw18.TreePlays'. -/
def treePlaysUptoCard : Claim7 := { stood := { row := treePlaysUptoRow, standIns := [], harness := (true, "9f4ef72e3f4689fded2bd8f8a0fefc0d1d9fc0831196bec382e054f6f99d67fc"), looks := false }, kinds := [], alts := [], laidByText := true, laidKinds := [.data], laidTests := true, laidLooks := .later }
def TreePlaysUptoCardSaid : Prop := Claim7.holds Tryd.pinned (.plain (OpenSpec.upto treePlaysSpec)) treePlaysUptoCard

/-- THE SECOND FORM's CARD OF 'girderlaw18.TreeRoles'. -/
def treeRolesUptoCard : Claim7 := { stood := { row := treeRolesUptoRow, standIns := [], harness := (true, "9f4ef72e3f4689fded2bd8f8a0fefc0d1d9fc0831196bec382e054f6f99d67fc"), looks := false }, kinds := [], alts := [], laidByText := true, laidKinds := [.data], laidTests := true, laidLooks := .later }
def TreeRolesUptoCardSaid : Prop := Claim7.holds Tryd.pinned (.plain (OpenSpec.upto treeRolesSpec)) treeRolesUptoCard

/-- THE SECOND FORM's CARD OF 'girderlaw18.TreePair'. -/
def treePairUptoCard : Claim7 := { stood := { row := treePairUptoRow, standIns := [], harness := (true, "9f4ef72e3f4689fded2bd8f8a0fefc0d1d9fc0831196bec382e054f6f99d67fc"), looks := false }, kinds := [], alts := [], laidByText := true, laidKinds := [.data], laidTests := true, laidLooks := .later }
def TreePairUptoCardSaid : Prop := Claim7.holds Tryd.pinned (.plain (OpenSpec.upto treePairSpec)) treePairUptoCard
end Rows
end Go.Proofs.YtebnpblincgjlaaDoor
