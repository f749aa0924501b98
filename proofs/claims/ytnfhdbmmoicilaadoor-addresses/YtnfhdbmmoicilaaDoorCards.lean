/-
  DERIVED. GIVEN WITH THE SEED: THE CARDS: each row of YtnfhdbmmoicilaaDoorRows.lean that lists a variable, with what it lists TIED to the program's text (the seventh form; the later family's looks); each row that meets fmt, with fmt's text TOLD by the authors' own Lean function (tested against real Go, not proved from fmt's source: count such statements apart). THE CARD IS WHAT COUNTS. Prove the row's statement (the work); the ties are given (YtnfhdbmmoicilaaDoorTie.lean); close each card by the builder's one call (the guide's Derived/Test/ToyasCard.lean, 'card_holds'). Laid BY PROGRAM, IN A SANDBOX (cutbox-door.mjs). By AI agents, Wed Nov 11 2026. No macro, syntax, notation, axiom, sorry.
-/
import Derived.Test.YtnfhdbmmoicilaaDoorRows
import GoSem.ClaimSeven
namespace Go.Proofs.YtnfhdbmmoicilaaDoor
namespace Rows

/-- THE TIED CARD OF 'postbaglaw.Addresses'. -/
def addressesCard : Claim7 := { stood := { row := addressesRow, standIns := [], harness := (true, "914f48193eccbea15ada2a5203f75d9a00b7904f97e8920785f39027fa3ccbac"), looks := false }, kinds := [], alts := [], laidByText := true, laidKinds := [.data, .pinned, .pinned], laidTests := true, laidLooks := .later }
def AddressesCardSaid : Prop := Claim7.holds Tryd.pinned (.plain (OpenSpec.ofChange addressesSpec)) addressesCard

/-- THE TIED CARD OF 'postbaglaw.Checks'. -/
def checksCard : Claim7 := { stood := { row := checksRow, standIns := [], harness := (true, "914f48193eccbea15ada2a5203f75d9a00b7904f97e8920785f39027fa3ccbac"), looks := false }, kinds := [], alts := [], laidByText := true, laidKinds := [.data, .pinned], laidTests := true, laidLooks := .later }
def ChecksCardSaid : Prop := Claim7.holds Tryd.pinned (.plain (OpenSpec.ofChange checksSpec)) checksCard

/-- THE SECOND FORM's CARD OF 'postbaglaw.Addresses'. -/
def addressesUptoCard : Claim7 := { stood := { row := addressesUptoRow, standIns := [], harness := (true, "914f48193eccbea15ada2a5203f75d9a00b7904f97e8920785f39027fa3ccbac"), looks := false }, kinds := [], alts := [], laidByText := true, laidKinds := [.data, .pinned, .pinned], laidTests := true, laidLooks := .later }
def AddressesUptoCardSaid : Prop := Claim7.holds Tryd.pinned (.plain (OpenSpec.upto addressesSpec)) addressesUptoCard

/-- THE SECOND FORM's CARD OF 'postbaglaw.Checks'. -/
def checksUptoCard : Claim7 := { stood := { row := checksUptoRow, standIns := [], harness := (true, "914f48193eccbea15ada2a5203f75d9a00b7904f97e8920785f39027fa3ccbac"), looks := false }, kinds := [], alts := [], laidByText := true, laidKinds := [.data, .pinned], laidTests := true, laidLooks := .later }
def ChecksUptoCardSaid : Prop := Claim7.holds Tryd.pinned (.plain (OpenSpec.upto checksSpec)) checksUptoCard
end Rows
end Go.Proofs.YtnfhdbmmoicilaaDoor
