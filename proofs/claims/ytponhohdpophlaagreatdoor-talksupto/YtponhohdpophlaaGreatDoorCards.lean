/-
  DERIVED. GIVEN WITH THE SEED: THE CARDS: each row of YtponhohdpophlaaGreatDoorRows.lean that lists a variable, with what it lists TIED to the program's text (the seventh form; the later family's looks); each row that meets fmt, with fmt's text TOLD by the authors' own Lean function (tested against real Go, not proved from fmt's source: count such statements apart). THE CARD IS WHAT COUNTS. Prove the row's statement (the work); the ties are given (YtponhohdpophlaaGreatDoorTie.lean); close each card by the builder's one call (the guide's Derived/Test/ToyasCard.lean, 'card_holds'). Laid BY PROGRAM, IN A SANDBOX (cutbox-door.mjs). By AI agents, Wed Nov 11 2026. No macro, syntax, notation, axiom, sorry.
-/
import Derived.Test.YtponhohdpophlaaGreatDoorRows
import GoSem.ClaimSeven
namespace Go.Proofs.YtponhohdpophlaaGreatDoor
namespace Rows

/-- THE TIED CARD OF 'postbaglaw.Talks'. -/
def talksCard : Claim7 := { stood := { row := talksRow, standIns := [], harness := (true, "4878d83a0b7477f1d727f17bb49d6c8b4a0779203531048e3c28abac58b07259"), looks := true }, kinds := [], alts := [], laidByText := true, laidKinds := [.pinned, .data, .pinned, .data, .data, .data, .data, .data, .sentinel, .sentinel], laidTests := true, laidLooks := .later }
def TalksCardSaid : Prop := Claim7.holds Tryz.pinned (.plain (OpenSpec.ofChange talksSpec)) talksCard

/-- THE TIED CARD OF 'postbaglaw.All'. -/
def allCard : Claim7 := { stood := { row := allRow, standIns := [], harness := (true, "4878d83a0b7477f1d727f17bb49d6c8b4a0779203531048e3c28abac58b07259"), looks := true }, kinds := [], alts := [], laidByText := true, laidKinds := [.pinned, .data, .pinned, .data, .data, .data, .data, .data, .sentinel, .sentinel], laidTests := true, laidLooks := .later }
def AllCardSaid : Prop := Claim7.holds Tryz.pinned (.plain (OpenSpec.ofChange allSpec)) allCard

/-- THE SECOND FORM's CARD OF 'postbaglaw.Talks'. -/
def talksUptoCard : Claim7 := { stood := { row := talksUptoRow, standIns := [], harness := (true, "4878d83a0b7477f1d727f17bb49d6c8b4a0779203531048e3c28abac58b07259"), looks := true }, kinds := [], alts := [], laidByText := true, laidKinds := [.pinned, .data, .pinned, .data, .data, .data, .data, .data, .sentinel, .sentinel], laidTests := true, laidLooks := .later }
def TalksUptoCardSaid : Prop := Claim7.holds Tryz.pinned (.plain (OpenSpec.upto talksSpec)) talksUptoCard

/-- THE SECOND FORM's CARD OF 'postbaglaw.All'. -/
def allUptoCard : Claim7 := { stood := { row := allUptoRow, standIns := [], harness := (true, "4878d83a0b7477f1d727f17bb49d6c8b4a0779203531048e3c28abac58b07259"), looks := true }, kinds := [], alts := [], laidByText := true, laidKinds := [.pinned, .data, .pinned, .data, .data, .data, .data, .data, .sentinel, .sentinel], laidTests := true, laidLooks := .later }
def AllUptoCardSaid : Prop := Claim7.holds Tryz.pinned (.plain (OpenSpec.upto allSpec)) allUptoCard
end Rows
end Go.Proofs.YtponhohdpophlaaGreatDoor
