/-
  DERIVED. GIVEN WITH THE SEED: THE CARDS: each row of YtofpegbpgkkgkaaGreatDoorRows.lean that lists a variable, with what it lists TIED to the program's text (the seventh form; the later family's looks); each row that meets fmt, with fmt's text TOLD by the authors' own Lean function (tested against real Go, not proved from fmt's source: count such statements apart). THE CARD IS WHAT COUNTS. Prove the row's statement (the work); the ties are given (YtofpegbpgkkgkaaGreatDoorTie.lean); close each card by the builder's one call (the guide's Derived/Test/ToyasCard.lean, 'card_holds'). Laid BY PROGRAM, IN A SANDBOX (cutbox-door.mjs). By AI agents, Wed Nov 11 2026. No macro, syntax, notation, axiom, sorry.
-/
import Derived.Test.YtofpegbpgkkgkaaGreatDoorRows
import GoSem.ClaimSeven
namespace Go.Proofs.YtofpegbpgkkgkaaGreatDoor
namespace Rows

/-- THE TIED CARD OF 'postbagkeep.Guarded'. -/
def guardedCard : Claim7 := { stood := { row := guardedRow, standIns := [], harness := (true, "253c0fd2af96cc9fef4a4e57b5f30598f5c61cc7513c4def4dc1f3c75e43e6cf"), looks := true }, kinds := [], alts := [], laidByText := true, laidKinds := [.data, .data, .data, .data, .sentinel, .sentinel, .data, .data, .pinned, .pinned], laidTests := true, laidLooks := .later }
def GuardedCardSaid : Prop := Claim7.holds Tryz.pinned (.plain (OpenSpec.ofChange guardedSpec)) guardedCard

/-- THE TIED CARD OF 'postbagkeep.Lasting'. -/
def lastingCard : Claim7 := { stood := { row := lastingRow, standIns := [], harness := (true, "253c0fd2af96cc9fef4a4e57b5f30598f5c61cc7513c4def4dc1f3c75e43e6cf"), looks := true }, kinds := [], alts := [], laidByText := true, laidKinds := [.data, .data, .data, .data, .sentinel, .sentinel, .data, .data, .pinned, .pinned], laidTests := true, laidLooks := .later }
def LastingCardSaid : Prop := Claim7.holds Tryz.pinned (.plain (OpenSpec.ofChange lastingSpec)) lastingCard

/-- THE TIED CARD OF 'postbagkeep.Empties'. -/
def emptiesCard : Claim7 := { stood := { row := emptiesRow, standIns := [], harness := (true, "253c0fd2af96cc9fef4a4e57b5f30598f5c61cc7513c4def4dc1f3c75e43e6cf"), looks := true }, kinds := [], alts := [], laidByText := true, laidKinds := [.data, .data, .data, .data, .sentinel, .sentinel, .data, .data, .pinned, .pinned], laidTests := true, laidLooks := .later }
def EmptiesCardSaid : Prop := Claim7.holds Tryz.pinned (.plain (OpenSpec.ofChange emptiesSpec)) emptiesCard

/-- THE TIED CARD OF 'postbagkeep.Returned'. -/
def returnedCard : Claim7 := { stood := { row := returnedRow, standIns := [], harness := (true, "253c0fd2af96cc9fef4a4e57b5f30598f5c61cc7513c4def4dc1f3c75e43e6cf"), looks := true }, kinds := [], alts := [], laidByText := true, laidKinds := [.data, .data, .data, .data, .sentinel, .sentinel, .data, .data, .pinned, .pinned], laidTests := true, laidLooks := .later }
def ReturnedCardSaid : Prop := Claim7.holds Tryz.pinned (.plain (OpenSpec.ofChange returnedSpec)) returnedCard

/-- THE SECOND FORM's CARD OF 'postbagkeep.Guarded'. -/
def guardedUptoCard : Claim7 := { stood := { row := guardedUptoRow, standIns := [], harness := (true, "253c0fd2af96cc9fef4a4e57b5f30598f5c61cc7513c4def4dc1f3c75e43e6cf"), looks := true }, kinds := [], alts := [], laidByText := true, laidKinds := [.data, .data, .data, .data, .sentinel, .sentinel, .data, .data, .pinned, .pinned], laidTests := true, laidLooks := .later }
def GuardedUptoCardSaid : Prop := Claim7.holds Tryz.pinned (.plain (OpenSpec.upto guardedSpec)) guardedUptoCard

/-- THE SECOND FORM's CARD OF 'postbagkeep.Lasting'. -/
def lastingUptoCard : Claim7 := { stood := { row := lastingUptoRow, standIns := [], harness := (true, "253c0fd2af96cc9fef4a4e57b5f30598f5c61cc7513c4def4dc1f3c75e43e6cf"), looks := true }, kinds := [], alts := [], laidByText := true, laidKinds := [.data, .data, .data, .data, .sentinel, .sentinel, .data, .data, .pinned, .pinned], laidTests := true, laidLooks := .later }
def LastingUptoCardSaid : Prop := Claim7.holds Tryz.pinned (.plain (OpenSpec.upto lastingSpec)) lastingUptoCard

/-- THE SECOND FORM's CARD OF 'postbagkeep.Empties'. -/
def emptiesUptoCard : Claim7 := { stood := { row := emptiesUptoRow, standIns := [], harness := (true, "253c0fd2af96cc9fef4a4e57b5f30598f5c61cc7513c4def4dc1f3c75e43e6cf"), looks := true }, kinds := [], alts := [], laidByText := true, laidKinds := [.data, .data, .data, .data, .sentinel, .sentinel, .data, .data, .pinned, .pinned], laidTests := true, laidLooks := .later }
def EmptiesUptoCardSaid : Prop := Claim7.holds Tryz.pinned (.plain (OpenSpec.upto emptiesSpec)) emptiesUptoCard

/-- THE SECOND FORM's CARD OF 'postbagkeep.Returned'. -/
def returnedUptoCard : Claim7 := { stood := { row := returnedUptoRow, standIns := [], harness := (true, "253c0fd2af96cc9fef4a4e57b5f30598f5c61cc7513c4def4dc1f3c75e43e6cf"), looks := true }, kinds := [], alts := [], laidByText := true, laidKinds := [.data, .data, .data, .data, .sentinel, .sentinel, .data, .data, .pinned, .pinned], laidTests := true, laidLooks := .later }
def ReturnedUptoCardSaid : Prop := Claim7.holds Tryz.pinned (.plain (OpenSpec.upto returnedSpec)) returnedUptoCard
end Rows
end Go.Proofs.YtofpegbpgkkgkaaGreatDoor
