/-
  DERIVED. GIVEN WITH THE SEED: THE CARDS: each row of YtigaphnafnpfnaaGreatDoorRows.lean that lists a variable, with what it lists TIED to the program's text (the seventh form; the later family's looks); each row that meets fmt, with fmt's text TOLD by the authors' own Lean function (tested against real Go, not proved from fmt's source: count such statements apart). THE CARD IS WHAT COUNTS. Prove the row's statement (the work); the ties are given (YtigaphnafnpfnaaGreatDoorTie.lean); close each card by the builder's one call (the guide's Derived/Test/ToyasCard.lean, 'card_holds'). Laid BY PROGRAM, IN A SANDBOX (cutbox-door.mjs). By AI agents, Wed Nov 11 2026. No macro, syntax, notation, axiom, sorry.
-/
import Derived.Test.YtigaphnafnpfnaaGreatDoorRows
import GoSem.ClaimSeven
namespace Go.Proofs.YtigaphnafnpfnaaGreatDoor
namespace Rows

/-- THE TIED CARD OF 'venuelaw.Entered'. -/
def enteredCard : Claim7 := { stood := { row := enteredRow, standIns := [], harness := (true, "e127d57629eeead8992f71fde88e64fc7311642a2a264de7ef45538411493ed3"), looks := true }, kinds := [], alts := [], laidByText := true, laidKinds := [.data, .data, .data, .data, .sentinel, .sentinel, .pinned], laidTests := true, laidLooks := .later }
def EnteredCardSaid : Prop := Claim7.holds Tryz.pinned (.plain (OpenSpec.ofChange enteredSpec)) enteredCard

/-- THE TIED CARD OF 'venuelaw.Shown'. -/
def shownCard : Claim7 := { stood := { row := shownRow, standIns := [], harness := (true, "e127d57629eeead8992f71fde88e64fc7311642a2a264de7ef45538411493ed3"), looks := true }, kinds := [], alts := [], laidByText := true, laidKinds := [.data, .data, .data, .data, .sentinel, .sentinel, .pinned], laidTests := true, laidLooks := .later }
def ShownCardSaid : Prop := Claim7.holds Tryz.pinned (.plain (OpenSpec.ofChange shownSpec)) shownCard

/-- THE TIED CARD OF 'venuelaw.Amended'. -/
def amendedCard : Claim7 := { stood := { row := amendedRow, standIns := [], harness := (true, "e127d57629eeead8992f71fde88e64fc7311642a2a264de7ef45538411493ed3"), looks := true }, kinds := [], alts := [], laidByText := true, laidKinds := [.data, .data, .data, .data, .sentinel, .sentinel, .pinned], laidTests := true, laidLooks := .later }
def AmendedCardSaid : Prop := Claim7.holds Tryz.pinned (.plain (OpenSpec.ofChange amendedSpec)) amendedCard

/-- THE TIED CARD OF 'venuelaw.Undoes'. -/
def undoesCard : Claim7 := { stood := { row := undoesRow, standIns := [], harness := (true, "e127d57629eeead8992f71fde88e64fc7311642a2a264de7ef45538411493ed3"), looks := true }, kinds := [], alts := [], laidByText := true, laidKinds := [.data, .data, .data, .data, .sentinel, .sentinel, .pinned], laidTests := true, laidLooks := .later }
def UndoesCardSaid : Prop := Claim7.holds Tryz.pinned (.plain (OpenSpec.ofChange undoesSpec)) undoesCard

/-- THE TIED CARD OF 'venuelaw.Journaled'. -/
def journaledCard : Claim7 := { stood := { row := journaledRow, standIns := [], harness := (true, "e127d57629eeead8992f71fde88e64fc7311642a2a264de7ef45538411493ed3"), looks := true }, kinds := [], alts := [], laidByText := true, laidKinds := [.data, .data, .data, .data, .sentinel, .sentinel, .pinned], laidTests := true, laidLooks := .later }
def JournaledCardSaid : Prop := Claim7.holds Tryz.pinned (.plain (OpenSpec.ofChange journaledSpec)) journaledCard

/-- THE TIED CARD OF 'venuelaw.All'. -/
def allCard : Claim7 := { stood := { row := allRow, standIns := [], harness := (true, "e127d57629eeead8992f71fde88e64fc7311642a2a264de7ef45538411493ed3"), looks := true }, kinds := [], alts := [], laidByText := true, laidKinds := [.data, .data, .data, .data, .sentinel, .sentinel, .pinned], laidTests := true, laidLooks := .later }
def AllCardSaid : Prop := Claim7.holds Tryz.pinned (.plain (OpenSpec.ofChange allSpec)) allCard

/-- THE TIED CARD OF 'venuekeep.Counted'. -/
def countedCard : Claim7 := { stood := { row := countedRow, standIns := [], harness := (true, "e127d57629eeead8992f71fde88e64fc7311642a2a264de7ef45538411493ed3"), looks := true }, kinds := [], alts := [], laidByText := true, laidKinds := [.data, .data, .data], laidTests := true, laidLooks := .later }
def CountedCardSaid : Prop := Claim7.holds Tryz.pinned (.plain (OpenSpec.ofChange countedSpec)) countedCard

/-- THE TIED CARD OF 'venuekeep.Amends'. -/
def amendsCard : Claim7 := { stood := { row := amendsRow, standIns := [], harness := (true, "e127d57629eeead8992f71fde88e64fc7311642a2a264de7ef45538411493ed3"), looks := true }, kinds := [], alts := [], laidByText := true, laidKinds := [.data, .data, .data], laidTests := true, laidLooks := .later }
def AmendsCardSaid : Prop := Claim7.holds Tryz.pinned (.plain (OpenSpec.ofChange amendsSpec)) amendsCard

/-- THE TIED CARD OF 'venuekeep.Undone'. -/
def undoneCard : Claim7 := { stood := { row := undoneRow, standIns := [], harness := (true, "e127d57629eeead8992f71fde88e64fc7311642a2a264de7ef45538411493ed3"), looks := true }, kinds := [], alts := [], laidByText := true, laidKinds := [.data, .data, .data], laidTests := true, laidLooks := .later }
def UndoneCardSaid : Prop := Claim7.holds Tryz.pinned (.plain (OpenSpec.ofChange undoneSpec)) undoneCard

/-- THE TIED CARD OF 'venuekeep.Restored'. -/
def restoredCard : Claim7 := { stood := { row := restoredRow, standIns := [], harness := (true, "e127d57629eeead8992f71fde88e64fc7311642a2a264de7ef45538411493ed3"), looks := true }, kinds := [], alts := [], laidByText := true, laidKinds := [.data, .data, .data, .data, .sentinel, .sentinel, .pinned], laidTests := true, laidLooks := .later }
def RestoredCardSaid : Prop := Claim7.holds Tryz.pinned (.plain (OpenSpec.ofChange restoredSpec)) restoredCard

/-- THE SECOND FORM's CARD OF 'venuelaw.Entered'. -/
def enteredUptoCard : Claim7 := { stood := { row := enteredUptoRow, standIns := [], harness := (true, "e127d57629eeead8992f71fde88e64fc7311642a2a264de7ef45538411493ed3"), looks := true }, kinds := [], alts := [], laidByText := true, laidKinds := [.data, .data, .data, .data, .sentinel, .sentinel, .pinned], laidTests := true, laidLooks := .later }
def EnteredUptoCardSaid : Prop := Claim7.holds Tryz.pinned (.plain (OpenSpec.upto enteredSpec)) enteredUptoCard

/-- THE SECOND FORM's CARD OF 'venuelaw.Shown'. -/
def shownUptoCard : Claim7 := { stood := { row := shownUptoRow, standIns := [], harness := (true, "e127d57629eeead8992f71fde88e64fc7311642a2a264de7ef45538411493ed3"), looks := true }, kinds := [], alts := [], laidByText := true, laidKinds := [.data, .data, .data, .data, .sentinel, .sentinel, .pinned], laidTests := true, laidLooks := .later }
def ShownUptoCardSaid : Prop := Claim7.holds Tryz.pinned (.plain (OpenSpec.upto shownSpec)) shownUptoCard

/-- THE SECOND FORM's CARD OF 'venuelaw.Amended'. -/
def amendedUptoCard : Claim7 := { stood := { row := amendedUptoRow, standIns := [], harness := (true, "e127d57629eeead8992f71fde88e64fc7311642a2a264de7ef45538411493ed3"), looks := true }, kinds := [], alts := [], laidByText := true, laidKinds := [.data, .data, .data, .data, .sentinel, .sentinel, .pinned], laidTests := true, laidLooks := .later }
def AmendedUptoCardSaid : Prop := Claim7.holds Tryz.pinned (.plain (OpenSpec.upto amendedSpec)) amendedUptoCard

/-- THE SECOND FORM's CARD OF 'venuelaw.Undoes'. -/
def undoesUptoCard : Claim7 := { stood := { row := undoesUptoRow, standIns := [], harness := (true, "e127d57629eeead8992f71fde88e64fc7311642a2a264de7ef45538411493ed3"), looks := true }, kinds := [], alts := [], laidByText := true, laidKinds := [.data, .data, .data, .data, .sentinel, .sentinel, .pinned], laidTests := true, laidLooks := .later }
def UndoesUptoCardSaid : Prop := Claim7.holds Tryz.pinned (.plain (OpenSpec.upto undoesSpec)) undoesUptoCard

/-- THE SECOND FORM's CARD OF 'venuelaw.Journaled'. -/
def journaledUptoCard : Claim7 := { stood := { row := journaledUptoRow, standIns := [], harness := (true, "e127d57629eeead8992f71fde88e64fc7311642a2a264de7ef45538411493ed3"), looks := true }, kinds := [], alts := [], laidByText := true, laidKinds := [.data, .data, .data, .data, .sentinel, .sentinel, .pinned], laidTests := true, laidLooks := .later }
def JournaledUptoCardSaid : Prop := Claim7.holds Tryz.pinned (.plain (OpenSpec.upto journaledSpec)) journaledUptoCard

/-- THE SECOND FORM's CARD OF 'venuelaw.All'. -/
def allUptoCard : Claim7 := { stood := { row := allUptoRow, standIns := [], harness := (true, "e127d57629eeead8992f71fde88e64fc7311642a2a264de7ef45538411493ed3"), looks := true }, kinds := [], alts := [], laidByText := true, laidKinds := [.data, .data, .data, .data, .sentinel, .sentinel, .pinned], laidTests := true, laidLooks := .later }
def AllUptoCardSaid : Prop := Claim7.holds Tryz.pinned (.plain (OpenSpec.upto allSpec)) allUptoCard

/-- THE SECOND FORM's CARD OF 'venuekeep.Counted'. -/
def countedUptoCard : Claim7 := { stood := { row := countedUptoRow, standIns := [], harness := (true, "e127d57629eeead8992f71fde88e64fc7311642a2a264de7ef45538411493ed3"), looks := true }, kinds := [], alts := [], laidByText := true, laidKinds := [.data, .data, .data], laidTests := true, laidLooks := .later }
def CountedUptoCardSaid : Prop := Claim7.holds Tryz.pinned (.plain (OpenSpec.upto countedSpec)) countedUptoCard

/-- THE SECOND FORM's CARD OF 'venuekeep.Amends'. -/
def amendsUptoCard : Claim7 := { stood := { row := amendsUptoRow, standIns := [], harness := (true, "e127d57629eeead8992f71fde88e64fc7311642a2a264de7ef45538411493ed3"), looks := true }, kinds := [], alts := [], laidByText := true, laidKinds := [.data, .data, .data], laidTests := true, laidLooks := .later }
def AmendsUptoCardSaid : Prop := Claim7.holds Tryz.pinned (.plain (OpenSpec.upto amendsSpec)) amendsUptoCard

/-- THE SECOND FORM's CARD OF 'venuekeep.Undone'. -/
def undoneUptoCard : Claim7 := { stood := { row := undoneUptoRow, standIns := [], harness := (true, "e127d57629eeead8992f71fde88e64fc7311642a2a264de7ef45538411493ed3"), looks := true }, kinds := [], alts := [], laidByText := true, laidKinds := [.data, .data, .data], laidTests := true, laidLooks := .later }
def UndoneUptoCardSaid : Prop := Claim7.holds Tryz.pinned (.plain (OpenSpec.upto undoneSpec)) undoneUptoCard

/-- THE SECOND FORM's CARD OF 'venuekeep.Restored'. -/
def restoredUptoCard : Claim7 := { stood := { row := restoredUptoRow, standIns := [], harness := (true, "e127d57629eeead8992f71fde88e64fc7311642a2a264de7ef45538411493ed3"), looks := true }, kinds := [], alts := [], laidByText := true, laidKinds := [.data, .data, .data, .data, .sentinel, .sentinel, .pinned], laidTests := true, laidLooks := .later }
def RestoredUptoCardSaid : Prop := Claim7.holds Tryz.pinned (.plain (OpenSpec.upto restoredSpec)) restoredUptoCard
end Rows
end Go.Proofs.YtigaphnafnpfnaaGreatDoor
