/-
  DERIVED. GIVEN WITH THE SEED: THE CARDS: each row of YtigaphnafnpfnaaDoorRows.lean that lists a variable, with what it lists TIED to the program's text (the seventh form; the later family's looks); each row that meets fmt, with fmt's text TOLD by the authors' own Lean function (tested against real Go, not proved from fmt's source: count such statements apart). THE CARD IS WHAT COUNTS. Prove the row's statement (the work); the ties are given (YtigaphnafnpfnaaDoorTie.lean); close each card by the builder's one call (the guide's Derived/Test/ToyasCard.lean, 'card_holds'). Laid BY PROGRAM, IN A SANDBOX (cutbox-door.mjs). By AI agents, Wed Nov 11 2026. No macro, syntax, notation, axiom, sorry.
-/
import Derived.Test.YtigaphnafnpfnaaDoorRows
import GoSem.ClaimSeven
namespace Go.Proofs.YtigaphnafnpfnaaDoor
namespace Rows

/-- THE TIED CARD OF 'venuekeep.Swept'. -/
def sweptCard : Claim7 := { stood := { row := sweptRow, standIns := [], harness := (true, "2f79d2ff84abdec58bb4990d3497fae0d68f52875ba8c2d15ce5dc801361ecb2"), looks := true }, kinds := [], alts := [], laidByText := true, laidKinds := [.data, .data, .data], laidTests := true, laidLooks := .later }
def SweptCardSaid : Prop := Claim7.holds Tryd.pinned (.plain (OpenSpec.ofChange sweptSpec)) sweptCard

/-- THE TIED CARD OF 'venuekeep.Busted'. -/
def bustedCard : Claim7 := { stood := { row := bustedRow, standIns := [], harness := (true, "2f79d2ff84abdec58bb4990d3497fae0d68f52875ba8c2d15ce5dc801361ecb2"), looks := true }, kinds := [], alts := [], laidByText := true, laidKinds := [.data, .data, .data], laidTests := true, laidLooks := .later }
def BustedCardSaid : Prop := Claim7.holds Tryd.pinned (.plain (OpenSpec.ofChange bustedSpec)) bustedCard

/-- THE SECOND FORM's CARD OF 'venuekeep.Swept'. -/
def sweptUptoCard : Claim7 := { stood := { row := sweptUptoRow, standIns := [], harness := (true, "2f79d2ff84abdec58bb4990d3497fae0d68f52875ba8c2d15ce5dc801361ecb2"), looks := true }, kinds := [], alts := [], laidByText := true, laidKinds := [.data, .data, .data], laidTests := true, laidLooks := .later }
def SweptUptoCardSaid : Prop := Claim7.holds Tryd.pinned (.plain (OpenSpec.upto sweptSpec)) sweptUptoCard

/-- THE SECOND FORM's CARD OF 'venuekeep.Busted'. -/
def bustedUptoCard : Claim7 := { stood := { row := bustedUptoRow, standIns := [], harness := (true, "2f79d2ff84abdec58bb4990d3497fae0d68f52875ba8c2d15ce5dc801361ecb2"), looks := true }, kinds := [], alts := [], laidByText := true, laidKinds := [.data, .data, .data], laidTests := true, laidLooks := .later }
def BustedUptoCardSaid : Prop := Claim7.holds Tryd.pinned (.plain (OpenSpec.upto bustedSpec)) bustedUptoCard
end Rows
end Go.Proofs.YtigaphnafnpfnaaDoor
