/-
  No cell of these rows narrows 'for every input' (looked for: loops, veiled, ifaces, maps, wideKeys, modest, calm, conditions, laid).
  DERIVED. THE GIVEN ROWS OF THIS SEAT. 7 by the template 'for every input the law returns true; each argument reads behind the call as it read before'; 0 by the template 'total and deterministic' (their statements: YtafhnopgndemcaaGreatTotals.lean).
  GIVEN WITH THE SEED: the statements are not yours to turn. If you find one false, say at which input.
  Laid BY PROGRAM, IN A SANDBOX (cutbox-rows.mjs): the forced cells as the released guide's own fill.sh prints them over the translation dcf9492989a2c0fe… (all of the seat's roots in one cut). By AI agents, Wed Nov 11 2026. No macro, syntax, notation, axiom, sorry.
-/
import Derived.Test.YtafhnopgndemcaaGreatChecked
import GoSem.Claim
import GoSem.ClaimJoined
import GoSem.ClaimMapViews
import Derived.JoinedTies
import Derived.KernelRfl
namespace Go.Proofs.YtafhnopgndemcaaGreat
/- THE CELL 'sum', in the pinned program and in every row, IS THE sha256 OF THE DUMP (.gsa) THAT YtafhnopgndemcaaGreatProg.lean LOADS. Nothing in Lean hashes anything: it is a label: what it is worth is what the hold of that sum in a sandbox is worth. -/
noncomputable def Tryz.pinned : Pinned := { name := "ytafhnopgndemcaagreat", sum := "dcf9492989a2c0fe7ddea7fcd460db2251497b7f5bb2d19edebc8aece04184bd", checked := Tryz.checked }
namespace Rows
def none {H : Type} : Left H := { results := [], args := [] }

/-- 'venuelaw.Entered': WHATEVER THE INPUT: true; the input reads as it did. -/
def enteredSpec : ChangeSpec := { name := "entered", fn := fun _ => fun
  | [d] => { results := [.lit (.bool true)], args := [d] }
  | _ => none }
def enteredRow : OpenClaim := { program := "ytafhnopgndemcaagreat", sum := "dcf9492989a2c0fe7ddea7fcd460db2251497b7f5bb2d19edebc8aece04184bd", func := "venue/venuelaw.Entered", spec := "entered", unfollowed := true, recurses := true, apart := false }
def EnteredSaid : Prop := enteredRow.holds Tryz.pinned (OpenSpec.ofChange enteredSpec)

/-- ITS FALSE NEIGHBOUR: 'it returns false'. Refute it at one input. -/
def enteredWrong : ChangeSpec := { name := "entered", fn := fun _ => fun
  | [d] => { results := [.lit (.bool false)], args := [d] }
  | _ => none }
def EnteredWrongFalsely : Prop := enteredRow.holds Tryz.pinned (OpenSpec.ofChange enteredWrong)

/-- 'venuelaw.Shown': WHATEVER THE INPUT: true; the input reads as it did. -/
def shownSpec : ChangeSpec := { name := "shown", fn := fun _ => fun
  | [d] => { results := [.lit (.bool true)], args := [d] }
  | _ => none }
def shownRow : OpenClaim := { program := "ytafhnopgndemcaagreat", sum := "dcf9492989a2c0fe7ddea7fcd460db2251497b7f5bb2d19edebc8aece04184bd", func := "venue/venuelaw.Shown", spec := "shown", unfollowed := true, recurses := true, apart := false }
def ShownSaid : Prop := shownRow.holds Tryz.pinned (OpenSpec.ofChange shownSpec)

/-- ITS FALSE NEIGHBOUR: 'it returns false'. Refute it at one input. -/
def shownWrong : ChangeSpec := { name := "shown", fn := fun _ => fun
  | [d] => { results := [.lit (.bool false)], args := [d] }
  | _ => none }
def ShownWrongFalsely : Prop := shownRow.holds Tryz.pinned (OpenSpec.ofChange shownWrong)

/-- 'venuelaw.Amended': WHATEVER THE INPUT: true; the input reads as it did. -/
def amendedSpec : ChangeSpec := { name := "amended", fn := fun _ => fun
  | [d] => { results := [.lit (.bool true)], args := [d] }
  | _ => none }
def amendedRow : OpenClaim := { program := "ytafhnopgndemcaagreat", sum := "dcf9492989a2c0fe7ddea7fcd460db2251497b7f5bb2d19edebc8aece04184bd", func := "venue/venuelaw.Amended", spec := "amended", unfollowed := true, recurses := true, apart := false }
def AmendedSaid : Prop := amendedRow.holds Tryz.pinned (OpenSpec.ofChange amendedSpec)

/-- ITS FALSE NEIGHBOUR: 'it returns false'. Refute it at one input. -/
def amendedWrong : ChangeSpec := { name := "amended", fn := fun _ => fun
  | [d] => { results := [.lit (.bool false)], args := [d] }
  | _ => none }
def AmendedWrongFalsely : Prop := amendedRow.holds Tryz.pinned (OpenSpec.ofChange amendedWrong)

/-- 'venuelaw.Undoes': WHATEVER THE INPUT: true; the input reads as it did. -/
def undoesSpec : ChangeSpec := { name := "undoes", fn := fun _ => fun
  | [d] => { results := [.lit (.bool true)], args := [d] }
  | _ => none }
def undoesRow : OpenClaim := { program := "ytafhnopgndemcaagreat", sum := "dcf9492989a2c0fe7ddea7fcd460db2251497b7f5bb2d19edebc8aece04184bd", func := "venue/venuelaw.Undoes", spec := "undoes", unfollowed := true, recurses := true, apart := false }
def UndoesSaid : Prop := undoesRow.holds Tryz.pinned (OpenSpec.ofChange undoesSpec)

/-- ITS FALSE NEIGHBOUR: 'it returns false'. Refute it at one input. -/
def undoesWrong : ChangeSpec := { name := "undoes", fn := fun _ => fun
  | [d] => { results := [.lit (.bool false)], args := [d] }
  | _ => none }
def UndoesWrongFalsely : Prop := undoesRow.holds Tryz.pinned (OpenSpec.ofChange undoesWrong)

/-- 'venuekeep.Counted': WHATEVER THE INPUT: true; the input reads as it did. -/
def countedSpec : ChangeSpec := { name := "counted", fn := fun _ => fun
  | [d] => { results := [.lit (.bool true)], args := [d] }
  | _ => none }
def countedRow : OpenClaim := { program := "ytafhnopgndemcaagreat", sum := "dcf9492989a2c0fe7ddea7fcd460db2251497b7f5bb2d19edebc8aece04184bd", func := "venue/venuekeep.Counted", spec := "counted", unfollowed := true, recurses := true, apart := false }
def CountedSaid : Prop := countedRow.holds Tryz.pinned (OpenSpec.ofChange countedSpec)

/-- ITS FALSE NEIGHBOUR: 'it returns false'. Refute it at one input. -/
def countedWrong : ChangeSpec := { name := "counted", fn := fun _ => fun
  | [d] => { results := [.lit (.bool false)], args := [d] }
  | _ => none }
def CountedWrongFalsely : Prop := countedRow.holds Tryz.pinned (OpenSpec.ofChange countedWrong)

/-- 'venuekeep.Amends': WHATEVER THE INPUT: true; the input reads as it did. -/
def amendsSpec : ChangeSpec := { name := "amends", fn := fun _ => fun
  | [d] => { results := [.lit (.bool true)], args := [d] }
  | _ => none }
def amendsRow : OpenClaim := { program := "ytafhnopgndemcaagreat", sum := "dcf9492989a2c0fe7ddea7fcd460db2251497b7f5bb2d19edebc8aece04184bd", func := "venue/venuekeep.Amends", spec := "amends", unfollowed := true, recurses := true, apart := false }
def AmendsSaid : Prop := amendsRow.holds Tryz.pinned (OpenSpec.ofChange amendsSpec)

/-- ITS FALSE NEIGHBOUR: 'it returns false'. Refute it at one input. -/
def amendsWrong : ChangeSpec := { name := "amends", fn := fun _ => fun
  | [d] => { results := [.lit (.bool false)], args := [d] }
  | _ => none }
def AmendsWrongFalsely : Prop := amendsRow.holds Tryz.pinned (OpenSpec.ofChange amendsWrong)

/-- 'venuekeep.Undone': WHATEVER THE INPUT: true; the input reads as it did. -/
def undoneSpec : ChangeSpec := { name := "undone", fn := fun _ => fun
  | [d1, d2] => { results := [.lit (.bool true)], args := [d1, d2] }
  | _ => none }
def undoneRow : OpenClaim := { program := "ytafhnopgndemcaagreat", sum := "dcf9492989a2c0fe7ddea7fcd460db2251497b7f5bb2d19edebc8aece04184bd", func := "venue/venuekeep.Undone", spec := "undone", unfollowed := true, recurses := true, apart := false }
def UndoneSaid : Prop := undoneRow.holds Tryz.pinned (OpenSpec.ofChange undoneSpec)

/-- ITS FALSE NEIGHBOUR: 'it returns false'. Refute it at one input. -/
def undoneWrong : ChangeSpec := { name := "undone", fn := fun _ => fun
  | [d1, d2] => { results := [.lit (.bool false)], args := [d1, d2] }
  | _ => none }
def UndoneWrongFalsely : Prop := undoneRow.holds Tryz.pinned (OpenSpec.ofChange undoneWrong)

/- THE SECOND FORM. 'bulk': how many values and letters a reading holds, each counted each time it is reached (what is shared counts as often as it is met; a slice's spare places count too). A statement '..UptoSaid' is the law's where the arguments, and the package variables that the reading takes, are together of bulk at most 1048576: NARROWER than '..Said'. Prove '..Said' where nothing that the law and all that it calls make is longer than what came in: it says more and counts as full. Else prove '..UptoSaid'. A law counts once. -/
mutual
def uptoBulk {H : Type} : DataW H → Nat
  | .lit (.string bytes) => bytes.length + 1
  | .lit _ => 1
  | .nil => 1
  | .ptr d => uptoBulk d + 1
  | .slice elems spare => uptoBulkAll elems + uptoBulkAll spare + 1
  | .agg parts => uptoBulkAll parts + 1
  | .iface _ d => uptoBulk d + 1
  | .map entries => uptoBulkEntries entries + 1
  | .held _ => 1
def uptoBulkAll {H : Type} : List (DataW H) → Nat
  | [] => 0
  | d :: r => uptoBulk d + uptoBulkAll r
def uptoBulkEntries {H : Type} : List (Lit × DataW H) → Nat
  | [] => 0
  | x :: r => uptoBulkEntry x + uptoBulkEntries r
def uptoBulkEntry {H : Type} : Lit × DataW H → Nat
  | (.string bytes, d) => bytes.length + uptoBulk d + 1
  | (_, d) => uptoBulk d + 1
 end
def uptoSmall : (H : Type) → List (DataW H) → Bool := fun _ ds => decide (uptoBulkAll ds ≤ 1048576)
def OpenSpec.upto (s : _root_.Go.ChangeSpec) : _root_.Go.OpenSpec := { _root_.Go.OpenSpec.ofChange s with cond := some uptoSmall }

/-- 'venuelaw.Entered', WHERE WHAT IT READS IS OF BULK AT MOST 1048576: true; the input reads as it did. -/
def enteredUptoRow : OpenClaim := { program := "ytafhnopgndemcaagreat", sum := "dcf9492989a2c0fe7ddea7fcd460db2251497b7f5bb2d19edebc8aece04184bd", func := "venue/venuelaw.Entered", spec := "entered", unfollowed := true, recurses := true, apart := false, narrowed := true }
def EnteredUptoSaid : Prop := enteredUptoRow.holds Tryz.pinned (OpenSpec.upto enteredSpec)

/-- 'venuelaw.Shown', WHERE WHAT IT READS IS OF BULK AT MOST 1048576: true; the input reads as it did. -/
def shownUptoRow : OpenClaim := { program := "ytafhnopgndemcaagreat", sum := "dcf9492989a2c0fe7ddea7fcd460db2251497b7f5bb2d19edebc8aece04184bd", func := "venue/venuelaw.Shown", spec := "shown", unfollowed := true, recurses := true, apart := false, narrowed := true }
def ShownUptoSaid : Prop := shownUptoRow.holds Tryz.pinned (OpenSpec.upto shownSpec)

/-- 'venuelaw.Amended', WHERE WHAT IT READS IS OF BULK AT MOST 1048576: true; the input reads as it did. -/
def amendedUptoRow : OpenClaim := { program := "ytafhnopgndemcaagreat", sum := "dcf9492989a2c0fe7ddea7fcd460db2251497b7f5bb2d19edebc8aece04184bd", func := "venue/venuelaw.Amended", spec := "amended", unfollowed := true, recurses := true, apart := false, narrowed := true }
def AmendedUptoSaid : Prop := amendedUptoRow.holds Tryz.pinned (OpenSpec.upto amendedSpec)

/-- 'venuelaw.Undoes', WHERE WHAT IT READS IS OF BULK AT MOST 1048576: true; the input reads as it did. -/
def undoesUptoRow : OpenClaim := { program := "ytafhnopgndemcaagreat", sum := "dcf9492989a2c0fe7ddea7fcd460db2251497b7f5bb2d19edebc8aece04184bd", func := "venue/venuelaw.Undoes", spec := "undoes", unfollowed := true, recurses := true, apart := false, narrowed := true }
def UndoesUptoSaid : Prop := undoesUptoRow.holds Tryz.pinned (OpenSpec.upto undoesSpec)

/-- 'venuekeep.Counted', WHERE WHAT IT READS IS OF BULK AT MOST 1048576: true; the input reads as it did. -/
def countedUptoRow : OpenClaim := { program := "ytafhnopgndemcaagreat", sum := "dcf9492989a2c0fe7ddea7fcd460db2251497b7f5bb2d19edebc8aece04184bd", func := "venue/venuekeep.Counted", spec := "counted", unfollowed := true, recurses := true, apart := false, narrowed := true }
def CountedUptoSaid : Prop := countedUptoRow.holds Tryz.pinned (OpenSpec.upto countedSpec)

/-- 'venuekeep.Amends', WHERE WHAT IT READS IS OF BULK AT MOST 1048576: true; the input reads as it did. -/
def amendsUptoRow : OpenClaim := { program := "ytafhnopgndemcaagreat", sum := "dcf9492989a2c0fe7ddea7fcd460db2251497b7f5bb2d19edebc8aece04184bd", func := "venue/venuekeep.Amends", spec := "amends", unfollowed := true, recurses := true, apart := false, narrowed := true }
def AmendsUptoSaid : Prop := amendsUptoRow.holds Tryz.pinned (OpenSpec.upto amendsSpec)

/-- 'venuekeep.Undone', WHERE WHAT IT READS IS OF BULK AT MOST 1048576: true; the input reads as it did. -/
def undoneUptoRow : OpenClaim := { program := "ytafhnopgndemcaagreat", sum := "dcf9492989a2c0fe7ddea7fcd460db2251497b7f5bb2d19edebc8aece04184bd", func := "venue/venuekeep.Undone", spec := "undone", unfollowed := true, recurses := true, apart := false, narrowed := true }
def UndoneUptoSaid : Prop := undoneUptoRow.holds Tryz.pinned (OpenSpec.upto undoneSpec)

end Rows
end Go.Proofs.YtafhnopgndemcaaGreat
