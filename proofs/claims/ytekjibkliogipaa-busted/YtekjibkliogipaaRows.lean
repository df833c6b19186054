/-
  No cell of these rows narrows 'for every input' (looked for: loops, veiled, ifaces, maps, wideKeys, modest, calm, conditions, laid).
  DERIVED. THE GIVEN ROWS OF THIS SEAT. 4 by the template 'for every input the law returns true; each argument reads behind the call as it read before'; 0 by the template 'total and deterministic' (their statements: YtekjibkliogipaaTotals.lean).
  GIVEN WITH THE SEED: the statements are not yours to turn. If you find one false, say at which input.
  Laid BY PROGRAM, IN A SANDBOX (cutbox-rows.mjs): the forced cells as the released guide's own fill.sh prints them over the translation f32ebbea153c1741… (all of the seat's roots in one cut). By AI agents, Wed Nov 11 2026. No macro, syntax, notation, axiom, sorry.
-/
import Derived.Test.YtekjibkliogipaaChecked
import GoSem.Claim
import GoSem.ClaimJoined
import GoSem.ClaimMapViews
import Derived.JoinedTies
import Derived.KernelRfl
namespace Go.Proofs.Ytekjibkliogipaa
/- THE CELL 'sum', in the pinned program and in every row, IS THE sha256 OF THE DUMP (.gsa) THAT YtekjibkliogipaaProg.lean LOADS. Nothing in Lean hashes anything: it is a label: what it is worth is what the hold of that sum in a sandbox is worth. -/
noncomputable def Try.pinned : Pinned := { name := "ytekjibkliogipaa", sum := "f32ebbea153c17418e7219f0fb84ed76fc7efe9952954f2f6bb4effe1285f0aa", checked := Try.checked }
namespace Rows
def none {H : Type} : Left H := { results := [], args := [] }

/-- 'venuekeep.Counted': WHATEVER THE INPUT: true; the input reads as it did. -/
def countedSpec : ChangeSpec := { name := "counted", fn := fun _ => fun
  | [d] => { results := [.lit (.bool true)], args := [d] }
  | _ => none }
def countedRow : OpenClaim := { program := "ytekjibkliogipaa", sum := "f32ebbea153c17418e7219f0fb84ed76fc7efe9952954f2f6bb4effe1285f0aa", func := "venue/venuekeep.Counted", spec := "counted", unfollowed := true, recurses := true, apart := false }
def CountedSaid : Prop := countedRow.holds Try.pinned (OpenSpec.ofChange countedSpec)

/-- ITS FALSE NEIGHBOUR: 'it returns false'. Refute it at one input. -/
def countedWrong : ChangeSpec := { name := "counted", fn := fun _ => fun
  | [d] => { results := [.lit (.bool false)], args := [d] }
  | _ => none }
def CountedWrongFalsely : Prop := countedRow.holds Try.pinned (OpenSpec.ofChange countedWrong)

/-- 'venuekeep.Swept': WHATEVER THE INPUT: true; the input reads as it did. -/
def sweptSpec : ChangeSpec := { name := "swept", fn := fun _ => fun
  | [d1, d2] => { results := [.lit (.bool true)], args := [d1, d2] }
  | _ => none }
def sweptRow : OpenClaim := { program := "ytekjibkliogipaa", sum := "f32ebbea153c17418e7219f0fb84ed76fc7efe9952954f2f6bb4effe1285f0aa", func := "venue/venuekeep.Swept", spec := "swept", unfollowed := true, recurses := true, apart := false }
def SweptSaid : Prop := sweptRow.holds Try.pinned (OpenSpec.ofChange sweptSpec)

/-- ITS FALSE NEIGHBOUR: 'it returns false'. Refute it at one input. -/
def sweptWrong : ChangeSpec := { name := "swept", fn := fun _ => fun
  | [d1, d2] => { results := [.lit (.bool false)], args := [d1, d2] }
  | _ => none }
def SweptWrongFalsely : Prop := sweptRow.holds Try.pinned (OpenSpec.ofChange sweptWrong)

/-- 'venuekeep.Amends': WHATEVER THE INPUT: true; the input reads as it did. -/
def amendsSpec : ChangeSpec := { name := "amends", fn := fun _ => fun
  | [d] => { results := [.lit (.bool true)], args := [d] }
  | _ => none }
def amendsRow : OpenClaim := { program := "ytekjibkliogipaa", sum := "f32ebbea153c17418e7219f0fb84ed76fc7efe9952954f2f6bb4effe1285f0aa", func := "venue/venuekeep.Amends", spec := "amends", unfollowed := true, recurses := true, apart := false }
def AmendsSaid : Prop := amendsRow.holds Try.pinned (OpenSpec.ofChange amendsSpec)

/-- ITS FALSE NEIGHBOUR: 'it returns false'. Refute it at one input. -/
def amendsWrong : ChangeSpec := { name := "amends", fn := fun _ => fun
  | [d] => { results := [.lit (.bool false)], args := [d] }
  | _ => none }
def AmendsWrongFalsely : Prop := amendsRow.holds Try.pinned (OpenSpec.ofChange amendsWrong)

/-- 'venuekeep.Busted': WHATEVER THE INPUT: true; the input reads as it did. -/
def bustedSpec : ChangeSpec := { name := "busted", fn := fun _ => fun
  | [d1, d2, d3, d4] => { results := [.lit (.bool true)], args := [d1, d2, d3, d4] }
  | _ => none }
def bustedRow : OpenClaim := { program := "ytekjibkliogipaa", sum := "f32ebbea153c17418e7219f0fb84ed76fc7efe9952954f2f6bb4effe1285f0aa", func := "venue/venuekeep.Busted", spec := "busted", unfollowed := true, recurses := true, apart := false }
def BustedSaid : Prop := bustedRow.holds Try.pinned (OpenSpec.ofChange bustedSpec)

/-- ITS FALSE NEIGHBOUR: 'it returns false'. Refute it at one input. -/
def bustedWrong : ChangeSpec := { name := "busted", fn := fun _ => fun
  | [d1, d2, d3, d4] => { results := [.lit (.bool false)], args := [d1, d2, d3, d4] }
  | _ => none }
def BustedWrongFalsely : Prop := bustedRow.holds Try.pinned (OpenSpec.ofChange bustedWrong)

/- THE SECOND FORM. 'bulk': how many values and letters a reading holds, each counted each time it is reached (what is shared counts as often as it is met; a slice's spare places count too). A statement '..UptoSaid' is the law's where the arguments, and the package variables that the reading takes, are together of bulk at most 1048576: NARROWER than '..Said'. Prove '..Said' where nothing that the law and all that it calls make is longer than what came in: it says more and counts as full. Else prove '..UptoSaid'. A law counts once. -/
mutual
def uptoBulk {H : Type} : DataW H → Nat
  | .lit (.string bytes) => bytes.length + 1
  | .lit _ => 1
  | .nil => 1
  | .ptr d => uptoBulk d + 1
  | .slice elems spare => uptoBulkAll elems + uptoBulkAll spare + 1
  | .agg parts => uptoBulkAll parts + 1
  | .iface _ d => uptoBulk d + 1
  | .map entries => uptoBulkEntries entries + 1
  | .held _ => 1
def uptoBulkAll {H : Type} : List (DataW H) → Nat
  | [] => 0
  | d :: r => uptoBulk d + uptoBulkAll r
def uptoBulkEntries {H : Type} : List (Lit × DataW H) → Nat
  | [] => 0
  | x :: r => uptoBulkEntry x + uptoBulkEntries r
def uptoBulkEntry {H : Type} : Lit × DataW H → Nat
  | (.string bytes, d) => bytes.length + uptoBulk d + 1
  | (_, d) => uptoBulk d + 1
 end
def uptoSmall : (H : Type) → List (DataW H) → Bool := fun _ ds => decide (uptoBulkAll ds ≤ 1048576)
def OpenSpec.upto (s : _root_.Go.ChangeSpec) : _root_.Go.OpenSpec := { _root_.Go.OpenSpec.ofChange s with cond := some uptoSmall }

/-- 'venuekeep.Counted', WHERE WHAT IT READS IS OF BULK AT MOST 1048576: true; the input reads as it did. -/
def countedUptoRow : OpenClaim := { program := "ytekjibkliogipaa", sum := "f32ebbea153c17418e7219f0fb84ed76fc7efe9952954f2f6bb4effe1285f0aa", func := "venue/venuekeep.Counted", spec := "counted", unfollowed := true, recurses := true, apart := false, narrowed := true }
def CountedUptoSaid : Prop := countedUptoRow.holds Try.pinned (OpenSpec.upto countedSpec)

/-- 'venuekeep.Swept', WHERE WHAT IT READS IS OF BULK AT MOST 1048576: true; the input reads as it did. -/
def sweptUptoRow : OpenClaim := { program := "ytekjibkliogipaa", sum := "f32ebbea153c17418e7219f0fb84ed76fc7efe9952954f2f6bb4effe1285f0aa", func := "venue/venuekeep.Swept", spec := "swept", unfollowed := true, recurses := true, apart := false, narrowed := true }
def SweptUptoSaid : Prop := sweptUptoRow.holds Try.pinned (OpenSpec.upto sweptSpec)

/-- 'venuekeep.Amends', WHERE WHAT IT READS IS OF BULK AT MOST 1048576: true; the input reads as it did. -/
def amendsUptoRow : OpenClaim := { program := "ytekjibkliogipaa", sum := "f32ebbea153c17418e7219f0fb84ed76fc7efe9952954f2f6bb4effe1285f0aa", func := "venue/venuekeep.Amends", spec := "amends", unfollowed := true, recurses := true, apart := false, narrowed := true }
def AmendsUptoSaid : Prop := amendsUptoRow.holds Try.pinned (OpenSpec.upto amendsSpec)

/-- 'venuekeep.Busted', WHERE WHAT IT READS IS OF BULK AT MOST 1048576: true; the input reads as it did. -/
def bustedUptoRow : OpenClaim := { program := "ytekjibkliogipaa", sum := "f32ebbea153c17418e7219f0fb84ed76fc7efe9952954f2f6bb4effe1285f0aa", func := "venue/venuekeep.Busted", spec := "busted", unfollowed := true, recurses := true, apart := false, narrowed := true }
def BustedUptoSaid : Prop := bustedUptoRow.holds Try.pinned (OpenSpec.upto bustedSpec)

end Rows
end Go.Proofs.Ytekjibkliogipaa
