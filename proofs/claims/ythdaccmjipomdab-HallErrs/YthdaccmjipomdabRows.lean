/-
  No cell of these rows narrows 'for every input' (looked for: loops, veiled, ifaces, maps, wideKeys, modest, calm, conditions, laid).
  DERIVED. THE GIVEN ROWS OF THIS SEAT. 5 by the template 'for every input the law returns true; each argument reads behind the call as it read before'; 0 by the template 'total and deterministic' (their statements: YthdaccmjipomdabTotals.lean).
  GIVEN WITH THE SEED: the statements are not yours to turn. If you find one false, say at which input.
  Laid BY PROGRAM, IN A SANDBOX (cutbox-rows.mjs): the forced cells as the released guide's own fill.sh prints them over the translation 7c9a77d941e5bbb0… (all of the seat's roots in one cut). By AI agents, Wed Nov 11 2026. No macro, syntax, notation, axiom, sorry.
-/
import Derived.Test.YthdaccmjipomdabChecked
import GoSem.Claim
import GoSem.ClaimJoined
import GoSem.ClaimMapViews
import Derived.JoinedTies
import Derived.KernelRfl
namespace Go.Proofs.Ythdaccmjipomdab
/- THE CELL 'sum', in the pinned program and in every row, IS THE sha256 OF THE DUMP (.gsa) THAT YthdaccmjipomdabProg.lean LOADS. Nothing in Lean hashes anything: it is a label: what it is worth is what the hold of that sum in a sandbox is worth. -/
noncomputable def Try.pinned : Pinned := { name := "ythdaccmjipomdab", sum := "7c9a77d941e5bbb0958bd57e3fc0cdaa742d26cb01eefa9f9d99f139de5a62bb", checked := Try.checked }
namespace Rows
def none {H : Type} : Left H := { results := [], args := [] }

/-- 'tglaw3.QueueFirst': WHATEVER THE INPUT: true; the input reads as it did. -/
def queueFirstSpec : ChangeSpec := { name := "queueFirst", fn := fun _ => fun
  | [d1, d2] => { results := [.lit (.bool true)], args := [d1, d2] }
  | _ => none }
def queueFirstRow : OpenClaim := { program := "ythdaccmjipomdab", sum := "7c9a77d941e5bbb0958bd57e3fc0cdaa742d26cb01eefa9f9d99f139de5a62bb", func := "trivetgate/tglaw3.QueueFirst", spec := "queueFirst", unfollowed := true, recurses := true, apart := false }
def QueueFirstSaid : Prop := queueFirstRow.holds Try.pinned (OpenSpec.ofChange queueFirstSpec)

/-- ITS FALSE NEIGHBOUR: 'it returns false'. Refute it at one input. -/
def queueFirstWrong : ChangeSpec := { name := "queueFirst", fn := fun _ => fun
  | [d1, d2] => { results := [.lit (.bool false)], args := [d1, d2] }
  | _ => none }
def QueueFirstWrongFalsely : Prop := queueFirstRow.holds Try.pinned (OpenSpec.ofChange queueFirstWrong)

/-- 'tglaw3.QueueTurn': WHATEVER THE INPUT: true; the input reads as it did. -/
def queueTurnSpec : ChangeSpec := { name := "queueTurn", fn := fun _ => fun
  | [d1, d2] => { results := [.lit (.bool true)], args := [d1, d2] }
  | _ => none }
def queueTurnRow : OpenClaim := { program := "ythdaccmjipomdab", sum := "7c9a77d941e5bbb0958bd57e3fc0cdaa742d26cb01eefa9f9d99f139de5a62bb", func := "trivetgate/tglaw3.QueueTurn", spec := "queueTurn", unfollowed := true, recurses := true, apart := false }
def QueueTurnSaid : Prop := queueTurnRow.holds Try.pinned (OpenSpec.ofChange queueTurnSpec)

/-- ITS FALSE NEIGHBOUR: 'it returns false'. Refute it at one input. -/
def queueTurnWrong : ChangeSpec := { name := "queueTurn", fn := fun _ => fun
  | [d1, d2] => { results := [.lit (.bool false)], args := [d1, d2] }
  | _ => none }
def QueueTurnWrongFalsely : Prop := queueTurnRow.holds Try.pinned (OpenSpec.ofChange queueTurnWrong)

/-- 'tglaw4.HallTells': WHATEVER THE INPUT: true; the input reads as it did. -/
def hallTellsSpec : ChangeSpec := { name := "hallTells", fn := fun _ => fun
  | [d1, d2, d3, d4, d5, d6] => { results := [.lit (.bool true)], args := [d1, d2, d3, d4, d5, d6] }
  | _ => none }
def hallTellsRow : OpenClaim := { program := "ythdaccmjipomdab", sum := "7c9a77d941e5bbb0958bd57e3fc0cdaa742d26cb01eefa9f9d99f139de5a62bb", func := "trivetgate/tglaw4.HallTells", spec := "hallTells", unfollowed := true, recurses := true, apart := false }
def HallTellsSaid : Prop := hallTellsRow.holds Try.pinned (OpenSpec.ofChange hallTellsSpec)

/-- ITS FALSE NEIGHBOUR: 'it returns false'. Refute it at one input. -/
def hallTellsWrong : ChangeSpec := { name := "hallTells", fn := fun _ => fun
  | [d1, d2, d3, d4, d5, d6] => { results := [.lit (.bool false)], args := [d1, d2, d3, d4, d5, d6] }
  | _ => none }
def HallTellsWrongFalsely : Prop := hallTellsRow.holds Try.pinned (OpenSpec.ofChange hallTellsWrong)

/-- 'tglaw4.HallErrs': WHATEVER THE INPUT: true; the input reads as it did. -/
def hallErrsSpec : ChangeSpec := { name := "hallErrs", fn := fun _ => fun
  | [d1, d2, d3, d4, d5] => { results := [.lit (.bool true)], args := [d1, d2, d3, d4, d5] }
  | _ => none }
def hallErrsRow : OpenClaim := { program := "ythdaccmjipomdab", sum := "7c9a77d941e5bbb0958bd57e3fc0cdaa742d26cb01eefa9f9d99f139de5a62bb", func := "trivetgate/tglaw4.HallErrs", spec := "hallErrs", unfollowed := true, recurses := true, apart := false }
def HallErrsSaid : Prop := hallErrsRow.holds Try.pinned (OpenSpec.ofChange hallErrsSpec)

/-- ITS FALSE NEIGHBOUR: 'it returns false'. Refute it at one input. -/
def hallErrsWrong : ChangeSpec := { name := "hallErrs", fn := fun _ => fun
  | [d1, d2, d3, d4, d5] => { results := [.lit (.bool false)], args := [d1, d2, d3, d4, d5] }
  | _ => none }
def HallErrsWrongFalsely : Prop := hallErrsRow.holds Try.pinned (OpenSpec.ofChange hallErrsWrong)

/-- 'tglaw4.HallDead': WHATEVER THE INPUT: true; the input reads as it did. -/
def hallDeadSpec : ChangeSpec := { name := "hallDead", fn := fun _ => fun
  | [d1, d2, d3] => { results := [.lit (.bool true)], args := [d1, d2, d3] }
  | _ => none }
def hallDeadRow : OpenClaim := { program := "ythdaccmjipomdab", sum := "7c9a77d941e5bbb0958bd57e3fc0cdaa742d26cb01eefa9f9d99f139de5a62bb", func := "trivetgate/tglaw4.HallDead", spec := "hallDead", unfollowed := true, recurses := true, apart := false }
def HallDeadSaid : Prop := hallDeadRow.holds Try.pinned (OpenSpec.ofChange hallDeadSpec)

/-- ITS FALSE NEIGHBOUR: 'it returns false'. Refute it at one input. -/
def hallDeadWrong : ChangeSpec := { name := "hallDead", fn := fun _ => fun
  | [d1, d2, d3] => { results := [.lit (.bool false)], args := [d1, d2, d3] }
  | _ => none }
def HallDeadWrongFalsely : Prop := hallDeadRow.holds Try.pinned (OpenSpec.ofChange hallDeadWrong)

/- THE SECOND FORM. 'bulk': how many values and letters a reading holds, each counted each time it is reached (what is shared counts as often as it is met; a slice's spare places count too). A statement '..UptoSaid' is the law's where the arguments, and the package variables that the reading takes, are together of bulk at most 1048576: NARROWER than '..Said'. Prove '..Said' where nothing that the law and all that it calls make is longer than what came in: it says more and counts as full. Else prove '..UptoSaid'. A law counts once. -/
mutual
def uptoBulk {H : Type} : DataW H → Nat
  | .lit (.string bytes) => bytes.length + 1
  | .lit _ => 1
  | .nil => 1
  | .ptr d => uptoBulk d + 1
  | .slice elems spare => uptoBulkAll elems + uptoBulkAll spare + 1
  | .agg parts => uptoBulkAll parts + 1
  | .iface _ d => uptoBulk d + 1
  | .map entries => uptoBulkEntries entries + 1
  | .held _ => 1
def uptoBulkAll {H : Type} : List (DataW H) → Nat
  | [] => 0
  | d :: r => uptoBulk d + uptoBulkAll r
def uptoBulkEntries {H : Type} : List (Lit × DataW H) → Nat
  | [] => 0
  | x :: r => uptoBulkEntry x + uptoBulkEntries r
def uptoBulkEntry {H : Type} : Lit × DataW H → Nat
  | (.string bytes, d) => bytes.length + uptoBulk d + 1
  | (_, d) => uptoBulk d + 1
 end
def uptoSmall : (H : Type) → List (DataW H) → Bool := fun _ ds => decide (uptoBulkAll ds ≤ 1048576)
def OpenSpec.upto (s : _root_.Go.ChangeSpec) : _root_.Go.OpenSpec := { _root_.Go.OpenSpec.ofChange s with cond := some uptoSmall }

/-- 'tglaw3.QueueFirst', WHERE WHAT IT READS IS OF BULK AT MOST 1048576: true; the input reads as it did. -/
def queueFirstUptoRow : OpenClaim := { program := "ythdaccmjipomdab", sum := "7c9a77d941e5bbb0958bd57e3fc0cdaa742d26cb01eefa9f9d99f139de5a62bb", func := "trivetgate/tglaw3.QueueFirst", spec := "queueFirst", unfollowed := true, recurses := true, apart := false, narrowed := true }
def QueueFirstUptoSaid : Prop := queueFirstUptoRow.holds Try.pinned (OpenSpec.upto queueFirstSpec)

/-- 'tglaw3.QueueTurn', WHERE WHAT IT READS IS OF BULK AT MOST 1048576: true; the input reads as it did. -/
def queueTurnUptoRow : OpenClaim := { program := "ythdaccmjipomdab", sum := "7c9a77d941e5bbb0958bd57e3fc0cdaa742d26cb01eefa9f9d99f139de5a62bb", func := "trivetgate/tglaw3.QueueTurn", spec := "queueTurn", unfollowed := true, recurses := true, apart := false, narrowed := true }
def QueueTurnUptoSaid : Prop := queueTurnUptoRow.holds Try.pinned (OpenSpec.upto queueTurnSpec)

/-- 'tglaw4.HallTells', WHERE WHAT IT READS IS OF BULK AT MOST 1048576: true; the input reads as it did. -/
def hallTellsUptoRow : OpenClaim := { program := "ythdaccmjipomdab", sum := "7c9a77d941e5bbb0958bd57e3fc0cdaa742d26cb01eefa9f9d99f139de5a62bb", func := "trivetgate/tglaw4.HallTells", spec := "hallTells", unfollowed := true, recurses := true, apart := false, narrowed := true }
def HallTellsUptoSaid : Prop := hallTellsUptoRow.holds Try.pinned (OpenSpec.upto hallTellsSpec)

/-- 'tglaw4.HallErrs', WHERE WHAT IT READS IS OF BULK AT MOST 1048576: true; the input reads as it did. -/
def hallErrsUptoRow : OpenClaim := { program := "ythdaccmjipomdab", sum := "7c9a77d941e5bbb0958bd57e3fc0cdaa742d26cb01eefa9f9d99f139de5a62bb", func := "trivetgate/tglaw4.HallErrs", spec := "hallErrs", unfollowed := true, recurses := true, apart := false, narrowed := true }
def HallErrsUptoSaid : Prop := hallErrsUptoRow.holds Try.pinned (OpenSpec.upto hallErrsSpec)

/-- 'tglaw4.HallDead', WHERE WHAT IT READS IS OF BULK AT MOST 1048576: true; the input reads as it did. -/
def hallDeadUptoRow : OpenClaim := { program := "ythdaccmjipomdab", sum := "7c9a77d941e5bbb0958bd57e3fc0cdaa742d26cb01eefa9f9d99f139de5a62bb", func := "trivetgate/tglaw4.HallDead", spec := "hallDead", unfollowed := true, recurses := true, apart := false, narrowed := true }
def HallDeadUptoSaid : Prop := hallDeadUptoRow.holds Try.pinned (OpenSpec.upto hallDeadSpec)

end Rows
end Go.Proofs.Ythdaccmjipomdab
