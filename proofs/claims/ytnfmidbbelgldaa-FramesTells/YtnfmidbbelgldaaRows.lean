/-
  No cell of these rows narrows 'for every input' (looked for: loops, veiled, ifaces, maps, wideKeys, modest, calm, conditions, laid).
  DERIVED. THE GIVEN ROWS OF THIS SEAT. 3 by the template 'for every input the law returns true; each argument reads behind the call as it read before'; 0 by the template 'total and deterministic' (their statements: YtnfmidbbelgldaaTotals.lean).
  GIVEN WITH THE SEED: the statements are not yours to turn. If you find one false, say at which input.
  Laid BY PROGRAM, IN A SANDBOX (cutbox-rows.mjs): the forced cells as the released guide's own fill.sh prints them over the translation 29c108358156585a… (all of the seat's roots in one cut). By AI agents, Wed Nov 11 2026. No macro, syntax, notation, axiom, sorry.
-/
import Derived.Test.YtnfmidbbelgldaaChecked
import GoSem.Claim
import GoSem.ClaimJoined
import GoSem.ClaimMapViews
import Derived.JoinedTies
import Derived.KernelRfl
namespace Go.Proofs.Ytnfmidbbelgldaa
/- THE CELL 'sum', in the pinned program and in every row, IS THE sha256 OF THE DUMP (.gsa) THAT YtnfmidbbelgldaaProg.lean LOADS. Nothing in Lean hashes anything: it is a label: what it is worth is what the hold of that sum in a sandbox is worth. -/
noncomputable def Try.pinned : Pinned := { name := "ytnfmidbbelgldaa", sum := "29c108358156585ae637fca150aaeb1b5c1e1fa936d1e5358541050b6927fc17", checked := Try.checked }
namespace Rows
def none {H : Type} : Left H := { results := [], args := [] }

/-- 'tglaw7.FramesTells': WHATEVER THE INPUT: true; the input reads as it did. -/
def framesTellsSpec : ChangeSpec := { name := "framesTells", fn := fun _ => fun
  | [d1, d2, d3] => { results := [.lit (.bool true)], args := [d1, d2, d3] }
  | _ => none }
def framesTellsRow : OpenClaim := { program := "ytnfmidbbelgldaa", sum := "29c108358156585ae637fca150aaeb1b5c1e1fa936d1e5358541050b6927fc17", func := "trivetgate/tglaw7.FramesTells", spec := "framesTells", unfollowed := true, recurses := true, apart := false }
def FramesTellsSaid : Prop := framesTellsRow.holds Try.pinned (OpenSpec.ofChange framesTellsSpec)

/-- ITS FALSE NEIGHBOUR: 'it returns false'. Refute it at one input. -/
def framesTellsWrong : ChangeSpec := { name := "framesTells", fn := fun _ => fun
  | [d1, d2, d3] => { results := [.lit (.bool false)], args := [d1, d2, d3] }
  | _ => none }
def FramesTellsWrongFalsely : Prop := framesTellsRow.holds Try.pinned (OpenSpec.ofChange framesTellsWrong)

/-- 'tglaw7.FramesTurns': WHATEVER THE INPUT: true; the input reads as it did. -/
def framesTurnsSpec : ChangeSpec := { name := "framesTurns", fn := fun _ => fun
  | [d1, d2, d3, d4] => { results := [.lit (.bool true)], args := [d1, d2, d3, d4] }
  | _ => none }
def framesTurnsRow : OpenClaim := { program := "ytnfmidbbelgldaa", sum := "29c108358156585ae637fca150aaeb1b5c1e1fa936d1e5358541050b6927fc17", func := "trivetgate/tglaw7.FramesTurns", spec := "framesTurns", unfollowed := true, recurses := true, apart := false }
def FramesTurnsSaid : Prop := framesTurnsRow.holds Try.pinned (OpenSpec.ofChange framesTurnsSpec)

/-- ITS FALSE NEIGHBOUR: 'it returns false'. Refute it at one input. -/
def framesTurnsWrong : ChangeSpec := { name := "framesTurns", fn := fun _ => fun
  | [d1, d2, d3, d4] => { results := [.lit (.bool false)], args := [d1, d2, d3, d4] }
  | _ => none }
def FramesTurnsWrongFalsely : Prop := framesTurnsRow.holds Try.pinned (OpenSpec.ofChange framesTurnsWrong)

/-- 'tglaw7.FramesRight': WHATEVER THE INPUT: true; the input reads as it did. -/
def framesRightSpec : ChangeSpec := { name := "framesRight", fn := fun _ => fun
  | [d] => { results := [.lit (.bool true)], args := [d] }
  | _ => none }
def framesRightRow : OpenClaim := { program := "ytnfmidbbelgldaa", sum := "29c108358156585ae637fca150aaeb1b5c1e1fa936d1e5358541050b6927fc17", func := "trivetgate/tglaw7.FramesRight", spec := "framesRight", unfollowed := true, recurses := true, apart := false }
def FramesRightSaid : Prop := framesRightRow.holds Try.pinned (OpenSpec.ofChange framesRightSpec)

/-- ITS FALSE NEIGHBOUR: 'it returns false'. Refute it at one input. -/
def framesRightWrong : ChangeSpec := { name := "framesRight", fn := fun _ => fun
  | [d] => { results := [.lit (.bool false)], args := [d] }
  | _ => none }
def FramesRightWrongFalsely : Prop := framesRightRow.holds Try.pinned (OpenSpec.ofChange framesRightWrong)

/- THE SECOND FORM. 'bulk': how many values and letters a reading holds, each counted each time it is reached (what is shared counts as often as it is met; a slice's spare places count too). A statement '..UptoSaid' is the law's where the arguments, and the package variables that the reading takes, are together of bulk at most 1048576: NARROWER than '..Said'. Prove '..Said' where nothing that the law and all that it calls make is longer than what came in: it says more and counts as full. Else prove '..UptoSaid'. A law counts once. -/
mutual
def uptoBulk {H : Type} : DataW H → Nat
  | .lit (.string bytes) => bytes.length + 1
  | .lit _ => 1
  | .nil => 1
  | .ptr d => uptoBulk d + 1
  | .slice elems spare => uptoBulkAll elems + uptoBulkAll spare + 1
  | .agg parts => uptoBulkAll parts + 1
  | .iface _ d => uptoBulk d + 1
  | .map entries => uptoBulkEntries entries + 1
  | .held _ => 1
def uptoBulkAll {H : Type} : List (DataW H) → Nat
  | [] => 0
  | d :: r => uptoBulk d + uptoBulkAll r
def uptoBulkEntries {H : Type} : List (Lit × DataW H) → Nat
  | [] => 0
  | x :: r => uptoBulkEntry x + uptoBulkEntries r
def uptoBulkEntry {H : Type} : Lit × DataW H → Nat
  | (.string bytes, d) => bytes.length + uptoBulk d + 1
  | (_, d) => uptoBulk d + 1
 end
def uptoSmall : (H : Type) → List (DataW H) → Bool := fun _ ds => decide (uptoBulkAll ds ≤ 1048576)
def OpenSpec.upto (s : _root_.Go.ChangeSpec) : _root_.Go.OpenSpec := { _root_.Go.OpenSpec.ofChange s with cond := some uptoSmall }

/-- 'tglaw7.FramesTells', WHERE WHAT IT READS IS OF BULK AT MOST 1048576: true; the input reads as it did. -/
def framesTellsUptoRow : OpenClaim := { program := "ytnfmidbbelgldaa", sum := "29c108358156585ae637fca150aaeb1b5c1e1fa936d1e5358541050b6927fc17", func := "trivetgate/tglaw7.FramesTells", spec := "framesTells", unfollowed := true, recurses := true, apart := false, narrowed := true }
def FramesTellsUptoSaid : Prop := framesTellsUptoRow.holds Try.pinned (OpenSpec.upto framesTellsSpec)

/-- 'tglaw7.FramesTurns', WHERE WHAT IT READS IS OF BULK AT MOST 1048576: true; the input reads as it did. -/
def framesTurnsUptoRow : OpenClaim := { program := "ytnfmidbbelgldaa", sum := "29c108358156585ae637fca150aaeb1b5c1e1fa936d1e5358541050b6927fc17", func := "trivetgate/tglaw7.FramesTurns", spec := "framesTurns", unfollowed := true, recurses := true, apart := false, narrowed := true }
def FramesTurnsUptoSaid : Prop := framesTurnsUptoRow.holds Try.pinned (OpenSpec.upto framesTurnsSpec)

/-- 'tglaw7.FramesRight', WHERE WHAT IT READS IS OF BULK AT MOST 1048576: true; the input reads as it did. -/
def framesRightUptoRow : OpenClaim := { program := "ytnfmidbbelgldaa", sum := "29c108358156585ae637fca150aaeb1b5c1e1fa936d1e5358541050b6927fc17", func := "trivetgate/tglaw7.FramesRight", spec := "framesRight", unfollowed := true, recurses := true, apart := false, narrowed := true }
def FramesRightUptoSaid : Prop := framesRightUptoRow.holds Try.pinned (OpenSpec.upto framesRightSpec)

end Rows
end Go.Proofs.Ytnfmidbbelgldaa
