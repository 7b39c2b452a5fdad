/-
  No cell of these rows narrows 'for every input' (looked for: loops, veiled, ifaces, maps, wideKeys, modest, calm, conditions, laid).
  DERIVED. THE GIVEN ROWS OF THIS SEAT. 5 by the template 'for every input the law returns true; each argument reads behind the call as it read before'; 0 by the template 'total and deterministic' (their statements: YtkddkpdfeeikhaaTotals.lean).
  GIVEN WITH THE SEED: the statements are not yours to turn. If you find one false, say at which input.
  Laid BY PROGRAM, IN A SANDBOX (cutbox-rows.mjs): the forced cells as the released guide's own fill.sh prints them over the translation 26924ac7119ef25c… (all of the seat's roots in one cut). By AI agents, Wed Nov 11 2026. No macro, syntax, notation, axiom, sorry.
-/
import Derived.Test.YtkddkpdfeeikhaaChecked
import GoSem.Claim
import GoSem.ClaimJoined
import GoSem.ClaimMapViews
import Derived.JoinedTies
import Derived.KernelRfl
namespace Go.Proofs.Ytkddkpdfeeikhaa
/- THE CELL 'sum', in the pinned program and in every row, IS THE sha256 OF THE DUMP (.gsa) THAT YtkddkpdfeeikhaaProg.lean LOADS. Nothing in Lean hashes anything: it is a label: what it is worth is what the hold of that sum in a sandbox is worth. -/
noncomputable def Try.pinned : Pinned := { name := "ytkddkpdfeeikhaa", sum := "26924ac7119ef25c423e04be2a55c103402cdcfabfe20bcced95c88ce313087c", checked := Try.checked }
namespace Rows
def none {H : Type} : Left H := { results := [], args := [] }

/-- 'tglaw5.JournalTells': WHATEVER THE INPUT: true; the input reads as it did. -/
def journalTellsSpec : ChangeSpec := { name := "journalTells", fn := fun _ => fun
  | [d1, d2, d3, d4] => { results := [.lit (.bool true)], args := [d1, d2, d3, d4] }
  | _ => none }
def journalTellsRow : OpenClaim := { program := "ytkddkpdfeeikhaa", sum := "26924ac7119ef25c423e04be2a55c103402cdcfabfe20bcced95c88ce313087c", func := "trivetgate/tglaw5.JournalTells", spec := "journalTells", unfollowed := true, recurses := true, apart := false }
def JournalTellsSaid : Prop := journalTellsRow.holds Try.pinned (OpenSpec.ofChange journalTellsSpec)

/-- ITS FALSE NEIGHBOUR: 'it returns false'. Refute it at one input. -/
def journalTellsWrong : ChangeSpec := { name := "journalTells", fn := fun _ => fun
  | [d1, d2, d3, d4] => { results := [.lit (.bool false)], args := [d1, d2, d3, d4] }
  | _ => none }
def JournalTellsWrongFalsely : Prop := journalTellsRow.holds Try.pinned (OpenSpec.ofChange journalTellsWrong)

/-- 'tglaw5.JournalFollows': WHATEVER THE INPUT: true; the input reads as it did. -/
def journalFollowsSpec : ChangeSpec := { name := "journalFollows", fn := fun _ => fun
  | [d1, d2, d3, d4, d5, d6] => { results := [.lit (.bool true)], args := [d1, d2, d3, d4, d5, d6] }
  | _ => none }
def journalFollowsRow : OpenClaim := { program := "ytkddkpdfeeikhaa", sum := "26924ac7119ef25c423e04be2a55c103402cdcfabfe20bcced95c88ce313087c", func := "trivetgate/tglaw5.JournalFollows", spec := "journalFollows", unfollowed := true, recurses := true, apart := false }
def JournalFollowsSaid : Prop := journalFollowsRow.holds Try.pinned (OpenSpec.ofChange journalFollowsSpec)

/-- ITS FALSE NEIGHBOUR: 'it returns false'. Refute it at one input. -/
def journalFollowsWrong : ChangeSpec := { name := "journalFollows", fn := fun _ => fun
  | [d1, d2, d3, d4, d5, d6] => { results := [.lit (.bool false)], args := [d1, d2, d3, d4, d5, d6] }
  | _ => none }
def JournalFollowsWrongFalsely : Prop := journalFollowsRow.holds Try.pinned (OpenSpec.ofChange journalFollowsWrong)

/-- 'tglaw5.JournalShort': WHATEVER THE INPUT: true; the input reads as it did. -/
def journalShortSpec : ChangeSpec := { name := "journalShort", fn := fun _ => fun
  | [d] => { results := [.lit (.bool true)], args := [d] }
  | _ => none }
def journalShortRow : OpenClaim := { program := "ytkddkpdfeeikhaa", sum := "26924ac7119ef25c423e04be2a55c103402cdcfabfe20bcced95c88ce313087c", func := "trivetgate/tglaw5.JournalShort", spec := "journalShort", unfollowed := true, recurses := true, apart := false }
def JournalShortSaid : Prop := journalShortRow.holds Try.pinned (OpenSpec.ofChange journalShortSpec)

/-- ITS FALSE NEIGHBOUR: 'it returns false'. Refute it at one input. -/
def journalShortWrong : ChangeSpec := { name := "journalShort", fn := fun _ => fun
  | [d] => { results := [.lit (.bool false)], args := [d] }
  | _ => none }
def JournalShortWrongFalsely : Prop := journalShortRow.holds Try.pinned (OpenSpec.ofChange journalShortWrong)

/-- 'tglaw6.SessionRefused': WHATEVER THE INPUT: true; the input reads as it did. -/
def sessionRefusedSpec : ChangeSpec := { name := "sessionRefused", fn := fun _ => fun
  | [d1, d2, d3, d4, d5] => { results := [.lit (.bool true)], args := [d1, d2, d3, d4, d5] }
  | _ => none }
def sessionRefusedRow : OpenClaim := { program := "ytkddkpdfeeikhaa", sum := "26924ac7119ef25c423e04be2a55c103402cdcfabfe20bcced95c88ce313087c", func := "trivetgate/tglaw6.SessionRefused", spec := "sessionRefused", unfollowed := true, recurses := true, apart := false }
def SessionRefusedSaid : Prop := sessionRefusedRow.holds Try.pinned (OpenSpec.ofChange sessionRefusedSpec)

/-- ITS FALSE NEIGHBOUR: 'it returns false'. Refute it at one input. -/
def sessionRefusedWrong : ChangeSpec := { name := "sessionRefused", fn := fun _ => fun
  | [d1, d2, d3, d4, d5] => { results := [.lit (.bool false)], args := [d1, d2, d3, d4, d5] }
  | _ => none }
def SessionRefusedWrongFalsely : Prop := sessionRefusedRow.holds Try.pinned (OpenSpec.ofChange sessionRefusedWrong)

/-- 'tglaw6.SessionTags': WHATEVER THE INPUT: true; the input reads as it did. -/
def sessionTagsSpec : ChangeSpec := { name := "sessionTags", fn := fun _ => fun
  | [d1, d2, d3, d4] => { results := [.lit (.bool true)], args := [d1, d2, d3, d4] }
  | _ => none }
def sessionTagsRow : OpenClaim := { program := "ytkddkpdfeeikhaa", sum := "26924ac7119ef25c423e04be2a55c103402cdcfabfe20bcced95c88ce313087c", func := "trivetgate/tglaw6.SessionTags", spec := "sessionTags", unfollowed := true, recurses := true, apart := false }
def SessionTagsSaid : Prop := sessionTagsRow.holds Try.pinned (OpenSpec.ofChange sessionTagsSpec)

/-- ITS FALSE NEIGHBOUR: 'it returns false'. Refute it at one input. -/
def sessionTagsWrong : ChangeSpec := { name := "sessionTags", fn := fun _ => fun
  | [d1, d2, d3, d4] => { results := [.lit (.bool false)], args := [d1, d2, d3, d4] }
  | _ => none }
def SessionTagsWrongFalsely : Prop := sessionTagsRow.holds Try.pinned (OpenSpec.ofChange sessionTagsWrong)

/- THE SECOND FORM. 'bulk': how many values and letters a reading holds, each counted each time it is reached (what is shared counts as often as it is met; a slice's spare places count too). A statement '..UptoSaid' is the law's where the arguments, and the package variables that the reading takes, are together of bulk at most 1048576: NARROWER than '..Said'. Prove '..Said' where nothing that the law and all that it calls make is longer than what came in: it says more and counts as full. Else prove '..UptoSaid'. A law counts once. -/
mutual
def uptoBulk {H : Type} : DataW H → Nat
  | .lit (.string bytes) => bytes.length + 1
  | .lit _ => 1
  | .nil => 1
  | .ptr d => uptoBulk d + 1
  | .slice elems spare => uptoBulkAll elems + uptoBulkAll spare + 1
  | .agg parts => uptoBulkAll parts + 1
  | .iface _ d => uptoBulk d + 1
  | .map entries => uptoBulkEntries entries + 1
  | .held _ => 1
def uptoBulkAll {H : Type} : List (DataW H) → Nat
  | [] => 0
  | d :: r => uptoBulk d + uptoBulkAll r
def uptoBulkEntries {H : Type} : List (Lit × DataW H) → Nat
  | [] => 0
  | x :: r => uptoBulkEntry x + uptoBulkEntries r
def uptoBulkEntry {H : Type} : Lit × DataW H → Nat
  | (.string bytes, d) => bytes.length + uptoBulk d + 1
  | (_, d) => uptoBulk d + 1
 end
def uptoSmall : (H : Type) → List (DataW H) → Bool := fun _ ds => decide (uptoBulkAll ds ≤ 1048576)
def OpenSpec.upto (s : _root_.Go.ChangeSpec) : _root_.Go.OpenSpec := { _root_.Go.OpenSpec.ofChange s with cond := some uptoSmall }

/-- 'tglaw5.JournalTells', WHERE WHAT IT READS IS OF BULK AT MOST 1048576: true; the input reads as it did. -/
def journalTellsUptoRow : OpenClaim := { program := "ytkddkpdfeeikhaa", sum := "26924ac7119ef25c423e04be2a55c103402cdcfabfe20bcced95c88ce313087c", func := "trivetgate/tglaw5.JournalTells", spec := "journalTells", unfollowed := true, recurses := true, apart := false, narrowed := true }
def JournalTellsUptoSaid : Prop := journalTellsUptoRow.holds Try.pinned (OpenSpec.upto journalTellsSpec)

/-- 'tglaw5.JournalFollows', WHERE WHAT IT READS IS OF BULK AT MOST 1048576: true; the input reads as it did. -/
def journalFollowsUptoRow : OpenClaim := { program := "ytkddkpdfeeikhaa", sum := "26924ac7119ef25c423e04be2a55c103402cdcfabfe20bcced95c88ce313087c", func := "trivetgate/tglaw5.JournalFollows", spec := "journalFollows", unfollowed := true, recurses := true, apart := false, narrowed := true }
def JournalFollowsUptoSaid : Prop := journalFollowsUptoRow.holds Try.pinned (OpenSpec.upto journalFollowsSpec)

/-- 'tglaw5.JournalShort', WHERE WHAT IT READS IS OF BULK AT MOST 1048576: true; the input reads as it did. -/
def journalShortUptoRow : OpenClaim := { program := "ytkddkpdfeeikhaa", sum := "26924ac7119ef25c423e04be2a55c103402cdcfabfe20bcced95c88ce313087c", func := "trivetgate/tglaw5.JournalShort", spec := "journalShort", unfollowed := true, recurses := true, apart := false, narrowed := true }
def JournalShortUptoSaid : Prop := journalShortUptoRow.holds Try.pinned (OpenSpec.upto journalShortSpec)

/-- 'tglaw6.SessionRefused', WHERE WHAT IT READS IS OF BULK AT MOST 1048576: true; the input reads as it did. -/
def sessionRefusedUptoRow : OpenClaim := { program := "ytkddkpdfeeikhaa", sum := "26924ac7119ef25c423e04be2a55c103402cdcfabfe20bcced95c88ce313087c", func := "trivetgate/tglaw6.SessionRefused", spec := "sessionRefused", unfollowed := true, recurses := true, apart := false, narrowed := true }
def SessionRefusedUptoSaid : Prop := sessionRefusedUptoRow.holds Try.pinned (OpenSpec.upto sessionRefusedSpec)

/-- 'tglaw6.SessionTags', WHERE WHAT IT READS IS OF BULK AT MOST 1048576: true; the input reads as it did. -/
def sessionTagsUptoRow : OpenClaim := { program := "ytkddkpdfeeikhaa", sum := "26924ac7119ef25c423e04be2a55c103402cdcfabfe20bcced95c88ce313087c", func := "trivetgate/tglaw6.SessionTags", spec := "sessionTags", unfollowed := true, recurses := true, apart := false, narrowed := true }
def SessionTagsUptoSaid : Prop := sessionTagsUptoRow.holds Try.pinned (OpenSpec.upto sessionTagsSpec)

end Rows
end Go.Proofs.Ytkddkpdfeeikhaa
