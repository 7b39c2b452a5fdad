/-
  JWith; NtFresh: texts laid together.
-/
import Derived.Test.YtkddkpdfeeikhaaSsTagProofM31
import Derived.Test.YtkddkpdfeeikhaaSsTagProofM14
/-
  journal.withN, withID and withItem, of any bytes behind the name.
-/
namespace Go.Proofs.Ytkddkpdfeeikhaa
open Go.RowKit
set_option linter.unusedVariables false
set_option linter.unusedSimpArgs false

end Go.Proofs.Ytkddkpdfeeikhaa

/-
  note.Parse's note lies in memory that it made.
-/
namespace Go.Proofs.Ytkddkpdfeeikhaa.NT
open Go.RowKit
set_option linter.unusedVariables false
set_option linter.unusedSimpArgs false

def FreshV (B : Nat) (v : Value) : Prop := ∀ k, v.ownBlock = some k → B ≤ k
theorem FreshV.mono {B B' : Nat} {v : Value} (h : FreshV B v) (hb : B' ≤ B) : FreshV B' v := fun k hk => Nat.le_trans hb (h k hk)

end Go.Proofs.Ytkddkpdfeeikhaa.NT
