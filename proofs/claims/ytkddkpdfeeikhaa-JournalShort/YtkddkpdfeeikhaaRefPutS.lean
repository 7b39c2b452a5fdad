/-
  tgref1.Put: the answer's blocks are the argument's, or made.
-/
import Derived.Test.YtkddkpdfeeikhaaJShortProofM24
namespace Go.Proofs.Ytkddkpdfeeikhaa
open Go.RowKit
set_option linter.unusedVariables false
set_option linter.unusedSimpArgs false

attribute [local go_sem ↓] Go.wp_at_zero Go.wp_at_succ

end Go.Proofs.Ytkddkpdfeeikhaa
