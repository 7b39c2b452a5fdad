/-
  The function that applyTo answers: a queue is dropped, items are gone.
-/
import Derived.Test.YtkddkpdfeeikhaaJApply
namespace Go.Proofs.Ytkddkpdfeeikhaa
open Go.RowKit Go.WideMaps Go.Maps
set_option linter.unusedVariables false
set_option linter.unusedSimpArgs false

attribute [local go_sem ↓] Go.wp_at_zero Go.wp_at_succ

end Go.Proofs.Ytkddkpdfeeikhaa
