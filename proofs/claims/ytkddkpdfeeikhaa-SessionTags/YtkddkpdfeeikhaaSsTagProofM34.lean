/-
  JRest; JParse: texts laid together.
-/
import Derived.Test.YtkddkpdfeeikhaaJItem
/-
  journal.withRest, of any kind and any bytes behind the name.
-/
namespace Go.Proofs.Ytkddkpdfeeikhaa
open Go.RowKit
set_option linter.unusedVariables false
set_option linter.unusedSimpArgs false

end Go.Proofs.Ytkddkpdfeeikhaa

/-
  journal.Parse, of any bytes.
-/
namespace Go.Proofs.Ytkddkpdfeeikhaa
open Go.RowKit
set_option linter.unusedVariables false
set_option linter.unusedSimpArgs false

end Go.Proofs.Ytkddkpdfeeikhaa
