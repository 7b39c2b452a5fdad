/-
  journal.withItem, of any bytes behind the name.
-/
import Derived.Test.YtkddkpdfeeikhaaSsTagProofM32
namespace Go.Proofs.Ytkddkpdfeeikhaa
open Go.RowKit
set_option linter.unusedVariables false
set_option linter.unusedSimpArgs false

end Go.Proofs.Ytkddkpdfeeikhaa
