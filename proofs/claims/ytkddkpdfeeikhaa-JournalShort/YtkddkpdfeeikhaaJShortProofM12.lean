/-
  List; TurnList; BackIn: texts laid together.
-/
import Derived.Test.YtkddkpdfeeikhaaItems
import Derived.Test.YtkddkpdfeeikhaaJShortProofM05
import Derived.Test.YtkddkpdfeeikhaaJShortProofM11
/-
  The lists of QueueFirst.
-/
namespace Go.Proofs.Ytkddkpdfeeikhaa
set_option linter.unusedVariables false
set_option linter.unusedSimpArgs false

end Go.Proofs.Ytkddkpdfeeikhaa

/-
  The lists of QueueTurn.
-/
namespace Go.Proofs.Ytkddkpdfeeikhaa
set_option linter.unusedVariables false
set_option linter.unusedSimpArgs false

/-- No two have one number. -/
def Apart (its : List IT) : Prop := its.Pairwise (fun a b => a.id < b.id)

theorem Apart.ne {its : List IT} (h : Apart its) {i j : Nat} (hi : i < its.length) (hj : j < its.length) (hne : j ≠ i) : its[j].id ≠ its[i].id := by
  have h' := List.pairwise_iff_getElem.1 h
  rcases Nat.lt_or_ge j i with h1 | h1
  · have := h' j i hj hi h1; omega
  · have := h' i j hi hj (by omega); omega

end Go.Proofs.Ytkddkpdfeeikhaa

/-
  hall.backIn has an item come back in a hall itself.
-/
namespace Go.Proofs.Ytkddkpdfeeikhaa
open Go.RowKit
set_option linter.unusedVariables false
set_option linter.unusedSimpArgs false

attribute [local go_sem ↓] Go.wp_at_zero Go.wp_at_succ

end Go.Proofs.Ytkddkpdfeeikhaa
