/-
  The function that applyTo answers: an entry changes a hall in place.
-/
import Derived.Test.YtkddkpdfeeikhaaJStep2
import Derived.Deep.RegionHeld3
namespace Go.Proofs.Ytkddkpdfeeikhaa
open Go.RowKit Go.WideMaps Go.Maps
set_option linter.unusedVariables false
set_option linter.unusedSimpArgs false

attribute [local go_sem ↓] Go.wp_at_zero Go.wp_at_succ

/-- The box of the entry stands ahead of all. -/
theorem StepAns.from {lo : Nat} {N : Nat → Prop} {hb xb pb : Nat} {w A : World} {h : HD} {w' : World} (hlo : lo ≤ w.heap.size) (hN : ∀ b, N b → b < w.heap.size) (hA : Below w.heap.size w A) (H : StepAns lo N hb xb pb A h w') : StepAns lo N hb xb pb w h w' := by
  obtain ⟨N', mb', v', L', h1, h2, h3, h4⟩ := H
  exact ⟨N', mb', v', L', ⟨h1.1, fun b hb => (h1.2 b hb).imp id (fun h => by have := hA.size; omega)⟩, h2, h3, Kept.trans ⟨fun b hb => hA.block b (hN b hb), hA.mono hlo⟩ h4⟩

end Go.Proofs.Ytkddkpdfeeikhaa
