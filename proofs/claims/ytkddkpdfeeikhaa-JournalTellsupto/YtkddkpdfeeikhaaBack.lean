/-
  queue.Back.
-/
import Derived.Test.YtkddkpdfeeikhaaJTellsProofM03
namespace Go.Proofs.Ytkddkpdfeeikhaa
open Go.RowKit
set_option linter.unusedVariables false
set_option linter.unusedSimpArgs false

attribute [local go_sem ↓] Go.wp_at_zero Go.wp_at_succ

/-- The cells of a block, two new ones behind it. -/
theorem Blk.c3 {w : World} {b : Nat} {x0 x1 x2 : Value} (h : Blk w b [x0, x1, x2]) : (∀ o1 o2, ((w.alloc o1).alloc o2).cell? ⟨b, 0, none⟩ = some x0) ∧ (∀ o1 o2, ((w.alloc o1).alloc o2).cell? ⟨b, 1, none⟩ = some x1) ∧ (∀ o1 o2, ((w.alloc o1).alloc o2).cell? ⟨b, 2, none⟩ = some x2) ∧ (∀ o1 o2 o, ((w.alloc o1).alloc o2).frozen? ⟨b, o, none⟩ = false) :=
  ⟨fun o1 o2 => ((h.alloc o1).alloc o2).cell 0, fun o1 o2 => ((h.alloc o1).alloc o2).cell 1, fun o1 o2 => ((h.alloc o1).alloc o2).cell 2, fun o1 o2 o => ((h.alloc o1).alloc o2).f o⟩
theorem Blk.c7 {w : World} {b : Nat} {x0 x1 x2 x3 x4 x5 x6 : Value} (h : Blk w b [x0, x1, x2, x3, x4, x5, x6]) : (∀ o1 o2, ((w.alloc o1).alloc o2).cell? ⟨b, 0, none⟩ = some x0) ∧ (∀ o1 o2, ((w.alloc o1).alloc o2).cell? ⟨b, 1, none⟩ = some x1) ∧ (∀ o1 o2, ((w.alloc o1).alloc o2).cell? ⟨b, 2, none⟩ = some x2) ∧ (∀ o1 o2, ((w.alloc o1).alloc o2).cell? ⟨b, 3, none⟩ = some x3) ∧ (∀ o1 o2, ((w.alloc o1).alloc o2).cell? ⟨b, 4, none⟩ = some x4) ∧ (∀ o1 o2, ((w.alloc o1).alloc o2).cell? ⟨b, 5, none⟩ = some x5) ∧ (∀ o1 o2, ((w.alloc o1).alloc o2).cell? ⟨b, 6, none⟩ = some x6) ∧ (∀ o1 o2 o, ((w.alloc o1).alloc o2).frozen? ⟨b, o, none⟩ = false) :=
  ⟨fun o1 o2 => ((h.alloc o1).alloc o2).cell 0, fun o1 o2 => ((h.alloc o1).alloc o2).cell 1, fun o1 o2 => ((h.alloc o1).alloc o2).cell 2, fun o1 o2 => ((h.alloc o1).alloc o2).cell 3, fun o1 o2 => ((h.alloc o1).alloc o2).cell 4, fun o1 o2 => ((h.alloc o1).alloc o2).cell 5, fun o1 o2 => ((h.alloc o1).alloc o2).cell 6, fun o1 o2 o => ((h.alloc o1).alloc o2).f o⟩

end Go.Proofs.Ytkddkpdfeeikhaa
