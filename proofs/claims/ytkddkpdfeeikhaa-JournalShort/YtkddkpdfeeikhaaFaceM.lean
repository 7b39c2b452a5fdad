/-
  hall.Make and hall.Drop.
-/
import Derived.Test.YtkddkpdfeeikhaaJShortProofM14
import Derived.Test.YtkddkpdfeeikhaaJShortProofM21
namespace Go.Proofs.Ytkddkpdfeeikhaa
open Go.RowKit
set_option linter.unusedVariables false
set_option linter.unusedSimpArgs false

attribute [local go_sem ↓] Go.wp_at_zero Go.wp_at_succ

theorem cellsQ_erase (L : QuL) (k : Nat) (hk : k < L.length) : (cellsQ L).take (k * 3) ++ (cellsQ L).drop ((k + 1) * 3) = cellsQ (L.eraseIdx k) := by
  unfold cellsQ
  rw [flat_take _ 3 (fun _ => rfl) L k (by omega), flat_drop _ 3 (fun _ => rfl) L (k + 1) (by omega), List.eraseIdx_eq_take_drop_succ, List.flatMap_append]

theorem row_any' (w : World) (cs : List Value) (t : TypeId) (n g : Nat) (hg : w.heap.size = g) (hn : n ≤ maxLen) : SliceV (fun b => b = g) (w.alloc (.cells cs.toArray t)) (.slice (some ⟨g, 0, none⟩) n n) n cs := by
  subst hg; exact row_any w cs t n hn

end Go.Proofs.Ytkddkpdfeeikhaa
