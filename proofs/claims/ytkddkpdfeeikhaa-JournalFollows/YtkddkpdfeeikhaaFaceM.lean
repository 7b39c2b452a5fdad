/-
  hall.Make and hall.Drop.
-/
import Derived.Test.YtkddkpdfeeikhaaJFollowsProofM11
import Derived.Test.YtkddkpdfeeikhaaJFollowsProofM17
namespace Go.Proofs.Ytkddkpdfeeikhaa
open Go.RowKit
set_option linter.unusedVariables false
set_option linter.unusedSimpArgs false

attribute [local go_sem ↓] Go.wp_at_zero Go.wp_at_succ

/-- Drop, at a place. -/
def dropF (h : HD) (k : Nat) (q : QD) : HD × List ED × Int := (⟨h.queues.eraseIdx k, h.next⟩, [⟨2, q.name, 0, 0, nN⟩], 0)

theorem cellsQ_erase (L : QuL) (k : Nat) (hk : k < L.length) : (cellsQ L).take (k * 3) ++ (cellsQ L).drop ((k + 1) * 3) = cellsQ (L.eraseIdx k) := by
  unfold cellsQ
  rw [flat_take _ 3 (fun _ => rfl) L k (by omega), flat_drop _ 3 (fun _ => rfl) L (k + 1) (by omega), List.eraseIdx_eq_take_drop_succ, List.flatMap_append]

theorem nilQ (S : Nat → Prop) (w : World) : SliceI S w (.slice none 0 0) [] := ⟨[], rfl, SliceV.nil _ _, by simp⟩

theorem row_any' (w : World) (cs : List Value) (t : TypeId) (n g : Nat) (hg : w.heap.size = g) (hn : n ≤ maxLen) : SliceV (fun b => b = g) (w.alloc (.cells cs.toArray t)) (.slice (some ⟨g, 0, none⟩) n n) n cs := by
  subst hg; exact row_any w cs t n hn

/-- What is wrong with a new queue. -/
def wrongMakeF (h : HD) (name : ByteArray) (limit : Int) : Int := if keyB name = false ∨ 0 ≤ idxQ name h.queues then 7 else if limit < 1 ∨ 8 < limit then 3 else if 4 ≤ h.queues.length then 5 else 0

/-- Make. -/
def makeF (h : HD) (name : ByteArray) (limit : Int) : HD × List ED × Int := if wrongMakeF h name limit = 0 then (⟨h.queues ++ [⟨name, limit, []⟩], h.next⟩, [⟨1, name, limit, 0, nN⟩], 0) else refuse (wrongMakeF h name limit)

end Go.Proofs.Ytkddkpdfeeikhaa
