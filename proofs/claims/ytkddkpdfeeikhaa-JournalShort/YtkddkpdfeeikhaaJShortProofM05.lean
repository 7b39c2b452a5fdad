/-
  Take; Done: texts laid together.
-/
import Derived.Test.YtkddkpdfeeikhaaJShortProofM04
/-
  queue.Take, queue.Late.
-/
namespace Go.Proofs.Ytkddkpdfeeikhaa
open Go.RowKit
set_option linter.unusedVariables false
set_option linter.unusedSimpArgs false

attribute [local go_sem ↓] Go.wp_at_zero Go.wp_at_succ

theorem SliceI.shp {S : Nat → Prop} {w : World} {v : Value} {its : List IT} (h : SliceI S w v its) : ∃ a cap, v = .slice a its.length cap := by
  obtain ⟨L, rfl, h, -⟩ := h
  obtain ⟨a, cap, rfl, h1, h2, h3⟩ := h.shape
  exact ⟨a, cap, by simp⟩

theorem OwnI.made {base : Nat} {w : World} {v : Value} {its : List IT} (h : OwnI base w v its) : SliceI (Made base w.heap.size) w v its := by
  obtain ⟨L, e, h1, h2⟩ := h
  exact ⟨L, e, (own_slice h1).sub fun k hk => ⟨h1.lt k hk, rfl⟩, fun x hx => (h2 x hx).sub fun b hb => ⟨⟨hb.1, hb.2.1⟩, rfl⟩⟩

theorem Keep.set {S : Nat → Prop} {a w : World} (h : Keep S a w) {p : Addr} (hp : ¬ S p.block) (u : Value) : Keep S a (w.setCell p u) :=
  h.trans (T := S) ⟨rfl, rfl, rfl, by simp, fun k hk => Below.heap_setCell _ _ _ _ (fun e => hp (e ▸ hk))⟩ (fun _ h => h)
theorem Keep.drew {S : Nat → Prop} {a w : World} (h : Keep S a w) : Keep S a w.drew := ⟨h.os, h.tape, h.output, h.size, h.block⟩

end Go.Proofs.Ytkddkpdfeeikhaa

/-
  queue.Done.
-/
namespace Go.Proofs.Ytkddkpdfeeikhaa
open Go.RowKit
set_option linter.unusedVariables false
set_option linter.unusedSimpArgs false

attribute [local go_sem ↓] Go.wp_at_zero Go.wp_at_succ

end Go.Proofs.Ytkddkpdfeeikhaa
