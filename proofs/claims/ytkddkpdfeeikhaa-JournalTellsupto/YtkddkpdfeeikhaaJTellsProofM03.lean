/-
  Change; Take; Done: texts laid together.
-/
import Derived.Test.YtkddkpdfeeikhaaJTellsProofM02
/-
  The closures that change one item; queue.changed.
-/
namespace Go.Proofs.Ytkddkpdfeeikhaa
open Go.RowKit
set_option linter.unusedVariables false
set_option linter.unusedSimpArgs false

attribute [local go_sem ↓] Go.wp_at_zero Go.wp_at_succ

/-- A row of items. -/
def RowIs (w : World) (g : Nat) (cs : List Value) : Prop := w.heap[g]? = some (.cells cs.toArray 78 (0, 0))

theorem RowIs.cell {w : World} {g : Nat} {cs : List Value} (h : RowIs w g cs) (o : Nat) : w.cell? ⟨g, o, none⟩ = cs[o]? := by
  rw [cell_of_row w g o _ 78 (0, 0) h]; simp
theorem RowIs.f {w : World} {g : Nat} {cs : List Value} (h : RowIs w g cs) (o : Nat) : w.frozen? ⟨g, o, none⟩ = false := by
  unfold RowIs at h
  simp [World.frozen?, h]
theorem RowIs.set {w : World} {g : Nat} {cs : List Value} (h : RowIs w g cs) (o : Nat) (v : Value) : RowIs (w.setCell ⟨g, o, none⟩ v) g (cs.set o v) := by
  unfold RowIs at h ⊢
  simp [World.setCell, Array.getElem?_modify, h]
theorem RowIs.drew {w : World} {g : Nat} {cs : List Value} (h : RowIs w g cs) : RowIs w.drew g cs := h
theorem RowIs.lt {w : World} {g : Nat} {cs : List Value} (h : RowIs w g cs) : g < w.heap.size := (Array.getElem?_eq_some_iff.1 h).1

/-- One item of the row, at off. -/
def ItemAt (cs : List Value) (off : Nat) (it : IT) (p : Value × Value) : Prop := ∀ j, j < 7 → cs[off + j]? = (it.cells p)[j]?

theorem ItemAt.lt {cs : List Value} {off : Nat} {it : IT} {p : Value × Value} (h : ItemAt cs off it p) : off + 7 ≤ cs.length := by
  have := h 6 (by omega)
  have := (List.getElem?_eq_some_iff.1 this).1
  omega

def IT.fits (i : IT) : Prop := (0 ≤ i.turn ∧ i.turn ≤ 1000000000) ∧ (0 ≤ i.tries ∧ i.tries ≤ 1000000000)

def backI (i : IT) : IT := { i with tries := i.tries + 1, out := false, due := 0 }

end Go.Proofs.Ytkddkpdfeeikhaa

/-
  queue.Take, queue.Late.
-/
namespace Go.Proofs.Ytkddkpdfeeikhaa
open Go.RowKit
set_option linter.unusedVariables false
set_option linter.unusedSimpArgs false

attribute [local go_sem ↓] Go.wp_at_zero Go.wp_at_succ

theorem SliceI.shp {S : Nat → Prop} {w : World} {v : Value} {its : List IT} (h : SliceI S w v its) : ∃ a cap, v = .slice a its.length cap := by
  obtain ⟨L, rfl, h, -⟩ := h
  obtain ⟨a, cap, rfl, h1, h2, h3⟩ := h.shape
  exact ⟨a, cap, by simp⟩

theorem OwnI.made {base : Nat} {w : World} {v : Value} {its : List IT} (h : OwnI base w v its) : SliceI (Made base w.heap.size) w v its := by
  obtain ⟨L, e, h1, h2⟩ := h
  exact ⟨L, e, (own_slice h1).sub fun k hk => ⟨h1.lt k hk, rfl⟩, fun x hx => (h2 x hx).sub fun b hb => ⟨⟨hb.1, hb.2.1⟩, rfl⟩⟩

theorem Keep.set {S : Nat → Prop} {a w : World} (h : Keep S a w) {p : Addr} (hp : ¬ S p.block) (u : Value) : Keep S a (w.setCell p u) :=
  h.trans (T := S) ⟨rfl, rfl, rfl, by simp, fun k hk => Below.heap_setCell _ _ _ _ (fun e => hp (e ▸ hk))⟩ (fun _ h => h)
theorem Keep.drew {S : Nat → Prop} {a w : World} (h : Keep S a w) : Keep S a w.drew := ⟨h.os, h.tape, h.output, h.size, h.block⟩

end Go.Proofs.Ytkddkpdfeeikhaa

/-
  queue.Done.
-/
namespace Go.Proofs.Ytkddkpdfeeikhaa
open Go.RowKit
set_option linter.unusedVariables false
set_option linter.unusedSimpArgs false

attribute [local go_sem ↓] Go.wp_at_zero Go.wp_at_succ

def givenB (id turn : Int) (i : IT) : Bool := i.out && (i.id == id) && (i.turn == turn)

end Go.Proofs.Ytkddkpdfeeikhaa
