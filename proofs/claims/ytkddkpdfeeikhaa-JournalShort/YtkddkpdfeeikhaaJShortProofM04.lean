/-
  Delete; Change: texts laid together.
-/
import Derived.Test.YtkddkpdfeeikhaaKept
import Derived.Lib.SliceRun
/-
  slices.Delete takes one item out of a row of one's own; queue.without.
-/
namespace Go.Proofs.Ytkddkpdfeeikhaa
open Go.RowKit
set_option linter.unusedVariables false
set_option linter.unusedSimpArgs false

attribute [local go_sem ↓] Go.wp_at_zero Go.wp_at_succ

theorem step_run {w : World} {ops : Array Oper} {o : Oper} {a : Act} {Q : Exit → Act → World → Prop} {K : Act → World → Prop} {E : Prop} {t u : TypeId} {v1 v2 v' : Value} {w' : World} (hgd : o.guard = none) (s x : Operand) (ho : o.op = .call { callee := .builtin .append, args := #[s, x], argTypes := #[t, u] }) (hs : a.eval s = v1) (hx : a.eval x = v2)
    (hr : (Builtin.append_ #[t, u] o.type #[v1, v2]).run Try.prog w = .ok v' w') (h : K (a.put o.dst v') w') : if Region.wanted o (yielded ops a.tmps) = true then Oper.wp Try.prog o a w K Q else E := by
  have hw : Region.wanted o (yielded ops a.tmps) = true := by simp [Region.wanted, hgd]
  rw [if_pos hw]
  exact wp_app_of s x ho hs hx hr h

theorem zero34 (w : World) : (zeroValue 78).run Try.prog w = .ok (.agg #[.int .i64 0, .int .i64 0, .int .i64 0, .bool false, .int .i64 0, .slice none 0 0, .slice none 0 0]) w := by kernel_rfl

theorem own_far {w : World} {base : Nat} {e : TypeId} {size : Nat} {v : Value} {n : Nat} {xs : List Value} (h : w.ownsRow base e size v n xs) {a : Addr} (ha : v.ownBlock ≠ some a.block) (u : Value) : (w.setCell a u).ownsRow base e size v n xs := by
  refine ⟨h.1, ?_⟩
  rcases h.2 with h1 | ⟨g, cap, cur, e, hb, hg, hr⟩
  · exact .inl h1
  · refine .inr ⟨g, cap, cur, e, hb, (Below.heap_setCell _ _ _ _ (fun e2 => ha ?_)).trans hg, hr⟩
    rw [e, ← e2]; rfl

theorem cellsI_append (A B : ItL) : cellsI (A ++ B) = cellsI A ++ cellsI B := by simp [cellsI]
theorem cellsI_take (L : ItL) (i : Nat) (hi : i ≤ L.length) : (cellsI L).take (i * 7) = cellsI (L.take i) := by
  conv => lhs; rw [← List.take_append_drop i L, cellsI_append]
  rw [List.take_append_of_le_length (by simp [cellsI_len]; omega), List.take_of_length_le (by simp [cellsI_len]; omega)]
theorem cellsI_drop (L : ItL) (i : Nat) (hi : i ≤ L.length) : (cellsI L).drop (i * 7) = cellsI (L.drop i) := by
  conv => lhs; rw [← List.take_append_drop i L, cellsI_append]
  rw [List.drop_append_of_le_length (by simp [cellsI_len]; omega), List.drop_of_length_le (by simp [cellsI_len]; omega)]
  rfl

end Go.Proofs.Ytkddkpdfeeikhaa

/-
  The closures that change one item; queue.changed.
-/
namespace Go.Proofs.Ytkddkpdfeeikhaa
open Go.RowKit
set_option linter.unusedVariables false
set_option linter.unusedSimpArgs false

attribute [local go_sem ↓] Go.wp_at_zero Go.wp_at_succ

/-- A row of items. -/
def RowIs (w : World) (g : Nat) (cs : List Value) : Prop := w.heap[g]? = some (.cells cs.toArray 78 (0, 0))

theorem RowIs.cell {w : World} {g : Nat} {cs : List Value} (h : RowIs w g cs) (o : Nat) : w.cell? ⟨g, o, none⟩ = cs[o]? := by
  rw [cell_of_row w g o _ 78 (0, 0) h]; simp
theorem RowIs.f {w : World} {g : Nat} {cs : List Value} (h : RowIs w g cs) (o : Nat) : w.frozen? ⟨g, o, none⟩ = false := by
  unfold RowIs at h
  simp [World.frozen?, h]
theorem RowIs.set {w : World} {g : Nat} {cs : List Value} (h : RowIs w g cs) (o : Nat) (v : Value) : RowIs (w.setCell ⟨g, o, none⟩ v) g (cs.set o v) := by
  unfold RowIs at h ⊢
  simp [World.setCell, Array.getElem?_modify, h]
theorem RowIs.drew {w : World} {g : Nat} {cs : List Value} (h : RowIs w g cs) : RowIs w.drew g cs := h
theorem RowIs.lt {w : World} {g : Nat} {cs : List Value} (h : RowIs w g cs) : g < w.heap.size := (Array.getElem?_eq_some_iff.1 h).1

/-- One item of the row, at off. -/
def ItemAt (cs : List Value) (off : Nat) (it : IT) (p : Value × Value) : Prop := ∀ j, j < 7 → cs[off + j]? = (it.cells p)[j]?

theorem ItemAt.lt {cs : List Value} {off : Nat} {it : IT} {p : Value × Value} (h : ItemAt cs off it p) : off + 7 ≤ cs.length := by
  have := h 6 (by omega)
  have := (List.getElem?_eq_some_iff.1 this).1
  omega

def IT.fits (i : IT) : Prop := (0 ≤ i.turn ∧ i.turn ≤ 1000000000) ∧ (0 ≤ i.tries ∧ i.tries ≤ 1000000000)

end Go.Proofs.Ytkddkpdfeeikhaa
