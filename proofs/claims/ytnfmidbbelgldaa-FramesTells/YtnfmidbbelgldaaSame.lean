/-
  note.Same tells whether two notes read the same; note.Own answers a note that reads as the given one.
-/
import Derived.Test.YtnfmidbbelgldaaEqual
import Derived.Deep.RegionLaw
namespace Go.Proofs.Ytnfmidbbelgldaa
open Go.RowKit Classical
set_option linter.unusedVariables false
set_option linter.unusedSimpArgs false

attribute [local go_sem ↓] Go.wp_at_zero Go.wp_at_succ

theorem SliceP.below {w w' : World} {v : Value} {ps : List PD} (h : SliceP w.heap.size w v ps) (hb : Below w.heap.size w w') : SliceP w'.heap.size w' v ps := (h.same hb.block).mono hb.size
theorem SliceB.below {w w' : World} {v : Value} {bs : List UInt8} (h : SliceB w.heap.size w v bs) (hb : Below w.heap.size w w') : SliceB w'.heap.size w' v bs := (h.same hb.block).mono hb.size
theorem below_alloc (w : World) (o : Obj) : Below w.heap.size w (w.alloc o) := (Below.refl _ _).alloc (Nat.le_refl _) _

theorem cells_one (p : PD) : ∀ u ∈ p.cells, u.oneCell' = true := by
  intro u hu
  simp only [PD.cells, List.mem_cons, List.not_mem_nil, or_false] at hu
  rcases hu with rfl | rfl | rfl | rfl <;> rfl
theorem cellsL_one (ps : List PD) : ∀ u ∈ cellsL ps, u.oneCell' = true := by
  intro u hu
  simp only [cellsL, List.mem_flatMap] at hu
  obtain ⟨p, _, hp⟩ := hu
  exact cells_one p u hp

theorem props_news {B : Nat} {w : World} {ad : Addr} {ps : List PD} (h : PropsAt B w (some ad) ps) : ∀ j x, (cellsL ps)[j]? = some x → w.cell? (ad.add j) = some x := by
  intro j x hj
  have hjl : j < ps.length * 4 := by
    rcases Nat.lt_or_ge j (ps.length * 4) with h | h
    · exact h
    · simp [List.getElem?_eq_none (show (cellsL ps).length ≤ j by rw [cellsL_len]; exact h)] at hj
  obtain ⟨b, off, e, _, c0, c1, c2, c3⟩ := h (j / 4) (by omega)
  simp only [Option.some.injEq] at e
  subst e
  have hje : j = j / 4 * 4 + j % 4 := by omega
  have hc := cellsL_at ps (j / 4) (j % 4) (by omega) (by omega)
  rw [← hje, hj] at hc
  have h4 : j % 4 = 0 ∨ j % 4 = 1 ∨ j % 4 = 2 ∨ j % 4 = 3 := by omega
  rw [add_none]
  rcases h4 with h4 | h4 | h4 | h4 <;> rw [h4] at hc <;> simp only [PD.cells, List.getElem?_cons_zero, List.getElem?_cons_succ, Option.some.injEq] at hc <;> rw [hc]
  · rw [show off + j = off + j / 4 * 4 by omega]; exact c0
  · rw [show off + j = off + j / 4 * 4 + 1 by omega]; exact c1
  · rw [show off + j = off + j / 4 * 4 + 2 by omega]; exact c2
  · rw [show off + j = off + j / 4 * 4 + 3 by omega]; exact c3

theorem nil_below {w w' : World} (h : w.grownBy w' (Value.slice none 0 0).ownBlock) : Below w.heap.size w w' :=
  ⟨h.os, h.tape, h.output, h.size, fun k hk => h.block k hk (by simp [Value.ownBlock])⟩

end Go.Proofs.Ytnfmidbbelgldaa
