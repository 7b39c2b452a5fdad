/-
  What the form's reading of a hall says of memory.
-/
import Derived.Test.YtkddkpdfeeikhaaJFollowsProofM51
import Derived.Test.YtkddkpdfeeikhaaJFollowsProofM07
namespace Go.Proofs.Ytkddkpdfeeikhaa
open Go.ChangeShapes Go.WideShapes Go.ChangeAt Go.RowKit Go.Deep Go.Joins
set_option linter.unusedVariables false
set_option linter.unusedSimpArgs false

section
variable {H : Type} {enc : TypeId × Value → H} {W : World} {sp : Nat → Bool} {held : Bool}

theorem cells23 : Try.prog.cellsOf 74 = 1 := by kernel_rfl
theorem cells43 : Try.prog.cellsOf 24 = 2 := by kernel_rfl
theorem cells47 : Try.prog.cellsOf 50 = 4 := by kernel_rfl

/-- Of what size the strings are. -/
def QD.fits (q : QD) : Prop := q.name.size ≤ maxLen ∧ ∀ i ∈ q.items, i.note.fits

set_option maxRecDepth 100000 in
theorem open_queue (fuel : Nat) (cs : List Value) (x : DataW H × List MemPlace) (h : DataW.trod enc Try.prog W 0 sp held fuel 76 cs = some x) :
    ∃ y : QD × Value, cs = y.1.cells y.2 ∧ SliceI (Under W.heap.size) W y.2 y.1.items ∧ y.1.fits := by
  obtain ⟨xs, n, _, _, hlen, hxl, hfld⟩ := DataW.trod_struct Try.underlying76 h
  rw [cells25] at hlen
  have h0 := hfld 0 _ rfl
  have h1 := hfld 1 _ rfl
  have h2 := hfld 2 _ rfl
  clear hfld
  match cs, hlen, xs, hxl with
  | [v0, v1, v2], _, [y0, y1, y2], _ =>
    have g0 : DataW.trod enc Try.prog W 0 sp held n 9 [v0] = some y0 := by simpa [cells9] using h0
    have g1 : DataW.trod enc Try.prog W 0 sp held n 3 [v1] = some y1 := by simpa [cells3] using h1
    have g2 : DataW.trod enc Try.prog W 0 sp held n 74 [v2] = some y2 := by simpa [cells23] using h2
    obtain ⟨k, e0, _, f0⟩ := DataW.trod_string Try.underlying9 g0
    obtain ⟨l, e1, _, _⟩ := DataW.trod_int Try.underlying3 g1
    simp only [List.cons.injEq, and_true] at e0 e1
    subst e0 e1
    obtain ⟨its, hits, hf⟩ := open_items v2 n y2 g2
    exact ⟨(⟨k, l, its⟩, v2), rfl, hits, f0, hf⟩

theorem open_queues (v : Value) (fuel : Nat) (x : DataW H × List MemPlace) (h : DataW.trod enc Try.prog W 0 sp held fuel 22 [v] = some x) :
    ∃ qs : List QD, SliceQ (Under W.heap.size) W v qs ∧ (∀ q ∈ qs, q.fits) := by
  rcases open_slice Try.underlying22 h with ⟨hcs, _⟩ | ⟨a, len, cap, m, n, D, Pl, hcs, _, hl, hm, hmm, hx, hel⟩
  · simp only [List.cons.injEq, and_true] at hcs
    subst hcs
    exact ⟨[], SliceQ.nil _ _, fun p hp => by simp at hp⟩
  · simp only [List.cons.injEq, and_true] at hcs
    subst hcs
    have hlm : len ≤ m := by rw [hmm]; split <;> omega
    rw [cells25] at hel
    have each : ∀ i, i < len → ∃ y : QD × Value, (∀ j, j < 3 → W.cell? ((a.add (i * 3)).add j) = (y.1.cells y.2)[j]?) ∧ SliceI (Under W.heap.size) W y.2 y.1.items ∧ y.1.fits := by
      intro i hi
      obtain ⟨c, g, t⟩ := hel i (by omega)
      obtain ⟨_, l, k⟩ := World.cells?_some g
      obtain ⟨y, rfl, hf⟩ := open_queue n c _ t
      exact ⟨y, k, hf⟩
    haveI : Inhabited (QD × Value) := ⟨(⟨⟨#[]⟩, 0, []⟩, .bool false)⟩
    obtain ⟨f, hf⟩ := choose_lt each
    have hlen : ((List.range len).map f).length = len := by simp
    refine ⟨((List.range len).map f).map Prod.fst, ⟨(List.range len).map f, rfl, ⟨some a, cap, by rw [hlen], by rw [hlen]; exact hl, hm, fun h => by simp at h, ?_⟩, ?_⟩, ?_⟩
    · by_cases h0 : len = 0
      · subst h0; intro i hi; simp [cellsQ] at hi
      · have e : cellsQ ((List.range len).map f) = (List.range len).flatMap (fun i => (f i).1.cells (f i).2) := by simp [cellsQ, List.flatMap_map]
        rw [e]
        exact row_of (by omega) (by omega) _ fun i hi => ⟨rfl, (hf i hi).1⟩
    · intro y hy
      simp only [List.mem_map, List.mem_range] at hy
      obtain ⟨i, hi, rfl⟩ := hy
      exact (hf i hi).2.1
    · intro y hy
      simp only [List.mem_map, List.mem_range] at hy
      obtain ⟨z, ⟨i, hi, rfl⟩, rfl⟩ := hy
      exact (hf i hi).2.2
end
end Go.Proofs.Ytkddkpdfeeikhaa
