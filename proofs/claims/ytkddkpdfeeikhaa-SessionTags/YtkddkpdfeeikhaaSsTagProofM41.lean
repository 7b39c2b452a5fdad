/-
  JParsed; JShort; JMath: texts laid together.
-/
import Derived.Test.YtkddkpdfeeikhaaSsTagProofM34
import Derived.Test.YtkddkpdfeeikhaaSsTagProofM40
import Derived.Test.YtkddkpdfeeikhaaSsTagProofM23
import Derived.Test.YtkddkpdfeeikhaaSsTagProofM24
import Derived.Test.YtkddkpdfeeikhaaSsTagProofM07
import Derived.Test.YtkddkpdfeeikhaaSsTagProofM05
import Derived.Deep.RegionHeld3
import Derived.Test.YtkddkpdfeeikhaaSsTagProofM35
import Derived.Test.YtkddkpdfeeikhaaSsTagProofM15
/-
  What is read is an entry that may be applied; what records come to, plainly.
-/
namespace Go.Proofs.Ytkddkpdfeeikhaa
open Go.RowKit
set_option linter.unusedVariables false
set_option linter.unusedSimpArgs false

end Go.Proofs.Ytkddkpdfeeikhaa

/-
  journal.Short: the entries that make a hall anew.
-/
namespace Go.Proofs.Ytkddkpdfeeikhaa
open Go.RowKit
set_option linter.unusedVariables false
set_option linter.unusedSimpArgs false

attribute [local go_sem ↓] Go.wp_at_zero Go.wp_at_succ

/-- An entry more. -/
theorem OwnE.push {base : Nat} {w w2 w3 : World} {v : Value} {L : EnL} {e : ED} {p : Value × Value} {o : Obj} {gg cap : Nat} (hL : w.ownsRow base 30 6 v L.length (cellsE L)) (hn : ∀ x ∈ L, NoteIs (fun b => base ≤ b ∧ b < w.heap.size ∧ v.ownBlock ≠ some b) w x.2 x.1.note) (hbw : base ≤ w.heap.size) (hb : Below w.heap.size w w2) (hp : NoteIs (Made w.heap.size w2.heap.size) w2 p e.note)
    (ho : w3.ownsRow base 30 6 (.slice (some ⟨gg, 0, none⟩) (L.length + 1) cap) (L.length + 1) (cellsE L ++ e.cells p)) (hg : (w2.alloc o).grownBy w3 v.ownBlock) (hat : v.ownBlock = some gg ∨ gg = w2.heap.size + 1) :
    OwnE base w3 (.slice (some ⟨gg, 0, none⟩) (L.length + 1) cap) ((L ++ [(e, p)]).map Prod.fst) ∧ Below base w w3 := by
  have hz := hb.size
  have hz3 : w2.heap.size + 1 ≤ w3.heap.size := by have := hg.size; simpa using this
  have hvl : ∀ b, v.ownBlock = some b → b < w.heap.size := fun b h => (hL.lt b h).2
  have blk : ∀ b, b < w2.heap.size → v.ownBlock ≠ some b → w3.heap[b]? = w2.heap[b]? := fun b h1 h2 => by
    rw [hg.block b (by simp; omega) (fun e => h2 e.symm), Below.heap_alloc _ _ _ h1]
  have hgb : ∀ b, v.ownBlock ≠ some b → b < w2.heap.size → (Value.slice (some ⟨gg, 0, none⟩) (L.length + 1) cap).ownBlock ≠ some b := fun b h1 h2 e => by
    simp only [Value.ownBlock, Option.some.injEq] at e
    subst e
    rcases hat with h | h
    · exact h1 h
    · omega
  refine ⟨⟨L ++ [(e, p)], rfl, ?_, fun x hx => ?_⟩, ?_⟩
  · rw [List.length_append, cellsE_append]
    simpa [cellsE] using ho
  · rw [List.mem_append, List.mem_singleton] at hx
    rcases hx with hx | rfl
    · refine (hn x hx).sub fun b hb' => ⟨⟨hb'.1, by omega, hgb b hb'.2.2 (by omega)⟩, ?_⟩
      rw [blk b (by omega) hb'.2.2, hb.block b hb'.2.1]
    · refine hp.sub fun b hb' => ?_
      have h1 := hb'.1
      have h2 := hb'.2
      have hne : v.ownBlock ≠ some b := fun e => by have := hvl b e; omega
      exact ⟨⟨by omega, by omega, hgb b hne h2⟩, blk b h2 hne⟩
  · refine ⟨hg.os.trans hb.os, hg.tape.trans hb.tape, hg.output.trans hb.output, by omega, fun b hb' => ?_⟩
    rw [blk b (by omega) (fun e => by have := (hL.lt b e).1; omega), hb.block b (by omega)]

end Go.Proofs.Ytkddkpdfeeikhaa

/-
  Entries come back from their bytes; the entries of 'Short' make a hall's plain one, but for the number that comes next. Plain lists.
-/
namespace Go.Proofs.Ytkddkpdfeeikhaa
open Go.RowKit
set_option linter.unusedVariables false
set_option linter.unusedSimpArgs false

end Go.Proofs.Ytkddkpdfeeikhaa
