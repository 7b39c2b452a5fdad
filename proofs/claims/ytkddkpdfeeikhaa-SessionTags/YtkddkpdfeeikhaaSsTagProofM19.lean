/-
  ItemsRef; RefWith; RefDone: texts laid together.
-/
import Derived.Test.YtkddkpdfeeikhaaSsTagProofM05
import Derived.Test.YtkddkpdfeeikhaaFaceM
import Derived.Test.YtkddkpdfeeikhaaSsTagProofM04
/-
  tgref1.items answers a queue with one item less, or another one in its place.
-/
namespace Go.Proofs.Ytkddkpdfeeikhaa
open Go.RowKit
set_option linter.unusedVariables false
set_option linter.unusedSimpArgs false

attribute [local go_sem ↓] Go.wp_at_zero Go.wp_at_succ

theorem slice_drop {S : Nat → Prop} {w : World} {b off n cap : Nat} {L : ItL} (h : SliceV S w (.slice (some ⟨b, off, none⟩) n cap) n (cellsI L)) (hn : n = L.length) (k : Nat) (hk : k ≤ n) (A : Addr) (hA : (if cap = k then some (⟨b, off, none⟩ : Addr) else some ⟨b, off + k * 7, none⟩) = some A) : SliceV S w (.slice (some A) (n - k) (cap - k)) (n - k) (cellsI (L.drop k)) := by
  obtain ⟨a', cap', e, h1, h2, h3, h4⟩ := h
  simp only [Value.slice.injEq] at e
  obtain ⟨rfl, -, rfl⟩ := e
  refine ⟨some A, cap - k, rfl, by omega, by unfold maxLen at *; omega, fun h => by simp at h, fun i hi => ?_⟩
  rw [cellsI_len, List.length_drop] at hi
  have hne : ¬ cap = k := by omega
  rw [if_neg hne, Option.some.injEq] at hA
  subst hA
  have hl := cellsI_len L
  obtain ⟨b', off', e, hs, hc⟩ := h4 (k * 7 + i) (by omega)
  simp only [Option.some.injEq, Addr.mk.injEq, and_true] at e
  obtain ⟨rfl, rfl⟩ := e
  refine ⟨b, off + k * 7, rfl, hs, ?_⟩
  rw [Nat.add_assoc, hc]
  congr 1
  have e2 := cellsI_drop L k (by omega)
  simp only [← e2, List.getElem_drop]

end Go.Proofs.Ytkddkpdfeeikhaa

/-
  tgref1.with answers a hall with another queue in a place.
-/
namespace Go.Proofs.Ytkddkpdfeeikhaa
open Go.RowKit
set_option linter.unusedVariables false
set_option linter.unusedSimpArgs false

attribute [local go_sem ↓] Go.wp_at_zero Go.wp_at_succ

end Go.Proofs.Ytkddkpdfeeikhaa

/-
  tgref1.Done.
-/
namespace Go.Proofs.Ytkddkpdfeeikhaa
open Go.RowKit
set_option linter.unusedVariables false
set_option linter.unusedSimpArgs false

attribute [local go_sem ↓] Go.wp_at_zero Go.wp_at_succ

end Go.Proofs.Ytkddkpdfeeikhaa
