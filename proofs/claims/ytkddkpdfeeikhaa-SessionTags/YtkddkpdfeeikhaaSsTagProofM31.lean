/-
  RefTickF; NtRefLeaf; NtRefText; JHead: texts laid together.
-/
import Derived.Test.YtkddkpdfeeikhaaSsTagProofM30
import Derived.Test.YtkddkpdfeeikhaaSsTagProofM10
import Derived.Test.YtkddkpdfeeikhaaSsTagProofM23
import Derived.Deep.QuietTactic
import Derived.BigQuiet
import Derived.Test.YtkddkpdfeeikhaaSsTagProofM24
import Derived.Test.YtkddkpdfeeikhaaSsTagProofM14
import Derived.Test.YtkddkpdfeeikhaaSsTagProofM21
/-
  What the document's HallTick comes to, plainly: by steps.
-/
namespace Go.Proofs.Ytkddkpdfeeikhaa
open Go.RowKit
set_option linter.unusedVariables false
set_option linter.unusedSimpArgs false

/-- A hall of right notes, of these names. -/
structure HD.tok (M : Int) (ns : List ByteArray) (h : HD) : Prop where
  good : h.good M
  right : ∀ q ∈ h.queues, ∀ i ∈ q.items, i.note.wrong = 0
  names : h.queues.map QD.name = ns

end Go.Proofs.Ytkddkpdfeeikhaa

/-
  The document's own answer, chapter 1: tgref1.Key, Text and Num answer what keyB, txt and num4 say.
-/
namespace Go.Proofs.Ytkddkpdfeeikhaa.NT
open Go.RowKit
set_option linter.unusedVariables false
set_option linter.unusedSimpArgs false

theorem below_conv (w : World) (o : Obj) : Below w.heap.size w (w.alloc o).drew := ((Below.refl _ _).alloc (Nat.le_refl _) _).drew

theorem empty_of (s : ByteArray) (h : s.size = 0) : s.toList = [] := by
  rw [ByteArray.toList_eq]
  exact List.length_eq_zero_iff.1 (by rw [size_list]; exact h)
theorem isEmpty_of (s : ByteArray) (h : 1 ≤ s.size) : s.toList.isEmpty = false := by
  rw [ByteArray.toList_eq]
  have := size_list s
  cases h' : s.data.toList with
  | nil => rw [h'] at this; simp at this; omega
  | cons a b => rfl

end Go.Proofs.Ytkddkpdfeeikhaa.NT

/-
  tgref1.Get, and the two closures of tgref1.Parse.
-/
namespace Go.Proofs.Ytkddkpdfeeikhaa.NT
open Go.RowKit
set_option linter.unusedVariables false
set_option linter.unusedSimpArgs false

end Go.Proofs.Ytkddkpdfeeikhaa.NT

/-
  journal.head and journal.isKind, of any bytes.
-/
namespace Go.Proofs.Ytkddkpdfeeikhaa
open Go.RowKit
set_option linter.unusedVariables false
set_option linter.unusedSimpArgs false

end Go.Proofs.Ytkddkpdfeeikhaa
