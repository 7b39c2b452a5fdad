/-
  bytes.Equal, and slices.Equal at api.Prop, tell whether two slices read the same.
-/
import Derived.Test.YtnfmidbbelgldaaParse
import Derived.Deep.QuietTactic
import Derived.BigQuiet
import Derived.Laws.StructEq
namespace Go.Proofs.Ytnfmidbbelgldaa
open Go.RowKit
set_option linter.unusedVariables false
set_option linter.unusedSimpArgs false

theorem bstr_toList (a : List UInt8) : (bstr a).toList = a := by rw [ByteArray.toList_eq]; rfl

open Classical

theorem fields38 : Try.prog.underlying 65 = some (.struct (Try.prog.fieldsOf 65)) := by kernel_rfl
theorem held38 : Try.prog.stoodInHeld 65 = false := by kernel_rfl

theorem ba_toList {a b : ByteArray} : a.toList = b.toList ↔ a = b := by
  rw [ByteArray.toList_eq, ByteArray.toList_eq]
  constructor
  · intro h
    obtain ⟨⟨x⟩⟩ := a
    obtain ⟨⟨y⟩⟩ := b
    simp only at h
    rw [h]
  · intro h; rw [h]

end Go.Proofs.Ytnfmidbbelgldaa
