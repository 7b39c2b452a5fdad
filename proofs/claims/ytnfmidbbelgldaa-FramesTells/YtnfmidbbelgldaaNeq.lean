/-
  bytes.Equal, and slices.Equal at api.Prop, tell whether two slices read the same.
-/
import Derived.Test.YtnfmidbbelgldaaRefLeaf
import Derived.Deep.QuietTactic
import Derived.BigQuiet
import Derived.Laws.StructEq
namespace Go.Proofs.Ytnfmidbbelgldaa
open Go.RowKit
set_option linter.unusedVariables false
set_option linter.unusedSimpArgs false

open Classical

theorem prop_neq (k1 : ByteArray) (a1 b1 : Int) (t1 : ByteArray) (k2 : ByteArray) (a2 b2 : Int) (t2 : ByteArray) (w : World) :
    (binOp .neq 65 (.agg #[.string k1, .int .i64 a1, .int .i64 b1, .string t1]) (.agg #[.string k2, .int .i64 a2, .int .i64 b2, .string t2])).run Try.prog w = .ok (.bool (decide ((⟨k1, a1, b1, t1⟩ : PD) ≠ ⟨k2, a2, b2, t2⟩))) w := by
  rw [run_neq_struct, run_equalIn_agg w _ 65 _ _ fields38 held38]
  have hf : (Try.prog.fieldsOf 65).toList = [{ name := "Key", type := 9, offset := 0, embedded := false, tag := "", pkgPath := "", byteOffset := 0 },
        { name := "Kind", type := 3, offset := 1, embedded := false, tag := "", pkgPath := "", byteOffset := 16 },
        { name := "N", type := 3, offset := 2, embedded := false, tag := "", pkgPath := "", byteOffset := 24 },
        { name := "Text", type := 9, offset := 3, embedded := false, tag := "", pkgPath := "", byteOffset := 32 }] := by
    rw [Program.fieldsOf, Try.underlying65]
  rw [hf]
  by_cases e1 : k1 = k2
  · subst e1
    by_cases e2 : a1 = a2
    · subst e2
      by_cases e3 : b1 = b2
      · subst e3
        by_cases e4 : t1 = t2
        · subst e4
          simp [go_sem]
        · have e4' : ¬ t1.toList = t2.toList := fun h => e4 (ba_toList.1 h)
          simp [go_sem, e4, e4']
      · simp [go_sem, e3]
    · simp [go_sem, e2]
  · have e1' : ¬ k1.toList = k2.toList := fun h => e1 (ba_toList.1 h)
    simp [go_sem, e1, e1']

end Go.Proofs.Ytnfmidbbelgldaa
