/-
  frames.Wrong and session.Wrong tell what is wrong with an answer, and an ask.
-/
import Derived.Test.YtedhlbknbaggiaaGreatDoorFMath
import Derived.Test.YtedhlbknbaggiaaGreatDoorLnRightCardM08
namespace Go.Proofs.YtedhlbknbaggiaaGreatDoor
open Go.RowKit
set_option linter.unusedVariables false
set_option linter.unusedSimpArgs false

attribute [local go_sem ↓] Go.wp_at_zero Go.wp_at_succ

set_option maxHeartbeats 1000000 in
theorem rightNumbers_any (k n m e : Int) (v u : Value) (w : World) :
    Calls Tryz.prog 98 #[.agg #[.int .i64 k, .int .i64 n, .int .i64 m, .int .i64 e, v, u]] w fun r w' => r = .returned (.bool (numsB k n m)) ∧ Below w.heap.size w w' := by
  go_enter Tryz.func98, Tryz.ntmps98
  go_wp2
  all_goals go_ret
  all_goals refine ⟨ret_bool ?_, (Below.refl _ _).alloc (Nat.le_refl _) _⟩
  all_goals (simp [numsB, *] <;> try omega)

set_option maxHeartbeats 1000000 in
theorem rightErr_any (k n m e : Int) (v u : Value) (w : World) :
    Calls Tryz.prog 99 #[.agg #[.int .i64 k, .int .i64 n, .int .i64 m, .int .i64 e, v, u]] w fun r w' => r = .returned (.bool (errB k e)) ∧ Below w.heap.size w w' := by
  go_enter Tryz.func99, Tryz.ntmps99
  go_wp2
  all_goals go_ret
  all_goals refine ⟨ret_bool ?_, (Below.refl _ _).alloc (Nat.le_refl _) _⟩
  all_goals (simp [errB, *] <;> try omega)

set_option maxHeartbeats 1000000 in
theorem sayHas_any (k n m e : Int) (va ua : Option Addr) (vl vc ul uc : Nat) (w : World) :
    Calls Tryz.prog 100 #[.agg #[.int .i64 k, .int .i64 n, .int .i64 m, .int .i64 e, .slice va vl vc, .slice ua ul uc]] w fun r w' => r = .returned (.bool (decide (0 < vl + ul))) ∧ Below w.heap.size w w' := by
  go_enter Tryz.func100, Tryz.ntmps100
  go_wp2
  all_goals go_ret
  all_goals refine ⟨ret_bool ?_, (Below.refl _ _).alloc (Nat.le_refl _) _⟩
  all_goals (simp [*] <;> try omega)

set_option maxHeartbeats 1000000 in
theorem rightNumber_any (k n : Int) (q : ByteArray) (v u : Value) (w : World) :
    Calls Tryz.prog 91 #[.agg #[.int .i64 k, .string q, .int .i64 n, v, u]] w fun r w' => r = .returned (.bool (numB k n)) ∧ Below w.heap.size w w' := by
  go_enter Tryz.func91, Tryz.ntmps91
  go_wp2
  all_goals go_ret
  all_goals refine ⟨ret_bool ?_, (Below.refl _ _).alloc (Nat.le_refl _) _⟩
  all_goals (simp [numB, *] <;> try omega)

set_option maxHeartbeats 1000000 in
theorem askHas_any (k n : Int) (q : ByteArray) (va ua : Option Addr) (vl vc ul uc : Nat) (w : World) :
    Calls Tryz.prog 92 #[.agg #[.int .i64 k, .string q, .int .i64 n, .slice va vl vc, .slice ua ul uc]] w fun r w' => r = .returned (.bool (decide (0 < vl + ul))) ∧ Below w.heap.size w w' := by
  go_enter Tryz.func92, Tryz.ntmps92
  go_wp2
  all_goals go_ret
  all_goals refine ⟨ret_bool ?_, (Below.refl _ _).alloc (Nat.le_refl _) _⟩
  all_goals (simp [*] <;> try omega)

set_option maxHeartbeats 1000000 in
theorem rightQueue_any (k n : Int) (q : ByteArray) (v u : Value) (w : World) (hq : q.size ≤ maxLen) :
    Calls Tryz.prog 90 #[.agg #[.int .i64 k, .string q, .int .i64 n, v, u]] w fun r w' => r = .returned (.bool (queueB k q)) ∧ Below w.heap.size w w' := by
  have HK : Hid (∀ W, Calls Tryz.prog 121 #[.string q] W fun e w' => e = .returned (.bool (keyB q)) ∧ w' = W) := fun W => key_any q W hq
  go_enter Tryz.func90, Tryz.ntmps90
  go_wp2_with (go_at_call 121; refine (HK.out _).mono ?_; rintro e w1 ⟨rfl, rfl⟩)
  all_goals go_ret
  all_goals refine ⟨ret_bool ?_, (Below.refl _ _).alloc (Nat.le_refl _) _⟩
  all_goals (simp [queueB, namedB, *] <;> try omega)
end Go.Proofs.YtedhlbknbaggiaaGreatDoor
