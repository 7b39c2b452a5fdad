/-
  FSame; Alive: texts laid together.
-/
import Derived.Test.YtedhlbknbaggiaaGreatDoorFMath
import Derived.Test.YtedhlbknbaggiaaGreatDoorRefSame
import Derived.Test.YtedhlbknbaggiaaGreatDoorLnRightCardM04
import Derived.Lib.SmallJoins
/-
  tgref6.SameAsk and SameSay tell whether two asks, two answers, read the same.
-/
namespace Go.Proofs.YtedhlbknbaggiaaGreatDoor
open Go.RowKit
set_option linter.unusedVariables false
set_option linter.unusedSimpArgs false

attribute [local go_sem ↓] Go.wp_at_zero Go.wp_at_succ

set_option maxHeartbeats 2000000 in
/-- Asks that read the same. -/
theorem sameAsk_eq (k n : Int) (q : ByteArray) (v u v' u' : Value) (ps : List PD) (body : List UInt8) (w : World) (hv : SliceP w.heap.size w v ps) (hu : SliceB w.heap.size w u body) (hv' : SliceP w.heap.size w v' ps) (hu' : SliceB w.heap.size w u' body) :
    Calls Tryz.prog 27 #[.agg #[.int .i64 k, .string q, .int .i64 n, v, u], .agg #[.int .i64 k, .string q, .int .i64 n, v', u']] w fun r w' => r = .returned (.bool true) ∧ Below w.heap.size w w' := by
  have HS : ∀ W, SliceP W.heap.size W v ps → SliceB W.heap.size W u body → SliceP W.heap.size W v' ps → SliceB W.heap.size W u' body → Calls Tryz.prog 60 #[.agg #[v, u], .agg #[v', u']] W fun e w' => e = .returned (.bool true) ∧ Below W.heap.size W w' := fun W h1 h2 h3 h4 => by
    have := refSame_any v u v' u' ps ps body body W h1 h2 h3 h4
    simpa using this
  have W0 : Hid (SliceP w.heap.size w v ps ∧ SliceB w.heap.size w u body ∧ SliceP w.heap.size w v' ps ∧ SliceB w.heap.size w u' body) := ⟨hv, hu, hv', hu'⟩
  obtain ⟨va, vc, rfl, -⟩ := hv
  obtain ⟨ua, uc, rfl, -⟩ := hu
  obtain ⟨va', vc', rfl, -⟩ := hv'
  obtain ⟨ua', uc', rfl, -⟩ := hu'
  go_enter Tryz.func27, Tryz.ntmps27
  go_wp2_with (go_at_call 60; refine (HS _ ((W0.out.1.below (below_alloc _ _)).below (below_alloc _ _)) ((W0.out.2.1.below (below_alloc _ _)).below (below_alloc _ _)) ((W0.out.2.2.1.below (below_alloc _ _)).below (below_alloc _ _)) ((W0.out.2.2.2.below (below_alloc _ _)).below (below_alloc _ _))).mono ?_; rintro r w1 ⟨rfl, hb1⟩)
  all_goals (go_ret; exact ⟨ret_bool rfl, ((below_alloc w _).alloc (by simp) _).trans (hb1.mono (by simp; omega))⟩)

set_option maxHeartbeats 2000000 in
/-- Answers that read the same. -/
theorem sameSay_eq (k n m e : Int) (v u v' u' : Value) (ps : List PD) (body : List UInt8) (w : World) (hv : SliceP w.heap.size w v ps) (hu : SliceB w.heap.size w u body) (hv' : SliceP w.heap.size w v' ps) (hu' : SliceB w.heap.size w u' body) :
    Calls Tryz.prog 30 #[.agg #[.int .i64 k, .int .i64 n, .int .i64 m, .int .i64 e, v, u], .agg #[.int .i64 k, .int .i64 n, .int .i64 m, .int .i64 e, v', u']] w fun r w' => r = .returned (.bool true) ∧ Below w.heap.size w w' := by
  have HS : ∀ W, SliceP W.heap.size W v ps → SliceB W.heap.size W u body → SliceP W.heap.size W v' ps → SliceB W.heap.size W u' body → Calls Tryz.prog 60 #[.agg #[v, u], .agg #[v', u']] W fun e w' => e = .returned (.bool true) ∧ Below W.heap.size W w' := fun W h1 h2 h3 h4 => by
    have := refSame_any v u v' u' ps ps body body W h1 h2 h3 h4
    simpa using this
  have W0 : Hid (SliceP w.heap.size w v ps ∧ SliceB w.heap.size w u body ∧ SliceP w.heap.size w v' ps ∧ SliceB w.heap.size w u' body) := ⟨hv, hu, hv', hu'⟩
  obtain ⟨va, vc, rfl, -⟩ := hv
  obtain ⟨ua, uc, rfl, -⟩ := hu
  obtain ⟨va', vc', rfl, -⟩ := hv'
  obtain ⟨ua', uc', rfl, -⟩ := hu'
  go_enter Tryz.func30, Tryz.ntmps30
  go_wp2_with (go_at_call 60; refine (HS _ ((W0.out.1.below (below_alloc _ _)).below (below_alloc _ _)) ((W0.out.2.1.below (below_alloc _ _)).below (below_alloc _ _)) ((W0.out.2.2.1.below (below_alloc _ _)).below (below_alloc _ _)) ((W0.out.2.2.2.below (below_alloc _ _)).below (below_alloc _ _))).mono ?_; rintro r w1 ⟨rfl, hb1⟩)
  all_goals (go_ret; exact ⟨ret_bool rfl, ((below_alloc w _).alloc (by simp) _).trans (hb1.mono (by simp; omega))⟩)
end Go.Proofs.YtedhlbknbaggiaaGreatDoor

/-
  tglaw1.alive answers true.
-/
namespace Go.Proofs.YtedhlbknbaggiaaGreatDoor
open Go.RowKit
set_option linter.unusedVariables false
set_option linter.unusedSimpArgs false

theorem wrong_v (v u : Value) (ps : List PD) (body : List UInt8) (w : World) (hv : SliceP w.heap.size w v ps) (hu : SliceB w.heap.size w u body) (hf : ∀ p ∈ ps, p.fits) :
    Calls Tryz.prog 93 #[.agg #[v, u]] w fun e w' => e = .returned (.int .i64 (wrongN ps body.length)) ∧ Below w.heap.size w w' := by
  obtain ⟨va, vc, rfl, v1, v2, v3, v4⟩ := hv
  obtain ⟨ua, uc, rfl, u1, u2, u3, u4⟩ := hu
  exact wrong_any va vc ps ua body.length uc w v4 hf (by omega) (by omega)
end Go.Proofs.YtedhlbknbaggiaaGreatDoor
