/-
  tgref6.SameAsk and SameSay tell whether two asks, two answers, read the same.
-/
import Derived.Test.YtnfmidbbelgldaaFMath
import Derived.Test.YtnfmidbbelgldaaRefSame
namespace Go.Proofs.Ytnfmidbbelgldaa
open Go.RowKit
set_option linter.unusedVariables false
set_option linter.unusedSimpArgs false

attribute [local go_sem ↓] Go.wp_at_zero Go.wp_at_succ

set_option maxHeartbeats 2000000 in
/-- Asks that read the same. -/
theorem sameAsk_eq (k n : Int) (q : ByteArray) (v u v' u' : Value) (ps : List PD) (body : List UInt8) (w : World) (hv : SliceP w.heap.size w v ps) (hu : SliceB w.heap.size w u body) (hv' : SliceP w.heap.size w v' ps) (hu' : SliceB w.heap.size w u' body) :
    Calls Try.prog 15 #[.agg #[.int .i64 k, .string q, .int .i64 n, v, u], .agg #[.int .i64 k, .string q, .int .i64 n, v', u']] w fun r w' => r = .returned (.bool true) ∧ Below w.heap.size w w' := by
  have HS : ∀ W, SliceP W.heap.size W v ps → SliceB W.heap.size W u body → SliceP W.heap.size W v' ps → SliceB W.heap.size W u' body → Calls Try.prog 39 #[.agg #[v, u], .agg #[v', u']] W fun e w' => e = .returned (.bool true) ∧ Below W.heap.size W w' := fun W h1 h2 h3 h4 => by
    have := refSame_any v u v' u' ps ps body body W h1 h2 h3 h4
    simpa using this
  have W0 : Hid (SliceP w.heap.size w v ps ∧ SliceB w.heap.size w u body ∧ SliceP w.heap.size w v' ps ∧ SliceB w.heap.size w u' body) := ⟨hv, hu, hv', hu'⟩
  obtain ⟨va, vc, rfl, -⟩ := hv
  obtain ⟨ua, uc, rfl, -⟩ := hu
  obtain ⟨va', vc', rfl, -⟩ := hv'
  obtain ⟨ua', uc', rfl, -⟩ := hu'
  go_enter Try.func15, Try.ntmps15
  go_wp2_with (go_at_call 39; refine (HS _ ((W0.out.1.below (below_alloc _ _)).below (below_alloc _ _)) ((W0.out.2.1.below (below_alloc _ _)).below (below_alloc _ _)) ((W0.out.2.2.1.below (below_alloc _ _)).below (below_alloc _ _)) ((W0.out.2.2.2.below (below_alloc _ _)).below (below_alloc _ _))).mono ?_; rintro r w1 ⟨rfl, hb1⟩)
  all_goals (go_ret; exact ⟨ret_bool rfl, ((below_alloc w _).alloc (by simp) _).trans (hb1.mono (by simp; omega))⟩)

set_option maxHeartbeats 2000000 in
/-- Answers that read the same. -/
theorem sameSay_eq (k n m e : Int) (v u v' u' : Value) (ps : List PD) (body : List UInt8) (w : World) (hv : SliceP w.heap.size w v ps) (hu : SliceB w.heap.size w u body) (hv' : SliceP w.heap.size w v' ps) (hu' : SliceB w.heap.size w u' body) :
    Calls Try.prog 18 #[.agg #[.int .i64 k, .int .i64 n, .int .i64 m, .int .i64 e, v, u], .agg #[.int .i64 k, .int .i64 n, .int .i64 m, .int .i64 e, v', u']] w fun r w' => r = .returned (.bool true) ∧ Below w.heap.size w w' := by
  have HS : ∀ W, SliceP W.heap.size W v ps → SliceB W.heap.size W u body → SliceP W.heap.size W v' ps → SliceB W.heap.size W u' body → Calls Try.prog 39 #[.agg #[v, u], .agg #[v', u']] W fun e w' => e = .returned (.bool true) ∧ Below W.heap.size W w' := fun W h1 h2 h3 h4 => by
    have := refSame_any v u v' u' ps ps body body W h1 h2 h3 h4
    simpa using this
  have W0 : Hid (SliceP w.heap.size w v ps ∧ SliceB w.heap.size w u body ∧ SliceP w.heap.size w v' ps ∧ SliceB w.heap.size w u' body) := ⟨hv, hu, hv', hu'⟩
  obtain ⟨va, vc, rfl, -⟩ := hv
  obtain ⟨ua, uc, rfl, -⟩ := hu
  obtain ⟨va', vc', rfl, -⟩ := hv'
  obtain ⟨ua', uc', rfl, -⟩ := hu'
  go_enter Try.func18, Try.ntmps18
  go_wp2_with (go_at_call 39; refine (HS _ ((W0.out.1.below (below_alloc _ _)).below (below_alloc _ _)) ((W0.out.2.1.below (below_alloc _ _)).below (below_alloc _ _)) ((W0.out.2.2.1.below (below_alloc _ _)).below (below_alloc _ _)) ((W0.out.2.2.2.below (below_alloc _ _)).below (below_alloc _ _))).mono ?_; rintro r w1 ⟨rfl, hb1⟩)
  all_goals (go_ret; exact ⟨ret_bool rfl, ((below_alloc w _).alloc (by simp) _).trans (hb1.mono (by simp; omega))⟩)
end Go.Proofs.Ytnfmidbbelgldaa
