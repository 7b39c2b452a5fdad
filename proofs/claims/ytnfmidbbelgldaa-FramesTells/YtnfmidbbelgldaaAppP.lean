/-
  note.Same tells whether two notes read the same; note.Own answers a note that reads as the given one.
-/
import Derived.Test.YtnfmidbbelgldaaNeq
import Derived.Deep.RegionLaw
namespace Go.Proofs.Ytnfmidbbelgldaa
open Go.RowKit Classical
set_option linter.unusedVariables false
set_option linter.unusedSimpArgs false

attribute [local go_sem ↓] Go.wp_at_zero Go.wp_at_succ

/-- 'append(out, props...)', out the call's own. -/
theorem run_appP (w : World) (ty : TypeId) (base : Nat) (v : Value) (n : Nat) (xs : List Value) (hown : w.ownsRow base 65 4 v n xs) (B : Nat) (u : Value) (ps : List PD) (hu : SliceP B w u ps)
    (hb : (n + ps.length) * 48 ≤ 140737488355328) (hbase : base ≤ w.heap.size) :
    ∃ ao cap w', (Builtin.append_ #[22, 22] ty #[v, u]).run Try.prog w = .ok (.slice ao (n + ps.length) cap) w' ∧ w'.ownsRow base 65 4 (.slice ao (n + ps.length) cap) (n + ps.length) (xs ++ cellsL ps) ∧ w.grownBy w' v.ownBlock := by
  obtain ⟨i0, hi0, hz0, hz1, hz2⟩ := info_parts info38
  obtain ⟨a, cap, rfl, h1, h2, hn, h3⟩ := hu
  cases a with
  | none =>
    have hc := hn rfl
    have hl : ps.length = 0 := by omega
    obtain rfl : ps = [] := List.length_eq_zero_iff.1 hl
    subst hc
    have hr := run_append_owned_none (P := Try.prog) (w := w) base 22 ty 65 i0 4 Try.underlying22 hi0 v n xs hown
    obtain ⟨ao, cp, rfl, _⟩ := own_shape hown
    exact ⟨ao, cp, w, hr, by simpa [cellsL] using hown, grownBy_refl _ _⟩
  | some ad =>
    obtain ⟨v', w', hr, ho, hg, _⟩ := run_append_own (P := Try.prog) w base 22 ty 65 i0 _ 4 48 Try.underlying22 hi0 hz0 hz1 hz2 rfl (by omega) v n xs hown ad ps.length cap (cellsL ps) (cellsL_len ps) (props_news h3) (cellsL_one ps) (by unfold maxLen; omega) (by omega) hbase
    obtain ⟨ao, cp, rfl, _⟩ := own_shape ho
    exact ⟨ao, cp, w', hr, ho, hg⟩

end Go.Proofs.Ytnfmidbbelgldaa
