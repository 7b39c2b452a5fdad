/-
  The lists of QueueTurn.
-/
import Derived.Test.YthdaccmjipomdabDone
import Derived.Test.YthdaccmjipomdabList
namespace Go.Proofs.Ythdaccmjipomdab
set_option linter.unusedVariables false
set_option linter.unusedSimpArgs false

theorem idxI_cases (p : IT → Bool) (l : List IT) : idxI p l = -1 ∨ ∃ k, ∃ h : k < l.length, idxI p l = (k : Int) ∧ p l[k] = true ∧ ∀ j (hj : j < k), p (l[j]'(by omega)) = false := by
  cases h : l.findIdx? p with
  | none => exact .inl (by simp [idxI, h])
  | some k =>
    rw [List.findIdx?_eq_some_iff_getElem] at h
    obtain ⟨h1, h2, h3⟩ := h
    refine .inr ⟨k, h1, ?_, h2, fun j hj => by simpa using h3 j hj⟩
    exact idx_eq p l k h1 h2 (fun j hj => by simpa using h3 j hj)

/-- No two have one number. -/
def Apart (its : List IT) : Prop := its.Pairwise (fun a b => a.id < b.id)

theorem Apart.ne {its : List IT} (h : Apart its) {i j : Nat} (hi : i < its.length) (hj : j < its.length) (hne : j ≠ i) : its[j].id ≠ its[i].id := by
  have h' := List.pairwise_iff_getElem.1 h
  rcases Nat.lt_or_ge j i with h1 | h1
  · have := h' j i hj hi h1; omega
  · have := h' i j hi hj (by omega); omega

theorem given_ne {id t : Int} {x : IT} (h : x.id ≠ id) : givenB id t x = false := by
  simp [givenB, h]

theorem given_yes {its : List IT} (h : Apart its) {i : Nat} (hi : i < its.length) (y : IT) (t : Int) (hy : givenB its[i].id t y = true) : idxI (givenB its[i].id t) (its.set i y) = i := by
  refine idx_eq _ _ i (by simpa using hi) (by simpa using hy) fun j hj => ?_
  rw [List.getElem_set_ne (by omega)]
  exact given_ne (h.ne hi (by omega) (by omega))

theorem given_no {its : List IT} (h : Apart its) {i : Nat} (hi : i < its.length) (y : IT) (t : Int) (hy : givenB its[i].id t y = false) : idxI (givenB its[i].id t) (its.set i y) = -1 := by
  refine idx_none _ _ fun x hx => ?_
  obtain ⟨j, hj, rfl⟩ := List.mem_iff_getElem.1 hx
  have hj' : j < its.length := by simpa using hj
  by_cases e : i = j
  · subst e; simpa using hy
  · rw [List.getElem_set_ne e]
    exact given_ne (h.ne hi hj' (by omega))

theorem given_gone {its : List IT} (h : Apart its) {i : Nat} (hi : i < its.length) (t : Int) : idxI (givenB its[i].id t) (its.eraseIdx i) = -1 := by
  refine idx_none _ _ fun x hx => ?_
  obtain ⟨j, hj, rfl⟩ := List.mem_iff_getElem.1 hx
  have hl : (its.eraseIdx i).length = its.length - 1 := List.length_eraseIdx_of_lt hi
  rw [List.getElem_eraseIdx]
  split
  · next h1 => exact given_ne (h.ne hi (by omega) (by omega))
  · next h1 => exact given_ne (h.ne hi (by omega) (by omega))

theorem in_set {its : List IT} {i : Nat} (hi : i < its.length) (hn : ∀ j (hj : j < i), isInB (its[j]'(by omega)) = false) (y : IT) (hy : isInB y = true) : idxI isInB (its.set i y) = i := by
  refine idx_eq _ _ i (by simpa using hi) (by simpa using hy) fun j hj => ?_
  rw [List.getElem_set_ne (by omega)]
  exact hn j hj

theorem erase_set {α : Type} (l : List α) (i : Nat) (y : α) : (l.set i y).eraseIdx i = l.eraseIdx i := by
  rw [List.eraseIdx_eq_take_drop_succ, List.eraseIdx_eq_take_drop_succ, List.take_set_of_le (Nat.le_refl _), List.drop_set_of_lt (by omega)]

theorem small_set {its : List IT} (h : smallI its) (i : Nat) (hi : i < its.length) (y : IT) (hy : y.note = its[i].note) : smallI (its.set i y) := by
  refine ⟨by simpa using h.1, fun x hx => ?_⟩
  rcases List.mem_or_eq_of_mem_set hx with hx | rfl
  · exact h.2 x hx
  · rw [hy]; exact h.2 _ (List.getElem_mem hi)
theorem small_erase {its : List IT} (h : smallI its) (i : Nat) : smallI (its.eraseIdx i) :=
  ⟨Nat.le_trans (List.length_eraseIdx_le _ _) h.1, fun x hx => h.2 x (List.mem_of_mem_eraseIdx hx)⟩
end Go.Proofs.Ythdaccmjipomdab
