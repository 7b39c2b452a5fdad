/-
  List; TurnList: texts laid together.
-/
import Derived.Test.YtpehkoompadpaaaItems
import Derived.Test.YtpehkoompadpaaaHTellsProofM06
/-
  The lists of QueueFirst.
-/
namespace Go.Proofs.Ytpehkoompadpaaa
set_option linter.unusedVariables false
set_option linter.unusedSimpArgs false

def bodyN (i : Nat) : ND := ⟨[], [UInt8.ofNat i]⟩
def itemN (i : Nat) : IT := ⟨i, 0, 0, false, 0, bodyN i⟩
def tookN (i : Nat) : IT := ⟨i, 1, 0, true, 5, bodyN i⟩
def putL (k : Nat) : List IT := (List.range k).map itemN
def takL (n k : Nat) : List IT := (List.range n).map fun i => if i < k then tookN i else itemN i

theorem putL_len (k : Nat) : (putL k).length = k := by simp [putL]
theorem takL_len (n k : Nat) : (takL n k).length = n := by simp [takL]
theorem putL_succ (k : Nat) : putL (k + 1) = putL k ++ [itemN k] := by simp [putL, List.range_succ]
theorem takL_zero (n : Nat) : takL n 0 = putL n := by simp [takL, putL]
theorem takL_at (n k : Nat) (h : k < (takL n k).length) : (takL n k)[k] = itemN k := by simp [takL]
theorem takL_all (n b : Nat) (h : b < (takL n n).length) : (takL n n)[b] = tookN b := by
  have : b < n := by simpa [takL] using h
  simp [takL, this]
theorem takL_set (n k : Nat) (hk : k < n) : (takL n k).set k (tookN k) = takL n (k + 1) := by
  apply List.ext_getElem
  · simp [takL]
  · intro i h1 h2
    rw [List.getElem_set]
    simp only [takL, List.getElem_map, List.getElem_range]
    split
    · next h => subst h; simp
    · next h =>
      by_cases h3 : i < k
      · simp [h3, show i < k + 1 by omega]
      · simp [h3, show ¬ i < k + 1 by omega]

theorem notes_small (n k : Nat) : ∀ i ∈ takL n k, i.note.small := by
  intro i hi
  obtain ⟨j, _, rfl⟩ := List.mem_map.1 hi
  split <;> simp [tookN, itemN, bodyN, ND.small]
theorem puts_small (k : Nat) : ∀ i ∈ putL k, i.note.small := by
  intro i hi
  obtain ⟨j, _, rfl⟩ := List.mem_map.1 hi
  simp [itemN, bodyN, ND.small]

theorem idx_eq (p : IT → Bool) (l : List IT) (k : Nat) (hk : k < l.length) (hp : p l[k] = true) (hn : ∀ j (h : j < k), p (l[j]'(by omega)) = false) : idxI p l = k := by
  have : l.findIdx? p = some k := by
    rw [List.findIdx?_eq_some_iff_getElem]
    exact ⟨hk, hp, fun j hj => by simp [hn j hj]⟩
  simp [idxI, this]
theorem idx_none (p : IT → Bool) (l : List IT) (hn : ∀ i ∈ l, p i = false) : idxI p l = -1 := by
  have : l.findIdx? p = none := by
    rw [List.findIdx?_eq_none_iff]
    exact hn
  simp [idxI, this]

theorem takL_in (n k : Nat) (hk : k < n) : idxI (fun i => !i.out) (takL n k) = k := by
  refine idx_eq _ _ k (by simp [takL, hk]) (by simp [takL, itemN]) fun j hj => ?_
  simp [takL, hj, tookN]
theorem takL_none (n : Nat) : idxI (fun i => !i.out) (takL n n) = -1 := by
  refine idx_none _ _ fun i hi => ?_
  obtain ⟨j, hj, rfl⟩ := List.mem_map.1 hi
  have : j < n := by simpa using hj
  simp [this, tookN]
theorem takL_given (n b : Nat) (hb : b < n) : idxI (fun i => i.out && (i.id == (b : Int)) && (i.turn == 1)) (takL n n) = b := by
  refine idx_eq _ _ b (by simp [takL, hb]) (by simp [takL, hb, tookN]) fun j hj => ?_
  have : j < n := by omega
  simp [takL, this, tookN]
  omega

def backN (b : Nat) : IT := ⟨b, 1, 1, false, 0, bodyN b⟩
def bakL (n b : Nat) : List IT := (takL n n).set b (backN b)
theorem bakL_len (n b : Nat) : (bakL n b).length = n := by simp [bakL, takL]
theorem bakL_at (n b : Nat) (h : b < (bakL n b).length) : (bakL n b)[b] = backN b := by simp [bakL]
theorem bakL_small (n b : Nat) : ∀ i ∈ bakL n b, i.note.small := by
  intro i hi
  rcases List.mem_or_eq_of_mem_set hi with h | rfl
  · exact notes_small n n i h
  · simp [backN, bodyN, ND.small]
theorem bakL_in (n b : Nat) (hb : b < n) : idxI (fun i => !i.out) (bakL n b) = b := by
  refine idx_eq _ _ b (by simp [bakL, takL, hb]) (by simp [bakL, backN]) fun j hj => ?_
  have : j < n := by omega
  have hne : b ≠ j := by omega
  simp [bakL, takL, this, tookN, List.getElem_set, hne]
end Go.Proofs.Ytpehkoompadpaaa

/-
  The lists of QueueTurn.
-/
namespace Go.Proofs.Ytpehkoompadpaaa
set_option linter.unusedVariables false
set_option linter.unusedSimpArgs false

theorem idxI_cases (p : IT → Bool) (l : List IT) : idxI p l = -1 ∨ ∃ k, ∃ h : k < l.length, idxI p l = (k : Int) ∧ p l[k] = true ∧ ∀ j (hj : j < k), p (l[j]'(by omega)) = false := by
  cases h : l.findIdx? p with
  | none => exact .inl (by simp [idxI, h])
  | some k =>
    rw [List.findIdx?_eq_some_iff_getElem] at h
    obtain ⟨h1, h2, h3⟩ := h
    refine .inr ⟨k, h1, ?_, h2, fun j hj => by simpa using h3 j hj⟩
    exact idx_eq p l k h1 h2 (fun j hj => by simpa using h3 j hj)

/-- No two have one number. -/
def Apart (its : List IT) : Prop := its.Pairwise (fun a b => a.id < b.id)

theorem Apart.ne {its : List IT} (h : Apart its) {i j : Nat} (hi : i < its.length) (hj : j < its.length) (hne : j ≠ i) : its[j].id ≠ its[i].id := by
  have h' := List.pairwise_iff_getElem.1 h
  rcases Nat.lt_or_ge j i with h1 | h1
  · have := h' j i hj hi h1; omega
  · have := h' i j hi hj (by omega); omega

theorem given_ne {id t : Int} {x : IT} (h : x.id ≠ id) : givenB id t x = false := by
  simp [givenB, h]

theorem given_yes {its : List IT} (h : Apart its) {i : Nat} (hi : i < its.length) (y : IT) (t : Int) (hy : givenB its[i].id t y = true) : idxI (givenB its[i].id t) (its.set i y) = i := by
  refine idx_eq _ _ i (by simpa using hi) (by simpa using hy) fun j hj => ?_
  rw [List.getElem_set_ne (by omega)]
  exact given_ne (h.ne hi (by omega) (by omega))

theorem given_no {its : List IT} (h : Apart its) {i : Nat} (hi : i < its.length) (y : IT) (t : Int) (hy : givenB its[i].id t y = false) : idxI (givenB its[i].id t) (its.set i y) = -1 := by
  refine idx_none _ _ fun x hx => ?_
  obtain ⟨j, hj, rfl⟩ := List.mem_iff_getElem.1 hx
  have hj' : j < its.length := by simpa using hj
  by_cases e : i = j
  · subst e; simpa using hy
  · rw [List.getElem_set_ne e]
    exact given_ne (h.ne hi hj' (by omega))

theorem given_gone {its : List IT} (h : Apart its) {i : Nat} (hi : i < its.length) (t : Int) : idxI (givenB its[i].id t) (its.eraseIdx i) = -1 := by
  refine idx_none _ _ fun x hx => ?_
  obtain ⟨j, hj, rfl⟩ := List.mem_iff_getElem.1 hx
  have hl : (its.eraseIdx i).length = its.length - 1 := List.length_eraseIdx_of_lt hi
  rw [List.getElem_eraseIdx]
  split
  · next h1 => exact given_ne (h.ne hi (by omega) (by omega))
  · next h1 => exact given_ne (h.ne hi (by omega) (by omega))

theorem in_set {its : List IT} {i : Nat} (hi : i < its.length) (hn : ∀ j (hj : j < i), isInB (its[j]'(by omega)) = false) (y : IT) (hy : isInB y = true) : idxI isInB (its.set i y) = i := by
  refine idx_eq _ _ i (by simpa using hi) (by simpa using hy) fun j hj => ?_
  rw [List.getElem_set_ne (by omega)]
  exact hn j hj

theorem erase_set {α : Type} (l : List α) (i : Nat) (y : α) : (l.set i y).eraseIdx i = l.eraseIdx i := by
  rw [List.eraseIdx_eq_take_drop_succ, List.eraseIdx_eq_take_drop_succ, List.take_set_of_le (Nat.le_refl _), List.drop_set_of_lt (by omega)]

theorem small_set {its : List IT} (h : smallI its) (i : Nat) (hi : i < its.length) (y : IT) (hy : y.note = its[i].note) : smallI (its.set i y) := by
  refine ⟨by simpa using h.1, fun x hx => ?_⟩
  rcases List.mem_or_eq_of_mem_set hx with hx | rfl
  · exact h.2 x hx
  · rw [hy]; exact h.2 _ (List.getElem_mem hi)
theorem small_erase {its : List IT} (h : smallI its) (i : Nat) : smallI (its.eraseIdx i) :=
  ⟨Nat.le_trans (List.length_eraseIdx_le _ _) h.1, fun x hx => h.2 x (List.mem_of_mem_eraseIdx hx)⟩
end Go.Proofs.Ytpehkoompadpaaa
