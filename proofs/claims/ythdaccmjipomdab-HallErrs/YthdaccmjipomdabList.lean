/-
  The lists of QueueFirst.
-/
import Derived.Test.YthdaccmjipomdabItems
namespace Go.Proofs.Ythdaccmjipomdab
set_option linter.unusedVariables false
set_option linter.unusedSimpArgs false

def bodyN (i : Nat) : ND := ⟨[], [UInt8.ofNat i]⟩
def itemN (i : Nat) : IT := ⟨i, 0, 0, false, 0, bodyN i⟩
def tookN (i : Nat) : IT := ⟨i, 1, 0, true, 5, bodyN i⟩
def putL (k : Nat) : List IT := (List.range k).map itemN
def takL (n k : Nat) : List IT := (List.range n).map fun i => if i < k then tookN i else itemN i

theorem putL_len (k : Nat) : (putL k).length = k := by simp [putL]
theorem takL_len (n k : Nat) : (takL n k).length = n := by simp [takL]
theorem putL_succ (k : Nat) : putL (k + 1) = putL k ++ [itemN k] := by simp [putL, List.range_succ]
theorem takL_zero (n : Nat) : takL n 0 = putL n := by simp [takL, putL]
theorem takL_at (n k : Nat) (h : k < (takL n k).length) : (takL n k)[k] = itemN k := by simp [takL]
theorem takL_all (n b : Nat) (h : b < (takL n n).length) : (takL n n)[b] = tookN b := by
  have : b < n := by simpa [takL] using h
  simp [takL, this]
theorem takL_set (n k : Nat) (hk : k < n) : (takL n k).set k (tookN k) = takL n (k + 1) := by
  apply List.ext_getElem
  · simp [takL]
  · intro i h1 h2
    rw [List.getElem_set]
    simp only [takL, List.getElem_map, List.getElem_range]
    split
    · next h => subst h; simp
    · next h =>
      by_cases h3 : i < k
      · simp [h3, show i < k + 1 by omega]
      · simp [h3, show ¬ i < k + 1 by omega]

theorem notes_small (n k : Nat) : ∀ i ∈ takL n k, i.note.small := by
  intro i hi
  obtain ⟨j, _, rfl⟩ := List.mem_map.1 hi
  split <;> simp [tookN, itemN, bodyN, ND.small]
theorem puts_small (k : Nat) : ∀ i ∈ putL k, i.note.small := by
  intro i hi
  obtain ⟨j, _, rfl⟩ := List.mem_map.1 hi
  simp [itemN, bodyN, ND.small]

theorem idx_eq (p : IT → Bool) (l : List IT) (k : Nat) (hk : k < l.length) (hp : p l[k] = true) (hn : ∀ j (h : j < k), p (l[j]'(by omega)) = false) : idxI p l = k := by
  have : l.findIdx? p = some k := by
    rw [List.findIdx?_eq_some_iff_getElem]
    exact ⟨hk, hp, fun j hj => by simp [hn j hj]⟩
  simp [idxI, this]
theorem idx_none (p : IT → Bool) (l : List IT) (hn : ∀ i ∈ l, p i = false) : idxI p l = -1 := by
  have : l.findIdx? p = none := by
    rw [List.findIdx?_eq_none_iff]
    exact hn
  simp [idxI, this]

theorem takL_in (n k : Nat) (hk : k < n) : idxI (fun i => !i.out) (takL n k) = k := by
  refine idx_eq _ _ k (by simp [takL, hk]) (by simp [takL, itemN]) fun j hj => ?_
  simp [takL, hj, tookN]
theorem takL_none (n : Nat) : idxI (fun i => !i.out) (takL n n) = -1 := by
  refine idx_none _ _ fun i hi => ?_
  obtain ⟨j, hj, rfl⟩ := List.mem_map.1 hi
  have : j < n := by simpa using hj
  simp [this, tookN]
theorem takL_given (n b : Nat) (hb : b < n) : idxI (fun i => i.out && (i.id == (b : Int)) && (i.turn == 1)) (takL n n) = b := by
  refine idx_eq _ _ b (by simp [takL, hb]) (by simp [takL, hb, tookN]) fun j hj => ?_
  have : j < n := by omega
  simp [takL, this, tookN]
  omega

def backN (b : Nat) : IT := ⟨b, 1, 1, false, 0, bodyN b⟩
def bakL (n b : Nat) : List IT := (takL n n).set b (backN b)
theorem bakL_len (n b : Nat) : (bakL n b).length = n := by simp [bakL, takL]
theorem bakL_at (n b : Nat) (h : b < (bakL n b).length) : (bakL n b)[b] = backN b := by simp [bakL]
theorem bakL_small (n b : Nat) : ∀ i ∈ bakL n b, i.note.small := by
  intro i hi
  rcases List.mem_or_eq_of_mem_set hi with h | rfl
  · exact notes_small n n i h
  · simp [backN, bodyN, ND.small]
theorem bakL_in (n b : Nat) (hb : b < n) : idxI (fun i => !i.out) (bakL n b) = b := by
  refine idx_eq _ _ b (by simp [bakL, takL, hb]) (by simp [bakL, backN]) fun j hj => ?_
  have : j < n := by omega
  have hne : b ≠ j := by omega
  simp [bakL, takL, this, tookN, List.getElem_set, hne]
end Go.Proofs.Ythdaccmjipomdab
