/-
  Asks and answers as frames, as functions of lists: there, and back.
-/
import Derived.Test.YtedhlbknbaggiaaGreatDoorLnRightCardM04
namespace Go.Proofs.YtedhlbknbaggiaaGreatDoor
set_option linter.unusedVariables false
set_option linter.unusedSimpArgs false

structure AD where
  kind : Int
  queue : ByteArray
  n : Int
  ps : List PD
  body : List UInt8
structure SD where
  kind : Int
  n : Int
  m : Int
  err : Int
  ps : List PD
  body : List UInt8

def namedB (k : Int) : Bool := k == 2 || k == 3 || k == 4 || k == 5 || k == 6 || k == 9
def queueB (k : Int) (q : ByteArray) : Bool := if namedB k then keyB q else q.toList.isEmpty
def numB (k n : Int) : Bool :=
  if k == 2 then decide (0 ≤ n ∧ n ≤ 1073741824) else if k == 6 then decide (1 ≤ n ∧ n ≤ 9) else if k == 7 || k == 8 then decide (1 ≤ n ∧ n ≤ 1073741824) else n == 0
def AD.wrong (a : AD) : Int :=
  if a.kind < 1 ∨ 9 < a.kind then 1 else if queueB a.kind a.queue = false then 7 else if numB a.kind a.n = false then 3
  else if a.kind ≠ 4 ∧ 0 < a.ps.length + a.body.length then 2 else wrongN a.ps a.body.length

def numsB (k n m : Int) : Bool := if k == 2 then decide (1 ≤ n ∧ n ≤ 1073741824 ∧ 0 ≤ m ∧ m ≤ 3) else n == 0 && m == 0
def errB (k e : Int) : Bool := if k == 4 then decide (0 < e ∧ e ≤ 10) else e == 0
def SD.wrong (s : SD) : Int :=
  if s.kind < 1 ∨ 4 < s.kind then 1 else if numsB s.kind s.n s.m = false ∨ errB s.kind s.err = false then 3
  else if s.kind ≠ 2 ∧ 0 < s.ps.length + s.body.length then 2 else wrongN s.ps s.body.length

theorem key_size (s : ByteArray) (h : keyB s = true) : s.size ≤ 8 := by
  unfold keyB at h
  simp at h
  omega
theorem empty_size (s : ByteArray) (h : s.toList.isEmpty = true) : s.size = 0 := by
  rw [List.isEmpty_iff] at h
  have := size_list s
  rw [ByteArray.toList_eq] at h
  rw [← this, h]
  rfl
theorem AD.right (a : AD) (h : a.wrong = 0) : 1 ≤ a.kind ∧ a.kind ≤ 9 ∧ a.queue.size ≤ 8 ∧ 0 ≤ a.n ∧ a.n ≤ 1073741824 ∧ wrongN a.ps a.body.length = 0 ∧ (a.kind ≠ 4 → a.ps = [] ∧ a.body = []) := by
  unfold AD.wrong at h
  split at h
  · omega
  · split at h
    · omega
    · split at h
      · omega
      · split at h
        · omega
        · rename_i h1 h2 h3 h4
          refine ⟨by omega, by omega, ?_, ?_, ?_, h, fun hk => ?_⟩
          · simp only [Bool.not_eq_false, queueB] at h2
            split at h2
            · exact key_size _ h2
            · have := empty_size _ h2; omega
          · simp only [Bool.not_eq_false, numB] at h3
            repeat' split at h3
            all_goals simp at h3
            all_goals omega
          · simp only [Bool.not_eq_false, numB] at h3
            repeat' split at h3
            all_goals simp at h3
            all_goals omega
          · have : a.ps.length + a.body.length = 0 := by
              rcases Nat.eq_zero_or_pos (a.ps.length + a.body.length) with h0 | h0
              · exact h0
              · exact absurd ⟨hk, h0⟩ h4
            exact ⟨List.length_eq_zero_iff.1 (by omega), List.length_eq_zero_iff.1 (by omega)⟩
theorem SD.right (s : SD) (h : s.wrong = 0) : 1 ≤ s.kind ∧ s.kind ≤ 4 ∧ 0 ≤ s.n ∧ s.n ≤ 1073741824 ∧ 0 ≤ s.m ∧ s.m ≤ 3 ∧ 0 ≤ s.err ∧ s.err ≤ 10 ∧ wrongN s.ps s.body.length = 0 ∧ (s.kind ≠ 2 → s.ps = [] ∧ s.body = []) := by
  unfold SD.wrong at h
  split at h
  · omega
  · split at h
    · omega
    · split at h
      · omega
      · rename_i h1 h2 h4
        have h3 : numsB s.kind s.n s.m = true ∧ errB s.kind s.err = true := by
          simpa using h2
        obtain ⟨g1, g2⟩ := h3
        have e1 : 0 ≤ s.n ∧ s.n ≤ 1073741824 ∧ 0 ≤ s.m ∧ s.m ≤ 3 := by
          unfold numsB at g1
          split at g1
          · simp at g1; omega
          · simp at g1; omega
        have e2 : 0 ≤ s.err ∧ s.err ≤ 10 := by
          unfold errB at g2
          split at g2
          · simp at g2; omega
          · simp at g2; omega
        refine ⟨by omega, by omega, e1.1, e1.2.1, e1.2.2.1, e1.2.2.2, e2.1, e2.2, h, fun hk => ?_⟩
        have : s.ps.length + s.body.length = 0 := by
          rcases Nat.eq_zero_or_pos (s.ps.length + s.body.length) with h0 | h0
          · exact h0
          · exact absurd ⟨hk, h0⟩ h4
        exact ⟨List.length_eq_zero_iff.1 (by omega), List.length_eq_zero_iff.1 (by omega)⟩

end Go.Proofs.YtedhlbknbaggiaaGreatDoor
