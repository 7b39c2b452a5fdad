/-
  What is read may be: plainly.
-/
import Derived.Test.YtedhlbknbaggiaaGreatDoorLnReadS
namespace Go.Proofs.YtedhlbknbaggiaaGreatDoor
open Go.RowKit
set_option linter.unusedVariables false
set_option linter.unusedSimpArgs false

theorem inside_room {bs : List UInt8} (h : (insideL bs).2 = 0) : (insideL bs).1.length + 1 ≤ bs.length ∧ (insideL bs).1.length + 1 ≤ 400 := by
  unfold insideL at h ⊢
  have := index_lt (bs.take 400) 10
  rw [List.length_take] at this
  split at h
  · rename_i h0
    rw [if_pos h0]
    simp only [List.length_take]
    omega
  · split at h <;> simp at h

theorem readAsk_right (bs : List UInt8) : ((readAskF bs).2.2 = 0 ∧ (readAskF bs).1.wrong = 0 ∧ 1 ≤ (readAskF bs).2.1 ∧ (readAskF bs).2.1 ≤ bs.length ∧ (readAskF bs).2.1 ≤ 400) ∨ ((readAskF bs).2.2 ≠ 0 ∧ (readAskF bs).2.1 = 0 ∧ (readAskF bs).1 = AD.zero) := by
  have hr := @inside_room bs
  unfold readAskF
  generalize insideL bs = t at hr ⊢
  dsimp only
  generalize askOfR (splitC 32 t.1) false = q
  by_cases h0 : t.2 = 0
  · rw [if_neg (by simpa using h0)]
    have hr := hr h0
    split
    · exact .inr ⟨by decide, rfl, rfl⟩
    · split
      · exact .inr ⟨by decide, rfl, rfl⟩
      · split
        · rename_i h
          exact .inr ⟨h, rfl, rfl⟩
        · rename_i h
          exact .inl ⟨rfl, by simpa using h, by show 1 ≤ t.1.length + 1; omega, hr.1, hr.2⟩
  · rw [if_pos h0]
    exact .inr ⟨h0, rfl, rfl⟩
theorem readSay_right (bs : List UInt8) : ((readSayF bs).2.2 = 0 ∧ (readSayF bs).1.wrong = 0 ∧ 1 ≤ (readSayF bs).2.1 ∧ (readSayF bs).2.1 ≤ bs.length ∧ (readSayF bs).2.1 ≤ 400) ∨ ((readSayF bs).2.2 ≠ 0 ∧ (readSayF bs).2.1 = 0 ∧ (readSayF bs).1 = SD.zero) := by
  have hr := @inside_room bs
  unfold readSayF
  generalize insideL bs = t at hr ⊢
  dsimp only
  generalize sayOfR (splitC 32 t.1) false = q
  by_cases h0 : t.2 = 0
  · rw [if_neg (by simpa using h0)]
    have hr := hr h0
    split
    · exact .inr ⟨by decide, rfl, rfl⟩
    · split
      · exact .inr ⟨by decide, rfl, rfl⟩
      · split
        · rename_i h
          exact .inr ⟨h, rfl, rfl⟩
        · rename_i h
          exact .inl ⟨rfl, by simpa using h, by show 1 ≤ t.1.length + 1; omega, hr.1, hr.2⟩
  · rw [if_pos h0]
    exact .inr ⟨h0, rfl, rfl⟩
/-- What was read: its properties fit, its queue's name is short. -/
theorem readAsk_fits (bs : List UInt8) : (readAskF bs).1.queue.size ≤ maxLen ∧ ∀ p ∈ (readAskF bs).1.ps, p.fits := by
  have hz : AD.zero.queue.size ≤ maxLen ∧ ∀ p ∈ AD.zero.ps, p.fits := ⟨Nat.zero_le _, fun p hp => by cases hp⟩
  have hf := fits_ask (b := false) (small_split _ (inside_len bs))
  unfold readAskF
  generalize insideL bs = t at hf ⊢
  dsimp only
  generalize askOfR (splitC 32 t.1) false = q at hf ⊢
  split
  · exact hz
  · split
    · exact hz
    · split
      · exact hz
      · split
        · exact hz
        · exact hf
theorem readSay_fits (bs : List UInt8) : ∀ p ∈ (readSayF bs).1.ps, p.fits := by
  have hz : ∀ p ∈ SD.zero.ps, p.fits := fun p hp => by cases hp
  have hf := fits_say (b := false) (small_split _ (inside_len bs))
  unfold readSayF
  generalize insideL bs = t at hf ⊢
  dsimp only
  generalize sayOfR (splitC 32 t.1) false = q at hf ⊢
  split
  · exact hz
  · split
    · exact hz
    · split
      · exact hz
      · split
        · exact hz
        · exact hf
end Go.Proofs.YtedhlbknbaggiaaGreatDoor
