/-
  Numbers of words: there, and back, plainly.
-/
import Derived.Lib.AtoiAll
import Derived.Lib.ItoaNum
namespace Go.Proofs.YtedhlbknbaggiaaGreatDoor
set_option linter.unusedVariables false
set_option linter.unusedSimpArgs false

/-- The number that a word is, if it is just so written. -/
def numV (l : List UInt8) : Option Int :=
  match Go.Lib.atoiAll l with
  | .ok v => if Go.Lib.itoa v = l then if v < -1073741824 ∨ 1073741824 < v then none else some v else none
  | _ => none

theorem digit_nat (u : Nat) (h : u < 10) : (UInt8.ofNat (48 + u)).toNat = 48 + u := by
  simp
  omega
theorem parse_app : ∀ (l r : List UInt8) (acc u : Nat), Go.Lib.parseUint10 acc l = .ok u → Go.Lib.parseUint10 acc (l ++ r) = Go.Lib.parseUint10 u r
  | [], r, acc, u, h => by
    simp only [Go.Lib.parseUint10] at h
    injection h with h
    subst h
    rfl
  | c :: t, r, acc, u, h => by
    simp only [List.cons_append, Go.Lib.parseUint10] at h ⊢
    split at h
    · rename_i h1
      split at h
      · cases h
      · rename_i h2
        split at h
        · cases h
        · rename_i h3
          rw [if_pos h1, if_neg h2, if_neg h3]
          exact parse_app t r _ u h
    · cases h
theorem parse_dec (u : Nat) : u < 18446744073709551616 → Go.Lib.parseUint10 0 (Go.Lib.decDigits u) = .ok u := by
  induction u using Nat.strongRecOn with
  | _ u ih =>
    intro hu
    by_cases h : u < 10
    · rw [Go.Lib.decDigits, dif_pos h]
      simp only [Go.Lib.parseUint10]
      rw [digit_nat u h, if_pos (by omega), if_neg (by omega), if_neg (by omega)]
      congr 1
      omega
    · rw [Go.Lib.decDigits, dif_neg h, parse_app _ _ _ _ (ih (u / 10) (by omega) (by omega))]
      simp only [Go.Lib.parseUint10]
      rw [digit_nat (u % 10) (by omega), if_pos (by omega), if_neg (by omega), if_neg (by omega)]
      congr 1
      omega
theorem dec_head (u : Nat) : ∃ c r, Go.Lib.decDigits u = c :: r ∧ 48 ≤ c.toNat ∧ c.toNat ≤ 57 := by
  induction u using Nat.strongRecOn with
  | _ u ih =>
    by_cases h : u < 10
    · rw [Go.Lib.decDigits, dif_pos h]
      exact ⟨_, _, rfl, by rw [digit_nat u h]; omega, by rw [digit_nat u h]; omega⟩
    · obtain ⟨c, r, e, h1, h2⟩ := ih (u / 10) (by omega)
      rw [Go.Lib.decDigits, dif_neg h, e]
      exact ⟨c, _, rfl, h1, h2⟩
theorem dec_all (u : Nat) : ∀ c ∈ Go.Lib.decDigits u, 48 ≤ c.toNat ∧ c.toNat ≤ 57 := by
  induction u using Nat.strongRecOn with
  | _ u ih =>
    intro c hc
    by_cases h : u < 10
    · rw [Go.Lib.decDigits, dif_pos h, List.mem_singleton] at hc
      subst hc
      rw [digit_nat u h]
      omega
    · rw [Go.Lib.decDigits, dif_neg h, List.mem_append, List.mem_singleton] at hc
      rcases hc with hc | rfl
      · exact ih (u / 10) (by omega) c hc
      · rw [digit_nat (u % 10) (by omega)]
        omega
theorem nd_le : ∀ (k u : Nat), u < 10 ^ (k + 1) → Go.Lib.nDigits u ≤ k + 1
  | 0, u, h => by rw [Go.Lib.nDigits_small (by simpa using h)]; omega
  | k + 1, u, h => by
    by_cases h1 : u < 10
    · rw [Go.Lib.nDigits_small h1]; omega
    · rw [Go.Lib.nDigits_big h1]
      have := nd_le k (u / 10) (by rw [Nat.pow_succ] at h; omega)
      omega
theorem itoa_len (n : Int) (h : -9999999999 ≤ n ∧ n ≤ 9999999999) : 1 ≤ (Go.Lib.itoa n).length ∧ (Go.Lib.itoa n).length ≤ 11 := by
  have key : ∀ u : Nat, u < 10000000000 → 1 ≤ (Go.Lib.decDigits u).length ∧ (Go.Lib.decDigits u).length ≤ 10 := fun u hu => by
    rw [Go.Lib.decDigits_length]
    exact ⟨Go.Lib.nDigits_pos u, nd_le 9 u (by simpa using hu)⟩
  unfold Go.Lib.itoa
  split
  · have := key n.natAbs (by omega)
    simp only [List.length_cons]
    omega
  · have := key n.toNat (by omega)
    omega
/-- What a numeral's bytes are: digits, and a sign ahead. -/
theorem itoa_all (n : Int) : ∀ c ∈ Go.Lib.itoa n, c.toNat = 45 ∨ (48 ≤ c.toNat ∧ c.toNat ≤ 57) := by
  intro c hc
  unfold Go.Lib.itoa at hc
  split at hc
  · rw [List.mem_cons] at hc
    rcases hc with rfl | hc
    · exact .inl rfl
    · exact .inr (dec_all _ c hc)
  · exact .inr (dec_all _ c hc)
theorem itoa_head (n : Int) (h : 0 ≤ n) : ∃ c r, Go.Lib.itoa n = c :: r ∧ 48 ≤ c.toNat ∧ c.toNat ≤ 57 := by
  unfold Go.Lib.itoa
  rw [if_neg (by omega)]
  exact dec_head _
theorem itoa_ne (n : Int) : Go.Lib.itoa n ≠ [] := by
  unfold Go.Lib.itoa
  split
  · simp
  · obtain ⟨c, r, e, -⟩ := dec_head n.toNat
    rw [e]
    simp
theorem atoi_itoa (n : Int) (h : -9223372036854775808 ≤ n ∧ n ≤ 9223372036854775807) : Go.Lib.atoiAll (Go.Lib.itoa n) = .ok n := by
  by_cases hn : n < 0
  · have e : Go.Lib.itoa n = 45 :: Go.Lib.decDigits n.natAbs := by unfold Go.Lib.itoa; rw [if_pos hn]
    obtain ⟨c, r, ed, -⟩ := dec_head n.natAbs
    have hm : Go.Lib.parseMag (Go.Lib.decDigits n.natAbs) = .ok n.natAbs := by
      unfold Go.Lib.parseMag
      rw [if_neg (by rw [ed]; simp)]
      exact parse_dec _ (by omega)
    rw [e]
    unfold Go.Lib.atoiAll
    have h45 : (45 : UInt8).toNat = 45 := rfl
    simp only [h45]
    rw [if_pos (Or.inr trivial), hm]
    simp only [not_true_eq_false, false_and, true_and, if_false, if_true]
    rw [if_neg (by omega)]
    congr 1
    omega
  · obtain ⟨c, r, e, h1, h2⟩ := itoa_head n (by omega)
    have ed : Go.Lib.decDigits n.toNat = c :: r := by rw [← e]; unfold Go.Lib.itoa; rw [if_neg hn]
    have hm : Go.Lib.parseMag (c :: r) = .ok n.toNat := by
      unfold Go.Lib.parseMag
      rw [if_neg (by simp), ← ed]
      exact parse_dec _ (by omega)
    rw [e]
    unfold Go.Lib.atoiAll
    simp only
    rw [if_neg (by omega), hm]
    have h45 : ¬ c.toNat = 45 := by omega
    simp only [h45, not_false_eq_true, true_and, false_and, if_false]
    rw [if_neg (by omega)]
    congr 1
    omega
theorem numV_itoa (n : Int) (h : -1073741824 ≤ n ∧ n ≤ 1073741824) : numV (Go.Lib.itoa n) = some n := by
  unfold numV
  rw [atoi_itoa n (by omega)]
  simp only
  rw [if_pos trivial, if_neg (by omega)]
theorem numV_some {l : List UInt8} {v : Int} (h : numV l = some v) : l = Go.Lib.itoa v ∧ -1073741824 ≤ v ∧ v ≤ 1073741824 := by
  unfold numV at h
  split at h
  · split at h
    · rename_i h1
      split at h
      · cases h
      · injection h with h
        subst h
        exact ⟨h1.symm, by omega, by omega⟩
    · cases h
  · cases h
end Go.Proofs.YtedhlbknbaggiaaGreatDoor
