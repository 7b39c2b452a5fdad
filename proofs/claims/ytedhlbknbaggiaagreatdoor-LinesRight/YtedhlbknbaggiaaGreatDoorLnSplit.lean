/-
  Texts that are cut at a byte, and laid together: there, and back, plainly.
-/
import Derived.Lib.SplitLaws
namespace Go.Proofs.YtedhlbknbaggiaaGreatDoor
set_option linter.unusedVariables false
set_option linter.unusedSimpArgs false

/-- What stands between the bytes c. -/
def splitC (c : UInt8) : List UInt8 → List (List UInt8)
  | [] => [[]]
  | b :: l => if b = c then [] :: splitC c l else ((b :: (splitC c l).headD []) :: (splitC c l).tail)

theorem splitC_ne (c : UInt8) (l : List UInt8) : splitC c l ≠ [] := by
  cases l with
  | nil => simp [splitC]
  | cons b l => rw [splitC]; split <;> simp
theorem splitC_cons (c : UInt8) (l : List UInt8) : splitC c l = (splitC c l).headD [] :: (splitC c l).tail := by
  have h := splitC_ne c l
  generalize splitC c l = x at h
  cases x with
  | nil => exact absurd rfl h
  | cons a t => rfl
/-- A piece without c, and c behind it. -/
theorem splitC_piece (c : UInt8) (r : List UInt8) : ∀ p : List UInt8, c ∉ p → splitC c (p ++ c :: r) = p :: splitC c r
  | [], _ => by simp [splitC]
  | b :: p, h => by
    rw [List.mem_cons, not_or] at h
    rw [List.cons_append, splitC, if_neg (fun e => h.1 e.symm), splitC_piece c r p h.2]
    rfl
theorem splitC_last (c : UInt8) : ∀ p : List UInt8, c ∉ p → splitC c p = [p]
  | [], _ => rfl
  | b :: p, h => by
    rw [List.mem_cons, not_or] at h
    rw [splitC, if_neg (fun e => h.1 e.symm), splitC_last c p h.2]
    rfl
/-- Laid together, and cut again. -/
theorem splitC_join (c : UInt8) : ∀ ws : List (List UInt8), ws ≠ [] → (∀ w ∈ ws, c ∉ w) → splitC c ([c].intercalate ws) = ws
  | [], h, _ => absurd rfl h
  | [w], _, h => by
    have e : [c].intercalate [w] = w := by simp [List.intercalate]
    rw [e]
    exact splitC_last c w (h w (by simp))
  | w :: v :: t, _, h => by
    have e : [c].intercalate (w :: v :: t) = w ++ c :: [c].intercalate (v :: t) := by simp [List.intercalate, List.intersperse]
    rw [e, splitC_piece c _ w (h w (by simp)), splitC_join c (v :: t) (by simp) fun x hx => h x (by simp at hx ⊢; exact .inr hx)]
/-- Cut, and laid together again. -/
theorem join_splitC (c : UInt8) : ∀ l : List UInt8, [c].intercalate (splitC c l) = l
  | [] => by simp [splitC, List.intercalate]
  | b :: l => by
    have ih := join_splitC c l
    rw [splitC_cons] at ih
    rw [splitC]
    generalize (splitC c l).headD [] = h at ih ⊢
    split
    · rename_i e
      subst e
      rw [splitC_cons b l]
      have : [b].intercalate ([] :: (splitC b l).headD [] :: (splitC b l).tail) = b :: [b].intercalate ((splitC b l).headD [] :: (splitC b l).tail) := by simp [List.intercalate, List.intersperse]
      rw [this]
      have hh := join_splitC b l
      rw [splitC_cons] at hh
      rw [hh]
    · generalize (splitC c l).tail = t at ih ⊢
      cases t with
      | nil => simp [List.intercalate] at ih ⊢; exact ih
      | cons a t => simp [List.intercalate, List.intersperse] at ih ⊢; exact ih
theorem splitC_free (c : UInt8) : ∀ l : List UInt8, ∀ w ∈ splitC c l, c ∉ w
  | [] => by simp [splitC]
  | b :: l => by
    have ih := splitC_free c l
    rw [splitC]
    split
    · intro w hw
      rw [List.mem_cons] at hw
      rcases hw with rfl | hw
      · simp
      · exact ih w hw
    · rename_i hb
      rw [splitC_cons] at ih
      intro w hw
      rw [List.mem_cons] at hw
      rcases hw with rfl | hw
      · rw [List.mem_cons, not_or]
        exact ⟨fun e => hb e.symm, ih _ (by simp)⟩
      · exact ih w (by rw [List.mem_cons]; exact .inr hw)
theorem splitC_length (c : UInt8) : ∀ l : List UInt8, (splitC c l).length = l.count c + 1
  | [] => rfl
  | b :: l => by
    rw [splitC]
    split
    · rename_i e
      subst e
      rw [List.length_cons, splitC_length b l, List.count_cons_self]
    · rename_i e
      rw [List.length_cons, List.length_tail, splitC_length c l, List.count_cons_of_ne (by simpa using e)]
      omega

/-- The library's cut at one byte. -/
theorem split_one (c : UInt8) : ∀ l : List UInt8, Go.Lib.split l [c] = splitC c l
  | [] => rfl
  | b :: l => by
    have ih := split_one c l
    unfold Go.Lib.split at ih ⊢
    by_cases h : b = c
    · subst h
      have hix : Go.Lib.index (b :: l) [b] = ((0 : Nat) : Int) := by rw [Go.Lib.index]; simp [List.isPrefixOf]
      rw [Go.Lib.count_cons_eq, Nat.add_comm, Go.Lib.splitK, hix, splitC, if_pos rfl, if_neg (by decide)]
      simp only [Int.toNat_natCast, Nat.zero_add, List.take_zero, List.length_singleton, List.drop_succ_cons, List.drop_zero]
      rw [ih]
    · rw [Go.Lib.count_cons_ne b c l h, splitC, if_neg h]
      have hp : ([c] : List UInt8).isPrefixOf (b :: l) = false := by simp [List.isPrefixOf, Ne.symm h]
      have hix : Go.Lib.index (b :: l) [c] = if Go.Lib.index l [c] == -1 then -1 else Go.Lib.index l [c] + 1 := by rw [Go.Lib.index, hp]; simp
      cases hk : Go.Lib.count l [c] with
      | zero =>
        rw [hk] at ih
        rw [← ih]
        rfl
      | succ k =>
        rw [hk] at ih
        rw [Go.Lib.splitK] at ih ⊢
        rw [hix, ← ih]
        by_cases hm : (Go.Lib.index l [c] == -1) = true
        · rw [if_pos hm, if_pos (show ((-1 : Int) == -1) = true from rfl), if_pos hm]
          rfl
        · rw [if_neg hm]
          have hge := Go.Lib.index_ge l [c]
          have hne : ¬ Go.Lib.index l [c] = -1 := by simpa using hm
          obtain ⟨j, hj⟩ : ∃ j : Nat, Go.Lib.index l [c] = j := ⟨(Go.Lib.index l [c]).toNat, by omega⟩
          rw [hj, if_neg (by simp; omega)]
          have e : ((j : Int) + 1).toNat = j + 1 := by omega
          simp [e]
end Go.Proofs.YtedhlbknbaggiaaGreatDoor
