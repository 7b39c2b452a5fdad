/-
  The leaves of package note: isKind, hasStray, inRange, Key and wrongProp answer what the functions below say, and turn nothing that was there.
-/
import Derived.Test.YtedhlbknbaggiaaGreatDoorRows
import Derived.WalkKit
import Derived.WalkSpells
import Derived.WalkLawsBesides
namespace Go.Proofs.YtedhlbknbaggiaaGreatDoor
open Go.RowKit
set_option linter.unusedVariables false
set_option linter.unusedSimpArgs false

def kindB (k : Int) : Bool := k == 1 || k == 2 || k == 3

set_option maxHeartbeats 400000 in
theorem isKind_any (k : Int) (w : World) :
    Calls Tryz.prog 143 #[.int .i64 k] w fun e w' => e = .returned (.bool (kindB k)) ∧ w' = w := by
  go_enter Tryz.func143, Tryz.ntmps143
  go_wp2
  all_goals (go_ret; exact ⟨by simp [kindB, *], rfl⟩)

def strayB (kind n : Int) (text : ByteArray) : Bool := if kind == 2 then n != 0 else !text.toList.isEmpty

theorem ret_bool {a b : Bool} (h : a = b) : Ending.returned (.bool a) = .returned (.bool b) := by rw [h]

set_option maxHeartbeats 400000 in
theorem hasStray_any (key : ByteArray) (kind n : Int) (text : ByteArray) (w : World) :
    Calls Tryz.prog 145 #[.agg #[.string key, .int .i64 kind, .int .i64 n, .string text]] w fun e w' => e = .returned (.bool (strayB kind n text)) ∧ Below w.heap.size w w' := by
  go_enter Tryz.func145, Tryz.ntmps145
  go_wp2
  all_goals (go_ret; exact ⟨ret_bool (by simp [strayB, *]), (Below.refl _ _).alloc (Nat.le_refl _) _⟩)

def rangeB (kind n : Int) : Bool := if kind == 1 then decide (-1073741824 ≤ n ∧ n ≤ 1073741824) else if kind == 3 then n == 0 || n == 1 else true

set_option maxHeartbeats 400000 in
theorem inRange_any (key : ByteArray) (kind n : Int) (text : ByteArray) (w : World) :
    Calls Tryz.prog 144 #[.agg #[.string key, .int .i64 kind, .int .i64 n, .string text]] w fun e w' => e = .returned (.bool (rangeB kind n)) ∧ Below w.heap.size w w' := by
  go_enter Tryz.func144, Tryz.ntmps144
  go_wp2
  all_goals go_ret
  all_goals refine ⟨ret_bool ?_, (Below.refl _ _).alloc (Nat.le_refl _) _⟩
  all_goals (simp [rangeB, *] <;> try omega)

def lowB (c : UInt8) : Bool := 97 ≤ c && c ≤ 122
def keyB (s : ByteArray) : Bool := 1 ≤ s.size && s.size ≤ 8 && s.data.toList.all lowB

theorem take_snoc (s : ByteArray) (k : Nat) (h : k < s.size) : s.data.toList.take (k + 1) = s.data.toList.take k ++ [s[k]] := by
  rw [List.take_succ_eq_append_getElem (by simpa using h)]; rfl
theorem low_iff (c : UInt8) : lowB c = true ↔ (97 : Int) ≤ c.toNat ∧ (c.toNat : Int) ≤ 122 := by
  simp [lowB, UInt8.le_iff_toNat_le]; omega

theorem all_step (s : ByteArray) (k : Nat) (h : k < s.size) (ha : (s.data.toList.take k).all lowB = true) (h1 : ¬ (s[k].toNat : Int) < 97) (h2 : ¬ (122 : Int) < s[k].toNat) : (s.data.toList.take (k+1)).all lowB = true := by
  rw [take_snoc s k h, List.all_append, ha]; simp [low_iff]; omega
theorem all_stop (s : ByteArray) (k : Nat) (h : k < s.size) (h1 : (s[k].toNat : Int) < 97 ∨ (122 : Int) < s[k].toNat) : s.data.toList.all lowB = false := by
  rw [Bool.eq_false_iff]
  intro hh
  rw [List.all_eq_true] at hh
  have := (low_iff _).1 (hh s[k] (by have : s[k] = s.data.toList[k]'(by simpa using h) := rfl
                                     rw [this]; exact List.getElem_mem _))
  omega

set_option maxHeartbeats 400000 in
theorem key_any (s : ByteArray) (w : World) (hs : s.size ≤ maxLen) :
    Calls Tryz.prog 121 #[.string s] w fun e w' => e = .returned (.bool (keyB s)) ∧ w' = w := by
  unfold maxLen at hs
  by_cases h1 : 1 ≤ s.size
  case neg =>
    go_enter Tryz.func121, Tryz.ntmps121
    go_wp2
    all_goals (go_ret; exact ⟨ret_bool (by simp [keyB]; omega), rfl⟩)
  by_cases h2 : s.size ≤ 8
  case neg =>
    go_enter Tryz.func121, Tryz.ntmps121
    go_wp2
    all_goals (go_ret; exact ⟨ret_bool (by simp [keyB]; omega), rfl⟩)
  go_enter Tryz.func121, Tryz.ntmps121
  go_wp2
  go_loop [14] (fun i => ∃ k : Nat, k ≤ s.size ∧ i = .int .i64 k ∧ (s.data.toList.take k).all lowB = true) (fun i => s.size - (intOf i).toNat)
  case atStart => exact ⟨0, Nat.zero_le _, rfl, rfl⟩
  case round =>
    obtain ⟨k, hk, rfl, ha⟩ := hrel
    have HA : Hid ((s.data.toList.take k).all lowB = true) := ha
    clear ha
    by_cases hlt : k < s.size
    · by_cases h3 : (s[k].toNat : Int) < 97
      · go_wp2
        go_ret
        exact ⟨ret_bool (by simp [keyB, all_stop s k hlt (Or.inl h3)]), rfl⟩
      · by_cases h4 : (122 : Int) < s[k].toNat
        · go_wp2
          go_ret
          exact ⟨ret_bool (by simp [keyB, all_stop s k hlt (Or.inr h4)]), rfl⟩
        · go_wp2
          go_round
          case rel => exact ⟨k + 1, by omega, by go_num, all_step s k hlt HA.out h3 h4⟩
          case measure => simp [intOf]; omega
    · go_wp2
      go_ret
      have e : k = s.size := by omega
      have HB := HA.out
      rw [e, List.take_of_length_le (by simp)] at HB
      exact ⟨ret_bool (by simp [keyB, h1, h2, HB]), rfl⟩

theorem bcell {W w1 : World} (hb : Below W.heap.size W w1) : (∀ b o, b < W.heap.size → w1.cell? ⟨b, o, none⟩ = W.cell? ⟨b, o, none⟩) ∧ (∀ b o, b < W.heap.size → w1.frozen? ⟨b, o, none⟩ = W.frozen? ⟨b, o, none⟩) :=
  ⟨fun b o h => hb.cell (p := ⟨b, o, none⟩) h, fun b o h => hb.frozen (p := ⟨b, o, none⟩) h⟩

theorem ret_i64 {a b : Int} (h : a = b) : Ending.returned (.int .i64 a) = .returned (.int .i64 b) := by rw [h]

def wrongP (key : ByteArray) (kind n : Int) (text : ByteArray) : Int :=
  if !keyB key then 7 else if !kindB kind then 1 else if !rangeB kind n then 3 else if kind == 2 && 12 < text.size then 4 else if strayB kind n text then 2 else 0

set_option maxHeartbeats 1000000 in
theorem wrongProp_any (key : ByteArray) (kind n : Int) (text : ByteArray) (w : World) (hs : key.size ≤ maxLen) (ht : text.size ≤ maxLen) :
    Calls Tryz.prog 122 #[.agg #[.string key, .int .i64 kind, .int .i64 n, .string text]] w fun e w' => e = .returned (.int .i64 (wrongP key kind n text)) ∧ Below w.heap.size w w' := by
  have ht' := ht
  unfold maxLen at ht'
  cases hk : keyB key
  · go_enter Tryz.func122, Tryz.ntmps122
    go_wp2_with (go_at_call 121; refine (key_any key _ hs).mono ?_; rintro e w1 ⟨rfl, rfl⟩)
    go_ret
    exact ⟨ret_i64 (by simp [wrongP, hk]), (Below.refl _ _).alloc (Nat.le_refl _) _⟩
  cases hk2 : kindB kind
  · go_enter Tryz.func122, Tryz.ntmps122
    go_wp2_with (first
    | (go_at_call 121; refine (key_any key _ hs).mono ?_; rintro e w1 ⟨rfl, rfl⟩)
    | (go_at_call 143; refine (isKind_any _ _).mono ?_; rintro e w1 ⟨rfl, rfl⟩))
    go_ret
    exact ⟨ret_i64 (by simp [wrongP, hk, hk2]), (Below.refl _ _).alloc (Nat.le_refl _) _⟩
  cases hk3 : rangeB kind n
  · go_enter Tryz.func122, Tryz.ntmps122
    go_wp2_with (first
    | (go_at_call 121; refine (key_any key _ hs).mono ?_; rintro e w1 ⟨rfl, rfl⟩)
    | (go_at_call 143; refine (isKind_any _ _).mono ?_; rintro e w1 ⟨rfl, rfl⟩)
    | (go_at_call 144; refine (inRange_any _ _ _ _ _).mono ?_; rintro e w1 ⟨rfl, hb1⟩; obtain ⟨hc1, hf1⟩ := bcell hb1))
    go_ret
    exact ⟨ret_i64 (by simp [wrongP, hk, hk2, hk3]), ((Below.refl _ _).alloc (Nat.le_refl _) _).trans (hb1.mono (by simp))⟩
  by_cases h5 : kind = 2
  · subst h5
    by_cases h6 : 12 < text.size
    · go_enter Tryz.func122, Tryz.ntmps122
      go_wp2_with (first
      | (go_at_call 121; refine (key_any key _ hs).mono ?_; rintro e w1 ⟨rfl, rfl⟩)
      | (go_at_call 143; refine (isKind_any _ _).mono ?_; rintro e w1 ⟨rfl, rfl⟩)
      | (go_at_call 144; refine (inRange_any _ _ _ _ _).mono ?_; rintro e w1 ⟨rfl, hb1⟩; obtain ⟨hc1, hf1⟩ := bcell hb1; have hz1 := hb1.size)
      | (go_at_call 145; refine (hasStray_any _ _ _ _ _).mono ?_; rintro e w2 ⟨rfl, hb2⟩))
      go_ret
      exact ⟨ret_i64 (by simp [wrongP, hk, hk2, hk3, h6]), ((Below.refl _ _).alloc (Nat.le_refl _) _).trans (hb1.mono (by simp))⟩
    · cases h7 : strayB 2 n text
      all_goals
        go_enter Tryz.func122, Tryz.ntmps122
        go_wp2_with (first
        | (go_at_call 121; refine (key_any key _ hs).mono ?_; rintro e w1 ⟨rfl, rfl⟩)
        | (go_at_call 143; refine (isKind_any _ _).mono ?_; rintro e w1 ⟨rfl, rfl⟩)
        | (go_at_call 144; refine (inRange_any _ _ _ _ _).mono ?_; rintro e w1 ⟨rfl, hb1⟩; obtain ⟨hc1, hf1⟩ := bcell hb1; have hz1 := hb1.size)
        | (go_at_call 145; refine (hasStray_any _ _ _ _ _).mono ?_; rintro e w2 ⟨rfl, hb2⟩))
        go_ret
        exact ⟨ret_i64 (by simp [wrongP, hk, hk2, hk3, h6, h7]), (((Below.refl _ _).alloc (Nat.le_refl _) _).trans (hb1.mono (by simp))).trans (hb2.mono (by have := hb1.size; simp at this; omega))⟩
  · have h5' : (kind == 2) = false := by simpa using h5
    cases h7 : strayB kind n text
    all_goals
      go_enter Tryz.func122, Tryz.ntmps122
      go_wp2_with (first
      | (go_at_call 121; refine (key_any key _ hs).mono ?_; rintro e w1 ⟨rfl, rfl⟩)
      | (go_at_call 143; refine (isKind_any _ _).mono ?_; rintro e w1 ⟨rfl, rfl⟩)
      | (go_at_call 144; refine (inRange_any _ _ _ _ _).mono ?_; rintro e w1 ⟨rfl, hb1⟩; obtain ⟨hc1, hf1⟩ := bcell hb1; have hz1 := hb1.size)
      | (go_at_call 145; refine (hasStray_any _ _ _ _ _).mono ?_; rintro e w2 ⟨rfl, hb2⟩))
      go_ret
      exact ⟨ret_i64 (by simp [wrongP, hk, hk2, hk3, h5, h7]), (((Below.refl _ _).alloc (Nat.le_refl _) _).trans (hb1.mono (by simp))).trans (hb2.mono (by have := hb1.size; simp at this; omega))⟩
end Go.Proofs.YtedhlbknbaggiaaGreatDoor
