/-
  Hex: there, and back, plainly.
-/
import Derived.Lib.Bytealg
namespace Go.Proofs.YtedhlbknbaggiaaGreatDoor
set_option linter.unusedVariables false
set_option linter.unusedSimpArgs false

/-- The sixteen digits. -/
def hexL : List UInt8 := [48, 49, 50, 51, 52, 53, 54, 55, 56, 57, 97, 98, 99, 100, 101, 102]
def hexd (k : Nat) : UInt8 := hexL.getD k 0
def hexF (bs : List UInt8) : List UInt8 := bs.flatMap fun c => [hexd (c.toNat / 16), hexd (c.toNat % 16)]
/-- A digit's value. -/
def hexv (c : UInt8) : Option Nat :=
  if 48 ≤ c.toNat ∧ c.toNat ≤ 57 then some (c.toNat - 48) else if 97 ≤ c.toNat ∧ c.toNat ≤ 102 then some (c.toNat - 87) else none
def unhexF : List UInt8 → Option (List UInt8)
  | [] => some []
  | [_] => none
  | a :: b :: r => match hexv a, hexv b with
    | some h, some l => (unhexF r).map (UInt8.ofNat (16 * h + l) :: ·)
    | _, _ => none

theorem hexd_fin : ∀ k : Fin 16, hexv (hexd k.val) = some k.val ∧ ((hexd k.val).toNat = 48 + k.val ∨ (hexd k.val).toNat = 87 + k.val) := by decide
theorem hexv_d (k : Nat) (h : k < 16) : hexv (hexd k) = some k := (hexd_fin ⟨k, h⟩).1
theorem hexv_lt {c : UInt8} {k : Nat} (h : hexv c = some k) : k < 16 := by
  unfold hexv at h
  split at h
  · injection h with h; omega
  · split at h
    · injection h with h; omega
    · cases h
theorem hex_back (c : UInt8) : UInt8.ofNat (16 * (c.toNat / 16) + c.toNat % 16) = c := by
  rw [Nat.div_add_mod]
  simp
theorem hexF_cons (c : UInt8) (bs : List UInt8) : hexF (c :: bs) = hexd (c.toNat / 16) :: hexd (c.toNat % 16) :: hexF bs := rfl
theorem hexF_len (bs : List UInt8) : (hexF bs).length = 2 * bs.length := by
  induction bs with
  | nil => rfl
  | cons c bs ih => rw [hexF_cons]; simp only [List.length_cons, ih]; omega
theorem unhex_hex (bs : List UInt8) : unhexF (hexF bs) = some bs := by
  induction bs with
  | nil => rfl
  | cons c bs ih =>
    have hc := c.toNat_lt
    rw [hexF_cons, unhexF, hexv_d _ (by omega), hexv_d _ (by omega), ih]
    simp only [Option.map_some, hex_back]
/-- What hex digits are. -/
theorem hexd_is (k : Nat) (h : k < 16) : 48 ≤ (hexd k).toNat ∧ (hexd k).toNat ≤ 102 := by
  rcases (hexd_fin ⟨k, h⟩).2 with e | e <;> simp only at e <;> omega
theorem hexF_all (bs : List UInt8) : ∀ c ∈ hexF bs, 48 ≤ c.toNat ∧ c.toNat ≤ 102 := by
  intro x hx
  unfold hexF at hx
  rw [List.mem_flatMap] at hx
  obtain ⟨c, -, hx⟩ := hx
  have hc := c.toNat_lt
  simp only [List.mem_cons, List.not_mem_nil, or_false] at hx
  rcases hx with rfl | rfl
  · exact hexd_is _ (by omega)
  · exact hexd_is _ (by omega)
theorem unhex_len : ∀ {l bs : List UInt8}, unhexF l = some bs → l.length = 2 * bs.length
  | [], bs, h => by injection h with h; subst h; rfl
  | [_], bs, h => by cases h
  | a :: b :: r, bs, h => by
    rw [unhexF] at h
    split at h
    · cases hr : unhexF r with
      | none => rw [hr] at h; cases h
      | some t =>
        rw [hr] at h
        simp only [Option.map_some, Option.some.injEq] at h
        subst h
        have := unhex_len hr
        simp only [List.length_cons]
        omega
    · cases h
/-- The loop's step: two digits more. -/
theorem unhex_step (l : List UInt8) : ∀ (k : Nat) (pre : List UInt8), unhexF (l.take (2 * k)) = some pre → 2 * k + 2 ≤ l.length → ∀ h0 h1, unhexF (l.take (2 * (k + 1))) = match hexv (l[2 * k]'h0), hexv (l[2 * k + 1]'h1) with | some h, some q => some (pre ++ [UInt8.ofNat (16 * h + q)]) | _, _ => none := by
  intro k
  induction k generalizing l with
  | zero =>
    intro pre hp hl h0 h1
    match l, hl with
    | a :: b :: r, _ =>
      simp only [Nat.mul_zero, List.take_zero, unhexF, Option.some.injEq] at hp
      subst hp
      simp only [Nat.mul_zero, Nat.zero_add, Nat.mul_one, List.take_succ_cons, List.take_zero, unhexF, List.getElem_cons_zero, List.getElem_cons_succ, Option.map_some, List.nil_append]
  | succ k ih =>
    intro pre hp hl h0 h1
    match l, hl with
    | a :: b :: r, hl =>
      have e1 : (a :: b :: r).take (2 * (k + 1)) = a :: b :: r.take (2 * k) := by rw [show 2 * (k + 1) = 2 * k + 1 + 1 by omega]; rfl
      have e2 : (a :: b :: r).take (2 * (k + 1 + 1)) = a :: b :: r.take (2 * (k + 1)) := by rw [show 2 * (k + 1 + 1) = 2 * (k + 1) + 1 + 1 by omega]; rfl
      rw [e1, unhexF] at hp
      rw [e2, unhexF]
      simp only [List.length_cons] at hl
      have g0 : (a :: b :: r)[2 * (k + 1)]'h0 = r[2 * k]'(by omega) := by
        have : ∀ j (hj : j < (a :: b :: r).length), j = 2 * k + 1 + 1 → (a :: b :: r)[j] = r[2 * k]'(by omega) := fun j hj e => by subst e; rfl
        exact this _ _ (by omega)
      have g1 : (a :: b :: r)[2 * (k + 1) + 1]'h1 = r[2 * k + 1]'(by omega) := by
        have : ∀ j (hj : j < (a :: b :: r).length), j = 2 * k + 1 + 1 + 1 → (a :: b :: r)[j] = r[2 * k + 1]'(by omega) := fun j hj e => by subst e; rfl
        exact this _ _ (by omega)
      rw [g0, g1]
      cases ha : hexv a with
      | none => rw [ha] at hp; cases hp
      | some x =>
        cases hb : hexv b with
        | none => rw [ha, hb] at hp; cases hp
        | some y =>
          rw [ha, hb] at hp
          simp only at hp ⊢
          cases hr : unhexF (r.take (2 * k)) with
          | none => rw [hr] at hp; cases hp
          | some t =>
            rw [hr] at hp
            simp only [Option.map_some, Option.some.injEq] at hp
            subst hp
            rw [ih r t hr (by omega) (by omega) (by omega)]
            split
            · rfl
            · rfl
/-- A digit that is none, anywhere: nothing. -/
theorem unhex_stop (l : List UInt8) : ∀ (k : Nat), unhexF (l.take (2 * k)) = none → 2 * k ≤ l.length → unhexF l = none := by
  intro k
  induction k generalizing l with
  | zero => intro h _; simp [unhexF] at h
  | succ k ih =>
    intro h hl
    match l, hl with
    | a :: b :: r, hl =>
      have e1 : (a :: b :: r).take (2 * (k + 1)) = a :: b :: r.take (2 * k) := by rw [show 2 * (k + 1) = 2 * k + 1 + 1 by omega]; rfl
      rw [e1, unhexF] at h
      rw [unhexF]
      simp only [List.length_cons] at hl
      split at h
      · rename_i x y hx hy
        cases hr : unhexF (r.take (2 * k)) with
        | none => rw [ih r hr (by omega)]; rfl
        | some t => rw [hr] at h; cases h
      · rfl
theorem unhex_odd : ∀ (l : List UInt8), l.length % 2 = 1 → unhexF l = none
  | [], h => by simp at h
  | [_], _ => rfl
  | a :: b :: r, h => by
    rw [unhexF]
    simp only [List.length_cons] at h
    split
    · rw [unhex_odd r (by omega)]; rfl
    · rfl
end Go.Proofs.YtedhlbknbaggiaaGreatDoor
