/-
  Parse; Equal; Same; Math: texts laid together.
-/
import Derived.Test.YtedhlbknbaggiaaGreatDoorLnRightCardM03
import Derived.Deep.QuietTactic
import Derived.BigQuiet
import Derived.Laws.StructEq
import Derived.Deep.RegionLaw
/-
  note.Parse answers what parseF says of any bytes.
-/
namespace Go.Proofs.YtedhlbknbaggiaaGreatDoor
open Go.RowKit
set_option linter.unusedVariables false
set_option linter.unusedSimpArgs false

attribute [local go_sem ↓] Go.wp_at_zero Go.wp_at_succ

/-- A slice of properties that reads as ps. -/
def SliceP (B : Nat) (w : World) (v : Value) (ps : List PD) : Prop :=
  ∃ a cap, v = .slice a ps.length cap ∧ ps.length ≤ cap ∧ cap ≤ maxLen ∧ (a = none → cap = 0) ∧ PropsAt B w a ps

theorem SliceP.same {B : Nat} {w w' : World} {v : Value} {ps : List PD} (h : SliceP B w v ps) (hb : ∀ k, k < B → w'.heap[k]? = w.heap[k]?) : SliceP B w' v ps := by
  obtain ⟨a, cap, rfl, h1, h2, hn, h3⟩ := h
  exact ⟨a, cap, rfl, h1, h2, hn, h3.same hb⟩
theorem SliceP.mono {B B' : Nat} {w : World} {v : Value} {ps : List PD} (h : SliceP B w v ps) (hb : B ≤ B') : SliceP B' w v ps := by
  obtain ⟨a, cap, rfl, h1, h2, hn, h3⟩ := h
  exact ⟨a, cap, rfl, h1, h2, hn, h3.mono hb⟩
theorem SliceP.nil (B : Nat) (w : World) : SliceP B w (.slice none 0 0) [] := ⟨none, 0, rfl, Nat.le_refl _, by simp [maxLen], fun _ => rfl, fun i h => by simp at h⟩

end Go.Proofs.YtedhlbknbaggiaaGreatDoor

/-
  bytes.Equal, and slices.Equal at api.Prop, tell whether two slices read the same.
-/
namespace Go.Proofs.YtedhlbknbaggiaaGreatDoor
open Go.RowKit
set_option linter.unusedVariables false
set_option linter.unusedSimpArgs false

theorem bstr_toList (a : List UInt8) : (bstr a).toList = a := by rw [ByteArray.toList_eq]; rfl

open Classical

theorem fields38 : Tryz.prog.underlying 36 = some (.struct (Tryz.prog.fieldsOf 36)) := by kernel_rfl
theorem held38 : Tryz.prog.stoodInHeld 36 = false := by kernel_rfl

theorem ba_toList {a b : ByteArray} : a.toList = b.toList ↔ a = b := by
  rw [ByteArray.toList_eq, ByteArray.toList_eq]
  constructor
  · intro h
    obtain ⟨⟨x⟩⟩ := a
    obtain ⟨⟨y⟩⟩ := b
    simp only at h
    rw [h]
  · intro h; rw [h]

end Go.Proofs.YtedhlbknbaggiaaGreatDoor

/-
  note.Same tells whether two notes read the same; note.Own answers a note that reads as the given one.
-/
namespace Go.Proofs.YtedhlbknbaggiaaGreatDoor
open Go.RowKit Classical
set_option linter.unusedVariables false
set_option linter.unusedSimpArgs false

attribute [local go_sem ↓] Go.wp_at_zero Go.wp_at_succ

theorem SliceP.below {w w' : World} {v : Value} {ps : List PD} (h : SliceP w.heap.size w v ps) (hb : Below w.heap.size w w') : SliceP w'.heap.size w' v ps := (h.same hb.block).mono hb.size
theorem SliceB.below {w w' : World} {v : Value} {bs : List UInt8} (h : SliceB w.heap.size w v bs) (hb : Below w.heap.size w w') : SliceB w'.heap.size w' v bs := (h.same hb.block).mono hb.size
theorem below_alloc (w : World) (o : Obj) : Below w.heap.size w (w.alloc o) := (Below.refl _ _).alloc (Nat.le_refl _) _

end Go.Proofs.YtedhlbknbaggiaaGreatDoor

/-
  There, and back: parseF of what bytesF writes, whatever stands behind; what parseF reads bytesF writes.
-/
namespace Go.Proofs.YtedhlbknbaggiaaGreatDoor
open Go.RowKit
set_option linter.unusedVariables false
set_option linter.unusedSimpArgs false

theorem bstr_of (s : ByteArray) : bstr s.data.toList = s := by
  obtain ⟨⟨x⟩⟩ := s; rfl
theorem rangeB_bd (kind n : Int) (hk : kind = 1 ∨ kind = 3) (h : rangeB kind n = true) : -2147483648 ≤ n ∧ n ≤ 2147483647 := by
  rcases hk with rfl | rfl
  · simp [rangeB] at h; omega
  · simp [rangeB] at h; omega

/-- What a right property is. -/
theorem right_prop (p : PD) (h : p.wrong = 0) : p.small ∧ ((p.kind = 2 ∧ p.n = 0) ∨ (p.kind ≠ 2 ∧ p.text = ByteArray.empty ∧ -2147483648 ≤ p.n ∧ p.n ≤ 2147483647)) := by
  unfold PD.wrong wrongP at h
  split at h; · simp at h
  split at h; · simp at h
  split at h; · simp at h
  split at h; · simp at h
  split at h; · simp at h
  rename_i h1 h2 h3 h4 h5
  have hk : p.kind = 1 ∨ p.kind = 2 ∨ p.kind = 3 := by
    simp [kindB] at h2
    by_cases a : p.kind = 1
    · exact .inl a
    · by_cases b : p.kind = 2
      · exact .inr (.inl b)
      · exact .inr (.inr (h2 a b))
  have hkey : p.key.size ≤ 8 := by
    simp [keyB] at h1; exact h1.1.2
  refine ⟨⟨hkey, by omega, by omega, fun e => ?_⟩, ?_⟩
  · simp [e] at h4; exact h4
  · by_cases e : p.kind = 2
    · left
      refine ⟨e, ?_⟩
      simp [strayB, e] at h5; exact h5
    · right
      have ht : p.text.toList = [] := by simp [strayB, e] at h5; exact h5
      refine ⟨e, ?_, rangeB_bd p.kind p.n (by omega) (by simpa using h3)⟩
      exact ba_toList.1 (by rw [ht, ByteArray.toList_eq]; rfl)

theorem wrongL_zero (ps : List PD) (h : wrongL ps = 0) : ∀ p ∈ ps, p.wrong = 0 := by
  induction ps with
  | nil => intro p hp; simp at hp
  | cons q r ih =>
    intro p hp
    rw [wrongL] at h
    by_cases hq : q.wrong = 0
    · simp [hq] at h
      simp only [List.mem_cons] at hp
      rcases hp with rfl | hp
      · exact hq
      · exact ih h p hp
    · simp [hq] at h
theorem wrongN_zero (ps : List PD) (n : Nat) (h : wrongN ps n = 0) : ps.length ≤ 4 ∧ (∀ p ∈ ps, p.wrong = 0) ∧ n ≤ 40 := by
  unfold wrongN at h
  split at h
  · simp at h
  · split at h
    · split at h
      · simp at h
      · rename_i h1 h2 h3
        exact ⟨by omega, wrongL_zero ps (eqb h2), by omega⟩
    · rename_i h1 h2
      exact absurd h (by simpa using h2)

end Go.Proofs.YtedhlbknbaggiaaGreatDoor
