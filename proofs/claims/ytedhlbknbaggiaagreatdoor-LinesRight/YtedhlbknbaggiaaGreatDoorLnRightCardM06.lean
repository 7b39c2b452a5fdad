/-
  RefLeaf; Neq: texts laid together.
-/
import Derived.Test.YtedhlbknbaggiaaGreatDoorLnRightCardM04
import Derived.Deep.QuietTactic
import Derived.BigQuiet
import Derived.Laws.StructEq
/-
  The document's own answer, chapter 1: tgref1.Key, Text and Num answer what keyB, txt and num4 say.
-/
namespace Go.Proofs.YtedhlbknbaggiaaGreatDoor
open Go.RowKit
set_option linter.unusedVariables false
set_option linter.unusedSimpArgs false

/-- What '[]byte(s)' lays reads as the string's bytes. -/
theorem bytesRow_slice (s : ByteArray) (w : World) (hs : s.size ≤ maxLen) :
    SliceB (w.heap.size + 1) (w.alloc (.cells (bytesRow s (grownCap w s.size 0 5)) 5 ((bytesRow s (grownCap w s.size 0 5)).size, (bytesRow s (grownCap w s.size 0 5)).size + 1))).drew (.slice (some ⟨w.heap.size, 0, none⟩) s.size (grownCap w s.size 0 5)) s.data.toList := by
  refine ⟨_, _, by rw [size_list], by rw [size_list]; exact grownCap_ge _ _ _ _, grownCap_le_maxLen _ _ _ _ hs, fun h => by simp at h, fun i hi => ⟨w.heap.size, 0, rfl, by omega, ?_⟩⟩
  rw [size_list] at hi
  show (w.alloc _).cell? _ = _
  rw [Nat.zero_add, World.cell?_alloc_mark]
  unfold bytesRow
  have hi' : i < s.data.size := hi
  rw [Array.getElem?_append_left (by simpa using hi')]
  simp
  exact ⟨s.data[i], by simp [hi'], rfl⟩

theorem below_conv (w : World) (o : Obj) : Below w.heap.size w (w.alloc o).drew := ((Below.refl _ _).alloc (Nat.le_refl _) _).drew

theorem empty_of (s : ByteArray) (h : s.size = 0) : s.toList = [] := by
  rw [ByteArray.toList_eq]
  exact List.length_eq_zero_iff.1 (by rw [size_list]; exact h)
theorem isEmpty_of (s : ByteArray) (h : 1 ≤ s.size) : s.toList.isEmpty = false := by
  rw [ByteArray.toList_eq]
  have := size_list s
  cases h' : s.data.toList with
  | nil => rw [h'] at this; simp at this; omega
  | cons a b => rfl

set_option maxHeartbeats 400000 in
theorem refKey_any (s : ByteArray) (w : World) (hs : s.size ≤ maxLen) :
    Calls Tryz.prog 47 #[.string s] w fun e w' => e = .returned (.bool (keyB s)) ∧ Below w.heap.size w w' := by
  have hcv := fun w => run_bytes_of_string (P := Tryz.prog) w 9 23 5 s Tryz.underlying9 Tryz.underlying23 Tryz.underlying5
  have HSL := bytesRow_slice s w hs
  unfold maxLen at hs
  by_cases h1 : 1 ≤ s.size
  case neg =>
    have he : s.toList = [] := empty_of s (by omega)
    go_enter Tryz.func47, Tryz.ntmps47
    go_wp2
    all_goals (go_ret; exact ⟨ret_bool (by simp [keyB]; omega), Below.refl _ _⟩)
  have he : s.toList.isEmpty = false := isEmpty_of s h1
  by_cases h2 : s.size ≤ 8
  case neg =>
    go_enter Tryz.func47, Tryz.ntmps47
    go_wp2
    all_goals (go_ret; exact ⟨ret_bool (by simp [keyB]; omega), Below.refl _ _⟩)
  go_enter Tryz.func47, Tryz.ntmps47
  go_wp2
  go_loop [15] (fun i => ∃ k : Nat, k ≤ s.size ∧ i = .int .i64 k ∧ (s.data.toList.take k).all lowB = true) (fun i => s.size - (intOf i).toNat)
  case atStart => exact ⟨0, Nat.zero_le _, rfl, rfl⟩
  case round =>
    obtain ⟨k, hk, rfl, ha⟩ := hrel
    have HA : Hid ((s.data.toList.take k).all lowB = true) := ha
    clear ha
    by_cases hlt : k < s.size
    · obtain ⟨_, _, e, _, _, _, hby⟩ := HSL
      simp only [Value.slice.injEq] at e
      obtain ⟨rfl, -, rfl⟩ := e
      obtain ⟨b, off, e, _, hcell⟩ := hby k (by rw [size_list]; exact hlt)
      simp only [Option.some.injEq, Addr.mk.injEq, and_true] at e
      obtain ⟨rfl, rfl⟩ := e
      have hsk : s.data.toList[k]'(by rw [size_list]; exact hlt) = s[k] := rfl
      rw [hsk, Nat.zero_add] at hcell
      clear hby hsk
      by_cases h3 : (s[k].toNat : Int) < 97
      · go_wp2
        go_ret
        exact ⟨ret_bool (by simp [keyB, all_stop s k hlt (Or.inl h3)]), below_conv _ _⟩
      · by_cases h4 : (122 : Int) < s[k].toNat
        · go_wp2
          go_ret
          exact ⟨ret_bool (by simp [keyB, all_stop s k hlt (Or.inr h4)]), below_conv _ _⟩
        · go_wp2
          go_round
          case rel => exact ⟨k + 1, by omega, by go_num, all_step s k hlt HA.out h3 h4⟩
          case measure => simp [intOf]; omega
    · go_wp2
      go_ret
      have e : k = s.size := by omega
      have HB := HA.out
      rw [e, List.take_of_length_le (by rw [size_list]; exact Nat.le_refl _)] at HB
      exact ⟨ret_bool (by simp [keyB, h1, h2, HB]), below_conv _ _⟩

end Go.Proofs.YtedhlbknbaggiaaGreatDoor

/-
  bytes.Equal, and slices.Equal at api.Prop, tell whether two slices read the same.
-/
namespace Go.Proofs.YtedhlbknbaggiaaGreatDoor
open Go.RowKit
set_option linter.unusedVariables false
set_option linter.unusedSimpArgs false

open Classical

theorem prop_neq (k1 : ByteArray) (a1 b1 : Int) (t1 : ByteArray) (k2 : ByteArray) (a2 b2 : Int) (t2 : ByteArray) (w : World) :
    (binOp .neq 36 (.agg #[.string k1, .int .i64 a1, .int .i64 b1, .string t1]) (.agg #[.string k2, .int .i64 a2, .int .i64 b2, .string t2])).run Tryz.prog w = .ok (.bool (decide ((⟨k1, a1, b1, t1⟩ : PD) ≠ ⟨k2, a2, b2, t2⟩))) w := by
  rw [run_neq_struct, run_equalIn_agg w _ 36 _ _ fields38 held38]
  have hf : (Tryz.prog.fieldsOf 36).toList = [{ name := "Key", type := 9, offset := 0, embedded := false, tag := "", pkgPath := "", byteOffset := 0 },
        { name := "Kind", type := 3, offset := 1, embedded := false, tag := "", pkgPath := "", byteOffset := 16 },
        { name := "N", type := 3, offset := 2, embedded := false, tag := "", pkgPath := "", byteOffset := 24 },
        { name := "Text", type := 9, offset := 3, embedded := false, tag := "", pkgPath := "", byteOffset := 32 }] := by
    rw [Program.fieldsOf, Tryz.underlying36]
  rw [hf]
  by_cases e1 : k1 = k2
  · subst e1
    by_cases e2 : a1 = a2
    · subst e2
      by_cases e3 : b1 = b2
      · subst e3
        by_cases e4 : t1 = t2
        · subst e4
          simp [go_sem]
        · have e4' : ¬ t1.toList = t2.toList := fun h => e4 (ba_toList.1 h)
          simp [go_sem, e4, e4']
      · simp [go_sem, e3]
    · simp [go_sem, e2]
  · have e1' : ¬ k1.toList = k2.toList := fun h => e1 (ba_toList.1 h)
    simp [go_sem, e1, e1']

end Go.Proofs.YtedhlbknbaggiaaGreatDoor
