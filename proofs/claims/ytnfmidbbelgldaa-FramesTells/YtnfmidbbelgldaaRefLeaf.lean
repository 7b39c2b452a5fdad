/-
  The document's own answer, chapter 1: tgref1.Key, Text and Num answer what keyB, txt and num4 say.
-/
import Derived.Test.YtnfmidbbelgldaaMath
namespace Go.Proofs.Ytnfmidbbelgldaa
open Go.RowKit
set_option linter.unusedVariables false
set_option linter.unusedSimpArgs false

/-- What '[]byte(s)' lays reads as the string's bytes. -/
theorem bytesRow_slice (s : ByteArray) (w : World) (hs : s.size ≤ maxLen) :
    SliceB (w.heap.size + 1) (w.alloc (.cells (bytesRow s (grownCap w s.size 0 5)) 5 ((bytesRow s (grownCap w s.size 0 5)).size, (bytesRow s (grownCap w s.size 0 5)).size + 1))).drew (.slice (some ⟨w.heap.size, 0, none⟩) s.size (grownCap w s.size 0 5)) s.data.toList := by
  refine ⟨_, _, by rw [size_list], by rw [size_list]; exact grownCap_ge _ _ _ _, grownCap_le_maxLen _ _ _ _ hs, fun h => by simp at h, fun i hi => ⟨w.heap.size, 0, rfl, by omega, ?_⟩⟩
  rw [size_list] at hi
  show (w.alloc _).cell? _ = _
  rw [Nat.zero_add, World.cell?_alloc_mark]
  unfold bytesRow
  have hi' : i < s.data.size := hi
  rw [Array.getElem?_append_left (by simpa using hi')]
  simp
  exact ⟨s.data[i], by simp [hi'], rfl⟩

theorem below_conv (w : World) (o : Obj) : Below w.heap.size w (w.alloc o).drew := ((Below.refl _ _).alloc (Nat.le_refl _) _).drew

theorem empty_of (s : ByteArray) (h : s.size = 0) : s.toList = [] := by
  rw [ByteArray.toList_eq]
  exact List.length_eq_zero_iff.1 (by rw [size_list]; exact h)
theorem isEmpty_of (s : ByteArray) (h : 1 ≤ s.size) : s.toList.isEmpty = false := by
  rw [ByteArray.toList_eq]
  have := size_list s
  cases h' : s.data.toList with
  | nil => rw [h'] at this; simp at this; omega
  | cons a b => rfl

set_option maxHeartbeats 400000 in
theorem refKey_any (s : ByteArray) (w : World) (hs : s.size ≤ maxLen) :
    Calls Try.prog 25 #[.string s] w fun e w' => e = .returned (.bool (keyB s)) ∧ Below w.heap.size w w' := by
  have hcv := fun w => run_bytes_of_string (P := Try.prog) w 9 23 5 s Try.underlying9 Try.underlying23 Try.underlying5
  have HSL := bytesRow_slice s w hs
  unfold maxLen at hs
  by_cases h1 : 1 ≤ s.size
  case neg =>
    have he : s.toList = [] := empty_of s (by omega)
    go_enter Try.func25, Try.ntmps25
    go_wp2
    all_goals (go_ret; exact ⟨ret_bool (by simp [keyB]; omega), Below.refl _ _⟩)
  have he : s.toList.isEmpty = false := isEmpty_of s h1
  by_cases h2 : s.size ≤ 8
  case neg =>
    go_enter Try.func25, Try.ntmps25
    go_wp2
    all_goals (go_ret; exact ⟨ret_bool (by simp [keyB]; omega), Below.refl _ _⟩)
  go_enter Try.func25, Try.ntmps25
  go_wp2
  go_loop [15] (fun i => ∃ k : Nat, k ≤ s.size ∧ i = .int .i64 k ∧ (s.data.toList.take k).all lowB = true) (fun i => s.size - (intOf i).toNat)
  case atStart => exact ⟨0, Nat.zero_le _, rfl, rfl⟩
  case round =>
    obtain ⟨k, hk, rfl, ha⟩ := hrel
    have HA : Hid ((s.data.toList.take k).all lowB = true) := ha
    clear ha
    by_cases hlt : k < s.size
    · obtain ⟨_, _, e, _, _, _, hby⟩ := HSL
      simp only [Value.slice.injEq] at e
      obtain ⟨rfl, -, rfl⟩ := e
      obtain ⟨b, off, e, _, hcell⟩ := hby k (by rw [size_list]; exact hlt)
      simp only [Option.some.injEq, Addr.mk.injEq, and_true] at e
      obtain ⟨rfl, rfl⟩ := e
      have hsk : s.data.toList[k]'(by rw [size_list]; exact hlt) = s[k] := rfl
      rw [hsk, Nat.zero_add] at hcell
      clear hby hsk
      by_cases h3 : (s[k].toNat : Int) < 97
      · go_wp2
        go_ret
        exact ⟨ret_bool (by simp [keyB, all_stop s k hlt (Or.inl h3)]), below_conv _ _⟩
      · by_cases h4 : (122 : Int) < s[k].toNat
        · go_wp2
          go_ret
          exact ⟨ret_bool (by simp [keyB, all_stop s k hlt (Or.inr h4)]), below_conv _ _⟩
        · go_wp2
          go_round
          case rel => exact ⟨k + 1, by omega, by go_num, all_step s k hlt HA.out h3 h4⟩
          case measure => simp [intOf]; omega
    · go_wp2
      go_ret
      have e : k = s.size := by omega
      have HB := HA.out
      rw [e, List.take_of_length_le (by rw [size_list]; exact Nat.le_refl _)] at HB
      exact ⟨ret_bool (by simp [keyB, h1, h2, HB]), below_conv _ _⟩

set_option maxHeartbeats 400000 in
theorem refText_any (s : ByteArray) (w : World) (hs : s.size ≤ 255) :
    Calls Try.prog 29 #[.string s] w fun e w' => ∃ ao cap, e = .returned (.slice ao (txt s).length cap) ∧ w'.ownsRow w.heap.size 5 1 (.slice ao (txt s).length cap) (txt s).length (u8s (txt s)) ∧ Below w.heap.size w w' := by
  have hcv := fun w => run_bytes_of_string (P := Try.prog) w 9 23 5 s Try.underlying9 Try.underlying23 Try.underlying5
  have HB : Hid (((UInt8.ofNat s.size).toNat : Int) = s.size) := byte_of s.size hs
  have hm : s.size ≤ maxLen := by unfold maxLen; omega
  have HL : Hid (s.data.toList.length = s.size) := size_list s
  go_enter Try.func29, Try.ntmps29
  go_wp2_with (at_builtin; refine wpList_app rfl (.tmp 6) (.tmp 8) rfl w.heap.size (.slice (some ⟨w.heap.size, 0, none⟩) 1 1) 1 (u8s [UInt8.ofNat s.size]) rfl ?hown (w.heap.size + 1 + 1) _ s.data.toList rfl ?hsl (by rw [HL.out]; omega) (by simp; omega) ?_; rotate_left 2; intro ao cap w1 hown1 hg1 hm1)
  · go_ret
    have e1 : u8s (txt s) = u8s [UInt8.ofNat s.size] ++ u8s s.data.toList := by simp [u8s, txt]
    have e2 : (txt s).length = 1 + s.data.toList.length := by rw [txt_len, HL.out]; omega
    rw [e1, e2]
    rw [HL.out] at hown1 ⊢
    refine ⟨ao, cap, rfl, hown1, ?_⟩
    refine ((below_alloc _ _).trans ((below_conv _ _).mono (by simp))).trans ⟨hg1.os, hg1.tape, hg1.output, hg1.size, fun k hk => hg1.block k (by simp; omega) (by simp [Value.ownBlock]; omega)⟩
  · exact (((new_own w w.heap.size [UInt8.ofNat s.size] _ (by simp [maxLen]) (by simp [u8s, HB.out] <;> omega) (Nat.le_refl _)).alloc _).drew)
  · have := bytesRow_slice s (w.alloc (.cells #[.int .u8 s.size] 5)) hm
    simp only [World.size_alloc] at this
    exact this

set_option maxHeartbeats 400000 in
theorem refNum_any (n : Int) (w : World) :
    Calls Try.prog 30 #[.int .i64 n] w fun e w' => ∃ ao cap, e = .returned (.slice ao (num4 n).length cap) ∧ w'.ownsRow w.heap.size 5 1 (.slice ao (num4 n).length cap) (num4 n).length (u8s (num4 n)) ∧ Below w.heap.size w w' := by
  go_enter Try.func30, Try.ntmps30
  go_wp2
  go_ret
  refine ⟨some ⟨w.heap.size, 0, none⟩, 4, rfl, ?_, below_alloc _ _⟩
  refine new_own w w.heap.size (num4 n) _ (by simp [num4, maxLen]) ?_ (Nat.le_refl _)
  rw [← num4_cells]
end Go.Proofs.Ytnfmidbbelgldaa
