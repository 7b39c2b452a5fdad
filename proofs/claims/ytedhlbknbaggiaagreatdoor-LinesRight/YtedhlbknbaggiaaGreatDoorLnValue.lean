/-
  lines.Value answers what valueF says.
-/
import Derived.Test.YtedhlbknbaggiaaGreatDoorLnHexP
import Derived.Test.YtedhlbknbaggiaaGreatDoorLnUnhex
import Derived.Test.YtedhlbknbaggiaaGreatDoorLnRightCardM06
import Derived.Lib.ConvBytes
namespace Go.Proofs.YtedhlbknbaggiaaGreatDoor
open Go.RowKit
set_option linter.unusedVariables false
set_option linter.unusedSimpArgs false

attribute [local go_sem ↓] Go.wp_at_zero Go.wp_at_succ

/-- What a property has, beside its key. -/
def valueF (p : PD) : List UInt8 :=
  if p.kind = 1 then Go.Lib.itoa p.n else if p.kind = 2 then 36 :: hexF p.text.data.toList else if p.kind = 3 then 33 :: Go.Lib.itoa p.n else []

/-- '[]byte(s)'. -/
theorem conv_bytes (s : ByteArray) (w : World) (hs : s.size ≤ maxLen) :
    ∃ c W', (convert 9 23 (.string s)).run Tryz.prog w = .ok (.slice (some ⟨w.heap.size, 0, none⟩) s.size c) W' ∧ SliceB W'.heap.size W' (.slice (some ⟨w.heap.size, 0, none⟩) s.size c) s.data.toList ∧ Below w.heap.size w W' := by
  refine ⟨_, _, Go.Lib.run_convert_string_bytes w 9 23 5 s Tryz.underlying9 Tryz.underlying23 Tryz.underlying5, ?_, Go.Lib.bytesWorld_below _ _ _⟩
  refine ⟨_, _, by rw [size_list], by rw [size_list]; exact grownCap_ge _ _ _ _, grownCap_le_maxLen _ _ _ _ hs, fun h => by simp at h, fun i hi => ⟨w.heap.size, 0, rfl, by rw [Go.Lib.bytesWorld_size]; omega, ?_⟩⟩
  rw [size_list] at hi
  rw [Nat.zero_add, Go.Lib.bytesWorld_cell _ _ _ _ hi]
  have hi2 : i < s.data.size := hi
  simp [List.getD, Array.getElem?_eq_getElem hi2]
theorem bstr_size (l : List UInt8) : (bstr l).size = l.length := by simp [bstr, ByteArray.size]
theorem bstr_cat (c : UInt8) (l : List UInt8) : (ByteArray.mk #[c]) ++ bstr l = bstr (c :: l) := by
  apply ByteArray.ext
  simp [bstr]

set_option maxRecDepth 100000 in
set_option maxHeartbeats 1600000 in
theorem value_any (p : PD) (w : World) (hv : Vars w) (hn : -9999999999 ≤ p.n ∧ p.n ≤ 9999999999) (ht : p.text.size ≤ 70368744177664) :
    Calls Tryz.prog 17 #[.agg #[.string p.key, .int .i64 p.kind, .int .i64 p.n, .string p.text]] w fun e w' => e = .returned (.string (bstr (valueF p))) ∧ Below w.heap.size w w' := by
  obtain ⟨key, kind, n, text⟩ := p
  simp only at hn ht ⊢
  have HV : Hid (Vars w) := hv
  have HA : Hid (∀ o, Below w.heap.size w (w.alloc o)) := fun o => below_alloc w o
  have P : Hid (∀ W : World, Below w.heap.size w W → Calls Tryz.prog 42 #[.int .i64 n] W fun e w' => e = .returned (.string ⟨(Go.Lib.itoa n).toArray⟩) ∧ Below W.heap.size W w') := fun W hW => itoa_any n W (by omega) (by omega) (HV.out.on hW)
  by_cases h1 : kind = 1
  · subst h1
    go_enter Tryz.func17, Tryz.ntmps17
    go_wp2_with (first
      | (go_at_call 42; refine (P.out _ (HA.out _)).mono ?_; rintro e w2 ⟨rfl, hb2⟩)
      | fail)
    go_ret
    exact ⟨by simp [valueF, bstr], (HA.out _).trans (hb2.mono (by simp))⟩
  by_cases h2 : kind = 2
  · subst h2
    obtain ⟨c, W', hcv, hsl, hb1⟩ := conv_bytes text (w.alloc (.cells #[.string key, .int .i64 2, .int .i64 n, .string text] 36)) (by unfold maxLen; omega)
    have H1 : Hid (SliceB W'.heap.size W' (.slice (some ⟨(w.alloc (.cells #[.string key, .int .i64 2, .int .i64 n, .string text] 36)).heap.size, 0, none⟩) text.size c) text.data.toList ∧ Below w.heap.size w W') := ⟨hsl, (HA.out _).trans (hb1.mono (by simp))⟩
    clear hsl hb1
    simp only [World.size_alloc] at hcv H1
    have hsz : ¬ 9223372036854775807 < 1 + (bstr (hexF text.data.toList)).size := by rw [bstr_size, hexF_len, size_list]; omega
    go_enter Tryz.func17, Tryz.ntmps17
    go_wp2_with (first
      | (go_at_call 15; refine (hex_any _ _ _ H1.out.1 (by rw [size_list]; omega)).mono ?_; rintro e w2 ⟨rfl, hb2⟩)
      | fail)
    go_ret
    refine ⟨?_, H1.out.2.trans (hb2.mono H1.out.2.size)⟩
    simp only [valueF, bstr_cat]
    simp
  by_cases h3 : kind = 3
  · subst h3
    have hsz : ¬ 9223372036854775807 < 1 + (Go.Lib.itoa n).length := by have := itoa_len n hn; omega
    go_enter Tryz.func17, Tryz.ntmps17
    go_wp2_with (first
      | (go_at_call 42; refine (P.out _ (HA.out _)).mono ?_; rintro e w2 ⟨rfl, hb2⟩)
      | fail)
    go_ret
    refine ⟨?_, (HA.out _).trans (hb2.mono (by simp))⟩
    have e : (ByteArray.mk (Go.Lib.itoa n).toArray) = bstr (Go.Lib.itoa n) := rfl
    simp only [valueF, e, bstr_cat]
    simp
  · go_enter Tryz.func17, Tryz.ntmps17
    go_wp2
    go_ret
    exact ⟨by simp [valueF, h1, h2, h3, bstr], HA.out _⟩
end Go.Proofs.YtedhlbknbaggiaaGreatDoor
