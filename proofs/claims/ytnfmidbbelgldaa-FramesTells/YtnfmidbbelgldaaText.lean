/-
  (*reader).size and (*reader).text read what sizeF and textF say.
-/
import Derived.Test.YtnfmidbbelgldaaTake
import Derived.Laws.BytesArg
namespace Go.Proofs.Ytnfmidbbelgldaa
open Go.RowKit
set_option linter.unusedVariables false
set_option linter.unusedSimpArgs false

def bstr (bs : List UInt8) : ByteArray := ⟨bs.toArray⟩
theorem bstr_size (bs : List UInt8) : (bstr bs).size = bs.length := by simp [bstr, ByteArray.size]
theorem bstr_data (bs : List UInt8) : (bstr bs).data.toList = bs := rfl

theorem conv_str {B : Nat} {w : World} {v : Value} {bs : List UInt8} (h : SliceB B w v bs) : (convert 23 9 v).run Try.prog w = .ok (.string (bstr bs)) w := by
  obtain ⟨a, cap, rfl, h1, h2, _, h3⟩ := h
  by_cases h0 : bs = []
  · subst h0
    rw [run_convert_bytes_string w 23 9 5 a _ cap Try.underlying23 Try.underlying5 Try.underlying9]
    cases a <;> simp [Conv.bytesToString, loadCells]
    all_goals rfl
  · have hl : 0 < bs.length := by cases bs; simp at h0; simp
    obtain ⟨b, off, rfl, hlt, _⟩ := h3 0 hl
    have := run_convert_bytes_arg (P := Try.prog) w 23 5 Try.underlying23 Try.underlying5 b off bs.length cap (bs.map fun c => (c.toNat : Int)) (by simp) (fun i hi => by
      obtain ⟨b', off', e, _, hc⟩ := h3 i hi
      simp at e
      obtain ⟨rfl, rfl⟩ := e
      rw [hc]
      simp [hi]) 9 Try.underlying9
    rw [this]
    congr 2
    simp only [strOfNums, bstr, List.map_map]
    congr 2
    apply List.ext_getElem (by simp)
    intro i h1 h2
    simp

def sizeF (s : List UInt8 × Bool) : Nat × (List UInt8 × Bool) :=
  if (takeF 1 s).2.2 then (0, (takeF 1 s).2) else (((takeF 1 s).1.headD 0).toNat, (takeF 1 s).2)

theorem takeF_short (n : Nat) (s) : (takeF n s).2.2 = true → (takeF n s).1 = [] := by
  unfold takeF; split <;> simp
theorem takeF_len (n : Nat) (s) : (takeF n s).2.2 = false → (takeF n s).1.length = n := by
  unfold takeF; split <;> simp; omega

theorem SliceB.one {B : Nat} {w : World} {v : Value} {c : UInt8} (h : SliceB B w v [c]) : ∃ b off cap, v = .slice (some ⟨b, off, none⟩) 1 cap ∧ w.cell? ⟨b, off, none⟩ = some (.int .u8 c.toNat) := by
  obtain ⟨a, cap, rfl, h1, h2, _, h3⟩ := h
  obtain ⟨b, off, rfl, hlt, h4⟩ := h3 0 (by simp)
  exact ⟨b, off, cap, rfl, h4⟩

theorem u8_bounds (c : UInt8) : (0 : Int) ≤ c.toNat ∧ (c.toNat : Int) ≤ 255 := by
  have := c.toNat_lt; omega

set_option maxHeartbeats 400000 in
theorem size_any (R : Nat) (s : List UInt8 × Bool) (w : World) (hR : Rd w R s) :
    Calls Try.prog 60 #[.pointer (some ⟨R, 0, none⟩)] w fun e w' => e = .returned (.int .i64 (sizeF s).1) ∧ Rd w' R (sizeF s).2 ∧ w.grownBy w' (some R) := by
  cases hs : (takeF 1 s).2.2
  · obtain ⟨c, hc⟩ : ∃ c, (takeF 1 s).1 = [c] := by
      have := takeF_len 1 s hs
      match h : (takeF 1 s).1, this with
      | [c], _ => exact ⟨c, rfl⟩
    have hF : Hid (sizeF s = (c.toNat, (takeF 1 s).2)) := by show sizeF s = _; simp [sizeF, hs, hc]
    obtain ⟨c0, c1⟩ := u8_bounds c
    go_enter Try.func60, Try.ntmps60
    go_wp2_with (go_at_call 62; refine (take_any R 1 s _ hR).mono ?_; rintro e w1 ⟨v, rfl, hv, hr, hg⟩; obtain ⟨v', g0, g1, g2, g3, g4⟩ := id hr; rw [hc] at hv; obtain ⟨b, off, cap, rfl, hb⟩ := hv.one)
    go_ret
    rw [hF.out]
    exact ⟨rfl, hr, hg⟩
  · have hF : Hid (sizeF s = (0, (takeF 1 s).2)) := by show sizeF s = _; simp [sizeF, hs]
    go_enter Try.func60, Try.ntmps60
    go_wp2_with (go_at_call 62; refine (take_any R 1 s _ hR).mono ?_; rintro e w1 ⟨v, rfl, hv, hr, hg⟩; obtain ⟨v', g0, g1, g2, g3, g4⟩ := id hr)
    go_ret
    rw [hF.out]
    exact ⟨rfl, hr, hg⟩

def textF (s : List UInt8 × Bool) : ByteArray × (List UInt8 × Bool) :=
  (bstr (takeF (sizeF s).1 (sizeF s).2).1, (takeF (sizeF s).1 (sizeF s).2).2)

set_option maxHeartbeats 400000 in
theorem text_any (R : Nat) (s : List UInt8 × Bool) (w : World) (hR : Rd w R s) :
    Calls Try.prog 64 #[.pointer (some ⟨R, 0, none⟩)] w fun e w' => e = .returned (.string (textF s).1) ∧ Rd w' R (textF s).2 ∧ w.grownBy w' (some R) := by
  have hT : Hid (textF s = (bstr (takeF (sizeF s).1 (sizeF s).2).1, (takeF (sizeF s).1 (sizeF s).2).2)) := rfl
  go_enter Try.func64, Try.ntmps64
  go_wp2_with (first
    | (go_at_call 60; refine (size_any R s _ hR).mono ?_; rintro e w1 ⟨rfl, hr, hg⟩)
    | (go_at_call 62; refine (take_any R (sizeF s).1 (sizeF s).2 _ hr).mono ?_; rintro e w2 ⟨v, rfl, hv2, hr2, hg2⟩; have hcv := conv_str hv2))
  go_ret
  exact ⟨rfl, hr2, grownBy_trans hg hg2⟩
end Go.Proofs.Ytnfmidbbelgldaa
