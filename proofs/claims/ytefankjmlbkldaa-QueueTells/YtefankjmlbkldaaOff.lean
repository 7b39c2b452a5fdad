/-
  A box of a queue, or of an item, is no block of a note's rows; a box of a queue is no block of items: by what lies in them.
-/
import Derived.Test.YtefankjmlbkldaaPairs
namespace Go.Proofs.Ytefankjmlbkldaa
open Go.RowKit
set_option linter.unusedVariables false
set_option linter.unusedSimpArgs false

theorem RowAt.off {S : Nat → Prop} {w : World} {a : Option Addr} {xs : List Value} (h : RowAt S w a xs) {b : Nat} {cs : List Value} (hB : Blk w b cs)
    (hx : xs ≠ [] → ∃ i, ∃ hi : i < xs.length, ∀ o, cs[o + i]? ≠ some xs[i]) : RowAt (fun k => S k ∧ k ≠ b) w a xs := by
  intro i hi
  obtain ⟨b', off, rfl, hs, h0⟩ := h i hi
  refine ⟨b', off, rfl, ⟨hs, ?_⟩, h0⟩
  rintro rfl
  obtain ⟨j, hj, hne⟩ := hx (by intro e; subst e; simp at hi)
  obtain ⟨b2, off2, e, -, hc⟩ := h j hj
  cases e
  exact hne off ((hB.cell _).symm.trans hc)

theorem SliceV.off {S : Nat → Prop} {w : World} {v : Value} {n : Nat} {xs : List Value} (h : SliceV S w v n xs) {b : Nat} {cs : List Value} (hB : Blk w b cs)
    (hx : xs ≠ [] → ∃ i, ∃ hi : i < xs.length, ∀ o, cs[o + i]? ≠ some xs[i]) : SliceV (fun k => S k ∧ k ≠ b) w v n xs := by
  obtain ⟨a, cap, rfl, h1, h2, hn, h3⟩ := h
  exact ⟨a, cap, rfl, h1, h2, hn, h3.off hB hx⟩

/-- A row that is longer than the box. -/
theorem off_long {cs xs : List Value} (h : xs ≠ [] → cs.length < xs.length) : xs ≠ [] → ∃ i, ∃ hi : i < xs.length, ∀ o, cs[o + i]? ≠ some xs[i] := by
  intro hx
  have hl := h hx
  refine ⟨xs.length - 1, by omega, fun o => ?_⟩
  rw [List.getElem?_eq_none (by omega)]
  simp

/-- A row whose first cell is not in the box. -/
theorem off_first {cs : List Value} {x : Value} {r : List Value} (h : x ∉ cs) : ∃ i, ∃ hi : i < (x :: r).length, ∀ o, cs[o + i]? ≠ some (x :: r)[i] :=
  ⟨0, by simp, fun o e => h (List.mem_of_getElem? e)⟩

theorem off_u8s {cs : List Value} (h : ∀ n, Value.int .u8 n ∉ cs) (bs : List UInt8) : u8s bs ≠ [] → ∃ i, ∃ hi : i < (u8s bs).length, ∀ o, cs[o + i]? ≠ some (u8s bs)[i] := by
  intro hx
  cases bs with
  | nil => exact absurd rfl hx
  | cons c r => exact off_first (h _)

theorem off_props {cs : List Value} (h : ∀ n, Value.string n ∉ cs) (ps : List PD) : cellsL ps ≠ [] → ∃ i, ∃ hi : i < (cellsL ps).length, ∀ o, cs[o + i]? ≠ some (cellsL ps)[i] := by
  intro hx
  cases ps with
  | nil => exact absurd rfl hx
  | cons p r => exact off_first (h _)

theorem NoteIs.off3 {S : Nat → Prop} {w : World} {p : Value × Value} {n : ND} (h : NoteIs S w p n) {b : Nat} {s : ByteArray} {l : Int} {a : Option Addr} {m c : Nat} (hB : Blk w b [.string s, .int .i64 l, .slice a m c]) :
    NoteIs (fun k => S k ∧ k ≠ b) w p n := by
  refine ⟨SliceV.off h.1 hB (off_long fun hx => ?_), SliceV.off h.2 hB (off_u8s (by simp) _)⟩
  rw [cellsL_len]
  cases hp : n.props with
  | nil => rw [hp] at hx; exact absurd rfl hx
  | cons q r => simp; omega

theorem NoteIs.off7 {S : Nat → Prop} {w : World} {p : Value × Value} {n : ND} (h : NoteIs S w p n) {b : Nat} {x0 x1 x2 x4 : Int} {x3 : Bool} {a a' : Option Addr} {m c m' c' : Nat} (hB : Blk w b [.int .i64 x0, .int .i64 x1, .int .i64 x2, .bool x3, .int .i64 x4, .slice a m c, .slice a' m' c']) :
    NoteIs (fun k => S k ∧ k ≠ b) w p n :=
  ⟨SliceV.off h.1 hB (off_props (by simp) _), SliceV.off h.2 hB (off_u8s (by simp) _)⟩

theorem SliceI.off3 {S : Nat → Prop} {w : World} {v : Value} {its : List IT} (h : SliceI S w v its) {b : Nat} {s : ByteArray} {l : Int} {a : Option Addr} {m c : Nat} (hB : Blk w b [.string s, .int .i64 l, .slice a m c]) :
    SliceI (fun k => S k ∧ k ≠ b) w v its := by
  obtain ⟨L, e, h1, h2⟩ := h
  refine ⟨L, e, SliceV.off h1 hB (off_long fun hx => ?_), fun x hx => (h2 x hx).off3 hB⟩
  rw [cellsI_len]
  cases L with
  | nil => exact absurd rfl hx
  | cons q r => simp; omega

/-- What a box is stored with leaves the slice as it reads. -/
theorem SliceI.past3 {w : World} {v : Value} {its : List IT} (h : SliceI (Under w.heap.size) w v its) {b : Nat} {s : ByteArray} {l : Int} {a : Option Addr} {m c : Nat} (hB : Blk w b [.string s, .int .i64 l, .slice a m c])
    {w' : World} (hs : w.heap.size ≤ w'.heap.size) (hb : ∀ k, k < w.heap.size → k ≠ b → w'.heap[k]? = w.heap[k]?) : SliceI (Under w'.heap.size) w' v its :=
  (h.off3 hB).sub fun k hk => ⟨Nat.lt_of_lt_of_le hk.1 hs, hb k hk.1 hk.2⟩
theorem NoteIs.past3 {w : World} {p : Value × Value} {n : ND} (h : NoteIs (Under w.heap.size) w p n) {b : Nat} {s : ByteArray} {l : Int} {a : Option Addr} {m c : Nat} (hB : Blk w b [.string s, .int .i64 l, .slice a m c])
    {w' : World} (hs : w.heap.size ≤ w'.heap.size) (hb : ∀ k, k < w.heap.size → k ≠ b → w'.heap[k]? = w.heap[k]?) : NoteIs (Under w'.heap.size) w' p n :=
  (h.off3 hB).sub fun k hk => ⟨Nat.lt_of_lt_of_le hk.1 hs, hb k hk.1 hk.2⟩
theorem NoteIs.past7 {w : World} {p : Value × Value} {n : ND} (h : NoteIs (Under w.heap.size) w p n) {b : Nat} {x0 x1 x2 x4 : Int} {x3 : Bool} {a a' : Option Addr} {m c m' c' : Nat} (hB : Blk w b [.int .i64 x0, .int .i64 x1, .int .i64 x2, .bool x3, .int .i64 x4, .slice a m c, .slice a' m' c'])
    {w' : World} (hs : w.heap.size ≤ w'.heap.size) (hb : ∀ k, k < w.heap.size → k ≠ b → w'.heap[k]? = w.heap[k]?) : NoteIs (Under w'.heap.size) w' p n :=
  (h.off7 hB).sub fun k hk => ⟨Nat.lt_of_lt_of_le hk.1 hs, hb k hk.1 hk.2⟩
end Go.Proofs.Ytefankjmlbkldaa
