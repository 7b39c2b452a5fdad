/-
  Take; Text; Prop; App; Append; Note: texts laid together.
-/
import Derived.Test.YtedhlbknbaggiaaGreatDoorWrong
import Derived.Laws.BytesArg
import Derived.Lib.EndianBits
import Derived.Deep.AppendLies
import Derived.Lib.AppendStr
import Derived.Maps.AppendAt
import Derived.OwnWalk
import Derived.Deep.RegionWith
import Derived.Deep.RegionHeld3
import Derived.Deep.RegionLaw
import Derived.Deep.DrawnRows
/-
  (*reader).take gives the bytes that are asked for, or marks the reader short.
-/
namespace Go.Proofs.YtedhlbknbaggiaaGreatDoor
open Go.RowKit
set_option linter.unusedVariables false
set_option linter.unusedSimpArgs false

/-- A slice of bytes that reads as bs, out of blocks below B. -/
def SliceB (B : Nat) (w : World) (v : Value) (bs : List UInt8) : Prop :=
  ∃ a cap, v = .slice a bs.length cap ∧ bs.length ≤ cap ∧ cap ≤ maxLen ∧ (a = none → cap = 0) ∧ BytesAt B w a bs

theorem SliceB.same {B : Nat} {w w' : World} {v : Value} {bs : List UInt8} (h : SliceB B w v bs) (hb : ∀ k, k < B → w'.heap[k]? = w.heap[k]?) : SliceB B w' v bs := by
  obtain ⟨a, cap, rfl, h1, h2, hn, h3⟩ := h
  exact ⟨a, cap, rfl, h1, h2, hn, h3.same hb⟩
theorem SliceB.mono {B B' : Nat} {w : World} {v : Value} {bs : List UInt8} (h : SliceB B w v bs) (hb : B ≤ B') : SliceB B' w v bs := by
  obtain ⟨a, cap, rfl, h1, h2, hn, h3⟩ := h
  exact ⟨a, cap, rfl, h1, h2, hn, h3.mono hb⟩
theorem SliceB.nil (B : Nat) (w : World) : SliceB B w (.slice none 0 0) [] := ⟨none, 0, rfl, Nat.le_refl _, by simp [maxLen], fun _ => rfl, fun i h => by simp at h⟩

/-- The reader in block R: what is left, and whether it was too short. -/
def Rd (w : World) (R : Nat) (s : List UInt8 × Bool) : Prop :=
  ∃ v, w.cell? ⟨R, 0, none⟩ = some v ∧ SliceB R w v s.1 ∧ w.cell? ⟨R, 1, none⟩ = some (.bool s.2) ∧ w.frozen? ⟨R, 0, none⟩ = false ∧ w.frozen? ⟨R, 1, none⟩ = false

theorem Rd.lt {w : World} {R : Nat} {s} (h : Rd w R s) : R < w.heap.size := by
  obtain ⟨v, h0, _⟩ := h
  exact World.block_lt_of_cell? w _ h0

/-- What the reader keeps while other blocks are written. -/
theorem Rd.kept {w w' : World} {R : Nat} {s} (h : Rd w R s) (hb : ∀ k, k ≤ R → w'.heap[k]? = w.heap[k]?) : Rd w' R s := by
  obtain ⟨v, h0, h1, h2, h3, h4⟩ := h
  have hR := hb R (Nat.le_refl _)
  exact ⟨v, (World.cell?_of_block (a := ⟨R, 0, none⟩) hR).trans h0, h1.same (fun k hk => hb k (by omega)), (World.cell?_of_block (a := ⟨R, 1, none⟩) hR).trans h2, (World.frozen?_of_block (a := ⟨R, 0, none⟩) hR).trans h3, (World.frozen?_of_block (a := ⟨R, 1, none⟩) hR).trans h4⟩

theorem add_none (b off n : Nat) : (⟨b, off, none⟩ : Addr).add n = ⟨b, off + n, none⟩ := by unfold Addr.add; split <;> simp_all

end Go.Proofs.YtedhlbknbaggiaaGreatDoor

/-
  (*reader).size and (*reader).text read what sizeF and textF say.
-/
namespace Go.Proofs.YtedhlbknbaggiaaGreatDoor
open Go.RowKit
set_option linter.unusedVariables false
set_option linter.unusedSimpArgs false

def bstr (bs : List UInt8) : ByteArray := ⟨bs.toArray⟩
theorem conv_str {B : Nat} {w : World} {v : Value} {bs : List UInt8} (h : SliceB B w v bs) : (convert 23 9 v).run Tryz.prog w = .ok (.string (bstr bs)) w := by
  obtain ⟨a, cap, rfl, h1, h2, _, h3⟩ := h
  by_cases h0 : bs = []
  · subst h0
    rw [run_convert_bytes_string w 23 9 5 a _ cap Tryz.underlying23 Tryz.underlying5 Tryz.underlying9]
    cases a <;> simp [Conv.bytesToString, loadCells]
    all_goals rfl
  · have hl : 0 < bs.length := by cases bs; simp at h0; simp
    obtain ⟨b, off, rfl, hlt, _⟩ := h3 0 hl
    have := run_convert_bytes_arg (P := Tryz.prog) w 23 5 Tryz.underlying23 Tryz.underlying5 b off bs.length cap (bs.map fun c => (c.toNat : Int)) (by simp) (fun i hi => by
      obtain ⟨b', off', e, _, hc⟩ := h3 i hi
      simp at e
      obtain ⟨rfl, rfl⟩ := e
      rw [hc]
      simp [hi]) 9 Tryz.underlying9
    rw [this]
    have e : strOfNums (bs.map fun c => (c.toNat : Int)) = bstr bs := by
      have e2 : ∀ l : List UInt8, (l.map fun c => (c.toNat : Int)).map (fun n : Int => UInt8.ofNat n.toNat) = l := fun l => by
        induction l with
        | nil => rfl
        | cons a r ih => simp only [List.map_cons, ih]; simp
      unfold strOfNums bstr
      first
        | rw [e2]
        | (simp only [List.map_map] at e2 ⊢; rw [e2])
    first
      | rw [e]
      | (rw [List.take_of_length_le (by simp), e])

end Go.Proofs.YtedhlbknbaggiaaGreatDoor

/-
  (*reader).number and (*reader).prop read what numberF and propF say.
-/
namespace Go.Proofs.YtedhlbknbaggiaaGreatDoor
open Go.RowKit
set_option linter.unusedVariables false
set_option linter.unusedSimpArgs false

theorem eqb {a b : Int} (h : (a == b) = true) : a = b := by simpa using h
theorem Rd.alloc {w : World} {R : Nat} {s} (h : Rd w R s) (o : Obj) : Rd (w.alloc o) R s :=
  h.kept (fun k hk => Below.heap_alloc _ _ _ (by have := h.lt; omega))
end Go.Proofs.YtedhlbknbaggiaaGreatDoor

/-
  append to a row of bytes that the call itself made, from a slice of bytes and from a string.
-/
namespace Go.Proofs.YtedhlbknbaggiaaGreatDoor
open Go.RowKit
set_option linter.unusedVariables false
set_option linter.unusedSimpArgs false

/-- The block of v' is that of v, or a new one. -/
def Moved (w : World) (v v' : Value) : Prop := ∀ k, v'.ownBlock = some k → v.ownBlock = some k ∨ w.heap.size ≤ k

theorem Moved.refl (w : World) (v : Value) : Moved w v v := fun _ h => .inl h
theorem Moved.trans {w w1 : World} {v v1 v2 : Value} (hg : w.heap.size ≤ w1.heap.size) (h : Moved w v v1) (h2 : Moved w1 v1 v2) : Moved w v v2 := by
  intro k hk
  rcases h2 k hk with h3 | h3
  · exact h k h3
  · exact .inr (by omega)
section
variable {w : World} {ops : Array Oper} {rest : List Oper} {o : Oper} {a : Act} {Q : Exit → Act → World → Prop} {K : Act → World → Prop} {E : Prop}

end
end Go.Proofs.YtedhlbknbaggiaaGreatDoor

/-
  appendText, appendNumber and appendProp write what txt, num4 and propB say.
-/
namespace Go.Proofs.YtedhlbknbaggiaaGreatDoor
open Go.RowKit
set_option linter.unusedVariables false
set_option linter.unusedSimpArgs false

theorem size_list (s : ByteArray) : s.data.toList.length = s.size := by rw [Array.length_toList]; rfl

/-- What Bytes asks of a property (a right one has it). -/
def PD.small (p : PD) : Prop := p.key.size ≤ 8 ∧ 1 ≤ p.kind ∧ p.kind ≤ 3 ∧ (p.kind = 2 → p.text.size ≤ 12)

end Go.Proofs.YtedhlbknbaggiaaGreatDoor

/-
  (*reader).note reads what noteF says.
-/
namespace Go.Proofs.YtedhlbknbaggiaaGreatDoor
open Go.RowKit
set_option linter.unusedVariables false
set_option linter.unusedSimpArgs false

attribute [local go_sem ↓] Go.wp_at_zero Go.wp_at_succ

def PD.cells (p : PD) : List Value := [.string p.key, .int .i64 p.kind, .int .i64 p.n, .string p.text]
def NoteBlk (w : World) (b : Nat) (v u : Value) : Prop := w.heap[b]? = some (.cells #[v, u] 25 (0, 0))
theorem NoteBlk.lt {w : World} {b : Nat} {v u : Value} (h : NoteBlk w b v u) : b < w.heap.size := (Array.getElem?_eq_some_iff.1 h).1
theorem NoteBlk.same {w w' : World} {b : Nat} {v u : Value} (h : NoteBlk w b v u) (hb : w'.heap[b]? = w.heap[b]?) : NoteBlk w' b v u := hb.trans h
theorem Rd.drew {w : World} {R : Nat} {s} (h : Rd w R s) : Rd w.drew R s := h.kept (fun _ _ => rfl)

end Go.Proofs.YtedhlbknbaggiaaGreatDoor
