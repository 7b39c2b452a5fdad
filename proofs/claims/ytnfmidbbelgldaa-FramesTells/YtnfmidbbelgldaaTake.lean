/-
  (*reader).take gives the bytes that are asked for, or marks the reader short.
-/
import Derived.Test.YtnfmidbbelgldaaWrong
namespace Go.Proofs.Ytnfmidbbelgldaa
open Go.RowKit
set_option linter.unusedVariables false
set_option linter.unusedSimpArgs false

/-- A slice of bytes that reads as bs, out of blocks below B. -/
def SliceB (B : Nat) (w : World) (v : Value) (bs : List UInt8) : Prop :=
  ∃ a cap, v = .slice a bs.length cap ∧ bs.length ≤ cap ∧ cap ≤ maxLen ∧ (a = none → cap = 0) ∧ BytesAt B w a bs

theorem SliceB.same {B : Nat} {w w' : World} {v : Value} {bs : List UInt8} (h : SliceB B w v bs) (hb : ∀ k, k < B → w'.heap[k]? = w.heap[k]?) : SliceB B w' v bs := by
  obtain ⟨a, cap, rfl, h1, h2, hn, h3⟩ := h
  exact ⟨a, cap, rfl, h1, h2, hn, h3.same hb⟩
theorem SliceB.mono {B B' : Nat} {w : World} {v : Value} {bs : List UInt8} (h : SliceB B w v bs) (hb : B ≤ B') : SliceB B' w v bs := by
  obtain ⟨a, cap, rfl, h1, h2, hn, h3⟩ := h
  exact ⟨a, cap, rfl, h1, h2, hn, h3.mono hb⟩
theorem SliceB.nil (B : Nat) (w : World) : SliceB B w (.slice none 0 0) [] := ⟨none, 0, rfl, Nat.le_refl _, by simp [maxLen], fun _ => rfl, fun i h => by simp at h⟩

/-- The reader in block R: what is left, and whether it was too short. -/
def Rd (w : World) (R : Nat) (s : List UInt8 × Bool) : Prop :=
  ∃ v, w.cell? ⟨R, 0, none⟩ = some v ∧ SliceB R w v s.1 ∧ w.cell? ⟨R, 1, none⟩ = some (.bool s.2) ∧ w.frozen? ⟨R, 0, none⟩ = false ∧ w.frozen? ⟨R, 1, none⟩ = false

theorem Rd.lt {w : World} {R : Nat} {s} (h : Rd w R s) : R < w.heap.size := by
  obtain ⟨v, h0, _⟩ := h
  exact World.block_lt_of_cell? w _ h0

theorem grownBy_refl (w : World) (row : Option Nat) : w.grownBy w row := ⟨rfl, rfl, rfl, Nat.le_refl _, fun _ _ _ => rfl⟩
theorem grownBy_trans {a b c : World} {row : Option Nat} (h : a.grownBy b row) (k : b.grownBy c row) : a.grownBy c row :=
  ⟨k.os.trans h.os, k.tape.trans h.tape, k.output.trans h.output, Nat.le_trans h.size k.size, fun i hi hn => (k.block i (Nat.lt_of_lt_of_le hi h.size) hn).trans (h.block i hi hn)⟩
theorem grownBy_setCell (w : World) (a : Addr) (u : Value) : w.grownBy (w.setCell a u) (some a.block) :=
  ⟨rfl, rfl, rfl, by simp [World.setCell], fun k hk hn => Below.heap_setCell _ _ _ _ (fun e => hn (by rw [e]))⟩
theorem grownBy_of_below {w w' : World} {row : Option Nat} (h : Below w.heap.size w w') : w.grownBy w' row :=
  ⟨h.os, h.tape, h.output, h.size, fun k hk _ => h.block k hk⟩

/-- What the reader keeps while other blocks are written. -/
theorem Rd.kept {w w' : World} {R : Nat} {s} (h : Rd w R s) (hb : ∀ k, k ≤ R → w'.heap[k]? = w.heap[k]?) : Rd w' R s := by
  obtain ⟨v, h0, h1, h2, h3, h4⟩ := h
  have hR := hb R (Nat.le_refl _)
  exact ⟨v, (World.cell?_of_block (a := ⟨R, 0, none⟩) hR).trans h0, h1.same (fun k hk => hb k (by omega)), (World.cell?_of_block (a := ⟨R, 1, none⟩) hR).trans h2, (World.frozen?_of_block (a := ⟨R, 0, none⟩) hR).trans h3, (World.frozen?_of_block (a := ⟨R, 1, none⟩) hR).trans h4⟩

def takeF (n : Nat) (s : List UInt8 × Bool) : List UInt8 × (List UInt8 × Bool) :=
  if s.2 = true ∨ s.1.length < n then ([], (s.1, true)) else (s.1.take n, (s.1.drop n, false))

theorem add_none (b off n : Nat) : (⟨b, off, none⟩ : Addr).add n = ⟨b, off + n, none⟩ := by unfold Addr.add; split <;> simp_all

theorem frozen_set (w : World) (a p : Addr) (u : Value) : (w.setCell a u).frozen? p = w.frozen? p := by simp

theorem bytes_take {R : Nat} {w : World} {a : Option Addr} {bs : List UInt8} (h : BytesAt R w a bs) (n : Nat) : BytesAt R w a (bs.take n) := by
  intro i hi
  obtain ⟨b, off, e, hlt, h0⟩ := h i (by simp at hi; omega)
  exact ⟨b, off, e, hlt, by simpa using h0⟩
theorem bytes_drop {R : Nat} {w : World} {a : Option Addr} {bs : List UInt8} (h : BytesAt R w a bs) (n : Nat) : BytesAt R w (a.map (fun x => x.add n)) (bs.drop n) := by
  intro i hi
  obtain ⟨b, off, e, hlt, h0⟩ := h (n + i) (by simp at hi; omega)
  exact ⟨b, off + n, by simp [e, add_none], hlt, by rw [Nat.add_assoc]; simpa using h0⟩

theorem Rd.setShort {w : World} {R : Nat} {rest : List UInt8} {sh : Bool} (h : Rd w R (rest, sh)) : Rd (w.setCell ⟨R, 1, none⟩ (.bool true)) R (rest, true) := by
  obtain ⟨v, h0, h1, h2, h3, h4⟩ := h
  refine ⟨v, ?_, h1.same (fun k hk => Below.heap_setCell _ _ _ _ (by simp; omega)), ?_, by simpa using h3, by simpa using h4⟩
  · rw [World.cell?_setCell_other _ _ _ _ (by simp)]; exact h0
  · exact World.cell?_setCell_same _ _ _ h2
theorem Rd.setRest {w : World} {R : Nat} {rest rest' : List UInt8} {sh : Bool} {v' : Value} (h : Rd w R (rest, sh)) (hv : SliceB R w v' rest') : Rd (w.setCell ⟨R, 0, none⟩ v') R (rest', sh) := by
  obtain ⟨v, h0, h1, h2, h3, h4⟩ := h
  refine ⟨v', ?_, hv.same (fun k hk => Below.heap_setCell _ _ _ _ (by simp; omega)), ?_, by simpa using h3, by simpa using h4⟩
  · exact World.cell?_setCell_same _ _ _ h0
  · rw [World.cell?_setCell_other _ _ _ _ (by simp)]; exact h2
theorem SliceB.set {R : Nat} {w : World} {v u : Value} {bs : List UInt8} {o : Nat} (h : SliceB R w v bs) : SliceB R (w.setCell ⟨R, o, none⟩ u) v bs :=
  h.same (fun k hk => Below.heap_setCell _ _ _ _ (by simp; omega))

set_option maxHeartbeats 400000 in
theorem take_any (R : Nat) (n : Nat) (s : List UInt8 × Bool) (w : World) (hR : Rd w R s) :
    Calls Try.prog 62 #[.pointer (some ⟨R, 0, none⟩), .int .i64 n] w fun e w' => ∃ v, e = .returned v ∧ SliceB R w' v (takeF n s).1 ∧ Rd w' R (takeF n s).2 ∧ w.grownBy w' (some R) := by
  obtain ⟨rest, short⟩ := s
  have hR' := hR
  obtain ⟨v, h0, ⟨a, cap, rfl, hc, hm, hn0, hb⟩, h1, f0, f1⟩ := hR'
  simp only at hc hb h0 h1
  have HN : Hid (a = none → cap = 0) := hn0
  clear hn0
  have hm' := hm
  unfold maxLen at hm
  cases short with
  | true =>
    have e1 : takeF n (rest, true) = ([], (rest, true)) := by simp [takeF]
    have E1 : Hid (takeF n (rest, true) = ([], (rest, true))) := e1
    clear e1
    go_enter Try.func62, Try.ntmps62
    go_wp2
    go_ret
    rw [E1.out]
    exact ⟨_, rfl, SliceB.nil R _, hR.setShort, grownBy_setCell _ _ _⟩
  | false =>
    by_cases hlt : rest.length < n
    · have e1 : takeF n (rest, false) = ([], (rest, true)) := by simp [takeF, hlt]
      have E1 : Hid (takeF n (rest, false) = ([], (rest, true))) := e1
      clear e1
      go_enter Try.func62, Try.ntmps62
      go_wp2
      go_ret
      rw [E1.out]
      exact ⟨_, rfl, SliceB.nil R _, hR.setShort, grownBy_setCell _ _ _⟩
    · have e1 : takeF n (rest, false) = (rest.take n, (rest.drop n, false)) := by simp [takeF, hlt]
      have E1 : Hid (takeF n (rest, false) = (rest.take n, (rest.drop n, false))) := e1
      clear e1
      go_enter Try.func62, Try.ntmps62
      go_wp2
      all_goals go_ret
      · have hcn : cap = n := by assumption
        have s1 : SliceB R w (.slice a n n) (rest.take n) := ⟨a, n, by simp; omega, by simp; omega, by unfold maxLen; omega, fun e => by have := HN.out e; omega, bytes_take hb n⟩
        have s2 : SliceB R w (.slice a (rest.length - n) 0) (rest.drop n) := ⟨a, 0, by simp, by simp; omega, by simp [maxLen], fun _ => rfl, fun i hi => by simp at hi; omega⟩
        rw [E1.out]
        exact ⟨_, rfl, s1.set, hR.setRest s2, grownBy_setCell _ _ _⟩
      · have s1 : SliceB R w (.slice a n cap) (rest.take n) := ⟨a, cap, by simp; omega, by simp; omega, hm', HN.out, bytes_take hb n⟩
        have s2 : SliceB R w (.slice (a.map (fun x => x.add n)) (rest.length - n) (cap - n)) (rest.drop n) := ⟨_, cap - n, by simp, by simp; omega, by unfold maxLen; omega, fun e => by have := HN.out (by simpa using e); omega, bytes_drop hb n⟩
        rw [E1.out]
        exact ⟨_, rfl, s1.set, hR.setRest s2, grownBy_setCell _ _ _⟩
end Go.Proofs.Ytnfmidbbelgldaa
