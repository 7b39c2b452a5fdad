/-
  Items in memory; the closures that look at one; slices.IndexFunc.
-/
import Derived.Test.YtkddkpdfeeikhaaJShortProofM01
namespace Go.Proofs.Ytkddkpdfeeikhaa
open Go.RowKit
set_option linter.unusedVariables false
set_option linter.unusedSimpArgs false

attribute [local go_sem ↓] Go.wp_at_zero Go.wp_at_succ

/-- Items, each with the two slices of its note. -/
abbrev ItL := List (IT × (Value × Value))
def cellsI (L : ItL) : List Value := L.flatMap fun x => x.1.cells x.2
theorem cellsI_len (L : ItL) : (cellsI L).length = L.length * 7 := by
  induction L with
  | nil => rfl
  | cons p r ih => simp [cellsI, IT.cells] at ih ⊢; omega
theorem cellsI_snoc (L : ItL) (x : IT × (Value × Value)) : cellsI (L ++ [x]) = cellsI L ++ x.1.cells x.2 := by simp [cellsI]
theorem cellsI_at (L : ItL) (k j : Nat) (hk : k < L.length) (hj : j < 7) : (cellsI L)[k * 7 + j]? = (L[k].1.cells L[k].2)[j]? := by
  induction L generalizing k with
  | nil => simp at hk
  | cons x r ih =>
    have e : cellsI (x :: r) = x.1.cells x.2 ++ cellsI r := by simp [cellsI]
    rw [e]
    cases k with
    | zero => rw [List.getElem?_append_left (by simp [IT.cells]; omega)]; simp
    | succ k =>
      rw [List.getElem?_append_right (by simp [IT.cells]; omega)]
      have := ih k (by simpa using hk)
      rw [List.getElem_cons_succ, ← this]
      congr 1
      simp [IT.cells]; omega

def SliceL (S : Nat → Prop) (w : World) (v : Value) (L : ItL) : Prop := SliceV S w v L.length (cellsI L) ∧ ∀ x ∈ L, NoteIs S w x.2 x.1.note

theorem SliceL.sub {S T : Nat → Prop} {w w' : World} {v : Value} {L : ItL} (h : SliceL S w v L) (hb : ∀ k, S k → T k ∧ w'.heap[k]? = w.heap[k]?) : SliceL T w' v L :=
  ⟨h.1.sub hb, fun x hx => (h.2 x hx).sub hb⟩

theorem SliceL.below {B : Nat} {w w' : World} {v : Value} {L : ItL} (h : SliceL (Under B) w v L) (hb : Below B w w') : SliceL (Under B) w' v L := h.sub fun k hk => ⟨hk, hb.block k hk⟩

/-- A slice that reads as items. -/
def SliceI (S : Nat → Prop) (w : World) (v : Value) (its : List IT) : Prop := ∃ L : ItL, L.map Prod.fst = its ∧ SliceL S w v L

theorem SliceI.sub {S T : Nat → Prop} {w w' : World} {v : Value} {its : List IT} (h : SliceI S w v its) (hb : ∀ k, S k → T k ∧ w'.heap[k]? = w.heap[k]?) : SliceI T w' v its := by
  obtain ⟨L, e, h⟩ := h
  exact ⟨L, e, h.sub hb⟩

theorem SliceL.at {S : Nat → Prop} {w : World} {a : Option Addr} {n cap : Nat} {L : ItL} (h : SliceL S w (.slice a n cap) L) (k : Nat) (hk : k < L.length) :
    ∃ b off, a = some ⟨b, off, none⟩ ∧ S b ∧ (w.cell? ⟨b, off + k * 7, none⟩ = some (.int .i64 L[k].1.id) ∧ w.cell? ⟨b, off + k * 7 + 1, none⟩ = some (.int .i64 L[k].1.turn) ∧ w.cell? ⟨b, off + k * 7 + 2, none⟩ = some (.int .i64 L[k].1.tries) ∧ w.cell? ⟨b, off + k * 7 + 3, none⟩ = some (.bool L[k].1.out)) ∧
      (w.cell? ⟨b, off + k * 7 + 4, none⟩ = some (.int .i64 L[k].1.due) ∧ w.cell? ⟨b, off + k * 7 + 5, none⟩ = some L[k].2.1 ∧ w.cell? ⟨b, off + k * 7 + 6, none⟩ = some L[k].2.2) := by
  obtain ⟨⟨a', cap', e, _, _, _, h3⟩, _⟩ := h
  simp only [Value.slice.injEq] at e
  obtain ⟨rfl, -, rfl⟩ := e
  have hl := cellsI_len L
  obtain ⟨b, off, rfl, hs, _⟩ := h3 (k * 7) (by omega)
  have key : ∀ j (hj : j < 7), w.cell? ⟨b, off + k * 7 + j, none⟩ = (L[k].1.cells L[k].2)[j]? := fun j hj => by
    obtain ⟨b', off', e, _, hc⟩ := h3 (k * 7 + j) (by omega)
    simp only [Option.some.injEq, Addr.mk.injEq] at e
    obtain ⟨rfl, rfl, -⟩ := e
    rw [← cellsI_at L k j hk hj, List.getElem?_eq_getElem (by omega), ← hc]
    congr 2; omega
  exact ⟨b, off, rfl, hs, ⟨key 0 (by omega), key 1 (by omega), key 2 (by omega), key 3 (by omega)⟩, key 4 (by omega), key 5 (by omega), key 6 (by omega)⟩

/-- The place of the first that fits; else -1. -/
def idxI (p : IT → Bool) (its : List IT) : Int := match its.findIdx? p with
  | some k => (k : Int)
  | none => -1

theorem idxI_yes (p : IT → Bool) (L : ItL) (k : Nat) (hk : k < L.length) (hn : ∀ x ∈ L.take k, p x.1 = false) (hp : p L[k].1 = true) : idxI p (L.map Prod.fst) = k := by
  have : (L.map Prod.fst).findIdx? p = some k := by
    rw [List.findIdx?_eq_some_iff_getElem]
    refine ⟨by simpa using hk, by simpa using hp, fun j hj => ?_⟩
    have := hn L[j] (by rw [List.mem_take_iff_getElem]; exact ⟨j, by omega, rfl⟩)
    simpa using this
  simp [idxI, this]
theorem idxI_no (p : IT → Bool) (L : ItL) (hn : ∀ x ∈ L, p x.1 = false) : idxI p (L.map Prod.fst) = -1 := by
  have : (L.map Prod.fst).findIdx? p = none := by
    rw [List.findIdx?_eq_none_iff]
    intro x hx
    obtain ⟨y, hy, rfl⟩ := List.mem_map.1 hx
    exact hn y hy
  simp [idxI, this]

/-- A function that tells, of any item, whether it fits. -/
def Tells (B : Nat) (w0 : World) (F : Nat) (caps : List Value) (p : IT → Bool) : Prop :=
  (∀ args W, (callFunc F args).run Try.prog W = .ok (.enter F args) W) ∧ ∀ (it : IT) (va ua : Option Addr) (vn vc un uc : Nat) (W : World), Below B w0 W → Calls Try.prog F (Value.agg #[.int .i64 it.id, .int .i64 it.turn, .int .i64 it.tries, .bool it.out, .int .i64 it.due, .slice va vn vc, .slice ua un uc] :: caps).toArray W fun e w' => e = .returned (.bool (p it)) ∧ Below W.heap.size W w'

set_option maxRecDepth 100000 in
set_option maxHeartbeats 3200000 in
theorem index_any (F : Nat) (caps : List Value) (p : IT → Bool) (v : Value) (L : ItL) (w : World) (h : SliceL (Under w.heap.size) w v L) (hF : Tells w.heap.size w F caps p) :
    Calls Try.prog 129 #[v, .func (.func F) #[] caps.toArray] w fun e w' => e = .returned (.int .i64 (idxI p (L.map Prod.fst))) ∧ Below w.heap.size w w' := by
  have HL : Hid (SliceL (Under w.heap.size) w v L) := h
  have HF : Hid (Tells w.heap.size w F caps p) := hF
  obtain ⟨va, vc, rfl, h1, h2, h3⟩ := h.1.shape
  unfold maxLen at h2
  have hE := hF.1
  clear h hF
  go_enter Try.func129, Try.ntmps129
  go_wp2
  go_loopw [8] (fun i wr => ∃ k : Nat, k ≤ L.length ∧ i = .int .i64 k ∧ Below w.heap.size w wr ∧ ∀ x ∈ L.take k, p x.1 = false)
    (fun i _ => L.length - (intOf i).toNat)
  case atStart => exact ⟨0, Nat.zero_le _, rfl, Below.refl _ _, by simp⟩
  case round =>
    obtain ⟨k, hk, rfl, hb, hno⟩ := hrel
    have HN : Hid (∀ x ∈ L.take k, p x.1 = false) := hno
    clear hno
    by_cases hlt : k < L.length
    · obtain ⟨b, off, rfl, hS, ⟨c0, c1, c2, c3⟩, c4, c5, c6⟩ := (HL.out.below hb).at k hlt
      have hnote := HL.out.2 L[k] (List.getElem_mem hlt)
      obtain ⟨pa, pc, e1, -⟩ := SliceV.shape hnote.1
      obtain ⟨qa, qc, e2, -⟩ := SliceV.shape hnote.2
      rw [e1] at c5
      rw [e2] at c6
      cases hp : p L[k].1
      · go_wp2_with ((with_reducible show Calls Try.prog F _ _ _); refine (HF.out.2 L[k].1 _ _ _ _ _ _ _ hb).mono ?_; rw [hp]; rintro e w1 ⟨rfl, hb1⟩)
        go_roundw
        case rel =>
          refine ⟨k + 1, by omega, by go_num, hb.trans (hb1.mono hb.size), fun x hx => ?_⟩
          rw [List.take_succ_eq_append_getElem hlt, List.mem_append, List.mem_singleton] at hx
          rcases hx with hx | rfl
          · exact HN.out x hx
          · exact hp
        case measure => simp [intOf]; omega
      · go_wp2_with ((with_reducible show Calls Try.prog F _ _ _); refine (HF.out.2 L[k].1 _ _ _ _ _ _ _ hb).mono ?_; rw [hp]; rintro e w1 ⟨rfl, hb1⟩)
        go_ret
        exact ⟨ret_i64 (idxI_yes p L k hlt HN.out hp).symm, hb.trans (hb1.mono hb.size)⟩
    · go_wp2
      go_ret
      refine ⟨ret_i64 (idxI_no p L fun x hx => HN.out x ?_).symm, hb⟩
      rw [List.take_of_length_le (by omega)]; exact hx

end Go.Proofs.Ytkddkpdfeeikhaa
