/-
  JPlaces; Plain; JDel: texts laid together.
-/
import Derived.Test.YtkddkpdfeeikhaaSsTagProofM06
import Derived.Maps.Own
import Derived.Maps.OwnOps
import Derived.Maps.OwnSet
import Derived.Test.YtkddkpdfeeikhaaSsTagProofM02
/-
  journal.placesOf: the places of queues by their names.
-/
namespace Go.Proofs.Ytkddkpdfeeikhaa
open Go.RowKit Go.WideMaps Go.Maps
set_option linter.unusedVariables false
set_option linter.unusedSimpArgs false

attribute [local go_sem ↓] Go.wp_at_zero Go.wp_at_succ

/-- A name as a key. -/
def keyS (s : ByteArray) : Lit := .string s.data.toList
theorem keyS_ne {a b : ByteArray} (h : a ≠ b) : keyS a ≠ keyS b := fun e => h (by
  simp only [keyS, Lit.string.injEq] at e
  exact ByteArray.ext (Array.toList_inj.1 e))
theorem keyS_lit (s : ByteArray) : WideAt.IsKeyLit (keyS s) := trivial
/-- A map that tells, of each name, the place of the first queue that has it, from i0 on. -/
def PM (D : DataW Unit) (i0 : Nat) (qs : List QD) : Prop :=
  ∀ s, Maps.has D (keyS s) = qs.any (nameB s) ∧ ∀ k, qs.findIdx? (nameB s) = some k → D.atKey (keyS s) (.lit (.int .i64 0)) = .lit (.int .i64 ((i0 + k : Nat) : Int))

theorem PM.nil (i0 : Nat) : PM (.map []) i0 [] := fun s => ⟨rfl, fun k h => by simp at h⟩

theorem nameB_iff {name : ByteArray} {q : QD} : nameB name q = true ↔ q.name = name := ⟨nameB_eq, fun e => by rw [← e]; exact nameB_self q⟩

theorem PM.cons {D : DataW Unit} {i0 : Nat} {q : QD} {qs : List QD} (h : PM D (i0 + 1) qs) (hD : IsMap D) : PM (D.put (keyS q.name) (.lit (.int .i64 (i0 : Int)))) i0 (q :: qs) := fun s => by
  by_cases e : q.name = s
  · have hb : nameB s q = true := nameB_iff.2 e
    subst e
    refine ⟨by rw [has_put_same hD (keyS_lit _)]; simp [hb], fun k hk => ?_⟩
    rw [atKey_put_same hD (keyS_lit _)]
    simp [List.findIdx?_cons, hb] at hk
    subst hk
    rfl
  · have hb : nameB s q = false := by
      cases h : nameB s q with
      | false => rfl
      | true => exact absurd (nameB_iff.1 h) e
    have hne : keyS s ≠ keyS q.name := keyS_ne (fun h => e h.symm)
    refine ⟨by rw [has_put_other hne, (h s).1]; simp [hb], fun k hk => ?_⟩
    rw [atKey_put_other hne]
    simp only [List.findIdx?_cons, hb, Bool.false_eq_true, if_false, Option.map_eq_some_iff] at hk
    obtain ⟨j, hj, rfl⟩ := hk
    rw [(h s).2 j hj]
    congr 3
    omega

/-- The same names, the same places. -/
theorem PM.names {D : DataW Unit} {i0 : Nat} {qs qs' : List QD} (h : PM D i0 qs) (e : qs'.map QD.name = qs.map QD.name) : PM D i0 qs' := by
  have key : ∀ s (l : List QD), l.any (nameB s) = (l.map QD.name).any (fun n => n.toList == s.toList) ∧ l.findIdx? (nameB s) = (l.map QD.name).findIdx? (fun n => n.toList == s.toList) := fun s l => by
    constructor
    · rw [List.any_map]; rfl
    · rw [List.findIdx?_map]; rfl
  intro s
  rw [(key s qs').1, (key s qs').2, e, ← (key s qs).1, ← (key s qs).2]
  exact h s

end Go.Proofs.Ytkddkpdfeeikhaa

/-
  hall.Plain.
-/
namespace Go.Proofs.Ytkddkpdfeeikhaa
open Go.RowKit
set_option linter.unusedVariables false
set_option linter.unusedSimpArgs false

attribute [local go_sem ↓] Go.wp_at_zero Go.wp_at_succ

def plainI (i : IT) : IT := ⟨i.id, 0, 0, false, 0, i.note⟩
def plainQ (q : QD) : QD := ⟨q.name, q.limit, q.items.map plainI⟩

theorem cellsI_set (L : ItL) (k : Nat) (hk : k < L.length) (it : IT) (p : Value × Value) : cellsI (L.set k (it, p)) = ((((((((cellsI L).set (k * 7) (.int .i64 it.id)).set (k * 7 + 1) (.int .i64 it.turn)).set (k * 7 + 2) (.int .i64 it.tries)).set (k * 7 + 3) (.bool it.out)).set (k * 7 + 4) (.int .i64 it.due)).set (k * 7 + 5) p.1).set (k * 7 + 6) p.2) := by
  have hl := cellsI_len L
  apply List.ext_getElem?
  intro i
  have hd : i = i / 7 * 7 + i % 7 := by omega
  by_cases hi : i < L.length * 7
  · have hq : i / 7 < L.length := by omega
    rw [hd, cellsI_at _ _ _ (by simpa using hq) (by omega)]
    have hj : i % 7 = 0 ∨ i % 7 = 1 ∨ i % 7 = 2 ∨ i % 7 = 3 ∨ i % 7 = 4 ∨ i % 7 = 5 ∨ i % 7 = 6 := by omega
    by_cases he : i / 7 = k
    · subst he
      rw [List.getElem_set_self]
      rcases hj with h | h | h | h | h | h | h <;> rw [h] <;> simp [IT.cells, List.getElem?_set, hl] <;> omega
    · rw [List.getElem_set_ne (fun e => he e.symm)]
      rw [← cellsI_at L (i / 7) (i % 7) hq (by omega)]
      iterate 7 rw [List.getElem?_set_ne (by omega)]
  · rw [List.getElem?_eq_none (by rw [cellsI_len]; simp; omega), List.getElem?_eq_none (by simp [hl]; omega)]

/-- The row's world behind seven stores. -/
def put7 (w : World) (g o : Nat) (x0 x1 x2 x3 x4 x5 x6 : Value) : World := ((((((w.setCell ⟨g, o, none⟩ x0).setCell ⟨g, o + 1, none⟩ x1).setCell ⟨g, o + 2, none⟩ x2).setCell ⟨g, o + 3, none⟩ x3).setCell ⟨g, o + 4, none⟩ x4).setCell ⟨g, o + 5, none⟩ x5).setCell ⟨g, o + 6, none⟩ x6
theorem put7_far {w : World} {g o c : Nat} {x0 x1 x2 x3 x4 x5 x6 : Value} (h : c ≠ g) : (put7 w g o x0 x1 x2 x3 x4 x5 x6).heap[c]? = w.heap[c]? := by
  unfold put7; iterate 7 rw [Below.heap_setCell _ _ _ _ h]
theorem put7_size {w : World} {g o : Nat} {x0 x1 x2 x3 x4 x5 x6 : Value} : (put7 w g o x0 x1 x2 x3 x4 x5 x6).heap.size = w.heap.size := by simp [put7]
theorem sc_same (w : World) (a : Addr) (v : Value) : (w.setCell a v).os = w.os ∧ (w.setCell a v).tape = w.tape ∧ (w.setCell a v).output = w.output := ⟨rfl, rfl, rfl⟩
theorem put7_os {w : World} {g o : Nat} {x0 x1 x2 x3 x4 x5 x6 : Value} : (put7 w g o x0 x1 x2 x3 x4 x5 x6).os = w.os ∧ (put7 w g o x0 x1 x2 x3 x4 x5 x6).tape = w.tape ∧ (put7 w g o x0 x1 x2 x3 x4 x5 x6).output = w.output := by
  unfold put7
  exact ⟨by simp only [(sc_same _ _ _).1], by simp only [(sc_same _ _ _).2.1], by simp only [(sc_same _ _ _).2.2]⟩
theorem put7_own {w : World} {base g n cap k : Nat} {L : ItL} (h : w.ownsRow base 78 7 (.slice (some ⟨g, 0, none⟩) n cap) n (cellsI L)) (hk : k < L.length) (it : IT) (p : Value × Value) : (put7 w g (k * 7) (.int .i64 it.id) (.int .i64 it.turn) (.int .i64 it.tries) (.bool it.out) (.int .i64 it.due) p.1 p.2).ownsRow base 78 7 (.slice (some ⟨g, 0, none⟩) n cap) n (cellsI (L.set k (it, p))) := by
  rw [cellsI_set L k hk]
  exact (((((((h.stored (k * 7) _).1.stored (k * 7 + 1) _).1.stored (k * 7 + 2) _).1.stored (k * 7 + 3) _).1.stored (k * 7 + 4) _).1.stored (k * 7 + 5) _).1.stored (k * 7 + 6) _).1

/-- What holds in the loop of 'Plain': the first k items are plain. -/
structure PLI (base : Nat) (W1 : World) (its : List IT) (v : Value) (k : Nat) (L : ItL) (wr : World) : Prop where
  map : L.map Prod.fst = (its.take k).map plainI ++ its.drop k
  own : wr.ownsRow base 78 7 v L.length (cellsI L)
  notes : ∀ x ∈ L, NoteIs (fun b => base ≤ b ∧ b < W1.heap.size ∧ v.ownBlock ≠ some b) wr x.2 x.1.note
  os : wr.os = W1.os ∧ wr.tape = W1.tape ∧ wr.output = W1.output
  size : W1.heap.size ≤ wr.heap.size
  far : ∀ b, b < W1.heap.size → v.ownBlock ≠ some b → wr.heap[b]? = W1.heap[b]?

theorem PLI.at {base : Nat} {W1 : World} {its : List IT} {v : Value} {k : Nat} {L : ItL} {wr : World} (H : PLI base W1 its v k L wr) (hk : k < its.length) : ∃ h : k < L.length, L[k].1 = its[k] := by
  have hl := congrArg List.length H.map
  simp at hl
  refine ⟨by omega, ?_⟩
  have h1 : (L.map Prod.fst)[k]? = some its[k] := by
    rw [H.map, List.getElem?_append_right (by simp; omega)]
    simp [Nat.min_eq_left (Nat.le_of_lt hk), hk]
  rw [List.getElem?_map] at h1
  have h2 : L[k]? = some L[k] := List.getElem?_eq_getElem (by omega)
  rw [h2] at h1
  simpa using h1

theorem plain_set {its : List IT} {k : Nat} (hk : k < its.length) : ((its.take k).map plainI ++ its.drop k).set k (plainI its[k]) = (its.take (k + 1)).map plainI ++ its.drop (k + 1) := by
  have hl : ((its.take k).map plainI).length = k := by simp; omega
  rw [List.drop_eq_getElem_cons hk, List.set_append_right _ _ (by omega), hl, Nat.sub_self, List.set_cons_zero, List.take_succ_eq_append_getElem hk, List.map_append, List.append_assoc]
  rfl

theorem PLI.step {base : Nat} {W1 : World} {its : List IT} {g n cap k : Nat} {L : ItL} {wr : World} (H : PLI base W1 its (.slice (some ⟨g, 0, none⟩) n cap) k L wr) (hk : k < its.length) (hkL : k < L.length) (hn : n = L.length) (o : Obj) : PLI base W1 its (.slice (some ⟨g, 0, none⟩) n cap) (k + 1) (L.set k (plainI its[k], L[k].2)) ((put7 wr g (k * 7) (.int .i64 its[k].id) (.int .i64 0) (.int .i64 0) (.bool false) (.int .i64 0) L[k].2.1 L[k].2.2).alloc o) := by
  obtain ⟨_, hLk⟩ := H.at hk
  have hP : (put7 wr g (k * 7) (.int .i64 its[k].id) (.int .i64 0) (.int .i64 0) (.bool false) (.int .i64 0) L[k].2.1 L[k].2.2).ownsRow base 78 7 (.slice (some ⟨g, 0, none⟩) n cap) n (cellsI (L.set k (plainI its[k], L[k].2))) := put7_own (by have := H.own; rw [← hn] at this; exact this) hkL (plainI its[k]) L[k].2
  obtain ⟨U, hU⟩ : ∃ U, U = put7 wr g (k * 7) (.int .i64 its[k].id) (.int .i64 0) (.int .i64 0) (.bool false) (.int .i64 0) L[k].2.1 L[k].2.2 := ⟨_, rfl⟩
  have hUz : U.heap.size = wr.heap.size := by rw [hU]; exact put7_size
  have hUf : ∀ b, b ≠ g → U.heap[b]? = wr.heap[b]? := fun b hb => by rw [hU]; exact put7_far hb
  have hUo : U.os = wr.os ∧ U.tape = wr.tape ∧ U.output = wr.output := by rw [hU]; exact put7_os
  rw [← hU] at hP
  rw [← hU]
  clear hU
  have far : ∀ b, b ≠ g → b < wr.heap.size → (U.alloc o).heap[b]? = wr.heap[b]? := fun b h1 h2 => (Below.heap_alloc _ _ _ (by rw [hUz]; exact h2)).trans (hUf b h1)
  have hz := H.size
  have hno : ∀ b, (Value.slice (some ⟨g, 0, none⟩) n cap).ownBlock ≠ some b → b ≠ g := fun b h1 h2 => h1 (by rw [h2]; rfl)
  refine ⟨?_, ?_, fun x hx => ?_, ?_, ?_, fun b h1 h2 => (far b (hno b h2) (by omega)).trans (H.far b h1 h2)⟩
  · rw [List.map_set, H.map]
    exact plain_set hk
  · rw [List.length_set, ← hn]
    exact hP.alloc _
  · rcases List.mem_or_eq_of_mem_set hx with hx | rfl
    · exact (H.notes x hx).sub fun b hb => ⟨hb, far b (hno b hb.2.2) (by omega)⟩
    · have := H.notes L[k] (List.getElem_mem hkL)
      rw [hLk] at this
      exact this.sub fun b hb => ⟨hb, far b (hno b hb.2.2) (by omega)⟩
  · exact ⟨hUo.1.trans H.os.1, hUo.2.1.trans H.os.2.1, hUo.2.2.trans H.os.2.2⟩
  · rw [World.size_alloc, hUz]; omega

end Go.Proofs.Ytkddkpdfeeikhaa

/-
  journal.without: slices.DeleteFunc takes the items of one number out of a row of one's own, in place.
-/
namespace Go.Proofs.Ytkddkpdfeeikhaa
open Go.RowKit
set_option linter.unusedVariables false
set_option linter.unusedSimpArgs false

attribute [local go_sem ↓] Go.wp_at_zero Go.wp_at_succ

/-- Whether an item has this number. -/
def idB (id : Int) (i : IT) : Bool := i.id == id

/-- What holds in the loop of 'DeleteFunc': j items are read, i of them stay. -/
structure DFI (base : Nat) (w : World) (v : Value) (p : IT → Bool) (L : ItL) (i j : Nat) (Lr : ItL) (wr : World) : Prop where
  len : Lr.length = L.length
  ij : i < j
  jn : j ≤ L.length
  head : Lr.take i = (L.take j).filter (fun x => !p x.1)
  tail : Lr.drop j = L.drop j
  own : wr.ownsRow base 78 7 v L.length (cellsI Lr)
  grow : w.grownBy wr v.ownBlock

section
variable {base : Nat} {w wr : World} {v : Value} {p : IT → Bool} {L Lr : ItL} {i j : Nat}

theorem DFI.on (H : DFI base w v p L i j Lr wr) {W : World} (hb : Below wr.heap.size wr W) : DFI base w v p L i j Lr W :=
  ⟨H.len, H.ij, H.jn, H.head, H.tail, own_below H.own hb, grownBy_trans H.grow (grownBy_of_below hb)⟩

theorem DFI.at (H : DFI base w v p L i j Lr wr) (hj : j < L.length) : ∃ h : j < Lr.length, Lr[j] = L[j] := by
  have hl := H.len
  refine ⟨by omega, ?_⟩
  have := congrArg (fun l => l[0]?) H.tail
  simp only [List.getElem?_drop, Nat.add_zero] at this
  rw [List.getElem?_eq_getElem (by omega), List.getElem?_eq_getElem hj] at this
  simpa using this

theorem DFI.keep {g n cap : Nat} (H : DFI base w (.slice (some ⟨g, 0, none⟩) n cap) p L i j Lr wr) (hn : n = L.length) (hj : j < L.length) (hp : p L[j].1 = false) :
    DFI base w (.slice (some ⟨g, 0, none⟩) n cap) p L (i + 1) (j + 1) (Lr.set i L[j]) (put7 wr g (i * 7) (.int .i64 L[j].1.id) (.int .i64 L[j].1.turn) (.int .i64 L[j].1.tries) (.bool L[j].1.out) (.int .i64 L[j].1.due) L[j].2.1 L[j].2.2) := by
  have hl := H.len
  have hij := H.ij
  have hiL : i < Lr.length := by omega
  refine ⟨by rw [List.length_set]; exact H.len, by omega, by omega, ?_, ?_, ?_, ?_⟩
  · rw [List.take_succ_eq_append_getElem hj, List.filter_append, ← H.head, List.take_succ_eq_append_getElem (by simpa using hiL), List.take_set, List.set_eq_of_length_le (by simp; omega)]
    simp [hp]
  · rw [List.drop_set_of_lt (by omega)]
    have := congrArg (List.drop 1) H.tail
    rwa [List.drop_drop, List.drop_drop] at this
  · have h0 := H.own
    rw [← hn] at h0 ⊢
    exact put7_own h0 hiL L[j].1 L[j].2
  · refine grownBy_trans H.grow ⟨put7_os.1, put7_os.2.1, put7_os.2.2, by rw [put7_size]; exact Nat.le_refl _, fun k _ hk => put7_far (fun e => hk (by rw [e]; rfl))⟩
end

end Go.Proofs.Ytkddkpdfeeikhaa
