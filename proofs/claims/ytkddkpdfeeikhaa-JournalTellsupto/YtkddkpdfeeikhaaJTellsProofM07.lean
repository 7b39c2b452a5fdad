/-
  JPlaces; Plain; JDel: texts laid together.
-/
import Derived.Test.YtkddkpdfeeikhaaJTellsProofM06
import Derived.Maps.Own
import Derived.Maps.OwnOps
import Derived.Maps.OwnSet
import Derived.Test.YtkddkpdfeeikhaaJTellsProofM02
/-
  journal.placesOf: the places of queues by their names.
-/
namespace Go.Proofs.Ytkddkpdfeeikhaa
open Go.RowKit Go.WideMaps Go.Maps
set_option linter.unusedVariables false
set_option linter.unusedSimpArgs false

attribute [local go_sem ↓] Go.wp_at_zero Go.wp_at_succ

/-- A name as a key. -/
def keyS (s : ByteArray) : Lit := .string s.data.toList
theorem keyS_ne {a b : ByteArray} (h : a ≠ b) : keyS a ≠ keyS b := fun e => h (by
  simp only [keyS, Lit.string.injEq] at e
  exact ByteArray.ext (Array.toList_inj.1 e))
theorem keyS_lit (s : ByteArray) : WideAt.IsKeyLit (keyS s) := trivial
theorem keyed9 : Keyed Try.prog 9 := string_keyed Try.underlying9
theorem zero3J (w : World) : (zeroValue 3).run Try.prog w = .ok (.int .i64 0) w := by kernel_rfl

/-- A map that tells, of each name, the place of the first queue that has it, from i0 on. -/
def PM (D : DataW Unit) (i0 : Nat) (qs : List QD) : Prop :=
  ∀ s, Maps.has D (keyS s) = qs.any (nameB s) ∧ ∀ k, qs.findIdx? (nameB s) = some k → D.atKey (keyS s) (.lit (.int .i64 0)) = .lit (.int .i64 ((i0 + k : Nat) : Int))

theorem PM.nil (i0 : Nat) : PM (.map []) i0 [] := fun s => ⟨rfl, fun k h => by simp at h⟩

theorem nameB_iff {name : ByteArray} {q : QD} : nameB name q = true ↔ q.name = name := ⟨nameB_eq, fun e => by rw [← e]; exact nameB_self q⟩

theorem PM.cons {D : DataW Unit} {i0 : Nat} {q : QD} {qs : List QD} (h : PM D (i0 + 1) qs) (hD : IsMap D) : PM (D.put (keyS q.name) (.lit (.int .i64 (i0 : Int)))) i0 (q :: qs) := fun s => by
  by_cases e : q.name = s
  · have hb : nameB s q = true := nameB_iff.2 e
    subst e
    refine ⟨by rw [has_put_same hD (keyS_lit _)]; simp [hb], fun k hk => ?_⟩
    rw [atKey_put_same hD (keyS_lit _)]
    simp [List.findIdx?_cons, hb] at hk
    subst hk
    rfl
  · have hb : nameB s q = false := by
      cases h : nameB s q with
      | false => rfl
      | true => exact absurd (nameB_iff.1 h) e
    have hne : keyS s ≠ keyS q.name := keyS_ne (fun h => e h.symm)
    refine ⟨by rw [has_put_other hne, (h s).1]; simp [hb], fun k hk => ?_⟩
    rw [atKey_put_other hne]
    simp only [List.findIdx?_cons, hb, Bool.false_eq_true, if_false, Option.map_eq_some_iff] at hk
    obtain ⟨j, hj, rfl⟩ := hk
    rw [(h s).2 j hj]
    congr 3
    omega

theorem PM.snoc {D : DataW Unit} {qs : List QD} {q : QD} (h : PM D 0 qs) (hD : IsMap D) (hn : ∀ x ∈ qs, nameB q.name x = false) : PM (D.put (keyS q.name) (.lit (.int .i64 (qs.length : Int)))) 0 (qs ++ [q]) := fun s => by
  by_cases e : q.name = s
  · have hb : nameB s q = true := nameB_iff.2 e
    subst e
    refine ⟨by rw [has_put_same hD (keyS_lit _)]; simp [hb], fun k hk => ?_⟩
    rw [atKey_put_same hD (keyS_lit _)]
    rw [List.findIdx?_append, List.findIdx?_eq_none_iff.2 (by simpa using hn)] at hk
    simp [List.findIdx?_cons, hb] at hk
    subst hk
    simp
  · have hb : nameB s q = false := by
      cases h : nameB s q with
      | false => rfl
      | true => exact absurd (nameB_iff.1 h) e
    have hne : keyS s ≠ keyS q.name := keyS_ne (fun h => e h.symm)
    refine ⟨by rw [has_put_other hne, (h s).1]; simp [hb], fun k hk => ?_⟩
    rw [atKey_put_other hne]
    refine (h s).2 k ?_
    rw [List.findIdx?_append] at hk
    cases h1 : qs.findIdx? (nameB s) with
    | some j => rw [h1] at hk; simpa using hk
    | none => rw [h1] at hk; simp [List.findIdx?_cons, hb] at hk

/-- The same names, the same places. -/
theorem PM.names {D : DataW Unit} {i0 : Nat} {qs qs' : List QD} (h : PM D i0 qs) (e : qs'.map QD.name = qs.map QD.name) : PM D i0 qs' := by
  have key : ∀ s (l : List QD), l.any (nameB s) = (l.map QD.name).any (fun n => n.toList == s.toList) ∧ l.findIdx? (nameB s) = (l.map QD.name).findIdx? (fun n => n.toList == s.toList) := fun s l => by
    constructor
    · rw [List.any_map]; rfl
    · rw [List.findIdx?_map]; rfl
  intro s
  rw [(key s qs').1, (key s qs').2, e, ← (key s qs).1, ← (key s qs).2]
  exact h s

set_option maxRecDepth 100000 in
set_option maxHeartbeats 3200000 in
theorem places_any (v : Value) (qs : List QD) (w : World) (hv : SliceQ (Under w.heap.size) w v qs) (hlen : qs.length ≤ 4194304) (hnm : ∀ q ∈ qs, q.name.size ≤ maxLen) :
    Calls Try.prog 77 #[v] w fun e w' => e = .returned (.map (some w.heap.size)) ∧ (∃ D : DataW Unit, w'.ownsMap Try.prog 9 (plainElem Try.prog 3) w.heap.size qs.length D ∧ PM D 0 qs) ∧ Below w.heap.size w w' ∧ w.heap.size < w'.heap.size := by
  have HV : Hid (SliceQ (Under w.heap.size) w v qs) := hv
  have HN : Hid (∀ q ∈ qs, q.name.size ≤ maxLen) := hnm
  obtain ⟨va, vc, rfl, h1, h2, h3⟩ := hv.shape
  unfold maxLen at h2
  clear hv hnm
  obtain ⟨n, hn⟩ : ∃ n, n = qs.length := ⟨_, rfl⟩
  have HNN : Hid (n = qs.length) := hn
  rw [← hn] at hlen h1
  rw [← hn]
  clear hn
  have hmm := @run_makeMap Try.prog
  go_enter Try.func77, Try.ntmps77
  go_wp2
  go_loopw [4] (fun i wr => ∃ j : Nat, j ≤ n ∧ i = .int .i64 ((j : Int) - 1) ∧ (∃ D : DataW Unit, wr.ownsMap Try.prog 9 (plainElem Try.prog 3) w.heap.size (n - j) D ∧ PM D j (qs.drop j)) ∧ Below w.heap.size w wr ∧ w.heap.size < wr.heap.size)
    (fun i _ => (intOf i + 1).toNat)
  case atStart =>
    refine ⟨n, Nat.le_refl _, rfl, ⟨.map [], ?_, ?_⟩, (Below.refl _ _).alloc (Nat.le_refl _) _, by simp⟩
    · rw [Nat.sub_self]; exact World.ownsMap_made _ _ _ _
    · rw [List.drop_of_length_le (by rw [HNN.out]; exact Nat.le_refl _)]; exact PM.nil _
  case round =>
    obtain ⟨j, hj, rfl, ⟨D, hown, hpm⟩, hnx, hwl⟩ := hrel
    have HPM : Hid (PM D j (qs.drop j)) := hpm
    have HOM : Hid (wr.ownsMap Try.prog 9 (plainElem Try.prog 3) w.heap.size (n - j) D) := hown
    clear hpm
    by_cases hlt : 0 < j
    · obtain ⟨i, rfl⟩ : ∃ i, j = i + 1 := ⟨j - 1, by omega⟩
      have hi : i < qs.length := by have := HNN.out; omega
      obtain ⟨b, off, ia, ic, rfl, hS, hq, c0, c1, c2⟩ := (SliceQ.sub (T := Under w.heap.size) HV.out (fun b hb => ⟨hb, hnx.block b hb⟩)).at i hi
      have hkey : keyOf Try.prog 9 (.string qs[i].name) = some (keyS qs[i].name) := keyOf_string_mk Try.underlying9 (HN.out _ (List.getElem_mem hi))
      have hge : (0 : Int) ≤ ((i + 1 : Nat) : Int) - 1 := by omega
      have he : ((i + 1 : Nat) : Int) - 1 = (i : Int) := by omega
      rw [he] at hge ⊢
      clear hq c1 c2
      obtain ⟨nm, hnm⟩ : ∃ nm, nm = qs[i].name := ⟨_, rfl⟩
      rw [← hnm] at c0 hkey
      have HNM : Hid (nm = qs[i].name) := hnm
      clear hnm
      go_wp2_with (first
        | (at_mapUpdate; refine wpList_mapUpdate_own _ rfl _ _ _ 132 rfl 9 3 keyed9 Try.underlying132 _ w.heap.size (n - (i + 1)) _ rfl hown (by unfold maxLen; omega) _ _ _ rfl rfl hkey _ [] (plainElem_int Try.underlying3 (WalkArith.wf_i64 (by omega))) ?_; intro w1 hown1 hgrow1)
        | go_in)
      have R1 : w1.ownsMap Try.prog 9 (plainElem Try.prog 3) w.heap.size (n - i) (D.put (keyS nm) (.lit (.int .i64 (i : Int)))) := by
        have e : n - (i + 1) + 1 = n - i := by omega
        rw [e] at hown1
        exact hown1
      have R2 := hnx.grown hgrow1 hnx.size (fun j hj => by cases hj; exact Nat.le_refl _)
      have R3 : PM (D.put (keyS nm) (.lit (.int .i64 (i : Int)))) i (qs.drop i) := by
        rw [List.drop_eq_getElem_cons hi, HNM.out]
        exact HPM.out.cons (HOM.out.tidy keyed9).isMap
      have R4 : w.heap.size < w1.heap.size := by have := hgrow1.size; omega
      clear hown1 hgrow1 hown
      go_wp2
      go_roundw
      case rel => exact ⟨i, by omega, by go_num, ⟨_, R1, R3⟩, R2, R4⟩
      case measure => simp [intOf]
    · obtain rfl : j = 0 := by omega
      go_wp2
      go_ret
      refine ⟨rfl, ⟨D, ?_, ?_⟩, hnx, hwl⟩
      · have := HOM.out; rw [Nat.sub_zero] at this; exact this
      · have := HPM.out; rwa [List.drop_zero] at this
end Go.Proofs.Ytkddkpdfeeikhaa

/-
  hall.Plain.
-/
namespace Go.Proofs.Ytkddkpdfeeikhaa
open Go.RowKit
set_option linter.unusedVariables false
set_option linter.unusedSimpArgs false

attribute [local go_sem ↓] Go.wp_at_zero Go.wp_at_succ

def plainI (i : IT) : IT := ⟨i.id, 0, 0, false, 0, i.note⟩
def plainQ (q : QD) : QD := ⟨q.name, q.limit, q.items.map plainI⟩

theorem cellsI_set (L : ItL) (k : Nat) (hk : k < L.length) (it : IT) (p : Value × Value) : cellsI (L.set k (it, p)) = ((((((((cellsI L).set (k * 7) (.int .i64 it.id)).set (k * 7 + 1) (.int .i64 it.turn)).set (k * 7 + 2) (.int .i64 it.tries)).set (k * 7 + 3) (.bool it.out)).set (k * 7 + 4) (.int .i64 it.due)).set (k * 7 + 5) p.1).set (k * 7 + 6) p.2) := by
  have hl := cellsI_len L
  apply List.ext_getElem?
  intro i
  have hd : i = i / 7 * 7 + i % 7 := by omega
  by_cases hi : i < L.length * 7
  · have hq : i / 7 < L.length := by omega
    rw [hd, cellsI_at _ _ _ (by simpa using hq) (by omega)]
    have hj : i % 7 = 0 ∨ i % 7 = 1 ∨ i % 7 = 2 ∨ i % 7 = 3 ∨ i % 7 = 4 ∨ i % 7 = 5 ∨ i % 7 = 6 := by omega
    by_cases he : i / 7 = k
    · subst he
      rw [List.getElem_set_self]
      rcases hj with h | h | h | h | h | h | h <;> rw [h] <;> simp [IT.cells, List.getElem?_set, hl] <;> omega
    · rw [List.getElem_set_ne (fun e => he e.symm)]
      rw [← cellsI_at L (i / 7) (i % 7) hq (by omega)]
      iterate 7 rw [List.getElem?_set_ne (by omega)]
  · rw [List.getElem?_eq_none (by rw [cellsI_len]; simp; omega), List.getElem?_eq_none (by simp [hl]; omega)]

/-- The row's world behind seven stores. -/
def put7 (w : World) (g o : Nat) (x0 x1 x2 x3 x4 x5 x6 : Value) : World := ((((((w.setCell ⟨g, o, none⟩ x0).setCell ⟨g, o + 1, none⟩ x1).setCell ⟨g, o + 2, none⟩ x2).setCell ⟨g, o + 3, none⟩ x3).setCell ⟨g, o + 4, none⟩ x4).setCell ⟨g, o + 5, none⟩ x5).setCell ⟨g, o + 6, none⟩ x6
theorem put7_far {w : World} {g o c : Nat} {x0 x1 x2 x3 x4 x5 x6 : Value} (h : c ≠ g) : (put7 w g o x0 x1 x2 x3 x4 x5 x6).heap[c]? = w.heap[c]? := by
  unfold put7; iterate 7 rw [Below.heap_setCell _ _ _ _ h]
theorem put7_size {w : World} {g o : Nat} {x0 x1 x2 x3 x4 x5 x6 : Value} : (put7 w g o x0 x1 x2 x3 x4 x5 x6).heap.size = w.heap.size := by simp [put7]
theorem sc_same (w : World) (a : Addr) (v : Value) : (w.setCell a v).os = w.os ∧ (w.setCell a v).tape = w.tape ∧ (w.setCell a v).output = w.output := ⟨rfl, rfl, rfl⟩
theorem put7_os {w : World} {g o : Nat} {x0 x1 x2 x3 x4 x5 x6 : Value} : (put7 w g o x0 x1 x2 x3 x4 x5 x6).os = w.os ∧ (put7 w g o x0 x1 x2 x3 x4 x5 x6).tape = w.tape ∧ (put7 w g o x0 x1 x2 x3 x4 x5 x6).output = w.output := by
  unfold put7
  exact ⟨by simp only [(sc_same _ _ _).1], by simp only [(sc_same _ _ _).2.1], by simp only [(sc_same _ _ _).2.2]⟩
theorem put7_own {w : World} {base g n cap k : Nat} {L : ItL} (h : w.ownsRow base 78 7 (.slice (some ⟨g, 0, none⟩) n cap) n (cellsI L)) (hk : k < L.length) (it : IT) (p : Value × Value) : (put7 w g (k * 7) (.int .i64 it.id) (.int .i64 it.turn) (.int .i64 it.tries) (.bool it.out) (.int .i64 it.due) p.1 p.2).ownsRow base 78 7 (.slice (some ⟨g, 0, none⟩) n cap) n (cellsI (L.set k (it, p))) := by
  rw [cellsI_set L k hk]
  exact (((((((h.stored (k * 7) _).1.stored (k * 7 + 1) _).1.stored (k * 7 + 2) _).1.stored (k * 7 + 3) _).1.stored (k * 7 + 4) _).1.stored (k * 7 + 5) _).1.stored (k * 7 + 6) _).1

/-- What holds in the loop of 'Plain': the first k items are plain. -/
structure PLI (base : Nat) (W1 : World) (its : List IT) (v : Value) (k : Nat) (L : ItL) (wr : World) : Prop where
  map : L.map Prod.fst = (its.take k).map plainI ++ its.drop k
  own : wr.ownsRow base 78 7 v L.length (cellsI L)
  notes : ∀ x ∈ L, NoteIs (fun b => base ≤ b ∧ b < W1.heap.size ∧ v.ownBlock ≠ some b) wr x.2 x.1.note
  os : wr.os = W1.os ∧ wr.tape = W1.tape ∧ wr.output = W1.output
  size : W1.heap.size ≤ wr.heap.size
  far : ∀ b, b < W1.heap.size → v.ownBlock ≠ some b → wr.heap[b]? = W1.heap[b]?

theorem PLI.at {base : Nat} {W1 : World} {its : List IT} {v : Value} {k : Nat} {L : ItL} {wr : World} (H : PLI base W1 its v k L wr) (hk : k < its.length) : ∃ h : k < L.length, L[k].1 = its[k] := by
  have hl := congrArg List.length H.map
  simp at hl
  refine ⟨by omega, ?_⟩
  have h1 : (L.map Prod.fst)[k]? = some its[k] := by
    rw [H.map, List.getElem?_append_right (by simp; omega)]
    simp [Nat.min_eq_left (Nat.le_of_lt hk), hk]
  rw [List.getElem?_map] at h1
  have h2 : L[k]? = some L[k] := List.getElem?_eq_getElem (by omega)
  rw [h2] at h1
  simpa using h1

theorem plain_set {its : List IT} {k : Nat} (hk : k < its.length) : ((its.take k).map plainI ++ its.drop k).set k (plainI its[k]) = (its.take (k + 1)).map plainI ++ its.drop (k + 1) := by
  have hl : ((its.take k).map plainI).length = k := by simp; omega
  rw [List.drop_eq_getElem_cons hk, List.set_append_right _ _ (by omega), hl, Nat.sub_self, List.set_cons_zero, List.take_succ_eq_append_getElem hk, List.map_append, List.append_assoc]
  rfl

theorem PLI.step {base : Nat} {W1 : World} {its : List IT} {g n cap k : Nat} {L : ItL} {wr : World} (H : PLI base W1 its (.slice (some ⟨g, 0, none⟩) n cap) k L wr) (hk : k < its.length) (hkL : k < L.length) (hn : n = L.length) (o : Obj) : PLI base W1 its (.slice (some ⟨g, 0, none⟩) n cap) (k + 1) (L.set k (plainI its[k], L[k].2)) ((put7 wr g (k * 7) (.int .i64 its[k].id) (.int .i64 0) (.int .i64 0) (.bool false) (.int .i64 0) L[k].2.1 L[k].2.2).alloc o) := by
  obtain ⟨_, hLk⟩ := H.at hk
  have hP : (put7 wr g (k * 7) (.int .i64 its[k].id) (.int .i64 0) (.int .i64 0) (.bool false) (.int .i64 0) L[k].2.1 L[k].2.2).ownsRow base 78 7 (.slice (some ⟨g, 0, none⟩) n cap) n (cellsI (L.set k (plainI its[k], L[k].2))) := put7_own (by have := H.own; rw [← hn] at this; exact this) hkL (plainI its[k]) L[k].2
  obtain ⟨U, hU⟩ : ∃ U, U = put7 wr g (k * 7) (.int .i64 its[k].id) (.int .i64 0) (.int .i64 0) (.bool false) (.int .i64 0) L[k].2.1 L[k].2.2 := ⟨_, rfl⟩
  have hUz : U.heap.size = wr.heap.size := by rw [hU]; exact put7_size
  have hUf : ∀ b, b ≠ g → U.heap[b]? = wr.heap[b]? := fun b hb => by rw [hU]; exact put7_far hb
  have hUo : U.os = wr.os ∧ U.tape = wr.tape ∧ U.output = wr.output := by rw [hU]; exact put7_os
  rw [← hU] at hP
  rw [← hU]
  clear hU
  have far : ∀ b, b ≠ g → b < wr.heap.size → (U.alloc o).heap[b]? = wr.heap[b]? := fun b h1 h2 => (Below.heap_alloc _ _ _ (by rw [hUz]; exact h2)).trans (hUf b h1)
  have hz := H.size
  have hno : ∀ b, (Value.slice (some ⟨g, 0, none⟩) n cap).ownBlock ≠ some b → b ≠ g := fun b h1 h2 => h1 (by rw [h2]; rfl)
  refine ⟨?_, ?_, fun x hx => ?_, ?_, ?_, fun b h1 h2 => (far b (hno b h2) (by omega)).trans (H.far b h1 h2)⟩
  · rw [List.map_set, H.map]
    exact plain_set hk
  · rw [List.length_set, ← hn]
    exact hP.alloc _
  · rcases List.mem_or_eq_of_mem_set hx with hx | rfl
    · exact (H.notes x hx).sub fun b hb => ⟨hb, far b (hno b hb.2.2) (by omega)⟩
    · have := H.notes L[k] (List.getElem_mem hkL)
      rw [hLk] at this
      exact this.sub fun b hb => ⟨hb, far b (hno b hb.2.2) (by omega)⟩
  · exact ⟨hUo.1.trans H.os.1, hUo.2.1.trans H.os.2.1, hUo.2.2.trans H.os.2.2⟩
  · rw [World.size_alloc, hUz]; omega

end Go.Proofs.Ytkddkpdfeeikhaa

/-
  journal.without: slices.DeleteFunc takes the items of one number out of a row of one's own, in place.
-/
namespace Go.Proofs.Ytkddkpdfeeikhaa
open Go.RowKit
set_option linter.unusedVariables false
set_option linter.unusedSimpArgs false

attribute [local go_sem ↓] Go.wp_at_zero Go.wp_at_succ

/-- Whether an item has this number. -/
def idB (id : Int) (i : IT) : Bool := i.id == id

theorem enterWo (args : Array Value) (W : World) : (callFunc 104 args).run Try.prog W = .ok (.enter 104 args) W := by go_simp

set_option maxHeartbeats 1000000 in
theorem isId_any (g : Nat) (id : Int) (it : IT) (va ua : Option Addr) (vn vc un uc : Nat) (W : World) (hg : Blk W g [.int .i64 id]) :
    Calls Try.prog 104 #[.agg #[.int .i64 it.id, .int .i64 it.turn, .int .i64 it.tries, .bool it.out, .int .i64 it.due, .slice va vn vc, .slice ua un uc], .pointer (some ⟨g, 0, none⟩)] W fun e w' => e = .returned (.bool (idB id it)) ∧ Below W.heap.size W w' := by
  obtain ⟨c0, c1, c2⟩ := hg.b1
  obtain ⟨id', turn, tries, out, due, note⟩ := it
  simp only [idB]
  go_enter Try.func104, Try.ntmps104
  go_wp2
  go_ret
  exact ⟨rfl, below_alloc _ _⟩

theorem isId_tells (w0 : World) (g : Nat) (id : Int) (hg : Blk w0 g [.int .i64 id]) : Tells w0.heap.size w0 104 [.pointer (some ⟨g, 0, none⟩)] (idB id) :=
  ⟨enterWo, fun it va ua vn vc un uc W hb => isId_any g id it va ua vn vc un uc W (hg.below hb hg.lt)⟩

theorem run_clear7m (w : World) (ty : TypeId) (g off m c : Nat) (hm0 : 0 < m) (cur : Array Value) (hg : w.heap[g]? = some (.cells cur 78 (0, 0))) (hf : off + m * 7 ≤ cur.size) :
    ∃ z : List Value, z.length = m * 7 ∧ (Builtin.clear_ #[74] ty #[.slice (some ⟨g, off, none⟩) m c]).run Try.prog w = .ok (.tuple #[]) (w.setRow g (cur.toList.take off ++ z ++ cur.toList.drop (off + m * 7)).toArray) := by
  obtain ⟨z, hz⟩ : ∃ z : List Value, z = (Builtin.zeroCells (Value.agg #[.int .i64 0, .int .i64 0, .int .i64 0, .bool false, .int .i64 0, .slice none 0 0, .slice none 0 0]).cells m).toList := ⟨_, rfl⟩
  have hl : z.length = m * 7 := by rw [hz, Array.length_toList, size_zeroCells]; rfl
  have h1 : ∀ u ∈ z, u.oneCell' = true := by
    intro u hu
    rw [hz] at hu
    simp only [Builtin.zeroCells, Array.toList_map, Array.toList_range, List.mem_map, List.mem_range] at hu
    obtain ⟨i, hi, rfl⟩ := hu
    have h7 : (Value.agg #[.int .i64 0, .int .i64 0, .int .i64 0, .bool false, .int .i64 0, .slice none 0 0, .slice none 0 0]).cells = #[.int .i64 0, .int .i64 0, .int .i64 0, .bool false, .int .i64 0, .slice none 0 0, .slice none 0 0] := rfl
    rw [h7]
    have hm : i % 7 < 7 := Nat.mod_lt _ (by omega)
    show (#[Value.int .i64 0, .int .i64 0, .int .i64 0, .bool false, .int .i64 0, .slice none 0 0, .slice none 0 0][i % 7]!).oneCell' = true
    have : i % 7 = 0 ∨ i % 7 = 1 ∨ i % 7 = 2 ∨ i % 7 = 3 ∨ i % 7 = 4 ∨ i % 7 = 5 ∨ i % 7 = 6 := by omega
    rcases this with h | h | h | h | h | h | h <;> rw [h] <;> rfl
  have hst := run_storeCells_at Try.prog g off 78 z 0 cur w hg (by simpa [hl] using hf) h1
  simp only [Nat.add_zero, hl] at hst
  refine ⟨z, hl, ?_⟩
  obtain ⟨m, rfl⟩ : ∃ k, m = k + 1 := ⟨m - 1, by omega⟩
  simp [Builtin.clear_, run_underlying Try.underlying74, zero34, ← hz, hst]

/-- What holds in the loop of 'DeleteFunc': j items are read, i of them stay. -/
structure DFI (base : Nat) (w : World) (v : Value) (p : IT → Bool) (L : ItL) (i j : Nat) (Lr : ItL) (wr : World) : Prop where
  len : Lr.length = L.length
  ij : i < j
  jn : j ≤ L.length
  head : Lr.take i = (L.take j).filter (fun x => !p x.1)
  tail : Lr.drop j = L.drop j
  own : wr.ownsRow base 78 7 v L.length (cellsI Lr)
  grow : w.grownBy wr v.ownBlock

section
variable {base : Nat} {w wr : World} {v : Value} {p : IT → Bool} {L Lr : ItL} {i j : Nat}

theorem DFI.on (H : DFI base w v p L i j Lr wr) {W : World} (hb : Below wr.heap.size wr W) : DFI base w v p L i j Lr W :=
  ⟨H.len, H.ij, H.jn, H.head, H.tail, own_below H.own hb, grownBy_trans H.grow (grownBy_of_below hb)⟩

theorem DFI.at (H : DFI base w v p L i j Lr wr) (hj : j < L.length) : ∃ h : j < Lr.length, Lr[j] = L[j] := by
  have hl := H.len
  refine ⟨by omega, ?_⟩
  have := congrArg (fun l => l[0]?) H.tail
  simp only [List.getElem?_drop, Nat.add_zero] at this
  rw [List.getElem?_eq_getElem (by omega), List.getElem?_eq_getElem hj] at this
  simpa using this

theorem DFI.skip (H : DFI base w v p L i j Lr wr) (hj : j < L.length) (hp : p L[j].1 = true) : DFI base w v p L i (j + 1) Lr wr := by
  refine ⟨H.len, by have := H.ij; omega, by omega, ?_, ?_, H.own, H.grow⟩
  · rw [List.take_succ_eq_append_getElem hj, List.filter_append, H.head]
    simp [hp]
  · have := congrArg (List.drop 1) H.tail
    rwa [List.drop_drop, List.drop_drop] at this

theorem DFI.keep {g n cap : Nat} (H : DFI base w (.slice (some ⟨g, 0, none⟩) n cap) p L i j Lr wr) (hn : n = L.length) (hj : j < L.length) (hp : p L[j].1 = false) :
    DFI base w (.slice (some ⟨g, 0, none⟩) n cap) p L (i + 1) (j + 1) (Lr.set i L[j]) (put7 wr g (i * 7) (.int .i64 L[j].1.id) (.int .i64 L[j].1.turn) (.int .i64 L[j].1.tries) (.bool L[j].1.out) (.int .i64 L[j].1.due) L[j].2.1 L[j].2.2) := by
  have hl := H.len
  have hij := H.ij
  have hiL : i < Lr.length := by omega
  refine ⟨by rw [List.length_set]; exact H.len, by omega, by omega, ?_, ?_, ?_, ?_⟩
  · rw [List.take_succ_eq_append_getElem hj, List.filter_append, ← H.head, List.take_succ_eq_append_getElem (by simpa using hiL), List.take_set, List.set_eq_of_length_le (by simp; omega)]
    simp [hp]
  · rw [List.drop_set_of_lt (by omega)]
    have := congrArg (List.drop 1) H.tail
    rwa [List.drop_drop, List.drop_drop] at this
  · have h0 := H.own
    rw [← hn] at h0 ⊢
    exact put7_own h0 hiL L[j].1 L[j].2
  · refine grownBy_trans H.grow ⟨put7_os.1, put7_os.2.1, put7_os.2.2, by rw [put7_size]; exact Nat.le_refl _, fun k _ hk => put7_far (fun e => hk (by rw [e]; rfl))⟩
end

theorem idxJ_cases (p : IT → Bool) (its : List IT) : (idxI p its = -1 ∧ ∀ x ∈ its, p x = false) ∨ ∃ k, ∃ h : k < its.length, idxI p its = (k : Int) ∧ p its[k] = true ∧ ∀ x ∈ its.take k, p x = false := by
  cases h : its.findIdx? p with
  | none =>
    rw [List.findIdx?_eq_none_iff] at h
    exact .inl ⟨by simp [idxI, List.findIdx?_eq_none_iff.2 h], h⟩
  | some k =>
    have h' := h
    rw [List.findIdx?_eq_some_iff_getElem] at h
    obtain ⟨hk, hp, hn⟩ := h
    refine .inr ⟨k, hk, by simp [idxI, h'], hp, fun x hx => ?_⟩
    rw [List.mem_take_iff_getElem] at hx
    obtain ⟨j, hj, rfl⟩ := hx
    simpa using hn j (by omega)

theorem filter_all {p : IT → Bool} {L : ItL} (h : ∀ x ∈ L, p x.1 = false) : L.filter (fun x => !p x.1) = L := by
  rw [List.filter_eq_self]
  intro x hx
  simp [h x hx]

set_option maxRecDepth 100000 in
set_option maxHeartbeats 3200000 in
theorem deleteFunc_any (base bx : Nat) (id : Int) (v : Value) (L : ItL) (w : World) (S : Nat → Prop) (ho : w.ownsRow base 78 7 v L.length (cellsI L)) (hn : ∀ x ∈ L, NoteIs S w x.2 x.1.note) (hS : ∀ b, S b → b < w.heap.size) (hb : Blk w bx [.int .i64 id]) (hv : v.ownBlock ≠ some bx) (hlen : L.length ≤ 4194304) :
    Calls Try.prog 103 #[v, .func (.func 104) #[] #[.pointer (some ⟨bx, 0, none⟩)]] w fun e w' => ∃ v', e = .returned v' ∧ w'.ownsRow base 78 7 v' (L.filter (fun x => !idB id x.1)).length (cellsI (L.filter (fun x => !idB id x.1))) ∧ v'.ownBlock = v.ownBlock ∧ w.grownBy w' v.ownBlock := by
  have hSL : SliceL (Under w.heap.size) w v L := ⟨(own_slice ho).sub fun b hb => ⟨(ho.lt b hb).2, rfl⟩, fun x hx => (hn x hx).sub fun b hb => ⟨hS b hb, rfl⟩⟩
  have HIX : Hid (Calls Try.prog 129 #[v, .func (.func 104) #[] #[.pointer (some ⟨bx, 0, none⟩)]] w fun e w' => e = .returned (.int .i64 (idxI (idB id) (L.map Prod.fst))) ∧ Below w.heap.size w w') := index_any 104 [.pointer (some ⟨bx, 0, none⟩)] (idB id) v L w hSL (isId_tells w bx id hb)
  have HB : Hid (Blk w bx [.int .i64 id]) := hb
  have HO : Hid (w.ownsRow base 78 7 v L.length (cellsI L)) := ho
  have HN : Hid (∀ x ∈ L, NoteIs S w x.2 x.1.note) := hn
  have HV : Hid (v.ownBlock ≠ some bx) := hv
  obtain ⟨xa, xc, rfl, hx1, hx2, -⟩ := own_shape ho
  have hbl := hb.lt
  unfold maxLen at hx2
  clear hSL hn hS hb hv
  rcases idxJ_cases (idB id) (L.map Prod.fst) with ⟨hI, hno⟩ | ⟨k, hk, hI, hp, hno⟩
  · clear ho
    rw [hI] at HIX
    have HNO : Hid (∀ x ∈ L.map Prod.fst, idB id x = false) := hno
    clear hno hI
    go_enter Try.func103, Try.ntmps103
    go_wp2_with (go_at_call 129; refine HIX.out.mono ?_; rintro e w1 ⟨rfl, hb1⟩)
    go_ret
    have hf : L.filter (fun x => !idB id x.1) = L := filter_all fun x hx => HNO.out _ (List.mem_map_of_mem hx)
    rw [hf]
    exact ⟨_, rfl, own_below HO.out hb1, rfl, grownBy_of_below hb1⟩
  · have hk' : k < L.length := by simpa using hk
    have hpL : idB id L[k].1 = true := by simpa using hp
    have hnoL : ∀ x ∈ L.take k, idB id x.1 = false := fun x hx => hno x.1 (by rw [← List.map_take]; exact List.mem_map_of_mem hx)
    rw [hI] at HIX
    obtain ⟨g, cap, e⟩ : ∃ g cap, Value.slice xa L.length xc = .slice (some ⟨g, 0, none⟩) L.length cap := by
      rcases ho.2 with ⟨-, h0⟩ | ⟨g, cap, cur, e, -⟩
      · omega
      · exact ⟨g, cap, e⟩
    simp only [Value.slice.injEq, true_and] at e
    obtain ⟨rfl, rfl⟩ := e
    obtain ⟨n, hnn⟩ : ∃ n, n = L.length := ⟨_, rfl⟩
    have H0 : ∀ W, Below w.heap.size w W → DFI base w (.slice (some ⟨g, 0, none⟩) n xc) (idB id) L k (k + 1) L W := fun W hW => by
      refine ⟨rfl, by omega, by omega, ?_, rfl, by rw [hnn]; exact own_below ho hW, grownBy_of_below hW⟩
      rw [List.take_succ_eq_append_getElem hk', List.filter_append, filter_all hnoL]
      simp [hpL]
    have HK0 : Hid _ := H0
    have HNN : Hid (n = L.length) := hnn
    rw [← hnn] at HIX HO hlen hx1 hk' HV ⊢
    clear H0 hno hnoL hpL hp hI ho hk hnn
    have hk1 : ((k : Int) == -1) = false := by first | (simp; done) | (simp; omega)
    go_enter Try.func103, Try.ntmps103
    go_wp2_with (go_at_call 129; refine HIX.out.mono ?_; rintro e w1 ⟨rfl, hb1⟩)
    have HB1 : Hid (Below w.heap.size w w1) := hb1
    clear hb1
    go_loopw [5, 6] (fun i j wr => ∃ ki kj : Nat, i = .int .i64 ki ∧ j = .int .i64 kj ∧ ki < kj ∧ kj ≤ n ∧ ∃ Lr, DFI base w (.slice (some ⟨g, 0, none⟩) n xc) (idB id) L ki kj Lr wr) (fun i j _ => n - (intOf j).toNat)
    case atStart => exact ⟨k, k + 1, rfl, by go_num, by omega, by omega, L, HK0.out _ HB1.out⟩
    case round =>
      obtain ⟨ki, kj, rfl, rfl, hij, hjn, Lr, hI⟩ := hrel
      have HI : Hid (DFI base w (.slice (some ⟨g, 0, none⟩) n xc) (idB id) L ki kj Lr wr) := hI
      have hzr := hI.grow.size
      have hown := hI.own
      rw [← HNN.out] at hown
      have hgl := (hown.lt g rfl).2
      have hbg : bx ≠ g := fun e => HV.out (by rw [e]; rfl)
      have hbx : Blk wr bx [.int .i64 id] := HB.out.same (hI.grow.block bx (by omega) (fun e => HV.out e.symm))
      by_cases hlt : kj < n
      · have hjL : kj < L.length := by rw [← HNN.out]; exact hlt
        obtain ⟨hjr, hLj⟩ := hI.at hjL
        have hnote := HN.out L[kj] (List.getElem_mem hjL)
        obtain ⟨pa, pc, e1, -⟩ := SliceV.shape hnote.1
        obtain ⟨qa, qc, e2, -⟩ := SliceV.shape hnote.2
        have key : ∀ j, j < 7 → wr.cell? ⟨g, kj * 7 + j, none⟩ = (Lr[kj].1.cells Lr[kj].2)[j]? := fun j hj => by
          rw [hown.cellAt (kj * 7 + j) (by omega), cellsI_at Lr kj j hjr hj]
        have c0 := key 0 (by omega); have c1 := key 1 (by omega); have c2 := key 2 (by omega); have c3 := key 3 (by omega); have c4 := key 4 (by omega); have c5 := key 5 (by omega); have c6 := key 6 (by omega)
        simp only [IT.cells, List.getElem?_cons_zero, List.getElem?_cons_succ, Nat.add_zero, hLj, e1, e2] at c0 c1 c2 c3 c4 c5 c6
        have hf := fun o => hown.frozenAt o
        have HPQ : Hid (L[kj].2 = (.slice pa L[kj].1.note.props.length pc, .slice qa L[kj].1.note.body.length qc)) := by
          show L[kj].2 = _
          rw [← e1, ← e2]
        have HBX : Hid (Blk wr bx [.int .i64 id]) := hbx
        have old : Hid (∀ W, Below wr.heap.size wr W → ∀ j, j < 7 → ∃ u, W.cell? ⟨g, ki * 7 + j, none⟩ = some u) := fun W hW j hj => by
          have hl := hI.len
          have := hI.jn
          rw [(bcell hW).1 g _ hgl, hown.cellAt (ki * 7 + j) (by omega), cellsI_at Lr ki j (by omega) hj]
          exact ⟨_, List.getElem?_eq_getElem (by simpa [IT.cells] using hj)⟩
        clear key hI hnote e1 e2 hown hbx hLj
        obtain ⟨it, hit⟩ : ∃ it, it = L[kj].1 := ⟨_, rfl⟩
        rw [← hit] at c0 c1 c2 c3 c4 c5 c6 HPQ
        have HIT : Hid (it = L[kj].1) := hit
        clear hit
        cases hp : idB id it
        · go_wp2_with (go_at_call 104; refine (isId_any bx id it _ _ _ _ _ _ _ (HBX.out.alloc _)).mono ?_; rw [hp]; rintro e w2 ⟨rfl, hb2⟩; have HB2 : Hid (Below wr.heap.size wr w2) := ((below_alloc _ _).trans (hb2.mono (by rw [World.size_alloc]; omega))); have hf2 : ∀ o, w2.frozen? ⟨g, o, none⟩ = false := (fun o => ((bcell HB2.out).2 g o hgl).trans (hf o)); obtain ⟨m0, m1⟩ := (Blk.new wr [.int .i64 it.id, .int .i64 it.turn, .int .i64 it.tries, .bool it.out, .int .i64 it.due, .slice pa it.note.props.length pc, .slice qa it.note.body.length qc] 78 |>.below hb2 (by simp)).b7; obtain ⟨u0, v0⟩ := old.out w2 HB2.out 0 (by omega); obtain ⟨u1, v1⟩ := old.out w2 HB2.out 1 (by omega); obtain ⟨u2, v2⟩ := old.out w2 HB2.out 2 (by omega); obtain ⟨u3, v3⟩ := old.out w2 HB2.out 3 (by omega); obtain ⟨u4, v4⟩ := old.out w2 HB2.out 4 (by omega); obtain ⟨u5, v5⟩ := old.out w2 HB2.out 5 (by omega); obtain ⟨u6, v6⟩ := old.out w2 HB2.out 6 (by omega); rw [Nat.add_zero] at v0; clear hb2)
          have hNEW := (HI.out.on HB2.out).keep HNN.out hjL (by rw [← HIT.out]; exact hp)
          rw [HPQ.out, ← HIT.out] at hNEW
          unfold put7 at hNEW
          go_roundw
          case rel => exact ⟨ki + 1, kj + 1, by go_num, by go_num, by omega, by omega, _, hNEW⟩
          case measure => simp [intOf]; omega
        · go_wp2_with (go_at_call 104; refine (isId_any bx id it _ _ _ _ _ _ _ (HBX.out.alloc _)).mono ?_; rw [hp]; rintro e w2 ⟨rfl, hb2⟩; have HB2 : Hid (Below wr.heap.size wr w2) := ((below_alloc _ _).trans (hb2.mono (by rw [World.size_alloc]; omega))); clear hb2)
          have hNEW := (HI.out.on HB2.out).skip hjL (by rw [← HIT.out]; exact hp)
          go_roundw
          case rel => exact ⟨ki, kj + 1, rfl, by go_num, by omega, by omega, _, hNEW⟩
          case measure => simp [intOf]; omega
      · obtain rfl : kj = n := by omega
        obtain ⟨m, hm⟩ : ∃ m, kj = ki + m := ⟨kj - ki, by omega⟩
        obtain ⟨g', cap', cur, e, hbg', hcur, hnc, hcm, hcs, htk⟩ : ∃ g' cap' cur, Value.slice (some ⟨g, 0, none⟩) kj xc = .slice (some ⟨g', 0, none⟩) kj cap' ∧ base ≤ g' ∧ wr.heap[g']? = some (.cells cur 78 (0, 0)) ∧ kj ≤ cap' ∧ cap' ≤ maxLen ∧ cur.size = cap' * 7 ∧ cur.toList.take (kj * 7) = cellsI Lr := by
          rcases hown.2 with ⟨h, -⟩ | h
          · simp at h
          · exact h
        simp only [Value.slice.injEq, Option.some.injEq, Addr.mk.injEq, and_true, true_and] at e
        obtain ⟨rfl, rfl⟩ := e
        obtain ⟨z, hzl, hclr⟩ : ∃ z : List Value, z.length = m * 7 ∧ ∀ ty, (Builtin.clear_ #[74] ty #[.slice (some ⟨g, ki * 7, none⟩) m (xc - ki)]).run Try.prog wr = .ok (.tuple #[]) (wr.setRow g (cur.toList.take (ki * 7) ++ z ++ cur.toList.drop (ki * 7 + m * 7)).toArray) := by
          obtain ⟨z, hz, hc⟩ := run_clear7m wr 0 g (ki * 7) m (xc - ki) (by omega) cur hcur (by omega)
          exact ⟨z, hz, fun ty => hc⟩
        have HC : Hid (∀ ty, (Builtin.clear_ #[74] ty #[.slice (some ⟨g, ki * 7, none⟩) m (xc - ki)]).run Try.prog wr = .ok (.tuple #[]) (wr.setRow g (cur.toList.take (ki * 7) ++ z ++ cur.toList.drop (ki * 7 + m * 7)).toArray)) := hclr
        have hne : ¬ xc = ki := by omega
        have hki : ki ≤ kj := by omega
        have hkx : ki ≤ xc := by omega
        clear hI hown hclr
        go_wp2_with (simp only [HC.out])
        have hI := HI.out
        have hfl : L.filter (fun x => !idB id x.1) = Lr.take ki := by
          rw [hI.head, List.take_of_length_le (by have := HNN.out; omega)]
        have hfn : (L.filter (fun x => !idB id x.1)).length = ki := by
          rw [hfl, List.length_take, hI.len, ← HNN.out]; omega
        go_ret
        refine ⟨.slice (some ⟨g, 0, none⟩) ki xc, rfl, ?_, rfl, ?_⟩
        · rw [hfn, hfl]
          refine ⟨by rw [cellsI_len, List.length_take, hI.len, ← HNN.out]; omega, .inr ⟨g, xc, _, rfl, hbg', setRow_heap wr g _ _ 78 _ hcur, hkx, hcm, ?_, ?_⟩⟩
          · have : cur.toList.length = xc * 7 := by simpa using hcs
            simp [hzl, this]; omega
          · rw [← cellsI_take Lr ki (by rw [hI.len, ← HNN.out]; omega), ← htk, List.take_take, Nat.min_eq_left (by omega)]
            have : cur.toList.length = xc * 7 := by simpa using hcs
            simp only [List.append_assoc]
            rw [List.take_append_of_le_length (by simp [hcs]; omega), List.take_take, Nat.min_self]
        · refine grownBy_trans hI.grow ⟨rfl, rfl, rfl, by simp, fun b hb hne => setRow_other wr g b _ (fun e => hne (by rw [e]; rfl))⟩
set_option maxRecDepth 100000 in
set_option maxHeartbeats 1000000 in
theorem withoutId_any (base : Nat) (id : Int) (v : Value) (L : ItL) (w : World) (S : Nat → Prop) (ho : w.ownsRow base 78 7 v L.length (cellsI L)) (hn : ∀ x ∈ L, NoteIs S w x.2 x.1.note) (hS : ∀ b, S b → b < w.heap.size) (hlen : L.length ≤ 4194304) :
    Calls Try.prog 81 #[v, .int .i64 id] w fun e w' => ∃ v', e = .returned v' ∧ w'.ownsRow base 78 7 v' (L.filter (fun x => !idB id x.1)).length (cellsI (L.filter (fun x => !idB id x.1))) ∧ v'.ownBlock = v.ownBlock ∧ w.grownBy w' v.ownBlock := by
  have HD : Hid (Calls Try.prog 103 #[v, .func (.func 104) #[] #[.pointer (some ⟨w.heap.size, 0, none⟩)]] (w.alloc (.cells #[.int .i64 id] 3)) fun e w' => ∃ v', e = .returned v' ∧ w'.ownsRow base 78 7 v' (L.filter (fun x => !idB id x.1)).length (cellsI (L.filter (fun x => !idB id x.1))) ∧ v'.ownBlock = v.ownBlock ∧ (w.alloc (.cells #[.int .i64 id] 3)).grownBy w' v.ownBlock) :=
    deleteFunc_any base w.heap.size id v L _ S (ho.alloc _) (fun x hx => (hn x hx).sub fun b hb => ⟨hb, Below.heap_alloc _ _ _ (hS b hb)⟩) (fun b hb => by have := hS b hb; simp; omega) (Blk.new _ _ _) (fun e => by have := (ho.lt _ e).2; omega) hlen
  have HL : Hid (∃ a c, v = .slice a L.length c) := by obtain ⟨a, c, e, -⟩ := own_shape ho; exact ⟨a, c, e⟩
  obtain ⟨va, vc, rfl⟩ := HL.out
  clear ho hn hS HL
  go_enter Try.func81, Try.ntmps81
  go_wp2_with (go_at_call 103; refine HD.out.mono ?_; rintro e w1 ⟨v', rfl, h1, h2, h3⟩)
  go_ret
  exact ⟨_, rfl, h1, h2, grownBy_trans (World.grownBy_alloc _ _ _) h3⟩
end Go.Proofs.Ytkddkpdfeeikhaa
