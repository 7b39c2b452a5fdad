/-
  Halls and entries: plain data, and how they lie in memory.
-/
import Derived.Test.YtkddkpdfeeikhaaBack
import Derived.Test.YtkddkpdfeeikhaaJShortProofM07
import Derived.Laws.OwnMore
namespace Go.Proofs.Ytkddkpdfeeikhaa
open Go.RowKit
set_option linter.unusedVariables false
set_option linter.unusedSimpArgs false

theorem flat_len {α : Type} (f : α → List Value) (n : Nat) (hf : ∀ x, (f x).length = n) (L : List α) : (L.flatMap f).length = L.length * n := by
  induction L with
  | nil => simp
  | cons x r ih => simp [List.flatMap_cons, hf, ih, Nat.succ_mul]; omega

theorem flat_at {α : Type} (f : α → List Value) (n : Nat) (hf : ∀ x, (f x).length = n) (L : List α) (k j : Nat) (hk : k < L.length) (hj : j < n) : (L.flatMap f)[k * n + j]? = (f L[k])[j]? := by
  induction L generalizing k with
  | nil => simp at hk
  | cons x r ih =>
    rw [List.flatMap_cons]
    cases k with
    | zero => rw [List.getElem?_append_left (by rw [hf]; omega)]; simp
    | succ k =>
      rw [List.getElem?_append_right (by rw [hf, Nat.succ_mul]; omega), List.getElem_cons_succ, ← ih k (by simpa using hk), hf]
      congr 1
      rw [Nat.succ_mul]; omega

theorem flat_take {α : Type} (f : α → List Value) (n : Nat) (hf : ∀ x, (f x).length = n) (L : List α) (i : Nat) (hi : i ≤ L.length) : (L.flatMap f).take (i * n) = (L.take i).flatMap f := by
  have e : L.flatMap f = (L.take i).flatMap f ++ (L.drop i).flatMap f := by rw [← List.flatMap_append, List.take_append_drop]
  rw [e, List.take_append_of_le_length (by rw [flat_len f n hf]; simp [Nat.min_eq_left hi]), List.take_of_length_le (by rw [flat_len f n hf]; simp [Nat.min_eq_left hi])]
theorem flat_drop {α : Type} (f : α → List Value) (n : Nat) (hf : ∀ x, (f x).length = n) (L : List α) (i : Nat) (hi : i ≤ L.length) : (L.flatMap f).drop (i * n) = (L.drop i).flatMap f := by
  have e : L.flatMap f = (L.take i).flatMap f ++ (L.drop i).flatMap f := by rw [← List.flatMap_append, List.take_append_drop]
  rw [e, List.drop_append_of_le_length (by rw [flat_len f n hf]; simp [Nat.min_eq_left hi]), List.drop_of_length_le (by rw [flat_len f n hf]; simp [Nat.min_eq_left hi])]
  simp

/-- A queue. -/
structure QD where
  name : ByteArray
  limit : Int
  items : List IT
/-- A hall. -/
structure HD where
  queues : List QD
  next : Int
/-- An entry. -/
structure ED where
  kind : Int
  queue : ByteArray
  n : Int
  id : Int
  note : ND

def QD.cells (q : QD) (v : Value) : List Value := [.string q.name, .int .i64 q.limit, v]
def ED.cells (e : ED) (p : Value × Value) : List Value := [.int .i64 e.kind, .string e.queue, .int .i64 e.n, .int .i64 e.id, p.1, p.2]

abbrev QuL := List (QD × Value)
abbrev EnL := List (ED × (Value × Value))
def cellsQ (L : QuL) : List Value := L.flatMap fun x => x.1.cells x.2
def cellsE (L : EnL) : List Value := L.flatMap fun x => x.1.cells x.2
theorem cellsQ_len (L : QuL) : (cellsQ L).length = L.length * 3 := flat_len _ 3 (fun _ => rfl) L
theorem cellsE_len (L : EnL) : (cellsE L).length = L.length * 6 := flat_len _ 6 (fun _ => rfl) L
theorem cellsQ_at (L : QuL) (k j : Nat) (hk : k < L.length) (hj : j < 3) : (cellsQ L)[k * 3 + j]? = (L[k].1.cells L[k].2)[j]? := flat_at _ 3 (fun _ => rfl) L k j hk hj
theorem cellsE_at (L : EnL) (k j : Nat) (hk : k < L.length) (hj : j < 6) : (cellsE L)[k * 6 + j]? = (L[k].1.cells L[k].2)[j]? := flat_at _ 6 (fun _ => rfl) L k j hk hj
theorem cellsQ_append (A B : QuL) : cellsQ (A ++ B) = cellsQ A ++ cellsQ B := by simp [cellsQ]
theorem cellsE_append (A B : EnL) : cellsE (A ++ B) = cellsE A ++ cellsE B := by simp [cellsE]

def SliceQL (S : Nat → Prop) (w : World) (v : Value) (L : QuL) : Prop := SliceV S w v L.length (cellsQ L) ∧ ∀ x ∈ L, SliceI S w x.2 x.1.items
/-- A slice that reads as queues. -/
def SliceQ (S : Nat → Prop) (w : World) (v : Value) (qs : List QD) : Prop := ∃ L : QuL, L.map Prod.fst = qs ∧ SliceQL S w v L
def SliceEL (S : Nat → Prop) (w : World) (v : Value) (L : EnL) : Prop := SliceV S w v L.length (cellsE L) ∧ ∀ x ∈ L, NoteIs S w x.2 x.1.note
/-- A slice that reads as entries. -/
def SliceE (S : Nat → Prop) (w : World) (v : Value) (es : List ED) : Prop := ∃ L : EnL, L.map Prod.fst = es ∧ SliceEL S w v L

theorem SliceQL.sub {S T : Nat → Prop} {w w' : World} {v : Value} {L : QuL} (h : SliceQL S w v L) (hb : ∀ k, S k → T k ∧ w'.heap[k]? = w.heap[k]?) : SliceQL T w' v L := ⟨h.1.sub hb, fun x hx => (h.2 x hx).sub hb⟩
theorem SliceQ.sub {S T : Nat → Prop} {w w' : World} {v : Value} {qs : List QD} (h : SliceQ S w v qs) (hb : ∀ k, S k → T k ∧ w'.heap[k]? = w.heap[k]?) : SliceQ T w' v qs := by
  obtain ⟨L, e, h⟩ := h
  exact ⟨L, e, h.sub hb⟩
theorem SliceEL.sub {S T : Nat → Prop} {w w' : World} {v : Value} {L : EnL} (h : SliceEL S w v L) (hb : ∀ k, S k → T k ∧ w'.heap[k]? = w.heap[k]?) : SliceEL T w' v L := ⟨h.1.sub hb, fun x hx => (h.2 x hx).sub hb⟩
theorem SliceE.sub {S T : Nat → Prop} {w w' : World} {v : Value} {es : List ED} (h : SliceE S w v es) (hb : ∀ k, S k → T k ∧ w'.heap[k]? = w.heap[k]?) : SliceE T w' v es := by
  obtain ⟨L, e, h⟩ := h
  exact ⟨L, e, h.sub hb⟩
theorem SliceQ.nil (S : Nat → Prop) (w : World) : SliceQ S w (.slice none 0 0) [] := ⟨[], rfl, SliceV.nil _ _, by simp⟩
theorem SliceE.nil (S : Nat → Prop) (w : World) : SliceE S w (.slice none 0 0) [] := ⟨[], rfl, SliceV.nil _ _, by simp⟩

theorem SliceQ.shp {S : Nat → Prop} {w : World} {v : Value} {qs : List QD} (h : SliceQ S w v qs) : ∃ a cap, v = .slice a qs.length cap := by
  obtain ⟨L, rfl, h, -⟩ := h
  obtain ⟨a, cap, rfl, -⟩ := h.shape
  exact ⟨a, cap, by simp⟩
theorem SliceE.shp {S : Nat → Prop} {w : World} {v : Value} {es : List ED} (h : SliceE S w v es) : ∃ a cap, v = .slice a es.length cap := by
  obtain ⟨L, rfl, h, -⟩ := h
  obtain ⟨a, cap, rfl, -⟩ := h.shape
  exact ⟨a, cap, by simp⟩
theorem SliceQ.shape {S : Nat → Prop} {w : World} {v : Value} {qs : List QD} (h : SliceQ S w v qs) : ∃ a cap, v = .slice a qs.length cap ∧ qs.length ≤ cap ∧ cap ≤ maxLen ∧ (a = none → cap = 0) := by
  obtain ⟨L, rfl, h, -⟩ := h
  obtain ⟨a, cap, rfl, h1, h2, h3⟩ := h.shape
  exact ⟨a, cap, by simp, by simpa using h1, h2, h3⟩
theorem SliceE.shape {S : Nat → Prop} {w : World} {v : Value} {es : List ED} (h : SliceE S w v es) : ∃ a cap, v = .slice a es.length cap ∧ es.length ≤ cap ∧ cap ≤ maxLen ∧ (a = none → cap = 0) := by
  obtain ⟨L, rfl, h, -⟩ := h
  obtain ⟨a, cap, rfl, h1, h2, h3⟩ := h.shape
  exact ⟨a, cap, by simp, by simpa using h1, h2, h3⟩

/-- The k-th queue of a slice. -/
theorem SliceQ.at {S : Nat → Prop} {w : World} {a : Option Addr} {n cap : Nat} {qs : List QD} (h : SliceQ S w (.slice a n cap) qs) (k : Nat) (hk : k < qs.length) :
    ∃ b off ia ic, a = some ⟨b, off, none⟩ ∧ S b ∧ SliceI S w (.slice ia qs[k].items.length ic) qs[k].items ∧ w.cell? ⟨b, off + k * 3, none⟩ = some (.string qs[k].name) ∧ w.cell? ⟨b, off + k * 3 + 1, none⟩ = some (.int .i64 qs[k].limit) ∧ w.cell? ⟨b, off + k * 3 + 2, none⟩ = some (.slice ia qs[k].items.length ic) := by
  obtain ⟨L, rfl, ⟨a', cap', e, _, _, _, h3⟩, hI⟩ := h
  have hk' : k < L.length := by simpa using hk
  simp only [Value.slice.injEq] at e
  obtain ⟨rfl, -, rfl⟩ := e
  have hl := cellsQ_len L
  obtain ⟨b, off, rfl, hs, _⟩ := h3 (k * 3) (by omega)
  have key : ∀ j (hj : j < 3), w.cell? ⟨b, off + k * 3 + j, none⟩ = (L[k].1.cells L[k].2)[j]? := fun j hj => by
    obtain ⟨b', off', e, _, hc⟩ := h3 (k * 3 + j) (by omega)
    simp only [Option.some.injEq, Addr.mk.injEq] at e
    obtain ⟨rfl, rfl, -⟩ := e
    rw [← cellsQ_at L k j hk' hj, List.getElem?_eq_getElem (by omega), ← hc]
    congr 2; omega
  have hi := hI L[k] (List.getElem_mem hk')
  obtain ⟨ia, ic, e2⟩ := hi.shp
  have hg : (L.map Prod.fst)[k] = L[k].1 := by simp
  rw [hg]
  refine ⟨b, off, ia, ic, rfl, hs, ?_, key 0 (by omega), key 1 (by omega), ?_⟩
  · rw [← e2]; exact hi
  · rw [← e2]; exact key 2 (by omega)

/-- The k-th entry of a slice. -/
theorem SliceE.at {S : Nat → Prop} {w : World} {a : Option Addr} {n cap : Nat} {es : List ED} (h : SliceE S w (.slice a n cap) es) (k : Nat) (hk : k < es.length) :
    ∃ b off pa pc qa qc, a = some ⟨b, off, none⟩ ∧ S b ∧ NoteIs S w (.slice pa es[k].note.props.length pc, .slice qa es[k].note.body.length qc) es[k].note ∧ (w.cell? ⟨b, off + k * 6, none⟩ = some (.int .i64 es[k].kind) ∧ w.cell? ⟨b, off + k * 6 + 1, none⟩ = some (.string es[k].queue) ∧ w.cell? ⟨b, off + k * 6 + 2, none⟩ = some (.int .i64 es[k].n) ∧ w.cell? ⟨b, off + k * 6 + 3, none⟩ = some (.int .i64 es[k].id)) ∧
      w.cell? ⟨b, off + k * 6 + 4, none⟩ = some (.slice pa es[k].note.props.length pc) ∧ w.cell? ⟨b, off + k * 6 + 5, none⟩ = some (.slice qa es[k].note.body.length qc) := by
  obtain ⟨L, rfl, ⟨a', cap', e, _, _, _, h3⟩, hI⟩ := h
  have hk' : k < L.length := by simpa using hk
  simp only [Value.slice.injEq] at e
  obtain ⟨rfl, -, rfl⟩ := e
  have hl := cellsE_len L
  obtain ⟨b, off, rfl, hs, _⟩ := h3 (k * 6) (by omega)
  have key : ∀ j (hj : j < 6), w.cell? ⟨b, off + k * 6 + j, none⟩ = (L[k].1.cells L[k].2)[j]? := fun j hj => by
    obtain ⟨b', off', e, _, hc⟩ := h3 (k * 6 + j) (by omega)
    simp only [Option.some.injEq, Addr.mk.injEq] at e
    obtain ⟨rfl, rfl, -⟩ := e
    rw [← cellsE_at L k j hk' hj, List.getElem?_eq_getElem (by omega), ← hc]
    congr 2; omega
  have hn := hI L[k] (List.getElem_mem hk')
  obtain ⟨pa, pc, e1, -⟩ := SliceV.shape hn.1
  obtain ⟨qa, qc, e2, -⟩ := SliceV.shape hn.2
  have hg : (L.map Prod.fst)[k] = L[k].1 := by simp
  rw [hg]
  refine ⟨b, off, pa, pc, qa, qc, rfl, hs, ?_, ⟨key 0 (by omega), key 1 (by omega), key 2 (by omega), key 3 (by omega)⟩, ?_, ?_⟩
  · rw [← e1, ← e2]; exact hn
  · rw [← e1]; exact key 4 (by omega)
  · rw [← e2]; exact key 5 (by omega)

theorem cellsQ_one {S : Nat → Prop} {w : World} (L : QuL) (h : ∀ x ∈ L, SliceI S w x.2 x.1.items) : ∀ u ∈ cellsQ L, u.oneCell' = true := by
  intro u hu
  simp only [cellsQ, List.mem_flatMap] at hu
  obtain ⟨x, hx, hu⟩ := hu
  obtain ⟨a, cap, e⟩ := (h x hx).shp
  simp only [QD.cells, List.mem_cons, List.not_mem_nil, or_false] at hu
  rcases hu with rfl | rfl | rfl
  · rfl
  · rfl
  · rw [e]; rfl
theorem cellsQ_set (L : QuL) (k : Nat) (hk : k < L.length) (q : QD) (v : Value) : cellsQ (L.set k (q, v)) = (((cellsQ L).set (k * 3) (.string q.name)).set (k * 3 + 1) (.int .i64 q.limit)).set (k * 3 + 2) v := by
  have hl := cellsQ_len L
  apply List.ext_getElem?
  intro i
  have hd : i = i / 3 * 3 + i % 3 := by omega
  by_cases hi : i < L.length * 3
  · have hq : i / 3 < L.length := by omega
    rw [hd, cellsQ_at _ _ _ (by simpa using hq) (by omega)]
    have hj : i % 3 = 0 ∨ i % 3 = 1 ∨ i % 3 = 2 := by omega
    by_cases he : i / 3 = k
    · subst he
      rw [List.getElem_set_self]
      rcases hj with h | h | h <;> rw [h] <;> simp [QD.cells, List.getElem?_set, hl] <;> omega
    · rw [List.getElem_set_ne (fun e => he e.symm)]
      rw [← cellsQ_at L (i / 3) (i % 3) hq (by omega)]
      rw [List.getElem?_set_ne (by omega), List.getElem?_set_ne (by omega), List.getElem?_set_ne (by omega)]
  · rw [List.getElem?_eq_none (by rw [cellsQ_len]; simp; omega), List.getElem?_eq_none (by simp [hl]; omega)]

/-- A hall of one's own in the box hb: its row of queues and all items lie in the blocks of P. -/
structure HallIn (P : Nat → Prop) (hb : Nat) (w : World) (v : Value) (L : QuL) (next : Int) : Prop where
  box : Blk w hb [v, .int .i64 next]
  row : w.ownsRow 0 76 3 v L.length (cellsQ L)
  rowP : ∀ b, v.ownBlock = some b → P b
  items : ∀ x ∈ L, SliceI (fun b => P b ∧ v.ownBlock ≠ some b) w x.2 x.1.items
  lt : ∀ b, P b → b < w.heap.size
  nb : ¬ P hb
def HallAt (P : Nat → Prop) (hb : Nat) (w : World) (h : HD) : Prop := ∃ v L, L.map Prod.fst = h.queues ∧ HallIn P hb w v L h.next

theorem own_same {w w' : World} {base : Nat} {e : TypeId} {size : Nat} {v : Value} {n : Nat} {xs : List Value} (h : w.ownsRow base e size v n xs) (hb : ∀ b, v.ownBlock = some b → w'.heap[b]? = w.heap[b]?) : w'.ownsRow base e size v n xs := by
  refine ⟨h.1, ?_⟩
  rcases h.2 with h3 | ⟨g, cap, cur, rfl, hbg, hg, hr⟩
  · exact .inl h3
  · exact .inr ⟨g, cap, cur, rfl, hbg, (hb g rfl).trans hg, hr⟩

theorem HallIn.on {P : Nat → Prop} {hb : Nat} {w W : World} {v : Value} {L : QuL} {next : Int} (h : HallIn P hb w v L next) (hz : w.heap.size ≤ W.heap.size) (hB : ∀ b, (P b ∨ b = hb) → W.heap[b]? = w.heap[b]?) : HallIn P hb W v L next :=
  ⟨h.box.same (hB hb (.inr rfl)), own_same h.row (fun b e => hB b (.inl (h.rowP b e))), h.rowP, fun x hx => (h.items x hx).sub fun b hb => ⟨hb, hB b (.inl hb.1)⟩, fun b hb => Nat.lt_of_lt_of_le (h.lt b hb) hz, h.nb⟩
theorem HallAt.on {P : Nat → Prop} {hb : Nat} {w W : World} {h : HD} (H : HallAt P hb w h) (hz : w.heap.size ≤ W.heap.size) (hB : ∀ b, (P b ∨ b = hb) → W.heap[b]? = w.heap[b]?) : HallAt P hb W h := by
  obtain ⟨v, L, e, h⟩ := H
  exact ⟨v, L, e, h.on hz hB⟩
theorem HallIn.below {P : Nat → Prop} {hb : Nat} {w W : World} {v : Value} {L : QuL} {next : Int} (h : HallIn P hb w v L next) (hB : Below w.heap.size w W) : HallIn P hb W v L next :=
  h.on hB.size fun b hb' => hB.block b (by rcases hb' with hb' | rfl; exact h.lt b hb'; exact h.box.lt)

/-- The row's queues read as they are. -/
theorem HallIn.slice {P : Nat → Prop} {hb : Nat} {w : World} {v : Value} {L : QuL} {next : Int} (h : HallIn P hb w v L next) : SliceQ P w v (L.map Prod.fst) :=
  ⟨L, rfl, (own_slice h.row).sub fun k hk => ⟨h.rowP k hk, rfl⟩, fun x hx => (h.items x hx).sub fun b hb => ⟨hb.1, rfl⟩⟩

/-- One queue is another one then. -/
theorem HallIn.put {P : Nat → Prop} {hb : Nat} {w : World} {g n cap : Nat} {L : QuL} {next : Int} (h : HallIn P hb w (.slice (some ⟨g, 0, none⟩) n cap) L next) (hn : n = L.length) (k : Nat) (hk : k < L.length) (q : QD) (v : Value) (N : Nat → Prop) (hN : ∀ b, N b → b < w.heap.size ∧ b ≠ g ∧ b ≠ hb) (hv : SliceI N w v q.items) :
    HallIn (fun b => P b ∨ N b) hb (((w.setCell ⟨g, k * 3, none⟩ (.string q.name)).setCell ⟨g, k * 3 + 1, none⟩ (.int .i64 q.limit)).setCell ⟨g, k * 3 + 2, none⟩ v) (.slice (some ⟨g, 0, none⟩) n cap) (L.set k (q, v)) next := by
  subst hn
  have hgb : g ≠ hb := fun e => h.nb (e ▸ h.rowP g rfl)
  have far : ∀ b, b ≠ g → (((w.setCell ⟨g, k * 3, none⟩ (.string q.name)).setCell ⟨g, k * 3 + 1, none⟩ (.int .i64 q.limit)).setCell ⟨g, k * 3 + 2, none⟩ v).heap[b]? = w.heap[b]? := fun b hb => by
    rw [Below.heap_setCell _ _ _ _ hb, Below.heap_setCell _ _ _ _ hb, Below.heap_setCell _ _ _ _ hb]
  refine ⟨h.box.same (far hb hgb.symm), ?_, fun b e => .inl (h.rowP b e), fun x hx => ?_, fun b hb => by simp; rcases hb with hb | hb; exact h.lt b hb; exact (hN b hb).1, fun e => ?_⟩
  · rw [cellsQ_set L k hk, List.length_set]
    exact (((h.row.stored (k * 3) _).1.stored (k * 3 + 1) _).1.stored (k * 3 + 2) _).1
  · rcases List.mem_or_eq_of_mem_set hx with hx | rfl
    · exact (h.items x hx).sub fun b hb => ⟨⟨.inl hb.1, hb.2⟩, far b (fun e => hb.2 (by rw [e]; rfl))⟩
    · exact hv.sub fun b hb => ⟨⟨.inr hb, fun e => (hN b hb).2.1 (by simp [Value.ownBlock] at e; exact e.symm)⟩, far b (hN b hb).2.1⟩
  · rcases e with e | e
    · exact h.nb e
    · exact (hN hb e).2.2 rfl

end Go.Proofs.Ytkddkpdfeeikhaa
