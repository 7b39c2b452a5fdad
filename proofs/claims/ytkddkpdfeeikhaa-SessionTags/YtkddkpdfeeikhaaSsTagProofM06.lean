/-
  Hall; Each; Find: texts laid together.
-/
import Derived.Test.YtkddkpdfeeikhaaSsTagProofM04
import Derived.Test.YtkddkpdfeeikhaaSsTagProofM05
import Derived.Laws.OwnMore
/-
  Halls and entries: plain data, and how they lie in memory.
-/
namespace Go.Proofs.Ytkddkpdfeeikhaa
open Go.RowKit
set_option linter.unusedVariables false
set_option linter.unusedSimpArgs false

theorem flat_len {α : Type} (f : α → List Value) (n : Nat) (hf : ∀ x, (f x).length = n) (L : List α) : (L.flatMap f).length = L.length * n := by
  induction L with
  | nil => simp
  | cons x r ih => simp [List.flatMap_cons, hf, ih, Nat.succ_mul]; omega

theorem flat_at {α : Type} (f : α → List Value) (n : Nat) (hf : ∀ x, (f x).length = n) (L : List α) (k j : Nat) (hk : k < L.length) (hj : j < n) : (L.flatMap f)[k * n + j]? = (f L[k])[j]? := by
  induction L generalizing k with
  | nil => simp at hk
  | cons x r ih =>
    rw [List.flatMap_cons]
    cases k with
    | zero => rw [List.getElem?_append_left (by rw [hf]; omega)]; simp
    | succ k =>
      rw [List.getElem?_append_right (by rw [hf, Nat.succ_mul]; omega), List.getElem_cons_succ, ← ih k (by simpa using hk), hf]
      congr 1
      rw [Nat.succ_mul]; omega

theorem flat_take {α : Type} (f : α → List Value) (n : Nat) (hf : ∀ x, (f x).length = n) (L : List α) (i : Nat) (hi : i ≤ L.length) : (L.flatMap f).take (i * n) = (L.take i).flatMap f := by
  have e : L.flatMap f = (L.take i).flatMap f ++ (L.drop i).flatMap f := by rw [← List.flatMap_append, List.take_append_drop]
  rw [e, List.take_append_of_le_length (by rw [flat_len f n hf]; simp [Nat.min_eq_left hi]), List.take_of_length_le (by rw [flat_len f n hf]; simp [Nat.min_eq_left hi])]
theorem flat_drop {α : Type} (f : α → List Value) (n : Nat) (hf : ∀ x, (f x).length = n) (L : List α) (i : Nat) (hi : i ≤ L.length) : (L.flatMap f).drop (i * n) = (L.drop i).flatMap f := by
  have e : L.flatMap f = (L.take i).flatMap f ++ (L.drop i).flatMap f := by rw [← List.flatMap_append, List.take_append_drop]
  rw [e, List.drop_append_of_le_length (by rw [flat_len f n hf]; simp [Nat.min_eq_left hi]), List.drop_of_length_le (by rw [flat_len f n hf]; simp [Nat.min_eq_left hi])]
  simp

/-- A queue. -/
structure QD where
  name : ByteArray
  limit : Int
  items : List IT
/-- A hall. -/
structure HD where
  queues : List QD
  next : Int
/-- An entry. -/
structure ED where
  kind : Int
  queue : ByteArray
  n : Int
  id : Int
  note : ND

def QD.cells (q : QD) (v : Value) : List Value := [.string q.name, .int .i64 q.limit, v]
def ED.cells (e : ED) (p : Value × Value) : List Value := [.int .i64 e.kind, .string e.queue, .int .i64 e.n, .int .i64 e.id, p.1, p.2]

abbrev QuL := List (QD × Value)
abbrev EnL := List (ED × (Value × Value))
def cellsQ (L : QuL) : List Value := L.flatMap fun x => x.1.cells x.2
def cellsE (L : EnL) : List Value := L.flatMap fun x => x.1.cells x.2
theorem cellsQ_len (L : QuL) : (cellsQ L).length = L.length * 3 := flat_len _ 3 (fun _ => rfl) L
theorem cellsE_len (L : EnL) : (cellsE L).length = L.length * 6 := flat_len _ 6 (fun _ => rfl) L
theorem cellsQ_at (L : QuL) (k j : Nat) (hk : k < L.length) (hj : j < 3) : (cellsQ L)[k * 3 + j]? = (L[k].1.cells L[k].2)[j]? := flat_at _ 3 (fun _ => rfl) L k j hk hj
theorem cellsE_at (L : EnL) (k j : Nat) (hk : k < L.length) (hj : j < 6) : (cellsE L)[k * 6 + j]? = (L[k].1.cells L[k].2)[j]? := flat_at _ 6 (fun _ => rfl) L k j hk hj
theorem cellsQ_append (A B : QuL) : cellsQ (A ++ B) = cellsQ A ++ cellsQ B := by simp [cellsQ]
theorem cellsE_append (A B : EnL) : cellsE (A ++ B) = cellsE A ++ cellsE B := by simp [cellsE]

def SliceQL (S : Nat → Prop) (w : World) (v : Value) (L : QuL) : Prop := SliceV S w v L.length (cellsQ L) ∧ ∀ x ∈ L, SliceI S w x.2 x.1.items
/-- A slice that reads as queues. -/
def SliceQ (S : Nat → Prop) (w : World) (v : Value) (qs : List QD) : Prop := ∃ L : QuL, L.map Prod.fst = qs ∧ SliceQL S w v L
def SliceEL (S : Nat → Prop) (w : World) (v : Value) (L : EnL) : Prop := SliceV S w v L.length (cellsE L) ∧ ∀ x ∈ L, NoteIs S w x.2 x.1.note
/-- A slice that reads as entries. -/
def SliceE (S : Nat → Prop) (w : World) (v : Value) (es : List ED) : Prop := ∃ L : EnL, L.map Prod.fst = es ∧ SliceEL S w v L

theorem SliceQL.sub {S T : Nat → Prop} {w w' : World} {v : Value} {L : QuL} (h : SliceQL S w v L) (hb : ∀ k, S k → T k ∧ w'.heap[k]? = w.heap[k]?) : SliceQL T w' v L := ⟨h.1.sub hb, fun x hx => (h.2 x hx).sub hb⟩
theorem SliceQ.sub {S T : Nat → Prop} {w w' : World} {v : Value} {qs : List QD} (h : SliceQ S w v qs) (hb : ∀ k, S k → T k ∧ w'.heap[k]? = w.heap[k]?) : SliceQ T w' v qs := by
  obtain ⟨L, e, h⟩ := h
  exact ⟨L, e, h.sub hb⟩
theorem SliceEL.sub {S T : Nat → Prop} {w w' : World} {v : Value} {L : EnL} (h : SliceEL S w v L) (hb : ∀ k, S k → T k ∧ w'.heap[k]? = w.heap[k]?) : SliceEL T w' v L := ⟨h.1.sub hb, fun x hx => (h.2 x hx).sub hb⟩
theorem SliceE.sub {S T : Nat → Prop} {w w' : World} {v : Value} {es : List ED} (h : SliceE S w v es) (hb : ∀ k, S k → T k ∧ w'.heap[k]? = w.heap[k]?) : SliceE T w' v es := by
  obtain ⟨L, e, h⟩ := h
  exact ⟨L, e, h.sub hb⟩
theorem SliceQ.nil (S : Nat → Prop) (w : World) : SliceQ S w (.slice none 0 0) [] := ⟨[], rfl, SliceV.nil _ _, by simp⟩
theorem SliceE.nil (S : Nat → Prop) (w : World) : SliceE S w (.slice none 0 0) [] := ⟨[], rfl, SliceV.nil _ _, by simp⟩

theorem SliceQ.shp {S : Nat → Prop} {w : World} {v : Value} {qs : List QD} (h : SliceQ S w v qs) : ∃ a cap, v = .slice a qs.length cap := by
  obtain ⟨L, rfl, h, -⟩ := h
  obtain ⟨a, cap, rfl, -⟩ := h.shape
  exact ⟨a, cap, by simp⟩
theorem SliceE.shp {S : Nat → Prop} {w : World} {v : Value} {es : List ED} (h : SliceE S w v es) : ∃ a cap, v = .slice a es.length cap := by
  obtain ⟨L, rfl, h, -⟩ := h
  obtain ⟨a, cap, rfl, -⟩ := h.shape
  exact ⟨a, cap, by simp⟩
theorem SliceQ.shape {S : Nat → Prop} {w : World} {v : Value} {qs : List QD} (h : SliceQ S w v qs) : ∃ a cap, v = .slice a qs.length cap ∧ qs.length ≤ cap ∧ cap ≤ maxLen ∧ (a = none → cap = 0) := by
  obtain ⟨L, rfl, h, -⟩ := h
  obtain ⟨a, cap, rfl, h1, h2, h3⟩ := h.shape
  exact ⟨a, cap, by simp, by simpa using h1, h2, h3⟩
theorem SliceE.shape {S : Nat → Prop} {w : World} {v : Value} {es : List ED} (h : SliceE S w v es) : ∃ a cap, v = .slice a es.length cap ∧ es.length ≤ cap ∧ cap ≤ maxLen ∧ (a = none → cap = 0) := by
  obtain ⟨L, rfl, h, -⟩ := h
  obtain ⟨a, cap, rfl, h1, h2, h3⟩ := h.shape
  exact ⟨a, cap, by simp, by simpa using h1, h2, h3⟩

/-- The k-th queue of a slice. -/
theorem SliceQ.at {S : Nat → Prop} {w : World} {a : Option Addr} {n cap : Nat} {qs : List QD} (h : SliceQ S w (.slice a n cap) qs) (k : Nat) (hk : k < qs.length) :
    ∃ b off ia ic, a = some ⟨b, off, none⟩ ∧ S b ∧ SliceI S w (.slice ia qs[k].items.length ic) qs[k].items ∧ w.cell? ⟨b, off + k * 3, none⟩ = some (.string qs[k].name) ∧ w.cell? ⟨b, off + k * 3 + 1, none⟩ = some (.int .i64 qs[k].limit) ∧ w.cell? ⟨b, off + k * 3 + 2, none⟩ = some (.slice ia qs[k].items.length ic) := by
  obtain ⟨L, rfl, ⟨a', cap', e, _, _, _, h3⟩, hI⟩ := h
  have hk' : k < L.length := by simpa using hk
  simp only [Value.slice.injEq] at e
  obtain ⟨rfl, -, rfl⟩ := e
  have hl := cellsQ_len L
  obtain ⟨b, off, rfl, hs, _⟩ := h3 (k * 3) (by omega)
  have key : ∀ j (hj : j < 3), w.cell? ⟨b, off + k * 3 + j, none⟩ = (L[k].1.cells L[k].2)[j]? := fun j hj => by
    obtain ⟨b', off', e, _, hc⟩ := h3 (k * 3 + j) (by omega)
    simp only [Option.some.injEq, Addr.mk.injEq] at e
    obtain ⟨rfl, rfl, -⟩ := e
    rw [← cellsQ_at L k j hk' hj, List.getElem?_eq_getElem (by omega), ← hc]
    congr 2; omega
  have hi := hI L[k] (List.getElem_mem hk')
  obtain ⟨ia, ic, e2⟩ := hi.shp
  have hg : (L.map Prod.fst)[k] = L[k].1 := by simp
  rw [hg]
  refine ⟨b, off, ia, ic, rfl, hs, ?_, key 0 (by omega), key 1 (by omega), ?_⟩
  · rw [← e2]; exact hi
  · rw [← e2]; exact key 2 (by omega)

/-- The k-th entry of a slice. -/
theorem SliceE.at {S : Nat → Prop} {w : World} {a : Option Addr} {n cap : Nat} {es : List ED} (h : SliceE S w (.slice a n cap) es) (k : Nat) (hk : k < es.length) :
    ∃ b off pa pc qa qc, a = some ⟨b, off, none⟩ ∧ S b ∧ NoteIs S w (.slice pa es[k].note.props.length pc, .slice qa es[k].note.body.length qc) es[k].note ∧ (w.cell? ⟨b, off + k * 6, none⟩ = some (.int .i64 es[k].kind) ∧ w.cell? ⟨b, off + k * 6 + 1, none⟩ = some (.string es[k].queue) ∧ w.cell? ⟨b, off + k * 6 + 2, none⟩ = some (.int .i64 es[k].n) ∧ w.cell? ⟨b, off + k * 6 + 3, none⟩ = some (.int .i64 es[k].id)) ∧
      w.cell? ⟨b, off + k * 6 + 4, none⟩ = some (.slice pa es[k].note.props.length pc) ∧ w.cell? ⟨b, off + k * 6 + 5, none⟩ = some (.slice qa es[k].note.body.length qc) := by
  obtain ⟨L, rfl, ⟨a', cap', e, _, _, _, h3⟩, hI⟩ := h
  have hk' : k < L.length := by simpa using hk
  simp only [Value.slice.injEq] at e
  obtain ⟨rfl, -, rfl⟩ := e
  have hl := cellsE_len L
  obtain ⟨b, off, rfl, hs, _⟩ := h3 (k * 6) (by omega)
  have key : ∀ j (hj : j < 6), w.cell? ⟨b, off + k * 6 + j, none⟩ = (L[k].1.cells L[k].2)[j]? := fun j hj => by
    obtain ⟨b', off', e, _, hc⟩ := h3 (k * 6 + j) (by omega)
    simp only [Option.some.injEq, Addr.mk.injEq] at e
    obtain ⟨rfl, rfl, -⟩ := e
    rw [← cellsE_at L k j hk' hj, List.getElem?_eq_getElem (by omega), ← hc]
    congr 2; omega
  have hn := hI L[k] (List.getElem_mem hk')
  obtain ⟨pa, pc, e1, -⟩ := SliceV.shape hn.1
  obtain ⟨qa, qc, e2, -⟩ := SliceV.shape hn.2
  have hg : (L.map Prod.fst)[k] = L[k].1 := by simp
  rw [hg]
  refine ⟨b, off, pa, pc, qa, qc, rfl, hs, ?_, ⟨key 0 (by omega), key 1 (by omega), key 2 (by omega), key 3 (by omega)⟩, ?_, ?_⟩
  · rw [← e1, ← e2]; exact hn
  · rw [← e1]; exact key 4 (by omega)
  · rw [← e2]; exact key 5 (by omega)

theorem cellsQ_one {S : Nat → Prop} {w : World} (L : QuL) (h : ∀ x ∈ L, SliceI S w x.2 x.1.items) : ∀ u ∈ cellsQ L, u.oneCell' = true := by
  intro u hu
  simp only [cellsQ, List.mem_flatMap] at hu
  obtain ⟨x, hx, hu⟩ := hu
  obtain ⟨a, cap, e⟩ := (h x hx).shp
  simp only [QD.cells, List.mem_cons, List.not_mem_nil, or_false] at hu
  rcases hu with rfl | rfl | rfl
  · rfl
  · rfl
  · rw [e]; rfl
theorem cellsE_one {S : Nat → Prop} {w : World} (L : EnL) (h : ∀ x ∈ L, NoteIs S w x.2 x.1.note) : ∀ u ∈ cellsE L, u.oneCell' = true := by
  intro u hu
  simp only [cellsE, List.mem_flatMap] at hu
  obtain ⟨x, hx, hu⟩ := hu
  obtain ⟨pa, pc, e1, -⟩ := SliceV.shape (h x hx).1
  obtain ⟨qa, qc, e2, -⟩ := SliceV.shape (h x hx).2
  simp only [ED.cells, List.mem_cons, List.not_mem_nil, or_false] at hu
  rcases hu with rfl | rfl | rfl | rfl | rfl | rfl
  · rfl
  · rfl
  · rfl
  · rfl
  · rw [e1]; rfl
  · rw [e2]; rfl

theorem cellsQ_set (L : QuL) (k : Nat) (hk : k < L.length) (q : QD) (v : Value) : cellsQ (L.set k (q, v)) = (((cellsQ L).set (k * 3) (.string q.name)).set (k * 3 + 1) (.int .i64 q.limit)).set (k * 3 + 2) v := by
  have hl := cellsQ_len L
  apply List.ext_getElem?
  intro i
  have hd : i = i / 3 * 3 + i % 3 := by omega
  by_cases hi : i < L.length * 3
  · have hq : i / 3 < L.length := by omega
    rw [hd, cellsQ_at _ _ _ (by simpa using hq) (by omega)]
    have hj : i % 3 = 0 ∨ i % 3 = 1 ∨ i % 3 = 2 := by omega
    by_cases he : i / 3 = k
    · subst he
      rw [List.getElem_set_self]
      rcases hj with h | h | h <;> rw [h] <;> simp [QD.cells, List.getElem?_set, hl] <;> omega
    · rw [List.getElem_set_ne (fun e => he e.symm)]
      rw [← cellsQ_at L (i / 3) (i % 3) hq (by omega)]
      rw [List.getElem?_set_ne (by omega), List.getElem?_set_ne (by omega), List.getElem?_set_ne (by omega)]
  · rw [List.getElem?_eq_none (by rw [cellsQ_len]; simp; omega), List.getElem?_eq_none (by simp [hl]; omega)]

/-- A hall of one's own in the box hb: its row of queues and all items lie in the blocks of P. -/
structure HallIn (P : Nat → Prop) (hb : Nat) (w : World) (v : Value) (L : QuL) (next : Int) : Prop where
  box : Blk w hb [v, .int .i64 next]
  row : w.ownsRow 0 76 3 v L.length (cellsQ L)
  rowP : ∀ b, v.ownBlock = some b → P b
  items : ∀ x ∈ L, SliceI (fun b => P b ∧ v.ownBlock ≠ some b) w x.2 x.1.items
  lt : ∀ b, P b → b < w.heap.size
  nb : ¬ P hb
def HallAt (P : Nat → Prop) (hb : Nat) (w : World) (h : HD) : Prop := ∃ v L, L.map Prod.fst = h.queues ∧ HallIn P hb w v L h.next

theorem own_same {w w' : World} {base : Nat} {e : TypeId} {size : Nat} {v : Value} {n : Nat} {xs : List Value} (h : w.ownsRow base e size v n xs) (hb : ∀ b, v.ownBlock = some b → w'.heap[b]? = w.heap[b]?) : w'.ownsRow base e size v n xs := by
  refine ⟨h.1, ?_⟩
  rcases h.2 with h3 | ⟨g, cap, cur, rfl, hbg, hg, hr⟩
  · exact .inl h3
  · exact .inr ⟨g, cap, cur, rfl, hbg, (hb g rfl).trans hg, hr⟩

theorem HallIn.on {P : Nat → Prop} {hb : Nat} {w W : World} {v : Value} {L : QuL} {next : Int} (h : HallIn P hb w v L next) (hz : w.heap.size ≤ W.heap.size) (hB : ∀ b, (P b ∨ b = hb) → W.heap[b]? = w.heap[b]?) : HallIn P hb W v L next :=
  ⟨h.box.same (hB hb (.inr rfl)), own_same h.row (fun b e => hB b (.inl (h.rowP b e))), h.rowP, fun x hx => (h.items x hx).sub fun b hb => ⟨hb, hB b (.inl hb.1)⟩, fun b hb => Nat.lt_of_lt_of_le (h.lt b hb) hz, h.nb⟩
theorem HallAt.on {P : Nat → Prop} {hb : Nat} {w W : World} {h : HD} (H : HallAt P hb w h) (hz : w.heap.size ≤ W.heap.size) (hB : ∀ b, (P b ∨ b = hb) → W.heap[b]? = w.heap[b]?) : HallAt P hb W h := by
  obtain ⟨v, L, e, h⟩ := H
  exact ⟨v, L, e, h.on hz hB⟩
theorem HallIn.below {P : Nat → Prop} {hb : Nat} {w W : World} {v : Value} {L : QuL} {next : Int} (h : HallIn P hb w v L next) (hB : Below w.heap.size w W) : HallIn P hb W v L next :=
  h.on hB.size fun b hb' => hB.block b (by rcases hb' with hb' | rfl; exact h.lt b hb'; exact h.box.lt)

/-- The row's queues read as they are. -/
theorem HallIn.slice {P : Nat → Prop} {hb : Nat} {w : World} {v : Value} {L : QuL} {next : Int} (h : HallIn P hb w v L next) : SliceQ P w v (L.map Prod.fst) :=
  ⟨L, rfl, (own_slice h.row).sub fun k hk => ⟨h.rowP k hk, rfl⟩, fun x hx => (h.items x hx).sub fun b hb => ⟨hb.1, rfl⟩⟩

/-- One queue is another one then. -/
theorem HallIn.put {P : Nat → Prop} {hb : Nat} {w : World} {g n cap : Nat} {L : QuL} {next : Int} (h : HallIn P hb w (.slice (some ⟨g, 0, none⟩) n cap) L next) (hn : n = L.length) (k : Nat) (hk : k < L.length) (q : QD) (v : Value) (N : Nat → Prop) (hN : ∀ b, N b → b < w.heap.size ∧ b ≠ g ∧ b ≠ hb) (hv : SliceI N w v q.items) :
    HallIn (fun b => P b ∨ N b) hb (((w.setCell ⟨g, k * 3, none⟩ (.string q.name)).setCell ⟨g, k * 3 + 1, none⟩ (.int .i64 q.limit)).setCell ⟨g, k * 3 + 2, none⟩ v) (.slice (some ⟨g, 0, none⟩) n cap) (L.set k (q, v)) next := by
  subst hn
  have hgb : g ≠ hb := fun e => h.nb (e ▸ h.rowP g rfl)
  have far : ∀ b, b ≠ g → (((w.setCell ⟨g, k * 3, none⟩ (.string q.name)).setCell ⟨g, k * 3 + 1, none⟩ (.int .i64 q.limit)).setCell ⟨g, k * 3 + 2, none⟩ v).heap[b]? = w.heap[b]? := fun b hb => by
    rw [Below.heap_setCell _ _ _ _ hb, Below.heap_setCell _ _ _ _ hb, Below.heap_setCell _ _ _ _ hb]
  refine ⟨h.box.same (far hb hgb.symm), ?_, fun b e => .inl (h.rowP b e), fun x hx => ?_, fun b hb => by simp; rcases hb with hb | hb; exact h.lt b hb; exact (hN b hb).1, fun e => ?_⟩
  · rw [cellsQ_set L k hk, List.length_set]
    exact (((h.row.stored (k * 3) _).1.stored (k * 3 + 1) _).1.stored (k * 3 + 2) _).1
  · rcases List.mem_or_eq_of_mem_set hx with hx | rfl
    · exact (h.items x hx).sub fun b hb => ⟨⟨.inl hb.1, hb.2⟩, far b (fun e => hb.2 (by rw [e]; rfl))⟩
    · exact hv.sub fun b hb => ⟨⟨.inr hb, fun e => (hN b hb).2.1 (by simp [Value.ownBlock] at e; exact e.symm)⟩, far b (hN b hb).2.1⟩
  · rcases e with e | e
    · exact h.nb e
    · exact (hN hb e).2.2 rfl

/-- The next number is another one then. -/
theorem HallIn.count {P : Nat → Prop} {hb : Nat} {w : World} {v : Value} {L : QuL} {next : Int} (h : HallIn P hb w v L next) (n : Int) : HallIn P hb (w.setCell ⟨hb, 1, none⟩ (.int .i64 n)) v L n := by
  have far : ∀ b, b ≠ hb → (w.setCell ⟨hb, 1, none⟩ (.int .i64 n)).heap[b]? = w.heap[b]? := fun b hb => Below.heap_setCell _ _ _ _ hb
  refine ⟨h.box.set 1 _, own_same h.row (fun b e => far b (fun e' => h.nb (e' ▸ h.rowP b e))), h.rowP, fun x hx => (h.items x hx).sub fun b hb => ⟨hb, far b (fun e => h.nb (e ▸ hb.1))⟩, fun b hb => by simpa using h.lt b hb, h.nb⟩

theorem HallIn.row' {P : Nat → Prop} {hb : Nat} {w : World} {v : Value} {L : QuL} {next : Int} (h : HallIn P hb w v L next) {k : Nat} (hk : k < L.length) : ∃ g cap, v = .slice (some ⟨g, 0, none⟩) L.length cap := by
  rcases h.row.2 with ⟨-, h0⟩ | ⟨g, cap, cur, e, -⟩
  · omega
  · exact ⟨g, cap, e⟩
end Go.Proofs.Ytkddkpdfeeikhaa

/-
  hall.eachOf answers what a function makes of each queue, in new memory; hall.Own.
-/
namespace Go.Proofs.Ytkddkpdfeeikhaa
open Go.RowKit
set_option linter.unusedVariables false
set_option linter.unusedSimpArgs false

attribute [local go_sem ↓] Go.wp_at_zero Go.wp_at_succ

/-- A function that makes a queue of a queue, in new memory. -/
structure Makes (F : Nat) (caps : List Value) (g : QD → QD) : Prop where
  enter : ∀ args W, (callFunc F args).run Try.prog W = .ok (.enter F args) W
  call : ∀ (q : QD) (v : Value) (W : World), smallI q.items → SliceI (Under W.heap.size) W v q.items → Calls Try.prog F (Value.agg #[.string q.name, .int .i64 q.limit, v] :: caps).toArray W fun e w' => ∃ v', e = .returned (.agg #[.string (g q).name, .int .i64 (g q).limit, v']) ∧ SliceI (Made W.heap.size w'.heap.size) w' v' (g q).items ∧ Below W.heap.size W w'

/-- What holds in 'eachOf', behind k queues. -/
structure EI (w : World) (next : Int) (g : QD → QD) (qs : List QD) (k : Nat) (wr : World) (vi : Value) (L' : QuL) : Prop where
  bel : Below w.heap.size w wr
  res : Blk wr (w.heap.size + 1) [.slice none 0 0, .int .i64 0]
  out : Blk wr (w.heap.size + 1 + 1) [vi, .int .i64 next]
  own : wr.ownsRow (w.heap.size + 3) 76 3 vi L'.length (cellsQ L')
  items : ∀ x ∈ L', SliceI (fun b => w.heap.size + 3 ≤ b ∧ b < wr.heap.size ∧ vi.ownBlock ≠ some b) wr x.2 x.1.items
  list : L'.map Prod.fst = (qs.take k).map g

section
variable {w : World} {next : Int} {g : QD → QD} {qs : List QD} {k : Nat} {wr : World} {vi : Value} {L' : QuL}

theorem EI.lt (h : EI w next g qs k wr vi L') : w.heap.size + 3 ≤ wr.heap.size := by have := h.out.lt; omega

theorem EI.on (h : EI w next g qs k wr vi L') {W : World} (hb : Below wr.heap.size wr W) : EI w next g qs k W vi L' := by
  have hl := h.lt
  exact ⟨h.bel.trans (hb.mono h.bel.size), h.res.below hb h.res.lt, h.out.below hb h.out.lt, own_below h.own hb, fun x hx => (h.items x hx).sub fun b hbb => ⟨⟨hbb.1, by have := hb.size; omega, hbb.2.2⟩, hb.block b hbb.2.1⟩, h.list⟩

theorem EI.more (h : EI w next g qs k wr vi L') (hk : k < qs.length) {w1 w2 : World} {v : Value} {o : Obj} {gg cap : Nat}
    (hn : SliceI (Made wr.heap.size w1.heap.size) w1 v (g qs[k]).items) (h1 : Below wr.heap.size wr w1)
    (ho : w2.ownsRow (w.heap.size + 3) 76 3 (.slice (some ⟨gg, 0, none⟩) (L'.length + 1) cap) (L'.length + 1) (cellsQ L' ++ (g qs[k]).cells v)) (hg : (w1.alloc o).grownBy w2 vi.ownBlock) (hat : vi.ownBlock = some gg ∨ gg = w1.heap.size + 1) (hgl : gg < w2.heap.size) :
    EI w next g qs (k + 1) (w2.setCell ⟨w.heap.size + 1 + 1, 0, none⟩ (.slice (some ⟨gg, 0, none⟩) (L'.length + 1) cap)) (.slice (some ⟨gg, 0, none⟩) (L'.length + 1) cap) (L' ++ [(g qs[k], v)]) := by
  have hl := h.lt
  have hz1 := h1.size
  have hz2 : w1.heap.size + 1 ≤ w2.heap.size := by have := hg.size; simp at this; omega
  have hown : ∀ b, vi.ownBlock = some b → w.heap.size + 3 ≤ b ∧ b < wr.heap.size := fun b hb => h.own.lt b hb
  have blk : ∀ b, b < w1.heap.size → vi.ownBlock ≠ some b → w2.heap[b]? = w1.heap[b]? := fun b hb hn => (hg.block b (by simp; omega) (fun e => hn e.symm)).trans (Below.heap_alloc _ _ _ hb)
  have blk' : ∀ b, b < wr.heap.size → vi.ownBlock ≠ some b → w2.heap[b]? = wr.heap[b]? := fun b hb hn => (blk b (by omega) hn).trans (h1.block b hb)
  have blo : ∀ b, b < w.heap.size + 3 → w2.heap[b]? = wr.heap[b]? := fun b hb => blk' b (by omega) (fun e => by have := (hown b e).1; omega)
  have hge : ∀ b, vi.ownBlock ≠ some b → b < w1.heap.size → (Value.slice (some ⟨gg, 0, none⟩) (L'.length + 1) cap).ownBlock ≠ some b := fun b hb hlt e => by
    simp only [Value.ownBlock, Option.some.injEq] at e
    subst e
    rcases hat with h | h
    · exact hb h
    · omega
  refine ⟨⟨?_, ?_, ?_, ?_, fun b hb => ?_⟩, ?_, ?_, ?_, fun x hx => ?_, ?_⟩
  · exact hg.os.trans (h1.os.trans h.bel.os)
  · exact hg.tape.trans (h1.tape.trans h.bel.tape)
  · exact hg.output.trans (h1.output.trans h.bel.output)
  · simp; have := h.bel.size; omega
  · rw [Below.heap_setCell _ _ _ _ (by simp; omega), blo b (by omega)]
    exact h.bel.block b hb
  · exact (h.res.same (blo _ (by omega))).far (by simp) _
  · exact (h.out.same (blo _ (by omega))).set 0 _
  · rw [List.length_append, cellsQ_append]
    have : cellsQ [(g qs[k], v)] = (g qs[k]).cells v := by simp [cellsQ]
    rw [this]
    exact ownsRow_setCell_below ho (by simp) _
  · rw [List.mem_append, List.mem_singleton] at hx
    rcases hx with hx | rfl
    · refine (h.items x hx).sub fun b hb => ⟨⟨hb.1, by simp; omega, hge b hb.2.2 (by omega)⟩, ?_⟩
      rw [Below.heap_setCell _ _ _ _ (by simp; omega), blk' b hb.2.1 hb.2.2]
    · refine hn.sub fun b hb => ?_
      obtain ⟨hb1, hb2⟩ := hb
      have hno : vi.ownBlock ≠ some b := fun e => by have := (hown b e).2; omega
      refine ⟨⟨by omega, by simp; omega, hge b hno hb2⟩, ?_⟩
      rw [Below.heap_setCell _ _ _ _ (by simp; omega), blk b hb2 hno]
  · rw [List.map_append, h.list, List.take_succ_eq_append_getElem hk, List.map_append]
    simp
end

theorem info25 : (Try.prog.info? 76).map (fun i => (i.zero, i.size, i.bytes)) = some (some (.agg #[.string ByteArray.empty, .int .i64 0, .slice none 0 0]), 3, 48) := by kernel_rfl

theorem EI.start (w : World) (next : Int) (g : QD → QD) (qs : List QD) (v : Value) :
    EI w next g qs 0 (((w.alloc (.cells #[v, .int .i64 next] 24)).alloc (.cells #[.slice none 0 0, .int .i64 0] 24)).alloc (.cells #[.slice none 0 0, .int .i64 next] 24)) (.slice none 0 0) [] := by
  have b3 : Below w.heap.size w (((w.alloc (.cells #[v, .int .i64 next] 24)).alloc (.cells #[.slice none 0 0, .int .i64 0] 24)).alloc (.cells #[.slice none 0 0, .int .i64 next] 24)) := ((below_alloc _ _).alloc (by simp) _).alloc (by simp; omega) _
  refine ⟨b3, ?_, ?_, World.ownsRow_nil _ _ _ _, by simp, by simp⟩
  · have := (Blk.new (w.alloc (.cells #[v, .int .i64 next] 24)) [.slice none 0 0, .int .i64 0] 24).alloc (.cells #[.slice none 0 0, .int .i64 next] 24)
    simpa using this
  · have := Blk.new ((w.alloc (.cells #[v, .int .i64 next] 24)).alloc (.cells #[.slice none 0 0, .int .i64 0] 24)) [.slice none 0 0, .int .i64 next] 24
    simpa using this

/-- Queues of one's own: a row that the call made, items in other blocks that it made. -/
def OwnQ (base : Nat) (w : World) (v : Value) (qs : List QD) : Prop :=
  ∃ L : QuL, L.map Prod.fst = qs ∧ w.ownsRow base 76 3 v L.length (cellsQ L) ∧ ∀ x ∈ L, SliceI (fun b => base ≤ b ∧ b < w.heap.size ∧ v.ownBlock ≠ some b) w x.2 x.1.items

def smallQ (qs : List QD) : Prop := qs.length ≤ 4194304 ∧ ∀ q ∈ qs, smallI q.items

set_option maxRecDepth 100000 in
set_option maxHeartbeats 3200000 in
theorem eachOf_any (F : Nat) (caps : List Value) (g : QD → QD) (v : Value) (next : Int) (qs : List QD) (w : World) (hv : SliceQ (Under w.heap.size) w v qs) (hsm : smallQ qs) (hs : Makes F caps g) :
    Calls Try.prog 86 #[.agg #[v, .int .i64 next], .func (.func F) #[] caps.toArray] w fun e w' => ∃ vi, e = .returned (.agg #[vi, .int .i64 next]) ∧ OwnQ w.heap.size w' vi (qs.map g) ∧ Below w.heap.size w w' := by
  obtain ⟨i0, hi0, hz0, hz1, hz2⟩ := info_parts info25
  have HV : Hid (SliceQ (Under w.heap.size) w v qs) := hv
  have HM : Hid (smallQ qs) := hsm
  have HS : Hid (Makes F caps g) := hs
  have HK : Hid (EI w next g qs 0 _ (.slice none 0 0) []) := EI.start w next g qs v
  have hE := hs.enter
  obtain ⟨va, vc, rfl, h1, h2, h3⟩ := hv.shape
  have hlen := hsm.1
  unfold maxLen at h2
  clear hv hsm hs
  go_enter Try.func86, Try.ntmps86
  go_wp2
  go_loopw [14] (fun i wr => ∃ k : Nat, k ≤ qs.length ∧ i = .int .i64 k ∧ ∃ vi L', EI w next g qs k wr vi L')
    (fun i _ => qs.length - (intOf i).toNat)
  case atStart => exact ⟨0, Nat.zero_le _, rfl, _, _, HK.out⟩
  case round =>
    obtain ⟨k, hk, rfl, vi, L', hI⟩ := hrel
    clear HK
    have hL' : L'.length ≤ k := by
      have := congrArg List.length hI.list
      simp at this
      omega
    by_cases hlt : k < qs.length
    · obtain ⟨b, off, ia, ic, rfl, hS, hq, c0, c1, c2⟩ := (SliceQ.sub (T := Under w.heap.size) HV.out (fun b hb => ⟨hb, hI.bel.block b hb⟩)).at k hlt
      have HQ : Hid (SliceI (Under w.heap.size) wr (.slice ia qs[k].items.length ic) qs[k].items) := hq
      have hsm := HM.out.2 qs[k] (List.getElem_mem hlt)
      have HI : Hid (EI w next g qs k (wr.alloc (.cells #[.string qs[k].name, .int .i64 qs[k].limit, .slice ia qs[k].items.length ic] 76)) vi L') := hI.on (below_alloc _ _)
      have hl := hI.lt
      obtain ⟨o0, o1, o2, o3⟩ := (hI.out.alloc (.cells #[.string qs[k].name, .int .i64 qs[k].limit, .slice ia qs[k].items.length ic] 76)).b2
      have HI0 : Hid (EI w next g qs k wr vi L') := hI
      clear hI hq
      obtain ⟨q, hqe⟩ : ∃ q, q = qs[k] := ⟨_, rfl⟩
      rw [← hqe] at c0 c1 c2 HQ hsm HI o0 o1 o2 o3
      have HQE : Hid (q = qs[k]) := hqe
      clear hqe
      go_wp2_with fail
      go_region_law (first
          | (go_simp; (with_reducible show Calls Try.prog F _ _ _); refine (HS.out.call q _ _ hsm ?_).mono ?_; (exact HQ.out.sub fun b hb => ⟨Nat.lt_of_lt_of_le hb (by simp; omega), Below.heap_alloc _ _ _ (Nat.lt_of_lt_of_le hb (by omega))⟩); rintro e w2 ⟨v2, rfl, hn2, hb2⟩; obtain ⟨xa, xc, rfl⟩ := hn2.shp; have HI2 : Hid (EI w next g qs k w2 vi L') := HI.out.on ⟨hb2.os, hb2.tape, hb2.output, hb2.size, hb2.block⟩; obtain ⟨r0, r1, r2, r3⟩ := HI2.out.out.b2)
          | (refine step_append_lies _ (by rfl) _ _ _ (by rfl) (w.heap.size + 3) 76 i0 _ 3 48 Try.underlying22 hi0 hz0 hz1 hz2 rfl (by omega) vi L'.length (cellsQ L') (by rfl) (own_below HI2.out.own (below_alloc _ _)) ⟨w2.heap.size, 0, none⟩ 1 1 ((g q).cells (.slice xa (g q).items.length xc)) (by rfl) (by rfl) (World.news_of_block (cs := #[.string (g q).name, .int .i64 (g q).limit, .slice xa (g q).items.length xc]) (t := 76) (fr := (0, 0)) (heap_alloc_new w2 _)) (by simp [QD.cells, Value.oneCell']) (by omega) (by unfold maxLen; omega) (by omega) (by simp; omega) (w2.heap.size + 1) (by simp) ?_; intro gg cap w3 hown3 hg3 hat3 hlt3; obtain ⟨t0, t1, t2, t3⟩ := ((HI2.out.out.alloc _).same (hg3.block _ (by simp; omega) (fun e => by have := (HI2.out.own.lt _ e.symm).1; omega))).b2))
      all_goals
        have hb2' : Below wr.heap.size wr w2 := (below_alloc _ _).trans (Below.mono (B := wr.heap.size + 1) ⟨hb2.os, hb2.tape, hb2.output, hb2.size, fun b hb => hb2.block b (by simpa using hb)⟩ (by omega))
        have RR : EI w next g qs (k + 1) _ _ _ := HI0.out.more hlt (HQE.out ▸ hn2.sub fun b hb => ⟨⟨by have := hb.1; simp at this; omega, hb.2⟩, rfl⟩) hb2' (HQE.out ▸ hown3) hg3 hat3 hlt3
        clear hg3 hat3 hlt3 hown3 HI2 hn2 hb2 hb2'
        go_wp2
        go_roundw
        case rel => exact ⟨k + 1, by omega, by go_num, _, _, RR⟩
        case measure => simp [intOf]; omega
    · obtain ⟨o0, o1, o2, o3⟩ := hI.out.b2
      obtain ⟨r0, r1, r2, r3⟩ := hI.res.b2
      obtain ⟨xa, xc, rfl, -⟩ := own_shape hI.own
      obtain rfl : k = qs.length := by omega
      have HI : Hid (EI w next g qs qs.length wr (.slice xa L'.length xc) L') := hI
      clear hI
      go_wp2
      have hl := HI.out.lt
      refine bodyPost_ret (v := .agg #[.slice xa L'.length xc, .int .i64 next]) (by simp [results, Try.results86, go_sem, *]; done) rfl ⟨_, rfl, ⟨L', ?_, ?_, fun x hx => ?_⟩, ?_⟩
      · have := HI.out.list
        rwa [List.take_of_length_le (Nat.le_refl _)] at this
      · refine own_mono (base := w.heap.size + 3) ?_ (by omega)
        iterate 2 refine ownsRow_setCell_below ?_ (by simp) _
        exact HI.out.own
      · refine (HI.out.items x hx).sub fun b hb => ?_
        refine ⟨⟨by omega, by simpa using hb.2.1, hb.2.2⟩, ?_⟩
        iterate 2 rw [Below.heap_setCell _ _ _ _ (by simp; omega)]
      · iterate 2 refine Below.setCell ?_ (by simp) _
        exact HI.out.bel

theorem enter47 (args : Array Value) (W : World) : (callFunc 87 args).run Try.prog W = .ok (.enter 87 args) W := by go_simp

theorem own_makes : Makes 87 [] id :=
  ⟨enter47, fun q v W hs hv => (own_any v q.name q.limit q.items W hv hs).mono fun e w' ⟨vi, h1, h2, h3⟩ => ⟨vi, h1, h2.made, h3⟩⟩

set_option maxRecDepth 100000 in
set_option maxHeartbeats 1000000 in
theorem hallOwn_any (v : Value) (h : HD) (w : World) (hv : SliceQ (Under w.heap.size) w v h.queues) (hsm : smallQ h.queues) :
    Calls Try.prog 55 #[.agg #[v, .int .i64 h.next]] w fun e w' => ∃ vi, e = .returned (.agg #[vi, .int .i64 h.next]) ∧ OwnQ w.heap.size w' vi h.queues ∧ Below w.heap.size w w' := by
  have HV : Hid (SliceQ (Under w.heap.size) w v h.queues) := hv
  have HM : Hid (smallQ h.queues) := hsm
  obtain ⟨va, vc, rfl⟩ := hv.shp
  clear hv hsm
  have two : Hid (∀ o1 o2 : Obj, Below w.heap.size w ((w.alloc o1).alloc o2)) := fun o1 o2 => (below_alloc _ _).alloc (by simp) _
  go_enter Try.func55, Try.ntmps55
  go_wp2_with (go_at_call 86; refine (eachOf_any 87 [] id _ h.next h.queues _ (HV.out.sub fun k hk => ⟨?_, (two.out _ _).block k hk⟩) HM.out own_makes).mono ?_; (simp [Under] at hk ⊢; omega); rintro e w1 ⟨vi, rfl, ho1, hb1⟩; rw [List.map_id] at ho1; have ho1' := ho1; obtain ⟨L, hL, hr, hn⟩ := ho1; obtain ⟨xa, xc, rfl, -⟩ := own_shape hr; obtain ⟨b0, b1, b2, b3⟩ := ((Blk.new (w.alloc _) _ 24).below hb1 (by simp)).b2; simp only [World.size_alloc] at b0 b1 b2 b3)
  refine bodyPost_ret (v := .agg #[.slice xa L.length xc, .int .i64 h.next]) (by simp [results, Try.results55, go_sem, *]; done) rfl ⟨_, rfl, ⟨L, hL, ?_, fun x hx => ?_⟩, ?_⟩
  · refine own_mono (base := w.heap.size + 2) ?_ (by omega)
    iterate 2 refine ownsRow_setCell_below ?_ (by simp) _
    exact own_mono hr (by simp)
  · refine (hn x hx).sub fun b hb => ?_
    have h1 := hb.1
    simp at h1
    refine ⟨⟨by omega, by simpa using hb.2.1, hb.2.2⟩, ?_⟩
    iterate 2 rw [Below.heap_setCell _ _ _ _ (by simp; omega)]
  · iterate 2 refine Below.setCell ?_ (by simp) _
    exact (two.out _ _).trans (hb1.mono (by simp; omega))

theorem OwnQ.slice {base : Nat} {w : World} {v : Value} {qs : List QD} (h : OwnQ base w v qs) : SliceQ (Made base w.heap.size) w v qs := by
  obtain ⟨L, e, h1, h2⟩ := h
  exact ⟨L, e, (own_slice h1).sub fun k hk => ⟨h1.lt k hk, rfl⟩, fun x hx => (h2 x hx).sub fun b hb => ⟨⟨hb.1, hb.2.1⟩, rfl⟩⟩
/-- A box for it. -/
theorem OwnQ.box {base : Nat} {w : World} {v : Value} {h : HD} (H : OwnQ base w v h.queues) : ∃ L : QuL, L.map Prod.fst = h.queues ∧ HallIn (Made base w.heap.size) w.heap.size (w.alloc (.cells #[v, .int .i64 h.next] 24)) v L h.next := by
  obtain ⟨L, e, h1, h2⟩ := H
  refine ⟨L, e, Blk.new _ _ _, (own_mono h1 (Nat.zero_le _)).alloc _, fun b hb => h1.lt b hb, fun x hx => (h2 x hx).sub fun b hb => ⟨⟨⟨hb.1, hb.2.1⟩, hb.2.2⟩, Below.heap_alloc _ _ _ hb.2.1⟩, fun b hb => by have := hb.2; simp; omega, fun hb => by have := hb.2; omega⟩
end Go.Proofs.Ytkddkpdfeeikhaa

/-
  hall.Find tells the place of a queue.
-/
namespace Go.Proofs.Ytkddkpdfeeikhaa
open Go.RowKit
set_option linter.unusedVariables false
set_option linter.unusedSimpArgs false

attribute [local go_sem ↓] Go.wp_at_zero Go.wp_at_succ

/-- Whether a queue has this name. -/
def nameB (name : ByteArray) (q : QD) : Bool := q.name.toList == name.toList
theorem bytes_inj {a b : ByteArray} (h : a.toList = b.toList) : a = b := by
  rw [ByteArray.toList_eq, ByteArray.toList_eq] at h
  exact ByteArray.ext (Array.toList_inj.1 h)
theorem nameB_eq {name : ByteArray} {q : QD} (h : nameB name q = true) : q.name = name := bytes_inj (by simpa [nameB] using h)
theorem nameB_self (q : QD) : nameB q.name q = true := by simp [nameB]
/-- The place of the first that fits; else -1. -/
def idxQ (name : ByteArray) (qs : List QD) : Int := match qs.findIdx? (nameB name) with
  | some k => (k : Int)
  | none => -1

theorem idxQ_yes (name : ByteArray) (qs : List QD) (k : Nat) (hk : k < qs.length) (hn : ∀ x ∈ qs.take k, nameB name x = false) (hp : nameB name qs[k] = true) : idxQ name qs = k := by
  have : qs.findIdx? (nameB name) = some k := by
    rw [List.findIdx?_eq_some_iff_getElem]
    refine ⟨hk, hp, fun j hj => ?_⟩
    have := hn qs[j] (by rw [List.mem_take_iff_getElem]; exact ⟨j, by omega, rfl⟩)
    simpa using this
  simp [idxQ, this]
theorem idxQ_no (name : ByteArray) (qs : List QD) (hn : ∀ x ∈ qs, nameB name x = false) : idxQ name qs = -1 := by
  have : qs.findIdx? (nameB name) = none := by
    rw [List.findIdx?_eq_none_iff]
    exact hn
  simp [idxQ, this]
theorem idxQ_cases (name : ByteArray) (qs : List QD) : (idxQ name qs = -1 ∧ ∀ x ∈ qs, nameB name x = false) ∨ ∃ k, ∃ h : k < qs.length, idxQ name qs = (k : Int) ∧ qs[k].name = name ∧ ∀ j (hj : j < k), nameB name (qs[j]'(by omega)) = false := by
  cases h : qs.findIdx? (nameB name) with
  | none =>
    rw [List.findIdx?_eq_none_iff] at h
    exact .inl ⟨idxQ_no _ _ h, h⟩
  | some k =>
    have h' := h
    rw [List.findIdx?_eq_some_iff_getElem] at h
    obtain ⟨hk, hp, hn⟩ := h
    exact .inr ⟨k, hk, by simp [idxQ, h'], nameB_eq hp, fun j hj => by simpa using hn j hj⟩

set_option maxHeartbeats 1000000 in
theorem nameIs_tells (g : Nat) (name : ByteArray) (q : QD) (a : Option Addr) (n c : Nat) (W : World) (hg : Blk W g [.string name]) :
   Calls Try.prog 163 #[.agg #[.string q.name, .int .i64 q.limit, .slice a n c], .pointer (some ⟨g, 0, none⟩)] W fun e w' => e = .returned (.bool (nameB name q)) ∧ Below W.heap.size W w' := by
  obtain ⟨c0, c1, c2⟩ := hg.b1
  obtain ⟨qn, ql, qi⟩ := q
  simp only [nameB]
  go_enter Try.func163, Try.ntmps163
  go_wp2
  go_ret
  exact ⟨rfl, below_alloc _ _⟩

set_option maxRecDepth 100000 in
set_option maxHeartbeats 3200000 in
theorem indexQ_any (g : Nat) (name : ByteArray) (v : Value) (qs : List QD) (w : World) (h : SliceQ (Under w.heap.size) w v qs) (hg : Blk w g [.string name]) :
    Calls Try.prog 162 #[v, .func (.func 163) #[] #[.pointer (some ⟨g, 0, none⟩)]] w fun e w' => e = .returned (.int .i64 (idxQ name qs)) ∧ Below w.heap.size w w' := by
  have HL : Hid (SliceQ (Under w.heap.size) w v qs) := h
  have HG : Hid (Blk w g [.string name]) := hg
  have hgl := hg.lt
  obtain ⟨va, vc, rfl, h1, h2, h3⟩ := h.shape
  unfold maxLen at h2
  clear h hg
  go_enter Try.func162, Try.ntmps162
  go_wp2
  go_loopw [8] (fun i wr => ∃ k : Nat, k ≤ qs.length ∧ i = .int .i64 k ∧ Below w.heap.size w wr ∧ ∀ x ∈ qs.take k, nameB name x = false)
    (fun i _ => qs.length - (intOf i).toNat)
  case atStart => exact ⟨0, Nat.zero_le _, rfl, Below.refl _ _, by simp⟩
  case round =>
    obtain ⟨k, hk, rfl, hb, hno⟩ := hrel
    have HN : Hid (∀ x ∈ qs.take k, nameB name x = false) := hno
    clear hno
    by_cases hlt : k < qs.length
    · obtain ⟨b, off, ia, ic, rfl, hS, hq, c0, c1, c2⟩ := (SliceQ.sub (T := Under w.heap.size) HL.out (fun b hb' => ⟨hb', hb.block b hb'⟩)).at k hlt
      clear hq
      cases hp : nameB name qs[k]
      · go_wp2_with (go_at_call 163; refine (nameIs_tells g name qs[k] _ _ _ _ (HG.out.below hb hgl)).mono ?_; rw [hp]; rintro e w1 ⟨rfl, hb1⟩)
        go_roundw
        case rel =>
          refine ⟨k + 1, by omega, by go_num, hb.trans (hb1.mono hb.size), fun x hx => ?_⟩
          rw [List.take_succ_eq_append_getElem hlt, List.mem_append, List.mem_singleton] at hx
          rcases hx with hx | rfl
          · exact HN.out x hx
          · exact hp
        case measure => simp [intOf]; omega
      · go_wp2_with (go_at_call 163; refine (nameIs_tells g name qs[k] _ _ _ _ (HG.out.below hb hgl)).mono ?_; rw [hp]; rintro e w1 ⟨rfl, hb1⟩)
        go_ret
        exact ⟨ret_i64 (idxQ_yes name qs k hlt HN.out hp).symm, hb.trans (hb1.mono hb.size)⟩
    · go_wp2
      go_ret
      refine ⟨ret_i64 (idxQ_no name qs fun x hx => HN.out x ?_).symm, hb⟩
      rw [List.take_of_length_le (by omega)]; exact hx

set_option maxRecDepth 100000 in
set_option maxHeartbeats 1000000 in
theorem find_hall (name : ByteArray) (v : Value) (next : Int) (qs : List QD) (w : World) (h : SliceQ (Under w.heap.size) w v qs) :
    Calls Try.prog 150 #[.agg #[v, .int .i64 next], .string name] w fun e w' => e = .returned (.int .i64 (idxQ name qs)) ∧ Below w.heap.size w w' := by
  have HL : Hid (SliceQ (Under w.heap.size) w v qs) := h
  obtain ⟨va, vc, rfl⟩ := h.shp
  clear h
  have two : Hid (∀ o1 o2 : Obj, Below w.heap.size w ((w.alloc o1).alloc o2)) := fun o1 o2 => (below_alloc _ _).alloc (by simp) _
  go_enter Try.func150, Try.ntmps150
  go_wp2_with (go_at_call 162; refine (indexQ_any _ name _ qs _ (HL.out.sub fun k hk => ⟨?_, (two.out _ _).block k hk⟩) ?_).mono ?_; (simp [Under] at hk ⊢; omega); (have := Blk.new (w.alloc (.cells #[.slice va qs.length vc, .int .i64 next] 24)) [.string name] 9; simpa using this); rintro e w1 ⟨rfl, hb1⟩)
  go_ret
  exact ⟨rfl, (two.out _ _).trans (hb1.mono (by simp; omega))⟩
end Go.Proofs.Ytkddkpdfeeikhaa
