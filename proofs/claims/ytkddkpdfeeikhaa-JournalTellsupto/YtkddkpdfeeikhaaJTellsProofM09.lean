/-
  Aside; Changed; Told; List; TurnList: texts laid together.
-/
import Derived.Test.YtkddkpdfeeikhaaJTellsProofM08
import Derived.Test.YtkddkpdfeeikhaaJTellsProofM01
import Derived.Test.YtkddkpdfeeikhaaJTellsProofM03
/-
  hall.putAside keeps the note of an item that came back too often.
-/
namespace Go.Proofs.Ytkddkpdfeeikhaa
open Go.RowKit
set_option linter.unusedVariables false
set_option linter.unusedSimpArgs false

attribute [local go_sem ↓] Go.wp_at_zero Go.wp_at_succ

abbrev deadN : ByteArray := ⟨#[100, 101, 97, 100]⟩

/-- A hall with another queue in a place. -/
def HD.setQ (h : HD) (k : Nat) (q : QD) : HD := ⟨h.queues.set k q, h.next⟩

/-- Put, at a place. -/
def putF (h : HD) (k : Nat) (q : QD) (n : ND) : HD × List ED × Int :=
  if q.limit ≤ (q.items.length : Int) then (h, [], 8) else (⟨h.queues.set k ⟨q.name, q.limit, q.items ++ [newI h.next n]⟩, h.next + 1⟩, [putE q.name h.next n], 0)

/-- Put aside. -/
def asideF (h : HD) (from' : Nat) (n : ND) : HD × List ED :=
  match h.queues.findIdx? (nameB deadN) with
  | none => (h, [])
  | some k => if k = from' then (h, []) else match h.queues[k]? with
    | none => (h, [])
    | some q => ((putF h k q n).1, (putF h k q n).2.1)

/-- A hall in a box that was changed there, and entries that tell of it. -/
def InAns (P : Nat → Prop) (hb : Nat) (w : World) (v : Value) (h : HD) (es : List ED) (ev : Value) (w' : World) : Prop :=
  ∃ L P', L.map Prod.fst = h.queues ∧ (∀ b, P b → P' b) ∧ (∀ b, P' b → P b ∨ Made w.heap.size w'.heap.size b) ∧ HallIn P' hb w' v L h.next ∧ SliceE (fun b => Made w.heap.size w'.heap.size b ∧ ¬ P' b) w' ev es ∧ Keep (fun b => b < w.heap.size ∧ v.ownBlock ≠ some b ∧ b ≠ hb) w w'

theorem InAns.none {P : Nat → Prop} {hb : Nat} {w w' : World} {v : Value} {L : QuL} {h : HD} (H : HallIn P hb w v L h.next) (e : L.map Prod.fst = h.queues) (hB : Below w.heap.size w w') : InAns P hb w v h [] (.slice none 0 0) w' :=
  ⟨L, P, e, fun _ h => h, fun _ h => .inl h, H.below hB, SliceE.nil _ _, Keep.of hB fun k hk => hk.1⟩

theorem InAns.shp {P : Nat → Prop} {hb : Nat} {w w' : World} {v ev : Value} {h : HD} {es : List ED} (H : InAns P hb w v h es ev w') : ∃ a c, ev = .slice a es.length c := by
  obtain ⟨L, P', _, _, _, _, h5, _⟩ := H
  exact h5.shp

end Go.Proofs.Ytkddkpdfeeikhaa

/-
  hall.changed answers what a function makes of a copy of a hall.
-/
namespace Go.Proofs.Ytkddkpdfeeikhaa
open Go.RowKit
set_option linter.unusedVariables false
set_option linter.unusedSimpArgs false

attribute [local go_sem ↓] Go.wp_at_zero Go.wp_at_succ

/-- Where there is an error there is no hall, and there are no entries. -/
def failF (r : HD × List ED × Int) : HD × List ED × Int := if r.2.2 = 0 then r else (⟨[], 0⟩, [], r.2.2)

/-- A hall, entries and an error are answered, in new memory. -/
def AnsH (r : HD × List ED × Int) (w : World) (e : Ending) (w' : World) : Prop :=
  ∃ va vc ea ec, e = .returned (.tuple #[.agg #[.slice va r.1.queues.length vc, .int .i64 r.1.next], .slice ea r.2.1.length ec, .int .i64 r.2.2]) ∧ SliceQ (Made w.heap.size w'.heap.size) w' (.slice va r.1.queues.length vc) r.1.queues ∧ SliceE (Made w.heap.size w'.heap.size) w' (.slice ea r.2.1.length ec) r.2.1

def refuse (en : Int) : HD × List ED × Int := (⟨[], 0⟩, [], en)

theorem AnsH.refuse (en : Int) (w w' : World) : AnsH (refuse en) w (.returned (.tuple #[.agg #[.slice none 0 0, .int .i64 0], .slice none 0 0, .int .i64 en])) w' :=
  ⟨none, 0, none, 0, rfl, SliceQ.nil _ _, SliceE.nil _ _⟩

end Go.Proofs.Ytkddkpdfeeikhaa

/-
  Entries of one's own, and more behind them, beside a hall that is changed in its box.
-/
namespace Go.Proofs.Ytkddkpdfeeikhaa
open Go.RowKit
set_option linter.unusedVariables false
set_option linter.unusedSimpArgs false

/-- Entries of one's own, in the blocks of T. -/
structure OwnTL (T : Nat → Prop) (w : World) (tv : Value) (L : EnL) : Prop where
  row : w.ownsRow 0 30 6 tv L.length (cellsE L)
  rowT : ∀ b, tv.ownBlock = some b → T b
  notes : ∀ x ∈ L, NoteIs (fun b => T b ∧ tv.ownBlock ≠ some b) w x.2 x.1.note
  lt : ∀ b, T b → b < w.heap.size
def OwnT (T : Nat → Prop) (w : World) (tv : Value) (es : List ED) : Prop := ∃ L, L.map Prod.fst = es ∧ OwnTL T w tv L

theorem OwnT.nil (w : World) : OwnT (fun _ => False) w (.slice none 0 0) [] := ⟨[], rfl, World.ownsRow_nil _ _ _ _, fun b h => by simp [Value.ownBlock] at h, by simp, fun _ h => h.elim⟩
theorem OwnE.told {base : Nat} {w : World} {v : Value} {es : List ED} (h : OwnE base w v es) : OwnT (Made base w.heap.size) w v es := by
  obtain ⟨L, e, h1, h2⟩ := h
  exact ⟨L, e, own_mono h1 (Nat.zero_le _), fun b hb => h1.lt b hb, fun x hx => (h2 x hx).sub fun b hb => ⟨⟨⟨hb.1, hb.2.1⟩, hb.2.2⟩, rfl⟩, fun b hb => hb.2⟩
theorem OwnTL.on {T : Nat → Prop} {w W : World} {tv : Value} {L : EnL} (h : OwnTL T w tv L) (hz : w.heap.size ≤ W.heap.size) (hB : ∀ b, T b → W.heap[b]? = w.heap[b]?) : OwnTL T W tv L :=
  ⟨own_same h.row (fun b e => hB b (h.rowT b e)), h.rowT, fun x hx => (h.notes x hx).sub fun b hb => ⟨hb, hB b hb.1⟩, fun b hb => Nat.lt_of_lt_of_le (h.lt b hb) hz⟩
theorem OwnT.on {T : Nat → Prop} {w W : World} {tv : Value} {es : List ED} (h : OwnT T w tv es) (hz : w.heap.size ≤ W.heap.size) (hB : ∀ b, T b → W.heap[b]? = w.heap[b]?) : OwnT T W tv es := by
  obtain ⟨L, e, h⟩ := h
  exact ⟨L, e, h.on hz hB⟩
theorem OwnT.slice {T : Nat → Prop} {w : World} {tv : Value} {es : List ED} (h : OwnT T w tv es) : SliceE T w tv es := by
  obtain ⟨L, e, h⟩ := h
  exact ⟨L, e, (own_slice h.row).sub fun k hk => ⟨h.rowT k hk, rfl⟩, fun x hx => (h.notes x hx).sub fun b hb => ⟨hb.1, rfl⟩⟩

end Go.Proofs.Ytkddkpdfeeikhaa

/-
  The lists of QueueFirst.
-/
namespace Go.Proofs.Ytkddkpdfeeikhaa
set_option linter.unusedVariables false
set_option linter.unusedSimpArgs false

end Go.Proofs.Ytkddkpdfeeikhaa

/-
  The lists of QueueTurn.
-/
namespace Go.Proofs.Ytkddkpdfeeikhaa
set_option linter.unusedVariables false
set_option linter.unusedSimpArgs false

/-- No two have one number. -/
def Apart (its : List IT) : Prop := its.Pairwise (fun a b => a.id < b.id)

theorem Apart.ne {its : List IT} (h : Apart its) {i j : Nat} (hi : i < its.length) (hj : j < its.length) (hne : j ≠ i) : its[j].id ≠ its[i].id := by
  have h' := List.pairwise_iff_getElem.1 h
  rcases Nat.lt_or_ge j i with h1 | h1
  · have := h' j i hj hi h1; omega
  · have := h' i j hi hj (by omega); omega

end Go.Proofs.Ytkddkpdfeeikhaa
