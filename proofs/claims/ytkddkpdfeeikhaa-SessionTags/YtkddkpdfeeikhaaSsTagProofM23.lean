/-
  RefS; NtMath; SameH: texts laid together.
-/
import Derived.Test.YtkddkpdfeeikhaaSsTagProofM19
import Derived.Test.YtkddkpdfeeikhaaSsTagProofM20
import Derived.Test.YtkddkpdfeeikhaaSsTagProofM21
import Derived.Test.YtkddkpdfeeikhaaSsTagProofM22
import Derived.Test.YtkddkpdfeeikhaaSsTagProofM10
import Derived.Deep.DeepCutAuto
import Derived.Deep.RegionHeld3
import Derived.Test.YtkddkpdfeeikhaaSsTagProofM14
import Derived.Test.YtkddkpdfeeikhaaSsTagProofM06
/-
  How the document's halls are answered: in blocks of a set, or in new ones.
-/
namespace Go.Proofs.Ytkddkpdfeeikhaa
open Go.RowKit
set_option linter.unusedVariables false
set_option linter.unusedSimpArgs false

attribute [local go_sem ↓] Go.wp_at_zero Go.wp_at_succ

theorem Blk.b4 {w : World} {b : Nat} {x0 x1 x2 x3 : Value} (h : Blk w b [x0, x1, x2, x3]) : w.cell? ⟨b, 0, none⟩ = some x0 ∧ w.cell? ⟨b, 1, none⟩ = some x1 ∧ w.cell? ⟨b, 2, none⟩ = some x2 ∧ w.cell? ⟨b, 3, none⟩ = some x3 ∧ (∀ o, w.frozen? ⟨b, o, none⟩ = false) ∧ b < w.heap.size := ⟨h.cell 0, h.cell 1, h.cell 2, h.cell 3, h.f, h.lt⟩

/-- S's blocks, or those that were made since w. -/
def SM (S : Nat → Prop) (w w' : World) : Nat → Prop := fun b => S b ∨ Made w.heap.size w'.heap.size b

/-- A hall, entries and an error are answered: their blocks are S's or made. -/
def AnsS (S : Nat → Prop) (r : HD × List ED × Int) (w : World) (e : Ending) (w' : World) : Prop :=
  ∃ va vc ea ec, e = .returned (.tuple #[.agg #[.slice va r.1.queues.length vc, .int .i64 r.1.next], .slice ea r.2.1.length ec, .int .i64 r.2.2]) ∧ SliceQ (SM S w w') w' (.slice va r.1.queues.length vc) r.1.queues ∧ SliceE (SM S w w') w' (.slice ea r.2.1.length ec) r.2.1
theorem AnsS.refuse (S : Nat → Prop) (en : Int) (w w' : World) : AnsS S (refuse en) w (.returned (.tuple #[.agg #[.slice none 0 0, .int .i64 0], .slice none 0 0, .int .i64 en])) w' :=
  ⟨none, 0, none, 0, rfl, SliceQ.nil _ _, SliceE.nil _ _⟩

/-- A queue in a box, behind a call from W. -/
structure QB (S : Nat → Prop) (W : World) (q : QD) (va : Option Addr) (vc : Nat) (qb : Nat) (w1 : World) : Prop where
  bel : Below W.heap.size W w1
  qblk : Blk w1 qb [.string q.name, .int .i64 q.limit, .slice va q.items.length vc]
  ql : W.heap.size ≤ qb
  items : SliceI (fun b => S b ∨ (Made W.heap.size w1.heap.size b ∧ b ≠ qb)) w1 (.slice va q.items.length vc) q.items
theorem QB.new {S : Nat → Prop} {W w1 : World} {q : QD} {va : Option Addr} {vc : Nat} (hS : ∀ b, S b → b < W.heap.size) (h1 : Below W.heap.size W w1) (hI : SliceI (fun b => S b ∨ Made W.heap.size w1.heap.size b) w1 (.slice va q.items.length vc) q.items) :
    QB S W q va vc w1.heap.size (w1.alloc (.cells #[.string q.name, .int .i64 q.limit, .slice va q.items.length vc] 76)) := by
  have hz := h1.size
  refine ⟨h1.alloc h1.size _, Blk.new _ _ _, h1.size, hI.sub fun b hb => ?_⟩
  have hb' : b < w1.heap.size := by
    rcases hb with h | h
    · have := hS b h; omega
    · exact h.2
  refine ⟨hb.imp (fun h => h) (fun h => ⟨⟨h.1, by have := h.2; simp; omega⟩, by have := h.2; omega⟩), Below.heap_alloc _ _ _ hb'⟩
theorem QB.here {S : Nat → Prop} {W w1 : World} {q : QD} {va : Option Addr} {vc : Nat} (hS : ∀ b, S b → b < W.heap.size) (h1 : Below W.heap.size W w1) (hq : Blk w1 W.heap.size [.string ⟨#[]⟩, .int .i64 0, .slice none 0 0]) (hI : SliceI (fun b => S b ∨ Made (W.heap.size + 1) w1.heap.size b) w1 (.slice va q.items.length vc) q.items) :
    QB S W q va vc W.heap.size (((w1.setCell ⟨W.heap.size, 0, none⟩ (.string q.name)).setCell ⟨W.heap.size, 1, none⟩ (.int .i64 q.limit)).setCell ⟨W.heap.size, 2, none⟩ (.slice va q.items.length vc)) := by
  refine ⟨((h1.setCell (by simp) _).setCell (by simp) _).setCell (by simp) _, ((hq.set 0 _).set 1 _).set 2 _, Nat.le_refl _, hI.sub fun b hb => ?_⟩
  have hne : b ≠ W.heap.size := by
    rcases hb with h | h
    · have := hS b h; omega
    · have := h.1; omega
  refine ⟨hb.imp (fun h => h) (fun h => ⟨⟨by have := h.1; omega, by have := h.2; simpa using this⟩, hne⟩), ?_⟩
  rw [Below.heap_setCell _ _ _ _ hne, Below.heap_setCell _ _ _ _ hne, Below.heap_setCell _ _ _ _ hne]

theorem QB.set {S : Nat → Prop} {W : World} {q : QD} {va : Option Addr} {vc : Nat} {qb : Nat} {w1 : World} (h : QB S W q va vc qb w1) : (∀ b, (S b ∨ (Made W.heap.size w1.heap.size b ∧ b ≠ qb)) → S b ∨ Made W.heap.size w1.heap.size b) := fun b hb => hb.imp id And.left

/-- A row of one entry. -/
theorem entry_row {w : World} {b : Nat} {cs : List Value} (h : Blk w b cs) : SliceV (fun c => c = b) w (.slice (some ⟨b, 0, none⟩) 1 1) 1 cs := by
  refine ⟨_, _, rfl, Nat.le_refl _, by simp [maxLen], fun h => by simp at h, fun i hi => ⟨b, 0, rfl, rfl, ?_⟩⟩
  have := h.cell (0 + i)
  rw [Nat.zero_add, List.getElem?_eq_getElem hi] at this
  rw [Nat.zero_add]
  exact this
theorem SliceI.nil (S : Nat → Prop) (w : World) : SliceI S w (.slice none 0 0) [] := ⟨[], rfl, SliceV.nil _ _, by simp⟩

/-- A cell that a call leaves. -/
theorem bel_c {W w2 : World} (h : Below W.heap.size W w2) {b o : Nat} {x : Value} (hb : b < W.heap.size) (hx : W.cell? ⟨b, o, none⟩ = some x) : w2.cell? ⟨b, o, none⟩ = some x := (h.cell (p := ⟨b, o, none⟩) hb).trans hx

/-- The end of a face: its answer lies in its box; all else of w3 is as it was. -/
structure Fn (w3 wF : World) (rb : Nat) (x y : Value) : Prop where
  box : Blk wF rb [x, y]
  keep : ∀ b, b < w3.heap.size → b ≠ rb → wF.heap[b]? = w3.heap[b]?
  size : w3.heap.size ≤ wF.heap.size
  os : wF.os = w3.os
  tape : wF.tape = w3.tape
  output : wF.output = w3.output
theorem Fn.A {w3 : World} {rb : Nat} {x0 y0 : Value} (h : Blk w3 rb [x0, y0]) (x y : Value) (o : Obj) : Fn w3 (((w3.setCell ⟨rb, 0, none⟩ x).setCell ⟨rb, 1, none⟩ y).alloc o) rb x y := by
  refine ⟨((h.set 0 x).set 1 y).alloc o, fun b h1 h2 => ?_, by simp, rfl, rfl, rfl⟩
  rw [Below.heap_alloc _ _ _ (by simpa using h1), Below.heap_setCell _ _ _ _ h2, Below.heap_setCell _ _ _ _ h2]
theorem Fn.B {w3 : World} {rb : Nat} {x0 y0 : Value} (h : Blk w3 rb [x0, y0]) (x y : Value) : Fn w3 ((w3.setCell ⟨rb, 0, none⟩ x).setCell ⟨rb, 1, none⟩ y) rb x y := by
  refine ⟨(h.set 0 x).set 1 y, fun b h1 h2 => ?_, by simp, rfl, rfl, rfl⟩
  rw [Below.heap_setCell _ _ _ _ h2, Below.heap_setCell _ _ _ _ h2]
theorem Fn.below {w w3 wF : World} {rb : Nat} {x y : Value} (F : Fn w3 wF rb x y) (hrb : w.heap.size ≤ rb) (hB : Below w.heap.size w w3) : Below w.heap.size w wF :=
  ⟨F.os.trans hB.os, F.tape.trans hB.tape, F.output.trans hB.output, Nat.le_trans hB.size F.size, fun b hb => (F.keep b (Nat.lt_of_lt_of_le hb hB.size) (by omega)).trans (hB.block b hb)⟩
theorem Fn.ans {S T : Nat → Prop} {w w3 wF : World} {rb : Nat} {hd : HD} {es : List ED} {sa : Option Addr} {n sc : Nat} {ev : Value} (F : Fn w3 wF rb (.slice sa n sc) (.int .i64 hd.next)) (hrb : w.heap.size ≤ rb) (hB : Below w.heap.size w w3) (hQ : SliceQ T w3 (.slice sa n sc) hd.queues)
    (hT : ∀ b, T b → (S b ∨ w.heap.size ≤ b) ∧ b < w3.heap.size ∧ b ≠ rb) (hE : SliceE (SM S w wF) wF ev es) :
    AnsS S (hd, es, 0) w (.returned (.tuple #[.agg #[.slice sa n sc, .int .i64 hd.next], ev, .int .i64 0])) wF ∧ Below w.heap.size w wF := by
  obtain ⟨a', c', e⟩ := hQ.shp
  simp only [Value.slice.injEq] at e
  obtain ⟨rfl, rfl, rfl⟩ := e
  obtain ⟨ea, ec, rfl⟩ := hE.shp
  have hz := F.size
  exact ⟨⟨sa, sc, ea, ec, rfl, hQ.sub fun b hb => ⟨(hT b hb).1.imp (fun h => h) (fun h => ⟨h, by have := (hT b hb).2.1; omega⟩), F.keep b (hT b hb).2.1 (hT b hb).2.2⟩, hE⟩, F.below hrb hB⟩
end Go.Proofs.Ytkddkpdfeeikhaa

/-
  There, and back: parseF of what bytesF writes, whatever stands behind; what parseF reads bytesF writes.
-/
namespace Go.Proofs.Ytkddkpdfeeikhaa.NT
open Go.RowKit
set_option linter.unusedVariables false
set_option linter.unusedSimpArgs false

theorem below_alloc (w : World) (o : Obj) : Below w.heap.size w (w.alloc o) := (Below.refl _ _).alloc (Nat.le_refl _) _
end Go.Proofs.Ytkddkpdfeeikhaa.NT

/-
  tgref1.SameHall and SameEntries answer true where both read the same.
-/
namespace Go.Proofs.Ytkddkpdfeeikhaa
open Go.RowKit
set_option linter.unusedVariables false
set_option linter.unusedSimpArgs false

attribute [local go_sem ↓] Go.wp_at_zero Go.wp_at_succ

theorem Blk.b6 {w : World} {b : Nat} {x0 x1 x2 x3 x4 x5 : Value} (h : Blk w b [x0, x1, x2, x3, x4, x5]) : w.cell? ⟨b, 0, none⟩ = some x0 ∧ w.cell? ⟨b, 1, none⟩ = some x1 ∧ w.cell? ⟨b, 2, none⟩ = some x2 ∧ w.cell? ⟨b, 3, none⟩ = some x3 ∧ w.cell? ⟨b, 4, none⟩ = some x4 ∧ w.cell? ⟨b, 5, none⟩ = some x5 ∧ (∀ o, w.frozen? ⟨b, o, none⟩ = false) ∧ b < w.heap.size := ⟨h.cell 0, h.cell 1, h.cell 2, h.cell 3, h.cell 4, h.cell 5, h.f, h.lt⟩

end Go.Proofs.Ytkddkpdfeeikhaa
