/-
  session.Do.
-/
import Derived.Test.YtkddkpdfeeikhaaSsTagProofM30
namespace Go.Proofs.Ytkddkpdfeeikhaa
open Go.RowKit
set_option linter.unusedVariables false
set_option linter.unusedSimpArgs false

attribute [local go_sem ↓] Go.wp_at_zero Go.wp_at_succ

/-- The blocks of what was copied: made, and not the desk's own box z. -/
def Cop (A : World) (z : Option Nat) (W : World) : Nat → Prop := fun b => A.heap.size ≤ b ∧ b < W.heap.size ∧ z ≠ some b

structure ST0 (A : World) (z : Option Nat) (W : World) : Prop where
  bel : Below A.heap.size A W
  zb : ∀ D, z = some D → A.heap.size ≤ D ∧ Blk W D [.slice none 0 0, .int .i64 0, .slice none 0 0, .int .i64 0, .slice none 0 0, .int .i64 0]
theorem ST0.start (A : World) : ST0 A none A.drew := ⟨(Below.refl _ _).drew, fun D h => by cases h⟩
theorem ST0.alloc {A W : World} (H : ST0 A none W) : ST0 A (some W.heap.size) (W.alloc (.cells #[.slice none 0 0, .int .i64 0, .slice none 0 0, .int .i64 0, .slice none 0 0, .int .i64 0] 126)) :=
  ⟨H.bel.alloc H.bel.size _, fun D h => by cases h; exact ⟨H.bel.size, Blk.new _ _ _⟩⟩
theorem ST0.start' (A : World) : ST0 A (some A.heap.size) (A.drew.alloc (.cells #[.slice none 0 0, .int .i64 0, .slice none 0 0, .int .i64 0, .slice none 0 0, .int .i64 0] 126)) := (ST0.start A).alloc
theorem ST0.on {A W W' : World} {z : Option Nat} (H : ST0 A z W) (hb : Below W.heap.size W W') : ST0 A z W' :=
  ⟨H.bel.trans (hb.mono H.bel.size), fun D h => ⟨(H.zb D h).1, (H.zb D h).2.below hb (H.zb D h).2.lt⟩⟩
theorem cop_on {A W W' : World} {z : Option Nat} (hb : Below W.heap.size W W') : ∀ b, Cop A z W b → Cop A z W' b ∧ W'.heap[b]? = W.heap[b]? := fun b h => ⟨⟨h.1, Nat.lt_of_lt_of_le h.2.1 hb.size, h.2.2⟩, hb.block b h.2.1⟩
theorem cop_made {A W W' : World} {z : Option Nat} (H : ST0 A z W) : ∀ b, Made W.heap.size W'.heap.size b → Cop A z W' b := fun b h =>
  ⟨Nat.le_trans H.bel.size h.1, h.2, fun e => by have := (H.zb b e).2.lt; have := h.1; omega⟩
theorem cop_alloc {A W : World} {o : Obj} : ∀ b, Cop A none W b → Cop A (some W.heap.size) (W.alloc o) b ∧ (W.alloc o).heap[b]? = W.heap[b]? := fun b h =>
  ⟨⟨h.1, by have := h.2.1; simp; omega, fun e => by cases e; have := h.2.1; omega⟩, Below.heap_alloc _ _ _ h.2.1⟩

structure ST1 (A : World) (z : Option Nat) (hv : Value) (d : DK) (W : World) : Prop extends ST0 A z W where
  q : SliceQ (Cop A z W) W hv d.h.queues
theorem ST1.alloc {A W : World} {hv : Value} {d : DK} (H : ST1 A none hv d W) : ST1 A (some W.heap.size) hv d (W.alloc (.cells #[.slice none 0 0, .int .i64 0, .slice none 0 0, .int .i64 0, .slice none 0 0, .int .i64 0] 126)) := ⟨H.toST0.alloc, H.q.sub cop_alloc⟩
theorem ST1.on {A W W' : World} {z : Option Nat} {hv : Value} {d : DK} (H : ST1 A z hv d W) (hb : Below W.heap.size W W') : ST1 A z hv d W' := ⟨H.toST0.on hb, H.q.sub (cop_on hb)⟩
structure ST2 (A : World) (z : Option Nat) (hv lv : Value) (d : DK) (W : World) : Prop extends ST1 A z hv d W where
  l : SliceB (Cop A z W) W lv d.l
theorem ST2.alloc {A W : World} {hv lv : Value} {d : DK} (H : ST2 A none hv lv d W) : ST2 A (some W.heap.size) hv lv d (W.alloc (.cells #[.slice none 0 0, .int .i64 0, .slice none 0 0, .int .i64 0, .slice none 0 0, .int .i64 0] 126)) := ⟨H.toST1.alloc, SliceV.sub H.l cop_alloc⟩
theorem ST2.on {A W W' : World} {z : Option Nat} {hv lv : Value} {d : DK} (H : ST2 A z hv lv d W) (hb : Below W.heap.size W W') : ST2 A z hv lv d W' := ⟨H.toST1.on hb, SliceV.sub H.l (cop_on hb)⟩
/-- All three are copied. -/
structure ST3 (A : World) (z : Option Nat) (hv lv tv : Value) (d : DK) (W : World) : Prop extends ST0 A z W where
  q : SliceQ (fun b => Cop A z W b ∧ tv.ownBlock ≠ some b) W hv d.h.queues
  l : SliceB (fun b => Cop A z W b ∧ tv.ownBlock ≠ some b) W lv d.l
  t : W.ownsRow A.heap.size 50 4 tv d.ts.length (cellsT d.ts)
  tz : ∀ b, tv.ownBlock = some b → z ≠ some b
theorem ST3.mk' {A W W' : World} {z : Option Nat} {hv lv tv : Value} {d : DK} (H : ST2 A z hv lv d W) (hb : Below W.heap.size W W') (ho : W'.ownsRow W.heap.size 50 4 tv d.ts.length (cellsT d.ts)) : ST3 A z hv lv tv d W' := by
  have hs := H.bel.size
  have off : ∀ b, Cop A z W b → (Cop A z W' b ∧ tv.ownBlock ≠ some b) ∧ W'.heap[b]? = W.heap[b]? := fun b h => ⟨⟨(cop_on hb b h).1, fun e => by have := (ho.lt b e).1; have := h.2.1; omega⟩, (cop_on hb b h).2⟩
  exact ⟨H.toST0.on hb, H.q.sub off, SliceV.sub H.l off, own_mono ho hs, fun b h e => by have := (H.zb b e).2.lt; have := (ho.lt b h).1; omega⟩

theorem ST3.old {A W W' : World} {D : Nat} {hv lv tv : Value} {d : DK} (H : ST3 A (some D) hv lv tv d W) (hz : W'.heap.size = W.heap.size) (far : ∀ b, b ≠ D → W'.heap[b]? = W.heap[b]?) (hos : W'.os = W.os ∧ W'.tape = W.tape ∧ W'.output = W.output) (hD : Blk W' D [hv, .int .i64 d.h.next, lv, .int .i64 d.sure, tv, .int .i64 d.nx]) :
    DeskIn (fun b => b < A.heap.size) D A.heap.size d hv lv tv W' ∧ Below A.heap.size A W' := by
  have hz0 := H.zb D rfl
  have off : ∀ b, (Cop A (some D) W b ∧ tv.ownBlock ≠ some b) → Off (fun b => b < A.heap.size) D tv W'.heap.size b ∧ W'.heap[b]? = W.heap[b]? := fun b h => by
    have hne : b ≠ D := fun e => h.1.2.2 (by rw [e])
    exact ⟨⟨by rw [hz]; exact h.1.2.1, hne, h.2, fun e => by have := h.1.1; omega⟩, far b hne⟩
  have hs := H.bel.size
  exact ⟨⟨hD, H.q.sub off, SliceV.sub H.l off, own_same H.t fun b h => far b (fun e => H.tz b h (by rw [e])), fun e => H.tz D e rfl, hz0.1, fun b h => by omega, fun h => by have := hz0.1; omega, fun b h e => by have := (H.t.lt b h).1; omega⟩,
    hos.1.trans H.bel.os, hos.2.1.trans H.bel.tape, hos.2.2.trans H.bel.output, by omega, fun b h => (far b (by have := hz0.1; omega)).trans (H.bel.block b h)⟩
theorem ST3.old6 {A W : World} {D : Nat} {hv lv tv : Value} {d : DK} (H : ST3 A (some D) hv lv tv d W) : DeskIn (fun b => b < A.heap.size) D A.heap.size d hv lv tv ((((((W.setCell ⟨D, 0, none⟩ hv).setCell ⟨D, 1, none⟩ (.int .i64 d.h.next)).setCell ⟨D, 2, none⟩ lv).setCell ⟨D, 3, none⟩ (.int .i64 d.sure)).setCell ⟨D, 4, none⟩ tv).setCell ⟨D, 5, none⟩ (.int .i64 d.nx)) ∧ Below A.heap.size A ((((((W.setCell ⟨D, 0, none⟩ hv).setCell ⟨D, 1, none⟩ (.int .i64 d.h.next)).setCell ⟨D, 2, none⟩ lv).setCell ⟨D, 3, none⟩ (.int .i64 d.sure)).setCell ⟨D, 4, none⟩ tv).setCell ⟨D, 5, none⟩ (.int .i64 d.nx)) := by
  obtain ⟨h1, h2, h3⟩ := set6_any W D hv (.int .i64 d.h.next) lv (.int .i64 d.sure) tv (.int .i64 d.nx)
  exact H.old h1 h2 h3 ((((((((H.zb D rfl).2.set 0 _).set 1 _).set 2 _).set 3 _).set 4 _).set 5 _))
theorem ST3.new {A W : World} {hv lv tv : Value} {d : DK} (H : ST3 A none hv lv tv d W) :
    DeskIn (fun b => b < A.heap.size) W.heap.size A.heap.size d hv lv tv (W.alloc (.cells #[hv, .int .i64 d.h.next, lv, .int .i64 d.sure, tv, .int .i64 d.nx] 126)) ∧ Below A.heap.size A (W.alloc (.cells #[hv, .int .i64 d.h.next, lv, .int .i64 d.sure, tv, .int .i64 d.nx] 126)) := by
  have hs := H.bel.size
  have off : ∀ b, (Cop A none W b ∧ tv.ownBlock ≠ some b) → Off (fun b => b < A.heap.size) W.heap.size tv (W.alloc (.cells #[hv, .int .i64 d.h.next, lv, .int .i64 d.sure, tv, .int .i64 d.nx] 126)).heap.size b ∧ (W.alloc (.cells #[hv, .int .i64 d.h.next, lv, .int .i64 d.sure, tv, .int .i64 d.nx] 126)).heap[b]? = W.heap[b]? := fun b h =>
    ⟨⟨by have := h.1.2.1; simp; omega, by have := h.1.2.1; omega, h.2, fun e => by have := h.1.1; omega⟩, Below.heap_alloc _ _ _ h.1.2.1⟩
  exact ⟨⟨Blk.new _ _ _, H.q.sub off, SliceV.sub H.l off, own_same H.t fun b h => Below.heap_alloc _ _ _ (H.t.lt b h).2, fun e => by have := (H.t.lt _ e).2; omega, hs, fun b h => by simp; omega, fun h => by omega, fun b h e => by have := (H.t.lt b h).1; omega⟩, H.bel.alloc hs _⟩

/-- What Do answers. -/
def DoAns (r : DK × SayD × Int) (w : World) (e : Ending) (w' : World) : Prop :=
  ∃ ha hc la lc ta tc pa pc ba bc, e = .returned (.tuple #[.agg #[.slice ha r.1.h.queues.length hc, .int .i64 r.1.h.next], .agg #[.slice la r.1.l.length lc, .int .i64 r.1.sure], .agg #[.slice ta r.1.ts.length tc, .int .i64 r.1.nx], .agg #[.int .i64 r.2.1.kind, .int .i64 r.2.1.n, .int .i64 r.2.1.m, .int .i64 r.2.1.err, .slice pa r.2.1.note.props.length pc, .slice ba r.2.1.note.body.length bc], .int .i64 r.2.2]) ∧
    SliceQ (Made w.heap.size w'.heap.size) w' (.slice ha r.1.h.queues.length hc) r.1.h.queues ∧ SliceB (Made w.heap.size w'.heap.size) w' (.slice la r.1.l.length lc) r.1.l ∧ SliceT (Made w.heap.size w'.heap.size) w' (.slice ta r.1.ts.length tc) r.1.ts ∧ NoteIs (Made w.heap.size w'.heap.size) w' (.slice pa r.2.1.note.props.length pc, .slice ba r.2.1.note.body.length bc) r.2.1.note ∧ Below w.heap.size w w'

/-- Stores into the answer's boxes leave all that was made behind them. -/
theorem do_stores (V : World) (g : Nat) (y0 y1 y2 y3 y4 y5 y6 y7 y8 y9 y10 y11 : Value) (W5 : World) (h : W5 = ((((((((((((V.setCell ⟨g + 1 + 1 + 1 + 1, 0, none⟩ y0).setCell ⟨g + 1 + 1 + 1 + 1, 1, none⟩ y1).setCell ⟨g + 1 + 1 + 1 + 1 + 1, 0, none⟩ y2).setCell ⟨g + 1 + 1 + 1 + 1 + 1, 1, none⟩ y3).setCell ⟨g + 1 + 1 + 1 + 1 + 1 + 1, 0, none⟩ y4).setCell ⟨g + 1 + 1 + 1 + 1 + 1 + 1, 1, none⟩ y5).setCell ⟨g + 1 + 1 + 1 + 1 + 1 + 1 + 1, 0, none⟩ y6).setCell ⟨g + 1 + 1 + 1 + 1 + 1 + 1 + 1, 1, none⟩ y7).setCell ⟨g + 1 + 1 + 1 + 1 + 1 + 1 + 1, 2, none⟩ y8).setCell ⟨g + 1 + 1 + 1 + 1 + 1 + 1 + 1, 3, none⟩ y9).setCell ⟨g + 1 + 1 + 1 + 1 + 1 + 1 + 1, 4, none⟩ y10).setCell ⟨g + 1 + 1 + 1 + 1 + 1 + 1 + 1, 5, none⟩ y11).drew) :
    W5.heap.size = V.heap.size ∧ (∀ b, ¬ (g ≤ b ∧ b < g + 8) → W5.heap[b]? = V.heap[b]?) ∧ (W5.os = V.os ∧ W5.tape = V.tape ∧ W5.output = V.output) := by
  have key : ∀ (W : World) (c o : Nat) (x : Value), g ≤ c ∧ c < g + 8 → (W.setCell ⟨c, o, none⟩ x).heap.size = W.heap.size ∧ (∀ b, ¬ (g ≤ b ∧ b < g + 8) → (W.setCell ⟨c, o, none⟩ x).heap[b]? = W.heap[b]?) ∧ ((W.setCell ⟨c, o, none⟩ x).os = W.os ∧ (W.setCell ⟨c, o, none⟩ x).tape = W.tape ∧ (W.setCell ⟨c, o, none⟩ x).output = W.output) := fun W c o x hc =>
    ⟨by simp, fun b hb => Below.heap_setCell _ _ _ _ (by intro e; have e' : b = c := e; omega), rfl, rfl, rfl⟩
  subst h
  obtain ⟨w0, h0⟩ : ∃ w', w' = V.setCell ⟨g + 1 + 1 + 1 + 1, 0, none⟩ y0 := ⟨_, rfl⟩
  obtain ⟨w1, h1⟩ : ∃ w', w' = w0.setCell ⟨g + 1 + 1 + 1 + 1, 1, none⟩ y1 := ⟨_, rfl⟩
  obtain ⟨w2, h2⟩ : ∃ w', w' = w1.setCell ⟨g + 1 + 1 + 1 + 1 + 1, 0, none⟩ y2 := ⟨_, rfl⟩
  obtain ⟨w3, h3⟩ : ∃ w', w' = w2.setCell ⟨g + 1 + 1 + 1 + 1 + 1, 1, none⟩ y3 := ⟨_, rfl⟩
  obtain ⟨w4, h4⟩ : ∃ w', w' = w3.setCell ⟨g + 1 + 1 + 1 + 1 + 1 + 1, 0, none⟩ y4 := ⟨_, rfl⟩
  obtain ⟨w5, h5⟩ : ∃ w', w' = w4.setCell ⟨g + 1 + 1 + 1 + 1 + 1 + 1, 1, none⟩ y5 := ⟨_, rfl⟩
  obtain ⟨w6, h6⟩ : ∃ w', w' = w5.setCell ⟨g + 1 + 1 + 1 + 1 + 1 + 1 + 1, 0, none⟩ y6 := ⟨_, rfl⟩
  obtain ⟨w7, h7⟩ : ∃ w', w' = w6.setCell ⟨g + 1 + 1 + 1 + 1 + 1 + 1 + 1, 1, none⟩ y7 := ⟨_, rfl⟩
  obtain ⟨w8, h8⟩ : ∃ w', w' = w7.setCell ⟨g + 1 + 1 + 1 + 1 + 1 + 1 + 1, 2, none⟩ y8 := ⟨_, rfl⟩
  obtain ⟨w9, h9⟩ : ∃ w', w' = w8.setCell ⟨g + 1 + 1 + 1 + 1 + 1 + 1 + 1, 3, none⟩ y9 := ⟨_, rfl⟩
  obtain ⟨w10, h10⟩ : ∃ w', w' = w9.setCell ⟨g + 1 + 1 + 1 + 1 + 1 + 1 + 1, 4, none⟩ y10 := ⟨_, rfl⟩
  obtain ⟨w11, h11⟩ : ∃ w', w' = w10.setCell ⟨g + 1 + 1 + 1 + 1 + 1 + 1 + 1, 5, none⟩ y11 := ⟨_, rfl⟩
  rw [← h0, ← h1, ← h2, ← h3, ← h4, ← h5, ← h6, ← h7, ← h8, ← h9, ← h10, ← h11]
  have k0 := key V (g + 1 + 1 + 1 + 1) 0 y0 (by omega)
  rw [← h0] at k0
  have k1 := key w0 (g + 1 + 1 + 1 + 1) 1 y1 (by omega)
  rw [← h1] at k1
  have k2 := key w1 (g + 1 + 1 + 1 + 1 + 1) 0 y2 (by omega)
  rw [← h2] at k2
  have k3 := key w2 (g + 1 + 1 + 1 + 1 + 1) 1 y3 (by omega)
  rw [← h3] at k3
  have k4 := key w3 (g + 1 + 1 + 1 + 1 + 1 + 1) 0 y4 (by omega)
  rw [← h4] at k4
  have k5 := key w4 (g + 1 + 1 + 1 + 1 + 1 + 1) 1 y5 (by omega)
  rw [← h5] at k5
  have k6 := key w5 (g + 1 + 1 + 1 + 1 + 1 + 1 + 1) 0 y6 (by omega)
  rw [← h6] at k6
  have k7 := key w6 (g + 1 + 1 + 1 + 1 + 1 + 1 + 1) 1 y7 (by omega)
  rw [← h7] at k7
  have k8 := key w7 (g + 1 + 1 + 1 + 1 + 1 + 1 + 1) 2 y8 (by omega)
  rw [← h8] at k8
  have k9 := key w8 (g + 1 + 1 + 1 + 1 + 1 + 1 + 1) 3 y9 (by omega)
  rw [← h9] at k9
  have k10 := key w9 (g + 1 + 1 + 1 + 1 + 1 + 1 + 1) 4 y10 (by omega)
  rw [← h10] at k10
  have k11 := key w10 (g + 1 + 1 + 1 + 1 + 1 + 1 + 1) 5 y11 (by omega)
  rw [← h11] at k11
  refine ⟨by show w11.heap.size = _; omega, fun b hb => ?_, ?_⟩
  · show w11.heap[b]? = _
    rw [k11.2.1 b hb, k10.2.1 b hb, k9.2.1 b hb, k8.2.1 b hb, k7.2.1 b hb, k6.2.1 b hb, k5.2.1 b hb, k4.2.1 b hb, k3.2.1 b hb, k2.2.1 b hb, k1.2.1 b hb, k0.2.1 b hb]
  · show w11.os = _ ∧ w11.tape = _ ∧ w11.output = _
    rw [k11.2.2.1, k10.2.2.1, k9.2.2.1, k8.2.2.1, k7.2.2.1, k6.2.2.1, k5.2.2.1, k4.2.2.1, k3.2.2.1, k2.2.2.1, k1.2.2.1, k0.2.2.1, k11.2.2.2.1, k10.2.2.2.1, k9.2.2.2.1, k8.2.2.2.1, k7.2.2.2.1, k6.2.2.2.1, k5.2.2.2.1, k4.2.2.2.1, k3.2.2.2.1, k2.2.2.2.1, k1.2.2.2.1, k0.2.2.2.1, k11.2.2.2.2, k10.2.2.2.2, k9.2.2.2.2, k8.2.2.2.2, k7.2.2.2.2, k6.2.2.2.2, k5.2.2.2.2, k4.2.2.2.2, k3.2.2.2.2, k2.2.2.2.2, k1.2.2.2.2, k0.2.2.2.2]
    exact ⟨rfl, rfl, rfl⟩

set_option maxRecDepth 100000 in
set_option maxHeartbeats 12800000 in
theorem do_any (d : DK) (hv lv tv : Value) (a : AD) (pv bv : Value) (now : Int) (w : World) (hh : SliceQ (Under w.heap.size) w hv d.h.queues) (hl : SliceB (Under w.heap.size) w lv d.l) (ht : SliceT (Under w.heap.size) w tv d.ts) (ok : d.okD a now) (hn : NoteIs (Under w.heap.size) w (pv, bv) a.note) (hq : a.queue.size ≤ maxLen) (hf : a.note.fitN) :
    Calls Try.prog 37 #[.agg #[hv, .int .i64 d.h.next], .agg #[lv, .int .i64 d.sure], .agg #[tv, .int .i64 d.nx], .agg #[.int .i64 a.kind, .string a.queue, .int .i64 a.n, pv, bv], .int .i64 now] w (DoAns (d.answer a now) w) := by
  obtain ⟨pa, pc, rfl, -⟩ := SliceV.shape hn.1
  obtain ⟨ba, bc, rfl, -⟩ := SliceV.shape hn.2
  obtain ⟨ha, hc, rfl⟩ := hh.shp
  obtain ⟨la, lc, rfl, -⟩ := SliceV.shape hl
  obtain ⟨ta, tc, rfl, -⟩ := SliceV.shape ht
  obtain ⟨A, hA⟩ : ∃ A, A = ((((((((w.alloc (.cells #[.slice ha d.h.queues.length hc, .int .i64 d.h.next] 24)).alloc (.cells #[.slice la d.l.length lc, .int .i64 d.sure] 32)).alloc (.cells #[.slice ta d.ts.length tc, .int .i64 d.nx] 64)).alloc (.cells #[.int .i64 a.kind, .string a.queue, .int .i64 a.n, .slice pa a.note.props.length pc, .slice ba a.note.body.length bc] 66)).alloc (.cells #[.slice none 0 0, .int .i64 0] 24)).alloc (.cells #[.slice none 0 0, .int .i64 0] 32)).alloc (.cells #[.slice none 0 0, .int .i64 0] 64)).alloc (.cells #[.int .i64 0, .int .i64 0, .int .i64 0, .int .i64 0, .slice none 0 0, .slice none 0 0] 69)) := ⟨_, rfl⟩
  have hAz : A.heap.size = w.heap.size + 8 := by rw [hA]; simp
  have hAb : Below w.heap.size w A := by
    rw [hA]
    iterate 7 refine Below.alloc ?_ (by first | (simp; done) | (simp; omega)) _
    exact below_alloc _ _
  have hB0 : Blk A w.heap.size [.slice ha d.h.queues.length hc, .int .i64 d.h.next] := by
    rw [hA]
    have := ((((((((Blk.new w [.slice ha d.h.queues.length hc, .int .i64 d.h.next] 24).alloc (.cells #[.slice la d.l.length lc, .int .i64 d.sure] 32)).alloc (.cells #[.slice ta d.ts.length tc, .int .i64 d.nx] 64)).alloc (.cells #[.int .i64 a.kind, .string a.queue, .int .i64 a.n, .slice pa a.note.props.length pc, .slice ba a.note.body.length bc] 66)).alloc (.cells #[.slice none 0 0, .int .i64 0] 24)).alloc (.cells #[.slice none 0 0, .int .i64 0] 32)).alloc (.cells #[.slice none 0 0, .int .i64 0] 64)).alloc (.cells #[.int .i64 0, .int .i64 0, .int .i64 0, .int .i64 0, .slice none 0 0, .slice none 0 0] 69))
    simpa using this
  have hB1 : Blk A (w.heap.size + 1) [.slice la d.l.length lc, .int .i64 d.sure] := by
    rw [hA]
    have := (((((((Blk.new (w.alloc (.cells #[.slice ha d.h.queues.length hc, .int .i64 d.h.next] 24)) [.slice la d.l.length lc, .int .i64 d.sure] 32).alloc (.cells #[.slice ta d.ts.length tc, .int .i64 d.nx] 64)).alloc (.cells #[.int .i64 a.kind, .string a.queue, .int .i64 a.n, .slice pa a.note.props.length pc, .slice ba a.note.body.length bc] 66)).alloc (.cells #[.slice none 0 0, .int .i64 0] 24)).alloc (.cells #[.slice none 0 0, .int .i64 0] 32)).alloc (.cells #[.slice none 0 0, .int .i64 0] 64)).alloc (.cells #[.int .i64 0, .int .i64 0, .int .i64 0, .int .i64 0, .slice none 0 0, .slice none 0 0] 69))
    simpa using this
  have hB2 : Blk A (w.heap.size + 2) [.slice ta d.ts.length tc, .int .i64 d.nx] := by
    rw [hA]
    have := ((((((Blk.new ((w.alloc (.cells #[.slice ha d.h.queues.length hc, .int .i64 d.h.next] 24)).alloc (.cells #[.slice la d.l.length lc, .int .i64 d.sure] 32)) [.slice ta d.ts.length tc, .int .i64 d.nx] 64).alloc (.cells #[.int .i64 a.kind, .string a.queue, .int .i64 a.n, .slice pa a.note.props.length pc, .slice ba a.note.body.length bc] 66)).alloc (.cells #[.slice none 0 0, .int .i64 0] 24)).alloc (.cells #[.slice none 0 0, .int .i64 0] 32)).alloc (.cells #[.slice none 0 0, .int .i64 0] 64)).alloc (.cells #[.int .i64 0, .int .i64 0, .int .i64 0, .int .i64 0, .slice none 0 0, .slice none 0 0] 69))
    simpa using this
  have hB3 : Blk A (w.heap.size + 3) [.int .i64 a.kind, .string a.queue, .int .i64 a.n, .slice pa a.note.props.length pc, .slice ba a.note.body.length bc] := by
    rw [hA]
    have := (((((Blk.new (((w.alloc (.cells #[.slice ha d.h.queues.length hc, .int .i64 d.h.next] 24)).alloc (.cells #[.slice la d.l.length lc, .int .i64 d.sure] 32)).alloc (.cells #[.slice ta d.ts.length tc, .int .i64 d.nx] 64)) [.int .i64 a.kind, .string a.queue, .int .i64 a.n, .slice pa a.note.props.length pc, .slice ba a.note.body.length bc] 66).alloc (.cells #[.slice none 0 0, .int .i64 0] 24)).alloc (.cells #[.slice none 0 0, .int .i64 0] 32)).alloc (.cells #[.slice none 0 0, .int .i64 0] 64)).alloc (.cells #[.int .i64 0, .int .i64 0, .int .i64 0, .int .i64 0, .slice none 0 0, .slice none 0 0] 69))
    simpa using this
  have hB4 : Blk A (w.heap.size + 4) [.slice none 0 0, .int .i64 0] := by
    rw [hA]
    have := ((((Blk.new ((((w.alloc (.cells #[.slice ha d.h.queues.length hc, .int .i64 d.h.next] 24)).alloc (.cells #[.slice la d.l.length lc, .int .i64 d.sure] 32)).alloc (.cells #[.slice ta d.ts.length tc, .int .i64 d.nx] 64)).alloc (.cells #[.int .i64 a.kind, .string a.queue, .int .i64 a.n, .slice pa a.note.props.length pc, .slice ba a.note.body.length bc] 66)) [.slice none 0 0, .int .i64 0] 24).alloc (.cells #[.slice none 0 0, .int .i64 0] 32)).alloc (.cells #[.slice none 0 0, .int .i64 0] 64)).alloc (.cells #[.int .i64 0, .int .i64 0, .int .i64 0, .int .i64 0, .slice none 0 0, .slice none 0 0] 69))
    simpa using this
  have hB5 : Blk A (w.heap.size + 5) [.slice none 0 0, .int .i64 0] := by
    rw [hA]
    have := (((Blk.new (((((w.alloc (.cells #[.slice ha d.h.queues.length hc, .int .i64 d.h.next] 24)).alloc (.cells #[.slice la d.l.length lc, .int .i64 d.sure] 32)).alloc (.cells #[.slice ta d.ts.length tc, .int .i64 d.nx] 64)).alloc (.cells #[.int .i64 a.kind, .string a.queue, .int .i64 a.n, .slice pa a.note.props.length pc, .slice ba a.note.body.length bc] 66)).alloc (.cells #[.slice none 0 0, .int .i64 0] 24)) [.slice none 0 0, .int .i64 0] 32).alloc (.cells #[.slice none 0 0, .int .i64 0] 64)).alloc (.cells #[.int .i64 0, .int .i64 0, .int .i64 0, .int .i64 0, .slice none 0 0, .slice none 0 0] 69))
    simpa using this
  have hB6 : Blk A (w.heap.size + 6) [.slice none 0 0, .int .i64 0] := by
    rw [hA]
    have := ((Blk.new ((((((w.alloc (.cells #[.slice ha d.h.queues.length hc, .int .i64 d.h.next] 24)).alloc (.cells #[.slice la d.l.length lc, .int .i64 d.sure] 32)).alloc (.cells #[.slice ta d.ts.length tc, .int .i64 d.nx] 64)).alloc (.cells #[.int .i64 a.kind, .string a.queue, .int .i64 a.n, .slice pa a.note.props.length pc, .slice ba a.note.body.length bc] 66)).alloc (.cells #[.slice none 0 0, .int .i64 0] 24)).alloc (.cells #[.slice none 0 0, .int .i64 0] 32)) [.slice none 0 0, .int .i64 0] 64).alloc (.cells #[.int .i64 0, .int .i64 0, .int .i64 0, .int .i64 0, .slice none 0 0, .slice none 0 0] 69))
    simpa using this
  have hB7 : Blk A (w.heap.size + 7) [.int .i64 0, .int .i64 0, .int .i64 0, .int .i64 0, .slice none 0 0, .slice none 0 0] := by
    rw [hA]
    have := (Blk.new (((((((w.alloc (.cells #[.slice ha d.h.queues.length hc, .int .i64 d.h.next] 24)).alloc (.cells #[.slice la d.l.length lc, .int .i64 d.sure] 32)).alloc (.cells #[.slice ta d.ts.length tc, .int .i64 d.nx] 64)).alloc (.cells #[.int .i64 a.kind, .string a.queue, .int .i64 a.n, .slice pa a.note.props.length pc, .slice ba a.note.body.length bc] 66)).alloc (.cells #[.slice none 0 0, .int .i64 0] 24)).alloc (.cells #[.slice none 0 0, .int .i64 0] 32)).alloc (.cells #[.slice none 0 0, .int .i64 0] 64)) [.int .i64 0, .int .i64 0, .int .i64 0, .int .i64 0, .slice none 0 0, .slice none 0 0] 69)
    simpa using this
  have HB : Hid (Blk A w.heap.size [.slice ha d.h.queues.length hc, .int .i64 d.h.next] ∧ Blk A (w.heap.size + 1) [.slice la d.l.length lc, .int .i64 d.sure] ∧ Blk A (w.heap.size + 2) [.slice ta d.ts.length tc, .int .i64 d.nx] ∧ Blk A (w.heap.size + 3) [.int .i64 a.kind, .string a.queue, .int .i64 a.n, .slice pa a.note.props.length pc, .slice ba a.note.body.length bc] ∧ Blk A (w.heap.size + 4) [.slice none 0 0, .int .i64 0] ∧ Blk A (w.heap.size + 5) [.slice none 0 0, .int .i64 0] ∧ Blk A (w.heap.size + 6) [.slice none 0 0, .int .i64 0] ∧ Blk A (w.heap.size + 7) [.int .i64 0, .int .i64 0, .int .i64 0, .int .i64 0, .slice none 0 0, .slice none 0 0]) := ⟨hB0, hB1, hB2, hB3, hB4, hB5, hB6, hB7⟩
  have HAZ : Hid (A.heap.size = w.heap.size + 8 ∧ Below w.heap.size w A) := ⟨hAz, hAb⟩
  have SC : Hid (∀ W, Below A.heap.size A W → W.cell? ⟨w.heap.size, 0, none⟩ = some (.slice ha d.h.queues.length hc) ∧ W.cell? ⟨w.heap.size, 1, none⟩ = some (.int .i64 d.h.next) ∧ W.cell? ⟨(w.heap.size + 1), 0, none⟩ = some (.slice la d.l.length lc) ∧ W.cell? ⟨(w.heap.size + 1), 1, none⟩ = some (.int .i64 d.sure) ∧ W.cell? ⟨(w.heap.size + 2), 0, none⟩ = some (.slice ta d.ts.length tc) ∧ W.cell? ⟨(w.heap.size + 2), 1, none⟩ = some (.int .i64 d.nx)) := by
    show ∀ W, Below A.heap.size A W → _
    intro W hW
    have h0 := (hB0.below hW hB0.lt).b2
    have h1 := (hB1.below hW hB1.lt).b2
    have h2 := (hB2.below hW hB2.lt).b2
    exact ⟨h0.1, h0.2.1, h1.1, h1.2.1, h2.1, h2.2.1⟩
  have up : ∀ W, Below A.heap.size A W → Below w.heap.size w W := fun W h => hAb.trans (h.mono (by omega))
  have P55 : Hid (∀ z W, ST0 A z W → Calls Try.prog 55 #[.agg #[.slice ha d.h.queues.length hc, .int .i64 d.h.next]] W fun e w' => ∃ a' c', e = .returned (.agg #[.slice a' d.h.queues.length c', .int .i64 d.h.next]) ∧ ST1 A z (.slice a' d.h.queues.length c') d w') := by
    show ∀ z W, ST0 A z W → _
    intro z W H
    refine (hallOwn_any _ d.h W ((hh.sub fun b h => ⟨Nat.lt_of_lt_of_le h (up W H.bel).size, (up W H.bel).block b h⟩)) ok.h.1).mono ?_
    rintro e w' ⟨vi, rfl, ho, hb⟩
    obtain ⟨L, hL, hr, hi⟩ := ho
    have hq : SliceQ (Made W.heap.size w'.heap.size) w' vi d.h.queues := ⟨L, hL, own_made hr (Nat.le_refl _), fun x hx => (hi x hx).sub fun b h => ⟨⟨h.1, h.2.1⟩, rfl⟩⟩
    obtain ⟨a', c', rfl⟩ := hq.shp
    exact ⟨a', c', rfl, H.on hb, hq.sub fun b h => ⟨cop_made H b h, rfl⟩⟩
  have P69 : Hid (∀ z W {hv' : Value}, ST1 A z hv' d W → Calls Try.prog 69 #[.agg #[.slice la d.l.length lc, .int .i64 d.sure]] W fun e w' => ∃ a' c', e = .returned (.agg #[.slice a' d.l.length c', .int .i64 d.sure]) ∧ ST2 A z hv' (.slice a' d.l.length c') d w') := by
    show ∀ z W {hv' : Value}, ST1 A z hv' d W → _
    intro z W hv' H
    refine (storeOwn_any _ d.sure d.l W (SliceV.sub hl fun b h => ⟨Nat.lt_of_lt_of_le h (up W H.bel).size, (up W H.bel).block b h⟩) ok.l).mono ?_
    rintro e w' ⟨a', c', rfl, ho, hb⟩
    exact ⟨a', c', rfl, H.on hb, SliceV.sub ho fun b h => ⟨cop_made H.toST0 b h, rfl⟩⟩
  have P68 : Hid (∀ z W {hv' lv' : Value}, ST2 A z hv' lv' d W → Calls Try.prog 68 #[.agg #[.slice ta d.ts.length tc, .int .i64 d.nx]] W fun e w' => ∃ a' c', e = .returned (.agg #[.slice a' d.ts.length c', .int .i64 d.nx]) ∧ ST3 A z hv' lv' (.slice a' d.ts.length c') d w') := by
    show ∀ z W {hv' lv' : Value}, ST2 A z hv' lv' d W → _
    intro z W hv' lv' H
    refine (sessOwn_any _ d.nx d.ts W (SliceT.on (W := A) (SliceV.sub ht fun b h => ⟨Nat.lt_of_lt_of_le h hAb.size, hAb.block b h⟩) ⟨H.bel.os, H.bel.tape, H.bel.output, H.bel.size, H.bel.block⟩) ok.ts).mono ?_
    rintro e w' ⟨a', c', rfl, ho, hb⟩
    exact ⟨a', c', rfl, ST3.mk' H hb ho⟩
  have PAN : Hid (∀ D hv' lv' tv' W, DeskIn (fun b => b < A.heap.size) D A.heap.size d hv' lv' tv' W → Below A.heap.size A W → Calls Try.prog 70 #[.pointer (some ⟨D, 0, none⟩), .agg #[.int .i64 a.kind, .string a.queue, .int .i64 a.n, .slice pa a.note.props.length pc, .slice ba a.note.body.length bc], .int .i64 now] W (SayAns (fun b => b < A.heap.size) D A.heap.size tv' (d.answer a now) W)) :=
    fun D hv' lv' tv' W H hW => answer_any _ D A.heap.size d hv' lv' tv' a _ _ now W H ok (hn.sub fun b h => ⟨Nat.lt_of_lt_of_le h (up W hW).size, (up W hW).block b h⟩) hq hf
  obtain ⟨RR, hRR⟩ : ∃ RR, RR = d.answer a now := ⟨_, rfl⟩
  rw [← hRR] at PAN ⊢
  obtain ⟨x0, x1, x2, x3, x4, x5⟩ := SC.out A (Below.refl _ _)
  have hz0 : w.heap.size + 8 ≤ A.heap.size := Nat.le_of_eq hAz.symm
  clear hh hl ht ok hn hq hf hAz hAb hB0 hB1 hB2 hB3 hB4 hB5 hB6 hB7 up hRR
  have n0 : A.heap.size ≠ w.heap.size := by omega
  have n1 : A.heap.size ≠ w.heap.size + 1 := by omega
  have n2 : A.heap.size ≠ w.heap.size + 2 := by omega
  go_enter Try.func37, Try.ntmps37
  go_upto_region 1 with fail
  rw [← hA]
  clear hA
  go_cut [15] (fun v wx => ∃ D hv' lv' tv', v = .pointer (some ⟨D, 0, none⟩) ∧ DeskIn (fun b => b < A.heap.size) D A.heap.size d hv' lv' tv' wx ∧ Below A.heap.size A wx)
  case first =>
    go_region_held3 (fun w' => w'.cell? ⟨w.heap.size, 0, none⟩ = some (.slice ha d.h.queues.length hc) ∧ w'.cell? ⟨w.heap.size, 1, none⟩ = some (.int .i64 d.h.next) ∧ w'.cell? ⟨(w.heap.size + 1), 0, none⟩ = some (.slice la d.l.length lc) ∧ w'.cell? ⟨(w.heap.size + 1), 1, none⟩ = some (.int .i64 d.sure) ∧ w'.cell? ⟨(w.heap.size + 2), 0, none⟩ = some (.slice ta d.ts.length tc) ∧ w'.cell? ⟨(w.heap.size + 2), 1, none⟩ = some (.int .i64 d.nx)) (go_keep) (first
      | (go_at_call 55; refine (P55.out _ _ (ST0.start A)).mono ?_; rintro e w1 ⟨xa1, xc1, rfl, hs1⟩; have HS1 : Hid _ := hs1; clear hs1; obtain ⟨x0, x1, x2, x3, x4, x5⟩ := SC.out _ HS1.out.bel; have hzHS1 : w.heap.size + 8 ≤ w1.heap.size := (by have := HS1.out.bel.size; have := HAZ.out; omega); have q0HS1 : w1.heap.size ≠ w.heap.size := (by omega); have q1HS1 : w1.heap.size ≠ w.heap.size + 1 := (by omega); have q2HS1 : w1.heap.size ≠ w.heap.size + 2 := (by omega))
      | (go_at_call 55; refine (P55.out _ _ (ST0.start' A)).mono ?_; rintro e w1 ⟨xa1, xc1, rfl, hs1⟩; have HS1 : Hid _ := hs1; clear hs1; obtain ⟨x0, x1, x2, x3, x4, x5⟩ := SC.out _ HS1.out.bel; have hzHS1 : w.heap.size + 8 ≤ w1.heap.size := (by have := HS1.out.bel.size; have := HAZ.out; omega); have q0HS1 : w1.heap.size ≠ w.heap.size := (by omega); have q1HS1 : w1.heap.size ≠ w.heap.size + 1 := (by omega); have q2HS1 : w1.heap.size ≠ w.heap.size + 2 := (by omega))
      | (go_at_call 69; refine (P69.out _ _ HS1.out).mono ?_; rintro e w2 ⟨xa2, xc2, rfl, hs2⟩; have HS2 : Hid _ := hs2; clear hs2 x0 x1 x2 x3 x4 x5; obtain ⟨x0, x1, x2, x3, x4, x5⟩ := SC.out _ HS2.out.bel; have hzHS2 : w.heap.size + 8 ≤ w2.heap.size := (by have := HS2.out.bel.size; have := HAZ.out; omega); have q0HS2 : w2.heap.size ≠ w.heap.size := (by omega); have q1HS2 : w2.heap.size ≠ w.heap.size + 1 := (by omega); have q2HS2 : w2.heap.size ≠ w.heap.size + 2 := (by omega))
      | (go_at_call 69; refine (P69.out _ _ HS1.out.alloc).mono ?_; rintro e w2 ⟨xa2, xc2, rfl, hs2⟩; have HS2 : Hid _ := hs2; clear hs2 x0 x1 x2 x3 x4 x5; obtain ⟨x0, x1, x2, x3, x4, x5⟩ := SC.out _ HS2.out.bel; have hzHS2 : w.heap.size + 8 ≤ w2.heap.size := (by have := HS2.out.bel.size; have := HAZ.out; omega); have q0HS2 : w2.heap.size ≠ w.heap.size := (by omega); have q1HS2 : w2.heap.size ≠ w.heap.size + 1 := (by omega); have q2HS2 : w2.heap.size ≠ w.heap.size + 2 := (by omega))
      | (go_at_call 68; refine (P68.out _ _ HS2.out).mono ?_; rintro e w3 ⟨xa3, xc3, rfl, hs3⟩; have HS3 : Hid _ := hs3; clear hs3 x0 x1 x2 x3 x4 x5; obtain ⟨x0, x1, x2, x3, x4, x5⟩ := SC.out _ HS3.out.bel; have hzHS3 : w.heap.size + 8 ≤ w3.heap.size := (by have := HS3.out.bel.size; have := HAZ.out; omega); have q0HS3 : w3.heap.size ≠ w.heap.size := (by omega); have q1HS3 : w3.heap.size ≠ w.heap.size + 1 := (by omega); have q2HS3 : w3.heap.size ≠ w.heap.size + 2 := (by omega); (try obtain ⟨d0, d1, d2, d3, d4, d5, d6, d7⟩ := (HS3.out.zb _ rfl).2.b6))
      | (go_at_call 68; refine (P68.out _ _ HS2.out.alloc).mono ?_; rintro e w3 ⟨xa3, xc3, rfl, hs3⟩; have HS3 : Hid _ := hs3; clear hs3 x0 x1 x2 x3 x4 x5; obtain ⟨x0, x1, x2, x3, x4, x5⟩ := SC.out _ HS3.out.bel; have hzHS3 : w.heap.size + 8 ≤ w3.heap.size := (by have := HS3.out.bel.size; have := HAZ.out; omega); have q0HS3 : w3.heap.size ≠ w.heap.size := (by omega); have q1HS3 : w3.heap.size ≠ w.heap.size + 1 := (by omega); have q2HS3 : w3.heap.size ≠ w.heap.size + 2 := (by omega); (try obtain ⟨d0, d1, d2, d3, d4, d5, d6, d7⟩ := (HS3.out.zb _ rfl).2.b6))
      | fail)
    · go_wp2_with fail
      go_meet
      exact ⟨_, _, _, _, rfl, HS3.out.new⟩
    · go_wp2_with fail
      go_meet
      have hh6 := HS3.out.old6
      exact ⟨_, _, _, _, rfl, hh6⟩
    · go_wp2_with fail
      go_meet
      have hh6 := HS3.out.old6
      exact ⟨_, _, _, _, rfl, hh6⟩
    · go_wp2_with fail
      go_meet
      have hh6 := HS3.out.old6
      exact ⟨_, _, _, _, rfl, hh6⟩
  case rest =>
    obtain ⟨D, hv', lv', tv', rfl, hD, hb⟩ := hcut
    have HD : Hid (DeskIn (fun b => b < A.heap.size) D A.heap.size d hv' lv' tv' wc ∧ Below A.heap.size A wc) := ⟨hD, hb⟩
    obtain ⟨c0, c1, c2, c3, c4, c5, c6⟩ := (HB.out.2.2.2.1.below hb HB.out.2.2.2.1.lt).b5
    clear hD hb x0 x1 x2 x3 x4 x5 P55 P69 P68 SC n0 n1 n2
    go_upto_region 3 with (first
      | (go_at_call 70; refine (PAN.out _ _ _ _ _ HD.out.1 HD.out.2).mono ?_; rintro e w4 ⟨qa, qc, ua, uc, rfl, ⟨hv3, lv3, tv3, hd3, hn3⟩, hb3, hk3⟩; have H4 : Hid (DeskIn (fun b => b < A.heap.size) D A.heap.size RR.1 hv3 lv3 tv3 w4 ∧ NoteIs (fun b => b < w4.heap.size ∧ ¬ b < A.heap.size) w4 (.slice qa RR.2.1.note.props.length qc, .slice ua RR.2.1.note.body.length uc) RR.2.1.note ∧ Below A.heap.size A w4) := ⟨hd3, hn3, HD.out.2.trans hb3⟩; clear hd3 hn3 hb3 hk3 c0 c1 c2 c3 c4 c5 c6)
      | fail)
    obtain ⟨V, hVe⟩ : ∃ V, V = w4.alloc (.cells #[.int .i64 RR.2.1.kind, .int .i64 RR.2.1.n, .int .i64 RR.2.1.m, .int .i64 RR.2.1.err, .slice qa RR.2.1.note.props.length qc, .slice ua RR.2.1.note.body.length uc] 69) := ⟨_, rfl⟩
    have HV : Hid (DeskIn (fun b => b < A.heap.size) D A.heap.size RR.1 hv3 lv3 tv3 V ∧ NoteIs (fun b => b < V.heap.size ∧ ¬ b < A.heap.size) V (.slice qa RR.2.1.note.props.length qc, .slice ua RR.2.1.note.body.length uc) RR.2.1.note ∧ Below A.heap.size A V ∧ Blk V w4.heap.size [.int .i64 RR.2.1.kind, .int .i64 RR.2.1.n, .int .i64 RR.2.1.m, .int .i64 RR.2.1.err, .slice qa RR.2.1.note.props.length qc, .slice ua RR.2.1.note.body.length uc]) := by
      have hbv : Below w4.heap.size w4 V := by rw [hVe]; exact below_alloc _ _
      exact ⟨H4.out.1.on hbv, H4.out.2.1.sub fun b h => ⟨⟨Nat.lt_of_lt_of_le h.1 hbv.size, h.2⟩, hbv.block b h.1⟩, H4.out.2.2.trans (hbv.mono H4.out.2.2.size), by rw [hVe]; exact Blk.new _ _ _⟩
    rw [← hVe]
    have hge4 : A.heap.size ≤ w4.heap.size := H4.out.2.2.size
    have hgeD : A.heap.size ≤ D := H4.out.1.lo
    clear hVe H4 HD PAN
    obtain ⟨ha3, hc3, rfl⟩ := HV.out.1.q.shp
    obtain ⟨la3, lc3, rfl, -⟩ := SliceV.shape HV.out.1.l
    obtain ⟨ta3, tc3, rfl, -⟩ := own_shape HV.out.1.t
    obtain ⟨d0, d1, d2, d3, d4, d5, d6, d7⟩ := HV.out.1.box.b6
    obtain ⟨e0, e1, e2, e3, e4, e5, e6, e7⟩ := HV.out.2.2.2.b6
    obtain ⟨f0, f1, f2, f3⟩ := (HB.out.2.2.2.2.1.below HV.out.2.2.1 HB.out.2.2.2.2.1.lt).b2
    obtain ⟨g0, g1, g2, g3⟩ := (HB.out.2.2.2.2.2.1.below HV.out.2.2.1 HB.out.2.2.2.2.2.1.lt).b2
    obtain ⟨h0, h1, h2, h3⟩ := (HB.out.2.2.2.2.2.2.1.below HV.out.2.2.1 HB.out.2.2.2.2.2.2.1.lt).b2
    obtain ⟨i0, i1, i2, i3, i4, i5, i6, i7⟩ := (HB.out.2.2.2.2.2.2.2.below HV.out.2.2.1 HB.out.2.2.2.2.2.2.2.lt).b6
    have hFin : Hid (∀ y0 y1 y2 y3 y4 y5 y6 y7 y8 y9 y10 y11 : Value, ∀ W5, W5 = ((((((((((((V.setCell ⟨w.heap.size + 1 + 1 + 1 + 1, 0, none⟩ y0).setCell ⟨w.heap.size + 1 + 1 + 1 + 1, 1, none⟩ y1).setCell ⟨w.heap.size + 1 + 1 + 1 + 1 + 1, 0, none⟩ y2).setCell ⟨w.heap.size + 1 + 1 + 1 + 1 + 1, 1, none⟩ y3).setCell ⟨w.heap.size + 1 + 1 + 1 + 1 + 1 + 1, 0, none⟩ y4).setCell ⟨w.heap.size + 1 + 1 + 1 + 1 + 1 + 1, 1, none⟩ y5).setCell ⟨w.heap.size + 1 + 1 + 1 + 1 + 1 + 1 + 1, 0, none⟩ y6).setCell ⟨w.heap.size + 1 + 1 + 1 + 1 + 1 + 1 + 1, 1, none⟩ y7).setCell ⟨w.heap.size + 1 + 1 + 1 + 1 + 1 + 1 + 1, 2, none⟩ y8).setCell ⟨w.heap.size + 1 + 1 + 1 + 1 + 1 + 1 + 1, 3, none⟩ y9).setCell ⟨w.heap.size + 1 + 1 + 1 + 1 + 1 + 1 + 1, 4, none⟩ y10).setCell ⟨w.heap.size + 1 + 1 + 1 + 1 + 1 + 1 + 1, 5, none⟩ y11).drew → SliceQ (Made w.heap.size W5.heap.size) W5 (.slice ha3 RR.1.h.queues.length hc3) RR.1.h.queues ∧ SliceB (Made w.heap.size W5.heap.size) W5 (.slice la3 RR.1.l.length lc3) RR.1.l ∧ SliceT (Made w.heap.size W5.heap.size) W5 (.slice ta3 RR.1.ts.length tc3) RR.1.ts ∧ NoteIs (Made w.heap.size W5.heap.size) W5 (.slice qa RR.2.1.note.props.length qc, .slice ua RR.2.1.note.body.length uc) RR.2.1.note ∧ Below w.heap.size w W5) := by
      show ∀ y0 y1 y2 y3 y4 y5 y6 y7 y8 y9 y10 y11 : Value, ∀ W5, W5 = ((((((((((((V.setCell ⟨w.heap.size + 1 + 1 + 1 + 1, 0, none⟩ y0).setCell ⟨w.heap.size + 1 + 1 + 1 + 1, 1, none⟩ y1).setCell ⟨w.heap.size + 1 + 1 + 1 + 1 + 1, 0, none⟩ y2).setCell ⟨w.heap.size + 1 + 1 + 1 + 1 + 1, 1, none⟩ y3).setCell ⟨w.heap.size + 1 + 1 + 1 + 1 + 1 + 1, 0, none⟩ y4).setCell ⟨w.heap.size + 1 + 1 + 1 + 1 + 1 + 1, 1, none⟩ y5).setCell ⟨w.heap.size + 1 + 1 + 1 + 1 + 1 + 1 + 1, 0, none⟩ y6).setCell ⟨w.heap.size + 1 + 1 + 1 + 1 + 1 + 1 + 1, 1, none⟩ y7).setCell ⟨w.heap.size + 1 + 1 + 1 + 1 + 1 + 1 + 1, 2, none⟩ y8).setCell ⟨w.heap.size + 1 + 1 + 1 + 1 + 1 + 1 + 1, 3, none⟩ y9).setCell ⟨w.heap.size + 1 + 1 + 1 + 1 + 1 + 1 + 1, 4, none⟩ y10).setCell ⟨w.heap.size + 1 + 1 + 1 + 1 + 1 + 1 + 1, 5, none⟩ y11).drew → _
      intro y0 y1 y2 y3 y4 y5 y6 y7 y8 y9 y10 y11 W5 hW5
      obtain ⟨hz, far, hos⟩ := do_stores V w.heap.size y0 y1 y2 y3 y4 y5 y6 y7 y8 y9 y10 y11 W5 hW5
      clear hW5
      have ge : ∀ b, ¬ b < A.heap.size → W5.heap[b]? = V.heap[b]? := fun b h => far b (by have := HAZ.out.1; omega)
      have hbv : Below w.heap.size w V := HAZ.out.2.trans (HV.out.2.2.1.mono (by have := HAZ.out.1; omega))
      have gw : ∀ b, ¬ b < A.heap.size → w.heap.size ≤ b := fun b h => by have := HAZ.out.1; omega
      refine ⟨HV.out.1.q.sub fun b h => ⟨⟨gw b h.2.2.2, by rw [hz]; exact h.1⟩, ge b h.2.2.2⟩, SliceV.sub HV.out.1.l fun b h => ⟨⟨gw b h.2.2.2, by rw [hz]; exact h.1⟩, ge b h.2.2.2⟩, SliceV.sub (own_slice HV.out.1.t) fun b h => ⟨⟨gw b (by have := (HV.out.1.t.lt b h).1; omega), by rw [hz]; exact (HV.out.1.t.lt b h).2⟩, ge b (by have := (HV.out.1.t.lt b h).1; omega)⟩, HV.out.2.1.sub fun b h => ⟨⟨gw b h.2, by rw [hz]; exact h.1⟩, ge b h.2⟩, hos.1.trans hbv.os, hos.2.1.trans hbv.tape, hos.2.2.trans hbv.output, by have := hbv.size; omega, fun b h => (far b (by omega)).trans (hbv.block b h)⟩
    clear HB HAZ HV
    go_region_law (fail)
    all_goals
      go_wp2_with fail
      refine bodyPost_ret (v := .tuple #[.agg #[.slice ha3 RR.1.h.queues.length hc3, .int .i64 RR.1.h.next], .agg #[.slice la3 RR.1.l.length lc3, .int .i64 RR.1.sure], .agg #[.slice ta3 RR.1.ts.length tc3, .int .i64 RR.1.nx], .agg #[.int .i64 RR.2.1.kind, .int .i64 RR.2.1.n, .int .i64 RR.2.1.m, .int .i64 RR.2.1.err, .slice qa RR.2.1.note.props.length qc, .slice ua RR.2.1.note.body.length uc], .int .i64 RR.2.2]) (by simp [results, Try.results37, go_sem, *]; done) rfl ⟨ha3, hc3, la3, lc3, ta3, tc3, qa, qc, ua, uc, rfl, hFin.out _ _ _ _ _ _ _ _ _ _ _ _ _ rfl⟩
end Go.Proofs.Ytkddkpdfeeikhaa
