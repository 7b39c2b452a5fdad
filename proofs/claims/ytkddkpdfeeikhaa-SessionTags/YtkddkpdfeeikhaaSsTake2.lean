/-
  take: the next item, with a tag of its own.
-/
import Derived.Test.YtkddkpdfeeikhaaSsTagProofM27
namespace Go.Proofs.Ytkddkpdfeeikhaa
open Go.RowKit
set_option linter.unusedVariables false
set_option linter.unusedSimpArgs false

attribute [local go_sem ↓] Go.wp_at_zero Go.wp_at_succ

/-- A hall in the box b8, an item in the box b9, behind a call from W. -/
structure KB (W : World) (h : HD) (it : IT) (v : Value) (p : Value × Value) (b8 b9 : Nat) (wx : World) : Prop where
  bel : Below W.heap.size W wx
  k8 : Blk wx b8 [v, .int .i64 h.next]
  k9 : Blk wx b9 (it.cells p)
  q : SliceQ (Made W.heap.size wx.heap.size) wx v h.queues
  n : NoteIs (Made W.heap.size wx.heap.size) wx p it.note
  l8 : W.heap.size ≤ b8
  l9 : W.heap.size ≤ b9

section
variable {W w1 wx : World} {h : HD} {it : IT} {v : Value} {p : Value × Value}

theorem KB.mk' {Z b8 b9 : Nat} (hZ : W.heap.size ≤ Z) (hb : Below W.heap.size W w1) (hV : SliceQ (Made Z w1.heap.size) w1 v h.queues ∧ NoteIs (Made Z w1.heap.size) w1 p it.note) (hos : wx.os = w1.os ∧ wx.tape = w1.tape ∧ wx.output = w1.output) (hz : w1.heap.size ≤ wx.heap.size)
    (hx : ∀ b, b < w1.heap.size → (b < W.heap.size ∨ Z ≤ b) → wx.heap[b]? = w1.heap[b]?) (k8 : Blk wx b8 [v, .int .i64 h.next]) (k9 : Blk wx b9 (it.cells p)) (l8 : W.heap.size ≤ b8) (l9 : W.heap.size ≤ b9) : KB W h it v p b8 b9 wx := by
  have hz1 := hb.size
  exact ⟨⟨hos.1.trans hb.os, hos.2.1.trans hb.tape, hos.2.2.trans hb.output, by omega, fun b hb' => (hx b (by omega) (.inl hb')).trans (hb.block b hb')⟩, k8, k9, hV.1.sub fun b hb' => ⟨⟨by have := hb'.1; omega, by have := hb'.2; omega⟩, hx b hb'.2 (.inr hb'.1)⟩, hV.2.sub fun b hb' => ⟨⟨by have := hb'.1; omega, by have := hb'.2; omega⟩, hx b hb'.2 (.inr hb'.1)⟩, l8, l9⟩

theorem KB.f1 (hb : Below W.heap.size W w1) (hV : SliceQ (Made W.heap.size w1.heap.size) w1 v h.queues ∧ NoteIs (Made W.heap.size w1.heap.size) w1 p it.note) : KB W h it v p w1.heap.size (w1.heap.size + 1) (((w1.alloc (.cells #[v, .int .i64 h.next] 24)).alloc (.cells #[.int .i64 it.id, .int .i64 it.turn, .int .i64 it.tries, .bool it.out, .int .i64 it.due, p.1, p.2] 78))) := by
  have hz := hb.size
  refine KB.mk' (Nat.le_refl _) hb hV ⟨rfl, rfl, rfl⟩ (by simp; omega) (fun b hb _ => (Below.heap_alloc _ _ _ (by simp; omega)).trans (Below.heap_alloc _ _ _ hb)) ((Blk.new _ _ _).alloc _) ?_ (by omega) (by omega)
  have := Blk.new (w1.alloc (.cells #[v, .int .i64 h.next] 24)) (it.cells p) 78
  rw [World.size_alloc] at this
  exact this
theorem KB.f2 (hb : Below W.heap.size W w1) (hV : SliceQ (Made W.heap.size w1.heap.size) w1 v h.queues ∧ NoteIs (Made W.heap.size w1.heap.size) w1 p it.note) : KB W h it v p (w1.heap.size + 1) w1.heap.size (((w1.alloc (.cells #[.int .i64 it.id, .int .i64 it.turn, .int .i64 it.tries, .bool it.out, .int .i64 it.due, p.1, p.2] 78)).alloc (.cells #[v, .int .i64 h.next] 24))) := by
  have hz := hb.size
  refine KB.mk' (Nat.le_refl _) hb hV ⟨rfl, rfl, rfl⟩ (by simp; omega) (fun b hb _ => (Below.heap_alloc _ _ _ (by simp; omega)).trans (Below.heap_alloc _ _ _ hb)) ?_ ((Blk.new w1 (it.cells p) 78).alloc _) (by omega) (by omega)
  have := Blk.new (w1.alloc (.cells (it.cells p).toArray 78)) [v, .int .i64 h.next] 24
  rw [World.size_alloc] at this
  exact this
theorem KB.f3 (hb : Below W.heap.size W w1) (hV : SliceQ (Made (W.heap.size + 1) w1.heap.size) w1 v h.queues ∧ NoteIs (Made (W.heap.size + 1) w1.heap.size) w1 p it.note) {y0 y1 : Value} (h8 : Blk w1 W.heap.size [y0, y1]) : KB W h it v p W.heap.size w1.heap.size ((set2 w1 W.heap.size v (.int .i64 h.next)).alloc (.cells #[.int .i64 it.id, .int .i64 it.turn, .int .i64 it.tries, .bool it.out, .int .i64 it.due, p.1, p.2] 78)) := by
  have hz := hb.size
  have hl := h8.lt
  refine KB.mk' (by omega) hb hV ⟨(al_os _ _).trans set2_os.1, (al_tape _ _).trans set2_os.2.1, (al_output _ _).trans set2_os.2.2⟩ (by simp [set2_size]) (fun b hb hc => (Below.heap_alloc _ _ _ (by rw [set2_size]; omega)).trans (set2_far (by omega))) ((set2_blk h8).alloc _) ?_ (by omega) (by omega)
  have := Blk.new (set2 w1 W.heap.size v (.int .i64 h.next)) (it.cells p) 78
  rw [set2_size] at this
  exact this
theorem KB.f4 (hb : Below W.heap.size W w1) (hV : SliceQ (Made (W.heap.size + 1) w1.heap.size) w1 v h.queues ∧ NoteIs (Made (W.heap.size + 1) w1.heap.size) w1 p it.note) {z0 z1 z2 z3 z4 z5 z6 : Value} (h9 : Blk w1 W.heap.size [z0, z1, z2, z3, z4, z5, z6]) : KB W h it v p w1.heap.size W.heap.size ((set7 w1 W.heap.size (.int .i64 it.id) (.int .i64 it.turn) (.int .i64 it.tries) (.bool it.out) (.int .i64 it.due) p.1 p.2).alloc (.cells #[v, .int .i64 h.next] 24)) := by
  have hz := hb.size
  have hl := h9.lt
  refine KB.mk' (by omega) hb hV ⟨(al_os _ _).trans set7_os.1, (al_tape _ _).trans set7_os.2.1, (al_output _ _).trans set7_os.2.2⟩ (by simp [set7_size]) (fun b hb hc => (Below.heap_alloc _ _ _ (by rw [set7_size]; omega)).trans (set7_far (by omega))) ?_ ((set7_blk h9).alloc _) (by omega) (by omega)
  have := Blk.new (set7 w1 W.heap.size (.int .i64 it.id) (.int .i64 it.turn) (.int .i64 it.tries) (.bool it.out) (.int .i64 it.due) p.1 p.2) [v, .int .i64 h.next] 24
  rw [set7_size] at this
  exact this
theorem KB.f5 (hb : Below W.heap.size W w1) (hV : SliceQ (Made (W.heap.size + 2) w1.heap.size) w1 v h.queues ∧ NoteIs (Made (W.heap.size + 2) w1.heap.size) w1 p it.note) {y0 y1 z0 z1 z2 z3 z4 z5 z6 : Value} (h8 : Blk w1 W.heap.size [y0, y1]) (h9 : Blk w1 (W.heap.size + 1) [z0, z1, z2, z3, z4, z5, z6]) : KB W h it v p W.heap.size (W.heap.size + 1) (set7 (set2 w1 W.heap.size v (.int .i64 h.next)) (W.heap.size + 1) (.int .i64 it.id) (.int .i64 it.turn) (.int .i64 it.tries) (.bool it.out) (.int .i64 it.due) p.1 p.2) := by
  have hz := hb.size
  have hl := h9.lt
  exact KB.mk' (by omega) hb hV ⟨set7_os.1.trans set2_os.1, set7_os.2.1.trans set2_os.2.1, set7_os.2.2.trans set2_os.2.2⟩ (by simp [set2_size, set7_size]) (fun b hb hc => (set7_far (by omega)).trans (set2_far (by omega))) ((set2_blk h8).same (set7_far (by omega))) (set7_blk (h9.same (set2_far (by omega)))) (by omega) (by omega)
theorem KB.f6 (hb : Below W.heap.size W w1) (hV : SliceQ (Made (W.heap.size + 2) w1.heap.size) w1 v h.queues ∧ NoteIs (Made (W.heap.size + 2) w1.heap.size) w1 p it.note) {y0 y1 z0 z1 z2 z3 z4 z5 z6 : Value} (h9 : Blk w1 W.heap.size [z0, z1, z2, z3, z4, z5, z6]) (h8 : Blk w1 (W.heap.size + 1) [y0, y1]) : KB W h it v p (W.heap.size + 1) W.heap.size (set7 (set2 w1 (W.heap.size + 1) v (.int .i64 h.next)) W.heap.size (.int .i64 it.id) (.int .i64 it.turn) (.int .i64 it.tries) (.bool it.out) (.int .i64 it.due) p.1 p.2) := by
  have hz := hb.size
  have hl := h8.lt
  exact KB.mk' (by omega) hb hV ⟨set7_os.1.trans set2_os.1, set7_os.2.1.trans set2_os.2.1, set7_os.2.2.trans set2_os.2.2⟩ (by simp [set2_size, set7_size]) (fun b hb hc => (set7_far (by omega)).trans (set2_far (by omega))) ((set2_blk h8).same (set7_far (by omega))) (set7_blk (h9.same (set2_far (by omega)))) (by omega) (by omega)
end

/-- An answer. -/
structure SayD where
  kind : Int
  n : Int
  m : Int
  err : Int
  note : ND

def noteN : ND := ⟨[], []⟩
def saySay (err : Int) : SayD := ⟨(sayE err).1, 0, 0, (sayE err).2, noteN⟩
/-- What a take comes to. -/
def DK.take (d : DK) (k : Int) (q : ByteArray) (now : Int) : DK × SayD × Int :=
  if 4 ≤ d.ts.length then (d, saySay 5, 0)
  else if (faceF d.h q (fun k q => takeF d.h k q now)).2.2 = 9 then (if k = 6 then (d, ⟨0, 0, 0, 0, noteN⟩, 9) else (d, ⟨3, 0, 0, 0, noteN⟩, 0))
  else if (faceF d.h q (fun k q => takeF d.h k q now)).2.2 = 0 then
    (⟨(faceF d.h q (fun k q => takeF d.h k q now)).1, d.l, d.sure, d.ts ++ [⟨d.nx + 1, q, (giveF d.h q now).id, (giveF d.h q now).turn⟩], d.nx + 1⟩, ⟨2, d.nx + 1, (giveF d.h q now).tries, 0, (giveF d.h q now).note⟩, 0)
  else (d, saySay (faceF d.h q (fun k q => takeF d.h k q now)).2.2, 0)

/-- A desk, and what is said. -/
def SayAns (N : Nat → Prop) (D lo : Nat) (tv0 : Value) (r : DK × SayD × Int) (w : World) (e : Ending) (w' : World) : Prop :=
  ∃ pa pc ba bc, e = .returned (.tuple #[.agg #[.int .i64 r.2.1.kind, .int .i64 r.2.1.n, .int .i64 r.2.1.m, .int .i64 r.2.1.err, .slice pa r.2.1.note.props.length pc, .slice ba r.2.1.note.body.length bc], .int .i64 r.2.2]) ∧
    (∃ hv lv tv, DeskIn N D lo r.1 hv lv tv w' ∧ NoteIs (fun b => b < w'.heap.size ∧ ¬ N b) w' (.slice pa r.2.1.note.props.length pc, .slice ba r.2.1.note.body.length bc) r.2.1.note) ∧ Below lo w w' ∧ ∀ b, b < w.heap.size → b ≠ D → tv0.ownBlock ≠ some b → w'.heap[b]? = w.heap[b]?

theorem set6_any (w6 : World) (g : Nat) (x0 x1 x2 x3 x4 x5 : Value) :
    ((((((w6.setCell ⟨g, 0, none⟩ x0).setCell ⟨g, 1, none⟩ x1).setCell ⟨g, 2, none⟩ x2).setCell ⟨g, 3, none⟩ x3).setCell ⟨g, 4, none⟩ x4).setCell ⟨g, 5, none⟩ x5).heap.size = w6.heap.size ∧
    (∀ b, b ≠ g → ((((((w6.setCell ⟨g, 0, none⟩ x0).setCell ⟨g, 1, none⟩ x1).setCell ⟨g, 2, none⟩ x2).setCell ⟨g, 3, none⟩ x3).setCell ⟨g, 4, none⟩ x4).setCell ⟨g, 5, none⟩ x5).heap[b]? = w6.heap[b]?) ∧
    (((((((w6.setCell ⟨g, 0, none⟩ x0).setCell ⟨g, 1, none⟩ x1).setCell ⟨g, 2, none⟩ x2).setCell ⟨g, 3, none⟩ x3).setCell ⟨g, 4, none⟩ x4).setCell ⟨g, 5, none⟩ x5).os = w6.os ∧ ((((((w6.setCell ⟨g, 0, none⟩ x0).setCell ⟨g, 1, none⟩ x1).setCell ⟨g, 2, none⟩ x2).setCell ⟨g, 3, none⟩ x3).setCell ⟨g, 4, none⟩ x4).setCell ⟨g, 5, none⟩ x5).tape = w6.tape ∧ ((((((w6.setCell ⟨g, 0, none⟩ x0).setCell ⟨g, 1, none⟩ x1).setCell ⟨g, 2, none⟩ x2).setCell ⟨g, 3, none⟩ x3).setCell ⟨g, 4, none⟩ x4).setCell ⟨g, 5, none⟩ x5).output = w6.output) := by
  have key : ∀ (W : World) (o : Nat) (x : Value), (W.setCell ⟨g, o, none⟩ x).heap.size = W.heap.size ∧ (∀ b, b ≠ g → (W.setCell ⟨g, o, none⟩ x).heap[b]? = W.heap[b]?) := fun W o x => ⟨by simp, fun b hb => Below.heap_setCell _ _ _ _ hb⟩
  obtain ⟨w0, h0⟩ : ∃ w0, w0 = w6.setCell ⟨g, 0, none⟩ x0 := ⟨_, rfl⟩
  obtain ⟨w1, h1⟩ : ∃ w1, w1 = w0.setCell ⟨g, 1, none⟩ x1 := ⟨_, rfl⟩
  obtain ⟨w2, h2⟩ : ∃ w2, w2 = w1.setCell ⟨g, 2, none⟩ x2 := ⟨_, rfl⟩
  obtain ⟨w3, h3⟩ : ∃ w3, w3 = w2.setCell ⟨g, 3, none⟩ x3 := ⟨_, rfl⟩
  obtain ⟨w4, h4⟩ : ∃ w4, w4 = w3.setCell ⟨g, 4, none⟩ x4 := ⟨_, rfl⟩
  obtain ⟨w5, h5⟩ : ∃ w5, w5 = w4.setCell ⟨g, 5, none⟩ x5 := ⟨_, rfl⟩
  rw [← h0, ← h1, ← h2, ← h3, ← h4, ← h5]
  have k0 := key w6 0 x0
  have k1 := key w0 1 x1
  have k2 := key w1 2 x2
  have k3 := key w2 3 x3
  have k4 := key w3 4 x4
  have k5 := key w4 5 x5
  rw [← h0] at k0
  rw [← h1] at k1
  rw [← h2] at k2
  rw [← h3] at k3
  rw [← h4] at k4
  rw [← h5] at k5
  refine ⟨by show w5.heap.size = _; omega, fun b hb => ?_, ?_⟩
  · show w5.heap[b]? = _
    rw [k5.2 b hb, k4.2 b hb, k3.2 b hb, k2.2 b hb, k1.2 b hb, k0.2 b hb]
  · show w5.os = _ ∧ w5.tape = _ ∧ w5.output = _
    subst h0 h1 h2 h3 h4 h5
    exact ⟨by simp only [sc_os], by simp only [sc_tape], by simp only [sc_output]⟩

/-- What is said is laid into its own box. -/
theorem say_end {N : Nat → Prop} {D lo : Nat} {d : DK} {hv lv tv : Value} {w A w6 : World} {g : Nat} {n : ND} {pa ba : Option Addr} {pc bc : Nat} (x0 x1 x2 x3 x4 x5 : Value) (H : DeskIn (fun b => N b ∨ (w.heap.size ≤ b ∧ b < A.heap.size)) D lo d hv lv tv w6) (hg : w.heap.size ≤ g ∧ g < A.heap.size) (hlo : lo ≤ w.heap.size) (hb : Below lo w w6) (tv0 : Value) (hk : ∀ b, b < w.heap.size → b ≠ D → tv0.ownBlock ≠ some b → w6.heap[b]? = w.heap[b]?)
    (hn : NoteIs (fun b => b < w6.heap.size ∧ b ≠ g ∧ ¬ N b) w6 (.slice pa n.props.length pc, .slice ba n.body.length bc) n) :
    (∃ hv lv tv, DeskIn N D lo d hv lv tv ((((((w6.setCell ⟨g, 0, none⟩ x0).setCell ⟨g, 1, none⟩ x1).setCell ⟨g, 2, none⟩ x2).setCell ⟨g, 3, none⟩ x3).setCell ⟨g, 4, none⟩ x4).setCell ⟨g, 5, none⟩ x5) ∧ NoteIs (fun b => b < (((((((w6.setCell ⟨g, 0, none⟩ x0).setCell ⟨g, 1, none⟩ x1).setCell ⟨g, 2, none⟩ x2).setCell ⟨g, 3, none⟩ x3).setCell ⟨g, 4, none⟩ x4).setCell ⟨g, 5, none⟩ x5)).heap.size ∧ ¬ N b) (((((((w6.setCell ⟨g, 0, none⟩ x0).setCell ⟨g, 1, none⟩ x1).setCell ⟨g, 2, none⟩ x2).setCell ⟨g, 3, none⟩ x3).setCell ⟨g, 4, none⟩ x4).setCell ⟨g, 5, none⟩ x5)) (.slice pa n.props.length pc, .slice ba n.body.length bc) n) ∧ Below lo w ((((((w6.setCell ⟨g, 0, none⟩ x0).setCell ⟨g, 1, none⟩ x1).setCell ⟨g, 2, none⟩ x2).setCell ⟨g, 3, none⟩ x3).setCell ⟨g, 4, none⟩ x4).setCell ⟨g, 5, none⟩ x5) ∧ ∀ b, b < w.heap.size → b ≠ D → tv0.ownBlock ≠ some b → ((((((w6.setCell ⟨g, 0, none⟩ x0).setCell ⟨g, 1, none⟩ x1).setCell ⟨g, 2, none⟩ x2).setCell ⟨g, 3, none⟩ x3).setCell ⟨g, 4, none⟩ x4).setCell ⟨g, 5, none⟩ x5).heap[b]? = w.heap[b]? := by
  obtain ⟨h1, h2, h3⟩ := set6_any w6 g x0 x1 x2 x3 x4 x5
  obtain ⟨W', hW'⟩ : ∃ W', W' = ((((((w6.setCell ⟨g, 0, none⟩ x0).setCell ⟨g, 1, none⟩ x1).setCell ⟨g, 2, none⟩ x2).setCell ⟨g, 3, none⟩ x3).setCell ⟨g, 4, none⟩ x4).setCell ⟨g, 5, none⟩ x5) := ⟨_, rfl⟩
  rw [← hW'] at h1 h2 h3 ⊢
  exact ⟨⟨hv, lv, tv, (H.other h1 fun b hn => h2 b (fun e => hn (by rw [e]; exact .inr hg))).less fun b h => .inl h, hn.sub fun b h => ⟨⟨by rw [h1]; exact h.1, h.2.2⟩, h2 b h.2.1⟩⟩, ⟨h3.1.trans hb.os, h3.2.1.trans hb.tape, h3.2.2.trans hb.output, by have := hb.size; omega, fun b hb' => (h2 b (by omega)).trans (hb.block b hb')⟩, fun b a1 a2 a3 => (h2 b (by omega)).trans (hk b a1 a2 a3)⟩

set_option maxRecDepth 100000 in
set_option maxHeartbeats 6400000 in
theorem sstake_any (N : Nat → Prop) (D lo : Nat) (d : DK) (hv lv tv : Value) (kd : Int) (q : ByteArray) (n : Int) (pv bv : Value) (now : Int) (w : World) (H : DeskIn N D lo d hv lv tv w) (ok : d.h.okH) (hnx : 0 ≤ d.nx ∧ d.nx ≤ 1000000000) (hnow : 0 ≤ now ∧ now ≤ 1000000000) (hts : d.ts.length ≤ 3518437208832) :
    Calls Try.prog 99 #[.pointer (some ⟨D, 0, none⟩), .agg #[.int .i64 kd, .string q, .int .i64 n, pv, bv], .int .i64 now] w (SayAns N D lo tv (d.take kd q now) w) := by
  obtain ⟨A, hA⟩ : ∃ A, A = (w.alloc (.cells #[.int .i64 kd, .string q, .int .i64 n, pv, bv] 66)).alloc (.cells #[.int .i64 0, .int .i64 0, .int .i64 0, .int .i64 0, .slice none 0 0, .slice none 0 0] 69) := ⟨_, rfl⟩
  have hAz : w.heap.size + 2 = A.heap.size := by rw [hA]; simp
  have hAb : Below w.heap.size w A := by rw [hA]; exact (below_alloc _ _).alloc (by simp) _
  have HA0 : Hid (Blk A w.heap.size [.int .i64 kd, .string q, .int .i64 n, pv, bv]) := by rw [hA]; exact (Blk.new _ _ _).alloc _
  have HA1 : Hid (Blk A (w.heap.size + 1) [.int .i64 0, .int .i64 0, .int .i64 0, .int .i64 0, .slice none 0 0, .slice none 0 0]) := by
    show Blk _ _ _
    rw [hA]
    have := Blk.new (w.alloc (.cells #[.int .i64 kd, .string q, .int .i64 n, pv, bv] 66)) [.int .i64 0, .int .i64 0, .int .i64 0, .int .i64 0, .slice none 0 0, .slice none 0 0] 69
    simpa using this
  have HG : Hid (DeskIn (fun b => N b ∨ (w.heap.size ≤ b ∧ b < A.heap.size)) D lo d hv lv tv A ∧ Below lo w A ∧ lo ≤ w.heap.size ∧ (w.heap.size ≤ w.heap.size + 1 ∧ w.heap.size + 1 < A.heap.size)) := by
    have hlo := Nat.le_trans H.lo (Nat.le_of_lt H.box.lt)
    exact ⟨H.grow hAb, hAb.mono hlo, hlo, by omega, by omega⟩
  have HG2 : Hid (∀ b, b < w.heap.size → A.heap[b]? = w.heap[b]?) := fun b h => hAb.block b h
  obtain ⟨ha, hc, rfl⟩ := H.q.shp
  obtain ⟨la, lc, rfl, -⟩ := SliceV.shape H.l
  obtain ⟨ta, tc, e, htn, htm, -⟩ := own_shape H.t
  subst e
  obtain ⟨a0, a1, a2, a3, a4, a5, a6, a7⟩ := HG.out.1.box.b6
  obtain ⟨c0, c1, c2, c3, c4, c5, c6⟩ := HA0.out.b5
  obtain ⟨s0, s1, s2, s3, s4, s5, s6, s7⟩ := HA1.out.b6
  have hDw : D < w.heap.size := H.box.lt
  have HAZ : Hid (w.heap.size + 2 = A.heap.size) := hAz
  unfold maxLen at htm
  clear H hAb hAz
  by_cases hfull : 4 ≤ d.ts.length
  · have hr : d.take kd q now = (d, saySay 5, 0) := by rw [DK.take, if_pos hfull]
    rw [hr]
    have hfi : (4 : Int) ≤ (d.ts.length : Int) := by omega
    clear hr ok
    go_enter Try.func99, Try.ntmps99
    go_upto_region 1 with fail
    rw [← hA]
    clear hA
    go_wp2_with (first
      | (go_at_call 98; refine (sayOf_any 5 _).mono ?_; rintro e w1 ⟨rfl, hb1⟩; have H1 : Hid (Below A.heap.size A w1) := hb1; obtain ⟨z0, z1, z2, z3, z4, z5, z6, z7⟩ := (HA1.out.below hb1 HA1.out.lt).b6; clear hb1)
      | fail)
    refine bodyPost_ret (v := .tuple #[.agg #[.int .i64 4, .int .i64 0, .int .i64 0, .int .i64 5, .slice none 0 0, .slice none 0 0], .int .i64 0]) (by simp [results, Try.results99, go_sem, sayE, *]; done) rfl ?_
    exact ⟨none, 0, none, 0, rfl, say_end (n := noteN) _ _ _ _ _ _ (HG.out.1.on H1.out) HG.out.2.2.2 HG.out.2.2.1 (HG.out.2.1.trans (H1.out.mono (Nat.le_trans HG.out.2.2.1 (Nat.le_trans (Nat.le_succ _) (Nat.le_of_lt HG.out.2.2.2.2))))) _ (fun b h _ _ => (H1.out.block b (by have := HG.out.2.2.2.2; omega)).trans (HG2.out b h)) (NoteIs.nil _ _)⟩
  have hfi : ¬ (4 : Int) ≤ (d.ts.length : Int) := by omega
  obtain ⟨r, hr⟩ : ∃ r, r = faceF d.h q (fun k q => takeF d.h k q now) := ⟨_, rfl⟩
  obtain ⟨it, hit⟩ : ∃ it, it = giveF d.h q now := ⟨_, rfl⟩
  have HT : Hid (∀ Wx, Below A.heap.size A Wx → Calls Try.prog 116 #[.agg #[.slice ha d.h.queues.length hc, .int .i64 d.h.next], .string q, .int .i64 now] Wx fun e w' => AnsHT r it Wx e w' ∧ Below Wx.heap.size Wx w') := by
    show ∀ Wx, Below A.heap.size A Wx → _
    intro Wx hWx
    rw [hr, hit]
    exact hallTake_any _ d.h q now hnow Wx ((HG.out.1.on hWx).qU) ok.1 ok.2.1
  have hrt : d.take kd q now = if r.2.2 = 9 then (if kd = 6 then (d, ⟨0, 0, 0, 0, noteN⟩, 9) else (d, ⟨3, 0, 0, 0, noteN⟩, 0)) else if r.2.2 = 0 then (⟨r.1, d.l, d.sure, d.ts ++ [⟨d.nx + 1, q, it.id, it.turn⟩], d.nx + 1⟩, ⟨2, d.nx + 1, it.tries, 0, it.note⟩, 0) else (d, saySay r.2.2, 0) := by
    rw [DK.take, if_neg hfull, ← hr, ← hit]
  have hDl : D < A.heap.size := a7
  have hAl : w.heap.size < A.heap.size := c6
  have n1 : A.heap.size ≠ D := by omega
  have n2 : A.heap.size + 1 ≠ D := by omega
  have n3 : A.heap.size ≠ w.heap.size := by omega
  have n4 : A.heap.size + 1 ≠ w.heap.size := by omega
  obtain ⟨er, her⟩ : ∃ er, er = r.2.2 := ⟨_, rfl⟩
  obtain ⟨RR, hRR⟩ : ∃ RR, RR = d.take kd q now := ⟨_, rfl⟩
  have HRR : Hid (RR = if er = 9 then (if kd = 6 then (d, ⟨0, 0, 0, 0, noteN⟩, 9) else (d, ⟨3, 0, 0, 0, noteN⟩, 0)) else if er = 0 then (⟨r.1, d.l, d.sure, d.ts ++ [⟨d.nx + 1, q, it.id, it.turn⟩], d.nx + 1⟩, ⟨2, d.nx + 1, it.tries, 0, it.note⟩, 0) else (d, saySay er, 0)) := by show RR = _; rw [hRR, hrt, her]
  have HER : Hid (er = r.2.2) := her
  rw [← hRR]
  clear hr hit hrt ok hnow hRR her
  go_enter Try.func99, Try.ntmps99
  go_upto_region 1 with fail
  rw [← hA]
  clear hA
  go_upto_region 3 with fail
  go_cut [8, 9, 10] (fun v8 v9 v10 wx => ∃ b8 b9 va vc pa' pc' ba' bc', v8 = .pointer (some ⟨b8, 0, none⟩) ∧ v9 = .pointer (some ⟨b9, 0, none⟩) ∧ v10 = .int .i64 r.2.2 ∧ KB A r.1 it (.slice va r.1.queues.length vc) (.slice pa' it.note.props.length pc', .slice ba' it.note.body.length bc') b8 b9 wx)
  case first =>
    go_region_held3 (fun w' => w'.cell? ⟨D, 0, none⟩ = some (.slice ha d.h.queues.length hc) ∧ w'.cell? ⟨D, 1, none⟩ = some (.int .i64 d.h.next) ∧ w'.cell? ⟨w.heap.size, 1, none⟩ = some (.string q)) (go_keep) (first
        | (go_at_call 116; refine (HT.out _ ?_).mono ?_; (exact ⟨rfl, rfl, rfl, Nat.le_refl _, fun _ _ => rfl⟩); rintro e w1 ⟨⟨va, vc, pa', pc', ba', bc', rfl, hq1, hn1⟩, hb1⟩; have HB1 : Hid (Below A.heap.size A w1) := ⟨hb1.os, hb1.tape, hb1.output, hb1.size, hb1.block⟩; have HV1 : Hid (SliceQ (Made (A.heap.size) w1.heap.size) w1 (.slice va r.1.queues.length vc) r.1.queues ∧ NoteIs (Made (A.heap.size) w1.heap.size) w1 (.slice pa' it.note.props.length pc', .slice ba' it.note.body.length bc') it.note) := ⟨hq1.sub (fun b hb => ⟨⟨hb.1, hb.2⟩, rfl⟩), hn1.sub (fun b hb => ⟨⟨hb.1, hb.2⟩, rfl⟩)⟩; have hc0 := HB1.out.cell (p := ⟨D, 0, none⟩) hDl; have hc1 := HB1.out.cell (p := ⟨D, 1, none⟩) hDl; have hc2 := HB1.out.cell (p := ⟨w.heap.size, 1, none⟩) hAl; rw [a0] at hc0; rw [a1] at hc1; rw [c1] at hc2; clear hq1 hn1 hb1)
        | (go_at_call 116; refine (HT.out _ ?_).mono ?_; (exact ⟨rfl, rfl, rfl, by simp, fun b hb => Below.heap_alloc A (.cells #[.slice none 0 0, .int .i64 0] 24) b hb⟩); rintro e w1 ⟨⟨va, vc, pa', pc', ba', bc', rfl, hq1, hn1⟩, hb1⟩; have hb1' : Below (A.heap.size + 1) (A.alloc (.cells #[.slice none 0 0, .int .i64 0] 24)) w1 := ⟨hb1.os, hb1.tape, hb1.output, (by simpa using hb1.size), (fun b hb => hb1.block b (by simpa using hb))⟩; have HB1 : Hid (Below A.heap.size A w1) := ((below_alloc A _).trans (hb1'.mono (by omega))); have HV1 : Hid (SliceQ (Made (A.heap.size + 1) w1.heap.size) w1 (.slice va r.1.queues.length vc) r.1.queues ∧ NoteIs (Made (A.heap.size + 1) w1.heap.size) w1 (.slice pa' it.note.props.length pc', .slice ba' it.note.body.length bc') it.note) := ⟨hq1.sub (fun b hb => ⟨⟨by have := hb.1; simp at this; omega, hb.2⟩, rfl⟩), hn1.sub (fun b hb => ⟨⟨by have := hb.1; simp at this; omega, hb.2⟩, rfl⟩)⟩; have HQ1 : Hid (Blk w1 A.heap.size [.slice none 0 0, .int .i64 0]) := (((Blk.new A [.slice none 0 0, .int .i64 0] 24)).below hb1' (by omega)); obtain ⟨q0, q1, q2, q3⟩ := HQ1.out.b2; have hc0 := HB1.out.cell (p := ⟨D, 0, none⟩) hDl; have hc1 := HB1.out.cell (p := ⟨D, 1, none⟩) hDl; have hc2 := HB1.out.cell (p := ⟨w.heap.size, 1, none⟩) hAl; rw [a0] at hc0; rw [a1] at hc1; rw [c1] at hc2; clear hq1 hn1 hb1 hb1')
        | (go_at_call 116; refine (HT.out _ ?_).mono ?_; (exact ⟨rfl, rfl, rfl, by simp, fun b hb => Below.heap_alloc A (.cells #[.int .i64 0, .int .i64 0, .int .i64 0, .bool false, .int .i64 0, .slice none 0 0, .slice none 0 0] 78) b hb⟩); rintro e w1 ⟨⟨va, vc, pa', pc', ba', bc', rfl, hq1, hn1⟩, hb1⟩; have hb1' : Below (A.heap.size + 1) (A.alloc (.cells #[.int .i64 0, .int .i64 0, .int .i64 0, .bool false, .int .i64 0, .slice none 0 0, .slice none 0 0] 78)) w1 := ⟨hb1.os, hb1.tape, hb1.output, (by simpa using hb1.size), (fun b hb => hb1.block b (by simpa using hb))⟩; have HB1 : Hid (Below A.heap.size A w1) := ((below_alloc A _).trans (hb1'.mono (by omega))); have HV1 : Hid (SliceQ (Made (A.heap.size + 1) w1.heap.size) w1 (.slice va r.1.queues.length vc) r.1.queues ∧ NoteIs (Made (A.heap.size + 1) w1.heap.size) w1 (.slice pa' it.note.props.length pc', .slice ba' it.note.body.length bc') it.note) := ⟨hq1.sub (fun b hb => ⟨⟨by have := hb.1; simp at this; omega, hb.2⟩, rfl⟩), hn1.sub (fun b hb => ⟨⟨by have := hb.1; simp at this; omega, hb.2⟩, rfl⟩)⟩; have HQ1 : Hid (Blk w1 A.heap.size [.int .i64 0, .int .i64 0, .int .i64 0, .bool false, .int .i64 0, .slice none 0 0, .slice none 0 0]) := (((Blk.new A [.int .i64 0, .int .i64 0, .int .i64 0, .bool false, .int .i64 0, .slice none 0 0, .slice none 0 0] 78)).below hb1' (by omega)); obtain ⟨⟨z0, z1, z2, z3⟩, ⟨z4, z5, z6⟩, z7, z8⟩ := HQ1.out.b7; have hc0 := HB1.out.cell (p := ⟨D, 0, none⟩) hDl; have hc1 := HB1.out.cell (p := ⟨D, 1, none⟩) hDl; have hc2 := HB1.out.cell (p := ⟨w.heap.size, 1, none⟩) hAl; rw [a0] at hc0; rw [a1] at hc1; rw [c1] at hc2; clear hq1 hn1 hb1 hb1')
        | (go_at_call 116; refine (HT.out _ ?_).mono ?_; (exact ⟨rfl, rfl, rfl, by simp; omega, fun b hb => (Below.heap_alloc (A.alloc (.cells #[.slice none 0 0, .int .i64 0] 24)) (.cells #[.int .i64 0, .int .i64 0, .int .i64 0, .bool false, .int .i64 0, .slice none 0 0, .slice none 0 0] 78) b (by simp; omega)).trans (Below.heap_alloc A (.cells #[.slice none 0 0, .int .i64 0] 24) b hb)⟩); rintro e w1 ⟨⟨va, vc, pa', pc', ba', bc', rfl, hq1, hn1⟩, hb1⟩; have hb1' : Below (A.heap.size + 2) ((A.alloc (.cells #[.slice none 0 0, .int .i64 0] 24)).alloc (.cells #[.int .i64 0, .int .i64 0, .int .i64 0, .bool false, .int .i64 0, .slice none 0 0, .slice none 0 0] 78)) w1 := ⟨hb1.os, hb1.tape, hb1.output, (by simpa using hb1.size), (fun b hb => hb1.block b (by simpa using hb))⟩; have HB1 : Hid (Below A.heap.size A w1) := (((below_alloc A _).alloc (by simp) _).trans (hb1'.mono (by omega))); have HV1 : Hid (SliceQ (Made (A.heap.size + 2) w1.heap.size) w1 (.slice va r.1.queues.length vc) r.1.queues ∧ NoteIs (Made (A.heap.size + 2) w1.heap.size) w1 (.slice pa' it.note.props.length pc', .slice ba' it.note.body.length bc') it.note) := ⟨hq1.sub (fun b hb => ⟨⟨by have := hb.1; simp at this; omega, hb.2⟩, rfl⟩), hn1.sub (fun b hb => ⟨⟨by have := hb.1; simp at this; omega, hb.2⟩, rfl⟩)⟩; have HQ1 : Hid (Blk w1 A.heap.size [.slice none 0 0, .int .i64 0]) := (((Blk.new A [.slice none 0 0, .int .i64 0] 24).alloc _).below hb1' (by omega)); have HQ2 : Hid (Blk w1 (A.heap.size + 1) [.int .i64 0, .int .i64 0, .int .i64 0, .bool false, .int .i64 0, .slice none 0 0, .slice none 0 0]) := (by have := (Blk.new (A.alloc (.cells #[.slice none 0 0, .int .i64 0] 24)) [.int .i64 0, .int .i64 0, .int .i64 0, .bool false, .int .i64 0, .slice none 0 0, .slice none 0 0] 78); simp only [World.size_alloc] at this; exact this.below hb1' (by omega)); obtain ⟨q0, q1, q2, q3⟩ := HQ1.out.b2; obtain ⟨⟨z0, z1, z2, z3⟩, ⟨z4, z5, z6⟩, z7, z8⟩ := HQ2.out.b7; have hc0 := HB1.out.cell (p := ⟨D, 0, none⟩) hDl; have hc1 := HB1.out.cell (p := ⟨D, 1, none⟩) hDl; have hc2 := HB1.out.cell (p := ⟨w.heap.size, 1, none⟩) hAl; rw [a0] at hc0; rw [a1] at hc1; rw [c1] at hc2; clear hq1 hn1 hb1 hb1')
        | (go_at_call 116; refine (HT.out _ ?_).mono ?_; (exact ⟨rfl, rfl, rfl, by simp; omega, fun b hb => (Below.heap_alloc (A.alloc (.cells #[.int .i64 0, .int .i64 0, .int .i64 0, .bool false, .int .i64 0, .slice none 0 0, .slice none 0 0] 78)) (.cells #[.slice none 0 0, .int .i64 0] 24) b (by simp; omega)).trans (Below.heap_alloc A (.cells #[.int .i64 0, .int .i64 0, .int .i64 0, .bool false, .int .i64 0, .slice none 0 0, .slice none 0 0] 78) b hb)⟩); rintro e w1 ⟨⟨va, vc, pa', pc', ba', bc', rfl, hq1, hn1⟩, hb1⟩; have hb1' : Below (A.heap.size + 2) ((A.alloc (.cells #[.int .i64 0, .int .i64 0, .int .i64 0, .bool false, .int .i64 0, .slice none 0 0, .slice none 0 0] 78)).alloc (.cells #[.slice none 0 0, .int .i64 0] 24)) w1 := ⟨hb1.os, hb1.tape, hb1.output, (by simpa using hb1.size), (fun b hb => hb1.block b (by simpa using hb))⟩; have HB1 : Hid (Below A.heap.size A w1) := (((below_alloc A _).alloc (by simp) _).trans (hb1'.mono (by omega))); have HV1 : Hid (SliceQ (Made (A.heap.size + 2) w1.heap.size) w1 (.slice va r.1.queues.length vc) r.1.queues ∧ NoteIs (Made (A.heap.size + 2) w1.heap.size) w1 (.slice pa' it.note.props.length pc', .slice ba' it.note.body.length bc') it.note) := ⟨hq1.sub (fun b hb => ⟨⟨by have := hb.1; simp at this; omega, hb.2⟩, rfl⟩), hn1.sub (fun b hb => ⟨⟨by have := hb.1; simp at this; omega, hb.2⟩, rfl⟩)⟩; have HQ1 : Hid (Blk w1 A.heap.size [.int .i64 0, .int .i64 0, .int .i64 0, .bool false, .int .i64 0, .slice none 0 0, .slice none 0 0]) := (((Blk.new A [.int .i64 0, .int .i64 0, .int .i64 0, .bool false, .int .i64 0, .slice none 0 0, .slice none 0 0] 78).alloc _).below hb1' (by omega)); have HQ2 : Hid (Blk w1 (A.heap.size + 1) [.slice none 0 0, .int .i64 0]) := (by have := (Blk.new (A.alloc (.cells #[.int .i64 0, .int .i64 0, .int .i64 0, .bool false, .int .i64 0, .slice none 0 0, .slice none 0 0] 78)) [.slice none 0 0, .int .i64 0] 24); simp only [World.size_alloc] at this; exact this.below hb1' (by omega)); obtain ⟨⟨z0, z1, z2, z3⟩, ⟨z4, z5, z6⟩, z7, z8⟩ := HQ1.out.b7; obtain ⟨q0, q1, q2, q3⟩ := HQ2.out.b2; have hc0 := HB1.out.cell (p := ⟨D, 0, none⟩) hDl; have hc1 := HB1.out.cell (p := ⟨D, 1, none⟩) hDl; have hc2 := HB1.out.cell (p := ⟨w.heap.size, 1, none⟩) hAl; rw [a0] at hc0; rw [a1] at hc1; rw [c1] at hc2; clear hq1 hn1 hb1 hb1')
        | fail)
    · go_wp2_with fail
      go_meet
      have HT := KB.f1 (h := r.1) (it := it) (p := (.slice pa' it.note.props.length pc', .slice ba' it.note.body.length bc')) HB1.out HV1.out 
      exact ⟨_, _, va, vc, pa', pc', ba', bc', rfl, rfl, rfl, HT⟩
    · go_wp2_with fail
      go_meet
      have HT := KB.f2 (h := r.1) (it := it) (p := (.slice pa' it.note.props.length pc', .slice ba' it.note.body.length bc')) HB1.out HV1.out 
      exact ⟨_, _, va, vc, pa', pc', ba', bc', rfl, rfl, rfl, HT⟩
    · go_wp2_with fail
      go_meet
      have HT := KB.f3 (h := r.1) (it := it) (p := (.slice pa' it.note.props.length pc', .slice ba' it.note.body.length bc')) HB1.out HV1.out HQ1.out
      exact ⟨_, _, va, vc, pa', pc', ba', bc', rfl, rfl, rfl, HT⟩
    · go_wp2_with fail
      go_meet
      have HT := KB.f5 (h := r.1) (it := it) (p := (.slice pa' it.note.props.length pc', .slice ba' it.note.body.length bc')) HB1.out HV1.out HQ1.out HQ2.out
      exact ⟨_, _, va, vc, pa', pc', ba', bc', rfl, rfl, rfl, HT⟩
    · go_wp2_with fail
      go_meet
      have HT := KB.f4 (h := r.1) (it := it) (p := (.slice pa' it.note.props.length pc', .slice ba' it.note.body.length bc')) HB1.out HV1.out HQ1.out
      exact ⟨_, _, va, vc, pa', pc', ba', bc', rfl, rfl, rfl, HT⟩
    · go_wp2_with fail
      go_meet
      have HT := KB.f6 (h := r.1) (it := it) (p := (.slice pa' it.note.props.length pc', .slice ba' it.note.body.length bc')) HB1.out HV1.out HQ1.out HQ2.out
      exact ⟨_, _, va, vc, pa', pc', ba', bc', rfl, rfl, rfl, HT⟩
  case rest =>
    obtain ⟨b8, b9, va, vc, pa', pc', ba', bc', rfl, rfl, rfl, hK⟩ := hcut
    have HK : Hid (KB A r.1 it (.slice va r.1.queues.length vc) (.slice pa' it.note.props.length pc', .slice ba' it.note.body.length bc') b8 b9 wc) := hK
    rw [← HER.out]
    have HWC : Hid (DeskIn (fun b => N b ∨ (w.heap.size ≤ b ∧ b < A.heap.size)) D lo d (.slice ha d.h.queues.length hc) (.slice la d.l.length lc) (.slice ta d.ts.length tc) wc ∧ Below lo w wc ∧ (∀ b, b < w.heap.size → wc.heap[b]? = w.heap[b]?)) :=
      ⟨HG.out.1.on hK.bel, HG.out.2.1.trans (hK.bel.mono (Nat.le_trans HG.out.2.2.1 (Nat.le_trans (Nat.le_succ _) (Nat.le_of_lt HG.out.2.2.2.2)))), fun b h => (hK.bel.block b (by have := HG.out.2.2.2.2; omega)).trans (HG2.out b h)⟩
    clear HT HER a0 a1 a2 a3 a4 a5 a6 c0 c1 c2 c3 c4 c5 s0 s1 s2 s3 s4 s5 s6
    obtain ⟨c0, c1, c2, c3, c4, c5, c6'⟩ := (HA0.out.below hK.bel HA0.out.lt).b5
    obtain ⟨s0, s1, s2, s3, s4, s5, s6, s7'⟩ := (HA1.out.below hK.bel HA1.out.lt).b6
    clear hK
    by_cases e9 : er = 9
    · subst e9
      by_cases k6 : kd = 6
      · have eR : Hid (RR = (d, ⟨0, 0, 0, 0, noteN⟩, 9)) := by show RR = _; rw [HRR.out, if_pos rfl, if_pos k6]
        clear HRR
        subst k6
        go_wp2_with fail
        refine bodyPost_ret (v := .tuple #[.agg #[.int .i64 0, .int .i64 0, .int .i64 0, .int .i64 0, .slice none 0 0, .slice none 0 0], .int .i64 9]) (by simp [results, Try.results99, go_sem, *]; done) rfl ?_
        rw [eR.out]
        exact ⟨none, 0, none, 0, rfl, say_end (n := noteN) _ _ _ _ _ _ HWC.out.1 HG.out.2.2.2 HG.out.2.2.1 HWC.out.2.1 _ (fun b h _ _ => HWC.out.2.2 b h) (NoteIs.nil _ _)⟩
      · have eR : Hid (RR = (d, ⟨3, 0, 0, 0, noteN⟩, 0)) := by show RR = _; rw [HRR.out, if_pos rfl, if_neg k6]
        clear HRR
        go_wp2_with fail
        refine bodyPost_ret (v := .tuple #[.agg #[.int .i64 3, .int .i64 0, .int .i64 0, .int .i64 0, .slice none 0 0, .slice none 0 0], .int .i64 0]) (by simp [results, Try.results99, go_sem, *]; done) rfl ?_
        rw [eR.out]
        exact ⟨none, 0, none, 0, rfl, say_end (n := noteN) _ _ _ _ _ _ HWC.out.1 HG.out.2.2.2 HG.out.2.2.1 HWC.out.2.1 _ (fun b h _ _ => HWC.out.2.2 b h) (NoteIs.nil _ _)⟩
    by_cases e0 : er = 0
    case neg =>
      have eR : Hid (RR = (d, saySay er, 0)) := by show RR = _; rw [HRR.out, if_neg e9, if_neg e0]
      clear HRR
      go_wp2_with (first
        | (go_at_call 98; refine (sayOf_any er _).mono ?_; rintro e w1 ⟨rfl, hb1⟩; have H1 : Hid (Below wc.heap.size wc w1) := hb1; obtain ⟨z0, z1, z2, z3, z4, z5, z6, z7⟩ := ((HA1.out.below HK.out.bel HA1.out.lt).below hb1 s7').b6; clear hb1)
        | fail)
      refine bodyPost_ret (v := .tuple #[.agg #[.int .i64 (sayE er).1, .int .i64 0, .int .i64 0, .int .i64 (sayE er).2, .slice none 0 0, .slice none 0 0], .int .i64 0]) (by simp [results, Try.results99, go_sem, *]; done) rfl ?_
      rw [eR.out]
      exact ⟨none, 0, none, 0, rfl, say_end (n := noteN) _ _ _ _ _ _ (HWC.out.1.on H1.out) HG.out.2.2.2 HG.out.2.2.1 (HWC.out.2.1.trans (H1.out.mono (Nat.le_trans HG.out.2.2.1 HWC.out.2.1.size))) _ (fun b h _ _ => (H1.out.block b (Nat.lt_of_lt_of_le h HWC.out.2.1.size)).trans (HWC.out.2.2 b h)) (NoteIs.nil _ _)⟩
    have eR : Hid (RR = (⟨r.1, d.l, d.sure, d.ts ++ [⟨d.nx + 1, q, it.id, it.turn⟩], d.nx + 1⟩, ⟨2, d.nx + 1, it.tries, 0, it.note⟩, 0)) := by show RR = _; rw [HRR.out, if_neg e9, if_pos e0]
    clear HRR
    subst e0
    obtain ⟨a0, a1, a2, a3, a4, a5, a6, a7'⟩ := HWC.out.1.box.b6
    obtain ⟨k0, k1, k2, k3⟩ := HK.out.k8.b2
    obtain ⟨⟨i0, i1, i2, i3⟩, ⟨i4, i5, i6⟩, i7, i8⟩ := HK.out.k9.b7
    have hl8 := HK.out.l8
    have hl9 := HK.out.l9
    have m8 : b8 ≠ D := by omega
    have m9 : b9 ≠ D := by omega
    have m1 : w.heap.size ≠ D := by omega
    have m2 : w.heap.size + 1 ≠ D := by omega
    have hq9 := HK.out.q
    have hn9 := HK.out.n
    have hV := HG.out.1.hall r.1 HK.out.bel hq9
    go_upto_region 11 with fail
    obtain ⟨V, hVe⟩ : ∃ V, V = (wc.setCell ⟨D, 0, none⟩ (.slice va r.1.queues.length vc)).setCell ⟨D, 1, none⟩ (.int .i64 r.1.next) := ⟨_, rfl⟩
    have hfar : ∀ b, b ≠ D → V.heap[b]? = wc.heap[b]? := fun b hb => by rw [hVe, Below.heap_setCell _ _ _ _ hb, Below.heap_setCell _ _ _ _ hb]
    have hVb : Below lo w V := by rw [hVe]; exact (HWC.out.2.1.setCell HG.out.1.lo _).setCell HG.out.1.lo _
    rw [← hVe] at hV ⊢
    have HV : Hid (DeskIn (fun b => N b ∨ (w.heap.size ≤ b ∧ b < A.heap.size)) D lo ⟨r.1, d.l, d.sure, d.ts, d.nx⟩ (.slice va r.1.queues.length vc) (.slice la d.l.length lc) (.slice ta d.ts.length tc) V ∧ NoteIs (Off (fun b => N b ∨ (w.heap.size ≤ b ∧ b < A.heap.size)) D (.slice ta d.ts.length tc) V.heap.size) V (.slice pa' it.note.props.length pc', .slice ba' it.note.body.length bc') it.note ∧ Below lo w V ∧ (∀ b, b < w.heap.size → b ≠ D → V.heap[b]? = w.heap[b]?) ∧ Blk V (w.heap.size + 1) [.int .i64 0, .int .i64 0, .int .i64 0, .int .i64 0, .slice none 0 0, .slice none 0 0]) :=
      ⟨hV.1, hn9.sub fun b hb => hV.2 b hb, hVb, fun b h1 h2 => (hfar b h2).trans (HWC.out.2.2 b h1), (HA1.out.below HK.out.bel HA1.out.lt).same (hfar _ m2)⟩
    have g1 : V.cell? ⟨w.heap.size, 1, none⟩ = some (.string q) := (World.cell?_of_block (hfar _ m1)).trans c1
    obtain ⟨⟨j0, j1, j2, j3⟩, ⟨j4, j5, j6⟩, j7, j8⟩ := (HK.out.k9.same (hfar _ m9)).b7
    clear a0 a1 a2 a3 a4 a5 a6 a7' k0 k1 k2 k3 i0 i1 i2 i3 i4 i5 i6 i7 i8 c0 c1 c2 c3 c4 c5 c6' s0 s1 s2 s3 s4 s5 s6 s7' hq9 hn9 hVe hfar hVb hV HWC
    have hts3 : d.ts.length ≤ 1000000 := by omega
    go_wp2_with (first
      | (go_at_call 117; refine (tagged_any (fun b => N b ∨ (w.heap.size ≤ b ∧ b < A.heap.size)) D lo ⟨r.1, d.l, d.sure, d.ts, d.nx⟩ _ _ _ q it _ _ V HV.out.1 HV.out.2.1 hnx hts3).mono ?_; rintro e w6 ⟨rfl, ⟨tv', hd6, hn6⟩, hb6, hk6⟩; have H6 : Hid (DeskIn (fun b => N b ∨ (w.heap.size ≤ b ∧ b < A.heap.size)) D lo ⟨r.1, d.l, d.sure, d.ts ++ [⟨d.nx + 1, q, it.id, it.turn⟩], d.nx + 1⟩ (.slice va r.1.queues.length vc) (.slice la d.l.length lc) tv' w6 ∧ NoteIs (Off (fun b => N b ∨ (w.heap.size ≤ b ∧ b < A.heap.size)) D tv' w6.heap.size) w6 (.slice pa' it.note.props.length pc', .slice ba' it.note.body.length bc') it.note ∧ Below lo V w6 ∧ ∀ b, b < V.heap.size → b ≠ D → (Value.slice ta d.ts.length tc).ownBlock ≠ some b → w6.heap[b]? = V.heap[b]?) := ⟨hd6, hn6, hb6, hk6⟩; obtain ⟨y0, y1, y2, y3, y4, y5, y6, y7⟩ := (HV.out.2.2.2.2.same (hk6 _ HV.out.2.2.2.2.lt m2 (fun e => HV.out.1.nT _ e (.inr HG.out.2.2.2)))).b6; clear hd6 hn6 hb6 hk6 j0 j1 j2 j3 j4 j5 j6 j7 j8)
      | fail)
    refine bodyPost_ret (v := .tuple #[.agg #[.int .i64 2, .int .i64 (d.nx + 1), .int .i64 it.tries, .int .i64 0, .slice pa' it.note.props.length pc', .slice ba' it.note.body.length bc'], .int .i64 0]) (by simp [results, Try.results99, go_sem, *]; done) rfl ?_
    rw [eR.out]
    exact ⟨pa', pc', ba', bc', rfl, say_end (n := it.note) _ _ _ _ _ _ H6.out.1 HG.out.2.2.2 HG.out.2.2.1 (HV.out.2.2.1.trans H6.out.2.2.1) _ (fun b h1 h2 h3 => (H6.out.2.2.2 b (Nat.lt_of_lt_of_le h1 HV.out.2.2.1.size) h2 h3).trans (HV.out.2.2.2.1 b h1 h2)) (H6.out.2.1.sub fun b hb => ⟨⟨hb.1, fun e => hb.2.2.2 (by rw [e]; exact .inr HG.out.2.2.2), fun e => hb.2.2.2 (.inl e)⟩, rfl⟩)⟩
end Go.Proofs.Ytkddkpdfeeikhaa
