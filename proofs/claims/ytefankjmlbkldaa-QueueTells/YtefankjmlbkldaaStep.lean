/-
  What a call, a new box, and a store into a box leave of the other boxes and of what they hold.
-/
import Derived.Test.YtefankjmlbkldaaOff
import Derived.Test.YtefankjmlbkldaaBackM
import Derived.Test.YtefankjmlbkldaaPurgeM
namespace Go.Proofs.Ytefankjmlbkldaa
open Go.RowKit
set_option linter.unusedVariables false
set_option linter.unusedSimpArgs false

/-- All is as it was but for the block b, and what is new. -/
structure Far (b : Nat) (w w' : World) : Prop where
  os : w'.os = w.os
  tape : w'.tape = w.tape
  output : w'.output = w.output
  size : w.heap.size ≤ w'.heap.size
  block : ∀ k, k < w.heap.size → k ≠ b → w'.heap[k]? = w.heap[k]?

theorem Below.far {w w' : World} (h : Below w.heap.size w w') (b : Nat) : Far b w w' := ⟨h.os, h.tape, h.output, h.size, fun k hk _ => h.block k hk⟩
theorem Far.below {b H : Nat} {w W W' : World} (h : Far b W W') (hH : H ≤ b) (hl : H ≤ W.heap.size) (hb : Below H w W) : Below H w W' :=
  hb.trans ⟨h.os, h.tape, h.output, h.size, fun k hk => h.block k (by omega) (by omega)⟩
theorem Far.blk {b c : Nat} {W W' : World} {cs : List Value} (h : Far b W W') (hc : c ≠ b) (hB : Blk W c cs) : Blk W' c cs := hB.same (h.block c hB.lt hc)
theorem far_alloc (w : World) (o : Obj) (b : Nat) : Far b w (w.alloc o) := Below.far (below_alloc w o) b

theorem far_set (w : World) (b o : Nat) (v : Value) : Far b w (w.setCell ⟨b, o, none⟩ v) :=
  ⟨rfl, rfl, rfl, by simp, fun k _ hk => Below.heap_setCell _ _ _ _ hk⟩
theorem Far.trans {b : Nat} {a c d : World} (h : Far b a c) (k : Far b c d) : Far b a d :=
  ⟨k.os.trans h.os, k.tape.trans h.tape, k.output.trans h.output, Nat.le_trans h.size k.size, fun i hi hn => (k.block i (Nat.lt_of_lt_of_le hi h.size) hn).trans (h.block i hi hn)⟩

def set3 (w : World) (b : Nat) (y0 y1 y2 : Value) : World := ((w.setCell ⟨b, 0, none⟩ y0).setCell ⟨b, 1, none⟩ y1).setCell ⟨b, 2, none⟩ y2
def set7 (w : World) (b : Nat) (y0 y1 y2 y3 y4 y5 y6 : Value) : World :=
  ((((((w.setCell ⟨b, 0, none⟩ y0).setCell ⟨b, 1, none⟩ y1).setCell ⟨b, 2, none⟩ y2).setCell ⟨b, 3, none⟩ y3).setCell ⟨b, 4, none⟩ y4).setCell ⟨b, 5, none⟩ y5).setCell ⟨b, 6, none⟩ y6

theorem far_set3 (w : World) (b : Nat) (y0 y1 y2 : Value) : Far b w (set3 w b y0 y1 y2) := ((far_set _ _ _ _).trans (far_set _ _ _ _)).trans (far_set _ _ _ _)
theorem far_set7 (w : World) (b : Nat) (y0 y1 y2 y3 y4 y5 y6 : Value) : Far b w (set7 w b y0 y1 y2 y3 y4 y5 y6) :=
  ((((((far_set _ _ _ _).trans (far_set _ _ _ _)).trans (far_set _ _ _ _)).trans (far_set _ _ _ _)).trans (far_set _ _ _ _)).trans (far_set _ _ _ _)).trans (far_set _ _ _ _)
theorem blk_set3 {w : World} {b : Nat} {x0 x1 x2 : Value} (h : Blk w b [x0, x1, x2]) (y0 y1 y2 : Value) : Blk (set3 w b y0 y1 y2) b [y0, y1, y2] := ((h.set 0 y0).set 1 y1).set 2 y2
theorem blk_set7 {w : World} {b : Nat} {x0 x1 x2 x3 x4 x5 x6 : Value} (h : Blk w b [x0, x1, x2, x3, x4, x5, x6]) (y0 y1 y2 y3 y4 y5 y6 : Value) : Blk (set7 w b y0 y1 y2 y3 y4 y5 y6) b [y0, y1, y2, y3, y4, y5, y6] :=
  ((((((h.set 0 y0).set 1 y1).set 2 y2).set 3 y3).set 4 y4).set 5 y5).set 6 y6

abbrev row3 (s : ByteArray) (l : Int) (a : Option Addr) (m c : Nat) : List Value := [.string s, .int .i64 l, .slice a m c]
abbrev row7 (i0 i1 i2 : Int) (x : Bool) (i4 : Int) (a : Option Addr) (m c : Nat) (a' : Option Addr) (m' c' : Nat) : List Value :=
  [.int .i64 i0, .int .i64 i1, .int .i64 i2, .bool x, .int .i64 i4, .slice a m c, .slice a' m' c']

/-- A box of a queue, whatever lies in it. -/
def Any3 (W : World) (b : Nat) : Prop := ∃ s l a m c, Blk W b (row3 s l a m c)
/-- A box of an item. -/
def Any7 (W : World) (b : Nat) : Prop := ∃ i0 i1 i2 x i4 a m c a' m' c', Blk W b (row7 i0 i1 i2 x i4 a m c a' m' c')
/-- A box of this queue. -/
def Own3 (S : Nat → Prop) (W : World) (b : Nat) (s : ByteArray) (l : Int) (its : List IT) : Prop :=
  ∃ a c, Blk W b (row3 s l a its.length c) ∧ SliceI S W (.slice a its.length c) its
/-- A box of this item. -/
def Own7 (W : World) (b : Nat) (t : IT) : Prop :=
  ∃ a c a' c', Blk W b (row7 t.id t.turn t.tries t.out t.due a t.note.props.length c a' t.note.body.length c') ∧ NoteIs (Under W.heap.size) W (.slice a t.note.props.length c, .slice a' t.note.body.length c') t.note

theorem Any3.lt {W : World} {b : Nat} (h : Any3 W b) : b < W.heap.size := by obtain ⟨_, _, _, _, _, h⟩ := h; exact h.lt
theorem Any7.lt {W : World} {b : Nat} (h : Any7 W b) : b < W.heap.size := by obtain ⟨_, _, _, _, _, _, _, _, _, _, _, h⟩ := h; exact h.lt
theorem Own3.any {S : Nat → Prop} {W : World} {b : Nat} {s : ByteArray} {l : Int} {its : List IT} (h : Own3 S W b s l its) : Any3 W b := by obtain ⟨a, c, h, -⟩ := h; exact ⟨_, _, _, _, _, h⟩
theorem Own7.any {W : World} {b : Nat} {t : IT} (h : Own7 W b t) : Any7 W b := by obtain ⟨a, c, a', c', h, -⟩ := h; exact ⟨_, _, _, _, _, _, _, _, _, _, _, h⟩

theorem Any3.far {W W' : World} {b c : Nat} (h : Any3 W c) (f : Far b W W') (hc : c ≠ b) : Any3 W' c := by obtain ⟨_, _, _, _, _, h⟩ := h; exact ⟨_, _, _, _, _, f.blk hc h⟩
theorem Any7.far {W W' : World} {b c : Nat} (h : Any7 W c) (f : Far b W W') (hc : c ≠ b) : Any7 W' c := by obtain ⟨_, _, _, _, _, _, _, _, _, _, _, h⟩ := h; exact ⟨_, _, _, _, _, _, _, _, _, _, _, f.blk hc h⟩
theorem Any3.up {W W' : World} {c : Nat} (h : Any3 W c) (f : Below W.heap.size W W') : Any3 W' c := by obtain ⟨_, _, _, _, _, h⟩ := h; exact ⟨_, _, _, _, _, h.below f h.lt⟩
theorem Any7.up {W W' : World} {c : Nat} (h : Any7 W c) (f : Below W.heap.size W W') : Any7 W' c := by obtain ⟨_, _, _, _, _, _, _, _, _, _, _, h⟩ := h; exact ⟨_, _, _, _, _, _, _, _, _, _, _, h.below f h.lt⟩

theorem sliceI_far3 {S T : Nat → Prop} {W W' : World} {b : Nat} {v : Value} {its : List IT} (h : SliceI S W v its) (f : Far b W W') (hb : Any3 W b) (hs : ∀ k, S k → k < W.heap.size ∧ T k) : SliceI T W' v its := by
  obtain ⟨_, _, _, _, _, hb⟩ := hb
  exact (h.off3 hb).sub fun k hk => ⟨(hs k hk.1).2, f.block k (hs k hk.1).1 hk.2⟩
theorem note_far3 {W W' : World} {b : Nat} {p : Value × Value} {n : ND} (h : NoteIs (Under W.heap.size) W p n) (f : Far b W W') (hb : Any3 W b) : NoteIs (Under W'.heap.size) W' p n := by
  obtain ⟨_, _, _, _, _, hb⟩ := hb
  exact h.past3 hb f.size f.block
theorem note_far7 {W W' : World} {b : Nat} {p : Value × Value} {n : ND} (h : NoteIs (Under W.heap.size) W p n) (f : Far b W W') (hb : Any7 W b) : NoteIs (Under W'.heap.size) W' p n := by
  obtain ⟨_, _, _, _, _, _, _, _, _, _, _, hb⟩ := hb
  exact h.past7 hb f.size f.block
theorem note_up {W W' : World} {p : Value × Value} {n : ND} (h : NoteIs (Under W.heap.size) W p n) (f : Below W.heap.size W W') : NoteIs (Under W'.heap.size) W' p n :=
  h.sub fun k hk => ⟨Nat.lt_of_lt_of_le hk f.size, f.block k hk⟩

theorem Own3.up {S T : Nat → Prop} {W W' : World} {c : Nat} {s : ByteArray} {l : Int} {its : List IT} (h : Own3 S W c s l its) (f : Below W.heap.size W W') (hs : ∀ k, S k → k < W.heap.size ∧ T k) : Own3 T W' c s l its := by
  obtain ⟨a, e, h, h'⟩ := h
  exact ⟨a, e, h.below f h.lt, h'.sub fun k hk => ⟨(hs k hk).2, f.block k (hs k hk).1⟩⟩
theorem Own7.up {W W' : World} {c : Nat} {t : IT} (h : Own7 W c t) (f : Below W.heap.size W W') : Own7 W' c t := by
  obtain ⟨a, e, a', e', h, h'⟩ := h
  exact ⟨a, e, a', e', h.below f h.lt, note_up h' f⟩
theorem Own3.far3 {S T : Nat → Prop} {W W' : World} {b c : Nat} {s : ByteArray} {l : Int} {its : List IT} (h : Own3 S W c s l its) (f : Far b W W') (hc : c ≠ b) (hb : Any3 W b) (hs : ∀ k, S k → k < W.heap.size ∧ T k) : Own3 T W' c s l its := by
  obtain ⟨a, e, h, h'⟩ := h
  exact ⟨a, e, f.blk hc h, sliceI_far3 h' f hb hs⟩
theorem Own3.far7 {S T : Nat → Prop} {W W' : World} {b c : Nat} {s : ByteArray} {l : Int} {its : List IT} (h : Own3 S W c s l its) (f : Far b W W') (hc : c ≠ b) (hs : ∀ k, S k → k < W.heap.size ∧ k ≠ b ∧ T k) : Own3 T W' c s l its := by
  obtain ⟨a, e, h, h'⟩ := h
  exact ⟨a, e, f.blk hc h, h'.sub fun k hk => ⟨(hs k hk).2.2, f.block k (hs k hk).1 (hs k hk).2.1⟩⟩
theorem Own7.far3 {W W' : World} {b c : Nat} {t : IT} (h : Own7 W c t) (f : Far b W W') (hc : c ≠ b) (hb : Any3 W b) : Own7 W' c t := by
  obtain ⟨a, e, a', e', h, h'⟩ := h
  exact ⟨a, e, a', e', f.blk hc h, note_far3 h' f hb⟩
theorem Own7.far7 {W W' : World} {b c : Nat} {t : IT} (h : Own7 W c t) (f : Far b W W') (hc : c ≠ b) (hb : Any7 W b) : Own7 W' c t := by
  obtain ⟨a, e, a', e', h, h'⟩ := h
  exact ⟨a, e, a', e', f.blk hc h, note_far7 h' f hb⟩

/-- A queue is stored into its box. -/
theorem own_set3 {S T : Nat → Prop} {W : World} {b : Nat} (hb : Any3 W b) {s : ByteArray} {l : Int} {its : List IT} {a : Option Addr} {c : Nat} (h : SliceI S W (.slice a its.length c) its) (hs : ∀ k, S k → k < W.heap.size ∧ T k) :
    Own3 T (set3 W b (.string s) (.int .i64 l) (.slice a its.length c)) b s l its := by
  have hb' := hb
  obtain ⟨_, _, _, _, _, hb⟩ := hb
  exact ⟨a, c, blk_set3 hb _ _ _, sliceI_far3 h (far_set3 _ _ _ _ _) hb' hs⟩
/-- An item is stored into its box. -/
theorem own_set7 {W : World} {b : Nat} (hb : Any7 W b) {t : IT} {a a' : Option Addr} {c c' : Nat} (h : NoteIs (Under W.heap.size) W (.slice a t.note.props.length c, .slice a' t.note.body.length c') t.note) :
    Own7 (set7 W b (.int .i64 t.id) (.int .i64 t.turn) (.int .i64 t.tries) (.bool t.out) (.int .i64 t.due) (.slice a t.note.props.length c) (.slice a' t.note.body.length c')) b t := by
  have hb' := hb
  obtain ⟨_, _, _, _, _, _, _, _, _, _, _, hb⟩ := hb
  exact ⟨a, c, a', c', blk_set7 hb _ _ _ _ _ _ _, note_far7 h (far_set7 _ _ _ _ _ _ _ _ _) hb'⟩
/-- An item in a new box. -/
theorem own_new7 {W : World} {t : IT} {a a' : Option Addr} {c c' : Nat} (h : NoteIs (Under W.heap.size) W (.slice a t.note.props.length c, .slice a' t.note.body.length c') t.note) (ty : TypeId) :
    Own7 (W.alloc (.cells #[.int .i64 t.id, .int .i64 t.turn, .int .i64 t.tries, .bool t.out, .int .i64 t.due, .slice a t.note.props.length c, .slice a' t.note.body.length c'] ty)) W.heap.size t :=
  ⟨a, c, a', c', Blk.new W _ ty, note_up h (below_alloc _ _)⟩

/-- The law's world: all below is as it was, and q's box is there. -/
def Gq (w : World) (qc : List Value) (W : World) : Prop := Below w.heap.size w W ∧ Blk W w.heap.size qc
theorem Gq.up {w W W' : World} {qc : List Value} (h : Gq w qc W) (f : Below W.heap.size W W') : Gq w qc W' := ⟨h.1.trans (f.mono h.1.size), h.2.below f h.2.lt⟩
theorem Gq.far {w W W' : World} {b : Nat} {qc : List Value} (h : Gq w qc W) (f : Far b W W') (hb : w.heap.size < b) : Gq w qc W' := ⟨f.below (by omega) h.1.size h.1, f.blk (by omega) h.2⟩
end Go.Proofs.Ytefankjmlbkldaa
