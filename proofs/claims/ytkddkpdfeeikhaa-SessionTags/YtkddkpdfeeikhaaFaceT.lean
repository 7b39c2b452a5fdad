/-
  hall.Take.
-/
import Derived.Test.YtkddkpdfeeikhaaSsTagProofM22
namespace Go.Proofs.Ytkddkpdfeeikhaa
open Go.RowKit
set_option linter.unusedVariables false
set_option linter.unusedSimpArgs false

attribute [local go_sem ↓] Go.wp_at_zero Go.wp_at_succ

theorem enter80 (args : Array Value) (W : World) : (callFunc 137 args).run Try.prog W = .ok (.enter 137 args) W := by go_simp

/-- Take, at a place. -/
def takeF (h : HD) (k : Nat) (q : QD) (now : Int) : HD × List ED × Int :=
  match q.items.findIdx? isInB with
  | none => (h, [], 9)
  | some i => match q.items[i]? with
    | none => (h, [], 9)
    | some it => (h.setQ k ⟨q.name, q.limit, q.items.set i (takeI now it)⟩, [], 0)
/-- The item that is given. -/
def givenI (q : QD) (now : Int) : IT :=
  match q.items.findIdx? isInB with
  | none => ⟨0, 0, 0, false, 0, nN⟩
  | some i => match q.items[i]? with
    | none => ⟨0, 0, 0, false, 0, nN⟩
    | some it => takeI now it
theorem takeF_none {h : HD} {k : Nat} {q : QD} {now : Int} (hi : idxI isInB q.items = -1) : takeF h k q now = (h, [], 9) ∧ givenI q now = ⟨0, 0, 0, false, 0, nN⟩ := by
  unfold takeF givenI; rw [idxI_none' hi]; exact ⟨rfl, rfl⟩
theorem takeF_some {h : HD} {k : Nat} {q : QD} {now : Int} {i : Nat} (hi : idxI isInB q.items = (i : Int)) (hil : i < q.items.length) : takeF h k q now = (h.setQ k ⟨q.name, q.limit, q.items.set i (takeI now q.items[i])⟩, [], 0) ∧ givenI q now = takeI now q.items[i] := by
  unfold takeF givenI; rw [idxI_some hi]; simp [hil]

/-- The box of what is given. -/
def GivenAt (w0 : World) (gb : Nat) (it : IT) (B : Nat) (W : World) : Prop := ∃ pa pc qa qc, Blk W gb (it.cells (.slice pa it.note.props.length pc, .slice qa it.note.body.length qc)) ∧ NoteIs (fun b => B ≤ b ∧ b < W.heap.size) W (.slice pa it.note.props.length pc, .slice qa it.note.body.length qc) it.note

/-- A queue in the box qb, an item in the box ib, behind a call from W. -/
structure TBox (P : Nat → Prop) (hb : Nat) (W : World) (g cap : Nat) (L : QuL) (next : Int) (q : QD) (va : Option Addr) (vc : Nat) (it : IT) (p : Value × Value) (qb ib : Nat) (wx : World) : Prop where
  box : QBox P hb W g cap L next q va vc qb wx
  iblk : Blk wx ib (it.cells p)
  il : W.heap.size ≤ ib
  note : NoteIs (Made W.heap.size wx.heap.size) wx p it.note

def set3 (w : World) (b : Nat) (x0 x1 x2 : Value) : World := ((w.setCell ⟨b, 0, none⟩ x0).setCell ⟨b, 1, none⟩ x1).setCell ⟨b, 2, none⟩ x2
def set7 (w : World) (b : Nat) (x0 x1 x2 x3 x4 x5 x6 : Value) : World := ((((((w.setCell ⟨b, 0, none⟩ x0).setCell ⟨b, 1, none⟩ x1).setCell ⟨b, 2, none⟩ x2).setCell ⟨b, 3, none⟩ x3).setCell ⟨b, 4, none⟩ x4).setCell ⟨b, 5, none⟩ x5).setCell ⟨b, 6, none⟩ x6
theorem set3_far {w : World} {b c : Nat} {x0 x1 x2 : Value} (h : c ≠ b) : (set3 w b x0 x1 x2).heap[c]? = w.heap[c]? := by
  unfold set3; rw [Below.heap_setCell _ _ _ _ h, Below.heap_setCell _ _ _ _ h, Below.heap_setCell _ _ _ _ h]
theorem set7_far {w : World} {b c : Nat} {x0 x1 x2 x3 x4 x5 x6 : Value} (h : c ≠ b) : (set7 w b x0 x1 x2 x3 x4 x5 x6).heap[c]? = w.heap[c]? := by
  unfold set7; iterate 7 rw [Below.heap_setCell _ _ _ _ h]
theorem set3_size {w : World} {b : Nat} {x0 x1 x2 : Value} : (set3 w b x0 x1 x2).heap.size = w.heap.size := by simp [set3]
theorem set7_size {w : World} {b : Nat} {x0 x1 x2 x3 x4 x5 x6 : Value} : (set7 w b x0 x1 x2 x3 x4 x5 x6).heap.size = w.heap.size := by simp [set7]
theorem set3_blk {w : World} {b : Nat} {y0 y1 y2 x0 x1 x2 : Value} (h : Blk w b [y0, y1, y2]) : Blk (set3 w b x0 x1 x2) b [x0, x1, x2] := ((h.set 0 _).set 1 _).set 2 _
theorem set7_blk {w : World} {b : Nat} {y0 y1 y2 y3 y4 y5 y6 x0 x1 x2 x3 x4 x5 x6 : Value} (h : Blk w b [y0, y1, y2, y3, y4, y5, y6]) : Blk (set7 w b x0 x1 x2 x3 x4 x5 x6) b [x0, x1, x2, x3, x4, x5, x6] := ((((((h.set 0 _).set 1 _).set 2 _).set 3 _).set 4 _).set 5 _).set 6 _
theorem sc_os (w : World) (a : Addr) (v : Value) : (w.setCell a v).os = w.os := rfl
theorem sc_tape (w : World) (a : Addr) (v : Value) : (w.setCell a v).tape = w.tape := rfl
theorem sc_output (w : World) (a : Addr) (v : Value) : (w.setCell a v).output = w.output := rfl
theorem al_os (w : World) (o : Obj) : (w.alloc o).os = w.os := rfl
theorem al_tape (w : World) (o : Obj) : (w.alloc o).tape = w.tape := rfl
theorem al_output (w : World) (o : Obj) : (w.alloc o).output = w.output := rfl
theorem set3_os {w : World} {b : Nat} {x0 x1 x2 : Value} : (set3 w b x0 x1 x2).os = w.os ∧ (set3 w b x0 x1 x2).tape = w.tape ∧ (set3 w b x0 x1 x2).output = w.output := by
  unfold set3; exact ⟨by simp only [sc_os], by simp only [sc_tape], by simp only [sc_output]⟩
theorem set7_os {w : World} {b : Nat} {x0 x1 x2 x3 x4 x5 x6 : Value} : (set7 w b x0 x1 x2 x3 x4 x5 x6).os = w.os ∧ (set7 w b x0 x1 x2 x3 x4 x5 x6).tape = w.tape ∧ (set7 w b x0 x1 x2 x3 x4 x5 x6).output = w.output := by
  unfold set7; exact ⟨by simp only [sc_os], by simp only [sc_tape], by simp only [sc_output]⟩

theorem below_set3 {B b : Nat} {W w : World} {x0 x1 x2 : Value} (h : Below B W w) (hb : B ≤ b) : Below B W (set3 w b x0 x1 x2) :=
  ⟨set3_os.1.trans h.os, set3_os.2.1.trans h.tape, set3_os.2.2.trans h.output, by rw [set3_size]; exact h.size, fun c hc => (set3_far (by omega)).trans (h.block c hc)⟩
theorem below_set7 {B b : Nat} {W w : World} {x0 x1 x2 x3 x4 x5 x6 : Value} (h : Below B W w) (hb : B ≤ b) : Below B W (set7 w b x0 x1 x2 x3 x4 x5 x6) :=
  ⟨set7_os.1.trans h.os, set7_os.2.1.trans h.tape, set7_os.2.2.trans h.output, by rw [set7_size]; exact h.size, fun c hc => (set7_far (by omega)).trans (h.block c hc)⟩

section
variable {P : Nat → Prop} {hb : Nat} {W w1 : World} {g cap : Nat} {L : QuL} {next : Int} {q : QD} {va : Option Addr} {vc : Nat} {it : IT} {p : Value × Value}

theorem TBox.mk' {qb ib lo : Nat} {wx : World} (H : HallIn P hb W (.slice (some ⟨g, 0, none⟩) L.length cap) L next) (h1 : Below W.heap.size W w1) (hI : SliceI (Made lo w1.heap.size) w1 (.slice va q.items.length vc) q.items) (hN : NoteIs (Made lo w1.heap.size) w1 p it.note) (hlo : W.heap.size ≤ lo)
    (hos : wx.os = w1.os ∧ wx.tape = w1.tape ∧ wx.output = w1.output) (hz : w1.heap.size ≤ wx.heap.size) (hx : ∀ b, b < w1.heap.size → (b < W.heap.size ∨ lo ≤ b) → wx.heap[b]? = w1.heap[b]?) (hq : Blk wx qb [.string q.name, .int .i64 q.limit, .slice va q.items.length vc]) (hi : Blk wx ib (it.cells p)) (hql : W.heap.size ≤ qb ∧ (qb < lo ∨ w1.heap.size ≤ qb)) (hil : W.heap.size ≤ ib) :
    TBox P hb W g cap L next q va vc it p qb ib wx := by
  have hz1 := h1.size
  have h2 : Below W.heap.size W wx := ⟨hos.1.trans h1.os, hos.2.1.trans h1.tape, hos.2.2.trans h1.output, by omega, fun b hb => (hx b (by omega) (.inl hb)).trans (h1.block b hb)⟩
  exact ⟨⟨h2, H.below h2, hq, hql.1, hI.sub fun b hb => ⟨⟨⟨by have := hb.1; omega, by have := hb.2; omega⟩, by have := hb.1; have := hb.2; omega⟩, hx b hb.2 (.inr hb.1)⟩⟩, hi, hil, hN.sub fun b hb => ⟨⟨by have := hb.1; omega, by have := hb.2; omega⟩, hx b hb.2 (.inr hb.1)⟩⟩


theorem TBox.f1 (H : HallIn P hb W (.slice (some ⟨g, 0, none⟩) L.length cap) L next) (h1 : Below W.heap.size W w1) (hV : SliceI (Made W.heap.size w1.heap.size) w1 (.slice va q.items.length vc) q.items ∧ NoteIs (Made W.heap.size w1.heap.size) w1 p it.note) :
    TBox P hb W g cap L next q va vc it p w1.heap.size (w1.heap.size + 1) ((w1.alloc (.cells #[.string q.name, .int .i64 q.limit, .slice va q.items.length vc] 76)).alloc (.cells #[.int .i64 it.id, .int .i64 it.turn, .int .i64 it.tries, .bool it.out, .int .i64 it.due, p.1, p.2] 78)) := by
  have hz1 := h1.size
  refine TBox.mk' H h1 hV.1 hV.2 (Nat.le_refl _) ⟨rfl, rfl, rfl⟩ (by simp; omega) (fun b hb _ => (Below.heap_alloc _ _ _ (by simp; omega)).trans (Below.heap_alloc _ _ _ hb)) ((Blk.new _ _ _).alloc _) ?_ ⟨by omega, .inr (by omega)⟩ (by omega)
  have := Blk.new (w1.alloc (.cells #[.string q.name, .int .i64 q.limit, .slice va q.items.length vc] 76)) (it.cells p) 78
  rw [World.size_alloc] at this
  exact this
theorem TBox.f2 (H : HallIn P hb W (.slice (some ⟨g, 0, none⟩) L.length cap) L next) (h1 : Below W.heap.size W w1) (hV : SliceI (Made W.heap.size w1.heap.size) w1 (.slice va q.items.length vc) q.items ∧ NoteIs (Made W.heap.size w1.heap.size) w1 p it.note) :
    TBox P hb W g cap L next q va vc it p (w1.heap.size + 1) w1.heap.size ((w1.alloc (.cells #[.int .i64 it.id, .int .i64 it.turn, .int .i64 it.tries, .bool it.out, .int .i64 it.due, p.1, p.2] 78)).alloc (.cells #[.string q.name, .int .i64 q.limit, .slice va q.items.length vc] 76)) := by
  have hz1 := h1.size
  refine TBox.mk' H h1 hV.1 hV.2 (Nat.le_refl _) ⟨rfl, rfl, rfl⟩ (by simp; omega) (fun b hb _ => (Below.heap_alloc _ _ _ (by simp; omega)).trans (Below.heap_alloc _ _ _ hb)) ?_ ((Blk.new w1 (it.cells p) 78).alloc _) ⟨by omega, .inr (by omega)⟩ (by omega)
  have := Blk.new (w1.alloc (.cells (it.cells p).toArray 78)) [.string q.name, .int .i64 q.limit, .slice va q.items.length vc] 76
  rw [World.size_alloc] at this
  exact this
theorem TBox.f3 (H : HallIn P hb W (.slice (some ⟨g, 0, none⟩) L.length cap) L next) (h1 : Below W.heap.size W w1) (hV : SliceI (Made (W.heap.size + 1) w1.heap.size) w1 (.slice va q.items.length vc) q.items ∧ NoteIs (Made (W.heap.size + 1) w1.heap.size) w1 p it.note) {y0 y1 y2 : Value} (hq : Blk w1 W.heap.size [y0, y1, y2]) :
    TBox P hb W g cap L next q va vc it p W.heap.size w1.heap.size ((set3 w1 W.heap.size (.string q.name) (.int .i64 q.limit) (.slice va q.items.length vc)).alloc (.cells #[.int .i64 it.id, .int .i64 it.turn, .int .i64 it.tries, .bool it.out, .int .i64 it.due, p.1, p.2] 78)) := by
  have hz1 := h1.size
  refine TBox.mk' H h1 hV.1 hV.2 (by omega) ⟨(al_os _ _).trans set3_os.1, (al_tape _ _).trans set3_os.2.1, (al_output _ _).trans set3_os.2.2⟩ (by simp [set3_size]) (fun b hb hl => (Below.heap_alloc _ _ _ (by rw [set3_size]; omega)).trans (set3_far (by omega))) ((set3_blk hq).alloc _) ?_ ⟨by omega, .inl (by omega)⟩ (by omega)
  have := Blk.new (set3 w1 W.heap.size (.string q.name) (.int .i64 q.limit) (.slice va q.items.length vc)) (it.cells p) 78
  rw [set3_size] at this
  exact this
theorem TBox.f4 (H : HallIn P hb W (.slice (some ⟨g, 0, none⟩) L.length cap) L next) (h1 : Below W.heap.size W w1) (hV : SliceI (Made (W.heap.size + 2) w1.heap.size) w1 (.slice va q.items.length vc) q.items ∧ NoteIs (Made (W.heap.size + 2) w1.heap.size) w1 p it.note) {y0 y1 y2 z0 z1 z2 z3 z4 z5 z6 : Value} (hq : Blk w1 W.heap.size [y0, y1, y2]) (hi : Blk w1 (W.heap.size + 1) [z0, z1, z2, z3, z4, z5, z6]) :
    TBox P hb W g cap L next q va vc it p W.heap.size (W.heap.size + 1) (set7 (set3 w1 W.heap.size (.string q.name) (.int .i64 q.limit) (.slice va q.items.length vc)) (W.heap.size + 1) (.int .i64 it.id) (.int .i64 it.turn) (.int .i64 it.tries) (.bool it.out) (.int .i64 it.due) p.1 p.2) := by
  have hz1 := h1.size
  exact TBox.mk' H h1 hV.1 hV.2 (by omega) ⟨set7_os.1.trans set3_os.1, set7_os.2.1.trans set3_os.2.1, set7_os.2.2.trans set3_os.2.2⟩ (by simp [set3_size, set7_size]) (fun b hb hl => (set7_far (by omega)).trans (set3_far (by omega))) ((set3_blk hq).same (set7_far (by omega))) (set7_blk (hi.same (set3_far (by omega)))) ⟨by omega, .inl (by omega)⟩ (by omega)
theorem TBox.f5 (H : HallIn P hb W (.slice (some ⟨g, 0, none⟩) L.length cap) L next) (h1 : Below W.heap.size W w1) (hV : SliceI (Made (W.heap.size + 1) w1.heap.size) w1 (.slice va q.items.length vc) q.items ∧ NoteIs (Made (W.heap.size + 1) w1.heap.size) w1 p it.note) {z0 z1 z2 z3 z4 z5 z6 : Value} (hi : Blk w1 W.heap.size [z0, z1, z2, z3, z4, z5, z6]) :
    TBox P hb W g cap L next q va vc it p w1.heap.size W.heap.size ((set7 w1 W.heap.size (.int .i64 it.id) (.int .i64 it.turn) (.int .i64 it.tries) (.bool it.out) (.int .i64 it.due) p.1 p.2).alloc (.cells #[.string q.name, .int .i64 q.limit, .slice va q.items.length vc] 76)) := by
  have hz1 := h1.size
  refine TBox.mk' H h1 hV.1 hV.2 (by omega) ⟨(al_os _ _).trans set7_os.1, (al_tape _ _).trans set7_os.2.1, (al_output _ _).trans set7_os.2.2⟩ (by simp [set7_size]) (fun b hb hl => (Below.heap_alloc _ _ _ (by rw [set7_size]; omega)).trans (set7_far (by omega))) ?_ ((set7_blk hi).alloc _) ⟨by omega, .inr (by omega)⟩ (by omega)
  have := Blk.new (set7 w1 W.heap.size (.int .i64 it.id) (.int .i64 it.turn) (.int .i64 it.tries) (.bool it.out) (.int .i64 it.due) p.1 p.2) [.string q.name, .int .i64 q.limit, .slice va q.items.length vc] 76
  rw [set7_size] at this
  exact this
theorem TBox.f6 (H : HallIn P hb W (.slice (some ⟨g, 0, none⟩) L.length cap) L next) (h1 : Below W.heap.size W w1) (hV : SliceI (Made (W.heap.size + 2) w1.heap.size) w1 (.slice va q.items.length vc) q.items ∧ NoteIs (Made (W.heap.size + 2) w1.heap.size) w1 p it.note) {y0 y1 y2 z0 z1 z2 z3 z4 z5 z6 : Value} (hi : Blk w1 W.heap.size [z0, z1, z2, z3, z4, z5, z6]) (hq : Blk w1 (W.heap.size + 1) [y0, y1, y2]) :
    TBox P hb W g cap L next q va vc it p (W.heap.size + 1) W.heap.size (set7 (set3 w1 (W.heap.size + 1) (.string q.name) (.int .i64 q.limit) (.slice va q.items.length vc)) W.heap.size (.int .i64 it.id) (.int .i64 it.turn) (.int .i64 it.tries) (.bool it.out) (.int .i64 it.due) p.1 p.2) := by
  have hz1 := h1.size
  exact TBox.mk' H h1 hV.1 hV.2 (by omega) ⟨set7_os.1.trans set3_os.1, set7_os.2.1.trans set3_os.2.1, set7_os.2.2.trans set3_os.2.2⟩ (by simp [set3_size, set7_size]) (fun b hb hl => (set7_far (by omega)).trans (set3_far (by omega))) ((set3_blk hq).same (set7_far (by omega))) (set7_blk (hi.same (set3_far (by omega)))) ⟨by omega, .inl (by omega)⟩ (by omega)
end

theorem take_end {P : Nat → Prop} {hb B gb : Nat} {w0 W V wF : World} {g cap : Nat} {L : QuL} {k : Nat} {h : HD} {q : QD} {v : Value} {m : Nat} {it : IT} {pa ba : Option Addr} {pc bc : Nat} (H : QPut P hb W g cap L k h.next q v m V) (e : L.map Prod.fst = h.queues) (hP : ∀ b, P b → B ≤ b) (hg : P g) (hbB : B ≤ hb) (hB : B ≤ W.heap.size) (hgb : gb < B)
    (hz : wF.heap.size = V.heap.size) (hos : wF.os = V.os ∧ wF.tape = V.tape ∧ wF.output = V.output) (hx : ∀ b, b ≠ gb → wF.heap[b]? = V.heap[b]?) (hG : Blk wF gb (it.cells (.slice pa it.note.props.length pc, .slice ba it.note.body.length bc))) (hN : NoteIs (Made W.heap.size m) V (.slice pa it.note.props.length pc, .slice ba it.note.body.length bc) it.note) :
    (∃ va vn vc, Blk wF hb [.slice va vn vc, .int .i64 (h.setQ k q).next] ∧ SliceQ (fun b => B ≤ b ∧ b < wF.heap.size) wF (.slice va vn vc) (h.setQ k q).queues ∧ SliceE (fun b => B ≤ b ∧ b < wF.heap.size) wF (.slice none 0 0) []) ∧ GivenAt w0 gb it B wF ∧ Keep (fun b => b < B ∧ ¬ b = gb) W wF := by
  have hml := H.ml
  have hmh := H.mh
  have hPB : ∀ b, (P b ∨ Made W.heap.size m b) → B ≤ b := fun b hb' => by
    rcases hb' with h | h
    · exact hP b h
    · have := h.1; omega
  refine ⟨⟨_, _, _, H.hall.box.same (hx hb (by omega)), ?_, SliceE.nil _ _⟩, ⟨pa, pc, ba, bc, hG, hN.sub fun b hb' => ⟨⟨by have := hb'.1; omega, by have := hb'.2; omega⟩, hx b (by have := hb'.1; omega)⟩⟩, ⟨hos.1.trans H.keep.os, hos.2.1.trans H.keep.tape, hos.2.2.trans H.keep.output, by have := H.keep.size; omega, fun b hb' => (hx b hb'.2).trans (H.keep.block b ⟨by omega, fun e' => ?_, by omega⟩)⟩⟩
  · have := H.hall.slice
    rw [List.map_set, e] at this
    exact this.sub fun b hb' => ⟨⟨hPB b hb', by have := H.hall.lt b hb'; omega⟩, hx b (by have := hPB b hb'; omega)⟩
  · have := hP g hg; omega

/-- Behind the two stores of 'Take'. -/
def GoodEnd (P : Nat → Prop) (hb : Nat) (W : World) (g cap : Nat) (L : QuL) (k : Nat) (next : Int) (q : QD) (v : Value) (m gb : Nat) (it : IT) (p : Value × Value) (wx : World) : Prop :=
  ∃ V, QPut P hb W g cap L k next q v m V ∧ wx.heap.size = V.heap.size ∧ (wx.os = V.os ∧ wx.tape = V.tape ∧ wx.output = V.output) ∧ (∀ b, b ≠ gb → wx.heap[b]? = V.heap[b]?) ∧ Blk wx gb (it.cells p) ∧ NoteIs (Made W.heap.size m) V p it.note

theorem good_end {P : Nat → Prop} {hb : Nat} {W V0 : World} {g cap : Nat} {L : QuL} {k : Nat} {next : Int} {q : QD} {v : Value} {m gb : Nat} {it : IT} {pa ba : Option Addr} {pc bc : Nat} {z0 z1 z2 z3 z4 z5 z6 : Value} (hQ : QPut P hb W g cap L k next q v m V0.drew) (hG : Blk V0 gb [z0, z1, z2, z3, z4, z5, z6]) (hN : NoteIs (Made W.heap.size m) V0 (.slice pa it.note.props.length pc, .slice ba it.note.body.length bc) it.note) :
    GoodEnd P hb W g cap L k next q v m gb it (.slice pa it.note.props.length pc, .slice ba it.note.body.length bc) (set7 V0 gb (.int .i64 it.id) (.int .i64 it.turn) (.int .i64 it.tries) (.bool it.out) (.int .i64 it.due) (.slice pa it.note.props.length pc) (.slice ba it.note.body.length bc)).drew := by
  obtain ⟨wx, hwx⟩ : ∃ wx, wx = set7 V0 gb (.int .i64 it.id) (.int .i64 it.turn) (.int .i64 it.tries) (.bool it.out) (.int .i64 it.due) (.slice pa it.note.props.length pc) (.slice ba it.note.body.length bc) := ⟨_, rfl⟩
  have h1 : wx.heap.size = V0.heap.size := by rw [hwx]; exact set7_size
  have h2 : wx.os = V0.os ∧ wx.tape = V0.tape ∧ wx.output = V0.output := by rw [hwx]; exact set7_os
  have h3 : ∀ b, b ≠ gb → wx.heap[b]? = V0.heap[b]? := fun b hb => by rw [hwx]; exact set7_far hb
  have h4 : Blk wx gb (it.cells (.slice pa it.note.props.length pc, .slice ba it.note.body.length bc)) := by rw [hwx]; exact set7_blk hG
  rw [← hwx]
  exact ⟨V0.drew, hQ, h1, h2, h3, h4, hN.sub fun b hb => ⟨hb, rfl⟩⟩

set_option maxRecDepth 100000 in
set_option maxHeartbeats 3200000 in
theorem take_alters (w : World) (nb gb : Nat) (now : Int) (hnow : 0 ≤ now ∧ now ≤ 1000000000) (hb : Blk w nb [.int .i64 now]) (hgb0 : Blk w gb (IT.cells ⟨0, 0, 0, false, 0, nN⟩ (.slice none 0 0, .slice none 0 0))) (h : HD) (k : Nat) (hk : k < h.queues.length) (hsm : smallQ h.queues) (hfit : ∀ q ∈ h.queues, ∀ i ∈ q.items, i.fits) :
    Alters w (fun b => b = gb) 137 [.pointer (some ⟨nb, 0, none⟩), .pointer (some ⟨gb, 0, none⟩)] h k (takeF h k h.queues[k] now) (GivenAt w gb (givenI h.queues[k] now)) := by
  refine ⟨enter80, fun B W W' hP hz hb' => ?_, fun B P hb' W g cap L hH e hP hbB hwB hW => ?_⟩
  · obtain ⟨pa, pc, qa, qc, h1, h2⟩ := hP
    exact ⟨pa, pc, qa, qc, h1.same (hb' gb (.inl hgb0.lt)), h2.sub fun b hb => ⟨⟨hb.1, by omega⟩, hb' b (.inr hb.1)⟩⟩
  have HH : Hid (HallIn P hb' W (.slice (some ⟨g, 0, none⟩) L.length cap) L h.next) := hH
  have hkL : k < L.length := by rw [← e] at hk; simpa using hk
  have hq : h.queues[k] = (L[k]'hkL).1 := by simp [← e]
  have hsk := smallQ_at hsm hk
  have hfk := hfit _ (List.getElem_mem hk)
  have HNB : Hid (Blk W nb [.int .i64 now] ∧ Blk W gb (IT.cells ⟨0, 0, 0, false, 0, nN⟩ (.slice none 0 0, .slice none 0 0))) := ⟨hb.below hW hb.lt, hgb0.below hW hgb0.lt⟩
  obtain ⟨c0, c1, c3⟩ := HNB.out.1.b1
  obtain ⟨ia, ic, -, hI, y0, y1, y2⟩ := hH.at k hkL
  obtain ⟨b0, b1, b2, b3⟩ := hH.box.b2
  obtain ⟨hgl, hgb, hbl, hgP⟩ := hH.gl
  have hlL : L.length ≤ 4194304 := by have := congrArg List.length e; have h1 := hsm.1; simp at this; omega
  rw [← hq] at y0 y1 y2 hI
  obtain ⟨q, hqq⟩ : ∃ q, q = h.queues[k] := ⟨_, rfl⟩
  rw [← hqq] at y0 y1 y2 hI hsk hfk ⊢
  have HI : Hid (SliceI (Under W.heap.size) W (.slice ia q.items.length ic) q.items) := hI.sub fun b hb => ⟨hH.lt b hb.1, rfl⟩
  have HX : Hid (smallI q.items ∧ L.map Prod.fst = h.queues ∧ (∀ b, P b → B ≤ b) ∧ (∀ b, P b → b < W.heap.size)) := ⟨hsk, e, hP, hH.lt⟩
  have HFT : Hid (∀ i ∈ q.items, i.fits) := hfk
  have hgf := hH.f
  have hWz := hW.size
  have hnbl := hb.lt
  have hgbl := hgb0.lt
  have hgB := hP g hgP
  clear hH e hP hsm hb hW hI hsk hq hqq hfk hfit hgb0
  have n1 : W.heap.size ≠ hb' := by omega
  have n2 : W.heap.size ≠ g := by omega
  have n3 : W.heap.size ≠ nb := by omega
  have n4 : W.heap.size + 1 ≠ hb' := by omega
  have n5 : W.heap.size + 1 ≠ g := by omega
  have n6 : W.heap.size + 1 ≠ nb := by omega
  rcases idxI_cases isInB q.items with hi | ⟨i, hil, hi, -, -⟩
  · have HXI : Hid (idxI isInB q.items = -1) := hi
    rw [(takeF_none (h := h) (k := k) hi).1, (takeF_none (h := h) (k := k) hi).2]
    clear hi
    go_enter Try.func137, Try.ntmps137
    go_upto_region 1 with fail
    go_cut [8, 9, 10] (fun qp ip er wx => er = .int .i64 6 ∧ Below W.heap.size W wx)
    case first =>
      go_region_held3 (fun w' => w'.cell? ⟨hb', 0, none⟩ = some (.slice (some ⟨g, 0, none⟩) L.length cap) ∧ w'.cell? ⟨g, k * 3, none⟩ = some (.string q.name) ∧ w'.cell? ⟨g, k * 3 + 1, none⟩ = some (.int .i64 q.limit) ∧ w'.cell? ⟨g, k * 3 + 2, none⟩ = some (.slice ia q.items.length ic) ∧ w'.cell? ⟨nb, 0, none⟩ = some (.int .i64 now)) (go_keep) (first
        | (go_at_call 138; refine (take_none _ q.name q.limit now q.items _ ?_ HXI.out).mono ?_; (exact HI.out.sub fun b hb => ⟨hb, rfl⟩); rintro r w1 ⟨rfl, hb1⟩; have HB1 : Hid (Below W.heap.size W w1) := ⟨hb1.os, hb1.tape, hb1.output, hb1.size, hb1.block⟩; have hc := HB1.out.cell (p := ⟨hb', 0, none⟩) hbl; have hc0 := HB1.out.cell (p := ⟨g, k * 3, none⟩) hgl; have hc1 := HB1.out.cell (p := ⟨g, k * 3 + 1, none⟩) hgl; have hc2 := HB1.out.cell (p := ⟨g, k * 3 + 2, none⟩) hgl; have hc3 := HB1.out.cell (p := ⟨nb, 0, none⟩) c3; rw [b0] at hc; rw [y0] at hc0; rw [y1] at hc1; rw [y2] at hc2; rw [c0] at hc3; clear hb1)
        | (go_at_call 138; refine (take_none _ q.name q.limit now q.items _ ?_ HXI.out).mono ?_; (exact HI.out.sub fun b hb => ⟨Nat.lt_of_lt_of_le hb (by simp), (Below.heap_alloc W (.cells #[.string ⟨#[]⟩, .int .i64 0, .slice none 0 0] 76) b hb)⟩); rintro r w1 ⟨rfl, hb1⟩; have hb1' : Below (W.heap.size + 1) (W.alloc (.cells #[.string ⟨#[]⟩, .int .i64 0, .slice none 0 0] 76)) w1 := ⟨hb1.os, hb1.tape, hb1.output, by simpa using hb1.size, fun b hb => hb1.block b (by simpa using hb)⟩; have HB1 : Hid (Below W.heap.size W w1) := (((below_alloc W _).mono (by omega)).trans (hb1'.mono (by omega))); have hq1 : Blk w1 W.heap.size [.string ⟨#[]⟩, .int .i64 0, .slice none 0 0] := (Blk.new W [.string ⟨#[]⟩, .int .i64 0, .slice none 0 0] 76).below hb1' (by omega); obtain ⟨q0, q1, q2, q3, q4⟩ := hq1.b3; clear hq1 hb1'; have hc := HB1.out.cell (p := ⟨hb', 0, none⟩) hbl; have hc0 := HB1.out.cell (p := ⟨g, k * 3, none⟩) hgl; have hc1 := HB1.out.cell (p := ⟨g, k * 3 + 1, none⟩) hgl; have hc2 := HB1.out.cell (p := ⟨g, k * 3 + 2, none⟩) hgl; have hc3 := HB1.out.cell (p := ⟨nb, 0, none⟩) c3; rw [b0] at hc; rw [y0] at hc0; rw [y1] at hc1; rw [y2] at hc2; rw [c0] at hc3; clear hb1)
        | (go_at_call 138; refine (take_none _ q.name q.limit now q.items _ ?_ HXI.out).mono ?_; (exact HI.out.sub fun b hb => ⟨Nat.lt_of_lt_of_le hb (by simp), (Below.heap_alloc W (.cells #[.int .i64 0, .int .i64 0, .int .i64 0, .bool false, .int .i64 0, .slice none 0 0, .slice none 0 0] 78) b hb)⟩); rintro r w1 ⟨rfl, hb1⟩; have hb1' : Below (W.heap.size + 1) (W.alloc (.cells #[.int .i64 0, .int .i64 0, .int .i64 0, .bool false, .int .i64 0, .slice none 0 0, .slice none 0 0] 78)) w1 := ⟨hb1.os, hb1.tape, hb1.output, by simpa using hb1.size, fun b hb => hb1.block b (by simpa using hb)⟩; have HB1 : Hid (Below W.heap.size W w1) := (((below_alloc W _).mono (by omega)).trans (hb1'.mono (by omega))); have hq1 : Blk w1 W.heap.size [.int .i64 0, .int .i64 0, .int .i64 0, .bool false, .int .i64 0, .slice none 0 0, .slice none 0 0] := (Blk.new W [.int .i64 0, .int .i64 0, .int .i64 0, .bool false, .int .i64 0, .slice none 0 0, .slice none 0 0] 78).below hb1' (by omega); obtain ⟨⟨z0, z1, z2, z3⟩, ⟨z4, z5, z6⟩, z7, z8⟩ := hq1.b7; clear hq1 hb1'; have hc := HB1.out.cell (p := ⟨hb', 0, none⟩) hbl; have hc0 := HB1.out.cell (p := ⟨g, k * 3, none⟩) hgl; have hc1 := HB1.out.cell (p := ⟨g, k * 3 + 1, none⟩) hgl; have hc2 := HB1.out.cell (p := ⟨g, k * 3 + 2, none⟩) hgl; have hc3 := HB1.out.cell (p := ⟨nb, 0, none⟩) c3; rw [b0] at hc; rw [y0] at hc0; rw [y1] at hc1; rw [y2] at hc2; rw [c0] at hc3; clear hb1)
        | (go_at_call 138; refine (take_none _ q.name q.limit now q.items _ ?_ HXI.out).mono ?_; (exact HI.out.sub fun b hb => ⟨Nat.lt_of_lt_of_le hb (by simp; omega), (Below.heap_alloc (W.alloc (.cells #[.string ⟨#[]⟩, .int .i64 0, .slice none 0 0] 76)) (.cells #[.int .i64 0, .int .i64 0, .int .i64 0, .bool false, .int .i64 0, .slice none 0 0, .slice none 0 0] 78) b (Nat.lt_of_lt_of_le hb (by simp))).trans (Below.heap_alloc W (.cells #[.string ⟨#[]⟩, .int .i64 0, .slice none 0 0] 76) b hb)⟩); rintro r w1 ⟨rfl, hb1⟩; have hb1' : Below (W.heap.size + 2) ((W.alloc (.cells #[.string ⟨#[]⟩, .int .i64 0, .slice none 0 0] 76)).alloc (.cells #[.int .i64 0, .int .i64 0, .int .i64 0, .bool false, .int .i64 0, .slice none 0 0, .slice none 0 0] 78)) w1 := ⟨hb1.os, hb1.tape, hb1.output, by simpa using hb1.size, fun b hb => hb1.block b (by simpa using hb)⟩; have HB1 : Hid (Below W.heap.size W w1) := ((((below_alloc W _).alloc (by simp) _).mono (by omega)).trans (hb1'.mono (by omega))); have hq1 : Blk w1 W.heap.size [.string ⟨#[]⟩, .int .i64 0, .slice none 0 0] := ((Blk.new W [.string ⟨#[]⟩, .int .i64 0, .slice none 0 0] 76).alloc _).below hb1' (by omega); have hq2 : Blk w1 (W.heap.size + 1) [.int .i64 0, .int .i64 0, .int .i64 0, .bool false, .int .i64 0, .slice none 0 0, .slice none 0 0] := (by have := (Blk.new (W.alloc (.cells #[.string ⟨#[]⟩, .int .i64 0, .slice none 0 0] 76)) [.int .i64 0, .int .i64 0, .int .i64 0, .bool false, .int .i64 0, .slice none 0 0, .slice none 0 0] 78); simp only [World.size_alloc] at this; exact this.below hb1' (by omega)); obtain ⟨q0, q1, q2, q3, q4⟩ := hq1.b3; obtain ⟨⟨z0, z1, z2, z3⟩, ⟨z4, z5, z6⟩, z7, z8⟩ := hq2.b7; clear hq1 hq2 hb1'; have hc := HB1.out.cell (p := ⟨hb', 0, none⟩) hbl; have hc0 := HB1.out.cell (p := ⟨g, k * 3, none⟩) hgl; have hc1 := HB1.out.cell (p := ⟨g, k * 3 + 1, none⟩) hgl; have hc2 := HB1.out.cell (p := ⟨g, k * 3 + 2, none⟩) hgl; have hc3 := HB1.out.cell (p := ⟨nb, 0, none⟩) c3; rw [b0] at hc; rw [y0] at hc0; rw [y1] at hc1; rw [y2] at hc2; rw [c0] at hc3; clear hb1)
        | (go_at_call 138; refine (take_none _ q.name q.limit now q.items _ ?_ HXI.out).mono ?_; (exact HI.out.sub fun b hb => ⟨Nat.lt_of_lt_of_le hb (by simp; omega), (Below.heap_alloc (W.alloc (.cells #[.int .i64 0, .int .i64 0, .int .i64 0, .bool false, .int .i64 0, .slice none 0 0, .slice none 0 0] 78)) (.cells #[.string ⟨#[]⟩, .int .i64 0, .slice none 0 0] 76) b (Nat.lt_of_lt_of_le hb (by simp))).trans (Below.heap_alloc W (.cells #[.int .i64 0, .int .i64 0, .int .i64 0, .bool false, .int .i64 0, .slice none 0 0, .slice none 0 0] 78) b hb)⟩); rintro r w1 ⟨rfl, hb1⟩; have hb1' : Below (W.heap.size + 2) ((W.alloc (.cells #[.int .i64 0, .int .i64 0, .int .i64 0, .bool false, .int .i64 0, .slice none 0 0, .slice none 0 0] 78)).alloc (.cells #[.string ⟨#[]⟩, .int .i64 0, .slice none 0 0] 76)) w1 := ⟨hb1.os, hb1.tape, hb1.output, by simpa using hb1.size, fun b hb => hb1.block b (by simpa using hb)⟩; have HB1 : Hid (Below W.heap.size W w1) := ((((below_alloc W _).alloc (by simp) _).mono (by omega)).trans (hb1'.mono (by omega))); have hq1 : Blk w1 W.heap.size [.int .i64 0, .int .i64 0, .int .i64 0, .bool false, .int .i64 0, .slice none 0 0, .slice none 0 0] := ((Blk.new W [.int .i64 0, .int .i64 0, .int .i64 0, .bool false, .int .i64 0, .slice none 0 0, .slice none 0 0] 78).alloc _).below hb1' (by omega); have hq2 : Blk w1 (W.heap.size + 1) [.string ⟨#[]⟩, .int .i64 0, .slice none 0 0] := (by have := (Blk.new (W.alloc (.cells #[.int .i64 0, .int .i64 0, .int .i64 0, .bool false, .int .i64 0, .slice none 0 0, .slice none 0 0] 78)) [.string ⟨#[]⟩, .int .i64 0, .slice none 0 0] 76); simp only [World.size_alloc] at this; exact this.below hb1' (by omega)); obtain ⟨⟨z0, z1, z2, z3⟩, ⟨z4, z5, z6⟩, z7, z8⟩ := hq1.b7; obtain ⟨q0, q1, q2, q3, q4⟩ := hq2.b3; clear hq1 hq2 hb1'; have hc := HB1.out.cell (p := ⟨hb', 0, none⟩) hbl; have hc0 := HB1.out.cell (p := ⟨g, k * 3, none⟩) hgl; have hc1 := HB1.out.cell (p := ⟨g, k * 3 + 1, none⟩) hgl; have hc2 := HB1.out.cell (p := ⟨g, k * 3 + 2, none⟩) hgl; have hc3 := HB1.out.cell (p := ⟨nb, 0, none⟩) c3; rw [b0] at hc; rw [y0] at hc0; rw [y1] at hc1; rw [y2] at hc2; rw [c0] at hc3; clear hb1))
      · have hs1 := HB1.out.size
        go_wp2_with fail
        go_meet
        exact ⟨rfl, (HB1.out.alloc (by omega) _).alloc (by simp; omega) _⟩
      · have hs1 := HB1.out.size
        go_wp2_with fail
        go_meet
        exact ⟨rfl, (HB1.out.alloc (by omega) _).alloc (by simp; omega) _⟩
      · have hs1 := HB1.out.size
        go_wp2_with fail
        go_meet
        exact ⟨rfl, (below_set3 (b := W.heap.size) (x0 := .string ⟨#[]⟩) (x1 := .int .i64 0) (x2 := .slice none 0 0) HB1.out (by omega)).alloc (by rw [set3_size]; omega) _⟩
      · have hs1 := HB1.out.size
        go_wp2_with fail
        go_meet
        exact ⟨rfl, below_set7 (b := W.heap.size + 1) (below_set3 (b := W.heap.size) HB1.out (by omega)) (by omega)⟩
      · have hs1 := HB1.out.size
        go_wp2_with fail
        go_meet
        exact ⟨rfl, (below_set7 (b := W.heap.size) (x0 := .int .i64 0) (x1 := .int .i64 0) (x2 := .int .i64 0) (x3 := .bool false) (x4 := .int .i64 0) (x5 := .slice none 0 0) (x6 := .slice none 0 0) HB1.out (by omega)).alloc (by rw [set7_size]; omega) _⟩
      · have hs1 := HB1.out.size
        go_wp2_with fail
        go_meet
        exact ⟨rfl, below_set7 (b := W.heap.size) (below_set3 (b := W.heap.size + 1) HB1.out (by omega)) (by omega)⟩
    case rest =>
      obtain ⟨rfl, hcut⟩ := hcut
      have HC : Hid (Below W.heap.size W wc) := hcut
      clear hcut
      go_wp2_with fail
      refine bodyPost_ret (v := .tuple #[.slice none 0 0, .int .i64 9]) (by simp [results, Try.results137, go_sem, *]; done) rfl ⟨none, 0, 0, rfl, fun h => by simp at h, ⟨none, 0, none, 0, HNB.out.2.below HC.out HNB.out.2.lt, NoteIs.nil _ _⟩, Keep.of HC.out fun b hb => by have := hb.1; omega⟩
  · have HXI : Hid (idxI isInB q.items = (i : Int)) := hi
    rw [(takeF_some (h := h) (k := k) hi hil).1, (takeF_some (h := h) (k := k) hi hil).2]
    clear hi
    have HFI : Hid q.items[i].fits := HFT.out _ (List.getElem_mem hil)
    obtain ⟨it, hit⟩ : ∃ it, it = takeI now q.items[i] := ⟨_, rfl⟩
    have HITE : Hid (it = takeI now q.items[i] ∧ it.note = q.items[i].note) := ⟨hit, by rw [hit]; rfl⟩
    rw [← hit]
    clear hit
    obtain ⟨its', hits⟩ : ∃ its', its' = q.items.set i it := ⟨_, rfl⟩
    rw [← hits]
    have HIT : Hid (its' = q.items.set i it) := hits
    clear hits
    go_enter Try.func137, Try.ntmps137
    go_upto_region 1 with fail
    go_cut [8, 9, 10] (fun qp ip er wx => ∃ qb ib va vc p, qp = .pointer (some ⟨qb, 0, none⟩) ∧ ip = .pointer (some ⟨ib, 0, none⟩) ∧ er = .int .i64 0 ∧ TBox P hb' W g cap L h.next ⟨q.name, q.limit, its'⟩ va vc it p qb ib wx)
    case first =>
      go_region_held3 (fun w' => w'.cell? ⟨hb', 0, none⟩ = some (.slice (some ⟨g, 0, none⟩) L.length cap) ∧ w'.cell? ⟨g, k * 3, none⟩ = some (.string q.name) ∧ w'.cell? ⟨g, k * 3 + 1, none⟩ = some (.int .i64 q.limit) ∧ w'.cell? ⟨g, k * 3 + 2, none⟩ = some (.slice ia q.items.length ic) ∧ w'.cell? ⟨nb, 0, none⟩ = some (.int .i64 now)) (go_keep) (first
          | (go_at_call 138; refine (take_new _ q.name q.limit now hnow q.items i hil _ ?_ HX.out.1 HXI.out HFI.out).mono ?_; (exact HI.out.sub fun b hb => ⟨hb, rfl⟩); rw [← HITE.out.1, ← HITE.out.2, ← HIT.out]; rintro r w1 ⟨v1, ⟨p1, p2⟩, rfl, hv1, hn1, hb1⟩; obtain ⟨va, vc, rfl⟩ := hv1.shp; obtain ⟨pa, pc, rfl, -⟩ := SliceV.shape hn1.1; obtain ⟨ba, bc, rfl, -⟩ := SliceV.shape hn1.2; have HB1 : Hid (Below W.heap.size W w1) := ⟨hb1.os, hb1.tape, hb1.output, hb1.size, hb1.block⟩; have HV1 : Hid (SliceI (Made (W.heap.size) w1.heap.size) w1 (.slice va its'.length vc) its' ∧ NoteIs (Made (W.heap.size) w1.heap.size) w1 (.slice pa it.note.props.length pc, .slice ba it.note.body.length bc) it.note) := ⟨hv1.sub (fun b hb => ⟨⟨hb.1, hb.2⟩, rfl⟩), hn1.sub (fun b hb => ⟨⟨hb.1, hb.2⟩, rfl⟩)⟩; have hc := HB1.out.cell (p := ⟨hb', 0, none⟩) hbl; have hc0 := HB1.out.cell (p := ⟨g, k * 3, none⟩) hgl; have hc1 := HB1.out.cell (p := ⟨g, k * 3 + 1, none⟩) hgl; have hc2 := HB1.out.cell (p := ⟨g, k * 3 + 2, none⟩) hgl; have hc3 := HB1.out.cell (p := ⟨nb, 0, none⟩) c3; rw [b0] at hc; rw [y0] at hc0; rw [y1] at hc1; rw [y2] at hc2; rw [c0] at hc3; clear hv1 hn1 hb1; simp only [IT.val])
          | (go_at_call 138; refine (take_new _ q.name q.limit now hnow q.items i hil _ ?_ HX.out.1 HXI.out HFI.out).mono ?_; (exact HI.out.sub fun b hb => ⟨Nat.lt_of_lt_of_le hb (by simp), (Below.heap_alloc W (.cells #[.string ⟨#[]⟩, .int .i64 0, .slice none 0 0] 76) b hb)⟩); rw [← HITE.out.1, ← HITE.out.2, ← HIT.out]; rintro r w1 ⟨v1, ⟨p1, p2⟩, rfl, hv1, hn1, hb1⟩; obtain ⟨va, vc, rfl⟩ := hv1.shp; obtain ⟨pa, pc, rfl, -⟩ := SliceV.shape hn1.1; obtain ⟨ba, bc, rfl, -⟩ := SliceV.shape hn1.2; have hb1' : Below (W.heap.size + 1) (W.alloc (.cells #[.string ⟨#[]⟩, .int .i64 0, .slice none 0 0] 76)) w1 := ⟨hb1.os, hb1.tape, hb1.output, by simpa using hb1.size, fun b hb => hb1.block b (by simpa using hb)⟩; have HB1 : Hid (Below W.heap.size W w1) := (((below_alloc W _).mono (by omega)).trans (hb1'.mono (by omega))); have HV1 : Hid (SliceI (Made (W.heap.size + 1) w1.heap.size) w1 (.slice va its'.length vc) its' ∧ NoteIs (Made (W.heap.size + 1) w1.heap.size) w1 (.slice pa it.note.props.length pc, .slice ba it.note.body.length bc) it.note) := ⟨hv1.sub (fun b hb => ⟨⟨by have := hb.1; simp at this; omega, hb.2⟩, rfl⟩), hn1.sub (fun b hb => ⟨⟨by have := hb.1; simp at this; omega, hb.2⟩, rfl⟩)⟩; have hq1 : Blk w1 W.heap.size [.string ⟨#[]⟩, .int .i64 0, .slice none 0 0] := (Blk.new W [.string ⟨#[]⟩, .int .i64 0, .slice none 0 0] 76).below hb1' (by omega); have HQ1 : Hid (Blk w1 W.heap.size [.string ⟨#[]⟩, .int .i64 0, .slice none 0 0]) := hq1; obtain ⟨q0, q1, q2, q3, q4⟩ := hq1.b3; clear hq1 hb1'; have hc := HB1.out.cell (p := ⟨hb', 0, none⟩) hbl; have hc0 := HB1.out.cell (p := ⟨g, k * 3, none⟩) hgl; have hc1 := HB1.out.cell (p := ⟨g, k * 3 + 1, none⟩) hgl; have hc2 := HB1.out.cell (p := ⟨g, k * 3 + 2, none⟩) hgl; have hc3 := HB1.out.cell (p := ⟨nb, 0, none⟩) c3; rw [b0] at hc; rw [y0] at hc0; rw [y1] at hc1; rw [y2] at hc2; rw [c0] at hc3; clear hv1 hn1 hb1; simp only [IT.val])
          | (go_at_call 138; refine (take_new _ q.name q.limit now hnow q.items i hil _ ?_ HX.out.1 HXI.out HFI.out).mono ?_; (exact HI.out.sub fun b hb => ⟨Nat.lt_of_lt_of_le hb (by simp), (Below.heap_alloc W (.cells #[.int .i64 0, .int .i64 0, .int .i64 0, .bool false, .int .i64 0, .slice none 0 0, .slice none 0 0] 78) b hb)⟩); rw [← HITE.out.1, ← HITE.out.2, ← HIT.out]; rintro r w1 ⟨v1, ⟨p1, p2⟩, rfl, hv1, hn1, hb1⟩; obtain ⟨va, vc, rfl⟩ := hv1.shp; obtain ⟨pa, pc, rfl, -⟩ := SliceV.shape hn1.1; obtain ⟨ba, bc, rfl, -⟩ := SliceV.shape hn1.2; have hb1' : Below (W.heap.size + 1) (W.alloc (.cells #[.int .i64 0, .int .i64 0, .int .i64 0, .bool false, .int .i64 0, .slice none 0 0, .slice none 0 0] 78)) w1 := ⟨hb1.os, hb1.tape, hb1.output, by simpa using hb1.size, fun b hb => hb1.block b (by simpa using hb)⟩; have HB1 : Hid (Below W.heap.size W w1) := (((below_alloc W _).mono (by omega)).trans (hb1'.mono (by omega))); have HV1 : Hid (SliceI (Made (W.heap.size + 1) w1.heap.size) w1 (.slice va its'.length vc) its' ∧ NoteIs (Made (W.heap.size + 1) w1.heap.size) w1 (.slice pa it.note.props.length pc, .slice ba it.note.body.length bc) it.note) := ⟨hv1.sub (fun b hb => ⟨⟨by have := hb.1; simp at this; omega, hb.2⟩, rfl⟩), hn1.sub (fun b hb => ⟨⟨by have := hb.1; simp at this; omega, hb.2⟩, rfl⟩)⟩; have hq1 : Blk w1 W.heap.size [.int .i64 0, .int .i64 0, .int .i64 0, .bool false, .int .i64 0, .slice none 0 0, .slice none 0 0] := (Blk.new W [.int .i64 0, .int .i64 0, .int .i64 0, .bool false, .int .i64 0, .slice none 0 0, .slice none 0 0] 78).below hb1' (by omega); have HQ1 : Hid (Blk w1 W.heap.size [.int .i64 0, .int .i64 0, .int .i64 0, .bool false, .int .i64 0, .slice none 0 0, .slice none 0 0]) := hq1; obtain ⟨⟨z0, z1, z2, z3⟩, ⟨z4, z5, z6⟩, z7, z8⟩ := hq1.b7; clear hq1 hb1'; have hc := HB1.out.cell (p := ⟨hb', 0, none⟩) hbl; have hc0 := HB1.out.cell (p := ⟨g, k * 3, none⟩) hgl; have hc1 := HB1.out.cell (p := ⟨g, k * 3 + 1, none⟩) hgl; have hc2 := HB1.out.cell (p := ⟨g, k * 3 + 2, none⟩) hgl; have hc3 := HB1.out.cell (p := ⟨nb, 0, none⟩) c3; rw [b0] at hc; rw [y0] at hc0; rw [y1] at hc1; rw [y2] at hc2; rw [c0] at hc3; clear hv1 hn1 hb1; simp only [IT.val])
          | (go_at_call 138; refine (take_new _ q.name q.limit now hnow q.items i hil _ ?_ HX.out.1 HXI.out HFI.out).mono ?_; (exact HI.out.sub fun b hb => ⟨Nat.lt_of_lt_of_le hb (by simp; omega), (Below.heap_alloc (W.alloc (.cells #[.string ⟨#[]⟩, .int .i64 0, .slice none 0 0] 76)) (.cells #[.int .i64 0, .int .i64 0, .int .i64 0, .bool false, .int .i64 0, .slice none 0 0, .slice none 0 0] 78) b (Nat.lt_of_lt_of_le hb (by simp))).trans (Below.heap_alloc W (.cells #[.string ⟨#[]⟩, .int .i64 0, .slice none 0 0] 76) b hb)⟩); rw [← HITE.out.1, ← HITE.out.2, ← HIT.out]; rintro r w1 ⟨v1, ⟨p1, p2⟩, rfl, hv1, hn1, hb1⟩; obtain ⟨va, vc, rfl⟩ := hv1.shp; obtain ⟨pa, pc, rfl, -⟩ := SliceV.shape hn1.1; obtain ⟨ba, bc, rfl, -⟩ := SliceV.shape hn1.2; have hb1' : Below (W.heap.size + 2) ((W.alloc (.cells #[.string ⟨#[]⟩, .int .i64 0, .slice none 0 0] 76)).alloc (.cells #[.int .i64 0, .int .i64 0, .int .i64 0, .bool false, .int .i64 0, .slice none 0 0, .slice none 0 0] 78)) w1 := ⟨hb1.os, hb1.tape, hb1.output, by simpa using hb1.size, fun b hb => hb1.block b (by simpa using hb)⟩; have HB1 : Hid (Below W.heap.size W w1) := ((((below_alloc W _).alloc (by simp) _).mono (by omega)).trans (hb1'.mono (by omega))); have HV1 : Hid (SliceI (Made (W.heap.size + 2) w1.heap.size) w1 (.slice va its'.length vc) its' ∧ NoteIs (Made (W.heap.size + 2) w1.heap.size) w1 (.slice pa it.note.props.length pc, .slice ba it.note.body.length bc) it.note) := ⟨hv1.sub (fun b hb => ⟨⟨by have := hb.1; simp at this; omega, hb.2⟩, rfl⟩), hn1.sub (fun b hb => ⟨⟨by have := hb.1; simp at this; omega, hb.2⟩, rfl⟩)⟩; have hq1 : Blk w1 W.heap.size [.string ⟨#[]⟩, .int .i64 0, .slice none 0 0] := ((Blk.new W [.string ⟨#[]⟩, .int .i64 0, .slice none 0 0] 76).alloc _).below hb1' (by omega); have hq2 : Blk w1 (W.heap.size + 1) [.int .i64 0, .int .i64 0, .int .i64 0, .bool false, .int .i64 0, .slice none 0 0, .slice none 0 0] := (by have := (Blk.new (W.alloc (.cells #[.string ⟨#[]⟩, .int .i64 0, .slice none 0 0] 76)) [.int .i64 0, .int .i64 0, .int .i64 0, .bool false, .int .i64 0, .slice none 0 0, .slice none 0 0] 78); simp only [World.size_alloc] at this; exact this.below hb1' (by omega)); have HQ1 : Hid (Blk w1 W.heap.size [.string ⟨#[]⟩, .int .i64 0, .slice none 0 0]) := hq1; have HQ2 : Hid (Blk w1 (W.heap.size + 1) [.int .i64 0, .int .i64 0, .int .i64 0, .bool false, .int .i64 0, .slice none 0 0, .slice none 0 0]) := hq2; obtain ⟨q0, q1, q2, q3, q4⟩ := hq1.b3; obtain ⟨⟨z0, z1, z2, z3⟩, ⟨z4, z5, z6⟩, z7, z8⟩ := hq2.b7; clear hq1 hq2 hb1'; have hc := HB1.out.cell (p := ⟨hb', 0, none⟩) hbl; have hc0 := HB1.out.cell (p := ⟨g, k * 3, none⟩) hgl; have hc1 := HB1.out.cell (p := ⟨g, k * 3 + 1, none⟩) hgl; have hc2 := HB1.out.cell (p := ⟨g, k * 3 + 2, none⟩) hgl; have hc3 := HB1.out.cell (p := ⟨nb, 0, none⟩) c3; rw [b0] at hc; rw [y0] at hc0; rw [y1] at hc1; rw [y2] at hc2; rw [c0] at hc3; clear hv1 hn1 hb1; simp only [IT.val])
          | (go_at_call 138; refine (take_new _ q.name q.limit now hnow q.items i hil _ ?_ HX.out.1 HXI.out HFI.out).mono ?_; (exact HI.out.sub fun b hb => ⟨Nat.lt_of_lt_of_le hb (by simp; omega), (Below.heap_alloc (W.alloc (.cells #[.int .i64 0, .int .i64 0, .int .i64 0, .bool false, .int .i64 0, .slice none 0 0, .slice none 0 0] 78)) (.cells #[.string ⟨#[]⟩, .int .i64 0, .slice none 0 0] 76) b (Nat.lt_of_lt_of_le hb (by simp))).trans (Below.heap_alloc W (.cells #[.int .i64 0, .int .i64 0, .int .i64 0, .bool false, .int .i64 0, .slice none 0 0, .slice none 0 0] 78) b hb)⟩); rw [← HITE.out.1, ← HITE.out.2, ← HIT.out]; rintro r w1 ⟨v1, ⟨p1, p2⟩, rfl, hv1, hn1, hb1⟩; obtain ⟨va, vc, rfl⟩ := hv1.shp; obtain ⟨pa, pc, rfl, -⟩ := SliceV.shape hn1.1; obtain ⟨ba, bc, rfl, -⟩ := SliceV.shape hn1.2; have hb1' : Below (W.heap.size + 2) ((W.alloc (.cells #[.int .i64 0, .int .i64 0, .int .i64 0, .bool false, .int .i64 0, .slice none 0 0, .slice none 0 0] 78)).alloc (.cells #[.string ⟨#[]⟩, .int .i64 0, .slice none 0 0] 76)) w1 := ⟨hb1.os, hb1.tape, hb1.output, by simpa using hb1.size, fun b hb => hb1.block b (by simpa using hb)⟩; have HB1 : Hid (Below W.heap.size W w1) := ((((below_alloc W _).alloc (by simp) _).mono (by omega)).trans (hb1'.mono (by omega))); have HV1 : Hid (SliceI (Made (W.heap.size + 2) w1.heap.size) w1 (.slice va its'.length vc) its' ∧ NoteIs (Made (W.heap.size + 2) w1.heap.size) w1 (.slice pa it.note.props.length pc, .slice ba it.note.body.length bc) it.note) := ⟨hv1.sub (fun b hb => ⟨⟨by have := hb.1; simp at this; omega, hb.2⟩, rfl⟩), hn1.sub (fun b hb => ⟨⟨by have := hb.1; simp at this; omega, hb.2⟩, rfl⟩)⟩; have hq1 : Blk w1 W.heap.size [.int .i64 0, .int .i64 0, .int .i64 0, .bool false, .int .i64 0, .slice none 0 0, .slice none 0 0] := ((Blk.new W [.int .i64 0, .int .i64 0, .int .i64 0, .bool false, .int .i64 0, .slice none 0 0, .slice none 0 0] 78).alloc _).below hb1' (by omega); have hq2 : Blk w1 (W.heap.size + 1) [.string ⟨#[]⟩, .int .i64 0, .slice none 0 0] := (by have := (Blk.new (W.alloc (.cells #[.int .i64 0, .int .i64 0, .int .i64 0, .bool false, .int .i64 0, .slice none 0 0, .slice none 0 0] 78)) [.string ⟨#[]⟩, .int .i64 0, .slice none 0 0] 76); simp only [World.size_alloc] at this; exact this.below hb1' (by omega)); have HQ1 : Hid (Blk w1 W.heap.size [.int .i64 0, .int .i64 0, .int .i64 0, .bool false, .int .i64 0, .slice none 0 0, .slice none 0 0]) := hq1; have HQ2 : Hid (Blk w1 (W.heap.size + 1) [.string ⟨#[]⟩, .int .i64 0, .slice none 0 0]) := hq2; obtain ⟨⟨z0, z1, z2, z3⟩, ⟨z4, z5, z6⟩, z7, z8⟩ := hq1.b7; obtain ⟨q0, q1, q2, q3, q4⟩ := hq2.b3; clear hq1 hq2 hb1'; have hc := HB1.out.cell (p := ⟨hb', 0, none⟩) hbl; have hc0 := HB1.out.cell (p := ⟨g, k * 3, none⟩) hgl; have hc1 := HB1.out.cell (p := ⟨g, k * 3 + 1, none⟩) hgl; have hc2 := HB1.out.cell (p := ⟨g, k * 3 + 2, none⟩) hgl; have hc3 := HB1.out.cell (p := ⟨nb, 0, none⟩) c3; rw [b0] at hc; rw [y0] at hc0; rw [y1] at hc1; rw [y2] at hc2; rw [c0] at hc3; clear hv1 hn1 hb1; simp only [IT.val]))
      · go_wp2_with fail
        go_meet
        have HT := TBox.f1 (q := ⟨q.name, q.limit, its'⟩) (it := it) (p := (.slice pa it.note.props.length pc, .slice ba it.note.body.length bc)) HH.out HB1.out HV1.out
        exact ⟨_, _, va, vc, _, rfl, rfl, rfl, HT⟩
      · go_wp2_with fail
        go_meet
        have HT := TBox.f2 (q := ⟨q.name, q.limit, its'⟩) (it := it) (p := (.slice pa it.note.props.length pc, .slice ba it.note.body.length bc)) HH.out HB1.out HV1.out
        exact ⟨_, _, va, vc, _, rfl, rfl, rfl, HT⟩
      · go_wp2_with fail
        go_meet
        have HT := TBox.f3 (q := ⟨q.name, q.limit, its'⟩) (it := it) (p := (.slice pa it.note.props.length pc, .slice ba it.note.body.length bc)) HH.out HB1.out HV1.out HQ1.out
        exact ⟨_, _, va, vc, _, rfl, rfl, rfl, HT⟩
      · go_wp2_with fail
        go_meet
        have HT := TBox.f4 (q := ⟨q.name, q.limit, its'⟩) (it := it) (p := (.slice pa it.note.props.length pc, .slice ba it.note.body.length bc)) HH.out HB1.out HV1.out HQ1.out HQ2.out
        exact ⟨_, _, va, vc, _, rfl, rfl, rfl, HT⟩
      · go_wp2_with fail
        go_meet
        have HT := TBox.f5 (q := ⟨q.name, q.limit, its'⟩) (it := it) (p := (.slice pa it.note.props.length pc, .slice ba it.note.body.length bc)) HH.out HB1.out HV1.out HQ1.out
        exact ⟨_, _, va, vc, _, rfl, rfl, rfl, HT⟩
      · go_wp2_with fail
        go_meet
        have HT := TBox.f6 (q := ⟨q.name, q.limit, its'⟩) (it := it) (p := (.slice pa it.note.props.length pc, .slice ba it.note.body.length bc)) HH.out HB1.out HV1.out HQ1.out HQ2.out
        exact ⟨_, _, va, vc, _, rfl, rfl, rfl, HT⟩
    case rest =>
      obtain ⟨qb, ib, va, vc, ⟨p1, p2⟩, rfl, rfl, rfl, hS⟩ := hcut
      obtain ⟨pa, pc, rfl, -⟩ := SliceV.shape hS.note.1
      obtain ⟨ba, bc, rfl, -⟩ := SliceV.shape hS.note.2
      obtain ⟨W2, hW2⟩ : ∃ W2, W2 = wc := ⟨_, rfl⟩
      rw [← hW2] at hS
      rw [← hW2]
      have HQ1 : Hid (TBox P hb' W g cap L h.next ⟨q.name, q.limit, its'⟩ va vc it (.slice pa it.note.props.length pc, .slice ba it.note.body.length bc) qb ib W2) := hS
      clear hS hW2 y0 y1 y2 b0 b1 b2 c0 c1 hgf
      obtain ⟨q0, q1, q2, q3, q4⟩ := HQ1.out.box.qblk.b3
      obtain ⟨⟨i0, i1, i2, i3⟩, ⟨i4, i5, i6⟩, i7, i8⟩ := HQ1.out.iblk.b7
      obtain ⟨h0, h1, h2, h3⟩ := HQ1.out.box.hall.box.b2
      obtain ⟨ja, jc, -, -, y0, y1, y2⟩ := HQ1.out.box.hall.at k hkL
      have hgf := HQ1.out.box.hall.f
      have hgw := HQ1.out.box.hall.gl.1
      have hgbk := HNB.out.2.below HQ1.out.box.bel HNB.out.2.lt
      obtain ⟨⟨g0, g1, g2, g3⟩, ⟨g4, g5, g6⟩, g7, g8⟩ := hgbk.b7
      have hql := HQ1.out.box.ql
      have hil2 := HQ1.out.il
      have HGB : Hid (Blk W2 gb (IT.cells ⟨0, 0, 0, false, 0, nN⟩ (.slice none 0 0, .slice none 0 0))) := hgbk
      clear hgbk
      have m1 : g ≠ hb' := by omega
      have m2 : g ≠ qb := by omega
      have m3 : g ≠ ib := by omega
      have m4 : gb ≠ hb' := by omega
      have m5 : gb ≠ qb := by omega
      have m6 : gb ≠ ib := by omega
      have m7 : gb ≠ g := by omega
      go_upto_region 4 with fail
      go_cut [] (fun wx => GoodEnd P hb' W g cap L k h.next ⟨q.name, q.limit, its'⟩ (.slice va its'.length vc) W2.heap.size gb it (.slice pa it.note.props.length pc, .slice ba it.note.body.length bc) wx)
      case first =>
        have HF := good_end (gb := gb) (it := it) (pa := pa) (ba := ba) (pc := pc) (bc := bc) (HQ1.out.box.put hgl hbl HX.out.2.2.2 k hkL) (HGB.out.same ((Below.heap_setCell _ _ _ _ m7).trans ((Below.heap_setCell _ _ _ _ m7).trans (Below.heap_setCell _ _ _ _ m7)))) (HQ1.out.note.sub fun b hb => ⟨hb, by
            have hne : b ≠ g := by have := hb.1; omega
            exact (Below.heap_setCell _ _ _ _ hne).trans ((Below.heap_setCell _ _ _ _ hne).trans (Below.heap_setCell _ _ _ _ hne))⟩)
        unfold set7 at HF
        have HF' : Hid _ := HF
        clear HF
        go_region_law (fail)
        all_goals
          go_wp2_with fail
          go_meet
          exact HF'.out
      case rest =>
        obtain ⟨V, hQ, hz, hos, hx, hG, hN⟩ := hcut
        have HE : Hid _ := take_end (w0 := w) hQ HX.out.2.1 HX.out.2.2.1 hgP hbB (by omega) (by omega) hz hos hx hG hN
        clear hQ hz hos hx hG hN
        go_wp2_with fail
        exact bodyPost_ret (v := .tuple #[.slice none 0 0, .int .i64 0]) (by simp [results, Try.results137, go_sem, *]; done) rfl ⟨none, 0, 0, rfl, (by first | exact HE.out.1 | exact fun _ => HE.out.1), HE.out.2.1, HE.out.2.2⟩
end Go.Proofs.Ytkddkpdfeeikhaa
