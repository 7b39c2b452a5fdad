/-
  hall.Take.
-/
import Derived.Test.YtkddkpdfeeikhaaJFollowsProofM22
namespace Go.Proofs.Ytkddkpdfeeikhaa
open Go.RowKit
set_option linter.unusedVariables false
set_option linter.unusedSimpArgs false

attribute [local go_sem ↓] Go.wp_at_zero Go.wp_at_succ

/-- Take, at a place. -/
def takeF (h : HD) (k : Nat) (q : QD) (now : Int) : HD × List ED × Int :=
  match q.items.findIdx? isInB with
  | none => (h, [], 9)
  | some i => match q.items[i]? with
    | none => (h, [], 9)
    | some it => (h.setQ k ⟨q.name, q.limit, q.items.set i (takeI now it)⟩, [], 0)
/-- A queue in the box qb, an item in the box ib, behind a call from W. -/
structure TBox (P : Nat → Prop) (hb : Nat) (W : World) (g cap : Nat) (L : QuL) (next : Int) (q : QD) (va : Option Addr) (vc : Nat) (it : IT) (p : Value × Value) (qb ib : Nat) (wx : World) : Prop where
  box : QBox P hb W g cap L next q va vc qb wx
  iblk : Blk wx ib (it.cells p)
  il : W.heap.size ≤ ib
  note : NoteIs (Made W.heap.size wx.heap.size) wx p it.note

def set3 (w : World) (b : Nat) (x0 x1 x2 : Value) : World := ((w.setCell ⟨b, 0, none⟩ x0).setCell ⟨b, 1, none⟩ x1).setCell ⟨b, 2, none⟩ x2
def set7 (w : World) (b : Nat) (x0 x1 x2 x3 x4 x5 x6 : Value) : World := ((((((w.setCell ⟨b, 0, none⟩ x0).setCell ⟨b, 1, none⟩ x1).setCell ⟨b, 2, none⟩ x2).setCell ⟨b, 3, none⟩ x3).setCell ⟨b, 4, none⟩ x4).setCell ⟨b, 5, none⟩ x5).setCell ⟨b, 6, none⟩ x6
theorem set3_far {w : World} {b c : Nat} {x0 x1 x2 : Value} (h : c ≠ b) : (set3 w b x0 x1 x2).heap[c]? = w.heap[c]? := by
  unfold set3; rw [Below.heap_setCell _ _ _ _ h, Below.heap_setCell _ _ _ _ h, Below.heap_setCell _ _ _ _ h]
theorem set7_far {w : World} {b c : Nat} {x0 x1 x2 x3 x4 x5 x6 : Value} (h : c ≠ b) : (set7 w b x0 x1 x2 x3 x4 x5 x6).heap[c]? = w.heap[c]? := by
  unfold set7; iterate 7 rw [Below.heap_setCell _ _ _ _ h]
theorem set3_size {w : World} {b : Nat} {x0 x1 x2 : Value} : (set3 w b x0 x1 x2).heap.size = w.heap.size := by simp [set3]
theorem set7_size {w : World} {b : Nat} {x0 x1 x2 x3 x4 x5 x6 : Value} : (set7 w b x0 x1 x2 x3 x4 x5 x6).heap.size = w.heap.size := by simp [set7]
theorem set3_blk {w : World} {b : Nat} {y0 y1 y2 x0 x1 x2 : Value} (h : Blk w b [y0, y1, y2]) : Blk (set3 w b x0 x1 x2) b [x0, x1, x2] := ((h.set 0 _).set 1 _).set 2 _
theorem set7_blk {w : World} {b : Nat} {y0 y1 y2 y3 y4 y5 y6 x0 x1 x2 x3 x4 x5 x6 : Value} (h : Blk w b [y0, y1, y2, y3, y4, y5, y6]) : Blk (set7 w b x0 x1 x2 x3 x4 x5 x6) b [x0, x1, x2, x3, x4, x5, x6] := ((((((h.set 0 _).set 1 _).set 2 _).set 3 _).set 4 _).set 5 _).set 6 _
theorem sc_os (w : World) (a : Addr) (v : Value) : (w.setCell a v).os = w.os := rfl
theorem sc_tape (w : World) (a : Addr) (v : Value) : (w.setCell a v).tape = w.tape := rfl
theorem sc_output (w : World) (a : Addr) (v : Value) : (w.setCell a v).output = w.output := rfl
theorem al_os (w : World) (o : Obj) : (w.alloc o).os = w.os := rfl
theorem al_tape (w : World) (o : Obj) : (w.alloc o).tape = w.tape := rfl
theorem al_output (w : World) (o : Obj) : (w.alloc o).output = w.output := rfl
theorem set3_os {w : World} {b : Nat} {x0 x1 x2 : Value} : (set3 w b x0 x1 x2).os = w.os ∧ (set3 w b x0 x1 x2).tape = w.tape ∧ (set3 w b x0 x1 x2).output = w.output := by
  unfold set3; exact ⟨by simp only [sc_os], by simp only [sc_tape], by simp only [sc_output]⟩
theorem set7_os {w : World} {b : Nat} {x0 x1 x2 x3 x4 x5 x6 : Value} : (set7 w b x0 x1 x2 x3 x4 x5 x6).os = w.os ∧ (set7 w b x0 x1 x2 x3 x4 x5 x6).tape = w.tape ∧ (set7 w b x0 x1 x2 x3 x4 x5 x6).output = w.output := by
  unfold set7; exact ⟨by simp only [sc_os], by simp only [sc_tape], by simp only [sc_output]⟩

section
variable {P : Nat → Prop} {hb : Nat} {W w1 : World} {g cap : Nat} {L : QuL} {next : Int} {q : QD} {va : Option Addr} {vc : Nat} {it : IT} {p : Value × Value}

theorem TBox.mk' {qb ib lo : Nat} {wx : World} (H : HallIn P hb W (.slice (some ⟨g, 0, none⟩) L.length cap) L next) (h1 : Below W.heap.size W w1) (hI : SliceI (Made lo w1.heap.size) w1 (.slice va q.items.length vc) q.items) (hN : NoteIs (Made lo w1.heap.size) w1 p it.note) (hlo : W.heap.size ≤ lo)
    (hos : wx.os = w1.os ∧ wx.tape = w1.tape ∧ wx.output = w1.output) (hz : w1.heap.size ≤ wx.heap.size) (hx : ∀ b, b < w1.heap.size → (b < W.heap.size ∨ lo ≤ b) → wx.heap[b]? = w1.heap[b]?) (hq : Blk wx qb [.string q.name, .int .i64 q.limit, .slice va q.items.length vc]) (hi : Blk wx ib (it.cells p)) (hql : W.heap.size ≤ qb ∧ (qb < lo ∨ w1.heap.size ≤ qb)) (hil : W.heap.size ≤ ib) :
    TBox P hb W g cap L next q va vc it p qb ib wx := by
  have hz1 := h1.size
  have h2 : Below W.heap.size W wx := ⟨hos.1.trans h1.os, hos.2.1.trans h1.tape, hos.2.2.trans h1.output, by omega, fun b hb => (hx b (by omega) (.inl hb)).trans (h1.block b hb)⟩
  exact ⟨⟨h2, H.below h2, hq, hql.1, hI.sub fun b hb => ⟨⟨⟨by have := hb.1; omega, by have := hb.2; omega⟩, by have := hb.1; have := hb.2; omega⟩, hx b hb.2 (.inr hb.1)⟩⟩, hi, hil, hN.sub fun b hb => ⟨⟨by have := hb.1; omega, by have := hb.2; omega⟩, hx b hb.2 (.inr hb.1)⟩⟩


theorem TBox.f1 (H : HallIn P hb W (.slice (some ⟨g, 0, none⟩) L.length cap) L next) (h1 : Below W.heap.size W w1) (hV : SliceI (Made W.heap.size w1.heap.size) w1 (.slice va q.items.length vc) q.items ∧ NoteIs (Made W.heap.size w1.heap.size) w1 p it.note) :
    TBox P hb W g cap L next q va vc it p w1.heap.size (w1.heap.size + 1) ((w1.alloc (.cells #[.string q.name, .int .i64 q.limit, .slice va q.items.length vc] 76)).alloc (.cells #[.int .i64 it.id, .int .i64 it.turn, .int .i64 it.tries, .bool it.out, .int .i64 it.due, p.1, p.2] 78)) := by
  have hz1 := h1.size
  refine TBox.mk' H h1 hV.1 hV.2 (Nat.le_refl _) ⟨rfl, rfl, rfl⟩ (by simp; omega) (fun b hb _ => (Below.heap_alloc _ _ _ (by simp; omega)).trans (Below.heap_alloc _ _ _ hb)) ((Blk.new _ _ _).alloc _) ?_ ⟨by omega, .inr (by omega)⟩ (by omega)
  have := Blk.new (w1.alloc (.cells #[.string q.name, .int .i64 q.limit, .slice va q.items.length vc] 76)) (it.cells p) 78
  rw [World.size_alloc] at this
  exact this
theorem TBox.f2 (H : HallIn P hb W (.slice (some ⟨g, 0, none⟩) L.length cap) L next) (h1 : Below W.heap.size W w1) (hV : SliceI (Made W.heap.size w1.heap.size) w1 (.slice va q.items.length vc) q.items ∧ NoteIs (Made W.heap.size w1.heap.size) w1 p it.note) :
    TBox P hb W g cap L next q va vc it p (w1.heap.size + 1) w1.heap.size ((w1.alloc (.cells #[.int .i64 it.id, .int .i64 it.turn, .int .i64 it.tries, .bool it.out, .int .i64 it.due, p.1, p.2] 78)).alloc (.cells #[.string q.name, .int .i64 q.limit, .slice va q.items.length vc] 76)) := by
  have hz1 := h1.size
  refine TBox.mk' H h1 hV.1 hV.2 (Nat.le_refl _) ⟨rfl, rfl, rfl⟩ (by simp; omega) (fun b hb _ => (Below.heap_alloc _ _ _ (by simp; omega)).trans (Below.heap_alloc _ _ _ hb)) ?_ ((Blk.new w1 (it.cells p) 78).alloc _) ⟨by omega, .inr (by omega)⟩ (by omega)
  have := Blk.new (w1.alloc (.cells (it.cells p).toArray 78)) [.string q.name, .int .i64 q.limit, .slice va q.items.length vc] 76
  rw [World.size_alloc] at this
  exact this
theorem TBox.f3 (H : HallIn P hb W (.slice (some ⟨g, 0, none⟩) L.length cap) L next) (h1 : Below W.heap.size W w1) (hV : SliceI (Made (W.heap.size + 1) w1.heap.size) w1 (.slice va q.items.length vc) q.items ∧ NoteIs (Made (W.heap.size + 1) w1.heap.size) w1 p it.note) {y0 y1 y2 : Value} (hq : Blk w1 W.heap.size [y0, y1, y2]) :
    TBox P hb W g cap L next q va vc it p W.heap.size w1.heap.size ((set3 w1 W.heap.size (.string q.name) (.int .i64 q.limit) (.slice va q.items.length vc)).alloc (.cells #[.int .i64 it.id, .int .i64 it.turn, .int .i64 it.tries, .bool it.out, .int .i64 it.due, p.1, p.2] 78)) := by
  have hz1 := h1.size
  refine TBox.mk' H h1 hV.1 hV.2 (by omega) ⟨(al_os _ _).trans set3_os.1, (al_tape _ _).trans set3_os.2.1, (al_output _ _).trans set3_os.2.2⟩ (by simp [set3_size]) (fun b hb hl => (Below.heap_alloc _ _ _ (by rw [set3_size]; omega)).trans (set3_far (by omega))) ((set3_blk hq).alloc _) ?_ ⟨by omega, .inl (by omega)⟩ (by omega)
  have := Blk.new (set3 w1 W.heap.size (.string q.name) (.int .i64 q.limit) (.slice va q.items.length vc)) (it.cells p) 78
  rw [set3_size] at this
  exact this
theorem TBox.f4 (H : HallIn P hb W (.slice (some ⟨g, 0, none⟩) L.length cap) L next) (h1 : Below W.heap.size W w1) (hV : SliceI (Made (W.heap.size + 2) w1.heap.size) w1 (.slice va q.items.length vc) q.items ∧ NoteIs (Made (W.heap.size + 2) w1.heap.size) w1 p it.note) {y0 y1 y2 z0 z1 z2 z3 z4 z5 z6 : Value} (hq : Blk w1 W.heap.size [y0, y1, y2]) (hi : Blk w1 (W.heap.size + 1) [z0, z1, z2, z3, z4, z5, z6]) :
    TBox P hb W g cap L next q va vc it p W.heap.size (W.heap.size + 1) (set7 (set3 w1 W.heap.size (.string q.name) (.int .i64 q.limit) (.slice va q.items.length vc)) (W.heap.size + 1) (.int .i64 it.id) (.int .i64 it.turn) (.int .i64 it.tries) (.bool it.out) (.int .i64 it.due) p.1 p.2) := by
  have hz1 := h1.size
  exact TBox.mk' H h1 hV.1 hV.2 (by omega) ⟨set7_os.1.trans set3_os.1, set7_os.2.1.trans set3_os.2.1, set7_os.2.2.trans set3_os.2.2⟩ (by simp [set3_size, set7_size]) (fun b hb hl => (set7_far (by omega)).trans (set3_far (by omega))) ((set3_blk hq).same (set7_far (by omega))) (set7_blk (hi.same (set3_far (by omega)))) ⟨by omega, .inl (by omega)⟩ (by omega)
theorem TBox.f5 (H : HallIn P hb W (.slice (some ⟨g, 0, none⟩) L.length cap) L next) (h1 : Below W.heap.size W w1) (hV : SliceI (Made (W.heap.size + 1) w1.heap.size) w1 (.slice va q.items.length vc) q.items ∧ NoteIs (Made (W.heap.size + 1) w1.heap.size) w1 p it.note) {z0 z1 z2 z3 z4 z5 z6 : Value} (hi : Blk w1 W.heap.size [z0, z1, z2, z3, z4, z5, z6]) :
    TBox P hb W g cap L next q va vc it p w1.heap.size W.heap.size ((set7 w1 W.heap.size (.int .i64 it.id) (.int .i64 it.turn) (.int .i64 it.tries) (.bool it.out) (.int .i64 it.due) p.1 p.2).alloc (.cells #[.string q.name, .int .i64 q.limit, .slice va q.items.length vc] 76)) := by
  have hz1 := h1.size
  refine TBox.mk' H h1 hV.1 hV.2 (by omega) ⟨(al_os _ _).trans set7_os.1, (al_tape _ _).trans set7_os.2.1, (al_output _ _).trans set7_os.2.2⟩ (by simp [set7_size]) (fun b hb hl => (Below.heap_alloc _ _ _ (by rw [set7_size]; omega)).trans (set7_far (by omega))) ?_ ((set7_blk hi).alloc _) ⟨by omega, .inr (by omega)⟩ (by omega)
  have := Blk.new (set7 w1 W.heap.size (.int .i64 it.id) (.int .i64 it.turn) (.int .i64 it.tries) (.bool it.out) (.int .i64 it.due) p.1 p.2) [.string q.name, .int .i64 q.limit, .slice va q.items.length vc] 76
  rw [set7_size] at this
  exact this
theorem TBox.f6 (H : HallIn P hb W (.slice (some ⟨g, 0, none⟩) L.length cap) L next) (h1 : Below W.heap.size W w1) (hV : SliceI (Made (W.heap.size + 2) w1.heap.size) w1 (.slice va q.items.length vc) q.items ∧ NoteIs (Made (W.heap.size + 2) w1.heap.size) w1 p it.note) {y0 y1 y2 z0 z1 z2 z3 z4 z5 z6 : Value} (hi : Blk w1 W.heap.size [z0, z1, z2, z3, z4, z5, z6]) (hq : Blk w1 (W.heap.size + 1) [y0, y1, y2]) :
    TBox P hb W g cap L next q va vc it p (W.heap.size + 1) W.heap.size (set7 (set3 w1 (W.heap.size + 1) (.string q.name) (.int .i64 q.limit) (.slice va q.items.length vc)) W.heap.size (.int .i64 it.id) (.int .i64 it.turn) (.int .i64 it.tries) (.bool it.out) (.int .i64 it.due) p.1 p.2) := by
  have hz1 := h1.size
  exact TBox.mk' H h1 hV.1 hV.2 (by omega) ⟨set7_os.1.trans set3_os.1, set7_os.2.1.trans set3_os.2.1, set7_os.2.2.trans set3_os.2.2⟩ (by simp [set3_size, set7_size]) (fun b hb hl => (set7_far (by omega)).trans (set3_far (by omega))) ((set3_blk hq).same (set7_far (by omega))) (set7_blk (hi.same (set3_far (by omega)))) ⟨by omega, .inl (by omega)⟩ (by omega)
end

end Go.Proofs.Ytkddkpdfeeikhaa
