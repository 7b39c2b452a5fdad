/-
  hall.putIn puts a note in a hall itself.
-/
import Derived.Test.YtkddkpdfeeikhaaJShortProofM09
import Derived.Deep.DeepCutAuto
namespace Go.Proofs.Ytkddkpdfeeikhaa
open Go.RowKit
set_option linter.unusedVariables false
set_option linter.unusedSimpArgs false

attribute [local go_sem ↓] Go.wp_at_zero Go.wp_at_succ

/-- The k-th queue in the hall's row. -/
theorem HallIn.at {P : Nat → Prop} {hb : Nat} {w : World} {g n cap : Nat} {L : QuL} {next : Int} (h : HallIn P hb w (.slice (some ⟨g, 0, none⟩) n cap) L next) (k : Nat) (hk : k < L.length) :
    ∃ ia ic, L[k].2 = .slice ia L[k].1.items.length ic ∧ SliceI (fun b => P b ∧ b ≠ g) w (.slice ia L[k].1.items.length ic) L[k].1.items ∧ w.cell? ⟨g, k * 3, none⟩ = some (.string L[k].1.name) ∧ w.cell? ⟨g, k * 3 + 1, none⟩ = some (.int .i64 L[k].1.limit) ∧ w.cell? ⟨g, k * 3 + 2, none⟩ = some (.slice ia L[k].1.items.length ic) := by
  have hi := h.items L[k] (List.getElem_mem hk)
  obtain ⟨ia, ic, e2⟩ := hi.shp
  have hn : n = L.length := by
    rcases h.row.2 with ⟨h', -⟩ | ⟨g', cap', cur, h', -⟩
    · simp at h'
    · simp only [Value.slice.injEq] at h'; exact h'.2.1
  subst hn
  have key : ∀ j, j < 3 → w.cell? ⟨g, k * 3 + j, none⟩ = (L[k].1.cells L[k].2)[j]? := fun j hj => by
    rw [h.row.cellAt (k * 3 + j) (by omega), cellsQ_at L k j hk hj]
  refine ⟨ia, ic, e2, ?_, key 0 (by omega), key 1 (by omega), ?_⟩
  · rw [← e2]; exact hi.sub fun b hb => ⟨⟨hb.1, fun e => hb.2 (by rw [e]; rfl)⟩, rfl⟩
  · rw [← e2]; exact key 2 (by omega)

theorem HallIn.f {P : Nat → Prop} {hb : Nat} {w : World} {g cap n : Nat} {L : QuL} {next : Int} (h : HallIn P hb w (.slice (some ⟨g, 0, none⟩) n cap) L next) : ∀ o, w.frozen? ⟨g, o, none⟩ = false := by
  have hn : n = L.length := by
    rcases h.row.2 with ⟨h', -⟩ | ⟨g', cap', cur, h', -⟩
    · simp at h'
    · simp only [Value.slice.injEq] at h'; exact h'.2.1
  subst hn
  exact fun o => h.row.frozenAt o

theorem HallIn.gl {P : Nat → Prop} {hb : Nat} {w : World} {g cap n : Nat} {L : QuL} {next : Int} (h : HallIn P hb w (.slice (some ⟨g, 0, none⟩) n cap) L next) : g < w.heap.size ∧ g ≠ hb ∧ hb < w.heap.size ∧ P g := ⟨h.lt g (h.rowP g rfl), fun e => h.nb (e ▸ h.rowP g rfl), h.box.lt, h.rowP g rfl⟩

/-- What holds in 'putIn' behind the call: q lies in the box qb. -/
structure PutS (P : Nat → Prop) (hb : Nat) (w : World) (g cap : Nat) (L : QuL) (next : Int) (pv bv : Value) (qn : ByteArray) (ql : Int) (va : Option Addr) (vn vc : Nat) (its : List IT) (qb : Nat) (W : World) : Prop where
  bel : Below w.heap.size w W
  hall : HallIn P hb W (.slice (some ⟨g, 0, none⟩) L.length cap) L next
  note : Blk W w.heap.size [pv, bv]
  q : Blk W qb [.string qn, .int .i64 ql, .slice va vn vc]
  ql : w.heap.size + 1 ≤ qb
  items : SliceI (fun b => Made (w.heap.size + 1) W.heap.size b ∧ b ≠ qb) W (.slice va vn vc) its

theorem PutS.new {P : Nat → Prop} {hb : Nat} {w W0 w1 : World} {g cap : Nat} {L : QuL} {next : Int} {pv bv : Value} {qn : ByteArray} {ql : Int} {va : Option Addr} {vn vc : Nat} {its : List IT} (h0 : Below w.heap.size w W0) (hz : W0.heap.size = w.heap.size + 1) (hH : HallIn P hb W0 (.slice (some ⟨g, 0, none⟩) L.length cap) L next) (hN : Blk W0 w.heap.size [pv, bv]) (h1 : Below W0.heap.size W0 w1) (hI : SliceI (Made W0.heap.size w1.heap.size) w1 (.slice va vn vc) its) :
    PutS P hb w g cap L next pv bv qn ql va vn vc its w1.heap.size (w1.alloc (.cells #[.string qn, .int .i64 ql, .slice va vn vc] 76)) := by
  have z1 := h1.size
  have h2 : Below W0.heap.size W0 (w1.alloc (.cells #[.string qn, .int .i64 ql, .slice va vn vc] 76)) := h1.alloc (by omega) _
  refine ⟨h0.trans (h2.mono (by omega)), hH.below h2, hN.below h2 hN.lt, Blk.new _ _ _, by omega, hI.sub fun b hb => ⟨⟨⟨by have := hb.1; omega, by have := hb.2; simp; omega⟩, by have := hb.2; omega⟩, Below.heap_alloc _ _ _ hb.2⟩⟩

theorem PutS.drew {P : Nat → Prop} {hb : Nat} {w W : World} {g cap : Nat} {L : QuL} {next : Int} {pv bv : Value} {qn : ByteArray} {ql : Int} {va : Option Addr} {vn vc : Nat} {its : List IT} {qb : Nat} (h : PutS P hb w g cap L next pv bv qn ql va vn vc its qb W) : PutS P hb w g cap L next pv bv qn ql va vn vc its qb W.drew :=
  ⟨h.bel.drew, h.hall.on (Nat.le_refl _) (fun _ _ => rfl), h.note, h.q, h.ql, h.items.sub fun b hb => ⟨hb, rfl⟩⟩

theorem HallIn.mono {P P' : Nat → Prop} {hb : Nat} {w : World} {v : Value} {L : QuL} {next : Int} (h : HallIn P hb w v L next) (hP : ∀ b, P b → P' b) (hl : ∀ b, P' b → b < w.heap.size) (hn : ¬ P' hb) : HallIn P' hb w v L next :=
  ⟨h.box, h.row, fun b e => hP b (h.rowP b e), fun x hx => (h.items x hx).sub fun b hb => ⟨⟨hP b hb.1, hb.2⟩, rfl⟩, hl, hn⟩

/-- What holds in 'putIn' behind the store into the row. -/
structure PutT (P : Nat → Prop) (hb : Nat) (w : World) (g cap : Nat) (L : QuL) (k : Nat) (next : Int) (pv bv : Value) (q : QD) (v : Value) (m qb : Nat) (W : World) : Prop where
  keep : Keep (fun b => b < w.heap.size ∧ b ≠ g ∧ b ≠ hb) w W
  hall : HallIn (fun b => P b ∨ Made w.heap.size m b) hb W (.slice (some ⟨g, 0, none⟩) L.length cap) (L.set k (q, v)) next
  note : Blk W w.heap.size [pv, bv]
  q : Blk W qb [.string q.name, .int .i64 q.limit, v]
  ml : w.heap.size < m
  mh : m ≤ W.heap.size
  hbl : hb < w.heap.size
  qbl : w.heap.size < qb

theorem PutS.put {P : Nat → Prop} {hb : Nat} {w W : World} {g cap : Nat} {L : QuL} {next : Int} {pv bv : Value} {q : QD} {va : Option Addr} {vc : Nat} {qb : Nat} (h : PutS P hb w g cap L next pv bv q.name q.limit va q.items.length vc q.items qb W) (k : Nat) (hk : k < L.length) (hgl : g < w.heap.size) (hbl : hb < w.heap.size) (hP : ∀ b, P b → b < w.heap.size) :
    PutT P hb w g cap L k next pv bv q (.slice va q.items.length vc) W.heap.size qb (((W.setCell ⟨g, k * 3, none⟩ (.string q.name)).setCell ⟨g, k * 3 + 1, none⟩ (.int .i64 q.limit)).setCell ⟨g, k * 3 + 2, none⟩ (.slice va q.items.length vc)) := by
  have far : ∀ b, b ≠ g → (((W.setCell ⟨g, k * 3, none⟩ (.string q.name)).setCell ⟨g, k * 3 + 1, none⟩ (.int .i64 q.limit)).setCell ⟨g, k * 3 + 2, none⟩ (.slice va q.items.length vc)).heap[b]? = W.heap[b]? := fun b hb => by
    rw [Below.heap_setCell _ _ _ _ hb, Below.heap_setCell _ _ _ _ hb, Below.heap_setCell _ _ _ _ hb]
  have hql := h.ql
  have hz := h.bel.size
  have hnl := h.note.lt
  have sz : (((W.setCell ⟨g, k * 3, none⟩ (.string q.name)).setCell ⟨g, k * 3 + 1, none⟩ (.int .i64 q.limit)).setCell ⟨g, k * 3 + 2, none⟩ (.slice va q.items.length vc)).heap.size = W.heap.size := by simp
  refine ⟨⟨h.bel.os, h.bel.tape, h.bel.output, by rw [sz]; exact hz, fun b hb => (far b hb.2.1).trans (h.bel.block b hb.1)⟩, ?_, h.note.same (far _ (by omega)), h.q.same (far _ (by omega)), by omega, by rw [sz]; exact Nat.le_refl _, hbl, by omega⟩
  refine HallIn.mono (h.hall.put rfl k hk q _ _ (fun b hb' => ?_) h.items) (fun b hb' => ?_) (fun b hb' => ?_) (fun hb' => ?_)
  · obtain ⟨⟨h1, h2⟩, h3⟩ := hb'
    exact ⟨h2, by omega, by omega⟩
  · rcases hb' with hb' | ⟨⟨h1, h2⟩, h3⟩
    · exact .inl hb'
    · exact .inr ⟨by omega, h2⟩
  · rw [sz]
    rcases hb' with hb' | hb'
    · have := hP b hb'; omega
    · exact hb'.2
  · rcases hb' with hb' | hb'
    · exact h.hall.nb hb'
    · have := hb'.1; omega

theorem PutT.drew {P : Nat → Prop} {hb : Nat} {w W : World} {g cap : Nat} {L : QuL} {k : Nat} {next : Int} {pv bv : Value} {q : QD} {v : Value} {m qb : Nat} (h : PutT P hb w g cap L k next pv bv q v m qb W) : PutT P hb w g cap L k next pv bv q v m qb W.drew :=
  ⟨⟨h.keep.os, h.keep.tape, h.keep.output, h.keep.size, h.keep.block⟩, h.hall.on (Nat.le_refl _) (fun _ _ => rfl), h.note, h.q, h.ml, h.mh, h.hbl, h.qbl⟩
theorem PutT.below {P : Nat → Prop} {hb : Nat} {w W W' : World} {g cap : Nat} {L : QuL} {k : Nat} {next : Int} {pv bv : Value} {q : QD} {v : Value} {m qb : Nat} (h : PutT P hb w g cap L k next pv bv q v m qb W) (hB : Below W.heap.size W W') : PutT P hb w g cap L k next pv bv q v m qb W' :=
  ⟨⟨hB.os.trans h.keep.os, hB.tape.trans h.keep.tape, hB.output.trans h.keep.output, Nat.le_trans h.keep.size hB.size, fun b hb => (hB.block b (Nat.lt_of_lt_of_le hb.1 h.keep.size)).trans (h.keep.block b hb)⟩, h.hall.below hB, h.note.below hB h.note.lt, h.q.below hB h.q.lt, h.ml, Nat.le_trans h.mh hB.size, h.hbl, h.qbl⟩

end Go.Proofs.Ytkddkpdfeeikhaa
