/-
  RefPlain; JFollow: texts laid together.
-/
import Derived.Test.YtkddkpdfeeikhaaJTellsProofM21
import Derived.Test.YtkddkpdfeeikhaaJTellsProofM07
import Derived.Test.YtkddkpdfeeikhaaJTellsProofM45
import Derived.Test.YtkddkpdfeeikhaaJTellsProofM29
import Derived.Deep.RegionHeld3
/-
  tgref1.Plain.
-/
namespace Go.Proofs.Ytkddkpdfeeikhaa
open Go.RowKit
set_option linter.unusedVariables false
set_option linter.unusedSimpArgs false

attribute [local go_sem ↓] Go.wp_at_zero Go.wp_at_succ

/-- What holds in Plain, behind k queues. -/
structure RI (S : Nat → Prop) (w : World) (next : Int) (qs : List QD) (k : Nat) (wr : World) (vi : Value) (L' : QuL) : Prop where
  bel : Below w.heap.size w wr
  res : Blk wr (w.heap.size + 1) [.slice none 0 0, .int .i64 0]
  out : Blk wr (w.heap.size + 1 + 1) [vi, .int .i64 next]
  own : wr.ownsRow (w.heap.size + 3) 76 3 vi L'.length (cellsQ L')
  items : ∀ x ∈ L', SliceI (fun b => S b ∨ (w.heap.size + 3 ≤ b ∧ b < wr.heap.size ∧ vi.ownBlock ≠ some b)) wr x.2 x.1.items
  list : L'.map Prod.fst = (qs.take k).map plainQ

section
variable {S : Nat → Prop} {w : World} {next : Int} {qs : List QD} {k : Nat} {wr : World} {vi : Value} {L' : QuL}

theorem RI.lt (h : RI S w next qs k wr vi L') : w.heap.size + 3 ≤ wr.heap.size := by have := h.out.lt; omega

theorem RI.more (hS : ∀ b, S b → b < w.heap.size) (h : RI S w next qs k wr vi L') (hk : k < qs.length) {w1 w2 : World} {v : Value} {o : Obj} {gg cap : Nat}
    (hn : SliceI (fun b => S b ∨ Made wr.heap.size w1.heap.size b) w1 v (plainQ qs[k]).items) (h1 : Below wr.heap.size wr w1)
    (ho : w2.ownsRow (w.heap.size + 3) 76 3 (.slice (some ⟨gg, 0, none⟩) (L'.length + 1) cap) (L'.length + 1) (cellsQ L' ++ (plainQ qs[k]).cells v)) (hg : (w1.alloc o).grownBy w2 vi.ownBlock) (hat : vi.ownBlock = some gg ∨ w1.heap.size + 1 ≤ gg) :
    RI S w next qs (k + 1) (w2.setCell ⟨w.heap.size + 1 + 1, 0, none⟩ (.slice (some ⟨gg, 0, none⟩) (L'.length + 1) cap)) (.slice (some ⟨gg, 0, none⟩) (L'.length + 1) cap) (L' ++ [(plainQ qs[k], v)]) := by
  have hl := h.lt
  have hz1 := h1.size
  have hz2 : w1.heap.size + 1 ≤ w2.heap.size := by have := hg.size; simp at this; omega
  have hown : ∀ b, vi.ownBlock = some b → w.heap.size + 3 ≤ b ∧ b < wr.heap.size := fun b hb => h.own.lt b hb
  have blk : ∀ b, b < w1.heap.size → vi.ownBlock ≠ some b → w2.heap[b]? = w1.heap[b]? := fun b hb hn => (hg.block b (by simp; omega) (fun e => hn e.symm)).trans (Below.heap_alloc _ _ _ hb)
  have blk' : ∀ b, b < wr.heap.size → vi.ownBlock ≠ some b → w2.heap[b]? = wr.heap[b]? := fun b hb hn => (blk b (by omega) hn).trans (h1.block b hb)
  have blo : ∀ b, b < w.heap.size + 3 → w2.heap[b]? = wr.heap[b]? := fun b hb => blk' b (by omega) (fun e => by have := (hown b e).1; omega)
  have hge : ∀ b, vi.ownBlock ≠ some b → b < w1.heap.size → (Value.slice (some ⟨gg, 0, none⟩) (L'.length + 1) cap).ownBlock ≠ some b := fun b hb hlt e => by
    simp only [Value.ownBlock, Option.some.injEq] at e
    subst e
    rcases hat with h | h
    · exact hb h
    · omega
  have hSw : ∀ b, S b → w2.heap[b]? = wr.heap[b]? := fun b hb => blo b (by have := hS b hb; omega)
  refine ⟨⟨?_, ?_, ?_, ?_, fun b hb => ?_⟩, ?_, ?_, ?_, fun x hx => ?_, ?_⟩
  · exact hg.os.trans (h1.os.trans h.bel.os)
  · exact hg.tape.trans (h1.tape.trans h.bel.tape)
  · exact hg.output.trans (h1.output.trans h.bel.output)
  · simp; have := h.bel.size; omega
  · rw [Below.heap_setCell _ _ _ _ (by simp; omega), blo b (by omega)]
    exact h.bel.block b hb
  · exact (h.res.same (blo _ (by omega))).far (by simp) _
  · exact (h.out.same (blo _ (by omega))).set 0 _
  · rw [List.length_append, cellsQ_append]
    have : cellsQ [(plainQ qs[k], v)] = (plainQ qs[k]).cells v := by simp [cellsQ]
    rw [this]
    exact ownsRow_setCell_below ho (by simp) _
  · rw [List.mem_append, List.mem_singleton] at hx
    rcases hx with hx | rfl
    · refine (h.items x hx).sub fun b hb => ?_
      rcases hb with hb | hb
      · refine ⟨.inl hb, ?_⟩
        rw [Below.heap_setCell _ _ _ _ (by have := hS b hb; simp; omega), hSw b hb]
      · refine ⟨.inr ⟨hb.1, by simp; omega, hge b hb.2.2 (by omega)⟩, ?_⟩
        rw [Below.heap_setCell _ _ _ _ (by simp; omega), blk' b hb.2.1 hb.2.2]
    · refine hn.sub fun b hb => ?_
      rcases hb with hb | hb
      · refine ⟨.inl hb, ?_⟩
        rw [Below.heap_setCell _ _ _ _ (by have := hS b hb; simp; omega), hSw b hb, h1.block b (by have := hS b hb; omega)]
      · obtain ⟨hb1, hb2⟩ := hb
        have hno : vi.ownBlock ≠ some b := fun e => by have := (hown b e).2; omega
        refine ⟨.inr ⟨by omega, by simp; omega, hge b hno hb2⟩, ?_⟩
        rw [Below.heap_setCell _ _ _ _ (by simp; omega), blk b hb2 hno]
  · rw [List.map_append, h.list, List.take_succ_eq_append_getElem hk, List.map_append]
    simp
end

theorem RI.start (S : Nat → Prop) (w : World) (next : Int) (qs : List QD) (v : Value) :
    RI S w next qs 0 (((w.alloc (.cells #[v, .int .i64 next] 24)).alloc (.cells #[.slice none 0 0, .int .i64 0] 24)).alloc (.cells #[.slice none 0 0, .int .i64 next] 24)) (.slice none 0 0) [] := by
  have b3 : Below w.heap.size w (((w.alloc (.cells #[v, .int .i64 next] 24)).alloc (.cells #[.slice none 0 0, .int .i64 0] 24)).alloc (.cells #[.slice none 0 0, .int .i64 next] 24)) := ((below_alloc _ _).alloc (by simp) _).alloc (by simp; omega) _
  refine ⟨b3, ?_, ?_, World.ownsRow_nil _ _ _ _, by simp, by simp⟩
  · have := (Blk.new (w.alloc (.cells #[v, .int .i64 next] 24)) [.slice none 0 0, .int .i64 0] 24).alloc (.cells #[.slice none 0 0, .int .i64 next] 24)
    simpa using this
  · have := Blk.new ((w.alloc (.cells #[v, .int .i64 next] 24)).alloc (.cells #[.slice none 0 0, .int .i64 0] 24)) [.slice none 0 0, .int .i64 next] 24
    simpa using this

/-- Items made plain. -/
def plainL (L : ItL) : ItL := L.map fun x => (plainI x.1, x.2)

/-- What holds in Plain's inner loop, behind j items: W the world with the two boxes. -/
structure RJ (W : World) (pb : Nat) (q : QD) (L : ItL) (j : Nat) (wj : World) (lv : Value) : Prop where
  bel : Below pb W wj
  box : Blk wj pb [.string q.name, .int .i64 q.limit, lv]
  own : wj.ownsRow (pb + 1) 78 7 lv j (cellsI (plainL (L.take j)))

theorem RJ.more {W : World} {pb : Nat} {q : QD} {L : ItL} {j : Nat} {wj w2 : World} {lv lv' : Value} (h : RJ W pb q L j wj lv) (hj : j < L.length) {o1 o2 : Obj} (ho : w2.ownsRow (pb + 1) 78 7 lv' (j + 1) (cellsI (plainL (L.take j)) ++ (plainI L[j].1).cells L[j].2)) (hg : ((wj.alloc o1).alloc o2).grownBy w2 lv.ownBlock) (hW : pb < W.heap.size) : RJ W pb q L (j + 1) (w2.setCell ⟨pb, 2, none⟩ lv') lv' := by
  have hz := h.bel.size
  have k2 : ∀ b, b < wj.heap.size → lv.ownBlock ≠ some b → w2.heap[b]? = wj.heap[b]? := fun b h1 h2 => (hg.block b (by simp; omega) (fun e => h2 e.symm)).trans ((Below.heap_alloc _ _ _ (by simp; omega)).trans (Below.heap_alloc _ _ _ h1))
  have hlo : ∀ b, lv.ownBlock = some b → pb + 1 ≤ b := fun b e => (h.own.lt b e).1
  refine ⟨⟨hg.os.trans h.bel.os, hg.tape.trans h.bel.tape, hg.output.trans h.bel.output, by have := hg.size; simp at this ⊢; omega, fun b hb => ?_⟩, ?_, ?_⟩
  · rw [Below.heap_setCell _ _ _ _ (by simp; omega), k2 b (by omega) (fun e => by have := hlo b e; omega)]
    exact h.bel.block b hb
  · exact (h.box.same (k2 _ h.box.lt (fun e => by have := hlo _ e; omega))).set 2 _
  · have e : cellsI (plainL (L.take (j + 1))) = cellsI (plainL (L.take j)) ++ (plainI L[j].1).cells L[j].2 := by
      rw [List.take_succ_eq_append_getElem hj]
      unfold plainL
      rw [List.map_append, cellsI_append]
      simp [cellsI]
    rw [e]
    exact ownsRow_setCell_below ho (by simp) _

end Go.Proofs.Ytkddkpdfeeikhaa

/-
  The closure of the law JournalFollows: of entries that tell of what was done it leaves the bool true.
-/
namespace Go.Proofs.Ytkddkpdfeeikhaa
open Go.RowKit Go.WideMaps Go.Maps
set_option linter.unusedVariables false
set_option linter.unusedSimpArgs false

attribute [local go_sem ↓] Go.wp_at_zero Go.wp_at_succ

/-- What stands in the round behind k entries. -/
structure FI (w : World) (xv : Value) (x p : HD) (pb : Nat) (wr : World) : Prop where
  bel : Below w.heap.size w wr
  xbox : Blk wr w.heap.size [xv, .int .i64 x.next]
  lt : w.heap.size < pb
  box : ∃ va vc, Blk wr pb [.slice va p.queues.length vc, .int .i64 p.next] ∧ SliceQ (fun b => b < wr.heap.size ∧ b ≠ pb ∧ b ≠ w.heap.size) wr (.slice va p.queues.length vc) p.queues

theorem FI.on {w : World} {xv : Value} {x p : HD} {pb : Nat} {wr W : World} (H : FI w xv x p pb wr) (hb : Below wr.heap.size wr W) : FI w xv x p pb W := by
  obtain ⟨h1, h2, h3, va, vc, h4, h5⟩ := H
  have hz := hb.size
  exact ⟨h1.trans (hb.mono h1.size), h2.below hb h2.lt, h3, va, vc, h4.below hb h4.lt, h5.sub fun b hb' => ⟨⟨by have := hb'.1; omega, hb'.2⟩, hb.block b hb'.1⟩⟩

/-- The next hall is stored. -/
theorem FI.next {w : World} {xv : Value} {x p p' : HD} {pb : Nat} {wr W : World} (H : FI w xv x p pb wr) (hb : Below wr.heap.size wr W) {va : Option Addr} {vc : Nat} (hq : SliceQ (Made wr.heap.size W.heap.size) W (.slice va p'.queues.length vc) p'.queues) :
    FI w xv x p' pb ((W.setCell ⟨pb, 0, none⟩ (.slice va p'.queues.length vc)).setCell ⟨pb, 1, none⟩ (.int .i64 p'.next)) := by
  have h := H.on hb
  have hwl := H.xbox.lt
  obtain ⟨h1, h2, h3, va', vc', h4, h5⟩ := h
  obtain ⟨-, -, -, _, _, h6, -⟩ := H
  have hpl := h6.lt
  have far : ∀ b, b ≠ pb → ((W.setCell ⟨pb, 0, none⟩ (.slice va p'.queues.length vc)).setCell ⟨pb, 1, none⟩ (.int .i64 p'.next)).heap[b]? = W.heap[b]? := fun b hb => by
    rw [Below.heap_setCell _ _ _ _ hb, Below.heap_setCell _ _ _ _ hb]
  refine ⟨(h1.setCell (show w.heap.size ≤ pb by omega) _).setCell (show w.heap.size ≤ pb by omega) _, h2.same (far _ (by omega)), h3, va, vc, (h4.set 0 _).set 1 _, hq.sub fun b hb' => ⟨⟨by simpa using hb'.2, by have := hb'.1; omega, by have := hb'.1; omega⟩, far b (by have := hb'.1; omega)⟩⟩

end Go.Proofs.Ytkddkpdfeeikhaa
