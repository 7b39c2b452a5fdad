/-
  Entries of one's own, and more behind them, beside a hall that is changed in its box.
-/
import Derived.Test.YthdaccmjipomdabAside
namespace Go.Proofs.Ythdaccmjipomdab
open Go.RowKit
set_option linter.unusedVariables false
set_option linter.unusedSimpArgs false

/-- Entries of one's own, in the blocks of T. -/
structure OwnTL (T : Nat → Prop) (w : World) (tv : Value) (L : EnL) : Prop where
  row : w.ownsRow 0 92 6 tv L.length (cellsE L)
  rowT : ∀ b, tv.ownBlock = some b → T b
  notes : ∀ x ∈ L, NoteIs (fun b => T b ∧ tv.ownBlock ≠ some b) w x.2 x.1.note
  lt : ∀ b, T b → b < w.heap.size
def OwnT (T : Nat → Prop) (w : World) (tv : Value) (es : List ED) : Prop := ∃ L, L.map Prod.fst = es ∧ OwnTL T w tv L

theorem OwnT.nil (w : World) : OwnT (fun _ => False) w (.slice none 0 0) [] := ⟨[], rfl, World.ownsRow_nil _ _ _ _, fun b h => by simp [Value.ownBlock] at h, by simp, fun _ h => h.elim⟩
theorem OwnE.told {base : Nat} {w : World} {v : Value} {es : List ED} (h : OwnE base w v es) : OwnT (Made base w.heap.size) w v es := by
  obtain ⟨L, e, h1, h2⟩ := h
  exact ⟨L, e, own_mono h1 (Nat.zero_le _), fun b hb => h1.lt b hb, fun x hx => (h2 x hx).sub fun b hb => ⟨⟨⟨hb.1, hb.2.1⟩, hb.2.2⟩, rfl⟩, fun b hb => hb.2⟩
theorem OwnTL.on {T : Nat → Prop} {w W : World} {tv : Value} {L : EnL} (h : OwnTL T w tv L) (hz : w.heap.size ≤ W.heap.size) (hB : ∀ b, T b → W.heap[b]? = w.heap[b]?) : OwnTL T W tv L :=
  ⟨own_same h.row (fun b e => hB b (h.rowT b e)), h.rowT, fun x hx => (h.notes x hx).sub fun b hb => ⟨hb, hB b hb.1⟩, fun b hb => Nat.lt_of_lt_of_le (h.lt b hb) hz⟩
theorem OwnT.on {T : Nat → Prop} {w W : World} {tv : Value} {es : List ED} (h : OwnT T w tv es) (hz : w.heap.size ≤ W.heap.size) (hB : ∀ b, T b → W.heap[b]? = w.heap[b]?) : OwnT T W tv es := by
  obtain ⟨L, e, h⟩ := h
  exact ⟨L, e, h.on hz hB⟩
theorem OwnT.slice {T : Nat → Prop} {w : World} {tv : Value} {es : List ED} (h : OwnT T w tv es) : SliceE T w tv es := by
  obtain ⟨L, e, h⟩ := h
  exact ⟨L, e, (own_slice h.row).sub fun k hk => ⟨h.rowT k hk, rfl⟩, fun x hx => (h.notes x hx).sub fun b hb => ⟨hb.1, rfl⟩⟩

/-- Behind 'append(told, more...)'. -/
theorem told_more {T P1 P2 : Nat → Prop} {hb : Nat} {wA wB w3 : World} {v tv : Value} {L2 : QuL} {nx : Int} {LG LE : EnL} {ev : Value} {ao : Option Addr} {cap : Nat}
    (hT : OwnTL T wA tv LG) (hTP : ∀ b, T b → ¬ P1 b) (hTb : ¬ T hb) (hvP : ∀ b, v.ownBlock = some b → P1 b)
    (hP12 : ∀ b, P1 b → P2 b) (hP2 : ∀ b, P2 b → P1 b ∨ Made wA.heap.size wB.heap.size b) (hH : HallIn P2 hb wB v L2 nx)
    (hE : SliceEL (fun b => Made wA.heap.size wB.heap.size b ∧ ¬ P2 b) wB ev LE) (hK : Keep (fun b => b < wA.heap.size ∧ v.ownBlock ≠ some b ∧ b ≠ hb) wA wB) (hbl : hb < wA.heap.size)
    (h3 : w3.ownsRow 0 92 6 (.slice ao (LG.length + LE.length) cap) (LG.length + LE.length) (cellsE LG ++ cellsE LE)) (hg : wB.grownBy w3 tv.ownBlock) (hm : Moved wB tv (.slice ao (LG.length + LE.length) cap)) :
    HallIn P2 hb w3 v L2 nx ∧ ∃ T2 : Nat → Prop, OwnTL T2 w3 (.slice ao (LG.length + LE.length) cap) (LG ++ LE) ∧ (∀ b, T2 b → T b ∨ Made wA.heap.size w3.heap.size b) ∧ (∀ b, T2 b → ¬ P2 b) ∧ ¬ T2 hb ∧ Keep (fun b => b < wA.heap.size ∧ v.ownBlock ≠ some b ∧ b ≠ hb ∧ ¬ T b) wA w3 := by
  have zAB := hK.size
  have zB3 := hg.size
  have hTl := hT.lt
  have keepB : ∀ b, T b → wB.heap[b]? = wA.heap[b]? := fun b hb' => hK.block b ⟨hTl b hb', fun e => hTP b hb' (hvP b e), fun e => hTb (e ▸ hb')⟩
  have hTP2 : ∀ b, T b → ¬ P2 b := fun b hb' hp => by
    rcases hP2 b hp with h | h
    · exact hTP b hb' h
    · have := hTl b hb'; have := h.1; omega
  have hrow : ∀ b, tv.ownBlock = some b → T b := hT.rowT
  have far : ∀ b, b < wB.heap.size → ¬ T b → w3.heap[b]? = wB.heap[b]? := fun b hb' hn => hg.block b hb' (fun e => hn (hrow b e.symm))
  refine ⟨hH.on zB3 (fun b hb' => ?_), fun b => T b ∨ (Made wA.heap.size w3.heap.size b ∧ ¬ P2 b ∧ b ≠ hb), ⟨?_, fun b e => ?_, fun x hx => ?_, fun b hb' => ?_⟩, fun b hb' => ?_, fun b hb' => ?_, fun hb' => ?_, ⟨?_, ?_, ?_, by omega, fun b hb' => ?_⟩⟩
  · rcases hb' with h | rfl
    · exact far b (hH.lt b h) (fun t => hTP2 b t h)
    · exact far b hH.box.lt hTb
  · rw [List.length_append, cellsE_append]; exact h3
  · rcases hm b e with h | h
    · exact .inl (hrow b h)
    · refine .inr ⟨⟨by omega, (h3.lt b e).2⟩, fun hp => ?_, by omega⟩
      have := hH.lt b hp
      omega
  · have hne : ∀ b, b < wB.heap.size → (tv.ownBlock ≠ some b) → (Value.slice ao (LG.length + LE.length) cap).ownBlock ≠ some b := fun b hb1 hb2 e => by
      rcases hm b e with h | h
      · exact hb2 h
      · omega
    rw [List.mem_append] at hx
    rcases hx with hx | hx
    · refine (hT.notes x hx).sub fun b hb' => ?_
      have hl := hTl b hb'.1
      exact ⟨⟨.inl hb'.1, hne b (by omega) hb'.2⟩, (hg.block b (by omega) (fun e => hb'.2 e.symm)).trans (keepB b hb'.1)⟩
    · refine (hE.2 x hx).sub fun b hb' => ?_
      obtain ⟨⟨h1, h2⟩, h4⟩ := hb'
      have hnT : ¬ T b := fun t => by have := hTl b t; omega
      exact ⟨⟨.inr ⟨⟨h1, by omega⟩, h4, by omega⟩, hne b h2 (fun e => hnT (hrow b e))⟩, far b h2 hnT⟩
  · rcases hb' with h | h
    · have := hTl b h; omega
    · exact h.1.2
  · rcases hb' with h | h
    · exact .inl h
    · exact .inr h.1
  · rcases hb' with h | h
    · exact hTP2 b h
    · exact h.2.1
  · rcases hb' with h | h
    · exact hTb h
    · exact h.2.2 rfl
  · exact hg.os.trans hK.os
  · exact hg.tape.trans hK.tape
  · exact hg.output.trans hK.output
  · exact (far b (by omega) hb'.2.2.2).trans (hK.block b ⟨hb'.1, hb'.2.1, hb'.2.2.1⟩)
end Go.Proofs.Ythdaccmjipomdab
