/-
  JOwn; JTo: texts laid together.
-/
import Derived.Test.YtkddkpdfeeikhaaSsTagProofM36
import Derived.Test.YtkddkpdfeeikhaaJApply2
/-
  hall.Own answers a hall whose rows are all one's own.
-/
namespace Go.Proofs.Ytkddkpdfeeikhaa
open Go.RowKit Go.WideMaps Go.Maps
set_option linter.unusedVariables false
set_option linter.unusedSimpArgs false

attribute [local go_sem ↓] Go.wp_at_zero Go.wp_at_succ

section
variable {lo : Nat} {N X : Nat → Prop} {w : World} {v : Value} {L : QuL}

/-- A queue more, with items of its own. -/
theorem HR.push (H : HR lo N X w v L) {w1 w2 : World} {u v' : Value} {LI : ItL} {q : QD} {N' : Nat → Prop} (h1 : Below w.heap.size w w1) (hq : LI.map Prod.fst = q.items) (hu : w1.ownsRow lo 78 7 u LI.length (cellsI LI)) (hub : ∀ b, u.ownBlock = some b → w.heap.size ≤ b)
    (hno : ∀ y ∈ LI, NoteIs N' w1 y.2 y.1.note) (hN : ∀ b, N b → N' b) (hN' : ∀ b, N' b → N b ∨ (w.heap.size ≤ b ∧ b < w1.heap.size ∧ u.ownBlock ≠ some b))
    (ho : w2.ownsRow lo 76 3 v' (L.length + 1) (cellsQ L ++ q.cells u)) (hg : w1.grownBy w2 v.ownBlock) (hat : ∀ b, v'.ownBlock = some b → v.ownBlock = some b ∨ w1.heap.size ≤ b) : HR lo N' X w2 v' (L ++ [(q, u)]) := by
  have hz1 := h1.size
  have hz2 := hg.size
  have hx2 : ∀ x ∈ L ++ [(q, u)], x ∈ L ∨ x = (q, u) := fun x hx => by simpa using hx
  have hvl : ∀ b, v.ownBlock = some b → b < w.heap.size := fun b h => (H.foot_lt (.inl h)).2
  have hul : ∀ b, u.ownBlock = some b → b < w1.heap.size := fun b h => (hu.lt b h).2
  have hfoot : ∀ b, Foot v' (L ++ [(q, u)]) b → Foot v L b ∨ w1.heap.size ≤ b ∨ u.ownBlock = some b := fun b hb => by
    rcases hb with h | ⟨x, hx, h⟩
    · rcases hat b h with h | h
      · exact .inl (.inl h)
      · exact .inr (.inl h)
    · rcases hx2 x hx with hx | rfl
      · exact .inl (.inr ⟨x, hx, h⟩)
      · exact .inr (.inr h)
  refine ⟨?_, fun x hx => ?_, fun x hx b hb => ?_, ?_, fun b hb hf => ?_, fun b hb => ?_⟩
  · rw [List.length_append, cellsQ_append]
    simpa [cellsQ] using ho
  · rcases hx2 x hx with hx | rfl
    · obtain ⟨LJ, e, ho', hn⟩ := H.items x hx
      refine ⟨LJ, e, own_same ho' fun b e => ?_, fun y hy => (hn y hy).sub fun b hb => ⟨hN b hb, ?_⟩⟩
      · have hl := (ho'.lt b e).2
        rw [hg.block b (by omega) (fun h => H.sep x hx b e h.symm), h1.block b hl]
      · have hl := H.lt b (.inl hb)
        rw [hg.block b (by omega) (fun h => H.off b (.inl hb) (.inl h.symm)), h1.block b hl]
    · refine ⟨LI, hq, own_same hu fun b e => hg.block b (hul b e) (fun h => ?_), fun y hy => (hno y hy).sub fun b hb => ⟨hb, ?_⟩⟩
      · have := hvl b h.symm
        have := hub b e
        omega
      · rcases hN' b hb with h | h
        · have hl := H.lt b (.inl h)
          exact hg.block b (by omega) (fun e => H.off b (.inl h) (.inl e.symm))
        · exact hg.block b h.2.1 (fun e => by have := hvl b e.symm; omega)
  · rcases hx2 x hx with hx | rfl
    · intro h
      rcases hat b h with h | h
      · exact H.sep x hx b hb h
      · have := (H.foot_lt (.inr ⟨x, hx, hb⟩)).2
        omega
    · intro h
      rcases hat b h with h | h
      · have := hvl b h
        have := hub b hb
        omega
      · have := hul b hb
        omega
  · rw [List.pairwise_append]
    refine ⟨H.pair, by simp, fun x hx y hy b hb => ?_⟩
    simp only [List.mem_singleton] at hy
    subst hy
    intro h
    have := (H.foot_lt (.inr ⟨x, hx, hb⟩)).2
    have := hub b h
    omega
  · rcases hfoot b hf with h | h | h
    · rcases hb with hb | hb
      · rcases hN' b hb with h3 | h3
        · exact H.off b (.inl h3) h
        · have := (H.foot_lt h).2; omega
      · exact H.off b (.inr hb) h
    · have : b < w1.heap.size := by
        rcases hb with hb | hb
        · rcases hN' b hb with h3 | h3
          · have := H.lt b (.inl h3); omega
          · exact h3.2.1
        · have := H.lt b (.inr hb); omega
      omega
    · rcases hb with hb | hb
      · rcases hN' b hb with h3 | h3
        · have := H.lt b (.inl h3)
          have := hub b h
          omega
        · exact h3.2.2 h
      · have := H.lt b (.inr hb)
        have := hub b h
        omega
  · rcases hb with hb | hb
    · rcases hN' b hb with h3 | h3
      · have := H.lt b (.inl h3); omega
      · have := h3.2.1; omega
    · have := H.lt b (.inr hb); omega
end

/-- What holds in 'eachOf' of hall.Own, behind k queues. -/
structure EIM (w : World) (next : Int) (qs : List QD) (k : Nat) (wr : World) (vi : Value) (L' : QuL) (N : Nat → Prop) : Prop where
  bel : Below w.heap.size w wr
  res : Blk wr (w.heap.size + 1) [.slice none 0 0, .int .i64 0]
  out : Blk wr (w.heap.size + 1 + 1) [vi, .int .i64 next]
  rows : HR (w.heap.size + 3) N (fun _ => False) wr vi L'
  hN : ∀ b, N b → w.heap.size + 3 ≤ b
  list : L'.map Prod.fst = qs.take k

section
variable {w : World} {next : Int} {qs : List QD} {k : Nat} {wr : World} {vi : Value} {L' : QuL} {N : Nat → Prop}

theorem EIM.lt (h : EIM w next qs k wr vi L' N) : w.heap.size + 3 ≤ wr.heap.size := by have := h.out.lt; omega

theorem EIM.on (h : EIM w next qs k wr vi L' N) {W : World} (hb : Below wr.heap.size wr W) : EIM w next qs k W vi L' N := by
  have hl := h.lt
  exact ⟨h.bel.trans (hb.mono h.bel.size), h.res.below hb h.res.lt, h.out.below hb h.out.lt, h.rows.below hb, h.hN, h.list⟩

theorem EIM.more (h : EIM w next qs k wr vi L' N) (hk : k < qs.length) {w1 w2 : World} {v : Value} {o : Obj} {gg cap : Nat}
    (hn : OwnI wr.heap.size w1 v qs[k].items) (h1 : Below wr.heap.size wr w1)
    (ho : w2.ownsRow (w.heap.size + 3) 76 3 (.slice (some ⟨gg, 0, none⟩) (L'.length + 1) cap) (L'.length + 1) (cellsQ L' ++ qs[k].cells v)) (hg : (w1.alloc o).grownBy w2 vi.ownBlock) (hat : vi.ownBlock = some gg ∨ gg = w1.heap.size + 1) (hgl : gg < w2.heap.size) :
    ∃ N', EIM w next qs (k + 1) (w2.setCell ⟨w.heap.size + 1 + 1, 0, none⟩ (.slice (some ⟨gg, 0, none⟩) (L'.length + 1) cap)) (.slice (some ⟨gg, 0, none⟩) (L'.length + 1) cap) (L' ++ [(qs[k], v)]) N' := by
  have hl := h.lt
  have hz1 := h1.size
  have hz2 : w1.heap.size + 1 ≤ w2.heap.size := by have := hg.size; simp at this; omega
  obtain ⟨LI, hLI, hown, hno⟩ := hn
  have hvb : ∀ b, vi.ownBlock = some b → w.heap.size + 3 ≤ b ∧ b < wr.heap.size := fun b hb => h.rows.foot_lt (.inl hb)
  have hg' : w1.grownBy w2 vi.ownBlock := grownBy_trans (World.grownBy_alloc _ _ _) hg
  have blo : ∀ b, b < w.heap.size + 3 → w2.heap[b]? = wr.heap[b]? := fun b hb => by
    rw [hg'.block b (by omega) (fun e => by have := (hvb b e.symm).1; omega), h1.block b (by omega)]
  have key := h.rows.push (w1 := w1) (w2 := w2) (u := v) (v' := .slice (some ⟨gg, 0, none⟩) (L'.length + 1) cap) (LI := LI) (q := qs[k]) (N' := fun b => N b ∨ (wr.heap.size ≤ b ∧ b < w1.heap.size ∧ v.ownBlock ≠ some b)) h1 hLI (own_mono hown (by omega)) (fun b e => (hown.lt b e).1) (fun y hy => (hno y hy).sub fun b hb => ⟨.inr hb, rfl⟩) (fun b h => .inl h) (fun b h => h) ho hg' (fun b e => by
    simp only [Value.ownBlock, Option.some.injEq] at e
    subst e
    rcases hat with h | h
    · exact .inl h
    · right; omega)
  have hfar : ∀ b, b ≠ w.heap.size + 1 + 1 → (w2.setCell ⟨w.heap.size + 1 + 1, 0, none⟩ (.slice (some ⟨gg, 0, none⟩) (L'.length + 1) cap)).heap[b]? = w2.heap[b]? := fun b hb => Below.heap_setCell _ _ _ _ hb
  refine ⟨_, ⟨⟨?_, ?_, ?_, ?_, fun b hb => ?_⟩, ?_, ?_, key.on (by simp) fun b hb => hfar b ?_, fun b hb => ?_, ?_⟩⟩
  · exact hg.os.trans (h1.os.trans h.bel.os)
  · exact hg.tape.trans (h1.tape.trans h.bel.tape)
  · exact hg.output.trans (h1.output.trans h.bel.output)
  · simp; have := h.bel.size; omega
  · rw [hfar b (by omega), blo b (by omega)]
    exact h.bel.block b hb
  · exact (h.res.same (blo _ (by omega))).far (by simp) _
  · exact (h.out.same (blo _ (by omega))).set 0 _
  · rcases hb with hb | hb
    · rcases hb with hb | hb
      · have := h.hN b hb; omega
      · omega
    · have := (key.foot_lt hb).1; omega
  · rcases hb with hb | hb
    · exact h.hN b hb
    · omega
  · rw [List.map_append, h.list, List.take_succ_eq_append_getElem hk]
    simp
end

theorem EIM.start (w : World) (next : Int) (qs : List QD) (v : Value) :
    EIM w next qs 0 (((w.alloc (.cells #[v, .int .i64 next] 24)).alloc (.cells #[.slice none 0 0, .int .i64 0] 24)).alloc (.cells #[.slice none 0 0, .int .i64 next] 24)) (.slice none 0 0) [] (fun _ => False) := by
  have b3 : Below w.heap.size w (((w.alloc (.cells #[v, .int .i64 next] 24)).alloc (.cells #[.slice none 0 0, .int .i64 0] 24)).alloc (.cells #[.slice none 0 0, .int .i64 next] 24)) := ((below_alloc _ _).alloc (by simp) _).alloc (by simp; omega) _
  refine ⟨b3, ?_, ?_, ⟨World.ownsRow_nil _ _ _ _, by simp, by simp, by simp, fun b h => by simp at h, fun b h => by simp at h⟩, by simp, by simp⟩
  · have := (Blk.new (w.alloc (.cells #[v, .int .i64 next] 24)) [.slice none 0 0, .int .i64 0] 24).alloc (.cells #[.slice none 0 0, .int .i64 next] 24)
    simpa using this
  · have := Blk.new ((w.alloc (.cells #[v, .int .i64 next] 24)).alloc (.cells #[.slice none 0 0, .int .i64 0] 24)) [.slice none 0 0, .int .i64 next] 24
    simpa using this

end Go.Proofs.Ytkddkpdfeeikhaa

/-
  journal.applyTo and journal.Apply.
-/
namespace Go.Proofs.Ytkddkpdfeeikhaa
open Go.RowKit Go.WideMaps Go.Maps
set_option linter.unusedVariables false
set_option linter.unusedSimpArgs false

attribute [local go_sem ↓] Go.wp_at_zero Go.wp_at_succ

/-- A hall that one may apply an entry to: no list of it too long, no name. -/
structure HD.fits (c : Nat) (h : HD) : Prop where
  len : h.queues.length < c
  items : ∀ q ∈ h.queues, q.items.length < c
  names : ∀ q ∈ h.queues, q.name.size ≤ maxLen
/-- An entry that one may apply. -/
structure ED.fits (e : ED) : Prop where
  queue : e.queue.size ≤ maxLen
  id : 0 ≤ e.id ∧ e.id ≤ 4294967296
  note : e.note.small

theorem applyF_none {h : HD} {e : ED} (hn : h.queues.findIdx? (nameB e.queue) = none) : applyF h e = if e.kind = 1 then ⟨h.queues ++ [⟨e.queue, e.n, []⟩], h.next⟩ else h := by
  unfold applyF; rw [hn]
theorem applyF_some {h : HD} {e : ED} {k : Nat} (hk : k < h.queues.length) (hn : h.queues.findIdx? (nameB e.queue) = some k) : applyF h e =
    if e.kind = 2 then ⟨h.queues.eraseIdx k, h.next⟩
      else if e.kind = 3 then ⟨h.queues.set k ⟨h.queues[k].name, h.queues[k].limit, h.queues[k].items ++ [e.item]⟩, max h.next (e.id + 1)⟩
      else if e.kind = 4 then ⟨h.queues.set k ⟨h.queues[k].name, h.queues[k].limit, h.queues[k].items.filter (fun i => !idB e.id i)⟩, h.next⟩
      else h := by
  unfold applyF; rw [hn]; simp only [List.getElem?_eq_getElem hk]

/-- A hall's rows, and its box, make what applyTo needs. -/
structure HB (lo : Nat) (N : Nat → Prop) (hb : Nat) (w : World) (v : Value) (L : QuL) (next : Int) : Prop where
  rows : HR lo N (fun b => b = hb) w v L
  box : Blk w hb [v, .int .i64 next]
  los : lo ≤ hb
  note : ∀ b, N b → b ≠ hb

theorem smallQ.fits {h : HD} (hs : smallQ h.queues) (hn : ∀ q ∈ h.queues, q.name.size ≤ maxLen) (h1 : h.queues.length < 4194304) (h2 : ∀ q ∈ h.queues, q.items.length < 4194304) : h.fits 4194304 := ⟨h1, h2, hn⟩

end Go.Proofs.Ytkddkpdfeeikhaa
