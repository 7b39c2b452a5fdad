/-
  More steps of a hall in place: a queue is made, a queue is dropped.
-/
import Derived.Test.YtkddkpdfeeikhaaSsTagProofM36
namespace Go.Proofs.Ytkddkpdfeeikhaa
open Go.RowKit Go.WideMaps Go.Maps
set_option linter.unusedVariables false
set_option linter.unusedSimpArgs false

section
variable {lo : Nat} {N X : Nat → Prop} {hb xb pb mb : Nat} {w : World} {v : Value} {L : QuL} {next : Int}

theorem HR.slice (H : HR lo N X w v L) : SliceQ (Under w.heap.size) w v (L.map Prod.fst) := by
  refine ⟨L, rfl, (own_slice H.row).sub fun b hb => ⟨(H.row.lt b hb).2, rfl⟩, fun x hx => ?_⟩
  obtain ⟨LI, e, ho, hn⟩ := H.items x hx
  exact ⟨LI, e, (own_slice ho).sub fun b hb => ⟨(ho.lt b hb).2, rfl⟩, fun y hy => (hn y hy).sub fun b hb => ⟨H.lt b (.inl hb), rfl⟩⟩

theorem JH.make (H : JH lo N hb xb pb mb w v L next) {w1 w2 : World} {o : Obj} {v' : Value} {q : QD} (hq : q.items = []) (h1 : w.grownBy w1 (some mb)) (hm : ∃ D : DataW Unit, w1.ownsMap Try.prog 9 (plainElem Try.prog 3) mb (L.length + 1) D ∧ PM D 0 (L.map Prod.fst ++ [q]))
    (ho : w2.ownsRow lo 76 3 v' (L.length + 1) (cellsQ L ++ q.cells (.slice none 0 0))) (h2 : (w1.alloc o).grownBy w2 v.ownBlock) (hat : ∀ b, v'.ownBlock = some b → v.ownBlock = some b ∨ w1.heap.size + 1 ≤ b) :
    JH lo N hb xb pb mb (w2.setCell ⟨hb, 0, none⟩ v') v' (L ++ [(q, .slice none 0 0)]) next ∧ Kept lo N w (w2.setCell ⟨hb, 0, none⟩ v') := by
  obtain ⟨D, hm, hp⟩ := hm
  have ne := H.ne
  have hz1 := h1.size
  have hz2 : w1.heap.size + 1 ≤ w2.heap.size := by have := h2.size; simpa using this
  have fmb : ∀ b, Foot v L b → b ≠ mb := fun b hf e => H.rows.off b (.inr (.inr (.inr (.inr e)))) hf
  have nmb : ∀ b, N b → b ≠ mb := fun b hf e => H.note b hf (.inr (.inr (.inr e)))
  have b1 : ∀ b, b < w.heap.size → b ≠ mb → w1.heap[b]? = w.heap[b]? := fun b hl hn => h1.block b hl (fun e => hn (by simpa using e))
  have b1' : ∀ b, b < w1.heap.size → (w1.alloc o).heap[b]? = w1.heap[b]? := fun b hl => Below.heap_alloc _ _ _ hl
  have HR1 : HR lo N (fun b => b = hb ∨ b = xb ∨ b = pb ∨ b = mb) (w1.alloc o) v L := H.rows.on (by simp; omega) fun b h => by
    rcases h with h | h
    · have hl := H.rows.lt b (.inl h)
      rw [b1' b (by omega), b1 b hl (nmb b h)]
    · have hl := (H.rows.foot_lt h).2
      rw [b1' b (by omega), b1 b hl (fmb b h)]
  have HR2 := HR1.make hq ho h2 (fun b e => (hat b e).imp id (fun h => by simpa using h))
  have far : ∀ b, b ≠ hb → (w2.setCell ⟨hb, 0, none⟩ v').heap[b]? = w2.heap[b]? := fun b h => Below.heap_setCell _ _ _ _ h
  have old : ∀ b, b < w1.heap.size → ¬ Foot v L b → w2.heap[b]? = w1.heap[b]? := fun b hl hn => by
    rw [h2.block b (by simp; omega) (fun e => hn (.inl e.symm)), b1' b hl]
  have offX : ∀ b, (b = hb ∨ b = xb ∨ b = pb) → w2.heap[b]? = w.heap[b]? := fun b h => by
    have hX : b = hb ∨ b = xb ∨ b = pb ∨ b = mb := by rcases h with h | h | h <;> simp [h]
    have hl := H.rows.lt b (.inr hX)
    have hne : b ≠ mb := by omega
    rw [old b (by omega) (H.rows.off b (.inr hX)), b1 b hl hne]
  refine ⟨⟨HR2.on (by simp) fun b h => far b ?_, ?_, (H.xbox.same (offX _ (.inr (.inl rfl)))).same (far _ (fun h => ne.1 h.symm)), (H.pbox.same (offX _ (.inr (.inr rfl)))).same (far _ (fun h => ne.2.1 h.symm)), ⟨D, ?_, ?_⟩, H.ne, H.los, H.note⟩, ⟨fun b h => ?_, ?_⟩⟩
  · rcases h with h | h
    · exact fun e => H.note b h (.inl e)
    · exact fun e => HR2.off b (.inr (.inl e)) h
  · exact (H.box.same (offX _ (.inl rfl))).set 0 _
  · have hml := hm.lt
    rw [List.length_append]
    obtain ⟨es, clock, k1, k2⟩ := hm
    refine ⟨es, clock, ?_, k2⟩
    rw [far _ (fun h => ne.2.2.1 h.symm), old mb hml (H.rows.off mb (.inr (.inr (.inr (.inr rfl))))), k1]
  · simpa using hp
  · have hl := H.rows.lt b (.inl h)
    rw [far b (fun e => H.note b h (.inl e)), old b (by omega) (H.rows.off b (.inl h)), b1 b hl (nmb b h)]
  · have e1 : Below lo w w1 := below_of_grownBy h1 H.lo_le (fun k h => by have := H.los.2.2.2; simp at h; omega)
    have e2 : Below lo (w1.alloc o) w2 := below_of_grownBy h2 (by have := H.lo_le; simp; omega) (fun k h => (H.rows.foot_lt (.inl h)).1)
    exact ((e1.alloc (by have := H.lo_le; omega) o).trans e2).setCell H.los.1 _

/-- A queue goes: the row is shorter, the map is made anew. -/
theorem JH.drop (H : JH lo N hb xb pb mb w v L next) {k n : Nat} (hk : k < L.length) {w1 : World} {v' : Value} (hn : n = (L.eraseIdx k).length) (ho : w1.ownsRow lo 76 3 v' n (cellsQ (L.eraseIdx k))) (h1 : w.grownBy w1 v.ownBlock) (hat : v'.ownBlock = v.ownBlock) :
    (HR lo N (fun b => b = hb ∨ b = xb ∨ b = pb ∨ b = mb) (w1.setCell ⟨hb, 0, none⟩ v') v' (L.eraseIdx k) ∧ Blk (w1.setCell ⟨hb, 0, none⟩ v') hb [v', .int .i64 next] ∧ Blk (w1.setCell ⟨hb, 0, none⟩ v') xb [.pointer (some ⟨hb, 0, none⟩)] ∧ Blk (w1.setCell ⟨hb, 0, none⟩ v') pb [.map (some mb)] ∧ Kept lo N w (w1.setCell ⟨hb, 0, none⟩ v')) ∧
    ∀ W : World, Below (w1.setCell ⟨hb, 0, none⟩ v').heap.size (w1.setCell ⟨hb, 0, none⟩ v') W → ∀ (mb' : Nat) (D : DataW Unit), w1.heap.size ≤ mb' → W.ownsMap Try.prog 9 (plainElem Try.prog 3) mb' (L.eraseIdx k).length D → PM D 0 ((L.eraseIdx k).map Prod.fst) →
      JH lo N hb xb pb mb' (W.setCell ⟨pb, 0, none⟩ (.map (some mb'))) v' (L.eraseIdx k) next ∧ Kept lo N w (W.setCell ⟨pb, 0, none⟩ (.map (some mb'))) := by
  have ne := H.ne
  have hz1 := h1.size
  have HR1 := H.rows.drop hk hn ho h1 hat
  have far : ∀ b, b ≠ hb → (w1.setCell ⟨hb, 0, none⟩ v').heap[b]? = w1.heap[b]? := fun b h => Below.heap_setCell _ _ _ _ h
  have old : ∀ b, b < w.heap.size → ¬ Foot v L b → w1.heap[b]? = w.heap[b]? := fun b hl hn => h1.block b hl (fun e => hn (.inl e.symm))
  have offX : ∀ b, (b = hb ∨ b = xb ∨ b = pb ∨ b = mb) → w1.heap[b]? = w.heap[b]? := fun b h => old b (H.rows.lt b (.inr h)) (H.rows.off b (.inr h))
  have HR2 : HR lo N (fun b => b = hb ∨ b = xb ∨ b = pb ∨ b = mb) (w1.setCell ⟨hb, 0, none⟩ v') v' (L.eraseIdx k) := HR1.on (by simp) fun b h => far b (by
    rcases h with h | h
    · exact fun e => H.note b h (.inl e)
    · exact fun e => HR1.off b (.inr (.inl e)) h)
  have B1 : Blk (w1.setCell ⟨hb, 0, none⟩ v') hb [v', .int .i64 next] := (H.box.same (offX _ (.inl rfl))).set 0 _
  have B2 : Blk (w1.setCell ⟨hb, 0, none⟩ v') xb [.pointer (some ⟨hb, 0, none⟩)] := (H.xbox.same (offX _ (.inr (.inl rfl)))).same (far _ (fun h => ne.1 h.symm))
  have B3 : Blk (w1.setCell ⟨hb, 0, none⟩ v') pb [.map (some mb)] := (H.pbox.same (offX _ (.inr (.inr (.inl rfl))))).same (far _ (fun h => ne.2.1 h.symm))
  have KK : Kept lo N w (w1.setCell ⟨hb, 0, none⟩ v') := ⟨fun b h => by rw [far b (fun e => H.note b h (.inl e)), old b (H.rows.lt b (.inl h)) (H.rows.off b (.inl h))], (below_of_grownBy h1 H.lo_le (fun k h => (H.rows.foot_lt (.inl h)).1)).setCell H.los.1 _⟩
  refine ⟨⟨HR2, B1, B2, B3, KK⟩, fun W hW mb' D hmb hm hp => ?_⟩
  have hzs : (w1.setCell ⟨hb, 0, none⟩ v').heap.size = w1.heap.size := by simp
  have hzW := hW.size
  rw [hzs] at hzW
  have lts : ∀ b, (b = hb ∨ b = xb ∨ b = pb ∨ b = mb) → b < w.heap.size := fun b h => H.rows.lt b (.inr h)
  have hhb := lts hb (.inl rfl)
  have hxb := lts xb (.inr (.inl rfl))
  have hpb := lts pb (.inr (.inr (.inl rfl)))
  have far2 : ∀ b, b ≠ pb → (W.setCell ⟨pb, 0, none⟩ (.map (some mb'))).heap[b]? = W.heap[b]? := fun b h => Below.heap_setCell _ _ _ _ h
  have HR3 : HR lo N (fun b => b = hb ∨ b = xb ∨ b = pb ∨ b = mb') W v' (L.eraseIdx k) := by
    refine (HR2.below hW).more (fun b h => h) fun b h => ?_
    rcases h with h | h | h | h | h
    · exact .inl (.inl h)
    · exact .inl (.inr (.inl h))
    · exact .inl (.inr (.inr (.inl h)))
    · exact .inl (.inr (.inr (.inr (.inl h))))
    · subst h
      refine .inr ⟨hm.lt, fun hf => ?_⟩
      have := (HR2.foot_lt hf).2
      omega
  refine ⟨⟨HR3.on (by simp) fun b h => far2 b ?_, (B1.below hW (by omega)).same (far2 _ ne.2.1), (B2.below hW (by omega)).same (far2 _ ne.2.2.2.1), ?_, ⟨D, ?_, hp⟩, ⟨ne.1, ne.2.1, by omega, ne.2.2.2.1, by omega, by omega⟩, ⟨H.los.1, H.los.2.1, H.los.2.2.1, by have := H.lo_le; omega⟩, fun b h hx => ?_⟩, ⟨fun b h => ?_, ?_⟩⟩
  · rcases h with h | h
    · exact fun e => H.note b h (.inr (.inr (.inl e)))
    · exact fun e => HR3.off b (.inr (.inr (.inr (.inl e)))) h
  · exact (B3.below hW (by omega)).set 0 _
  · obtain ⟨es, clock, k1, k2⟩ := hm
    exact ⟨es, clock, by rw [far2 _ (by omega)]; exact k1, k2⟩
  · rcases hx with hx | hx | hx | hx
    · exact H.note b h (.inl hx)
    · exact H.note b h (.inr (.inl hx))
    · exact H.note b h (.inr (.inr (.inl hx)))
    · have := H.rows.lt b (.inl h); omega
  · have hl := H.rows.lt b (.inl h)
    rw [far2 b (fun e => H.note b h (.inr (.inr (.inl e)))), hW.block b (by omega), KK.note b h]
  · exact (KK.bel.trans (hW.mono (by have := H.lo_le; omega))).setCell H.los.2.2.1 _
end
end Go.Proofs.Ytkddkpdfeeikhaa
