/-
  ItemsRef; RefWith; RefDone: texts laid together.
-/
import Derived.Test.YtkddkpdfeeikhaaJTellsProofM05
import Derived.Test.YtkddkpdfeeikhaaJTellsProofM12
import Derived.Test.YtkddkpdfeeikhaaJTellsProofM03
/-
  tgref1.items answers a queue with one item less, or another one in its place.
-/
namespace Go.Proofs.Ytkddkpdfeeikhaa
open Go.RowKit
set_option linter.unusedVariables false
set_option linter.unusedSimpArgs false

attribute [local go_sem ↓] Go.wp_at_zero Go.wp_at_succ

theorem slice_take {S : Nat → Prop} {w : World} {a : Option Addr} {n cap : Nat} {L : ItL} (h : SliceV S w (.slice a n cap) n (cellsI L)) (hn : n = L.length) (k : Nat) (hk : k ≤ n) : SliceV S w (.slice a k cap) k (cellsI (L.take k)) := by
  obtain ⟨a', cap', e, h1, h2, h3, h4⟩ := h
  simp only [Value.slice.injEq] at e
  obtain ⟨rfl, -, rfl⟩ := e
  refine ⟨a, cap, rfl, by omega, h2, h3, fun i hi => ?_⟩
  have hl := cellsI_len L
  rw [cellsI_len, List.length_take] at hi
  obtain ⟨b, off, e, hs, hc⟩ := h4 i (by omega)
  refine ⟨b, off, e, hs, ?_⟩
  rw [hc]
  congr 1
  have e2 := cellsI_take L k (by omega)
  simp only [← e2, List.getElem_take]

theorem slice_drop {S : Nat → Prop} {w : World} {b off n cap : Nat} {L : ItL} (h : SliceV S w (.slice (some ⟨b, off, none⟩) n cap) n (cellsI L)) (hn : n = L.length) (k : Nat) (hk : k ≤ n) (A : Addr) (hA : (if cap = k then some (⟨b, off, none⟩ : Addr) else some ⟨b, off + k * 7, none⟩) = some A) : SliceV S w (.slice (some A) (n - k) (cap - k)) (n - k) (cellsI (L.drop k)) := by
  obtain ⟨a', cap', e, h1, h2, h3, h4⟩ := h
  simp only [Value.slice.injEq] at e
  obtain ⟨rfl, -, rfl⟩ := e
  refine ⟨some A, cap - k, rfl, by omega, by unfold maxLen at *; omega, fun h => by simp at h, fun i hi => ?_⟩
  rw [cellsI_len, List.length_drop] at hi
  have hne : ¬ cap = k := by omega
  rw [if_neg hne, Option.some.injEq] at hA
  subst hA
  have hl := cellsI_len L
  obtain ⟨b', off', e, hs, hc⟩ := h4 (k * 7 + i) (by omega)
  simp only [Option.some.injEq, Addr.mk.injEq, and_true] at e
  obtain ⟨rfl, rfl⟩ := e
  refine ⟨b, off + k * 7, rfl, hs, ?_⟩
  rw [Nat.add_assoc, hc]
  congr 1
  have e2 := cellsI_drop L k (by omega)
  simp only [← e2, List.getElem_drop]

/-- A new row of no items. -/
theorem empty_own (w : World) (base g : Nat) (hg : w.heap.size = g) (hb : base ≤ g) : (w.alloc (.cells #[] 78)).ownsRow base 78 7 (.slice (some ⟨g, 0, none⟩) 0 0) 0 [] := by
  subst hg
  exact ⟨rfl, .inr ⟨w.heap.size, 0, #[], rfl, hb, heap_alloc_new w _, Nat.le_refl _, by simp [maxLen], rfl, rfl⟩⟩

theorem del_L {α β : Type} (f : α → β) (L : List α) (k : Nat) : (L.take k ++ L.drop (k + 1)).map f = (L.map f).eraseIdx k := by
  rw [List.eraseIdx_eq_take_drop_succ]; simp
end Go.Proofs.Ytkddkpdfeeikhaa

/-
  tgref1.with answers a hall with another queue in a place.
-/
namespace Go.Proofs.Ytkddkpdfeeikhaa
open Go.RowKit
set_option linter.unusedVariables false
set_option linter.unusedSimpArgs false

attribute [local go_sem ↓] Go.wp_at_zero Go.wp_at_succ

/-- A new row of no queues. -/
theorem emptyQ_own (w : World) (base g : Nat) (hg : w.heap.size = g) (hb : base ≤ g) : (w.alloc (.cells #[] 76)).ownsRow base 76 3 (.slice (some ⟨g, 0, none⟩) 0 0) 0 [] := by
  subst hg
  exact ⟨rfl, .inr ⟨w.heap.size, 0, #[], rfl, hb, heap_alloc_new w _, Nat.le_refl _, by simp [maxLen], rfl, rfl⟩⟩

theorem rowQ_cells {w : World} {base g n cap : Nat} {L : QuL} (h : w.ownsRow base 76 3 (.slice (some ⟨g, 0, none⟩) n cap) n (cellsQ L)) (k : Nat) (hk : k < L.length) : ∃ u0 u1 u2, w.cell? ⟨g, k * 3, none⟩ = some u0 ∧ w.cell? ⟨g, k * 3 + 1, none⟩ = some u1 ∧ w.cell? ⟨g, k * 3 + 2, none⟩ = some u2 := by
  obtain ⟨a', cap', e, _, _, _, h3⟩ := own_slice h
  simp only [Value.slice.injEq] at e
  obtain ⟨rfl, -, rfl⟩ := e
  have hl := cellsQ_len L
  have key : ∀ i, i < L.length * 3 → ∃ u, w.cell? ⟨g, i, none⟩ = some u := fun i hi => by
    obtain ⟨b', off', e, _, hc⟩ := h3 i (by omega)
    simp only [Option.some.injEq, Addr.mk.injEq] at e
    obtain ⟨rfl, rfl, -⟩ := e
    rw [Nat.zero_add] at hc
    exact ⟨_, hc⟩
  obtain ⟨u0, h0⟩ := key (k * 3) (by omega)
  obtain ⟨u1, h1⟩ := key (k * 3 + 1) (by omega)
  obtain ⟨u2, h2⟩ := key (k * 3 + 2) (by omega)
  exact ⟨u0, u1, u2, h0, h1, h2⟩

set_option maxRecDepth 100000 in
set_option maxHeartbeats 3200000 in
theorem with_any (v : Value) (qs : List QD) (next : Int) (k : Nat) (hk : k < qs.length) (q : QD) (qv : Value) (hlen : qs.length ≤ 4194304) (w : World) (S : Nat → Prop) (hS : ∀ b, S b → b < w.heap.size) (hv : SliceQ S w v qs) (hq : SliceI S w qv q.items) :
    Calls Try.prog 57 #[.agg #[v, .int .i64 next], .int .i64 k, .agg #[.string q.name, .int .i64 q.limit, qv]] w fun e w' => ∃ v', e = .returned (.agg #[v', .int .i64 next]) ∧ SliceQ (fun b => S b ∨ Made w.heap.size w'.heap.size b) w' v' (qs.set k q) ∧ Below w.heap.size w w' := by
  obtain ⟨i0, hi0, hz0, hz1, hz2⟩ := info_parts info25
  obtain ⟨L, rfl, hL, hN⟩ := hv
  obtain ⟨va, vc, rfl, h1, h2, -⟩ := hL.shape
  obtain ⟨ia, ic, rfl⟩ := hq.shp
  simp only [List.length_map] at hk hlen
  have HL : Hid (SliceV S w (.slice va L.length vc) L.length (cellsQ L)) := hL
  have HN : Hid (∀ x ∈ L, SliceI S w x.2 x.1.items) := hN
  have HQ : Hid (SliceI S w (.slice ia q.items.length ic) q.items) := hq
  have HO : Hid (∀ u ∈ cellsQ L, u.oneCell' = true) := cellsQ_one L hN
  clear hL hN hq
  have three : Hid (∀ o1 o2 o3 o4 : Obj, Below w.heap.size w ((((w.alloc o1).alloc o2).alloc o3).alloc o4)) := fun o1 o2 o3 o4 => (((below_alloc _ _).alloc (by simp) _).alloc (by simp; omega) _).alloc (by simp; omega) _
  have hki : (k : Int) < (L.length : Int) := by omega
  unfold maxLen at h2
  go_enter Try.func57, Try.ntmps57
  go_wp2_with (at_builtin; refine wpList_appV rfl (.tmp 7) (.tmp 9) 22 rfl 76 i0 _ 3 48 Try.underlying22 hi0 hz0 hz1 hz2 rfl (by omega) (w.heap.size + 3) (.slice (some ⟨w.heap.size + 1 + 1 + 1, 0, none⟩) 0 0) 0 [] rfl (emptyQ_own _ _ _ (by simp) (by omega)) S (.slice va L.length vc) L.length (cellsQ L) rfl (SliceV.sub HL.out (fun i hi => ⟨hi, (three.out _ _ _ _).block i (hS i hi)⟩)) (cellsQ_len L) HO.out (by unfold maxLen; omega) (by omega) (by simp <;> omega) ?_; intro ao cap w1 ho1 hg1 hm1; have ho1' : w1.ownsRow (w.heap.size + 3) 76 3 (.slice ao L.length cap) L.length (cellsQ L) := (by simpa using ho1); have hz1' : w.heap.size + 4 ≤ w1.heap.size := (by have := hg1.size; simp at this; omega); have hbk : ∀ i, i < w.heap.size + 3 → w1.heap[i]? = _ := (fun i hi => hg1.block i (by simp only [World.size_alloc]; omega) (fun e => by simp only [Value.ownBlock, Option.some.injEq] at e; omega)); have hk0 := (((((Blk.new w _ 24).alloc _).alloc _).alloc _).same (hbk _ (by omega))); have hk1 := ((((Blk.new (w.alloc _) _ 76).alloc _).alloc _).same (hbk _ (by simp))); have hk2 := (((Blk.new ((w.alloc _).alloc _) _ 24).alloc _).same (hbk _ (by simp))); simp only [World.size_alloc] at hk1 hk2; have HB1 : Hid (Below w.heap.size w w1) := ⟨hg1.os, hg1.tape, hg1.output, by omega, fun i hi => (hbk i (by omega)).trans ((three.out _ _ _ _).block i hi)⟩; obtain ⟨gg, gcap, hao⟩ : ∃ g c, Value.slice ao L.length cap = .slice (some ⟨g, 0, none⟩) L.length c := (by rcases ho1'.2 with ⟨-, h0⟩ | ⟨g, c, cur, e, -⟩; (omega); exact ⟨g, c, e⟩); simp only [Value.slice.injEq, true_and] at hao; obtain ⟨rfl, rfl⟩ := hao; have hgl := ho1'.lt gg rfl; have hgf : ∀ o, w1.frozen? ⟨gg, o, none⟩ = false := (fun o => ho1'.frozenAt o); obtain ⟨u0, u1, u2, g0, g1, g2⟩ := rowQ_cells ho1' k hk; have HO1 : Hid (w1.ownsRow (w.heap.size + 3) 76 3 (.slice (some ⟨gg, 0, none⟩) L.length cap) L.length (cellsQ L)) := ho1'; obtain ⟨a0, a1, a2, a3⟩ := hk0.b2; obtain ⟨b0, b1, b2, b3, b4⟩ := hk1.b3; obtain ⟨c0, c1, c2, c3⟩ := hk2.b2; have n0 : gg ≠ w.heap.size := (by omega); have n1 : gg ≠ w.heap.size + 1 := (by omega); have n2 : gg ≠ w.heap.size + 1 + 1 := (by omega); clear ho1 hg1 hm1 hbk hk0 hk1 hk2 ho1')
  refine bodyPost_ret (v := .agg #[.slice (some ⟨gg, 0, none⟩) L.length cap, .int .i64 next]) (by simp [results, Try.results57, go_sem, *]; done) rfl ⟨_, rfl, ?_, ?_⟩
  · obtain ⟨wF, hF⟩ : ∃ wF, wF = (((((w1.setCell ⟨w.heap.size, 0, none⟩ (.slice (some ⟨gg, 0, none⟩) L.length cap)).setCell ⟨gg, k * 3, none⟩ (.string q.name)).setCell ⟨gg, k * 3 + 1, none⟩ (.int .i64 q.limit)).setCell ⟨gg, k * 3 + 2, none⟩ (.slice ia q.items.length ic)).setCell ⟨w.heap.size + 1 + 1, 0, none⟩ (.slice (some ⟨gg, 0, none⟩) L.length cap)).setCell ⟨w.heap.size + 1 + 1, 1, none⟩ (.int .i64 next) := ⟨_, rfl⟩
    have hFz : wF.heap.size = w1.heap.size := by rw [hF]; simp
    have hFx : ∀ b, b ≠ gg → b ≠ w.heap.size → b ≠ w.heap.size + 1 + 1 → wF.heap[b]? = w1.heap[b]? := fun b h1 h2 h3 => by
      rw [hF, Below.heap_setCell _ _ _ _ h3, Below.heap_setCell _ _ _ _ h3, Below.heap_setCell _ _ _ _ h1, Below.heap_setCell _ _ _ _ h1, Below.heap_setCell _ _ _ _ h1, Below.heap_setCell _ _ _ _ h2]
    have hrow : wF.ownsRow (w.heap.size + 3) 76 3 (.slice (some ⟨gg, 0, none⟩) L.length cap) L.length (cellsQ (L.set k (q, .slice ia q.items.length ic))) := by
      rw [hF, cellsQ_set L k hk]
      have h0 := own_same (w' := w1.setCell ⟨w.heap.size, 0, none⟩ (.slice (some ⟨gg, 0, none⟩) L.length cap)) HO1.out (fun b e => Below.heap_setCell _ _ _ _ (by have e' : gg = b := (by simpa [Value.ownBlock] using e); exact e' ▸ n0))
      have h3 := (((h0.stored (k * 3) (.string q.name)).1.stored (k * 3 + 1) (.int .i64 q.limit)).1.stored (k * 3 + 2) (.slice ia q.items.length ic)).1
      exact own_same h3 (fun b e => by have e' : gg = b := by simpa [Value.ownBlock] using e
                                       rw [Below.heap_setCell _ _ _ _ (e' ▸ n2), Below.heap_setCell _ _ _ _ (e' ▸ n2)])
    rw [← hF]
    refine ⟨L.set k (q, .slice ia q.items.length ic), by rw [List.map_set], ?_, fun x hx => ?_⟩
    · rw [List.length_set]
      exact (own_slice hrow).sub fun b hb => by
        have := hrow.lt b hb
        exact ⟨.inr ⟨by omega, by omega⟩, rfl⟩
    · have hB := HB1.out
      rcases List.mem_or_eq_of_mem_set hx with hx | rfl
      · exact (HN.out x hx).sub fun b hb => ⟨.inl hb, (hFx b (by have := hS b hb; omega) (by have := hS b hb; omega) (by have := hS b hb; omega)).trans (hB.block b (hS b hb))⟩
      · exact HQ.out.sub fun b hb => ⟨.inl hb, (hFx b (by have := hS b hb; omega) (by have := hS b hb; omega) (by have := hS b hb; omega)).trans (hB.block b (hS b hb))⟩
  · iterate 6 refine Below.setCell ?_ (by simp <;> omega) _
    exact HB1.out
end Go.Proofs.Ytkddkpdfeeikhaa

/-
  tgref1.Done.
-/
namespace Go.Proofs.Ytkddkpdfeeikhaa
open Go.RowKit
set_option linter.unusedVariables false
set_option linter.unusedSimpArgs false

attribute [local go_sem ↓] Go.wp_at_zero Go.wp_at_succ

end Go.Proofs.Ytkddkpdfeeikhaa
