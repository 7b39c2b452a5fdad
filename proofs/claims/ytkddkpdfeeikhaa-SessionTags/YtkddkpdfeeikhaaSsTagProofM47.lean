/-
  SsLeave; SrOwn: texts laid together.
-/
import Derived.Test.YtkddkpdfeeikhaaSsDo2
import Derived.Test.YtkddkpdfeeikhaaSsTagProofM16
/-
  session.Leave.
-/
namespace Go.Proofs.Ytkddkpdfeeikhaa
open Go.RowKit
set_option linter.unusedVariables false
set_option linter.unusedSimpArgs false

attribute [local go_sem ↓] Go.wp_at_zero Go.wp_at_succ

/-- What is left of somebody. -/
def leaveF (d : DK) (ts : List TD) : DK := ts.foldl (fun d t => (d.write (tagF d.h 8 t)).1) d
theorem leaveF_take (d : DK) (ts : List TD) (k : Nat) (hk : k < ts.length) : leaveF d (ts.take (k + 1)) = ((leaveF d (ts.take k)).write (tagF (leaveF d (ts.take k)).h 8 ts[k])).1 := by
  unfold leaveF
  rw [List.take_succ_eq_append_getElem hk, List.foldl_append]
  rfl
/-- A tag may be given back. -/
structure LeaveOk (d : DK) (t : TD) : Prop where
  h : d.h.okH
  l : d.l.length ≤ 140737488355328
  e : (tagF d.h 8 t).2.2 = 0 → (∀ e ∈ (tagF d.h 8 t).2.1, e.right) ∧ (tagF d.h 8 t).2.1.length ≤ 4194304
theorem leaveF_ts (d : DK) : ∀ ts : List TD, (leaveF d ts).ts = d.ts ∧ (leaveF d ts).nx = d.nx := by
  intro ts
  induction ts generalizing d with
  | nil => exact ⟨rfl, rfl⟩
  | cons t ts ih =>
    have h1 := ih (d.write (tagF d.h 8 t)).1
    have h2 := write_ts d (tagF d.h 8 t)
    exact ⟨h1.1.trans h2.1, h1.2.trans h2.2⟩

theorem ST2.new {A W : World} {hv lv : Value} {d : DK} (H : ST2 A none hv lv d W) : DeskIn (fun b => b < A.heap.size) W.heap.size A.heap.size ⟨d.h, d.l, d.sure, [], 0⟩ hv lv (.slice none 0 0) (W.alloc (.cells #[hv, .int .i64 d.h.next, lv, .int .i64 d.sure, .slice none 0 0, .int .i64 0] 126)) ∧ Below A.heap.size A (W.alloc (.cells #[hv, .int .i64 d.h.next, lv, .int .i64 d.sure, .slice none 0 0, .int .i64 0] 126)) := by
  have hs := H.bel.size
  have off : ∀ b, Cop A none W b → Off (fun b => b < A.heap.size) W.heap.size (.slice none 0 0) ((W.alloc (.cells #[hv, .int .i64 d.h.next, lv, .int .i64 d.sure, .slice none 0 0, .int .i64 0] 126))).heap.size b ∧ ((W.alloc (.cells #[hv, .int .i64 d.h.next, lv, .int .i64 d.sure, .slice none 0 0, .int .i64 0] 126))).heap[b]? = W.heap[b]? := fun b h =>
    ⟨⟨by have := h.2.1; simp; omega, by have := h.2.1; omega, by simp [Value.ownBlock], fun e => by have := h.1; omega⟩, Below.heap_alloc _ _ _ h.2.1⟩
  exact ⟨⟨Blk.new _ _ _, H.q.sub off, SliceV.sub H.l off, World.ownsRow_nil _ _ _ _, by simp [Value.ownBlock], hs, fun b h => by simp; omega, fun h => by omega, fun b h => by simp [Value.ownBlock] at h⟩, H.bel.alloc hs _⟩
theorem ST2.old6 {A W : World} {D : Nat} {hv lv : Value} {d : DK} (H : ST2 A (some D) hv lv d W) : DeskIn (fun b => b < A.heap.size) D A.heap.size ⟨d.h, d.l, d.sure, [], 0⟩ hv lv (.slice none 0 0) ((((((W.setCell ⟨D, 0, none⟩ hv).setCell ⟨D, 1, none⟩ (.int .i64 d.h.next)).setCell ⟨D, 2, none⟩ lv).setCell ⟨D, 3, none⟩ (.int .i64 d.sure)).setCell ⟨D, 4, none⟩ (.slice none 0 0)).setCell ⟨D, 5, none⟩ (.int .i64 0)) ∧ Below A.heap.size A ((((((W.setCell ⟨D, 0, none⟩ hv).setCell ⟨D, 1, none⟩ (.int .i64 d.h.next)).setCell ⟨D, 2, none⟩ lv).setCell ⟨D, 3, none⟩ (.int .i64 d.sure)).setCell ⟨D, 4, none⟩ (.slice none 0 0)).setCell ⟨D, 5, none⟩ (.int .i64 0)) := by
  obtain ⟨hz, far, hos⟩ := set6_any W D hv (.int .i64 d.h.next) lv (.int .i64 d.sure) (.slice none 0 0) (.int .i64 0)
  have hz0 := H.zb D rfl
  have hs := H.bel.size
  have hD : Blk ((((((W.setCell ⟨D, 0, none⟩ hv).setCell ⟨D, 1, none⟩ (.int .i64 d.h.next)).setCell ⟨D, 2, none⟩ lv).setCell ⟨D, 3, none⟩ (.int .i64 d.sure)).setCell ⟨D, 4, none⟩ (.slice none 0 0)).setCell ⟨D, 5, none⟩ (.int .i64 0)) D [hv, .int .i64 d.h.next, lv, .int .i64 d.sure, .slice none 0 0, .int .i64 0] := ((((((hz0.2.set 0 _).set 1 _).set 2 _).set 3 _).set 4 _).set 5 _)
  obtain ⟨W', hW'⟩ : ∃ W', W' = ((((((W.setCell ⟨D, 0, none⟩ hv).setCell ⟨D, 1, none⟩ (.int .i64 d.h.next)).setCell ⟨D, 2, none⟩ lv).setCell ⟨D, 3, none⟩ (.int .i64 d.sure)).setCell ⟨D, 4, none⟩ (.slice none 0 0)).setCell ⟨D, 5, none⟩ (.int .i64 0)) := ⟨_, rfl⟩
  rw [← hW'] at hz far hos hD ⊢
  have off : ∀ b, Cop A (some D) W b → Off (fun b => b < A.heap.size) D (.slice none 0 0) W'.heap.size b ∧ W'.heap[b]? = W.heap[b]? := fun b h => by
    have hne : b ≠ D := fun e => h.2.2 (by rw [e])
    exact ⟨⟨by rw [hz]; exact h.2.1, hne, by simp [Value.ownBlock], fun e => by have := h.1; omega⟩, far b hne⟩
  exact ⟨⟨hD, H.q.sub off, SliceV.sub H.l off, World.ownsRow_nil _ _ _ _, by simp [Value.ownBlock], hz0.1, fun b h => by omega, fun h => by have := hz0.1; omega, fun b h => by simp [Value.ownBlock] at h⟩,
    hos.1.trans H.bel.os, hos.2.1.trans H.bel.tape, hos.2.2.trans H.bel.output, by omega, fun b h => (far b (by have := hz0.1; omega)).trans (H.bel.block b h)⟩

/-- What Leave answers. -/
def LeaveAns (r : DK) (w : World) (e : Ending) (w' : World) : Prop :=
  ∃ ha hc la lc, e = .returned (.tuple #[.agg #[.slice ha r.h.queues.length hc, .int .i64 r.h.next], .agg #[.slice la r.l.length lc, .int .i64 r.sure]]) ∧
    SliceQ (Made w.heap.size w'.heap.size) w' (.slice ha r.h.queues.length hc) r.h.queues ∧ SliceB (Made w.heap.size w'.heap.size) w' (.slice la r.l.length lc) r.l ∧ Below w.heap.size w w'

theorem four_far (V : World) (b1 b2 : Nat) (y0 y1 y2 y3 : Value) (b : Nat) (h1 : b ≠ b1) (h2 : b ≠ b2) : ((((V.setCell ⟨b1, 0, none⟩ y0).setCell ⟨b1, 1, none⟩ y1).setCell ⟨b2, 0, none⟩ y2).setCell ⟨b2, 1, none⟩ y3).drew.heap[b]? = V.heap[b]? := by
  show ((((V.setCell ⟨b1, 0, none⟩ y0).setCell ⟨b1, 1, none⟩ y1).setCell ⟨b2, 0, none⟩ y2).setCell ⟨b2, 1, none⟩ y3).heap[b]? = _
  rw [Below.heap_setCell _ _ _ _ h2, Below.heap_setCell _ _ _ _ h2, Below.heap_setCell _ _ _ _ h1, Below.heap_setCell _ _ _ _ h1]

set_option maxRecDepth 100000 in
set_option maxHeartbeats 6400000 in
theorem leave_any (d : DK) (hv lv tv : Value) (ts : List TD) (nx : Int) (w : World) (hd0 : d.ts = [] ∧ d.nx = 0) (hh : SliceQ (Under w.heap.size) w hv d.h.queues) (hl : SliceB (Under w.heap.size) w lv d.l) (ht : SliceT (Under w.heap.size) w tv ts) (hsm : smallQ d.h.queues) (hll : d.l.length ≤ 140737488355328)
    (hok : ∀ k (hk : k < ts.length), LeaveOk (leaveF d (ts.take k)) ts[k]) :
    Calls Try.prog 66 #[.agg #[hv, .int .i64 d.h.next], .agg #[lv, .int .i64 d.sure], .agg #[tv, .int .i64 nx]] w (LeaveAns (leaveF d ts) w) := by
  obtain ⟨ha, hc, rfl⟩ := hh.shp
  obtain ⟨la, lc, rfl, -⟩ := SliceV.shape hl
  obtain ⟨ta, tc, rfl, ht1, ht2, -⟩ := SliceV.shape ht
  unfold maxLen at ht2
  obtain ⟨A, hA⟩ : ∃ A, A = (((((w.alloc (.cells #[.slice ha d.h.queues.length hc, .int .i64 d.h.next] 24)).alloc (.cells #[.slice la d.l.length lc, .int .i64 d.sure] 32)).alloc (.cells #[.slice ta ts.length tc, .int .i64 nx] 64)).alloc (.cells #[.slice none 0 0, .int .i64 0] 24)).alloc (.cells #[.slice none 0 0, .int .i64 0] 32)) := ⟨_, rfl⟩
  have hAz : A.heap.size = w.heap.size + 5 := by rw [hA]; simp
  have hAb : Below w.heap.size w A := by
    rw [hA]
    iterate 4 refine Below.alloc ?_ (by first | (simp; done) | (simp; omega)) _
    exact below_alloc _ _
  have hB0 : Blk A w.heap.size [.slice ha d.h.queues.length hc, .int .i64 d.h.next] := by
    rw [hA]
    have := (((((Blk.new w [.slice ha d.h.queues.length hc, .int .i64 d.h.next] 24).alloc (.cells #[.slice la d.l.length lc, .int .i64 d.sure] 32)).alloc (.cells #[.slice ta ts.length tc, .int .i64 nx] 64)).alloc (.cells #[.slice none 0 0, .int .i64 0] 24)).alloc (.cells #[.slice none 0 0, .int .i64 0] 32))
    simpa using this
  have hB1 : Blk A (w.heap.size + 1) [.slice la d.l.length lc, .int .i64 d.sure] := by
    rw [hA]
    have := ((((Blk.new (w.alloc (.cells #[.slice ha d.h.queues.length hc, .int .i64 d.h.next] 24)) [.slice la d.l.length lc, .int .i64 d.sure] 32).alloc (.cells #[.slice ta ts.length tc, .int .i64 nx] 64)).alloc (.cells #[.slice none 0 0, .int .i64 0] 24)).alloc (.cells #[.slice none 0 0, .int .i64 0] 32))
    simpa using this
  have hB2 : Blk A (w.heap.size + 2) [.slice ta ts.length tc, .int .i64 nx] := by
    rw [hA]
    have := (((Blk.new ((w.alloc (.cells #[.slice ha d.h.queues.length hc, .int .i64 d.h.next] 24)).alloc (.cells #[.slice la d.l.length lc, .int .i64 d.sure] 32)) [.slice ta ts.length tc, .int .i64 nx] 64).alloc (.cells #[.slice none 0 0, .int .i64 0] 24)).alloc (.cells #[.slice none 0 0, .int .i64 0] 32))
    simpa using this
  have hB3 : Blk A (w.heap.size + 3) [.slice none 0 0, .int .i64 0] := by
    rw [hA]
    have := ((Blk.new (((w.alloc (.cells #[.slice ha d.h.queues.length hc, .int .i64 d.h.next] 24)).alloc (.cells #[.slice la d.l.length lc, .int .i64 d.sure] 32)).alloc (.cells #[.slice ta ts.length tc, .int .i64 nx] 64)) [.slice none 0 0, .int .i64 0] 24).alloc (.cells #[.slice none 0 0, .int .i64 0] 32))
    simpa using this
  have hB4 : Blk A (w.heap.size + 4) [.slice none 0 0, .int .i64 0] := by
    rw [hA]
    have := (Blk.new ((((w.alloc (.cells #[.slice ha d.h.queues.length hc, .int .i64 d.h.next] 24)).alloc (.cells #[.slice la d.l.length lc, .int .i64 d.sure] 32)).alloc (.cells #[.slice ta ts.length tc, .int .i64 nx] 64)).alloc (.cells #[.slice none 0 0, .int .i64 0] 24)) [.slice none 0 0, .int .i64 0] 32)
    simpa using this
  have HB : Hid (Blk A w.heap.size [.slice ha d.h.queues.length hc, .int .i64 d.h.next] ∧ Blk A (w.heap.size + 1) [.slice la d.l.length lc, .int .i64 d.sure] ∧ Blk A (w.heap.size + 2) [.slice ta ts.length tc, .int .i64 nx] ∧ Blk A (w.heap.size + 3) [.slice none 0 0, .int .i64 0] ∧ Blk A (w.heap.size + 4) [.slice none 0 0, .int .i64 0]) := ⟨hB0, hB1, hB2, hB3, hB4⟩
  have HAZ : Hid (A.heap.size = w.heap.size + 5 ∧ Below w.heap.size w A) := ⟨hAz, hAb⟩
  have SC : Hid (∀ W, Below A.heap.size A W → W.cell? ⟨w.heap.size, 0, none⟩ = some (.slice ha d.h.queues.length hc) ∧ W.cell? ⟨w.heap.size, 1, none⟩ = some (.int .i64 d.h.next) ∧ W.cell? ⟨(w.heap.size + 1), 0, none⟩ = some (.slice la d.l.length lc) ∧ W.cell? ⟨(w.heap.size + 1), 1, none⟩ = some (.int .i64 d.sure)) := by
    show ∀ W, Below A.heap.size A W → _
    intro W hW
    have h0 := (hB0.below hW hB0.lt).b2
    have h1 := (hB1.below hW hB1.lt).b2
    exact ⟨h0.1, h0.2.1, h1.1, h1.2.1⟩
  have up : ∀ W, Below A.heap.size A W → Below w.heap.size w W := fun W h => hAb.trans (h.mono (by omega))
  have P55 : Hid (∀ z W, ST0 A z W → Calls Try.prog 55 #[.agg #[.slice ha d.h.queues.length hc, .int .i64 d.h.next]] W fun e w' => ∃ a' c', e = .returned (.agg #[.slice a' d.h.queues.length c', .int .i64 d.h.next]) ∧ ST1 A z (.slice a' d.h.queues.length c') d w') := by
    show ∀ z W, ST0 A z W → _
    intro z W H
    refine (hallOwn_any _ d.h W ((hh.sub fun b h => ⟨Nat.lt_of_lt_of_le h (up W H.bel).size, (up W H.bel).block b h⟩)) hsm).mono ?_
    rintro e w' ⟨vi, rfl, ho, hb⟩
    obtain ⟨L, hL, hr, hi⟩ := ho
    have hq : SliceQ (Made W.heap.size w'.heap.size) w' vi d.h.queues := ⟨L, hL, own_made hr (Nat.le_refl _), fun x hx => (hi x hx).sub fun b h => ⟨⟨h.1, h.2.1⟩, rfl⟩⟩
    obtain ⟨a', c', rfl⟩ := hq.shp
    exact ⟨a', c', rfl, H.on hb, hq.sub fun b h => ⟨cop_made H b h, rfl⟩⟩
  have P69 : Hid (∀ z W {hv' : Value}, ST1 A z hv' d W → Calls Try.prog 69 #[.agg #[.slice la d.l.length lc, .int .i64 d.sure]] W fun e w' => ∃ a' c', e = .returned (.agg #[.slice a' d.l.length c', .int .i64 d.sure]) ∧ ST2 A z hv' (.slice a' d.l.length c') d w') := by
    show ∀ z W {hv' : Value}, ST1 A z hv' d W → _
    intro z W hv' H
    refine (storeOwn_any _ d.sure d.l W (SliceV.sub hl fun b h => ⟨Nat.lt_of_lt_of_le h (up W H.bel).size, (up W H.bel).block b h⟩) hll).mono ?_
    rintro e w' ⟨a', c', rfl, ho, hb⟩
    exact ⟨a', c', rfl, H.on hb, SliceV.sub ho fun b h => ⟨cop_made H.toST0 b h, rfl⟩⟩
  have HT : Hid (∀ W, Below A.heap.size A W → SliceT (Under W.heap.size) W (.slice ta ts.length tc) ts) := fun W h => SliceV.sub ht fun b hb => ⟨Nat.lt_of_lt_of_le hb (up W h).size, (up W h).block b hb⟩
  have HOK : Hid (∀ k (hk : k < ts.length), LeaveOk (leaveF d (ts.take k)) ts[k]) := hok
  have HD0 : Hid (d.ts = [] ∧ d.nx = 0) := hd0
  have HDE : Hid (d = ⟨d.h, d.l, d.sure, [], 0⟩) := by
    obtain ⟨e1, e2⟩ := hd0
    cases d
    simp only at e1 e2
    subst e1 e2
    rfl
  obtain ⟨RR, hRR⟩ : ∃ RR, RR = leaveF d ts := ⟨_, rfl⟩
  have HRR : Hid (RR = leaveF d ts) := hRR
  rw [← hRR]
  obtain ⟨x0, x1, x2, x3⟩ := SC.out A (Below.refl _ _)
  have hz0 : w.heap.size + 5 ≤ A.heap.size := Nat.le_of_eq hAz.symm
  clear hRR hh hl ht hsm hll hok hAz hAb hB0 hB1 hB2 hB3 hB4 up hd0
  have n0 : A.heap.size ≠ w.heap.size := by omega
  have n1 : A.heap.size ≠ w.heap.size + 1 := by omega
  go_enter Try.func66, Try.ntmps66
  go_upto_region 1 with fail
  rw [← hA]
  clear hA
  go_cut [8] (fun v wx => ∃ D hv' lv', v = .pointer (some ⟨D, 0, none⟩) ∧ DeskIn (fun b => b < A.heap.size) D A.heap.size ⟨d.h, d.l, d.sure, [], 0⟩ hv' lv' (.slice none 0 0) wx ∧ Below A.heap.size A wx)
  case first =>
    go_region_held3 (fun w' => w'.cell? ⟨w.heap.size, 0, none⟩ = some (.slice ha d.h.queues.length hc) ∧ w'.cell? ⟨w.heap.size, 1, none⟩ = some (.int .i64 d.h.next) ∧ w'.cell? ⟨(w.heap.size + 1), 0, none⟩ = some (.slice la d.l.length lc) ∧ w'.cell? ⟨(w.heap.size + 1), 1, none⟩ = some (.int .i64 d.sure)) (go_keep) (first
      | (go_at_call 55; refine (P55.out _ _ (ST0.start A)).mono ?_; rintro e w1 ⟨xa1, xc1, rfl, hs1⟩; have HS1 : Hid _ := hs1; clear hs1; obtain ⟨x0, x1, x2, x3⟩ := SC.out _ HS1.out.bel; have hzHS1 : w.heap.size + 5 ≤ w1.heap.size := (by have := HS1.out.bel.size; have := HAZ.out; omega); have q0HS1 : w1.heap.size ≠ w.heap.size := (by omega); have q1HS1 : w1.heap.size ≠ w.heap.size + 1 := (by omega))
      | (go_at_call 55; refine (P55.out _ _ (ST0.start' A)).mono ?_; rintro e w1 ⟨xa1, xc1, rfl, hs1⟩; have HS1 : Hid _ := hs1; clear hs1; obtain ⟨x0, x1, x2, x3⟩ := SC.out _ HS1.out.bel; have hzHS1 : w.heap.size + 5 ≤ w1.heap.size := (by have := HS1.out.bel.size; have := HAZ.out; omega); have q0HS1 : w1.heap.size ≠ w.heap.size := (by omega); have q1HS1 : w1.heap.size ≠ w.heap.size + 1 := (by omega))
      | (go_at_call 69; refine (P69.out _ _ HS1.out).mono ?_; rintro e w2 ⟨xa2, xc2, rfl, hs2⟩; have HS2 : Hid _ := hs2; clear hs2 x0 x1 x2 x3; obtain ⟨x0, x1, x2, x3⟩ := SC.out _ HS2.out.bel; have hzHS2 : w.heap.size + 5 ≤ w2.heap.size := (by have := HS2.out.bel.size; have := HAZ.out; omega); have q0HS2 : w2.heap.size ≠ w.heap.size := (by omega); have q1HS2 : w2.heap.size ≠ w.heap.size + 1 := (by omega); (try obtain ⟨d0, d1, d2, d3, d4, d5, d6, d7⟩ := (HS2.out.zb _ rfl).2.b6))
      | (go_at_call 69; refine (P69.out _ _ HS1.out.alloc).mono ?_; rintro e w2 ⟨xa2, xc2, rfl, hs2⟩; have HS2 : Hid _ := hs2; clear hs2 x0 x1 x2 x3; obtain ⟨x0, x1, x2, x3⟩ := SC.out _ HS2.out.bel; have hzHS2 : w.heap.size + 5 ≤ w2.heap.size := (by have := HS2.out.bel.size; have := HAZ.out; omega); have q0HS2 : w2.heap.size ≠ w.heap.size := (by omega); have q1HS2 : w2.heap.size ≠ w.heap.size + 1 := (by omega); (try obtain ⟨d0, d1, d2, d3, d4, d5, d6, d7⟩ := (HS2.out.zb _ rfl).2.b6))
      | fail)
    · go_wp2_with fail
      go_meet
      exact ⟨_, _, _, rfl, HS2.out.new⟩
    · go_wp2_with fail
      go_meet
      have hh6 := HS2.out.old6
      exact ⟨_, _, _, rfl, hh6⟩
    · go_wp2_with fail
      go_meet
      have hh6 := HS2.out.old6
      exact ⟨_, _, _, rfl, hh6⟩
  case rest =>
    obtain ⟨D, hv', lv', rfl, hD, hb⟩ := hcut
    have HD : Hid (DeskIn (fun b => b < A.heap.size) D A.heap.size d hv' lv' (.slice none 0 0) wc ∧ Below A.heap.size A wc) := ⟨by rw [HDE.out]; exact hD, hb⟩
    obtain ⟨t0, t1, t2, t3⟩ := (HB.out.2.2.1.below hb HB.out.2.2.1.lt).b2
    clear hD hb x0 x1 x2 x3 P55 P69 SC n0 n1 HDE
    go_wp2_with fail
    go_loopw [19] (fun i wr => ∃ k : Nat, k ≤ ts.length ∧ i = .int .i64 k ∧ ∃ hv' lv', DeskIn (fun b => b < A.heap.size) D A.heap.size (leaveF d (ts.take k)) hv' lv' (.slice none 0 0) wr ∧ Below A.heap.size A wr) (fun i _ => ts.length - (intOf i).toNat)
    case atStart => exact ⟨0, Nat.zero_le _, rfl, hv', lv', HD.out.1, HD.out.2⟩
    case round =>
      obtain ⟨k, hk, rfl, hv2, lv2, hD2, hb2⟩ := hrel
      have HR : Hid (DeskIn (fun b => b < A.heap.size) D A.heap.size (leaveF d (ts.take k)) hv2 lv2 (.slice none 0 0) wr ∧ Below A.heap.size A wr) := ⟨hD2, hb2⟩
      have HTS : Hid ((leaveF d (ts.take k)).ts = [] ∧ (leaveF d (ts.take k)).nx = 0) := by
        obtain ⟨e1, e2⟩ := leaveF_ts d (ts.take k)
        exact ⟨e1.trans HD0.out.1, e2.trans HD0.out.2⟩
      by_cases hlt : k < ts.length
      · obtain ⟨b, off, rfl, hS, c0, c1, c2, c3⟩ := (HT.out wr hb2).at k hlt
        obtain ⟨dk, hdk⟩ : ∃ dk, dk = leaveF d (ts.take k) := ⟨_, rfl⟩
        have hstep := leaveF_take d ts k hlt
        have hok := HOK.out k hlt
        obtain ⟨t, htt⟩ : ∃ t, t = ts[k] := ⟨_, rfl⟩
        rw [← htt] at c0 c1 c2 c3 hstep hok
        rw [← hdk] at HR hstep hok HTS
        have HST : Hid (leaveF d (ts.take (k + 1)) = (dk.write (tagF dk.h 8 t)).1) := hstep
        have PW : Hid (∀ W g, DeskIn (fun b => b < A.heap.size) D A.heap.size dk hv2 lv2 (.slice none 0 0) W → Blk W g t.cells → Calls Try.prog 92 #[.pointer (some ⟨D, 0, none⟩), .func (.func 112) #[] #[.pointer (some ⟨g, 0, none⟩)]] W fun e w' => (∃ er : Int, e = .returned (.int .i64 er)) ∧ (∃ hv' lv', DeskIn (fun b => b < A.heap.size) D A.heap.size (dk.write (tagF dk.h 8 t)).1 hv' lv' (.slice none 0 0) w') ∧ Below A.heap.size W w') := by
          show ∀ W g, DeskIn (fun b => b < A.heap.size) D A.heap.size dk hv2 lv2 (.slice none 0 0) W → _
          intro W g hd hg
          have hdo : Does W.heap.size W 112 [.pointer (some ⟨g, 0, none⟩)] dk.h (tagF dk.h 8 t) := by
            rw [tagF, if_pos rfl]
            exact back_does W.heap.size g t W dk.h hg hg.lt hok.h
          exact (sswrite_any _ D A.heap.size 112 [.pointer (some ⟨g, 0, none⟩)] dk hv2 lv2 _ (tagF dk.h 8 t) W hd hdo hok.e hok.l).mono fun e w' ⟨h1, h2, h3, _⟩ => ⟨⟨_, h1⟩, h2, h3⟩
        clear hD2 hb2 hstep hok hdk htt
        have hk1 : (k : Int) < (ts.length : Int) := by omega
        go_wp2_with (first
          | (go_at_call 93; refine (backOf_any t _).mono ?_; rintro e w3 ⟨rfl, hw3⟩; have H3 : Hid (Below wr.heap.size wr w3 ∧ Blk w3 (wr.heap.size + 1) t.cells) := (by rw [hw3]; exact ⟨(below_alloc _ _).alloc (by simp) _, by have := Blk.new (wr.alloc (.cells #[.int .i64 t.n, .string t.queue, .int .i64 t.id, .int .i64 t.turn] 50)) t.cells 50; simpa using this⟩); clear hw3)
          | (go_at_call 92; refine (PW.out _ _ (HR.out.1.on H3.out.1) H3.out.2).mono ?_; rintro e w4 ⟨⟨er, rfl⟩, ⟨hv', lv', hd4⟩, hb4⟩; have H4 : Hid (DeskIn (fun b => b < A.heap.size) D A.heap.size (dk.write (tagF dk.h 8 t)).1 hv' lv' (.slice none 0 0) w4 ∧ Below A.heap.size A w4) := ⟨hd4, (HR.out.2.trans (H3.out.1.mono HR.out.2.size)).trans hb4⟩; clear hd4 hb4)
          | fail)
        go_roundw
        case rel => exact ⟨k + 1, by omega, by go_num, hv', lv', by rw [HST.out]; exact H4.out.1, H4.out.2⟩
        case measure => simp [intOf]; omega
      · have hke : ts.take k = ts := List.take_of_length_le (by omega)
        rw [hke] at HR HTS
        rw [← HRR.out] at HR
        have hgeD : A.heap.size ≤ D := HR.out.1.lo
        obtain ⟨ha3, hc3, rfl⟩ := HR.out.1.q.shp
        obtain ⟨la3, lc3, rfl, -⟩ := SliceV.shape HR.out.1.l
        obtain ⟨d0, d1, d2, d3, d4, d5, d6, d7⟩ := HR.out.1.box.b6
        obtain ⟨f0, f1, f2, f3⟩ := (HB.out.2.2.2.1.below HR.out.2 HB.out.2.2.2.1.lt).b2
        obtain ⟨g0, g1, g2, g3⟩ := (HB.out.2.2.2.2.below HR.out.2 HB.out.2.2.2.2.lt).b2
        clear hD2 hb2 hke HTS t0 t1 t2 t3 HT HOK
        have hFin : Hid (∀ y0 y1 y2 y3 : Value, ∀ W5, W5 = ((((wr.setCell ⟨w.heap.size + 1 + 1 + 1, 0, none⟩ y0).setCell ⟨w.heap.size + 1 + 1 + 1, 1, none⟩ y1).setCell ⟨w.heap.size + 1 + 1 + 1 + 1, 0, none⟩ y2).setCell ⟨w.heap.size + 1 + 1 + 1 + 1, 1, none⟩ y3).drew → SliceQ (Made w.heap.size W5.heap.size) W5 (.slice ha3 RR.h.queues.length hc3) RR.h.queues ∧ SliceB (Made w.heap.size W5.heap.size) W5 (.slice la3 RR.l.length lc3) RR.l ∧ Below w.heap.size w W5) := by
          show ∀ y0 y1 y2 y3 : Value, ∀ W5, W5 = ((((wr.setCell ⟨w.heap.size + 1 + 1 + 1, 0, none⟩ y0).setCell ⟨w.heap.size + 1 + 1 + 1, 1, none⟩ y1).setCell ⟨w.heap.size + 1 + 1 + 1 + 1, 0, none⟩ y2).setCell ⟨w.heap.size + 1 + 1 + 1 + 1, 1, none⟩ y3).drew → _
          intro y0 y1 y2 y3 W5 hW5
          have far : ∀ b, ¬ b < A.heap.size → W5.heap[b]? = wr.heap[b]? := fun b h => by
            rw [hW5]
            exact four_far _ _ _ _ _ _ _ _ (by have := HAZ.out.1; omega) (by have := HAZ.out.1; omega)
          have far2 : ∀ b, b < w.heap.size → W5.heap[b]? = wr.heap[b]? := fun b h => by
            rw [hW5]
            exact four_far _ _ _ _ _ _ _ _ (by omega) (by omega)
          have hz : W5.heap.size = wr.heap.size := by rw [hW5]; show (((((wr.setCell ⟨w.heap.size + 1 + 1 + 1, 0, none⟩ y0).setCell ⟨w.heap.size + 1 + 1 + 1, 1, none⟩ y1).setCell ⟨w.heap.size + 1 + 1 + 1 + 1, 0, none⟩ y2).setCell ⟨w.heap.size + 1 + 1 + 1 + 1, 1, none⟩ y3)).heap.size = _; simp
          have hos : W5.os = wr.os ∧ W5.tape = wr.tape ∧ W5.output = wr.output := by rw [hW5]; exact ⟨rfl, rfl, rfl⟩
          clear hW5
          have hbv : Below w.heap.size w wr := HAZ.out.2.trans (HR.out.2.mono (by have := HAZ.out.1; omega))
          have gw : ∀ b, ¬ b < A.heap.size → w.heap.size ≤ b := fun b h => by have := HAZ.out.1; omega
          exact ⟨HR.out.1.q.sub fun b h => ⟨⟨gw b h.2.2.2, by rw [hz]; exact h.1⟩, far b h.2.2.2⟩, SliceV.sub HR.out.1.l fun b h => ⟨⟨gw b h.2.2.2, by rw [hz]; exact h.1⟩, far b h.2.2.2⟩, hos.1.trans hbv.os, hos.2.1.trans hbv.tape, hos.2.2.trans hbv.output, by have := hbv.size; omega, fun b h => (far2 b h).trans (hbv.block b h)⟩
        go_wp2_with fail
        go_region_law (fail)
        all_goals
          go_wp2_with fail
          refine bodyPost_ret (v := .tuple #[.agg #[.slice ha3 RR.h.queues.length hc3, .int .i64 RR.h.next], .agg #[.slice la3 RR.l.length lc3, .int .i64 RR.sure]]) (by simp [results, Try.results66, go_sem, *]; done) rfl ⟨ha3, hc3, la3, lc3, rfl, hFin.out _ _ _ _ _ rfl⟩
end Go.Proofs.Ytkddkpdfeeikhaa

/-
  store.Records answers what it made.
-/
namespace Go.Proofs.Ytkddkpdfeeikhaa.SR
open Go.RowKit
set_option linter.unusedVariables false
set_option linter.unusedSimpArgs false

end Go.Proofs.Ytkddkpdfeeikhaa.SR
