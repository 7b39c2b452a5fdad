/-
  TellsF; SameH: texts laid together.
-/
import Derived.Test.YtpehkoompadpaaaRightH
import Derived.Test.YtpehkoompadpaaaHTellsProofM22
import Derived.Test.YtpehkoompadpaaaFaceM
import Derived.Test.YtpehkoompadpaaaFaceT
import Derived.Test.YtpehkoompadpaaaHTellsProofM13
import Derived.Test.YtpehkoompadpaaaHTellsProofM11
/-
  What the faces make of a right hall is small, plainly.
-/
namespace Go.Proofs.Ytpehkoompadpaaa
open Go.RowKit
set_option linter.unusedVariables false
set_option linter.unusedSimpArgs false

def FineA (M : Int) (r : HD × List ED × Int) : Prop := r.1.good M ∧ r.2.1.length ≤ 40

theorem fine_refuse {M : Int} (hM : 0 ≤ M) (c : Int) : FineA M (refuse c) := ⟨⟨by simp [refuse], ⟨by simp [refuse], by simpa [refuse] using hM⟩, by simp [refuse]⟩, by simp [refuse]⟩
theorem fine_fail {M : Int} (hM : 0 ≤ M) {r : HD × List ED × Int} (h : FineA M r) : FineA M (failF r) := by
  unfold failF
  split
  · exact h
  · exact ⟨⟨by simp, ⟨by simp, by simpa using hM⟩, by simp⟩, by simp⟩
theorem fine_face {M : Int} (hM : 0 ≤ M) {h : HD} {name : ByteArray} {f : Nat → QD → HD × List ED × Int} (hf : ∀ k q, h.queues[k]? = some q → FineA M (f k q)) : FineA M (faceF h name f) := by
  unfold faceF
  split
  · exact fine_refuse hM 6
  · split
    · exact fine_refuse hM 6
    · rename_i k hk _ q hq
      exact fine_fail hM (hf k q hq)

theorem fineA_make {M : Int} (hM : 0 ≤ M) {h : HD} (g : h.good M) (name : ByteArray) (limit : Int) : FineA M (makeF h name limit) := by
  unfold makeF
  split
  · rename_i hw
    have hl : h.queues.length ≤ 3 ∧ limit ≤ 8 := by
      unfold wrongMakeF at hw
      by_cases h1 : keyB name = false ∨ 0 ≤ idxQ name h.queues
      · simp [h1] at hw
      · by_cases h2 : limit < 1 ∨ 8 < limit
        · simp [h1, h2] at hw
        · by_cases h3 : 4 ≤ h.queues.length
          · simp [h1, h2, h3] at hw
          · omega
    refine ⟨⟨by simp; omega, g.2.1, fun q hq => ?_⟩, by simp⟩
    simp only [List.mem_append, List.mem_singleton] at hq
    rcases hq with hq | rfl
    · exact g.2.2 q hq
    · exact ⟨hl.2, by simp, by simp⟩
  · exact fine_refuse hM _
theorem fineA_drop {M : Int} {h : HD} (g : h.good M) (k : Nat) (q : QD) : FineA M (dropF h k q) := by
  refine ⟨⟨?_, g.2.1, fun x hx => g.2.2 x (List.mem_of_mem_eraseIdx hx)⟩, by simp [dropF]⟩
  have := List.length_eraseIdx_le h.queues k
  have := g.1
  simp only [dropF]
  omega
theorem fineA_put {M : Int} {h : HD} (g : h.good M) {k : Nat} {q : QD} (hq : h.queues[k]? = some q) {n : ND} (hn : n.small) : FineA (M + 1) (putF h k q n) := by
  unfold putF
  split
  · exact ⟨g.mono (by omega), by simp⟩
  · rename_i hl
    have gq := g.2.2 q (List.mem_of_getElem? hq)
    have := good_setQ (q := ⟨q.name, q.limit, q.items ++ [newI h.next n]⟩) g k ⟨gq.1, by have h1 := gq.1; simp; omega, fun i hi => by
      rw [List.mem_append, List.mem_singleton] at hi
      rcases hi with hi | rfl
      · exact gq.2.2 i hi
      · exact ⟨hn, ⟨by simp [newI], by simp [newI]⟩, by simp [newI]⟩⟩
    exact ⟨⟨this.1, ⟨by have := g.2.1.1; simp; omega, by have := g.2.1.2; simp; omega⟩, this.2.2⟩, by simp⟩
theorem fineA_done {M : Int} {h : HD} (g : h.good M) {k : Nat} {q : QD} (hq : h.queues[k]? = some q) (id turn : Int) : FineA M (doneF h k q id turn) := by
  have gq := g.2.2 q (List.mem_of_getElem? hq)
  unfold doneF
  split
  · exact ⟨g, by simp⟩
  · rename_i i hi
    refine ⟨good_setQ g k ⟨gq.1, ?_, fun x hx => gq.2.2 x (List.mem_of_mem_eraseIdx hx)⟩, by simp⟩
    have := List.length_eraseIdx_le q.items i
    exact Nat.le_trans this gq.2.1
theorem fineA_back {M : Int} {h : HD} (g : h.good M) {k : Nat} {q : QD} (hq : h.queues[k]? = some q) (id turn : Int) : FineA (M + 1) (backF h k q id turn) :=
  ⟨good_back g k (List.mem_of_getElem? hq) id turn, by have := backF_es h k q id turn; omega⟩
theorem fineA_purge {M : Int} {h : HD} (g : h.good M) {k : Nat} {q : QD} (hq : h.queues[k]? = some q) : FineA M (purgeF h k q) := by
  have gq := g.2.2 q (List.mem_of_getElem? hq)
  refine ⟨good_setQ g k ⟨gq.1, ?_, fun x hx => gq.2.2 x (List.mem_filter.1 hx).1⟩, ?_⟩
  · exact Nat.le_trans (List.length_filter_le _ _) gq.2.1
  · simp only [purgeF, List.length_map]
    have h1 := goneL_len q.items
    have h2 := gq.2.1
    omega
theorem fineA_take {M : Int} {h : HD} (g : h.good M) {k : Nat} {q : QD} (hq : h.queues[k]? = some q) (hsn : ∀ i ∈ q.items, i.turn ≤ 1000) (now : Int) : FineA M (takeF h k q now) := by
  have gq := g.2.2 q (List.mem_of_getElem? hq)
  unfold takeF
  split
  · exact ⟨g, by simp⟩
  · split
    · exact ⟨g, by simp⟩
    · rename_i i hi _ it hit
      have him : it ∈ q.items := List.mem_of_getElem? hit
      refine ⟨good_setQ g k ⟨gq.1, by simpa using gq.2.1, fun x hx => ?_⟩, by simp⟩
      rcases List.mem_or_eq_of_mem_set hx with hx | rfl
      · exact gq.2.2 x hx
      · have gi := gq.2.2 it him
        have := hsn it him
        have h0 := gi.2.1.1.1
        exact ⟨gi.1, ⟨⟨by simp [takeI]; omega, by simp [takeI]; omega⟩, gi.2.1.2⟩, gi.2.2⟩
theorem tickF_good {now : Int} : ∀ (m k : Nat) {M : Int} {h : HD}, h.good M → (tickF now m k h).1.good (M + 8 * m) ∧ (tickF now m k h).2.length ≤ 16 * m
  | 0, k, M, h, g => ⟨by simpa [tickF] using g, by simp [tickF]⟩
  | m + 1, k, M, h, g => by
    have ho := outs_le g k
    have h1 := lateF_good (now := now) (k := k) (outs h k) g
    have h2 := tickF_good (now := now) m (k + 1) h1.1
    have h3 : ∀ (n : Nat) (h : HD), (lateF now k n h).2.length ≤ 2 * n := fun n => by
      induction n with
      | zero => intro h; simp [lateF]
      | succ n ih =>
        intro h
        unfold lateF
        split
        · simp
        · split
          · simp
          · split
            · simp
            · rename_i q _ _ i _ _ it _
              have e1 := backF_es h k q it.id it.turn
              have e2 := ih (backF h k q it.id it.turn).1
              simp only [List.length_append]
              omega
    have h4 := h3 (outs h k) h
    simp only [tickF]
    exact ⟨h2.1.mono (by omega), by simp only [List.length_append]; have := h2.2; omega⟩
end Go.Proofs.Ytpehkoompadpaaa

/-
  tgref1.SameHall and SameEntries answer true where both read the same.
-/
namespace Go.Proofs.Ytpehkoompadpaaa
open Go.RowKit
set_option linter.unusedVariables false
set_option linter.unusedSimpArgs false

attribute [local go_sem ↓] Go.wp_at_zero Go.wp_at_succ

theorem SliceQ.up' {w w' : World} {v : Value} {qs : List QD} (h : SliceQ (Under w.heap.size) w v qs) (hb : Below w.heap.size w w') : SliceQ (Under w'.heap.size) w' v qs :=
  h.sub fun k hk => ⟨Nat.lt_of_lt_of_le hk hb.size, hb.block k hk⟩
theorem SliceE.up' {w w' : World} {v : Value} {es : List ED} (h : SliceE (Under w.heap.size) w v es) (hb : Below w.heap.size w w') : SliceE (Under w'.heap.size) w' v es :=
  h.sub fun k hk => ⟨Nat.lt_of_lt_of_le hk hb.size, hb.block k hk⟩

set_option maxRecDepth 100000 in
set_option maxHeartbeats 3200000 in
theorem sameHall_true (v v' : Value) (h : HD) (hsm : smallQ h.queues) (w : World) (hv : SliceQ (Under w.heap.size) w v h.queues) (hv' : SliceQ (Under w.heap.size) w v' h.queues) :
    Calls Try.prog 8 #[.agg #[v, .int .i64 h.next], .agg #[v', .int .i64 h.next]] w fun e w' => e = .returned (.bool true) ∧ Below w.heap.size w w' := by
  obtain ⟨qs, next⟩ := h
  simp only at hsm hv hv' ⊢
  have HV : Hid (SliceQ (Under w.heap.size) w v qs) := hv
  have HV' : Hid (SliceQ (Under w.heap.size) w v' qs) := hv'
  have HS : Hid (smallQ qs) := hsm
  have hlen := hsm.1
  obtain ⟨va, vc, rfl⟩ := hv.shp
  obtain ⟨ua, uc, rfl⟩ := hv'.shp
  clear hv hv' hsm
  have two : Hid (∀ o1 o2 : Obj, Below w.heap.size w ((w.alloc o1).alloc o2)) := fun o1 o2 => (below_alloc _ _).alloc (by simp) _
  go_enter Try.func8, Try.ntmps8
  go_wp2
  go_loopw [23] (fun i wr => ∃ k : Nat, k ≤ qs.length ∧ i = .int .i64 k ∧ Below w.heap.size w wr ∧ Blk wr w.heap.size [.slice va qs.length vc, .int .i64 next] ∧ Blk wr (w.heap.size + 1) [.slice ua qs.length uc, .int .i64 next]) (fun i _ => qs.length - (intOf i).toNat)
  case atStart =>
    refine ⟨0, Nat.zero_le _, rfl, two.out _ _, (Blk.new w _ 24).alloc _, ?_⟩
    have := Blk.new (w.alloc (.cells #[.slice va qs.length vc, .int .i64 next] 24)) [.slice ua qs.length uc, .int .i64 next] 24
    simpa using this
  case round =>
    obtain ⟨k, hk, rfl, hbr, hk0, hk1⟩ := hrel
    have hzr := hbr.size
    have HB : Hid (Below w.heap.size w wr) := hbr
    have HK : Hid (Blk wr w.heap.size [.slice va qs.length vc, .int .i64 next] ∧ Blk wr (w.heap.size + 1) [.slice ua qs.length uc, .int .i64 next]) := ⟨hk0, hk1⟩
    by_cases hlt : k < qs.length
    · obtain ⟨a0, a1, a2, a3⟩ := hk0.b2
      obtain ⟨b0, b1, b2, b3⟩ := hk1.b2
      obtain ⟨b, off, ia, ic, rfl, hS, hq, c0, c1, c2⟩ := (HV.out.up' hbr).at k hlt
      obtain ⟨b', off', ja, jc, rfl, hS', hq', d0, d1, d2⟩ := (HV'.out.up' hbr).at k hlt
      have HN : Hid (SliceI (Under wr.heap.size) wr (.slice ia qs[k].items.length ic) qs[k].items ∧ SliceI (Under wr.heap.size) wr (.slice ja qs[k].items.length jc) qs[k].items) := ⟨hq, hq'⟩
      have HSK : Hid (smallI qs[k].items) := HS.out.2 _ (List.getElem_mem hlt)
      obtain ⟨q, hqq⟩ : ∃ q, q = qs[k] := ⟨_, rfl⟩
      rw [← hqq] at c0 c1 c2 d0 d1 d2 HN HSK
      clear hq hq' hqq hbr hk0 hk1
      have hk1 : (k : Int) < (qs.length : Int) := by omega
      go_wp2_with fail
      go_region_law (first
        | (go_simp; go_at_call 51; refine (sameQueue_true _ _ q.name q.limit q.items HSK.out.1 _ ?_ ?_).mono ?_; (exact HN.out.1.sub fun b hb => ⟨hb, rfl⟩); (exact HN.out.2.sub fun b hb => ⟨hb, rfl⟩); rintro e w1 ⟨rfl, hb1⟩; have hb1' : Below wr.heap.size wr w1 := ⟨hb1.os, hb1.tape, hb1.output, hb1.size, hb1.block⟩; clear hb1))
      all_goals
        have HB1 : Hid (Below w.heap.size w w1) := HB.out.trans (hb1'.mono hzr)
        have HK1 : Hid (Blk w1 w.heap.size [.slice (some ⟨b, off, none⟩) qs.length vc, .int .i64 next] ∧ Blk w1 (w.heap.size + 1) [.slice (some ⟨b', off', none⟩) qs.length uc, .int .i64 next]) := ⟨HK.out.1.below hb1' a3, HK.out.2.below hb1' b3⟩
        clear hb1' a0 a1 a2 b0 b1 b2 c0 c1 c2 d0 d1 d2
        go_wp2
        go_roundw
        case rel => exact ⟨k + 1, by omega, by go_num, HB1.out, HK1.out.1, HK1.out.2⟩
        case measure => simp [intOf]; omega
    · clear hk0 hk1
      go_wp2
      go_ret
      exact ⟨rfl, HB.out⟩

theorem Blk.b6 {w : World} {b : Nat} {x0 x1 x2 x3 x4 x5 : Value} (h : Blk w b [x0, x1, x2, x3, x4, x5]) : w.cell? ⟨b, 0, none⟩ = some x0 ∧ w.cell? ⟨b, 1, none⟩ = some x1 ∧ w.cell? ⟨b, 2, none⟩ = some x2 ∧ w.cell? ⟨b, 3, none⟩ = some x3 ∧ w.cell? ⟨b, 4, none⟩ = some x4 ∧ w.cell? ⟨b, 5, none⟩ = some x5 ∧ (∀ o, w.frozen? ⟨b, o, none⟩ = false) ∧ b < w.heap.size := ⟨h.cell 0, h.cell 1, h.cell 2, h.cell 3, h.cell 4, h.cell 5, h.f, h.lt⟩

set_option maxRecDepth 100000 in
set_option maxHeartbeats 3200000 in
theorem sameEntries_true (v v' : Value) (es : List ED) (hlen : es.length ≤ 1000) (w : World) (hv : SliceE (Under w.heap.size) w v es) (hv' : SliceE (Under w.heap.size) w v' es) :
    Calls Try.prog 16 #[v, v'] w fun e w' => e = .returned (.bool true) ∧ Below w.heap.size w w' := by
  have HV : Hid (SliceE (Under w.heap.size) w v es) := hv
  have HV' : Hid (SliceE (Under w.heap.size) w v' es) := hv'
  obtain ⟨va, vc, rfl⟩ := hv.shp
  obtain ⟨ua, uc, rfl⟩ := hv'.shp
  clear hv hv'
  go_enter Try.func16, Try.ntmps16
  go_wp2
  go_loopw [15] (fun i wr => ∃ k : Nat, k ≤ es.length ∧ i = .int .i64 k ∧ Below w.heap.size w wr) (fun i _ => es.length - (intOf i).toNat)
  case atStart => exact ⟨0, Nat.zero_le _, rfl, Below.refl _ _⟩
  case round =>
    obtain ⟨k, hk, rfl, hbr⟩ := hrel
    have hzr := hbr.size
    have HB : Hid (Below w.heap.size w wr) := hbr
    by_cases hlt : k < es.length
    · obtain ⟨b, off, pa, pc, qa, qc, rfl, hS, hn, ⟨c0, c1, c2, c3⟩, c4, c5⟩ := (HV.out.up' hbr).at k hlt
      obtain ⟨b', off', pa', pc', qa', qc', rfl, hS', hn', ⟨d0, d1, d2, d3⟩, d4, d5⟩ := (HV'.out.up' hbr).at k hlt
      obtain ⟨en, hen⟩ : ∃ en, en = es[k] := ⟨_, rfl⟩
      rw [← hen] at c0 c1 c2 c3 c4 c5 d0 d1 d2 d3 d4 d5 hn hn'
      have HN : Hid (NoteIs (Under wr.heap.size) wr (.slice pa en.note.props.length pc, .slice qa en.note.body.length qc) en.note ∧ NoteIs (Under wr.heap.size) wr (.slice pa' en.note.props.length pc', .slice qa' en.note.body.length qc') en.note) := ⟨hn, hn'⟩
      have two : Hid (∀ o1 o2 : Obj, Below wr.heap.size wr ((wr.alloc o1).alloc o2)) := fun o1 o2 => (below_alloc _ _).alloc (by simp) _
      clear hn hn' hen hbr
      have hk1 : (k : Int) < (es.length : Int) := by omega
      have hSl : b < wr.heap.size := hS
      have hSl' : b' < wr.heap.size := hS'
      have hne : wr.heap.size ≠ b' := by omega
      go_wp2_with (go_at_call 57; refine (same_true _ _ _ _ en.note _ ?_ ?_).mono ?_; (exact HN.out.1.sub fun b hb => ⟨Nat.lt_of_lt_of_le hb (two.out _ _).size, (two.out _ _).block b hb⟩); (exact HN.out.2.sub fun b hb => ⟨Nat.lt_of_lt_of_le hb (two.out _ _).size, (two.out _ _).block b hb⟩); rintro e w1 ⟨rfl, hb1⟩; have HB1 : Hid (Below wr.heap.size wr w1) := (two.out _ _).trans (hb1.mono (two.out _ _).size); clear hb1)
      go_roundw
      case rel => exact ⟨k + 1, by omega, by go_num, HB.out.trans (HB1.out.mono hzr)⟩
      case measure => simp [intOf]; omega
    · clear hbr
      go_wp2
      go_ret
      exact ⟨rfl, HB.out⟩
end Go.Proofs.Ytpehkoompadpaaa
