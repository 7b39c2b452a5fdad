/-
  FaceD; FaceG: texts laid together.
-/
import Derived.Test.YtkddkpdfeeikhaaJTellsProofM11
/-
  hall.Done, hall.Purge.
-/
namespace Go.Proofs.Ytkddkpdfeeikhaa
open Go.RowKit
set_option linter.unusedVariables false
set_option linter.unusedSimpArgs false

attribute [local go_sem ↓] Go.wp_at_zero Go.wp_at_succ

/-- Where a queue lies in a box, another one's memory being new, behind a call from W. -/
structure QBox (P : Nat → Prop) (hb : Nat) (W : World) (g cap : Nat) (L : QuL) (next : Int) (q : QD) (va : Option Addr) (vc : Nat) (qb : Nat) (w1 : World) : Prop where
  bel : Below W.heap.size W w1
  hall : HallIn P hb w1 (.slice (some ⟨g, 0, none⟩) L.length cap) L next
  qblk : Blk w1 qb [.string q.name, .int .i64 q.limit, .slice va q.items.length vc]
  ql : W.heap.size ≤ qb
  items : SliceI (fun b => Made W.heap.size w1.heap.size b ∧ b ≠ qb) w1 (.slice va q.items.length vc) q.items

theorem QBox.new {P : Nat → Prop} {hb : Nat} {W w1 : World} {g cap : Nat} {L : QuL} {next : Int} {q : QD} {va : Option Addr} {vc : Nat} (H : HallIn P hb W (.slice (some ⟨g, 0, none⟩) L.length cap) L next) (h1 : Below W.heap.size W w1) (hI : SliceI (Made W.heap.size w1.heap.size) w1 (.slice va q.items.length vc) q.items) :
    QBox P hb W g cap L next q va vc w1.heap.size (w1.alloc (.cells #[.string q.name, .int .i64 q.limit, .slice va q.items.length vc] 76)) := by
  have h2 := h1.alloc (o := .cells #[.string q.name, .int .i64 q.limit, .slice va q.items.length vc] 76) h1.size
  exact ⟨h2, H.below h2, Blk.new _ _ _, h1.size, hI.sub fun b hb => ⟨⟨⟨hb.1, by have := hb.2; simp; omega⟩, by have := hb.2; omega⟩, Below.heap_alloc _ _ _ hb.2⟩⟩

theorem QBox.drew {P : Nat → Prop} {hb : Nat} {W w1 : World} {g cap : Nat} {L : QuL} {next : Int} {q : QD} {va : Option Addr} {vc qb : Nat} (h : QBox P hb W g cap L next q va vc qb w1) : QBox P hb W g cap L next q va vc qb w1.drew :=
  ⟨h.bel.drew, h.hall.on (Nat.le_refl _) (fun _ _ => rfl), h.qblk, h.ql, h.items.sub fun b hb => ⟨hb, rfl⟩⟩

/-- Behind the store into the row. -/
structure QPut (P : Nat → Prop) (hb : Nat) (W : World) (g cap : Nat) (L : QuL) (k : Nat) (next : Int) (q : QD) (v : Value) (m : Nat) (w2 : World) : Prop where
  keep : Keep (fun b => b < W.heap.size ∧ b ≠ g ∧ b ≠ hb) W w2
  hall : HallIn (fun b => P b ∨ Made W.heap.size m b) hb w2 (.slice (some ⟨g, 0, none⟩) L.length cap) (L.set k (q, v)) next
  mh : m ≤ w2.heap.size
  ml : W.heap.size ≤ m

theorem QBox.put {P : Nat → Prop} {hb : Nat} {W w1 : World} {g cap : Nat} {L : QuL} {next : Int} {q : QD} {va : Option Addr} {vc qb : Nat} (h : QBox P hb W g cap L next q va vc qb w1) (hgl : g < W.heap.size) (hbl : hb < W.heap.size) (hP : ∀ b, P b → b < W.heap.size) (k : Nat) (hk : k < L.length) :
    QPut P hb W g cap L k next q (.slice va q.items.length vc) w1.heap.size (((w1.setCell ⟨g, k * 3, none⟩ (.string q.name)).setCell ⟨g, k * 3 + 1, none⟩ (.int .i64 q.limit)).setCell ⟨g, k * 3 + 2, none⟩ (.slice va q.items.length vc)).drew := by
  obtain ⟨V, hV⟩ : ∃ V, V = (((w1.setCell ⟨g, k * 3, none⟩ (.string q.name)).setCell ⟨g, k * 3 + 1, none⟩ (.int .i64 q.limit)).setCell ⟨g, k * 3 + 2, none⟩ (.slice va q.items.length vc)) := ⟨_, rfl⟩
  have hz : V.heap.size = w1.heap.size := by rw [hV]; simp
  have far : ∀ b, b ≠ g → V.heap[b]? = w1.heap[b]? := fun b hb => by
    rw [hV, Below.heap_setCell _ _ _ _ hb, Below.heap_setCell _ _ _ _ hb, Below.heap_setCell _ _ _ _ hb]
  have hos : V.os = w1.os ∧ V.tape = w1.tape ∧ V.output = w1.output := by rw [hV]; exact ⟨rfl, rfl, rfl⟩
  have hz1 := h.bel.size
  have hH : HallIn (fun b => P b ∨ Made W.heap.size w1.heap.size b) hb V (.slice (some ⟨g, 0, none⟩) L.length cap) (L.set k (q, .slice va q.items.length vc)) next := by
    rw [hV]
    refine HallIn.mono (h.hall.put rfl k hk q _ _ (fun b hb' => ?_) h.items) (fun b hb' => ?_) (fun b hb' => ?_) (fun hb' => ?_)
    · obtain ⟨⟨h1, h2⟩, h3⟩ := hb'
      exact ⟨h2, by omega, by omega⟩
    · rcases hb' with hb' | ⟨h1, h2⟩
      · exact .inl hb'
      · exact .inr h1
    · simp
      rcases hb' with hb' | hb'
      · have := hP b hb'; omega
      · exact hb'.2
    · rcases hb' with hb' | hb'
      · exact h.hall.nb hb'
      · have := hb'.1; omega
  rw [← hV]
  exact ⟨⟨hos.1.trans h.bel.os, hos.2.1.trans h.bel.tape, hos.2.2.trans h.bel.output, by show _ ≤ V.heap.size; omega, fun b hb => (far b hb.2.1).trans (h.bel.block b hb.1)⟩, hH.on (Nat.le_refl _) (fun _ _ => rfl), by show _ ≤ V.heap.size; omega, hz1⟩

/-- The end of a closure that puts a queue, and tells entries of its own. -/
theorem QPut.told {P G : Nat → Prop} {hb B : Nat} {W w2 w3 : World} {g cap : Nat} {L : QuL} {k : Nat} {h : HD} {q : QD} {v ev : Value} {m : Nat} {es : List ED} (H : QPut P hb W g cap L k h.next q v m w2) (e : L.map Prod.fst = h.queues) (hP : ∀ b, P b → B ≤ b) (hg : P g) (hbB : B ≤ hb) (hB : B ≤ W.heap.size) (h3 : Below w2.heap.size w2 w3) (hE : SliceE (Made w2.heap.size w3.heap.size) w3 ev es) :
    ∃ ea en ec, ev = .slice ea en ec ∧ (∃ va vn vc, Blk w3 hb [.slice va vn vc, .int .i64 (h.setQ k q).next] ∧ SliceQ (fun b => B ≤ b ∧ b < w3.heap.size) w3 (.slice va vn vc) (h.setQ k q).queues ∧ SliceE (fun b => B ≤ b ∧ b < w3.heap.size) w3 (.slice ea en ec) es) ∧ Keep (fun b => b < B ∧ ¬ G b) W w3 := by
  have hz := H.keep.size
  have h3z := h3.size
  have mh := H.mh
  have ml := H.ml
  refine in_alter (P := P) ⟨L.set k (q, v), fun b => P b ∨ Made W.heap.size m b, ?_, fun b hb' => .inl hb', fun b hb' => ?_, H.hall.below h3, hE.sub fun b hb' => ⟨⟨⟨by have := hb'.1; omega, hb'.2⟩, fun hp => ?_⟩, rfl⟩, ⟨h3.os.trans H.keep.os, h3.tape.trans H.keep.tape, h3.output.trans H.keep.output, by omega, fun b hb' => (h3.block b (by omega)).trans (H.keep.block b ⟨hb'.1, fun e' => hb'.2.1 (by rw [e']; rfl), hb'.2.2⟩)⟩⟩ hP hg hbB hB
  · rw [List.map_set, e]; rfl
  · rcases hb' with hb' | hb'
    · exact .inl hb'
    · exact .inr ⟨hb'.1, by have := hb'.2; omega⟩
  · have := H.hall.lt b hp
    have := hb'.1
    omega

end Go.Proofs.Ytkddkpdfeeikhaa

/-
  hall.Done.
-/
namespace Go.Proofs.Ytkddkpdfeeikhaa
open Go.RowKit
set_option linter.unusedVariables false
set_option linter.unusedSimpArgs false

attribute [local go_sem ↓] Go.wp_at_zero Go.wp_at_succ

theorem InAns.same {P G : Nat → Prop} {hb B : Nat} {W w3 : World} {g cap : Nat} {L : QuL} {h : HD} (H : HallIn P hb W (.slice (some ⟨g, 0, Option.none⟩) L.length cap) L h.next) (e : L.map Prod.fst = h.queues) (hP : ∀ b, P b → B ≤ b) (hbB : B ≤ hb) (hB : B ≤ W.heap.size) (h3 : Below W.heap.size W w3) :
    Keep (fun b => b < B ∧ ¬ G b) W w3 := Keep.of h3 fun k hk => by have := hk.1; omega

end Go.Proofs.Ytkddkpdfeeikhaa
