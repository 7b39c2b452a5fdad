/-
  SameQ; RFind; FaceD: texts laid together.
-/
import Derived.Test.YtkddkpdfeeikhaaJShortProofM26
import Derived.Test.YtkddkpdfeeikhaaJShortProofM07
import Derived.Test.YtkddkpdfeeikhaaJShortProofM09
import Derived.Test.YtkddkpdfeeikhaaJShortProofM14
/-
  tgref1.SameQueue answers true where both read the same.
-/
namespace Go.Proofs.Ytkddkpdfeeikhaa
open Go.RowKit
set_option linter.unusedVariables false
set_option linter.unusedSimpArgs false

attribute [local go_sem ↓] Go.wp_at_zero Go.wp_at_succ

theorem SliceI.up {w w' : World} {v : Value} {its : List IT} (h : SliceI (Under w.heap.size) w v its) (hb : Below w.heap.size w w') : SliceI (Under w'.heap.size) w' v its :=
  h.sub fun k hk => ⟨Nat.lt_of_lt_of_le hk hb.size, hb.block k hk⟩

set_option maxRecDepth 100000 in
set_option maxHeartbeats 3200000 in
theorem sameQueue_true (v v' : Value) (name : ByteArray) (limit : Int) (its : List IT) (hlen : its.length ≤ 4194304) (w : World) (hv : SliceI (Under w.heap.size) w v its) (hv' : SliceI (Under w.heap.size) w v' its) :
    Calls Try.prog 45 #[.agg #[.string name, .int .i64 limit, v], .agg #[.string name, .int .i64 limit, v']] w fun e w' => e = .returned (.bool true) ∧ Below w.heap.size w w' := by
  have HV : Hid (SliceI (Under w.heap.size) w v its) := hv
  have HV' : Hid (SliceI (Under w.heap.size) w v' its) := hv'
  obtain ⟨va, vc, rfl⟩ := hv.shp
  obtain ⟨ua, uc, rfl⟩ := hv'.shp
  clear hv hv'
  have two : Hid (∀ o1 o2 : Obj, Below w.heap.size w ((w.alloc o1).alloc o2)) := fun o1 o2 => (below_alloc _ _).alloc (by simp) _
  go_enter Try.func45, Try.ntmps45
  go_wp2
  go_loopw [30] (fun i wr => ∃ k : Nat, k ≤ its.length ∧ i = .int .i64 k ∧ Below w.heap.size w wr ∧ Blk wr w.heap.size [.string name, .int .i64 limit, .slice va its.length vc] ∧ Blk wr (w.heap.size + 1) [.string name, .int .i64 limit, .slice ua its.length uc]) (fun i _ => its.length - (intOf i).toNat)
  case atStart =>
    refine ⟨0, Nat.zero_le _, rfl, two.out _ _, (Blk.new w _ 76).alloc _, ?_⟩
    have := Blk.new (w.alloc (.cells #[.string name, .int .i64 limit, .slice va its.length vc] 76)) [.string name, .int .i64 limit, .slice ua its.length uc] 76
    simpa using this
  case round =>
    obtain ⟨k, hk, rfl, hbr, hk0, hk1⟩ := hrel
    have hzr := hbr.size
    have HB : Hid (Below w.heap.size w wr) := hbr
    have HK : Hid (Blk wr w.heap.size [.string name, .int .i64 limit, .slice va its.length vc] ∧ Blk wr (w.heap.size + 1) [.string name, .int .i64 limit, .slice ua its.length uc]) := ⟨hk0, hk1⟩
    by_cases hlt : k < its.length
    · obtain ⟨a0, a1, a2, a3, a4⟩ := hk0.b3
      obtain ⟨b0, b1, b2, b3, b4⟩ := hk1.b3
      obtain ⟨b, off, pa, pc, qa, qc, rfl, hS, hn, ⟨c0, c1, c2, c3⟩, c4, c5, c6⟩ := (HV.out.up hbr).at k hlt
      obtain ⟨b', off', pa', pc', qa', qc', rfl, hS', hn', ⟨d0, d1, d2, d3⟩, d4, d5, d6⟩ := (HV'.out.up hbr).at k hlt
      have HN : Hid (NoteIs (Under wr.heap.size) wr (.slice pa its[k].note.props.length pc, .slice qa its[k].note.body.length qc) its[k].note ∧ NoteIs (Under wr.heap.size) wr (.slice pa' its[k].note.props.length pc', .slice qa' its[k].note.body.length qc') its[k].note) := ⟨hn, hn'⟩
      obtain ⟨it, hit⟩ : ∃ it, it = its[k] := ⟨_, rfl⟩
      rw [← hit] at c0 c1 c2 c3 c4 c5 c6 d0 d1 d2 d3 d4 d5 d6 HN
      clear hn hn' hit hbr hk0 hk1
      have hk1 : (k : Int) < (its.length : Int) := by omega
      go_wp2_with fail
      go_region_law (first
        | (go_simp; go_at_call 76; refine (sameItem_true it _ _ _ _ _ ?_ ?_).mono ?_; (exact HN.out.1.sub fun b hb => ⟨hb, rfl⟩); (exact HN.out.2.sub fun b hb => ⟨hb, rfl⟩); rintro e w1 ⟨rfl, hb1⟩; have hb1' : Below wr.heap.size wr w1 := ⟨hb1.os, hb1.tape, hb1.output, hb1.size, hb1.block⟩; clear hb1))
      all_goals
        have HB1 : Hid (Below w.heap.size w w1) := HB.out.trans (hb1'.mono hzr)
        have HK1 : Hid (Blk w1 w.heap.size [.string name, .int .i64 limit, .slice (some ⟨b, off, none⟩) its.length vc] ∧ Blk w1 (w.heap.size + 1) [.string name, .int .i64 limit, .slice (some ⟨b', off', none⟩) its.length uc]) := ⟨HK.out.1.below hb1' a4, HK.out.2.below hb1' b4⟩
        clear hb1' a0 a1 a2 a3 b0 b1 b2 b3 c0 c1 c2 c3 c4 c5 c6 d0 d1 d2 d3 d4 d5 d6
        go_wp2
        go_roundw
        case rel => exact ⟨k + 1, by omega, by go_num, HB1.out, HK1.out.1, HK1.out.2⟩
        case measure => simp [intOf]; omega
    · clear hk0 hk1
      go_wp2
      go_ret
      exact ⟨rfl, HB.out⟩
end Go.Proofs.Ytkddkpdfeeikhaa

/-
  tgref1.Find tells the place of a queue.
-/
namespace Go.Proofs.Ytkddkpdfeeikhaa
open Go.RowKit
set_option linter.unusedVariables false
set_option linter.unusedSimpArgs false

attribute [local go_sem ↓] Go.wp_at_zero Go.wp_at_succ

set_option maxRecDepth 100000 in
set_option maxHeartbeats 3200000 in
theorem refFind_any (name : ByteArray) (v : Value) (next : Int) (qs : List QD) (w : World) (h : SliceQ (Under w.heap.size) w v qs) :
    Calls Try.prog 56 #[.agg #[v, .int .i64 next], .string name] w fun e w' => e = .returned (.int .i64 (idxQ name qs)) ∧ Below w.heap.size w w' := by
  have HL : Hid (SliceQ (Under w.heap.size) w v qs) := h
  obtain ⟨va, vc, rfl, h1, h2, h3⟩ := h.shape
  unfold maxLen at h2
  clear h
  go_enter Try.func56, Try.ntmps56
  go_wp2
  go_loopw [10] (fun i wr => ∃ k : Nat, k ≤ qs.length ∧ i = .int .i64 k ∧ Below w.heap.size w wr ∧ ∀ x ∈ qs.take k, nameB name x = false)
    (fun i _ => qs.length - (intOf i).toNat)
  case atStart => exact ⟨0, Nat.zero_le _, rfl, below_alloc _ _, by simp⟩
  case round =>
    obtain ⟨k, hk, rfl, hb, hno⟩ := hrel
    have HN : Hid (∀ x ∈ qs.take k, nameB name x = false) := hno
    have HB : Hid (Below w.heap.size w wr) := hb
    have hzr := hb.size
    clear hno
    by_cases hlt : k < qs.length
    · obtain ⟨b, off, ia, ic, rfl, hS, hq, c0, c1, c2⟩ := (SliceQ.sub (T := Under w.heap.size) HL.out (fun b hb' => ⟨hb', hb.block b hb'⟩)).at k hlt
      clear hq hb
      cases hp : nameB name qs[k]
      · have hp' : (qs[k].name.toList == name.toList) = false := hp
        go_wp2
        go_roundw
        case rel =>
          refine ⟨k + 1, by omega, by go_num, HB.out.alloc (by omega) _, fun x hx => ?_⟩
          rw [List.take_succ_eq_append_getElem hlt, List.mem_append, List.mem_singleton] at hx
          rcases hx with hx | rfl
          · exact HN.out x hx
          · exact hp
        case measure => simp [intOf]; omega
      · have hp' : (qs[k].name.toList == name.toList) = true := hp
        go_wp2
        go_ret
        exact ⟨ret_i64 (idxQ_yes name qs k hlt HN.out hp).symm, HB.out.alloc (by omega) _⟩
    · clear hb
      go_wp2
      go_ret
      refine ⟨ret_i64 (idxQ_no name qs fun x hx => HN.out x ?_).symm, HB.out⟩
      rw [List.take_of_length_le (by omega)]; exact hx
end Go.Proofs.Ytkddkpdfeeikhaa

/-
  hall.Done, hall.Purge.
-/
namespace Go.Proofs.Ytkddkpdfeeikhaa
open Go.RowKit
set_option linter.unusedVariables false
set_option linter.unusedSimpArgs false

attribute [local go_sem ↓] Go.wp_at_zero Go.wp_at_succ

/-- Where a queue lies in a box, another one's memory being new, behind a call from W. -/
structure QBox (P : Nat → Prop) (hb : Nat) (W : World) (g cap : Nat) (L : QuL) (next : Int) (q : QD) (va : Option Addr) (vc : Nat) (qb : Nat) (w1 : World) : Prop where
  bel : Below W.heap.size W w1
  hall : HallIn P hb w1 (.slice (some ⟨g, 0, none⟩) L.length cap) L next
  qblk : Blk w1 qb [.string q.name, .int .i64 q.limit, .slice va q.items.length vc]
  ql : W.heap.size ≤ qb
  items : SliceI (fun b => Made W.heap.size w1.heap.size b ∧ b ≠ qb) w1 (.slice va q.items.length vc) q.items

theorem QBox.new {P : Nat → Prop} {hb : Nat} {W w1 : World} {g cap : Nat} {L : QuL} {next : Int} {q : QD} {va : Option Addr} {vc : Nat} (H : HallIn P hb W (.slice (some ⟨g, 0, none⟩) L.length cap) L next) (h1 : Below W.heap.size W w1) (hI : SliceI (Made W.heap.size w1.heap.size) w1 (.slice va q.items.length vc) q.items) :
    QBox P hb W g cap L next q va vc w1.heap.size (w1.alloc (.cells #[.string q.name, .int .i64 q.limit, .slice va q.items.length vc] 76)) := by
  have h2 := h1.alloc (o := .cells #[.string q.name, .int .i64 q.limit, .slice va q.items.length vc] 76) h1.size
  exact ⟨h2, H.below h2, Blk.new _ _ _, h1.size, hI.sub fun b hb => ⟨⟨⟨hb.1, by have := hb.2; simp; omega⟩, by have := hb.2; omega⟩, Below.heap_alloc _ _ _ hb.2⟩⟩

theorem QBox.drew {P : Nat → Prop} {hb : Nat} {W w1 : World} {g cap : Nat} {L : QuL} {next : Int} {q : QD} {va : Option Addr} {vc qb : Nat} (h : QBox P hb W g cap L next q va vc qb w1) : QBox P hb W g cap L next q va vc qb w1.drew :=
  ⟨h.bel.drew, h.hall.on (Nat.le_refl _) (fun _ _ => rfl), h.qblk, h.ql, h.items.sub fun b hb => ⟨hb, rfl⟩⟩

/-- Behind the store into the row. -/
structure QPut (P : Nat → Prop) (hb : Nat) (W : World) (g cap : Nat) (L : QuL) (k : Nat) (next : Int) (q : QD) (v : Value) (m : Nat) (w2 : World) : Prop where
  keep : Keep (fun b => b < W.heap.size ∧ b ≠ g ∧ b ≠ hb) W w2
  hall : HallIn (fun b => P b ∨ Made W.heap.size m b) hb w2 (.slice (some ⟨g, 0, none⟩) L.length cap) (L.set k (q, v)) next
  mh : m ≤ w2.heap.size
  ml : W.heap.size ≤ m

theorem QBox.put {P : Nat → Prop} {hb : Nat} {W w1 : World} {g cap : Nat} {L : QuL} {next : Int} {q : QD} {va : Option Addr} {vc qb : Nat} (h : QBox P hb W g cap L next q va vc qb w1) (hgl : g < W.heap.size) (hbl : hb < W.heap.size) (hP : ∀ b, P b → b < W.heap.size) (k : Nat) (hk : k < L.length) :
    QPut P hb W g cap L k next q (.slice va q.items.length vc) w1.heap.size (((w1.setCell ⟨g, k * 3, none⟩ (.string q.name)).setCell ⟨g, k * 3 + 1, none⟩ (.int .i64 q.limit)).setCell ⟨g, k * 3 + 2, none⟩ (.slice va q.items.length vc)).drew := by
  obtain ⟨V, hV⟩ : ∃ V, V = (((w1.setCell ⟨g, k * 3, none⟩ (.string q.name)).setCell ⟨g, k * 3 + 1, none⟩ (.int .i64 q.limit)).setCell ⟨g, k * 3 + 2, none⟩ (.slice va q.items.length vc)) := ⟨_, rfl⟩
  have hz : V.heap.size = w1.heap.size := by rw [hV]; simp
  have far : ∀ b, b ≠ g → V.heap[b]? = w1.heap[b]? := fun b hb => by
    rw [hV, Below.heap_setCell _ _ _ _ hb, Below.heap_setCell _ _ _ _ hb, Below.heap_setCell _ _ _ _ hb]
  have hos : V.os = w1.os ∧ V.tape = w1.tape ∧ V.output = w1.output := by rw [hV]; exact ⟨rfl, rfl, rfl⟩
  have hz1 := h.bel.size
  have hH : HallIn (fun b => P b ∨ Made W.heap.size w1.heap.size b) hb V (.slice (some ⟨g, 0, none⟩) L.length cap) (L.set k (q, .slice va q.items.length vc)) next := by
    rw [hV]
    refine HallIn.mono (h.hall.put rfl k hk q _ _ (fun b hb' => ?_) h.items) (fun b hb' => ?_) (fun b hb' => ?_) (fun hb' => ?_)
    · obtain ⟨⟨h1, h2⟩, h3⟩ := hb'
      exact ⟨h2, by omega, by omega⟩
    · rcases hb' with hb' | ⟨h1, h2⟩
      · exact .inl hb'
      · exact .inr h1
    · simp
      rcases hb' with hb' | hb'
      · have := hP b hb'; omega
      · exact hb'.2
    · rcases hb' with hb' | hb'
      · exact h.hall.nb hb'
      · have := hb'.1; omega
  rw [← hV]
  exact ⟨⟨hos.1.trans h.bel.os, hos.2.1.trans h.bel.tape, hos.2.2.trans h.bel.output, by show _ ≤ V.heap.size; omega, fun b hb => (far b hb.2.1).trans (h.bel.block b hb.1)⟩, hH.on (Nat.le_refl _) (fun _ _ => rfl), by show _ ≤ V.heap.size; omega, hz1⟩

end Go.Proofs.Ytkddkpdfeeikhaa
