/-
  SameQ; RFind; FaceD: texts laid together.
-/
import Derived.Test.YtkddkpdfeeikhaaJShortProofM26
import Derived.Test.YtkddkpdfeeikhaaJShortProofM07
import Derived.Test.YtkddkpdfeeikhaaJShortProofM09
import Derived.Test.YtkddkpdfeeikhaaJShortProofM14
/-
  tgref1.SameQueue answers true where both read the same.
-/
namespace Go.Proofs.Ytkddkpdfeeikhaa
open Go.RowKit
set_option linter.unusedVariables false
set_option linter.unusedSimpArgs false

attribute [local go_sem ↓] Go.wp_at_zero Go.wp_at_succ

theorem SliceI.up {w w' : World} {v : Value} {its : List IT} (h : SliceI (Under w.heap.size) w v its) (hb : Below w.heap.size w w') : SliceI (Under w'.heap.size) w' v its :=
  h.sub fun k hk => ⟨Nat.lt_of_lt_of_le hk hb.size, hb.block k hk⟩

set_option maxRecDepth 100000 in
set_option maxHeartbeats 3200000 in
theorem sameQueue_true (v v' : Value) (name : ByteArray) (limit : Int) (its : List IT) (hlen : its.length ≤ 4194304) (w : World) (hv : SliceI (Under w.heap.size) w v its) (hv' : SliceI (Under w.heap.size) w v' its) :
    Calls Try.prog 45 #[.agg #[.string name, .int .i64 limit, v], .agg #[.string name, .int .i64 limit, v']] w fun e w' => e = .returned (.bool true) ∧ Below w.heap.size w w' := by
  have HV : Hid (SliceI (Under w.heap.size) w v its) := hv
  have HV' : Hid (SliceI (Under w.heap.size) w v' its) := hv'
  obtain ⟨va, vc, rfl⟩ := hv.shp
  obtain ⟨ua, uc, rfl⟩ := hv'.shp
  clear hv hv'
  have two : Hid (∀ o1 o2 : Obj, Below w.heap.size w ((w.alloc o1).alloc o2)) := fun o1 o2 => (below_alloc _ _).alloc (by simp) _
  go_enter Try.func45, Try.ntmps45
  go_wp2
  go_loopw [30] (fun i wr => ∃ k : Nat, k ≤ its.length ∧ i = .int .i64 k ∧ Below w.heap.size w wr ∧ Blk wr w.heap.size [.string name, .int .i64 limit, .slice va its.length vc] ∧ Blk wr (w.heap.size + 1) [.string name, .int .i64 limit, .slice ua its.length uc]) (fun i _ => its.length - (intOf i).toNat)
  case atStart =>
    refine ⟨0, Nat.zero_le _, rfl, two.out _ _, (Blk.new w _ 76).alloc _, ?_⟩
    have := Blk.new (w.alloc (.cells #[.string name, .int .i64 limit, .slice va its.length vc] 76)) [.string name, .int .i64 limit, .slice ua its.length uc] 76
    simpa using this
  case round =>
    obtain ⟨k, hk, rfl, hbr, hk0, hk1⟩ := hrel
    have hzr := hbr.size
    have HB : Hid (Below w.heap.size w wr) := hbr
    have HK : Hid (Blk wr w.heap.size [.string name, .int .i64 limit, .slice va its.length vc] ∧ Blk wr (w.heap.size + 1) [.string name, .int .i64 limit, .slice ua its.length uc]) := ⟨hk0, hk1⟩
    by_cases hlt : k < its.length
    · obtain ⟨a0, a1, a2, a3, a4⟩ := hk0.b3
      obtain ⟨b0, b1, b2, b3, b4⟩ := hk1.b3
      obtain ⟨b, off, pa, pc, qa, qc, rfl, hS, hn, ⟨c0, c1, c2, c3⟩, c4, c5, c6⟩ := (HV.out.up hbr).at k hlt
      obtain ⟨b', off', pa', pc', qa', qc', rfl, hS', hn', ⟨d0, d1, d2, d3⟩, d4, d5, d6⟩ := (HV'.out.up hbr).at k hlt
      have HN : Hid (NoteIs (Under wr.heap.size) wr (.slice pa its[k].note.props.length pc, .slice qa its[k].note.body.length qc) its[k].note ∧ NoteIs (Under wr.heap.size) wr (.slice pa' its[k].note.props.length pc', .slice qa' its[k].note.body.length qc') its[k].note) := ⟨hn, hn'⟩
      obtain ⟨it, hit⟩ : ∃ it, it = its[k] := ⟨_, rfl⟩
      rw [← hit] at c0 c1 c2 c3 c4 c5 c6 d0 d1 d2 d3 d4 d5 d6 HN
      clear hn hn' hit hbr hk0 hk1
      have hk1 : (k : Int) < (its.length : Int) := by omega
      go_wp2_with fail
      go_region_law (first
        | (go_simp; go_at_call 76; refine (sameItem_true it _ _ _ _ _ ?_ ?_).mono ?_; (exact HN.out.1.sub fun b hb => ⟨hb, rfl⟩); (exact HN.out.2.sub fun b hb => ⟨hb, rfl⟩); rintro e w1 ⟨rfl, hb1⟩; have hb1' : Below wr.heap.size wr w1 := ⟨hb1.os, hb1.tape, hb1.output, hb1.size, hb1.block⟩; clear hb1))
      all_goals
        have HB1 : Hid (Below w.heap.size w w1) := HB.out.trans (hb1'.mono hzr)
        have HK1 : Hid (Blk w1 w.heap.size [.string name, .int .i64 limit, .slice (some ⟨b, off, none⟩) its.length vc] ∧ Blk w1 (w.heap.size + 1) [.string name, .int .i64 limit, .slice (some ⟨b', off', none⟩) its.length uc]) := ⟨HK.out.1.below hb1' a4, HK.out.2.below hb1' b4⟩
        clear hb1' a0 a1 a2 a3 b0 b1 b2 b3 c0 c1 c2 c3 c4 c5 c6 d0 d1 d2 d3 d4 d5 d6
        go_wp2
        go_roundw
        case rel => exact ⟨k + 1, by omega, by go_num, HB1.out, HK1.out.1, HK1.out.2⟩
        case measure => simp [intOf]; omega
    · clear hk0 hk1
      go_wp2
      go_ret
      exact ⟨rfl, HB.out⟩
end Go.Proofs.Ytkddkpdfeeikhaa

/-
  tgref1.Find tells the place of a queue.
-/
namespace Go.Proofs.Ytkddkpdfeeikhaa
open Go.RowKit
set_option linter.unusedVariables false
set_option linter.unusedSimpArgs false

attribute [local go_sem ↓] Go.wp_at_zero Go.wp_at_succ

set_option maxRecDepth 100000 in
set_option maxHeartbeats 3200000 in
theorem refFind_any (name : ByteArray) (v : Value) (next : Int) (qs : List QD) (w : World) (h : SliceQ (Under w.heap.size) w v qs) :
    Calls Try.prog 56 #[.agg #[v, .int .i64 next], .string name] w fun e w' => e = .returned (.int .i64 (idxQ name qs)) ∧ Below w.heap.size w w' := by
  have HL : Hid (SliceQ (Under w.heap.size) w v qs) := h
  obtain ⟨va, vc, rfl, h1, h2, h3⟩ := h.shape
  unfold maxLen at h2
  clear h
  go_enter Try.func56, Try.ntmps56
  go_wp2
  go_loopw [10] (fun i wr => ∃ k : Nat, k ≤ qs.length ∧ i = .int .i64 k ∧ Below w.heap.size w wr ∧ ∀ x ∈ qs.take k, nameB name x = false)
    (fun i _ => qs.length - (intOf i).toNat)
  case atStart => exact ⟨0, Nat.zero_le _, rfl, below_alloc _ _, by simp⟩
  case round =>
    obtain ⟨k, hk, rfl, hb, hno⟩ := hrel
    have HN : Hid (∀ x ∈ qs.take k, nameB name x = false) := hno
    have HB : Hid (Below w.heap.size w wr) := hb
    have hzr := hb.size
    clear hno
    by_cases hlt : k < qs.length
    · obtain ⟨b, off, ia, ic, rfl, hS, hq, c0, c1, c2⟩ := (SliceQ.sub (T := Under w.heap.size) HL.out (fun b hb' => ⟨hb', hb.block b hb'⟩)).at k hlt
      clear hq hb
      cases hp : nameB name qs[k]
      · have hp' : (qs[k].name.toList == name.toList) = false := hp
        go_wp2
        go_roundw
        case rel =>
          refine ⟨k + 1, by omega, by go_num, HB.out.alloc (by omega) _, fun x hx => ?_⟩
          rw [List.take_succ_eq_append_getElem hlt, List.mem_append, List.mem_singleton] at hx
          rcases hx with hx | rfl
          · exact HN.out x hx
          · exact hp
        case measure => simp [intOf]; omega
      · have hp' : (qs[k].name.toList == name.toList) = true := hp
        go_wp2
        go_ret
        exact ⟨ret_i64 (idxQ_yes name qs k hlt HN.out hp).symm, HB.out.alloc (by omega) _⟩
    · clear hb
      go_wp2
      go_ret
      refine ⟨ret_i64 (idxQ_no name qs fun x hx => HN.out x ?_).symm, HB.out⟩
      rw [List.take_of_length_le (by omega)]; exact hx
end Go.Proofs.Ytkddkpdfeeikhaa

/-
  hall.Done, hall.Purge.
-/
namespace Go.Proofs.Ytkddkpdfeeikhaa
open Go.RowKit
set_option linter.unusedVariables false
set_option linter.unusedSimpArgs false

attribute [local go_sem ↓] Go.wp_at_zero Go.wp_at_succ

/-- Done, at a place. -/
def doneF (h : HD) (k : Nat) (q : QD) (id turn : Int) : HD × List ED × Int :=
  match q.items.findIdx? (givenB id turn) with
  | none => (h, [], 6)
  | some i => (h.setQ k ⟨q.name, q.limit, q.items.eraseIdx i⟩, [goneE q.name id], 0)
theorem doneF_none {h : HD} {k : Nat} {q : QD} {id turn : Int} (hi : idxI (givenB id turn) q.items = -1) : doneF h k q id turn = (h, [], 6) := by
  unfold doneF; rw [idxI_none' hi]
theorem doneF_some {h : HD} {k : Nat} {q : QD} {id turn : Int} {i : Nat} (hi : idxI (givenB id turn) q.items = (i : Int)) : doneF h k q id turn = (h.setQ k ⟨q.name, q.limit, q.items.eraseIdx i⟩, [goneE q.name id], 0) := by
  unfold doneF; rw [idxI_some hi]
/-- Purge, at a place. -/
def purgeF (h : HD) (k : Nat) (q : QD) : HD × List ED × Int := (h.setQ k ⟨q.name, q.limit, q.items.filter IT.out⟩, (goneL q.items).map (goneE q.name), 0)

theorem enter70 (args : Array Value) (W : World) : (callFunc 156 args).run Try.prog W = .ok (.enter 156 args) W := by go_simp
theorem enter76 (args : Array Value) (W : World) : (callFunc 145 args).run Try.prog W = .ok (.enter 145 args) W := by go_simp

/-- Where a queue lies in a box, another one's memory being new, behind a call from W. -/
structure QBox (P : Nat → Prop) (hb : Nat) (W : World) (g cap : Nat) (L : QuL) (next : Int) (q : QD) (va : Option Addr) (vc : Nat) (qb : Nat) (w1 : World) : Prop where
  bel : Below W.heap.size W w1
  hall : HallIn P hb w1 (.slice (some ⟨g, 0, none⟩) L.length cap) L next
  qblk : Blk w1 qb [.string q.name, .int .i64 q.limit, .slice va q.items.length vc]
  ql : W.heap.size ≤ qb
  items : SliceI (fun b => Made W.heap.size w1.heap.size b ∧ b ≠ qb) w1 (.slice va q.items.length vc) q.items

theorem QBox.new {P : Nat → Prop} {hb : Nat} {W w1 : World} {g cap : Nat} {L : QuL} {next : Int} {q : QD} {va : Option Addr} {vc : Nat} (H : HallIn P hb W (.slice (some ⟨g, 0, none⟩) L.length cap) L next) (h1 : Below W.heap.size W w1) (hI : SliceI (Made W.heap.size w1.heap.size) w1 (.slice va q.items.length vc) q.items) :
    QBox P hb W g cap L next q va vc w1.heap.size (w1.alloc (.cells #[.string q.name, .int .i64 q.limit, .slice va q.items.length vc] 76)) := by
  have h2 := h1.alloc (o := .cells #[.string q.name, .int .i64 q.limit, .slice va q.items.length vc] 76) h1.size
  exact ⟨h2, H.below h2, Blk.new _ _ _, h1.size, hI.sub fun b hb => ⟨⟨⟨hb.1, by have := hb.2; simp; omega⟩, by have := hb.2; omega⟩, Below.heap_alloc _ _ _ hb.2⟩⟩

theorem QBox.here {P : Nat → Prop} {hb : Nat} {W w1 : World} {g cap : Nat} {L : QuL} {next : Int} {q : QD} {va : Option Addr} {vc : Nat} (H : HallIn P hb W (.slice (some ⟨g, 0, none⟩) L.length cap) L next) (h1 : Below W.heap.size W w1) (hq : Blk w1 W.heap.size [.string ⟨#[]⟩, .int .i64 0, .slice none 0 0]) (hI : SliceI (Made (W.heap.size + 1) w1.heap.size) w1 (.slice va q.items.length vc) q.items) :
    QBox P hb W g cap L next q va vc W.heap.size (((w1.setCell ⟨W.heap.size, 0, none⟩ (.string q.name)).setCell ⟨W.heap.size, 1, none⟩ (.int .i64 q.limit)).setCell ⟨W.heap.size, 2, none⟩ (.slice va q.items.length vc)) := by
  have h2 : Below W.heap.size W (((w1.setCell ⟨W.heap.size, 0, none⟩ (.string q.name)).setCell ⟨W.heap.size, 1, none⟩ (.int .i64 q.limit)).setCell ⟨W.heap.size, 2, none⟩ (.slice va q.items.length vc)) := ((h1.setCell (by simp) _).setCell (by simp) _).setCell (by simp) _
  refine ⟨h2, H.below h2, ((hq.set 0 _).set 1 _).set 2 _, Nat.le_refl _, hI.sub fun b hb => ⟨⟨⟨by have := hb.1; omega, by have := hb.2; simpa using this⟩, by have := hb.1; omega⟩, ?_⟩⟩
  have hne : b ≠ W.heap.size := by have := hb.1; omega
  rw [Below.heap_setCell _ _ _ _ hne, Below.heap_setCell _ _ _ _ hne, Below.heap_setCell _ _ _ _ hne]

theorem QBox.drew {P : Nat → Prop} {hb : Nat} {W w1 : World} {g cap : Nat} {L : QuL} {next : Int} {q : QD} {va : Option Addr} {vc qb : Nat} (h : QBox P hb W g cap L next q va vc qb w1) : QBox P hb W g cap L next q va vc qb w1.drew :=
  ⟨h.bel.drew, h.hall.on (Nat.le_refl _) (fun _ _ => rfl), h.qblk, h.ql, h.items.sub fun b hb => ⟨hb, rfl⟩⟩

/-- Behind the store into the row. -/
structure QPut (P : Nat → Prop) (hb : Nat) (W : World) (g cap : Nat) (L : QuL) (k : Nat) (next : Int) (q : QD) (v : Value) (m : Nat) (w2 : World) : Prop where
  keep : Keep (fun b => b < W.heap.size ∧ b ≠ g ∧ b ≠ hb) W w2
  hall : HallIn (fun b => P b ∨ Made W.heap.size m b) hb w2 (.slice (some ⟨g, 0, none⟩) L.length cap) (L.set k (q, v)) next
  mh : m ≤ w2.heap.size
  ml : W.heap.size ≤ m

theorem QBox.put {P : Nat → Prop} {hb : Nat} {W w1 : World} {g cap : Nat} {L : QuL} {next : Int} {q : QD} {va : Option Addr} {vc qb : Nat} (h : QBox P hb W g cap L next q va vc qb w1) (hgl : g < W.heap.size) (hbl : hb < W.heap.size) (hP : ∀ b, P b → b < W.heap.size) (k : Nat) (hk : k < L.length) :
    QPut P hb W g cap L k next q (.slice va q.items.length vc) w1.heap.size (((w1.setCell ⟨g, k * 3, none⟩ (.string q.name)).setCell ⟨g, k * 3 + 1, none⟩ (.int .i64 q.limit)).setCell ⟨g, k * 3 + 2, none⟩ (.slice va q.items.length vc)).drew := by
  obtain ⟨V, hV⟩ : ∃ V, V = (((w1.setCell ⟨g, k * 3, none⟩ (.string q.name)).setCell ⟨g, k * 3 + 1, none⟩ (.int .i64 q.limit)).setCell ⟨g, k * 3 + 2, none⟩ (.slice va q.items.length vc)) := ⟨_, rfl⟩
  have hz : V.heap.size = w1.heap.size := by rw [hV]; simp
  have far : ∀ b, b ≠ g → V.heap[b]? = w1.heap[b]? := fun b hb => by
    rw [hV, Below.heap_setCell _ _ _ _ hb, Below.heap_setCell _ _ _ _ hb, Below.heap_setCell _ _ _ _ hb]
  have hos : V.os = w1.os ∧ V.tape = w1.tape ∧ V.output = w1.output := by rw [hV]; exact ⟨rfl, rfl, rfl⟩
  have hz1 := h.bel.size
  have hH : HallIn (fun b => P b ∨ Made W.heap.size w1.heap.size b) hb V (.slice (some ⟨g, 0, none⟩) L.length cap) (L.set k (q, .slice va q.items.length vc)) next := by
    rw [hV]
    refine HallIn.mono (h.hall.put rfl k hk q _ _ (fun b hb' => ?_) h.items) (fun b hb' => ?_) (fun b hb' => ?_) (fun hb' => ?_)
    · obtain ⟨⟨h1, h2⟩, h3⟩ := hb'
      exact ⟨h2, by omega, by omega⟩
    · rcases hb' with hb' | ⟨h1, h2⟩
      · exact .inl hb'
      · exact .inr h1
    · simp
      rcases hb' with hb' | hb'
      · have := hP b hb'; omega
      · exact hb'.2
    · rcases hb' with hb' | hb'
      · exact h.hall.nb hb'
      · have := hb'.1; omega
  rw [← hV]
  exact ⟨⟨hos.1.trans h.bel.os, hos.2.1.trans h.bel.tape, hos.2.2.trans h.bel.output, by show _ ≤ V.heap.size; omega, fun b hb => (far b hb.2.1).trans (h.bel.block b hb.1)⟩, hH.on (Nat.le_refl _) (fun _ _ => rfl), by show _ ≤ V.heap.size; omega, hz1⟩

/-- The end of a closure that puts a queue, and tells entries of its own. -/
theorem QPut.told {P G : Nat → Prop} {hb B : Nat} {W w2 w3 : World} {g cap : Nat} {L : QuL} {k : Nat} {h : HD} {q : QD} {v ev : Value} {m : Nat} {es : List ED} (H : QPut P hb W g cap L k h.next q v m w2) (e : L.map Prod.fst = h.queues) (hP : ∀ b, P b → B ≤ b) (hg : P g) (hbB : B ≤ hb) (hB : B ≤ W.heap.size) (h3 : Below w2.heap.size w2 w3) (hE : SliceE (Made w2.heap.size w3.heap.size) w3 ev es) :
    ∃ ea en ec, ev = .slice ea en ec ∧ (∃ va vn vc, Blk w3 hb [.slice va vn vc, .int .i64 (h.setQ k q).next] ∧ SliceQ (fun b => B ≤ b ∧ b < w3.heap.size) w3 (.slice va vn vc) (h.setQ k q).queues ∧ SliceE (fun b => B ≤ b ∧ b < w3.heap.size) w3 (.slice ea en ec) es) ∧ Keep (fun b => b < B ∧ ¬ G b) W w3 := by
  have hz := H.keep.size
  have h3z := h3.size
  have mh := H.mh
  have ml := H.ml
  refine in_alter (P := P) ⟨L.set k (q, v), fun b => P b ∨ Made W.heap.size m b, ?_, fun b hb' => .inl hb', fun b hb' => ?_, H.hall.below h3, hE.sub fun b hb' => ⟨⟨⟨by have := hb'.1; omega, hb'.2⟩, fun hp => ?_⟩, rfl⟩, ⟨h3.os.trans H.keep.os, h3.tape.trans H.keep.tape, h3.output.trans H.keep.output, by omega, fun b hb' => (h3.block b (by omega)).trans (H.keep.block b ⟨hb'.1, fun e' => hb'.2.1 (by rw [e']; rfl), hb'.2.2⟩)⟩⟩ hP hg hbB hB
  · rw [List.map_set, e]; rfl
  · rcases hb' with hb' | hb'
    · exact .inl hb'
    · exact .inr ⟨hb'.1, by have := hb'.2; omega⟩
  · have := H.hall.lt b hp
    have := hb'.1
    omega

set_option maxRecDepth 100000 in
set_option maxHeartbeats 3200000 in
theorem purge_alters (w : World) (nb : Nat) (name : ByteArray) (hb : Blk w nb [.string name]) (h : HD) (k : Nat) (hk : k < h.queues.length) (hnm : h.queues[k].name = name) (hsm : smallQ h.queues) :
    Alters w (fun _ => False) 145 [.pointer (some ⟨nb, 0, none⟩)] h k (purgeF h k h.queues[k]) (fun _ _ => True) := by
  refine ⟨enter76, fun _ _ _ _ _ _ => trivial, fun B P hb' W g cap L hH e hP hbB hwB hW => ?_⟩
  have HH : Hid (HallIn P hb' W (.slice (some ⟨g, 0, none⟩) L.length cap) L h.next) := hH
  have hkL : k < L.length := by rw [← e] at hk; simpa using hk
  have hq : h.queues[k] = (L[k]'hkL).1 := by simp [← e]
  have hsk := smallQ_at hsm hk
  obtain ⟨c0, c1, c2⟩ := (hb.below hW hb.lt).b1
  have HNB : Hid (Blk W nb [.string name]) := hb.below hW hb.lt
  obtain ⟨ia, ic, -, hI, y0, y1, y2⟩ := hH.at k hkL
  obtain ⟨b0, b1, b2, b3⟩ := hH.box.b2
  obtain ⟨hgl, hgb, hbl, hgP⟩ := hH.gl
  have hlL : L.length ≤ 4194304 := by have := congrArg List.length e; have h1 := hsm.1; simp at this; omega
  rw [← hq] at y0 y1 y2 hI
  obtain ⟨q, hqq⟩ : ∃ q, q = h.queues[k] := ⟨_, rfl⟩
  rw [← hqq] at y0 y1 y2 hI hsk hnm ⊢
  have HI : Hid (SliceI (Under W.heap.size) W (.slice ia q.items.length ic) q.items) := hI.sub fun b hb => ⟨hH.lt b hb.1, rfl⟩
  have HX : Hid (smallI q.items ∧ L.map Prod.fst = h.queues ∧ (∀ b, P b → B ≤ b) ∧ (∀ b, P b → b < W.heap.size)) := ⟨hsk, e, hP, hH.lt⟩
  have hgf := hH.f
  have hWz := hW.size
  have HNM : Hid (q.name = name) := hnm
  have hnbl := hb.lt
  have hgB := hP g hgP
  clear hH e hP hsm hb hW hI hsk hq hqq hnm
  obtain ⟨its', hits⟩ : ∃ its', its' = q.items.filter IT.out := ⟨_, rfl⟩
  obtain ⟨ids, hids⟩ : ∃ ids, ids = goneL q.items := ⟨_, rfl⟩
  have HIT : Hid (its' = q.items.filter IT.out ∧ ids = goneL q.items) := ⟨hits, hids⟩
  have hidl : ids.length ≤ 4194304 := by rw [hids]; have := goneL_len q.items; have := HX.out.1.1; omega
  clear hits hids
  go_enter Try.func145, Try.ntmps145
  go_upto_region 2 with (go_at_call 146; refine (purge_new _ q.name q.limit q.items _ HI.out HX.out.1).mono ?_; rw [← HIT.out.1, ← HIT.out.2]; rintro r w1 ⟨v1, u1, rfl, hv1, hu1, hb1⟩; obtain ⟨va, vc, rfl⟩ := hv1.shp; obtain ⟨ua, uc, rfl, -⟩ := hu1.shape; have HQ1 : Hid (QBox P hb' W g cap L h.next ⟨q.name, q.limit, its'⟩ va vc w1.heap.size (w1.alloc (.cells #[.string q.name, .int .i64 q.limit, .slice va its'.length vc] 76))) := QBox.new (q := ⟨q.name, q.limit, its'⟩) HH.out hb1 hv1; have HU1 : Hid (SliceV (Made W.heap.size w1.heap.size) w1 (.slice ua ids.length uc) ids.length (ints ids)) := hu1; have hz1 := hb1.size; clear hv1 hu1 hb1)
  obtain ⟨W2, hW2⟩ : ∃ W2, W2 = w1.alloc (.cells #[.string q.name, .int .i64 q.limit, .slice va its'.length vc] 76) := ⟨_, rfl⟩
  have HU2 : Hid (SliceV (Made W.heap.size w1.heap.size) W2 (.slice ua ids.length uc) ids.length (ints ids)) := by rw [hW2]; exact HU1.out.sub fun b hb => ⟨hb, Below.heap_alloc _ _ _ hb.2⟩
  rw [← hW2] at HQ1
  rw [← hW2]
  clear hW2 y0 y1 y2 b0 b1 b2 c0 c1 hgf HU1
  obtain ⟨q0, q1, q2, q3, q4⟩ := HQ1.out.qblk.b3
  obtain ⟨h0, h1, h2, h3⟩ := HQ1.out.hall.box.b2
  obtain ⟨ja, jc, -, -, y0, y1, y2⟩ := HQ1.out.hall.at k hkL
  have hgf := HQ1.out.hall.f
  have hgw := HQ1.out.hall.gl.1
  go_cut [] (fun wx => QPut P hb' W g cap L k h.next ⟨q.name, q.limit, its'⟩ (.slice va its'.length vc) W2.heap.size wx ∧ (∀ b, b ≠ g → wx.heap[b]? = W2.heap[b]?))
  case first =>
    go_region_law (fail)
    all_goals
      go_wp2_with fail
      go_meet
      refine ⟨HQ1.out.put hgl hbl HX.out.2.2.2 k hkL, fun b hb => ?_⟩
      exact (Below.heap_setCell _ _ _ _ hb).trans ((Below.heap_setCell _ _ _ _ hb).trans (Below.heap_setCell _ _ _ _ hb))
  case rest =>
    obtain ⟨hc1, hc2⟩ := hcut
    have HC : Hid (QPut P hb' W g cap L k h.next ⟨q.name, q.limit, its'⟩ (.slice va its'.length vc) W2.heap.size wc) := hc1
    have HU3 : Hid (SliceV (Under wc.heap.size) wc (.slice ua ids.length uc) ids.length (ints ids)) := HU2.out.sub fun b hb => ⟨by show b < _; have := hb.2; have := hc1.mh; have := q4; omega, hc2 b (by have := hb.1; omega)⟩
    have hnc := HNB.out.same (Eq.trans (hc2 nb (by omega)) (HQ1.out.bel.block nb HNB.out.lt))
    obtain ⟨c0, c1, c2⟩ := hnc.b1
    clear hc1 hc2 hnc q0 q1 q2 q3 h0 h1 h2 y0 y1 y2 hgf
    go_wp2_with (go_at_call 147; refine (gone_any name _ ids hidl _ HU3.out).mono ?_; rintro r w3 ⟨ev, rfl, ho3, hb3⟩; obtain ⟨ea, en, ec, rfl, hA1, hA2⟩ := HC.out.told (G := fun _ => False) HX.out.2.1 HX.out.2.2.1 hgP hbB (by omega) hb3 ho3.slice; have HA : Hid _ := And.intro hA1 hA2; clear hA1 hA2 ho3 hb3)
    refine bodyPost_ret (v := .tuple #[.slice ea en ec, .int .i64 0]) (by simp [results, Try.results145, go_sem, *]; done) rfl ⟨ea, en, ec, rfl, fun _ => ?_, trivial, HA.out.2⟩
    have h1 := HA.out.1
    rw [HIT.out.1, HIT.out.2, ← HNM.out] at h1
    exact h1

set_option maxRecDepth 100000 in
set_option maxHeartbeats 1000000 in
theorem hallPurge_any (v : Value) (h : HD) (name : ByteArray) (w : World) (hv : SliceQ (Under w.heap.size) w v h.queues) (hsm : smallQ h.queues) :
    Calls Try.prog 126 #[.agg #[v, .int .i64 h.next], .string name] w fun e w' => AnsH (faceF h name (fun k q => purgeF h k q)) w e w' ∧ Below w.heap.size w w' := by
  have HV : Hid (SliceQ (Under w.heap.size) w v h.queues) := hv
  have HX : Hid (smallQ h.queues) := hsm
  obtain ⟨va, vc, rfl⟩ := hv.shp
  clear hv hsm
  have three : Hid (∀ o1 o2 o3 : Obj, Below w.heap.size w (((w.alloc o1).alloc o2).alloc o3)) := fun o1 o2 o3 => ((below_alloc _ _).alloc (by simp) _).alloc (by simp; omega) _
  go_enter Try.func126, Try.ntmps126
  go_wp2_with (go_at_call 131; refine (changed_face 145 [.pointer (some ⟨w.heap.size + 1, 0, none⟩)] _ name h (fun k q => purgeF h k q) _ (HV.out.sub fun k hk => ⟨?_, (three.out _ _ _).block k hk⟩) HX.out (fun k hk hn => purge_alters _ _ name ?_ h k hk hn HX.out)).mono ?_; (simp [Under] at hk ⊢; omega); (have := (Blk.new (w.alloc (.cells #[.slice va h.queues.length vc, .int .i64 h.next] 24)) [.string name] 9).alloc (.cells #[.slice none 0 0, .int .i64 0] 24); simpa using this); rintro e w1 ⟨⟨va1, vc1, ea1, ec1, rfl, hQ1, hE1⟩, hb1⟩; obtain ⟨b0, b1, b2, b3⟩ := ((Blk.new ((w.alloc _).alloc _) _ 24).below hb1 (by simp)).b2; simp only [World.size_alloc] at b0 b1 b2 b3; have H1 : Hid _ := And.intro hQ1 (And.intro hE1 hb1); clear hQ1 hE1 hb1)
  refine bodyPost_ret (v := .tuple #[.agg #[.slice va1 (faceF h name (fun k q => purgeF h k q)).1.queues.length vc1, .int .i64 (faceF h name (fun k q => purgeF h k q)).1.next], .slice ea1 (faceF h name (fun k q => purgeF h k q)).2.1.length ec1, .int .i64 (faceF h name (fun k q => purgeF h k q)).2.2]) (by simp [results, Try.results126, go_sem, *]; done) rfl (face_end (three.out _ _ _) (by simp) H1.out.2.2 H1.out.1 H1.out.2.1 _ _)
end Go.Proofs.Ytkddkpdfeeikhaa
