/-
  tgref1.HallBack.
-/
import Derived.Test.YtkddkpdfeeikhaaJFollowsProofM44
import Derived.Test.YtkddkpdfeeikhaaBackS
import Derived.Test.YtkddkpdfeeikhaaFaceT
namespace Go.Proofs.Ytkddkpdfeeikhaa
open Go.RowKit
set_option linter.unusedVariables false
set_option linter.unusedSimpArgs false

attribute [local go_sem ↓] Go.wp_at_zero Go.wp_at_succ

/-- A queue, an item, whether it goes, and an error are answered. -/
def AnsKS (S : Nat → Prop) (q : QD) (it : IT) (d : Bool) (en : Int) (w : World) (e : Ending) (w' : World) : Prop :=
  ∃ ra rc pa pc qa qc, e = .returned (.tuple #[.agg #[.string q.name, .int .i64 q.limit, .slice ra q.items.length rc], .agg #[.int .i64 it.id, .int .i64 it.turn, .int .i64 it.tries, .bool it.out, .int .i64 it.due, .slice pa it.note.props.length pc, .slice qa it.note.body.length qc], .bool d, .int .i64 en]) ∧ SliceI (fun b => S b ∨ Made w.heap.size w'.heap.size b) w' (.slice ra q.items.length rc) q.items ∧ NoteIs S w' (.slice pa it.note.props.length pc, .slice qa it.note.body.length qc) it.note ∧ Below w.heap.size w w'

def zI1 : IT := ⟨0, 0, 0, false, 0, nN⟩

/-- What Back comes to, at a place. -/
def BackC (h : HD) (k : Nat) (q q' : QD) (it : IT) (d : Bool) (en id : Int) (r : HD × List ED × Int) : Prop :=
  (en = 6 ∧ r = refuse 6) ∨ (en = 0 ∧ d = false ∧ r = (h.setQ k q', [], 0)) ∨ (en = 0 ∧ d = true ∧ q'.name = q.name ∧ smallI q'.items ∧ (∃ x ∈ q.items, x.note = it.note) ∧ r = ((asideF (h.setQ k q') k it.note).1, goneE q.name id :: (asideF (h.setQ k q') k it.note).2, 0))

theorem back_one (h : HD) (k : Nat) (q : QD) (id turn : Int) (hs : smallI q.items) (hfit : ∀ i ∈ q.items, i.fits) : ∃ (q' : QD) (it : IT) (d : Bool) (en : Int), BackC h k q q' it d en id (failF (backF h k q id turn)) ∧
    ∀ (S : Nat → Prop) (v : Value) (w : World), (∀ b, S b → b < w.heap.size) → SliceI S w v q.items → Calls Try.prog 63 #[.agg #[.string q.name, .int .i64 q.limit, v], .int .i64 id, .int .i64 turn] w (AnsKS S q' it d en w) := by
  rcases idxI_cases (givenB id turn) q.items with hi | ⟨i, hil, hi, hgi, hbf⟩
  · have hno : ∀ x ∈ q.items, givenB id turn x = false := by
      have := idxI_none' hi
      rwa [List.findIdx?_eq_none_iff] at this
    refine ⟨zQ, zI1, false, 6, .inl ⟨rfl, by rw [backF_none hi]; simp [failF, refuse]⟩, fun S v w hS hv => ?_⟩
    refine (refBack_none v q.name q.limit id turn q.items hs.1 hno w (hv.sub fun b hb => ⟨hS b hb, rfl⟩)).mono ?_
    rintro e w' ⟨rfl, hb⟩
    exact ⟨none, 0, none, 0, none, 0, rfl, SliceI.nil _ _, NoteIs.nil _ _, hb⟩
  · by_cases ht : (backI q.items[i]).tries < 3
    · refine ⟨⟨q.name, q.limit, q.items.set i (backI q.items[i])⟩, zI1, false, 0, .inr (.inl ⟨rfl, rfl, by rw [backF_wait hi hil ht]; simp [failF]⟩), fun S v w hS hv => ?_⟩
      refine (refBack_waitS v q.name q.limit id turn q.items hs.1 i hil hgi hbf (hfit _ (List.getElem_mem hil)) ht w S hS hv).mono ?_
      rintro e w' ⟨v', rfl, hv', hb⟩
      obtain ⟨a, c, rfl⟩ := hv'.shp
      exact ⟨a, c, none, 0, none, 0, rfl, hv', NoteIs.nil _ _, hb⟩
    · refine ⟨⟨q.name, q.limit, q.items.eraseIdx i⟩, backI q.items[i], true, 0, .inr (.inr ⟨rfl, rfl, rfl, ⟨?_, fun x hx => hs.2 x (List.mem_of_mem_eraseIdx hx)⟩, ⟨q.items[i], List.getElem_mem hil, rfl⟩, by rw [backF_dead hi hil ht]; simp [failF, backI]⟩), fun S v w hS hv => ?_⟩
      · have := List.length_eraseIdx_le q.items i
        have := hs.1
        simp only
        omega
      · refine (refBack_deadS v q.name q.limit id turn q.items hs.1 i hil hgi hbf (hfit _ (List.getElem_mem hil)) ht w S hS hv).mono ?_
        rintro e w' ⟨v', ⟨p1, p2⟩, rfl, hv', hn', hb⟩
        obtain ⟨a, c, rfl⟩ := hv'.shp
        obtain ⟨pa, pc, rfl, -⟩ := SliceV.shape hn'.1
        obtain ⟨qa, qc, rfl, -⟩ := SliceV.shape hn'.2
        exact ⟨a, c, pa, pc, qa, qc, rfl, hv', hn', hb⟩

/-- A queue and an item in boxes, behind a call from W. -/
structure QIB (S : Nat → Prop) (W : World) (q : QD) (it : IT) (va : Option Addr) (vc : Nat) (pv bv : Value) (qb ib : Nat) (w1 : World) : Prop where
  bel : Below W.heap.size W w1
  qblk : Blk w1 qb [.string q.name, .int .i64 q.limit, .slice va q.items.length vc]
  iblk : Blk w1 ib [.int .i64 it.id, .int .i64 it.turn, .int .i64 it.tries, .bool it.out, .int .i64 it.due, pv, bv]
  ql : W.heap.size ≤ qb
  il : W.heap.size ≤ ib
  items : SliceI (fun b => S b ∨ (Made W.heap.size w1.heap.size b ∧ b ≠ qb ∧ b ≠ ib)) w1 (.slice va q.items.length vc) q.items
  note : NoteIs S w1 (pv, bv) it.note

theorem QIB.of {S : Nat → Prop} {W w2 wF : World} {q : QD} {it : IT} {va : Option Addr} {vc : Nat} {pv bv : Value} {qb ib lo : Nat} (hS : ∀ b, S b → b < W.heap.size) (hbn : Below W.heap.size W w2) (hlo : W.heap.size ≤ lo) (hv : SliceI (fun b => S b ∨ Made lo w2.heap.size b) w2 (.slice va q.items.length vc) q.items) (hn : NoteIs S w2 (pv, bv) it.note)
    (hq : Blk wF qb [.string q.name, .int .i64 q.limit, .slice va q.items.length vc]) (hi : Blk wF ib [.int .i64 it.id, .int .i64 it.turn, .int .i64 it.tries, .bool it.out, .int .i64 it.due, pv, bv]) (ql : W.heap.size ≤ qb) (il : W.heap.size ≤ ib) (hqm : qb < lo ∨ w2.heap.size ≤ qb) (him : ib < lo ∨ w2.heap.size ≤ ib)
    (hz : w2.heap.size ≤ wF.heap.size) (hx : ∀ b, b < w2.heap.size → b ≠ qb → b ≠ ib → wF.heap[b]? = w2.heap[b]?) (ho : wF.os = w2.os ∧ wF.tape = w2.tape ∧ wF.output = w2.output) : QIB S W q it va vc pv bv qb ib wF := by
  have hzb := hbn.size
  refine ⟨⟨ho.1.trans hbn.os, ho.2.1.trans hbn.tape, ho.2.2.trans hbn.output, by omega, fun b hb => (hx b (by omega) (by omega) (by omega)).trans (hbn.block b hb)⟩, hq, hi, ql, il, hv.sub fun b hb => ?_, hn.sub fun b hb => ?_⟩
  · have h1 : (S b ∨ (Made W.heap.size wF.heap.size b ∧ b ≠ qb ∧ b ≠ ib)) ∧ b < w2.heap.size ∧ b ≠ qb ∧ b ≠ ib := by
      rcases hb with h | h
      · have := hS b h
        exact ⟨.inl h, by omega, by omega, by omega⟩
      · obtain ⟨h1, h2⟩ := h
        exact ⟨.inr ⟨⟨by omega, by omega⟩, by omega, by omega⟩, by omega, by omega, by omega⟩
    exact ⟨h1.1, hx b h1.2.1 h1.2.2.1 h1.2.2.2⟩
  · have := hS b hb
    exact ⟨hb, hx b (by omega) (by omega) (by omega)⟩

theorem QIB.qi {S : Nat → Prop} {W w2 : World} {q : QD} {it : IT} {va : Option Addr} {vc : Nat} {pv bv : Value} (hS : ∀ b, S b → b < W.heap.size) (hbn : Below W.heap.size W w2) (hq : Blk w2 (W.heap.size) [.string ⟨#[]⟩, .int .i64 0, .slice none 0 0]) (hi : Blk w2 (W.heap.size + 1) [.int .i64 0, .int .i64 0, .int .i64 0, .bool false, .int .i64 0, .slice none 0 0, .slice none 0 0]) (hv : SliceI (fun b => S b ∨ Made (W.heap.size + 2) w2.heap.size b) w2 (.slice va q.items.length vc) q.items) (hn : NoteIs S w2 (pv, bv) it.note) : QIB S W q it va vc pv bv (W.heap.size) (W.heap.size + 1) (set7 (set3 w2 (W.heap.size) (.string q.name) (.int .i64 q.limit) (.slice va q.items.length vc)) (W.heap.size + 1) (.int .i64 it.id) (.int .i64 it.turn) (.int .i64 it.tries) (.bool it.out) (.int .i64 it.due) pv bv) := by
  have hz := hbn.size
  exact QIB.of hS hbn (by omega) hv hn ((set3_blk hq).same (set7_far (by omega))) (set7_blk (hi.same (set3_far (by omega)))) (by omega) (by omega) (by omega) (by omega) (by rw [set7_size, set3_size]; exact Nat.le_refl _) (fun b h1 h2 h3 => (set7_far h3).trans (set3_far h2)) (⟨set7_os.1.trans set3_os.1, set7_os.2.1.trans set3_os.2.1, set7_os.2.2.trans set3_os.2.2⟩)

theorem QIB.iq {S : Nat → Prop} {W w2 : World} {q : QD} {it : IT} {va : Option Addr} {vc : Nat} {pv bv : Value} (hS : ∀ b, S b → b < W.heap.size) (hbn : Below W.heap.size W w2) (hi : Blk w2 (W.heap.size) [.int .i64 0, .int .i64 0, .int .i64 0, .bool false, .int .i64 0, .slice none 0 0, .slice none 0 0]) (hq : Blk w2 (W.heap.size + 1) [.string ⟨#[]⟩, .int .i64 0, .slice none 0 0]) (hv : SliceI (fun b => S b ∨ Made (W.heap.size + 2) w2.heap.size b) w2 (.slice va q.items.length vc) q.items) (hn : NoteIs S w2 (pv, bv) it.note) : QIB S W q it va vc pv bv (W.heap.size + 1) (W.heap.size) (set7 (set3 w2 (W.heap.size + 1) (.string q.name) (.int .i64 q.limit) (.slice va q.items.length vc)) (W.heap.size) (.int .i64 it.id) (.int .i64 it.turn) (.int .i64 it.tries) (.bool it.out) (.int .i64 it.due) pv bv) := by
  have hz := hbn.size
  exact QIB.of hS hbn (by omega) hv hn ((set3_blk hq).same (set7_far (by omega))) (set7_blk (hi.same (set3_far (by omega)))) (by omega) (by omega) (by omega) (by omega) (by rw [set7_size, set3_size]; exact Nat.le_refl _) (fun b h1 h2 h3 => (set7_far h3).trans (set3_far h2)) (⟨set7_os.1.trans set3_os.1, set7_os.2.1.trans set3_os.2.1, set7_os.2.2.trans set3_os.2.2⟩)

theorem QIB.q {S : Nat → Prop} {W w2 : World} {q : QD} {it : IT} {va : Option Addr} {vc : Nat} {pv bv : Value} (hS : ∀ b, S b → b < W.heap.size) (hbn : Below W.heap.size W w2) (hq : Blk w2 (W.heap.size) [.string ⟨#[]⟩, .int .i64 0, .slice none 0 0]) (hv : SliceI (fun b => S b ∨ Made (W.heap.size + 1) w2.heap.size b) w2 (.slice va q.items.length vc) q.items) (hn : NoteIs S w2 (pv, bv) it.note) : QIB S W q it va vc pv bv (W.heap.size) (w2.heap.size) ((set3 w2 (W.heap.size) (.string q.name) (.int .i64 q.limit) (.slice va q.items.length vc)).alloc (.cells #[.int .i64 it.id, .int .i64 it.turn, .int .i64 it.tries, .bool it.out, .int .i64 it.due, pv, bv] 78)) := by
  have hz := hbn.size
  exact QIB.of hS hbn (by omega) hv hn ((set3_blk hq).alloc _) (by have hh := Blk.new (set3 w2 (W.heap.size) (.string q.name) (.int .i64 q.limit) (.slice va q.items.length vc)) [.int .i64 it.id, .int .i64 it.turn, .int .i64 it.tries, .bool it.out, .int .i64 it.due, pv, bv] 78; rw [set3_size] at hh; exact hh) (by omega) (by omega) (by omega) (by omega) (by rw [World.size_alloc, set3_size]; omega) (fun b h1 h2 h3 => (Below.heap_alloc _ _ _ (by rw [set3_size]; omega)).trans (set3_far h2)) (⟨(al_os _ _).trans set3_os.1, (al_tape _ _).trans set3_os.2.1, (al_output _ _).trans set3_os.2.2⟩)

theorem QIB.i {S : Nat → Prop} {W w2 : World} {q : QD} {it : IT} {va : Option Addr} {vc : Nat} {pv bv : Value} (hS : ∀ b, S b → b < W.heap.size) (hbn : Below W.heap.size W w2) (hi : Blk w2 (W.heap.size) [.int .i64 0, .int .i64 0, .int .i64 0, .bool false, .int .i64 0, .slice none 0 0, .slice none 0 0]) (hv : SliceI (fun b => S b ∨ Made (W.heap.size + 1) w2.heap.size b) w2 (.slice va q.items.length vc) q.items) (hn : NoteIs S w2 (pv, bv) it.note) : QIB S W q it va vc pv bv (w2.heap.size) (W.heap.size) ((set7 w2 (W.heap.size) (.int .i64 it.id) (.int .i64 it.turn) (.int .i64 it.tries) (.bool it.out) (.int .i64 it.due) pv bv).alloc (.cells #[.string q.name, .int .i64 q.limit, .slice va q.items.length vc] 76)) := by
  have hz := hbn.size
  exact QIB.of hS hbn (by omega) hv hn (by have hh := Blk.new (set7 w2 (W.heap.size) (.int .i64 it.id) (.int .i64 it.turn) (.int .i64 it.tries) (.bool it.out) (.int .i64 it.due) pv bv) [.string q.name, .int .i64 q.limit, .slice va q.items.length vc] 76; rw [set7_size] at hh; exact hh) ((set7_blk hi).alloc _) (by omega) (by omega) (by omega) (by omega) (by rw [World.size_alloc, set7_size]; omega) (fun b h1 h2 h3 => (Below.heap_alloc _ _ _ (by rw [set7_size]; omega)).trans (set7_far h3)) (⟨(al_os _ _).trans set7_os.1, (al_tape _ _).trans set7_os.2.1, (al_output _ _).trans set7_os.2.2⟩)

theorem QIB.cqi {S : Nat → Prop} {W w2 : World} {q : QD} {it : IT} {va : Option Addr} {vc : Nat} {pv bv : Value} (hS : ∀ b, S b → b < W.heap.size) (hbn : Below W.heap.size W w2)  (hv : SliceI (fun b => S b ∨ Made (W.heap.size) w2.heap.size b) w2 (.slice va q.items.length vc) q.items) (hn : NoteIs S w2 (pv, bv) it.note) : QIB S W q it va vc pv bv (w2.heap.size) (w2.heap.size + 1) ((w2.alloc (.cells #[.string q.name, .int .i64 q.limit, .slice va q.items.length vc] 76)).alloc (.cells #[.int .i64 it.id, .int .i64 it.turn, .int .i64 it.tries, .bool it.out, .int .i64 it.due, pv, bv] 78)) := by
  have hz := hbn.size
  exact QIB.of hS hbn (by omega) hv hn ((Blk.new w2 [.string q.name, .int .i64 q.limit, .slice va q.items.length vc] 76).alloc _) (by have hh := Blk.new (w2.alloc (.cells #[.string q.name, .int .i64 q.limit, .slice va q.items.length vc] 76)) [.int .i64 it.id, .int .i64 it.turn, .int .i64 it.tries, .bool it.out, .int .i64 it.due, pv, bv] 78; rw [World.size_alloc] at hh; exact hh) (by omega) (by omega) (by omega) (by omega) (by rw [World.size_alloc, World.size_alloc]; omega) (fun b h1 h2 h3 => (Below.heap_alloc _ _ _ (by rw [World.size_alloc]; omega)).trans (Below.heap_alloc _ _ _ h1)) (⟨(al_os _ _).trans (al_os _ _), (al_tape _ _).trans (al_tape _ _), (al_output _ _).trans (al_output _ _)⟩)

theorem QIB.ciq {S : Nat → Prop} {W w2 : World} {q : QD} {it : IT} {va : Option Addr} {vc : Nat} {pv bv : Value} (hS : ∀ b, S b → b < W.heap.size) (hbn : Below W.heap.size W w2)  (hv : SliceI (fun b => S b ∨ Made (W.heap.size) w2.heap.size b) w2 (.slice va q.items.length vc) q.items) (hn : NoteIs S w2 (pv, bv) it.note) : QIB S W q it va vc pv bv (w2.heap.size + 1) (w2.heap.size) ((w2.alloc (.cells #[.int .i64 it.id, .int .i64 it.turn, .int .i64 it.tries, .bool it.out, .int .i64 it.due, pv, bv] 78)).alloc (.cells #[.string q.name, .int .i64 q.limit, .slice va q.items.length vc] 76)) := by
  have hz := hbn.size
  exact QIB.of hS hbn (by omega) hv hn (by have hh := Blk.new (w2.alloc (.cells #[.int .i64 it.id, .int .i64 it.turn, .int .i64 it.tries, .bool it.out, .int .i64 it.due, pv, bv] 78)) [.string q.name, .int .i64 q.limit, .slice va q.items.length vc] 76; rw [World.size_alloc] at hh; exact hh) ((Blk.new w2 [.int .i64 it.id, .int .i64 it.turn, .int .i64 it.tries, .bool it.out, .int .i64 it.due, pv, bv] 78).alloc _) (by omega) (by omega) (by omega) (by omega) (by rw [World.size_alloc, World.size_alloc]; omega) (fun b h1 h2 h3 => (Below.heap_alloc _ _ _ (by rw [World.size_alloc]; omega)).trans (Below.heap_alloc _ _ _ h1)) (⟨(al_os _ _).trans (al_os _ _), (al_tape _ _).trans (al_tape _ _), (al_output _ _).trans (al_output _ _)⟩)

theorem nameB_set (h : HD) (k : Nat) (hk : k < h.queues.length) (q' : QD) (hn : q'.name = h.queues[k].name) (name : ByteArray) : idxQ name (h.setQ k q').queues = idxQ name h.queues := by
  unfold idxQ HD.setQ
  have : (h.queues.set k q').findIdx? (nameB name) = h.queues.findIdx? (nameB name) := by
    have e : ∀ (l : List QD) (k : Nat) (hk : k < l.length), q'.name = l[k].name → (l.set k q').findIdx? (nameB name) = l.findIdx? (nameB name) := by
      intro l
      induction l with
      | nil => intro k hk; simp at hk
      | cons x r ih =>
        intro k hk hx
        cases k with
        | zero =>
          have hx' : nameB name q' = nameB name x := by
            have : q'.name = x.name := hx
            unfold nameB; rw [this]
          simp [List.findIdx?_cons, hx']
        | succ k =>
          have := ih k (by simpa using hk) (by simpa using hx)
          simp [List.findIdx?_cons, this]
    exact e h.queues k hk hn
  rw [this]

/-- Putting aside is putting in the queue dead, where that can be. -/
theorem aside_put (h : HD) (k : Nat) (hk : k < h.queues.length) (n : ND) (hw : n.wrong = 0) (hne : (h.queues[k].name.toList == deadN.toList) = false) :
    ((hallPutF h deadN n).2.2 = 0 → asideF h k n = ((hallPutF h deadN n).1, (hallPutF h deadN n).2.1)) ∧ ((hallPutF h deadN n).2.2 ≠ 0 → asideF h k n = (h, [])) := by
  unfold hallPutF
  rw [if_pos hw]
  rcases idxQ_cases deadN h.queues with ⟨hd, -⟩ | ⟨j, hj, hd, hnm, -⟩
  · rw [faceF_none hd, asideF_none hd]
    simp [refuse]
  · have hjk : j ≠ k := by
      intro e
      subst e
      rw [hnm] at hne
      simp at hne
    rw [faceF_some hd hj, asideF_there hd hjk hj]
    unfold putF
    split <;> simp [failF]
theorem aside_same (h : HD) (k : Nat) (n : ND) (hi : idxQ deadN h.queues = (k : Int)) : asideF h k n = (h, []) := asideF_here hi

/-- A row of one entry that the call made. -/
theorem own_entry (w : World) (base g : Nat) (cs : List Value) (hl : cs.length = 6) (hg : w.heap.size = g) (hb : base ≤ g) : (w.alloc (.cells cs.toArray 30)).ownsRow base 30 6 (.slice (some ⟨g, 0, none⟩) 1 1) 1 cs := by
  subst hg
  refine ⟨by simpa using hl, .inr ⟨w.heap.size, 1, cs.toArray, rfl, hb, heap_alloc_new w _, Nat.le_refl _, by simp [maxLen], ?_, ?_⟩⟩
  · simpa using hl
  · simp; rw [List.take_of_length_le (by omega)]

theorem str_eq {a b : ByteArray} (h : (a.toList == b.toList) = true) : a = b := by
  have h' : a.toList = b.toList := by simpa using h
  rw [ByteArray.toList_eq, ByteArray.toList_eq] at h'
  cases a; cases b
  simp only [ByteArray.mk.injEq]
  exact Array.toList_inj.1 h'

theorem hallPutF_len (h : HD) (name : ByteArray) (n : ND) : (hallPutF h name n).2.1.length ≤ 1 := by
  unfold hallPutF
  split
  · unfold faceF
    split
    · simp [refuse]
    · split
      · simp [refuse]
      · simp only [failF, putF]
        split
        · split <;> simp
        · simp
  · simp [refuse]

/-- The end of a face that appends to its row rw. -/
structure Gn (w3 wF : World) (rb rw : Nat) (x y : Value) : Prop where
  box : Blk wF rb [x, y]
  keep : ∀ b, b < w3.heap.size → b ≠ rb → b ≠ rw → wF.heap[b]? = w3.heap[b]?
  size : w3.heap.size ≤ wF.heap.size
  os : wF.os = w3.os
  tape : wF.tape = w3.tape
  output : wF.output = w3.output
theorem Gn.ans {S T : Nat → Prop} {w w3 wF : World} {rb rw : Nat} {hd : HD} {es : List ED} {sa : Option Addr} {n sc : Nat} {ev : Value} (F : Gn w3 wF rb rw (.slice sa n sc) (.int .i64 hd.next)) (hrb : w.heap.size ≤ rb) (hrw : w.heap.size ≤ rw) (hB : Below w.heap.size w w3) (hQ : SliceQ T w3 (.slice sa n sc) hd.queues)
    (hT : ∀ b, T b → (S b ∨ w.heap.size ≤ b) ∧ b < w3.heap.size ∧ b ≠ rb ∧ b ≠ rw) (hE : SliceE (SM S w wF) wF ev es) :
    AnsS S (hd, es, 0) w (.returned (.tuple #[.agg #[.slice sa n sc, .int .i64 hd.next], ev, .int .i64 0])) wF ∧ Below w.heap.size w wF := by
  obtain ⟨a', c', e⟩ := hQ.shp
  simp only [Value.slice.injEq] at e
  obtain ⟨rfl, rfl, rfl⟩ := e
  obtain ⟨ea, ec, rfl⟩ := hE.shp
  have hz := F.size
  exact ⟨⟨sa, sc, ea, ec, rfl, hQ.sub fun b hb => ⟨(hT b hb).1.imp (fun h => h) (fun h => ⟨h, by have := (hT b hb).2.1; omega⟩), F.keep b (hT b hb).2.1 (hT b hb).2.2.1 (hT b hb).2.2.2⟩, hE⟩,
    ⟨F.os.trans hB.os, F.tape.trans hB.tape, F.output.trans hB.output, Nat.le_trans hB.size F.size, fun b hb => (F.keep b (Nat.lt_of_lt_of_le hb hB.size) (by omega) (by omega)).trans (hB.block b hb)⟩⟩
/-- The entries behind an append. -/
theorem entries_more {T : Nat → Prop} {w7 : World} {base : Nat} {v : Value} {cs : List Value} {e0 : ED} {p : Value × Value} {LE : EnL} {n : Nat} (hn : n = LE.length) (hc : cs = e0.cells p) (ho : w7.ownsRow base 30 6 v (1 + n) (cs ++ cellsE LE)) (hb : ∀ b, v.ownBlock = some b → T b) (h0 : NoteIs T w7 p e0.note) (hN : ∀ x ∈ LE, NoteIs T w7 x.2 x.1.note) : SliceE T w7 v (e0 :: LE.map Prod.fst) := by
  subst hc
  subst hn
  refine ⟨(e0, p) :: LE, rfl, ?_, fun x hx => ?_⟩
  · have e : cellsE ((e0, p) :: LE) = e0.cells p ++ cellsE LE := by simp [cellsE]
    rw [e, List.length_cons, Nat.add_comm LE.length 1]
    exact (own_slice ho).sub fun b hb' => ⟨hb b hb', rfl⟩
  · rw [List.mem_cons] at hx
    rcases hx with rfl | hx
    · exact h0
    · exact hN x hx

set_option maxRecDepth 100000 in
set_option maxHeartbeats 3200000 in
theorem refHallBack_any (S : Nat → Prop) (v : Value) (h : HD) (tn : Int) (tq : ByteArray) (id turn : Int) (w : World) (hS : ∀ b, S b → b < w.heap.size) (hv : SliceQ S w v h.queues) (hsm : smallQ h.queues) (hfit : ∀ q ∈ h.queues, ∀ i ∈ q.items, i.fits) (hnx : 0 ≤ h.next ∧ h.next ≤ 1000000000) (hnw : ∀ q ∈ h.queues, ∀ i ∈ q.items, i.note.wrong = 0 ∧ i.note.fitN) :
    Calls Try.prog 32 #[.agg #[v, .int .i64 h.next], .agg #[.int .i64 tn, .string tq, .int .i64 id, .int .i64 turn]] w fun e w' => AnsS S (faceF h tq (fun k q => backF h k q id turn)) w e w' ∧ Below w.heap.size w w' := by
  have HV : Hid (SliceQ S w v h.queues) := hv
  have HM : Hid (smallQ h.queues) := hsm
  have HSS : Hid (∀ b, S b → b < w.heap.size) := hS
  have HNW : Hid (∀ q ∈ h.queues, ∀ i ∈ q.items, i.note.wrong = 0 ∧ i.note.fitN) := hnw
  have hlen := hsm.1
  obtain ⟨va, vc, rfl⟩ := hv.shp
  have three : Hid (∀ o1 o2 o3 : Obj, Below w.heap.size w (((w.alloc o1).alloc o2).alloc o3)) := fun o1 o2 o3 => ((below_alloc _ _).alloc (by simp) _).alloc (by simp; omega) _
  rcases idxQ_cases tq h.queues with ⟨hd, -⟩ | ⟨k, hk, hd, hnm, -⟩
  · rw [faceF_none hd]
    have HI : Hid (idxQ tq h.queues = -1) := hd
    clear hd hv hsm hS hfit hnw
    go_enter Try.func32, Try.ntmps32
    go_wp2_with (go_at_call 56; refine (refFind_any tq _ h.next h.queues _ (HV.out.sub fun b hb => ⟨?_, (three.out _ _ _).block b (HSS.out b hb)⟩)).mono ?_; (have := HSS.out b hb; simp [Under]; omega); rw [HI.out]; rintro e w1 ⟨rfl, hb1⟩; have hk2 := (Blk.new ((w.alloc _).alloc _) [.slice none 0 0, .int .i64 0] 24).below hb1 (by simp); simp only [World.size_alloc] at hk2; obtain ⟨c0, c1, c2, c3⟩ := hk2.b2; have HB1 : Hid (Below w.heap.size w w1) := (three.out _ _ _).trans (hb1.mono (by simp; omega)); clear hb1 hk2)
    refine bodyPost_ret (v := .tuple #[.agg #[.slice none 0 0, .int .i64 0], .slice none 0 0, .int .i64 6]) (by simp [results, Try.results32, go_sem, *]; done) rfl ⟨AnsS.refuse _ _ _ _, ?_⟩
    iterate 2 refine Below.setCell ?_ (by simp; omega) _
    exact HB1.out
  · rw [faceF_some hd hk]
    have HI : Hid (idxQ tq h.queues = (k : Int)) := hd
    clear hd
    have hsk := HM.out.2 _ (List.getElem_mem hk)
    have hfk := hfit _ (List.getElem_mem hk)
    obtain ⟨q, hqq⟩ : ∃ q, q = h.queues[k] := ⟨_, rfl⟩
    have HQQ : Hid (q = h.queues[k]) := hqq
    rw [← hqq] at hnm hsk hfk ⊢
    obtain ⟨q', it, d, en, hcase, hone⟩ := back_one h k q id turn hsk hfk
    have HNM : Hid (q.name = tq) := hnm
    obtain ⟨rr, hrr⟩ : ∃ rr, rr = failF (backF h k q id turn) := ⟨_, rfl⟩
    rw [← hrr] at hcase ⊢
    have HC : Hid (BackC h k q q' it d en id rr) := hcase
    have HONE : Hid (∀ (S : Nat → Prop) (v : Value) (w : World), (∀ b, S b → b < w.heap.size) → SliceI S w v q.items → Calls Try.prog 63 #[.agg #[.string q.name, .int .i64 q.limit, v], .int .i64 id, .int .i64 turn] w (AnsKS S q' it d en w)) := hone
    clear hqq hnm hsk hcase hone hrr hv hsm hS hfit hnw hfk
    go_enter Try.func32, Try.ntmps32
    go_upto_region 4 with (go_at_call 56; refine (refFind_any tq _ h.next h.queues _ (HV.out.sub fun b hb => ⟨?_, (three.out _ _ _).block b (HSS.out b hb)⟩)).mono ?_; (have := HSS.out b hb; simp [Under]; omega); rw [HI.out]; rintro e w1 ⟨rfl, hb1⟩; have hk0 := (((Blk.new w [.slice va h.queues.length vc, .int .i64 h.next] 24).alloc _).alloc _).below hb1 (by simp; omega); have hk1 := ((Blk.new (w.alloc _) [.int .i64 tn, .string tq, .int .i64 id, .int .i64 turn] 50).alloc _).below hb1 (by simp); have hk2 := (Blk.new ((w.alloc _).alloc _) [.slice none 0 0, .int .i64 0] 24).below hb1 (by simp); simp only [World.size_alloc] at hk0 hk1 hk2; have HK : Hid (Blk w1 w.heap.size [.slice va h.queues.length vc, .int .i64 h.next] ∧ Blk w1 (w.heap.size + 1) [.int .i64 tn, .string tq, .int .i64 id, .int .i64 turn] ∧ Blk w1 (w.heap.size + 1 + 1) [.slice none 0 0, .int .i64 0]) := ⟨hk0, hk1, hk2⟩; have HB1 : Hid (Below w.heap.size w w1) := (three.out _ _ _).trans (hb1.mono (by simp; omega)); clear hb1 hk0 hk1 hk2)
    have hz1 : w.heap.size + 3 ≤ w1.heap.size := by have := HK.out.2.2.lt; omega
    have HV1 : Hid (SliceQ S w1 (.slice va h.queues.length vc) h.queues) := HV.out.sub fun b hb => ⟨hb, HB1.out.block b (HSS.out b hb)⟩
    obtain ⟨b, off, ia, ic, rfl, hSb, hq, y0, y1, y2⟩ := HV1.out.at k hk
    have hbl : b < w1.heap.size := by have := HSS.out b hSb; omega
    rw [← HQQ.out] at y0 y1 y2 hq
    have HQ : Hid (SliceI S w1 (.slice ia q.items.length ic) q.items) := hq
    have HS1 : Hid (∀ b, S b → b < w1.heap.size) := fun b hb => by have := HSS.out b hb; omega
    clear hq
    obtain ⟨x0, x1, x2, x3⟩ := HK.out.1.b2
    obtain ⟨z0, z1, z2, z3, z4, z5⟩ := HK.out.2.1.b4
    have n1 : w1.heap.size ≠ w.heap.size := by omega
    have n2 : w1.heap.size ≠ b := by omega
    have n3 : w1.heap.size ≠ w.heap.size + 1 := by omega
    have n4 : w1.heap.size + 1 ≠ w.heap.size := by omega
    have n5 : w1.heap.size + 1 ≠ b := by omega
    have n6 : w1.heap.size + 1 ≠ w.heap.size + 1 := by omega
    go_cut [8, 9, 10, 11] (fun qp ip dv er wx => ∃ qb ib ra rc pa pc qa qc, qp = .pointer (some ⟨qb, 0, none⟩) ∧ ip = .pointer (some ⟨ib, 0, none⟩) ∧ dv = .bool d ∧ er = .int .i64 en ∧ QIB S w1 q' it ra rc (.slice pa it.note.props.length pc) (.slice qa it.note.body.length qc) qb ib wx)
    case first =>
      go_region_held3 (fun w' => w'.cell? ⟨w.heap.size, 0, none⟩ = some (.slice (some ⟨b, off, none⟩) h.queues.length vc) ∧ w'.cell? ⟨b, off + k * 3, none⟩ = some (.string q.name) ∧ w'.cell? ⟨b, off + k * 3 + 1, none⟩ = some (.int .i64 q.limit) ∧ w'.cell? ⟨b, off + k * 3 + 2, none⟩ = some (.slice ia q.items.length ic) ∧ w'.cell? ⟨w.heap.size + 1, 2, none⟩ = some (.int .i64 id) ∧ w'.cell? ⟨w.heap.size + 1, 3, none⟩ = some (.int .i64 turn)) (go_keep) (first
        | (go_at_call 63; refine (HONE.out S _ _ ?_ ?_).mono ?_; (intro b hb; have := HS1.out b hb; show b < _; (try simp); omega); (exact HQ.out.sub fun b hb => ⟨hb, (Below.heap_alloc _ _ _ (by have := HS1.out b hb; simp; omega)).trans (Below.heap_alloc _ _ _ (HS1.out b hb))⟩); rintro r w2 ⟨ra, rc, pa, pc, qa, qc, rfl, hv2, hn2, hb2⟩; have hb2' : Below (w1.heap.size + 2) ((w1.alloc (.cells #[.string ⟨#[]⟩, .int .i64 0, .slice none 0 0] 76)).alloc (.cells #[.int .i64 0, .int .i64 0, .int .i64 0, .bool false, .int .i64 0, .slice none 0 0, .slice none 0 0] 78)) w2 := ⟨hb2.os, hb2.tape, hb2.output, by simpa using hb2.size, fun b hb => hb2.block b (by simpa using hb)⟩; have hbn : Below w1.heap.size w1 w2 := ⟨hb2'.os, hb2'.tape, hb2'.output, (by have := hb2'.size; simp at this; omega), fun b hb => (hb2'.block b (by omega)).trans ((Below.heap_alloc _ _ _ (by simp; omega)).trans (Below.heap_alloc _ _ _ hb))⟩; have haq : Blk w2 (w1.heap.size) [.string ⟨#[]⟩, .int .i64 0, .slice none 0 0] := (by have hh := ((Blk.new w1 [.string ⟨#[]⟩, .int .i64 0, .slice none 0 0] 76).alloc (.cells #[.int .i64 0, .int .i64 0, .int .i64 0, .bool false, .int .i64 0, .slice none 0 0, .slice none 0 0] 78)).below hb2' (by simp <;> omega); simpa using hh); have Haq : Hid (Blk w2 (w1.heap.size) [.string ⟨#[]⟩, .int .i64 0, .slice none 0 0]) := haq; obtain ⟨aq0, aq1, aq2, aq3, aq4⟩ := haq.b3; have hai : Blk w2 (w1.heap.size + 1) [.int .i64 0, .int .i64 0, .int .i64 0, .bool false, .int .i64 0, .slice none 0 0, .slice none 0 0] := (by have hh := (Blk.new (w1.alloc (.cells #[.string ⟨#[]⟩, .int .i64 0, .slice none 0 0] 76)) [.int .i64 0, .int .i64 0, .int .i64 0, .bool false, .int .i64 0, .slice none 0 0, .slice none 0 0] 78).below hb2' (by simp <;> omega); simpa using hh); have Hai : Hid (Blk w2 (w1.heap.size + 1) [.int .i64 0, .int .i64 0, .int .i64 0, .bool false, .int .i64 0, .slice none 0 0, .slice none 0 0]) := hai; obtain ⟨⟨ai0, ai1, ai2, ai3⟩, ⟨ai4, ai5, ai6⟩, ai7, ai8⟩ := hai.b7; have hc0 := bel_c hbn x3 x0; have hc1 := bel_c hbn hbl y0; have hc2 := bel_c hbn hbl y1; have hc3 := bel_c hbn hbl y2; have hc4 := bel_c hbn z5 z2; have hc5 := bel_c hbn z5 z3; have HBn : Hid (Below w1.heap.size w1 w2) := hbn; have HV2 : Hid (SliceI (fun b => S b ∨ Made (w1.heap.size + 2) w2.heap.size b) w2 (.slice ra q'.items.length rc) q'.items) := (hv2.sub fun b hb => ⟨hb.imp (fun h => h) (fun h => ⟨by have := h.1; (try simp at this); omega, h.2⟩), rfl⟩); have HN2 : Hid (NoteIs S w2 (.slice pa it.note.props.length pc, .slice qa it.note.body.length qc) it.note) := hn2; clear hv2 hn2 hb2 hbn hb2' haq hai)
        | (go_at_call 63; refine (HONE.out S _ _ ?_ ?_).mono ?_; (intro b hb; have := HS1.out b hb; show b < _; (try simp); omega); (exact HQ.out.sub fun b hb => ⟨hb, (Below.heap_alloc _ _ _ (by have := HS1.out b hb; simp; omega)).trans (Below.heap_alloc _ _ _ (HS1.out b hb))⟩); rintro r w2 ⟨ra, rc, pa, pc, qa, qc, rfl, hv2, hn2, hb2⟩; have hb2' : Below (w1.heap.size + 2) ((w1.alloc (.cells #[.int .i64 0, .int .i64 0, .int .i64 0, .bool false, .int .i64 0, .slice none 0 0, .slice none 0 0] 78)).alloc (.cells #[.string ⟨#[]⟩, .int .i64 0, .slice none 0 0] 76)) w2 := ⟨hb2.os, hb2.tape, hb2.output, by simpa using hb2.size, fun b hb => hb2.block b (by simpa using hb)⟩; have hbn : Below w1.heap.size w1 w2 := ⟨hb2'.os, hb2'.tape, hb2'.output, (by have := hb2'.size; simp at this; omega), fun b hb => (hb2'.block b (by omega)).trans ((Below.heap_alloc _ _ _ (by simp; omega)).trans (Below.heap_alloc _ _ _ hb))⟩; have hbi : Blk w2 (w1.heap.size) [.int .i64 0, .int .i64 0, .int .i64 0, .bool false, .int .i64 0, .slice none 0 0, .slice none 0 0] := (by have hh := ((Blk.new w1 [.int .i64 0, .int .i64 0, .int .i64 0, .bool false, .int .i64 0, .slice none 0 0, .slice none 0 0] 78).alloc (.cells #[.string ⟨#[]⟩, .int .i64 0, .slice none 0 0] 76)).below hb2' (by simp <;> omega); simpa using hh); have Hbi : Hid (Blk w2 (w1.heap.size) [.int .i64 0, .int .i64 0, .int .i64 0, .bool false, .int .i64 0, .slice none 0 0, .slice none 0 0]) := hbi; obtain ⟨⟨bi0, bi1, bi2, bi3⟩, ⟨bi4, bi5, bi6⟩, bi7, bi8⟩ := hbi.b7; have hbq : Blk w2 (w1.heap.size + 1) [.string ⟨#[]⟩, .int .i64 0, .slice none 0 0] := (by have hh := (Blk.new (w1.alloc (.cells #[.int .i64 0, .int .i64 0, .int .i64 0, .bool false, .int .i64 0, .slice none 0 0, .slice none 0 0] 78)) [.string ⟨#[]⟩, .int .i64 0, .slice none 0 0] 76).below hb2' (by simp <;> omega); simpa using hh); have Hbq : Hid (Blk w2 (w1.heap.size + 1) [.string ⟨#[]⟩, .int .i64 0, .slice none 0 0]) := hbq; obtain ⟨bq0, bq1, bq2, bq3, bq4⟩ := hbq.b3; have hc0 := bel_c hbn x3 x0; have hc1 := bel_c hbn hbl y0; have hc2 := bel_c hbn hbl y1; have hc3 := bel_c hbn hbl y2; have hc4 := bel_c hbn z5 z2; have hc5 := bel_c hbn z5 z3; have HBn : Hid (Below w1.heap.size w1 w2) := hbn; have HV2 : Hid (SliceI (fun b => S b ∨ Made (w1.heap.size + 2) w2.heap.size b) w2 (.slice ra q'.items.length rc) q'.items) := (hv2.sub fun b hb => ⟨hb.imp (fun h => h) (fun h => ⟨by have := h.1; (try simp at this); omega, h.2⟩), rfl⟩); have HN2 : Hid (NoteIs S w2 (.slice pa it.note.props.length pc, .slice qa it.note.body.length qc) it.note) := hn2; clear hv2 hn2 hb2 hbn hb2' hbi hbq)
        | (go_at_call 63; refine (HONE.out S _ _ ?_ ?_).mono ?_; (intro b hb; have := HS1.out b hb; show b < _; (try simp); omega); (exact HQ.out.sub fun b hb => ⟨hb, Below.heap_alloc _ _ _ (HS1.out b hb)⟩); rintro r w2 ⟨ra, rc, pa, pc, qa, qc, rfl, hv2, hn2, hb2⟩; have hb2' : Below (w1.heap.size + 1) (w1.alloc (.cells #[.string ⟨#[]⟩, .int .i64 0, .slice none 0 0] 76)) w2 := ⟨hb2.os, hb2.tape, hb2.output, by simpa using hb2.size, fun b hb => hb2.block b (by simpa using hb)⟩; have hbn : Below w1.heap.size w1 w2 := ⟨hb2'.os, hb2'.tape, hb2'.output, (by have := hb2'.size; simp at this; omega), fun b hb => (hb2'.block b (by omega)).trans (Below.heap_alloc _ _ _ hb)⟩; have hcq : Blk w2 (w1.heap.size) [.string ⟨#[]⟩, .int .i64 0, .slice none 0 0] := (by have hh := (Blk.new w1 [.string ⟨#[]⟩, .int .i64 0, .slice none 0 0] 76).below hb2' (by simp <;> omega); simpa using hh); have Hcq : Hid (Blk w2 (w1.heap.size) [.string ⟨#[]⟩, .int .i64 0, .slice none 0 0]) := hcq; obtain ⟨cq0, cq1, cq2, cq3, cq4⟩ := hcq.b3; have hc0 := bel_c hbn x3 x0; have hc1 := bel_c hbn hbl y0; have hc2 := bel_c hbn hbl y1; have hc3 := bel_c hbn hbl y2; have hc4 := bel_c hbn z5 z2; have hc5 := bel_c hbn z5 z3; have HBn : Hid (Below w1.heap.size w1 w2) := hbn; have HV2 : Hid (SliceI (fun b => S b ∨ Made (w1.heap.size + 1) w2.heap.size b) w2 (.slice ra q'.items.length rc) q'.items) := (hv2.sub fun b hb => ⟨hb.imp (fun h => h) (fun h => ⟨by have := h.1; (try simp at this); omega, h.2⟩), rfl⟩); have HN2 : Hid (NoteIs S w2 (.slice pa it.note.props.length pc, .slice qa it.note.body.length qc) it.note) := hn2; clear hv2 hn2 hb2 hbn hb2' hcq)
        | (go_at_call 63; refine (HONE.out S _ _ ?_ ?_).mono ?_; (intro b hb; have := HS1.out b hb; show b < _; (try simp); omega); (exact HQ.out.sub fun b hb => ⟨hb, Below.heap_alloc _ _ _ (HS1.out b hb)⟩); rintro r w2 ⟨ra, rc, pa, pc, qa, qc, rfl, hv2, hn2, hb2⟩; have hb2' : Below (w1.heap.size + 1) (w1.alloc (.cells #[.int .i64 0, .int .i64 0, .int .i64 0, .bool false, .int .i64 0, .slice none 0 0, .slice none 0 0] 78)) w2 := ⟨hb2.os, hb2.tape, hb2.output, by simpa using hb2.size, fun b hb => hb2.block b (by simpa using hb)⟩; have hbn : Below w1.heap.size w1 w2 := ⟨hb2'.os, hb2'.tape, hb2'.output, (by have := hb2'.size; simp at this; omega), fun b hb => (hb2'.block b (by omega)).trans (Below.heap_alloc _ _ _ hb)⟩; have hdi : Blk w2 (w1.heap.size) [.int .i64 0, .int .i64 0, .int .i64 0, .bool false, .int .i64 0, .slice none 0 0, .slice none 0 0] := (by have hh := (Blk.new w1 [.int .i64 0, .int .i64 0, .int .i64 0, .bool false, .int .i64 0, .slice none 0 0, .slice none 0 0] 78).below hb2' (by simp <;> omega); simpa using hh); have Hdi : Hid (Blk w2 (w1.heap.size) [.int .i64 0, .int .i64 0, .int .i64 0, .bool false, .int .i64 0, .slice none 0 0, .slice none 0 0]) := hdi; obtain ⟨⟨di0, di1, di2, di3⟩, ⟨di4, di5, di6⟩, di7, di8⟩ := hdi.b7; have hc0 := bel_c hbn x3 x0; have hc1 := bel_c hbn hbl y0; have hc2 := bel_c hbn hbl y1; have hc3 := bel_c hbn hbl y2; have hc4 := bel_c hbn z5 z2; have hc5 := bel_c hbn z5 z3; have HBn : Hid (Below w1.heap.size w1 w2) := hbn; have HV2 : Hid (SliceI (fun b => S b ∨ Made (w1.heap.size + 1) w2.heap.size b) w2 (.slice ra q'.items.length rc) q'.items) := (hv2.sub fun b hb => ⟨hb.imp (fun h => h) (fun h => ⟨by have := h.1; (try simp at this); omega, h.2⟩), rfl⟩); have HN2 : Hid (NoteIs S w2 (.slice pa it.note.props.length pc, .slice qa it.note.body.length qc) it.note) := hn2; clear hv2 hn2 hb2 hbn hb2' hdi)
        | (go_at_call 63; refine (HONE.out S _ _ ?_ ?_).mono ?_; (intro b hb; have := HS1.out b hb; show b < _; (try simp); omega); (exact HQ.out.sub fun b hb => ⟨hb, rfl⟩); rintro r w2 ⟨ra, rc, pa, pc, qa, qc, rfl, hv2, hn2, hb2⟩; have hbn : Below w1.heap.size w1 w2 := ⟨hb2.os, hb2.tape, hb2.output, hb2.size, hb2.block⟩; have hc0 := bel_c hbn x3 x0; have hc1 := bel_c hbn hbl y0; have hc2 := bel_c hbn hbl y1; have hc3 := bel_c hbn hbl y2; have hc4 := bel_c hbn z5 z2; have hc5 := bel_c hbn z5 z3; have HBn : Hid (Below w1.heap.size w1 w2) := hbn; have HV2 : Hid (SliceI (fun b => S b ∨ Made w1.heap.size w2.heap.size b) w2 (.slice ra q'.items.length rc) q'.items) := (hv2.sub fun b hb => ⟨hb.imp (fun h => h) (fun h => ⟨by have := h.1; (try simp at this); omega, h.2⟩), rfl⟩); have HN2 : Hid (NoteIs S w2 (.slice pa it.note.props.length pc, .slice qa it.note.body.length qc) it.note) := hn2; clear hv2 hn2 hb2 hbn))
      all_goals
        go_wp2_with fail
        go_meet
        first
          | (have HT := QIB.qi (q := q') (it := it) HS1.out HBn.out Haq.out Hai.out HV2.out HN2.out; exact ⟨_, _, ra, rc, pa, pc, qa, qc, rfl, rfl, rfl, rfl, HT⟩)
          | (have HT := QIB.iq (q := q') (it := it) HS1.out HBn.out Hbi.out Hbq.out HV2.out HN2.out; exact ⟨_, _, ra, rc, pa, pc, qa, qc, rfl, rfl, rfl, rfl, HT⟩)
          | (have HT := QIB.q (q := q') (it := it) HS1.out HBn.out Hcq.out HV2.out HN2.out; exact ⟨_, _, ra, rc, pa, pc, qa, qc, rfl, rfl, rfl, rfl, HT⟩)
          | (have HT := QIB.i (q := q') (it := it) HS1.out HBn.out Hdi.out HV2.out HN2.out; exact ⟨_, _, ra, rc, pa, pc, qa, qc, rfl, rfl, rfl, rfl, HT⟩)
          | (have HT := QIB.cqi (q := q') (it := it) HS1.out HBn.out HV2.out HN2.out; exact ⟨_, _, ra, rc, pa, pc, qa, qc, rfl, rfl, rfl, rfl, HT⟩)
          | (have HT := QIB.ciq (q := q') (it := it) HS1.out HBn.out HV2.out HN2.out; exact ⟨_, _, ra, rc, pa, pc, qa, qc, rfl, rfl, rfl, rfl, HT⟩)
    case rest =>
      obtain ⟨qb, ib, ra, rc, pa, pc, qa, qc, rfl, rfl, rfl, rfl, hQB⟩ := hcut
      have HQB : Hid (QIB S w1 q' it ra rc (.slice pa it.note.props.length pc) (.slice qa it.note.body.length qc) qb ib wc) := hQB
      clear hQB x0 x1 x2 y0 y1 y2 z0 z1 z2 z3 z4
      obtain ⟨W2, hW2⟩ : ∃ W2, W2 = wc := ⟨_, rfl⟩
      rw [← hW2] at HQB
      rw [← hW2]
      clear hW2
      have hzW := HQB.out.bel.size
      have HKW : Hid (Blk W2 w.heap.size [.slice (some ⟨b, off, none⟩) h.queues.length vc, .int .i64 h.next] ∧ Blk W2 (w.heap.size + 1) [.int .i64 tn, .string tq, .int .i64 id, .int .i64 turn] ∧ Blk W2 (w.heap.size + 1 + 1) [.slice none 0 0, .int .i64 0]) := ⟨HK.out.1.below HQB.out.bel HK.out.1.lt, HK.out.2.1.below HQB.out.bel HK.out.2.1.lt, HK.out.2.2.below HQB.out.bel HK.out.2.2.lt⟩
      have HBW : Hid (Below w.heap.size w W2) := HB1.out.trans (HQB.out.bel.mono (by omega))
      by_cases hen : en = 6
      · have HE : Hid (rr = refuse 6) := by
          rcases HC.out with ⟨_, e⟩ | ⟨e0, _⟩ | ⟨e0, _⟩
          · exact e
          · omega
          · omega
        clear HC
        subst hen
        obtain ⟨c0, c1, c2, c3⟩ := HKW.out.2.2.b2
        go_wp2_with fail
        refine bodyPost_ret (v := .tuple #[.agg #[.slice none 0 0, .int .i64 0], .slice none 0 0, .int .i64 6]) (by simp [results, Try.results32, go_sem, *]; done) rfl ⟨by rw [HE.out]; exact AnsS.refuse _ _ _ _, ?_⟩
        iterate 2 refine Below.setCell ?_ (by simp; omega) _
        exact HBW.out
      · obtain rfl : en = 0 := by
          rcases HC.out with ⟨e, _⟩ | ⟨e0, _⟩ | ⟨e0, _⟩
          · exact absurd e hen
          · exact e0
          · exact e0
        clear hen
        obtain ⟨x0, x1, x2, x3⟩ := HKW.out.1.b2
        obtain ⟨u0, u1, u2, u3, u4⟩ := HQB.out.qblk.b3
        have hqw := HQB.out.ql
        have hiw := HQB.out.il
        obtain ⟨T, hT⟩ : ∃ T : Nat → Prop, T = fun b => S b ∨ (Made w1.heap.size W2.heap.size b ∧ b ≠ qb ∧ b ≠ ib) := ⟨_, rfl⟩
        have HT : Hid ((∀ b, T b → b < W2.heap.size) ∧ SliceQ T W2 (.slice (some ⟨b, off, none⟩) h.queues.length vc) h.queues ∧ SliceI T W2 (.slice ra q'.items.length rc) q'.items ∧ (∀ b, T b → S b ∨ (w1.heap.size ≤ b ∧ b ≠ ib)) ∧ ∀ b, S b → T b) := by
          subst hT
          refine ⟨fun b hb => ?_, HV1.out.sub fun b hb => ⟨.inl hb, HQB.out.bel.block b (by have := HSS.out b hb; omega)⟩, HQB.out.items, fun b hb => hb.imp (fun h => h) fun h => ⟨h.1.1, h.2.2⟩, fun b hb => .inl hb⟩
          rcases hb with hb | hb
          · have := HSS.out b hb; omega
          · exact hb.1.2
        clear hT
        go_upto_region 8 with (go_at_call 57; refine (with_any _ h.queues h.next k hk q' _ hlen _ T HT.out.1 HT.out.2.1 HT.out.2.2.1).mono ?_; rintro r w3 ⟨v3, rfl, hv3, hb3⟩; obtain ⟨sa, sc, e3⟩ := hv3.shp; have e3' : v3 = .slice sa h.queues.length sc := (by rw [e3, List.length_set]); subst e3'; have HBn : Hid (Below W2.heap.size W2 w3) := hb3; have HV3 : Hid (SliceQ (fun b => T b ∨ Made W2.heap.size w3.heap.size b) w3 (.slice sa h.queues.length sc) (h.queues.set k q')) := hv3; have HK3 : Hid (Blk w3 w.heap.size [.slice (some ⟨b, off, none⟩) h.queues.length vc, .int .i64 h.next] ∧ Blk w3 (w.heap.size + 1) [.int .i64 tn, .string tq, .int .i64 id, .int .i64 turn] ∧ Blk w3 (w.heap.size + 1 + 1) [.slice none 0 0, .int .i64 0]) := ⟨HKW.out.1.below hb3 HKW.out.1.lt, HKW.out.2.1.below hb3 HKW.out.2.1.lt, HKW.out.2.2.below hb3 HKW.out.2.2.lt⟩; obtain ⟨d0, d1, d2, d3⟩ := HK3.out.1.b2; clear hb3 hv3 e3 x0 x1 x2 u0 u1 u2 u3)
        obtain ⟨W4, hW4⟩ : ∃ W4, W4 = (w3.setCell ⟨w.heap.size, 0, none⟩ (.slice sa h.queues.length sc)).setCell ⟨w.heap.size, 1, none⟩ (.int .i64 h.next) := ⟨_, rfl⟩
        rw [← hW4]
        have hz3 := HBn.out.size
        have HX4 : Hid (∀ b, b ≠ w.heap.size → W4.heap[b]? = w3.heap[b]?) := fun b hb => by
          rw [hW4, Below.heap_setCell _ _ _ _ hb, Below.heap_setCell _ _ _ _ hb]
        have hz4 : W4.heap.size = w3.heap.size := by rw [hW4]; simp
        have HK4 : Hid (Blk W4 w.heap.size [.slice sa h.queues.length sc, .int .i64 h.next] ∧ Blk W4 (w.heap.size + 1) [.int .i64 tn, .string tq, .int .i64 id, .int .i64 turn] ∧ Blk W4 (w.heap.size + 1 + 1) [.slice none 0 0, .int .i64 0] ∧ Blk W4 ib [.int .i64 it.id, .int .i64 it.turn, .int .i64 it.tries, .bool it.out, .int .i64 it.due, .slice pa it.note.props.length pc, .slice qa it.note.body.length qc]) :=
          ⟨by rw [hW4]; exact (HK3.out.1.set 0 _).set 1 _, HK3.out.2.1.same (HX4.out _ (by omega)), HK3.out.2.2.same (HX4.out _ (by omega)), (HQB.out.iblk.below HBn.out HQB.out.iblk.lt).same (HX4.out _ (by omega))⟩
        have HB4 : Hid (Below w.heap.size w W4) := by
          have h3 : Below w.heap.size w w3 := HBW.out.trans (HBn.out.mono (by omega))
          rw [hW4]
          exact (h3.setCell (by simp) _).setCell (by simp) _
        obtain ⟨T4, hT4⟩ : ∃ T4 : Nat → Prop, T4 = fun b => T b ∨ Made W2.heap.size w3.heap.size b := ⟨_, rfl⟩
        have HT4 : Hid ((∀ b, T4 b → (S b ∨ w.heap.size ≤ b) ∧ b < W4.heap.size ∧ b ≠ w.heap.size ∧ b ≠ w.heap.size + 1 + 1 ∧ b ≠ ib) ∧ ∀ b, S b → T4 b) := by
          subst hT4
          refine ⟨fun b hb => ?_, fun b hb => .inl (HT.out.2.2.2.2 b hb)⟩
          have hil := HQB.out.iblk.lt
          rcases hb with hb | hb
          · have h1 := HT.out.1 b hb
            rcases HT.out.2.2.2.1 b hb with h2 | h2
            · have := HSS.out b h2
              exact ⟨.inl h2, by omega, by omega, by omega, by omega⟩
            · exact ⟨.inr (by omega), by omega, by omega, by omega, h2.2⟩
          · obtain ⟨h1, h2⟩ := hb
            exact ⟨.inr (by omega), by omega, by omega, by omega, by omega⟩
        have HV4 : Hid (SliceQ T4 W4 (.slice sa h.queues.length sc) (h.setQ k q').queues) := by
          have h4 := HT4.out.1
          subst hT4
          exact HV3.out.sub fun b hb => ⟨hb, HX4.out b (h4 b hb).2.2.1⟩
        have HN4 : Hid (NoteIs S W4 (.slice pa it.note.props.length pc, .slice qa it.note.body.length qc) it.note) := (HQB.out.note.sub fun b hb => ⟨hb, (HX4.out b (by have := HSS.out b hb; omega)).trans (HBn.out.block b (by have := HSS.out b hb; omega))⟩)
        have hib4 : ib < W4.heap.size := HK4.out.2.2.2.lt
        have hiw' : w.heap.size + 3 ≤ ib := by omega
        clear hT4 hW4 d0 d1 d2 HX4 HV3 HT HBn HK3 HKW HQB HBW HV1 HQ HS1 HK HB1 hqw hz4 hz3
        obtain ⟨d0, d1, d2, d4⟩ := HK4.out.1.b2
        obtain ⟨c0, c1, c2, c4⟩ := HK4.out.2.2.1.b2
        rcases HC.out with ⟨e0, _⟩ | ⟨_, rfl, e⟩ | ⟨_, rfl, hqn, hqs, hmem, e⟩
        · omega
        · have HE : Hid (rr = (h.setQ k q', [], 0)) := e
          clear e HC
          go_wp2_with fail
          have F := Fn.B HK4.out.2.2.1 (.slice sa h.queues.length sc) (.int .i64 h.next)
          have hA := Fn.ans (S := S) (hd := h.setQ k q') (es := []) (ev := .slice none 0 0) F (by omega) HB4.out HV4.out (fun b hb => ⟨(HT4.out.1 b hb).1, (HT4.out.1 b hb).2.1, (HT4.out.1 b hb).2.2.2.1⟩) (SliceE.nil _ _)
          rw [← HE.out] at hA
          obtain ⟨f0, f1, f2, f3⟩ := F.box.b2
          exact bodyPost_ret (v := .tuple #[.agg #[.slice sa h.queues.length sc, .int .i64 h.next], .slice none 0 0, .int .i64 0]) (by simp [results, Try.results32, go_sem, *]; done) rfl hA
        · have hqk : q'.name = h.queues[k].name := by rw [hqn, HQQ.out]
          rw [HNM.out] at e
          have HH : Hid ((h.setQ k q').queues.length = h.queues.length ∧ (∀ name, idxQ name (h.setQ k q').queues = idxQ name h.queues) ∧ smallQ (h.setQ k q').queues ∧ it.note.wrong = 0 ∧ it.note.fitN ∧ ∃ hk' : k < (h.setQ k q').queues.length, (h.setQ k q').queues[k].name = tq) := by
            obtain ⟨x, hx, hxn⟩ := hmem
            have hm : q ∈ h.queues := by rw [HQQ.out]; exact List.getElem_mem hk
            have hw := HNW.out q hm x hx
            rw [hxn] at hw
            refine ⟨by simp [HD.setQ], nameB_set h k hk q' hqk, ⟨by simp only [HD.setQ, List.length_set]; exact hlen, fun y hy => ?_⟩, hw.1, hw.2, by simp only [HD.setQ, List.length_set]; exact hk, by simp [HD.setQ, hqn, HNM.out]⟩
            rcases List.mem_or_eq_of_mem_set hy with hy | rfl
            · exact HM.out.2 y hy
            · exact hqs
          clear hmem hqn hqs hqk HC
          obtain ⟨z0, z1, z2, z3, z4, z5⟩ := HK4.out.2.1.b4
          have HE : Hid (rr = ((asideF (h.setQ k q') k it.note).1, goneE tq id :: (asideF (h.setQ k q') k it.note).2, 0)) := e
          clear e
          cases hdn : (tq.toList == [100, 101, 97, 100])
          · obtain ⟨r, hr⟩ : ∃ r, r = hallPutF (h.setQ k q') deadN it.note := ⟨_, rfl⟩
            have HR : Hid (r = hallPutF (h.setQ k q') deadN it.note ∧ (r.2.2 = 0 → asideF (h.setQ k q') k it.note = (r.1, r.2.1)) ∧ (r.2.2 ≠ 0 → asideF (h.setQ k q') k it.note = (h.setQ k q', []))) := by
              obtain ⟨hk', hn'⟩ := HH.out.2.2.2.2.2
              have := aside_put (h.setQ k q') k hk' it.note HH.out.2.2.2.1 (by rw [hn', show deadN.toList = [100, 101, 97, 100] from by rw [ByteArray.toList_eq]]; exact hdn)
              rw [← hr] at this
              exact ⟨hr, this.1, this.2⟩
            clear hr
            obtain ⟨⟨i0, i1, i2, i3⟩, ⟨i4, i5, i6⟩, i7, i8⟩ := HK4.out.2.2.2.b7
            have ne1 : w.heap.size ≠ W4.heap.size := by omega
            have ne2 : ib ≠ W4.heap.size := by omega
            go_upto_region 14 with (go_at_call 30; refine (refHallPut_any T4 _ (h.setQ k q') deadN _ _ it.note _ ?_ ?_ HH.out.2.2.1 hnx ?_ HH.out.2.2.2.2.1).mono ?_; (intro b hb; have := (HT4.out.1 b hb).2.1; simp; omega); (exact HV4.out.sub fun b hb => ⟨hb, Below.heap_alloc _ _ _ (HT4.out.1 b hb).2.1⟩); (exact HN4.out.sub fun b hb => ⟨HT4.out.2 b hb, Below.heap_alloc _ _ _ (by have := HSS.out b hb; omega)⟩); rw [← HR.out.1]; rintro e w5 ⟨⟨va5, vc5, ea5, ec5, rfl, hq5, he5⟩, hb5⟩; have hb5' : Below (W4.heap.size + 1) (W4.alloc (.cells #[.int .i64 4, .string tq, .int .i64 0, .int .i64 id, .slice none 0 0, .slice none 0 0] 30)) w5 := ⟨hb5.os, hb5.tape, hb5.output, by simpa using hb5.size, fun b hb => hb5.block b (by simpa using hb)⟩; have hb4 : Below W4.heap.size W4 w5 := (below_alloc W4 (.cells #[.int .i64 4, .string tq, .int .i64 0, .int .i64 id, .slice none 0 0, .slice none 0 0] 30)).trans (hb5'.mono (by omega)); have H5 : Hid (Below W4.heap.size W4 w5 ∧ SliceQ (fun b => T4 b ∨ Made (W4.heap.size + 1) w5.heap.size b) w5 (.slice va5 r.1.queues.length vc5) r.1.queues ∧ SliceE (fun b => T4 b ∨ Made (W4.heap.size + 1) w5.heap.size b) w5 (.slice ea5 r.2.1.length ec5) r.2.1 ∧ w5.ownsRow W4.heap.size 30 6 (.slice (some ⟨W4.heap.size, 0, none⟩) 1 1) 1 (ED.cells (goneE tq id) (.slice none 0 0, .slice none 0 0))) := ⟨hb4, hq5.sub fun b hb => ⟨hb.imp (fun h => h) (fun h => ⟨by have := h.1; simp at this; omega, h.2⟩), rfl⟩, he5.sub fun b hb => ⟨hb.imp (fun h => h) (fun h => ⟨by have := h.1; simp at this; omega, h.2⟩), rfl⟩, own_below (own_entry W4 W4.heap.size W4.heap.size [.int .i64 4, .string tq, .int .i64 0, .int .i64 id, .slice none 0 0, .slice none 0 0] rfl rfl (Nat.le_refl _)) ⟨hb5.os, hb5.tape, hb5.output, hb5.size, hb5.block⟩⟩; have hz5 : W4.heap.size + 1 ≤ w5.heap.size := (by have := hb5'.size; simpa using this); have HEB5 : Hid (Blk w5 W4.heap.size [.int .i64 4, .string tq, .int .i64 0, .int .i64 id, .slice none 0 0, .slice none 0 0]) := (Blk.new W4 [.int .i64 4, .string tq, .int .i64 0, .int .i64 id, .slice none 0 0, .slice none 0 0] 30).below hb5' (by omega); have h50 := bel_c hb4 d4 d0; have h51 := bel_c hb4 d4 d1; have hr5 := HK4.out.2.2.1.below hb4 c4; obtain ⟨j0, j1, j2, j3⟩ := hr5.b2; have h5l : w.heap.size < w5.heap.size := (by omega); clear hb5 hb5' hq5 he5 hb4 hr5 d0 d1 d2 i0 i1 i2 i3 i4 i5 i6 i7 z0 z1 z2 z3 z4 c0 c1 c2)
            have HLR : Hid (r.2.1.length ≤ 1) := by rw [HR.out.1]; exact hallPutF_len _ _ _
            obtain ⟨W6, hW6⟩ : ∃ W6, W6 = w5.alloc (.cells #[.slice va5 r.1.queues.length vc5, .int .i64 r.1.next] 24) := ⟨_, rfl⟩
            have H6 : Hid (Below W4.heap.size W4 W6 ∧ SliceQ (fun b => T4 b ∨ Made (W4.heap.size + 1) w5.heap.size b) W6 (.slice va5 r.1.queues.length vc5) r.1.queues ∧ SliceE (fun b => T4 b ∨ Made (W4.heap.size + 1) w5.heap.size b) W6 (.slice ea5 r.2.1.length ec5) r.2.1 ∧ W6.ownsRow W4.heap.size 30 6 (.slice (some ⟨W4.heap.size, 0, none⟩) 1 1) 1 (ED.cells (goneE tq id) (.slice none 0 0, .slice none 0 0)) ∧ Blk W6 w5.heap.size [.slice va5 r.1.queues.length vc5, .int .i64 r.1.next] ∧ W6.heap.size = w5.heap.size + 1) := by
              have hlt : ∀ b, (T4 b ∨ Made (W4.heap.size + 1) w5.heap.size b) → b < w5.heap.size := fun b hb => by
                rcases hb with hb | hb
                · have := (HT4.out.1 b hb).2.1; omega
                · exact hb.2
              rw [hW6]
              exact ⟨H5.out.1.alloc (by omega) _, H5.out.2.1.sub fun b hb => ⟨hb, Below.heap_alloc _ _ _ (hlt b hb)⟩, H5.out.2.2.1.sub fun b hb => ⟨hb, Below.heap_alloc _ _ _ (hlt b hb)⟩, own_below H5.out.2.2.2 (below_alloc _ _), Blk.new _ _ _, by simp⟩
            have HEB : Hid (Blk W6 W4.heap.size [.int .i64 4, .string tq, .int .i64 0, .int .i64 id, .slice none 0 0, .slice none 0 0]) := by rw [hW6]; exact HEB5.out.alloc _
            rw [← hW6]
            have H6R := HK4.out.2.2.1.below H6.out.1 c4
            have H6H := HK4.out.1.below H6.out.1 d4
            have H6r : Hid (Blk W6 (w.heap.size + 1 + 1) [.slice none 0 0, .int .i64 0]) := H6R
            have HB6 : Hid (Below w.heap.size w W6) := HB4.out.trans (H6.out.1.mono (by omega))
            clear hW6 h50 h51 j0 j1 j2 j3
            by_cases hr0 : r.2.2 = 0
            · have hrb : (r.2.2 == 0) = true := by rw [hr0]; rfl
              have HEF : Hid (rr = (r.1, goneE tq id :: r.2.1, 0)) := by
                have := HE.out
                rw [HR.out.2.1 hr0] at this
                exact this
              obtain ⟨LE, hLE, hLV, hLN⟩ := H6.out.2.2.1
              have hll : r.2.1.length = LE.length := by rw [← hLE]; simp
              have HLV : Hid (SliceV (fun b => T4 b ∨ Made (W4.heap.size + 1) w5.heap.size b) W6 (.slice ea5 r.2.1.length ec5) r.2.1.length (cellsE LE) ∧ (∀ x ∈ LE, NoteIs (fun b => T4 b ∨ Made (W4.heap.size + 1) w5.heap.size b) W6 x.2 x.1.note) ∧ LE.map Prod.fst = r.2.1 ∧ (cellsE LE).length = r.2.1.length * 6 ∧ ∀ u ∈ cellsE LE, u.oneCell' = true) := ⟨by rw [hll] at hLV ⊢; exact hLV, hLN, hLE, by rw [cellsE_len, hll], cellsE_one LE hLN⟩
              have hlr := HLR.out
              clear hLE hLV hLN hll
              obtain ⟨k0, k1, k2, k3⟩ := H6.out.2.2.2.2.1.b2
              obtain ⟨l0, l1, l2, l3⟩ := H6R.b2
              obtain ⟨t0, ht0, tz0, tz1, tz2⟩ := info_parts info92
              have hm1 : w5.heap.size ≠ w.heap.size + 1 + 1 := by omega
              have hm2 : w.heap.size + 1 + 1 ≠ w5.heap.size := by omega
              obtain ⟨V6, hV6⟩ : ∃ V6, V6 = (W6.setCell ⟨w.heap.size + 1 + 1, 0, none⟩ (.slice va5 r.1.queues.length vc5)).setCell ⟨w.heap.size + 1 + 1, 1, none⟩ (.int .i64 r.1.next) := ⟨_, rfl⟩
              go_upto_region 15 with fail
              go_region_law (first
                | (refine step_appV (by rfl) _ _ 37 (by rfl) 30 t0 _ 6 88 Try.underlying37 ht0 tz0 tz1 tz2 rfl (by omega) W4.heap.size (.slice (some ⟨W4.heap.size, 0, none⟩) 1 1) 1 (ED.cells (goneE tq id) (.slice none 0 0, .slice none 0 0)) (by rfl) (own_same (w := W6) H6.out.2.2.2.1 (fun b e => by rfl)) _ (.slice ea5 r.2.1.length ec5) r.2.1.length (cellsE LE) (by rfl) (HLV.out.1.sub fun b hb => ⟨hb, by rfl⟩) HLV.out.2.2.2.1 HLV.out.2.2.2.2 (by unfold maxLen; omega) (by omega) (by simp <;> omega) ?_; intro ao cap w7 ho7 hg7 hm7; have hk7 : ∀ b, b < W6.heap.size → b ≠ W4.heap.size → w7.heap[b]? = W6.heap[b]? := (fun b h1 h2 => hg7.block b h1 (fun e => h2 (by simpa [Value.ownBlock] using e))); have H7 : Hid (w7.ownsRow W4.heap.size 30 6 (.slice ao (1 + r.2.1.length) cap) (1 + r.2.1.length) (ED.cells (goneE tq id) (.slice none 0 0, .slice none 0 0) ++ cellsE LE) ∧ (∀ b, b < W6.heap.size → b ≠ W4.heap.size → w7.heap[b]? = W6.heap[b]?) ∧ W6.heap.size ≤ w7.heap.size ∧ w7.os = W6.os ∧ w7.tape = W6.tape ∧ w7.output = W6.output) := ⟨ho7, hk7, hg7.size, hg7.os, hg7.tape, hg7.output⟩; obtain ⟨m0, m1, m2, m3⟩ := (H6.out.2.2.2.2.1.same (hk7 _ k3 (by omega))).b2; obtain ⟨s0, s1, s2, s3⟩ := (H6r.out.same (hk7 _ l3 (by omega))).b2; clear ho7 hg7 hm7 hk7))
              all_goals
                go_wp2_with fail
                obtain ⟨h71, h72, h73, h74, h75, h76⟩ := H7.out
                have hz6 := H6.out.2.2.2.2.2
                have F : Gn W6 ((w7.setCell ⟨w.heap.size + 1 + 1, 0, none⟩ (.slice va5 r.1.queues.length vc5)).setCell ⟨w.heap.size + 1 + 1, 1, none⟩ (.int .i64 r.1.next)) (w.heap.size + 1 + 1) W4.heap.size (.slice va5 r.1.queues.length vc5) (.int .i64 r.1.next) := by
                  refine ⟨((H6r.out.same (h72 _ l3 (by omega))).set 0 _).set 1 _, fun b g1 g2 g3 => ?_, by simp; exact h73, ?_, ?_, ?_⟩
                  · rw [Below.heap_setCell _ _ _ _ g2, Below.heap_setCell _ _ _ _ g2, h72 b g1 g3]
                  · exact h74
                  · exact h75
                  · exact h76
                obtain ⟨wF, hF⟩ : ∃ wF, wF = (w7.setCell ⟨w.heap.size + 1 + 1, 0, none⟩ (.slice va5 r.1.queues.length vc5)).setCell ⟨w.heap.size + 1 + 1, 1, none⟩ (.int .i64 r.1.next) := ⟨_, rfl⟩
                have hrow : wF.ownsRow W4.heap.size 30 6 (.slice ao (1 + r.2.1.length) cap) (1 + r.2.1.length) (ED.cells (goneE tq id) (.slice none 0 0, .slice none 0 0) ++ cellsE LE) := own_same h71 (fun b e => by
                  have hb := (h71.lt b e).1
                  rw [hF, Below.heap_setCell _ _ _ _ (by simp; omega), Below.heap_setCell _ _ _ _ (by simp; omega)])
                rw [← hF] at F
                rw [← hF]
                clear hF
                have hzF := F.size
                have hT6 : ∀ b, (T4 b ∨ Made (W4.heap.size + 1) w5.heap.size b) → (S b ∨ w.heap.size ≤ b) ∧ b < W6.heap.size ∧ b ≠ w.heap.size + 1 + 1 ∧ b ≠ W4.heap.size := fun b hb => by
                  rcases hb with hb | ⟨g1, g2⟩
                  · have := HT4.out.1 b hb
                    exact ⟨this.1, by omega, by omega, by omega⟩
                  · exact ⟨.inr (by omega), by omega, by omega, by omega⟩
                have hE := entries_more (T := SM S w wF) (e0 := goneE tq id) (p := (.slice none 0 0, .slice none 0 0)) (by rw [← HLV.out.2.2.1]; simp) rfl hrow (fun b e => .inr ⟨by have := (hrow.lt b e).1; omega, (hrow.lt b e).2⟩) (NoteIs.nil _ _) (fun x hx => (HLV.out.2.1 x hx).sub fun b hb => ⟨(hT6 b hb).1.imp (fun h => h) (fun h => ⟨h, by have := (hT6 b hb).2.1; omega⟩), F.keep b (hT6 b hb).2.1 (hT6 b hb).2.2.1 (hT6 b hb).2.2.2⟩)
                rw [HLV.out.2.2.1] at hE
                have hA := Gn.ans (S := S) (hd := r.1) F (by omega) (by omega) HB6.out H6.out.2.1 hT6 hE
                rw [← HEF.out] at hA
                obtain ⟨f0, f1, f2, f3⟩ := F.box.b2
                clear hE hT6 hrow h71 h72 h74 h75 h76 m0 m1 m2 s0 s1 s2 k0 k1 k2 l0 l1 l2 hz6 hr0
                exact bodyPost_ret (v := .tuple #[.agg #[.slice va5 r.1.queues.length vc5, .int .i64 r.1.next], .slice ao (1 + r.2.1.length) cap, .int .i64 0]) (by simp [results, Try.results32, go_sem, *]; done) rfl hA
            · have hrb : (r.2.2 == 0) = false := by simpa using hr0
              have HEF : Hid (rr = (h.setQ k q', [goneE tq id], 0)) := by
                have := HE.out
                rw [HR.out.2.2 hr0] at this
                exact this
              obtain ⟨k0, k1, k2, k3⟩ := H6H.b2
              obtain ⟨l0, l1, l2, l3⟩ := H6R.b2
              go_wp2_with fail
              have F := Fn.B H6r.out (.slice sa h.queues.length sc) (.int .i64 h.next)
              have hE : Blk _ W4.heap.size ((goneE tq id).cells (.slice none 0 0, .slice none 0 0)) := Blk.same (w := W6) (w' := (W6.setCell ⟨w.heap.size + 1 + 1, 0, none⟩ (.slice sa h.queues.length sc)).setCell ⟨w.heap.size + 1 + 1, 1, none⟩ (.int .i64 h.next)) HEB.out (F.keep _ (by have := H6.out.2.2.2.2.2; omega) (by omega))
              have hA := Fn.ans (S := S) (hd := h.setQ k q') F (by omega) HB6.out (HV4.out.sub fun b hb => ⟨hb, H6.out.1.block b (HT4.out.1 b hb).2.1⟩) (fun b hb => ⟨(HT4.out.1 b hb).1, by have := (HT4.out.1 b hb).2.1; have := H6.out.2.2.2.2.2; omega, (HT4.out.1 b hb).2.2.2.1⟩) (entry_one (goneE tq id) _ hE (.inr ⟨by omega, hE.lt⟩) (NoteIs.nil _ _))
              rw [← HEF.out] at hA
              obtain ⟨f0, f1, f2, f3⟩ := F.box.b2
              exact bodyPost_ret (v := .tuple #[.agg #[.slice sa h.queues.length sc, .int .i64 h.next], .slice (some ⟨W4.heap.size, 0, none⟩) 1 1, .int .i64 0]) (by simp [results, Try.results32, go_sem, *]; done) rfl hA
          · have hnx2 : tq = deadN := str_eq (by rw [show deadN.toList = [100, 101, 97, 100] from by rw [ByteArray.toList_eq]]; exact hdn)
            have hidx : idxQ deadN (h.setQ k q').queues = (k : Int) := by rw [HH.out.2.1, ← hnx2]; exact HI.out
            have HE2 : Hid (rr = (h.setQ k q', [goneE tq id], 0)) := by
              have := HE.out
              rw [aside_same _ _ _ hidx] at this
              exact this
            clear hidx hnx2 HE
            go_wp2_with fail
            have F := Fn.A HK4.out.2.2.1 (.slice sa h.queues.length sc) (.int .i64 h.next) (.cells #[.int .i64 4, .string tq, .int .i64 0, .int .i64 id, .slice none 0 0, .slice none 0 0] 30)
            obtain ⟨wF, hF⟩ : ∃ wF, wF = ((W4.setCell ⟨w.heap.size + 1 + 1, 0, none⟩ (.slice sa h.queues.length sc)).setCell ⟨w.heap.size + 1 + 1, 1, none⟩ (.int .i64 h.next)).alloc (.cells #[.int .i64 4, .string tq, .int .i64 0, .int .i64 id, .slice none 0 0, .slice none 0 0] 30) := ⟨_, rfl⟩
            have hE : Blk wF W4.heap.size ((goneE tq id).cells (.slice none 0 0, .slice none 0 0)) := by
              have := Blk.new ((W4.setCell ⟨w.heap.size + 1 + 1, 0, none⟩ (.slice sa h.queues.length sc)).setCell ⟨w.heap.size + 1 + 1, 1, none⟩ (.int .i64 h.next)) [.int .i64 4, .string tq, .int .i64 0, .int .i64 id, .slice none 0 0, .slice none 0 0] 30
              simp only [World.size_setCell] at this
              rw [← hF] at this
              exact this
            rw [← hF] at F
            rw [← hF]
            clear hF
            have hA := Fn.ans (S := S) (hd := h.setQ k q') F (by omega) HB4.out HV4.out (fun b hb => ⟨(HT4.out.1 b hb).1, (HT4.out.1 b hb).2.1, (HT4.out.1 b hb).2.2.2.1⟩) (entry_one (goneE tq id) _ hE (.inr ⟨by omega, hE.lt⟩) (NoteIs.nil _ _))
            rw [← HE2.out] at hA
            obtain ⟨f0, f1, f2, f3⟩ := F.box.b2
            clear hE
            exact bodyPost_ret (v := .tuple #[.agg #[.slice sa h.queues.length sc, .int .i64 h.next], .slice (some ⟨W4.heap.size, 0, none⟩) 1 1, .int .i64 0]) (by simp [results, Try.results32, go_sem, *]; done) rfl hA
end Go.Proofs.Ytkddkpdfeeikhaa
