/-
  Each; Find; Gone: texts laid together.
-/
import Derived.Test.YtkddkpdfeeikhaaHall
/-
  hall.eachOf answers what a function makes of each queue, in new memory; hall.Own.
-/
namespace Go.Proofs.Ytkddkpdfeeikhaa
open Go.RowKit
set_option linter.unusedVariables false
set_option linter.unusedSimpArgs false

attribute [local go_sem ↓] Go.wp_at_zero Go.wp_at_succ

/-- What holds in 'eachOf', behind k queues. -/
structure EI (w : World) (next : Int) (g : QD → QD) (qs : List QD) (k : Nat) (wr : World) (vi : Value) (L' : QuL) : Prop where
  bel : Below w.heap.size w wr
  res : Blk wr (w.heap.size + 1) [.slice none 0 0, .int .i64 0]
  out : Blk wr (w.heap.size + 1 + 1) [vi, .int .i64 next]
  own : wr.ownsRow (w.heap.size + 3) 76 3 vi L'.length (cellsQ L')
  items : ∀ x ∈ L', SliceI (fun b => w.heap.size + 3 ≤ b ∧ b < wr.heap.size ∧ vi.ownBlock ≠ some b) wr x.2 x.1.items
  list : L'.map Prod.fst = (qs.take k).map g

section
variable {w : World} {next : Int} {g : QD → QD} {qs : List QD} {k : Nat} {wr : World} {vi : Value} {L' : QuL}

theorem EI.lt (h : EI w next g qs k wr vi L') : w.heap.size + 3 ≤ wr.heap.size := by have := h.out.lt; omega

theorem EI.on (h : EI w next g qs k wr vi L') {W : World} (hb : Below wr.heap.size wr W) : EI w next g qs k W vi L' := by
  have hl := h.lt
  exact ⟨h.bel.trans (hb.mono h.bel.size), h.res.below hb h.res.lt, h.out.below hb h.out.lt, own_below h.own hb, fun x hx => (h.items x hx).sub fun b hbb => ⟨⟨hbb.1, by have := hb.size; omega, hbb.2.2⟩, hb.block b hbb.2.1⟩, h.list⟩

theorem EI.more (h : EI w next g qs k wr vi L') (hk : k < qs.length) {w1 w2 : World} {v : Value} {o : Obj} {gg cap : Nat}
    (hn : SliceI (Made wr.heap.size w1.heap.size) w1 v (g qs[k]).items) (h1 : Below wr.heap.size wr w1)
    (ho : w2.ownsRow (w.heap.size + 3) 76 3 (.slice (some ⟨gg, 0, none⟩) (L'.length + 1) cap) (L'.length + 1) (cellsQ L' ++ (g qs[k]).cells v)) (hg : (w1.alloc o).grownBy w2 vi.ownBlock) (hat : vi.ownBlock = some gg ∨ gg = w1.heap.size + 1) (hgl : gg < w2.heap.size) :
    EI w next g qs (k + 1) (w2.setCell ⟨w.heap.size + 1 + 1, 0, none⟩ (.slice (some ⟨gg, 0, none⟩) (L'.length + 1) cap)) (.slice (some ⟨gg, 0, none⟩) (L'.length + 1) cap) (L' ++ [(g qs[k], v)]) := by
  have hl := h.lt
  have hz1 := h1.size
  have hz2 : w1.heap.size + 1 ≤ w2.heap.size := by have := hg.size; simp at this; omega
  have hown : ∀ b, vi.ownBlock = some b → w.heap.size + 3 ≤ b ∧ b < wr.heap.size := fun b hb => h.own.lt b hb
  have blk : ∀ b, b < w1.heap.size → vi.ownBlock ≠ some b → w2.heap[b]? = w1.heap[b]? := fun b hb hn => (hg.block b (by simp; omega) (fun e => hn e.symm)).trans (Below.heap_alloc _ _ _ hb)
  have blk' : ∀ b, b < wr.heap.size → vi.ownBlock ≠ some b → w2.heap[b]? = wr.heap[b]? := fun b hb hn => (blk b (by omega) hn).trans (h1.block b hb)
  have blo : ∀ b, b < w.heap.size + 3 → w2.heap[b]? = wr.heap[b]? := fun b hb => blk' b (by omega) (fun e => by have := (hown b e).1; omega)
  have hge : ∀ b, vi.ownBlock ≠ some b → b < w1.heap.size → (Value.slice (some ⟨gg, 0, none⟩) (L'.length + 1) cap).ownBlock ≠ some b := fun b hb hlt e => by
    simp only [Value.ownBlock, Option.some.injEq] at e
    subst e
    rcases hat with h | h
    · exact hb h
    · omega
  refine ⟨⟨?_, ?_, ?_, ?_, fun b hb => ?_⟩, ?_, ?_, ?_, fun x hx => ?_, ?_⟩
  · exact hg.os.trans (h1.os.trans h.bel.os)
  · exact hg.tape.trans (h1.tape.trans h.bel.tape)
  · exact hg.output.trans (h1.output.trans h.bel.output)
  · simp; have := h.bel.size; omega
  · rw [Below.heap_setCell _ _ _ _ (by simp; omega), blo b (by omega)]
    exact h.bel.block b hb
  · exact (h.res.same (blo _ (by omega))).far (by simp) _
  · exact (h.out.same (blo _ (by omega))).set 0 _
  · rw [List.length_append, cellsQ_append]
    have : cellsQ [(g qs[k], v)] = (g qs[k]).cells v := by simp [cellsQ]
    rw [this]
    exact ownsRow_setCell_below ho (by simp) _
  · rw [List.mem_append, List.mem_singleton] at hx
    rcases hx with hx | rfl
    · refine (h.items x hx).sub fun b hb => ⟨⟨hb.1, by simp; omega, hge b hb.2.2 (by omega)⟩, ?_⟩
      rw [Below.heap_setCell _ _ _ _ (by simp; omega), blk' b hb.2.1 hb.2.2]
    · refine hn.sub fun b hb => ?_
      obtain ⟨hb1, hb2⟩ := hb
      have hno : vi.ownBlock ≠ some b := fun e => by have := (hown b e).2; omega
      refine ⟨⟨by omega, by simp; omega, hge b hno hb2⟩, ?_⟩
      rw [Below.heap_setCell _ _ _ _ (by simp; omega), blk b hb2 hno]
  · rw [List.map_append, h.list, List.take_succ_eq_append_getElem hk, List.map_append]
    simp
end

theorem info25 : (Try.prog.info? 76).map (fun i => (i.zero, i.size, i.bytes)) = some (some (.agg #[.string ByteArray.empty, .int .i64 0, .slice none 0 0]), 3, 48) := by kernel_rfl

theorem EI.start (w : World) (next : Int) (g : QD → QD) (qs : List QD) (v : Value) :
    EI w next g qs 0 (((w.alloc (.cells #[v, .int .i64 next] 24)).alloc (.cells #[.slice none 0 0, .int .i64 0] 24)).alloc (.cells #[.slice none 0 0, .int .i64 next] 24)) (.slice none 0 0) [] := by
  have b3 : Below w.heap.size w (((w.alloc (.cells #[v, .int .i64 next] 24)).alloc (.cells #[.slice none 0 0, .int .i64 0] 24)).alloc (.cells #[.slice none 0 0, .int .i64 next] 24)) := ((below_alloc _ _).alloc (by simp) _).alloc (by simp; omega) _
  refine ⟨b3, ?_, ?_, World.ownsRow_nil _ _ _ _, by simp, by simp⟩
  · have := (Blk.new (w.alloc (.cells #[v, .int .i64 next] 24)) [.slice none 0 0, .int .i64 0] 24).alloc (.cells #[.slice none 0 0, .int .i64 next] 24)
    simpa using this
  · have := Blk.new ((w.alloc (.cells #[v, .int .i64 next] 24)).alloc (.cells #[.slice none 0 0, .int .i64 0] 24)) [.slice none 0 0, .int .i64 next] 24
    simpa using this

/-- Queues of one's own: a row that the call made, items in other blocks that it made. -/
def OwnQ (base : Nat) (w : World) (v : Value) (qs : List QD) : Prop :=
  ∃ L : QuL, L.map Prod.fst = qs ∧ w.ownsRow base 76 3 v L.length (cellsQ L) ∧ ∀ x ∈ L, SliceI (fun b => base ≤ b ∧ b < w.heap.size ∧ v.ownBlock ≠ some b) w x.2 x.1.items

def smallQ (qs : List QD) : Prop := qs.length ≤ 4194304 ∧ ∀ q ∈ qs, smallI q.items

theorem enter47 (args : Array Value) (W : World) : (callFunc 87 args).run Try.prog W = .ok (.enter 87 args) W := by go_simp

theorem OwnQ.slice {base : Nat} {w : World} {v : Value} {qs : List QD} (h : OwnQ base w v qs) : SliceQ (Made base w.heap.size) w v qs := by
  obtain ⟨L, e, h1, h2⟩ := h
  exact ⟨L, e, (own_slice h1).sub fun k hk => ⟨h1.lt k hk, rfl⟩, fun x hx => (h2 x hx).sub fun b hb => ⟨⟨hb.1, hb.2.1⟩, rfl⟩⟩
theorem SliceQ.under {lo hi : Nat} {w : World} {v : Value} {qs : List QD} (h : SliceQ (Made lo hi) w v qs) : SliceQ (Under hi) w v qs := h.sub fun k hk => ⟨hk.2, rfl⟩
theorem SliceE.under {lo hi : Nat} {w : World} {v : Value} {qs : List ED} (h : SliceE (Made lo hi) w v qs) : SliceE (Under hi) w v qs := h.sub fun k hk => ⟨hk.2, rfl⟩

/-- A box for it. -/
theorem OwnQ.box {base : Nat} {w : World} {v : Value} {h : HD} (H : OwnQ base w v h.queues) : ∃ L : QuL, L.map Prod.fst = h.queues ∧ HallIn (Made base w.heap.size) w.heap.size (w.alloc (.cells #[v, .int .i64 h.next] 24)) v L h.next := by
  obtain ⟨L, e, h1, h2⟩ := H
  refine ⟨L, e, Blk.new _ _ _, (own_mono h1 (Nat.zero_le _)).alloc _, fun b hb => h1.lt b hb, fun x hx => (h2 x hx).sub fun b hb => ⟨⟨⟨hb.1, hb.2.1⟩, hb.2.2⟩, Below.heap_alloc _ _ _ hb.2.1⟩, fun b hb => by have := hb.2; simp; omega, fun hb => by have := hb.2; omega⟩
end Go.Proofs.Ytkddkpdfeeikhaa

/-
  hall.Find tells the place of a queue.
-/
namespace Go.Proofs.Ytkddkpdfeeikhaa
open Go.RowKit
set_option linter.unusedVariables false
set_option linter.unusedSimpArgs false

attribute [local go_sem ↓] Go.wp_at_zero Go.wp_at_succ

/-- Whether a queue has this name. -/
def nameB (name : ByteArray) (q : QD) : Bool := q.name.toList == name.toList
theorem bytes_inj {a b : ByteArray} (h : a.toList = b.toList) : a = b := by
  rw [ByteArray.toList_eq, ByteArray.toList_eq] at h
  exact ByteArray.ext (Array.toList_inj.1 h)
theorem nameB_eq {name : ByteArray} {q : QD} (h : nameB name q = true) : q.name = name := bytes_inj (by simpa [nameB] using h)
theorem nameB_self (q : QD) : nameB q.name q = true := by simp [nameB]
/-- The place of the first that fits; else -1. -/
def idxQ (name : ByteArray) (qs : List QD) : Int := match qs.findIdx? (nameB name) with
  | some k => (k : Int)
  | none => -1

theorem idxQ_yes (name : ByteArray) (qs : List QD) (k : Nat) (hk : k < qs.length) (hn : ∀ x ∈ qs.take k, nameB name x = false) (hp : nameB name qs[k] = true) : idxQ name qs = k := by
  have : qs.findIdx? (nameB name) = some k := by
    rw [List.findIdx?_eq_some_iff_getElem]
    refine ⟨hk, hp, fun j hj => ?_⟩
    have := hn qs[j] (by rw [List.mem_take_iff_getElem]; exact ⟨j, by omega, rfl⟩)
    simpa using this
  simp [idxQ, this]
theorem idxQ_no (name : ByteArray) (qs : List QD) (hn : ∀ x ∈ qs, nameB name x = false) : idxQ name qs = -1 := by
  have : qs.findIdx? (nameB name) = none := by
    rw [List.findIdx?_eq_none_iff]
    exact hn
  simp [idxQ, this]
theorem idxQ_cases (name : ByteArray) (qs : List QD) : (idxQ name qs = -1 ∧ ∀ x ∈ qs, nameB name x = false) ∨ ∃ k, ∃ h : k < qs.length, idxQ name qs = (k : Int) ∧ qs[k].name = name ∧ ∀ j (hj : j < k), nameB name (qs[j]'(by omega)) = false := by
  cases h : qs.findIdx? (nameB name) with
  | none =>
    rw [List.findIdx?_eq_none_iff] at h
    exact .inl ⟨idxQ_no _ _ h, h⟩
  | some k =>
    have h' := h
    rw [List.findIdx?_eq_some_iff_getElem] at h
    obtain ⟨hk, hp, hn⟩ := h
    exact .inr ⟨k, hk, by simp [idxQ, h'], nameB_eq hp, fun j hj => by simpa using hn j hj⟩

end Go.Proofs.Ytkddkpdfeeikhaa

/-
  hall.gone tells entries of items that are no more.
-/
namespace Go.Proofs.Ytkddkpdfeeikhaa
open Go.RowKit
set_option linter.unusedVariables false
set_option linter.unusedSimpArgs false

attribute [local go_sem ↓] Go.wp_at_zero Go.wp_at_succ

def nN : ND := ⟨[], []⟩
def putE (name : ByteArray) (id : Int) (n : ND) : ED := ⟨3, name, 0, id, n⟩

/-- Entries of one's own: a row that the call made, notes in other blocks that it made. -/
def OwnE (base : Nat) (w : World) (v : Value) (es : List ED) : Prop :=
  ∃ L : EnL, L.map Prod.fst = es ∧ w.ownsRow base 30 6 v L.length (cellsE L) ∧ ∀ x ∈ L, NoteIs (fun b => base ≤ b ∧ b < w.heap.size ∧ v.ownBlock ≠ some b) w x.2 x.1.note

theorem OwnE.slice {base : Nat} {w : World} {v : Value} {es : List ED} (h : OwnE base w v es) : SliceE (Made base w.heap.size) w v es := by
  obtain ⟨L, e, h1, h2⟩ := h
  exact ⟨L, e, (own_slice h1).sub fun k hk => ⟨h1.lt k hk, rfl⟩, fun x hx => (h2 x hx).sub fun b hb => ⟨⟨hb.1, hb.2.1⟩, rfl⟩⟩
theorem OwnE.nil (base : Nat) (w : World) : OwnE base w (.slice none 0 0) [] := ⟨[], rfl, World.ownsRow_nil _ _ _ _, by simp⟩
theorem OwnE.mono {base base' : Nat} {w : World} {v : Value} {es : List ED} (h : OwnE base w v es) (hb : base' ≤ base) : OwnE base' w v es := by
  obtain ⟨L, e, h1, h2⟩ := h
  exact ⟨L, e, own_mono h1 hb, fun x hx => (h2 x hx).sub fun b h => ⟨⟨Nat.le_trans hb h.1, h.2⟩, rfl⟩⟩
theorem OwnE.kept {base : Nat} {w w' : World} {v : Value} {es : List ED} (h : OwnE base w v es) (hz : w.heap.size ≤ w'.heap.size) (hb : ∀ k, base ≤ k → k < w.heap.size → w'.heap[k]? = w.heap[k]?) : OwnE base w' v es := by
  obtain ⟨L, e, h1, h2⟩ := h
  exact ⟨L, e, own_same h1 (fun b hb' => hb b (h1.lt b hb').1 (h1.lt b hb').2), fun x hx => (h2 x hx).sub fun b h => ⟨⟨h.1, by omega, h.2.2⟩, hb b h.1 h.2.1⟩⟩
theorem OwnE.shp {base : Nat} {w : World} {v : Value} {es : List ED} (h : OwnE base w v es) : ∃ a cap, v = .slice a es.length cap := h.slice.shp

theorem info92 : (Try.prog.info? 30).map (fun i => (i.zero, i.size, i.bytes)) = some (some (.agg #[.int .i64 0, .string ByteArray.empty, .int .i64 0, .int .i64 0, .slice none 0 0, .slice none 0 0]), 6, 88) := by kernel_rfl

/-- A new row, whole. -/
theorem row_any (w : World) (cs : List Value) (t : TypeId) (n : Nat) (hn : n ≤ maxLen) : SliceV (fun b => b = w.heap.size) (w.alloc (.cells cs.toArray t)) (.slice (some ⟨w.heap.size, 0, none⟩) n n) n cs := by
  refine ⟨_, _, rfl, Nat.le_refl _, hn, fun h => by simp at h, fun i hi => ⟨w.heap.size, 0, rfl, rfl, ?_⟩⟩
  rw [(Blk.new w cs t).cell]
  simp [hi]

end Go.Proofs.Ytkddkpdfeeikhaa
