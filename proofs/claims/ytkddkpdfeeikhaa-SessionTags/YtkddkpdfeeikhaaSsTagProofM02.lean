/-
  Kept; Delete: texts laid together.
-/
import Derived.Test.YtkddkpdfeeikhaaSsTagProofM01
import Derived.Lib.SliceRun
/-
  queue.kept answers those items of which a function holds, in new memory.
-/
namespace Go.Proofs.Ytkddkpdfeeikhaa
open Go.RowKit
set_option linter.unusedVariables false
set_option linter.unusedSimpArgs false

attribute [local go_sem ↓] Go.wp_at_zero Go.wp_at_succ

/-- All is as it was in the blocks of S. -/
structure Keep (S : Nat → Prop) (w w' : World) : Prop where
  os : w'.os = w.os
  tape : w'.tape = w.tape
  output : w'.output = w.output
  size : w.heap.size ≤ w'.heap.size
  block : ∀ k, S k → w'.heap[k]? = w.heap[k]?

theorem Keep.of {S : Nat → Prop} {B : Nat} {w w' : World} (h : Below B w w') (hS : ∀ k, S k → k < B) : Keep S w w' := ⟨h.os, h.tape, h.output, h.size, fun k hk => h.block k (hS k hk)⟩
theorem Keep.below {S : Nat → Prop} {B : Nat} {w w' : World} (h : Keep S w w') (hS : ∀ k, k < B → S k) : Below B w w' := ⟨h.os, h.tape, h.output, h.size, fun k hk => h.block k (hS k hk)⟩
theorem Keep.trans {S T : Nat → Prop} {a b c : World} (h : Keep S a b) (k : Keep T b c) (hS : ∀ x, S x → T x) : Keep S a c :=
  ⟨k.os.trans h.os, k.tape.trans h.tape, k.output.trans h.output, Nat.le_trans h.size k.size, fun x hx => (k.block x (hS x hx)).trans (h.block x hx)⟩

/-- A function that is asked of each item in turn; R is what it has made of its own memory, in the blocks of fp. -/
structure Stays (F : Nat) (caps : List Value) (p : IT → Bool) (R : Nat → World → (Nat → Prop) → Prop) (its : List IT) : Prop where
  enter : ∀ args W, (callFunc F args).run Try.prog W = .ok (.enter F args) W
  stable : ∀ k W W' fp, R k W fp → W.heap.size ≤ W'.heap.size → (∀ b, fp b → W'.heap[b]? = W.heap[b]?) → R k W' fp
  call : ∀ k it, its[k]? = some it → ∀ (va ua : Option Addr) (vn vc un uc : Nat) (W : World) (fp : Nat → Prop), R k W fp → (∀ b, fp b → b < W.heap.size) →
    Calls Try.prog F (Value.agg #[.int .i64 it.id, .int .i64 it.turn, .int .i64 it.tries, .bool it.out, .int .i64 it.due, .slice va vn vc, .slice ua un uc] :: caps).toArray W fun e w' =>
      e = .returned (.bool (p it)) ∧ ∃ fp', R (k + 1) w' fp' ∧ (∀ b, fp' b → fp b ∨ (W.heap.size ≤ b ∧ b < w'.heap.size)) ∧ Keep (fun b => b < W.heap.size ∧ ¬ fp b) W w'

/-- What holds in 'kept', behind k items; r of them were asked. -/
structure KI (w : World) (fp0 : Nat → Prop) (name : ByteArray) (limit : Int) (p : IT → Bool) (R : Nat → World → (Nat → Prop) → Prop) (L : ItL) (r k : Nat) (wr : World) (vi : Value) (L' : ItL) (fp : Nat → Prop) : Prop where
  keep : Keep (fun b => b < w.heap.size ∧ ¬ fp0 b) w wr
  res : Blk wr (w.heap.size + 1) [.string ByteArray.empty, .int .i64 0, .slice none 0 0]
  out : Blk wr (w.heap.size + 1 + 1) [.string name, .int .i64 limit, vi]
  own : wr.ownsRow (w.heap.size + 3) 78 7 vi L'.length (cellsI L')
  notes : ∀ x ∈ L', NoteIs (fun b => w.heap.size + 3 ≤ b ∧ b < wr.heap.size ∧ vi.ownBlock ≠ some b ∧ ¬ fp b) wr x.2 x.1.note
  items : L'.map Prod.fst = ((L.take k).map Prod.fst).filter p
  rel : R r wr fp
  foot : ∀ b, fp b → (fp0 b ∧ b < w.heap.size) ∨ (w.heap.size + 3 ≤ b ∧ b < wr.heap.size ∧ vi.ownBlock ≠ some b)

section
variable {w : World} {fp0 : Nat → Prop} {name : ByteArray} {limit : Int} {p : IT → Bool} {R : Nat → World → (Nat → Prop) → Prop} {L : ItL} {r k : Nat} {wr : World} {vi : Value} {L' : ItL} {fp : Nat → Prop} {F : Nat} {caps : List Value} {its : List IT}

theorem KI.lt (h : KI w fp0 name limit p R L r k wr vi L' fp) : w.heap.size + 3 ≤ wr.heap.size := by have := h.out.lt; omega

theorem KI.fpl (h : KI w fp0 name limit p R L r k wr vi L' fp) (b : Nat) (hb : fp b) : b < wr.heap.size := by
  have := h.lt
  rcases h.foot b hb with h | h
  · omega
  · exact h.2.1

theorem KI.on (hs : Stays F caps p R its) (h : KI w fp0 name limit p R L r k wr vi L' fp) {W : World} (hb : Below wr.heap.size wr W) : KI w fp0 name limit p R L r k W vi L' fp := by
  have hl := h.lt
  refine ⟨h.keep.trans (Keep.of (S := fun b => b < wr.heap.size) hb (fun _ h => h)) (fun x hx => ?_), h.res.below hb h.res.lt, h.out.below hb h.out.lt, own_below h.own hb, fun x hx => (h.notes x hx).sub fun b hbb => ⟨⟨hbb.1, ?_, hbb.2.2⟩, hb.block b hbb.2.1⟩, h.items, ?_, fun b hbb => ?_⟩
  · show x < _
    omega
  · have := hb.size; omega
  · exact hs.stable _ _ _ _ h.rel hb.size (fun b hbb => hb.block b (h.fpl b hbb))
  · rcases h.foot b hbb with h | h
    · exact .inl h
    · exact .inr ⟨h.1, by have := hb.size; omega, h.2.2⟩

/-- Behind the question. -/
theorem KI.asked (h : KI w fp0 name limit p R L r k wr vi L' fp) {W : World} {fp' : Nat → Prop} (hR : R (r + 1) W fp') (hf : ∀ b, fp' b → fp b ∨ (wr.heap.size ≤ b ∧ b < W.heap.size)) (hk : Keep (fun b => b < wr.heap.size ∧ ¬ fp b) wr W) : KI w fp0 name limit p R L (r + 1) k W vi L' fp' := by
  have hl := h.lt
  have nf : ∀ b, w.heap.size ≤ b → b < w.heap.size + 3 → ¬ fp b := fun b h1 h2 hb => by
    rcases h.foot b hb with h | h <;> omega
  have own : ∀ b, vi.ownBlock = some b → ¬ fp b := fun b hv hb => by
    rcases h.foot b hb with h3 | h3
    · have := (h.own.lt b hv).1; omega
    · exact h3.2.2 hv
  refine ⟨h.keep.trans hk (fun x hx => ⟨by omega, fun hb => ?_⟩), h.res.same (hk.block _ ⟨h.res.lt, nf _ (by omega) (by omega)⟩), h.out.same (hk.block _ ⟨h.out.lt, nf _ (by omega) (by omega)⟩), ?_, fun x hx => (h.notes x hx).sub fun b hbb => ⟨⟨hbb.1, ?_, hbb.2.2.1, fun hf' => ?_⟩, hk.block b ⟨hbb.2.1, hbb.2.2.2⟩⟩, h.items, hR, fun b hbb => ?_⟩
  · rcases h.foot x hb with h | h
    · exact hx.2 h.1
    · omega
  · refine ⟨h.own.1, ?_⟩
    rcases h.own.2 with h1 | ⟨g, cap, cur, e, hb, hg, hr⟩
    · exact .inl h1
    · refine .inr ⟨g, cap, cur, e, hb, (hk.block g ⟨(Array.getElem?_eq_some_iff.1 hg).1, own g (by rw [e]; rfl)⟩).trans hg, hr⟩
  · have := hk.size; omega
  · rcases hf b hf' with h1 | h1
    · exact hbb.2.2.2 h1
    · omega
  · have := hk.size
    rcases hf b hbb with h1 | h1
    · rcases h.foot b h1 with h2 | h2
      · exact .inl h2
      · exact .inr ⟨h2.1, by omega, h2.2.2⟩
    · refine .inr ⟨by omega, h1.2, fun e => ?_⟩
      have := (h.own.lt b e).2
      omega

/-- The item does not stay. -/
theorem KI.less (h : KI w fp0 name limit p R L r k wr vi L' fp) (hk : k < L.length) (hp : p L[k].1 = false) : KI w fp0 name limit p R L r (k + 1) wr vi L' fp := by
  refine ⟨h.keep, h.res, h.out, h.own, h.notes, ?_, h.rel, h.foot⟩
  rw [h.items, List.take_succ_eq_append_getElem hk, List.map_append, List.filter_append]
  simp [hp, -List.map_take]

/-- The item stays. -/
theorem KI.more (hs : Stays F caps p R its) (h : KI w fp0 name limit p R L r k wr vi L' fp) (hk : k < L.length) (hp : p L[k].1 = true) {w1 w2 : World} {q : Value × Value} {o : Obj} {g cap : Nat}
    (hn : NoteIs (Made wr.heap.size w1.heap.size) w1 q L[k].1.note) (h1 : Below wr.heap.size wr w1)
    (ho : w2.ownsRow (w.heap.size + 3) 78 7 (.slice (some ⟨g, 0, none⟩) (L'.length + 1) cap) (L'.length + 1) (cellsI L' ++ L[k].1.cells q)) (hg : (w1.alloc o).grownBy w2 vi.ownBlock) (hat : vi.ownBlock = some g ∨ g = w1.heap.size + 1) (hgl : g < w2.heap.size) :
    KI w fp0 name limit p R L r (k + 1) (w2.setCell ⟨w.heap.size + 1 + 1, 2, none⟩ (.slice (some ⟨g, 0, none⟩) (L'.length + 1) cap)) (.slice (some ⟨g, 0, none⟩) (L'.length + 1) cap) (L' ++ [(L[k].1, q)]) fp := by
  have hl := h.lt
  have hz1 := h1.size
  have hz2 : w1.heap.size + 1 ≤ w2.heap.size := by have := hg.size; simp at this; omega
  have hown : ∀ b, vi.ownBlock = some b → w.heap.size + 3 ≤ b ∧ b < wr.heap.size := fun b hb => h.own.lt b hb
  have blk : ∀ b, b < w1.heap.size → vi.ownBlock ≠ some b → w2.heap[b]? = w1.heap[b]? := fun b hb hn => (hg.block b (by simp; omega) (fun e => hn e.symm)).trans (Below.heap_alloc _ _ _ hb)
  have blk' : ∀ b, b < wr.heap.size → vi.ownBlock ≠ some b → w2.heap[b]? = wr.heap[b]? := fun b hb hn => (blk b (by omega) hn).trans (h1.block b hb)
  have blo : ∀ b, b < w.heap.size + 3 → w2.heap[b]? = wr.heap[b]? := fun b hb => blk' b (by omega) (fun e => by have := (hown b e).1; omega)
  have hge : ∀ b, vi.ownBlock ≠ some b → b < w1.heap.size → (Value.slice (some ⟨g, 0, none⟩) (L'.length + 1) cap).ownBlock ≠ some b := fun b hb hlt e => by
    simp only [Value.ownBlock, Option.some.injEq] at e
    subst e
    rcases hat with h | h
    · exact hb h
    · omega
  refine ⟨⟨?_, ?_, ?_, ?_, fun b hb => ?_⟩, ?_, ?_, ?_, fun x hx => ?_, ?_, ?_, fun b hb => ?_⟩
  · exact hg.os.trans (h1.os.trans h.keep.os)
  · exact hg.tape.trans (h1.tape.trans h.keep.tape)
  · exact hg.output.trans (h1.output.trans h.keep.output)
  · simp; have := h.keep.size; omega
  · rw [Below.heap_setCell _ _ _ _ (by simp; omega), blo b (by omega)]
    exact h.keep.block b hb
  · exact (h.res.same (blo _ (by omega))).far (by simp) _
  · exact (h.out.same (blo _ (by omega))).set 2 _
  · rw [List.length_append, cellsI_snoc]
    exact ownsRow_setCell_below ho (by simp) _
  · rw [List.mem_append, List.mem_singleton] at hx
    rcases hx with hx | rfl
    · refine (h.notes x hx).sub fun b hb => ⟨⟨hb.1, by simp; omega, hge b hb.2.2.1 (by omega), hb.2.2.2⟩, ?_⟩
      rw [Below.heap_setCell _ _ _ _ (by simp; omega), blk' b hb.2.1 hb.2.2.1]
    · refine hn.sub fun b hb => ?_
      obtain ⟨hb1, hb2⟩ := hb
      have hno : vi.ownBlock ≠ some b := fun e => by have := (hown b e).2; omega
      refine ⟨⟨by omega, by simp; omega, hge b hno hb2, fun hf => ?_⟩, ?_⟩
      · have := h.fpl b hf; omega
      · rw [Below.heap_setCell _ _ _ _ (by simp; omega), blk b hb2 hno]
  · rw [List.map_append, h.items, List.take_succ_eq_append_getElem hk, List.map_append, List.filter_append]
    simp [hp, -List.map_take]
  · refine hs.stable _ _ _ _ h.rel (by simp; omega) (fun b hb => ?_)
    have := h.fpl b hb
    have nb : b ≠ w.heap.size + 1 + 1 := fun e => by
      rcases h.foot b hb with h | h <;> omega
    rw [Below.heap_setCell _ _ _ _ nb]
    refine blk' b this (fun e => ?_)
    rcases h.foot b hb with h3 | h3
    · have := (hown b e).1; omega
    · exact h3.2.2 e
  · rcases h.foot b hb with h3 | h3
    · exact .inl h3
    · exact .inr ⟨h3.1, by simp; omega, hge b h3.2.2 (by omega)⟩
end

theorem info34 : (Try.prog.info? 78).map (fun i => (i.zero, i.size, i.bytes)) = some (some (.agg #[.int .i64 0, .int .i64 0, .int .i64 0, .bool false, .int .i64 0, .slice none 0 0, .slice none 0 0]), 7, 88) := by kernel_rfl

theorem KI.start (w : World) (fp0 : Nat → Prop) (name : ByteArray) (limit : Int) (p : IT → Bool) {R : Nat → World → (Nat → Prop) → Prop} (L : ItL) {F : Nat} {caps : List Value} {its : List IT} (hs : Stays F caps p R its) (hR : R 0 w fp0) (hf : ∀ b, fp0 b → b < w.heap.size) (v : Value) :
    KI w fp0 name limit p R L 0 0 (((w.alloc (.cells #[.string name, .int .i64 limit, v] 76)).alloc (.cells #[.string ByteArray.empty, .int .i64 0, .slice none 0 0] 76)).alloc (.cells #[.string name, .int .i64 limit, .slice none 0 0] 76)) (.slice none 0 0) [] fp0 := by
  have b3 : Below w.heap.size w (((w.alloc (.cells #[.string name, .int .i64 limit, v] 76)).alloc (.cells #[.string ByteArray.empty, .int .i64 0, .slice none 0 0] 76)).alloc (.cells #[.string name, .int .i64 limit, .slice none 0 0] 76)) := ((below_alloc _ _).alloc (by simp) _).alloc (by simp; omega) _
  refine ⟨Keep.of b3 (fun k h => h.1), ?_, ?_, World.ownsRow_nil _ _ _ _, by simp, by simp, hs.stable _ _ _ _ hR b3.size (fun b hb => b3.block b (hf b hb)), fun b hb => .inl ⟨hb, hf b hb⟩⟩
  · have := (Blk.new (w.alloc (.cells #[.string name, .int .i64 limit, v] 76)) [.string ByteArray.empty, .int .i64 0, .slice none 0 0] 76).alloc (.cells #[.string name, .int .i64 limit, .slice none 0 0] 76)
    simpa using this
  · have := Blk.new ((w.alloc (.cells #[.string name, .int .i64 limit, v] 76)).alloc (.cells #[.string ByteArray.empty, .int .i64 0, .slice none 0 0] 76)) [.string name, .int .i64 limit, .slice none 0 0] 76
    simpa using this

set_option maxRecDepth 100000 in
set_option maxHeartbeats 3200000 in
theorem kept_any (F : Nat) (caps : List Value) (p : IT → Bool) (R : Nat → World → (Nat → Prop) → Prop) (fp0 : Nat → Prop) (v : Value) (name : ByteArray) (limit : Int) (L : ItL) (w : World) (hv : SliceL (fun b => b < w.heap.size ∧ ¬ fp0 b) w v L) (hsm : ∀ x ∈ L, x.1.note.small) (hlen : L.length ≤ 4194304) (hs : Stays F caps p R (L.map Prod.fst)) (hR : R 0 w fp0) (hf : ∀ b, fp0 b → b < w.heap.size) :
    Calls Try.prog 109 #[.agg #[.string name, .int .i64 limit, v], .func (.func F) #[] caps.toArray] w fun e w' => ∃ vi L' fp, e = .returned (.agg #[.string name, .int .i64 limit, vi]) ∧ L'.map Prod.fst = (L.map Prod.fst).filter p ∧
      w'.ownsRow (w.heap.size + 3) 78 7 vi L'.length (cellsI L') ∧ (∀ x ∈ L', NoteIs (fun b => w.heap.size + 3 ≤ b ∧ b < w'.heap.size ∧ vi.ownBlock ≠ some b ∧ ¬ fp b) w' x.2 x.1.note) ∧ Keep (fun b => b < w.heap.size ∧ ¬ fp0 b) w w' ∧
      R L.length w' fp ∧ (∀ b, fp b → (fp0 b ∧ b < w.heap.size) ∨ (w.heap.size + 3 ≤ b ∧ b < w'.heap.size ∧ vi.ownBlock ≠ some b)) := by
  obtain ⟨i0, hi0, hz0, hz1, hz2⟩ := info_parts info34
  have HV : Hid (SliceL (fun b => b < w.heap.size ∧ ¬ fp0 b) w v L) := hv
  have HM : Hid (∀ x ∈ L, x.1.note.small) := hsm
  have HS : Hid (Stays F caps p R (L.map Prod.fst)) := hs
  have HK : Hid (KI w fp0 name limit p R L 0 0 _ (.slice none 0 0) [] fp0) := KI.start w fp0 name limit p L hs hR hf v
  have hE := hs.enter
  obtain ⟨va, vc, rfl, h1, h2, h3⟩ := hv.1.shape
  unfold maxLen at h2
  clear hv hsm hs hR hf
  go_enter Try.func109, Try.ntmps109
  go_wp2
  go_loopw [16] (fun i wr => ∃ k : Nat, k ≤ L.length ∧ i = .int .i64 k ∧ ∃ vi L' fp, KI w fp0 name limit p R L k k wr vi L' fp)
    (fun i _ => L.length - (intOf i).toNat)
  case atStart => exact ⟨0, Nat.zero_le _, rfl, _, _, _, HK.out⟩
  case round =>
    obtain ⟨k, hk, rfl, vi, L', fp, hI⟩ := hrel
    have HI : Hid (KI w fp0 name limit p R L k k wr vi L' fp) := hI
    clear HK
    by_cases hlt : k < L.length
    · have hno := hI.keep
      obtain ⟨b, off, rfl, hS, ⟨c0, c1, c2, c3⟩, c4, c5, c6⟩ := (HV.out.sub fun b hb => ⟨hb, hno.block b hb⟩).at k hlt
      have hnote := HV.out.2 L[k] (List.getElem_mem hlt)
      obtain ⟨pa, pc, e1, -⟩ := SliceV.shape hnote.1
      obtain ⟨qa, qc, e2, -⟩ := SliceV.shape hnote.2
      rw [e1] at c5
      rw [e2] at c6
      have hget : (L.map Prod.fst)[k]? = some L[k].1 := by simp [hlt]
      have hsm := HM.out L[k] (List.getElem_mem hlt)
      have QK : Hid (KI w fp0 name limit p R L k k (wr.alloc (.cells #[.int .i64 L[k].1.id, .int .i64 L[k].1.turn, .int .i64 L[k].1.tries, .bool L[k].1.out, .int .i64 L[k].1.due, .slice pa L[k].1.note.props.length pc, .slice qa L[k].1.note.body.length qc] 78)) vi L' fp) := hI.on HS.out (below_alloc _ _)
      have hnf : ¬ fp wr.heap.size := fun h => by have := hI.fpl _ h; omega
      have HN : Hid (NoteIs (fun b => b < w.heap.size ∧ ¬ fp0 b) w (.slice pa L[k].1.note.props.length pc, .slice qa L[k].1.note.body.length qc) L[k].1.note) := by rw [← e1, ← e2]; exact hnote
      clear hno hI hnote e1 e2
      cases hp : p L[k].1
      · go_wp2_with ((with_reducible show Calls Try.prog F _ _ _); refine (HS.out.call k L[k].1 hget _ _ _ _ _ _ _ fp QK.out.rel QK.out.fpl).mono ?_; rw [hp]; rintro e w1 ⟨rfl, fp', hR, hf, hkp⟩; have hI1 := QK.out.asked hR hf hkp; clear QK)
        go_roundw
        case rel => exact ⟨k + 1, by omega, by go_num, _, _, _, hI1.less hlt hp⟩
        case measure => simp [intOf]; omega
      · go_wp2_with ((with_reducible show Calls Try.prog F _ _ _); refine (HS.out.call k L[k].1 hget _ _ _ _ _ _ _ fp QK.out.rel QK.out.fpl).mono ?_; rw [hp]; rintro e w1 ⟨rfl, fp', hR, hf, hkp⟩; have hI1 := QK.out.asked hR hf hkp; have hJ := (Blk.new wr _ 78).same (hkp.block wr.heap.size ⟨by simp, hnf⟩); clear QK hf hkp hR; obtain ⟨⟨j0, j1, j2, j3⟩, ⟨j4, j5, j6⟩, j7, j8⟩ := hJ.b7; obtain ⟨o0, o1, o2, o3, o4⟩ := hI1.out.b3)
        have hl1 := hI1.lt
        have hL' : L'.length ≤ k := by
          have := congrArg List.length hI1.items
          have h2 := List.length_filter_le p ((L.take k).map Prod.fst)
          simp at this h2
          omega
        have HI1 : Hid (KI w fp0 name limit p R L (k + 1) k w1 vi L' fp') := hI1
        have HN1 : Hid (NoteIs (Under w1.heap.size) w1 (.slice pa L[k].1.note.props.length pc, .slice qa L[k].1.note.body.length qc) L[k].1.note) := HN.out.sub fun b hb => ⟨by show b < _; have := hb.1; omega, hI1.keep.block b hb⟩
        clear HN hI1 hJ HI HV
        go_wp2_with fail
        go_region_law
          (first
            | (go_simp; go_at_call 130; refine (ownItem_any _ _ L[k].1 hsm _ ?_).mono ?_; (exact HN1.out.sub fun b hb => ⟨hb, rfl⟩); rintro e w2 ⟨⟨q1, q2⟩, rfl, hn2, hb2⟩; obtain ⟨xa, xc, rfl, -⟩ := SliceV.shape hn2.1; obtain ⟨ya, yc, rfl, -⟩ := SliceV.shape hn2.2; have hb2' : Below w1.heap.size w1 w2 := ⟨hb2.os, hb2.tape, hb2.output, hb2.size, hb2.block⟩; have HI2 : Hid (KI w fp0 name limit p R L (k + 1) k w2 vi L' fp') := HI1.out.on HS.out hb2'; obtain ⟨r0, r1, r2, r3, r4⟩ := HI2.out.out.b3; simp only [IT.val])
            | (refine step_append_lies _ (by rfl) _ _ _ (by rfl) (w.heap.size + 3) 78 i0 _ 7 88 Try.underlying74 hi0 hz0 hz1 hz2 rfl (by omega) vi L'.length (cellsI L') (by rfl) (own_below HI2.out.own (below_alloc _ _)) ⟨w2.heap.size, 0, none⟩ 1 1 (L[k].1.cells (.slice xa L[k].1.note.props.length xc, .slice ya L[k].1.note.body.length yc)) (by rfl) (by rfl) (World.news_of_block (cs := #[.int .i64 L[k].1.id, .int .i64 L[k].1.turn, .int .i64 L[k].1.tries, .bool L[k].1.out, .int .i64 L[k].1.due, .slice xa L[k].1.note.props.length xc, .slice ya L[k].1.note.body.length yc]) (t := 78) (fr := (0, 0)) (heap_alloc_new w2 _)) (by simp [IT.cells, Value.oneCell']) (by omega) (by unfold maxLen; omega) (by omega) (by simp; omega) (w2.heap.size + 1) (by simp) ?_; intro gg cap w3 hown3 hg3 hat3 hlt3; obtain ⟨t0, t1, t2, t3, t4⟩ := ((HI2.out.out.alloc _).same (hg3.block _ (by simp; omega) (fun e => by have := (HI2.out.own.lt _ e.symm).1; omega))).b3))
        all_goals
          have RR := HI1.out.more HS.out hlt hp hn2 hb2' hown3 hg3 hat3 hlt3
          clear hg3 hat3 hlt3 hown3 HI2 HI1 hn2 hb2 hb2'
          go_wp2
          go_roundw
          case rel => exact ⟨k + 1, by omega, by go_num, _, _, _, RR⟩
          case measure => simp [intOf]; omega
    · obtain ⟨o0, o1, o2, o3, o4⟩ := hI.out.b3
      obtain ⟨r0, r1, r2, r3, r4⟩ := hI.res.b3
      obtain ⟨xa, xc, rfl, -⟩ := own_shape hI.own
      obtain rfl : k = L.length := by omega
      have HT : Hid (L'.map Prod.fst = (L.map Prod.fst).filter p) := by
        have := hI.items
        rw [List.take_of_length_le (Nat.le_refl _)] at this
        exact this
      clear hI
      go_wp2
      have hl := HI.out.lt
      refine bodyPost_ret (v := .agg #[.string name, .int .i64 limit, .slice xa L'.length xc]) (by simp [results, Try.results109, go_sem, *]; done) rfl ⟨_, L', fp, rfl, HT.out, ?_, fun x hx => ?_, ?_, ?_, ?_⟩
      · iterate 3 refine ownsRow_setCell_below ?_ (by simp) _
        exact HI.out.own
      · refine (HI.out.notes x hx).sub fun b hb => ⟨⟨hb.1, by simpa using hb.2.1, hb.2.2⟩, ?_⟩
        iterate 3 rw [Below.heap_setCell _ _ _ _ (by simp; omega)]
      · have hk := HI.out.keep
        refine ⟨hk.os, hk.tape, hk.output, by simpa using hk.size, fun b hb => ?_⟩
        iterate 3 rw [Below.heap_setCell _ _ _ _ (by simp; omega)]
        exact hk.block b hb
      · refine HS.out.stable _ _ _ _ HI.out.rel (by simp) (fun b hb => ?_)
        have : b ≠ w.heap.size + 1 := by rcases HI.out.foot b hb with h | h <;> omega
        iterate 3 rw [Below.heap_setCell _ _ _ _ (by simpa using this)]
      · intro b hb
        rcases HI.out.foot b hb with h | h
        · exact .inl h
        · exact .inr ⟨h.1, by simpa using h.2.1, h.2.2⟩

theorem enter29 (args : Array Value) (W : World) : (callFunc 110 args).run Try.prog W = .ok (.enter 110 args) W := by go_simp

set_option maxHeartbeats 1000000 in
theorem all_stays (its : List IT) : Stays 110 [] (fun _ => true) (fun _ _ fp => ∀ b, ¬ fp b) its := by
  refine ⟨enter29, fun k W W' fp h _ _ => h, fun k it hk va ua vn vc un uc W fp hR hf => ?_⟩
  go_enter Try.func110, Try.ntmps110
  go_wp2
  go_ret
  exact ⟨rfl, _, hR, fun b hb => .inl hb, Keep.of (below_alloc _ _) (fun k h => h.1)⟩

/-- Items of one's own: a row that the call made, notes in other blocks that it made. -/
def OwnI (base : Nat) (w : World) (v : Value) (its : List IT) : Prop :=
  ∃ L : ItL, L.map Prod.fst = its ∧ w.ownsRow base 78 7 v L.length (cellsI L) ∧ ∀ x ∈ L, NoteIs (fun b => base ≤ b ∧ b < w.heap.size ∧ v.ownBlock ≠ some b) w x.2 x.1.note

theorem OwnI.slice {base : Nat} {w : World} {v : Value} {its : List IT} (h : OwnI base w v its) : SliceI (Under w.heap.size) w v its := by
  obtain ⟨L, e, h1, h2⟩ := h
  exact ⟨L, e, (own_slice h1).sub fun k hk => ⟨(h1.lt k hk).2, rfl⟩, fun x hx => (h2 x hx).sub fun b hb => ⟨hb.2.1, rfl⟩⟩

theorem OwnI.mono {base base' : Nat} {w : World} {v : Value} {its : List IT} (h : OwnI base w v its) (hb : base' ≤ base) : OwnI base' w v its := by
  obtain ⟨L, e, h1, h2⟩ := h
  exact ⟨L, e, own_mono h1 hb, fun x hx => (h2 x hx).sub fun b h => ⟨⟨Nat.le_trans hb h.1, h.2⟩, rfl⟩⟩

/-- All is as it was in the blocks of one's own. -/
theorem OwnI.kept {base : Nat} {w w' : World} {v : Value} {its : List IT} (h : OwnI base w v its) (hz : w.heap.size ≤ w'.heap.size) (hb : ∀ k, base ≤ k → k < w.heap.size → w'.heap[k]? = w.heap[k]?) : OwnI base w' v its := by
  obtain ⟨L, e, h1, h2⟩ := h
  refine ⟨L, e, ⟨h1.1, ?_⟩, fun x hx => (h2 x hx).sub fun b h => ⟨⟨h.1, by omega, h.2.2⟩, hb b h.1 h.2.1⟩⟩
  rcases h1.2 with h3 | ⟨g, cap, cur, e, hbg, hg, hr⟩
  · exact .inl h3
  · exact .inr ⟨g, cap, cur, e, hbg, (hb g hbg (Array.getElem?_eq_some_iff.1 hg).1).trans hg, hr⟩

def smallI (its : List IT) : Prop := its.length ≤ 4194304 ∧ ∀ i ∈ its, i.note.small

set_option maxRecDepth 100000 in
set_option maxHeartbeats 1000000 in
theorem own_any (v : Value) (name : ByteArray) (limit : Int) (its : List IT) (w : World) (hv : SliceI (Under w.heap.size) w v its) (hs : smallI its) :
    Calls Try.prog 87 #[.agg #[.string name, .int .i64 limit, v]] w fun e w' => ∃ vi, e = .returned (.agg #[.string name, .int .i64 limit, vi]) ∧ OwnI w.heap.size w' vi its ∧ Below w.heap.size w w' := by
  obtain ⟨L, e, hL⟩ := hv
  subst e
  obtain ⟨hs1, hs2⟩ := hs
  have HL : Hid (SliceL (Under w.heap.size) w v L) := hL
  have HS : Hid (∀ x ∈ L, x.1.note.small) := fun x hx => hs2 _ (List.mem_map_of_mem hx)
  obtain ⟨va, vc, rfl, -⟩ := hL.1.shape
  have hlen : L.length ≤ 4194304 := by simpa using hs1
  clear hL hs2 hs1
  have two : Hid (∀ o1 o2 : Obj, Below w.heap.size w ((w.alloc o1).alloc o2)) := fun o1 o2 => (below_alloc _ _).alloc (by simp) _
  go_enter Try.func87, Try.ntmps87
  go_wp2_with (go_at_call 109; refine (kept_any 110 [] (fun _ => true) (fun _ _ fp => ∀ b, ¬ fp b) (fun _ => False) _ name limit L _ (HL.out.sub fun k hk => ⟨⟨?_, fun h => h⟩, (two.out _ _).block k hk⟩) HS.out hlen (all_stays _) (fun _ h => h) (fun _ h => h.elim)).mono ?_; (simp [Under] at hk ⊢; omega); rintro e w1 ⟨vi, L', fp, rfl, hm1, ho1, hn1, hk1, -, -⟩; have hb1 := hk1.below (B := w.heap.size + 1 + 1) (fun k hk => ⟨by simpa using hk, fun h => h⟩); obtain ⟨xa, xc, rfl, -⟩ := own_shape ho1; obtain ⟨b0, b1, b2, b3, b4⟩ := ((Blk.new (w.alloc _) _ 76).below hb1 (by simp)).b3; simp only [World.size_alloc] at b0 b1 b2 b3 b4)
  refine bodyPost_ret (v := .agg #[.string name, .int .i64 limit, .slice xa L'.length xc]) (by simp [results, Try.results87, go_sem, *]; done) rfl ⟨_, rfl, ⟨L', ?_, ?_, fun x hx => ?_⟩, ?_⟩
  · rw [hm1, List.filter_eq_self.2 (by simp)]
  · refine own_mono (base := w.heap.size + 2) ?_ (by omega)
    iterate 3 refine ownsRow_setCell_below ?_ (by simp) _
    exact own_mono ho1 (by simp)
  · refine (hn1 x hx).sub fun b hb => ?_
    have h1 := hb.1
    simp at h1
    refine ⟨⟨by omega, by simpa using hb.2.1, hb.2.2.1⟩, ?_⟩
    iterate 3 rw [Below.heap_setCell _ _ _ _ (by simp; omega)]
  · iterate 3 refine Below.setCell ?_ (by simp) _
    exact (two.out _ _).trans (hb1.mono (by omega))
end Go.Proofs.Ytkddkpdfeeikhaa

/-
  slices.Delete takes one item out of a row of one's own; queue.without.
-/
namespace Go.Proofs.Ytkddkpdfeeikhaa
open Go.RowKit
set_option linter.unusedVariables false
set_option linter.unusedSimpArgs false

attribute [local go_sem ↓] Go.wp_at_zero Go.wp_at_succ

theorem step_run {w : World} {ops : Array Oper} {o : Oper} {a : Act} {Q : Exit → Act → World → Prop} {K : Act → World → Prop} {E : Prop} {t u : TypeId} {v1 v2 v' : Value} {w' : World} (hgd : o.guard = none) (s x : Operand) (ho : o.op = .call { callee := .builtin .append, args := #[s, x], argTypes := #[t, u] }) (hs : a.eval s = v1) (hx : a.eval x = v2)
    (hr : (Builtin.append_ #[t, u] o.type #[v1, v2]).run Try.prog w = .ok v' w') (h : K (a.put o.dst v') w') : if Region.wanted o (yielded ops a.tmps) = true then Oper.wp Try.prog o a w K Q else E := by
  have hw : Region.wanted o (yielded ops a.tmps) = true := by simp [Region.wanted, hgd]
  rw [if_pos hw]
  exact wp_app_of s x ho hs hx hr h

theorem zero34 (w : World) : (zeroValue 78).run Try.prog w = .ok (.agg #[.int .i64 0, .int .i64 0, .int .i64 0, .bool false, .int .i64 0, .slice none 0 0, .slice none 0 0]) w := by kernel_rfl

def zero7 : List Value := [.int .i64 0, .int .i64 0, .int .i64 0, .bool false, .int .i64 0, .slice none 0 0, .slice none 0 0]

theorem run_clear7 (w : World) (ty : TypeId) (g off c : Nat) (cur : Array Value) (hg : w.heap[g]? = some (.cells cur 78 (0, 0))) (hf : off + 7 ≤ cur.size) :
    (Builtin.clear_ #[74] ty #[.slice (some ⟨g, off, none⟩) 1 c]).run Try.prog w = .ok (.tuple #[]) (w.setRow g (cur.toList.take off ++ zero7 ++ cur.toList.drop (off + 7)).toArray) := by
  have hst := run_storeCells_at Try.prog g off 78 zero7 0 cur w hg (by simpa [zero7] using hf) (by simp [zero7, Value.oneCell'])
  simp only [Nat.add_zero] at hst
  have hz : (Builtin.zeroCells (Value.agg #[.int .i64 0, .int .i64 0, .int .i64 0, .bool false, .int .i64 0, .slice none 0 0, .slice none 0 0]).cells 1).toList = zero7 := by simp [Builtin.zeroCells, Value.cells, zero7]; rfl
  simp [Builtin.clear_, run_underlying Try.underlying74, zero34, hz, hst]
  simp [zero7]

/-- The row without one element. -/
theorem del_list {α : Type} (cs xs z : List α) (i m : Nat) (hx : cs.take ((i + m + 1) * 7) = xs) (hl : xs.length = (i + m + 1) * 7) (hz : z.length = 7) :
    let c1 := cs.take (i * 7) ++ xs.drop ((i + 1) * 7) ++ cs.drop (i * 7 + (xs.drop ((i + 1) * 7)).length)
    let c2 := c1.take ((i + m) * 7) ++ z ++ c1.drop ((i + m) * 7 + 7)
    c1.length = cs.length ∧ c2.length = cs.length ∧ c2.take ((i + m) * 7) = xs.take (i * 7) ++ xs.drop ((i + 1) * 7) := by
  have hcl : (i + m + 1) * 7 ≤ cs.length := by
    rw [← hx, List.length_take] at hl; omega
  have e1 : cs.take (i * 7) = xs.take (i * 7) := by
    rw [← hx, List.take_take]; congr 1; omega
  have l1 : (xs.drop ((i + 1) * 7)).length = m * 7 := by simp [hl]; omega
  intro c1 c2
  have hc1 : c1.length = cs.length := by simp only [c1, List.length_append, List.length_take, List.length_drop, hl]; omega
  have ht : c1.take ((i + m) * 7) = xs.take (i * 7) ++ xs.drop ((i + 1) * 7) := by
    simp only [c1, e1]
    rw [List.take_append_of_le_length (by simp [hl]; omega), List.take_of_length_le (by simp [hl]; omega)]
  refine ⟨hc1, ?_, ?_⟩
  · simp only [c2, List.length_append, List.length_take, List.length_drop, hc1, hz]; omega
  · simp only [c2]
    rw [List.append_assoc, List.take_append_of_le_length (by simp [hc1]; omega), List.take_take, Nat.min_self, ht]

set_option maxRecDepth 100000 in
set_option maxHeartbeats 3200000 in
theorem delete_any (base g i m cap : Nat) (xs : List Value) (w : World) (h : w.ownsRow base 78 7 (.slice (some ⟨g, 0, none⟩) (i + m + 1) cap) (i + m + 1) xs) (h1 : ∀ u ∈ xs, u.oneCell' = true) (hn : i + m + 1 ≤ 4194304) :
    Calls Try.prog 168 #[.slice (some ⟨g, 0, none⟩) (i + m + 1) cap, .int .i64 i, .int .i64 (i + 1)] w fun e w' => e = .returned (.slice (some ⟨g, 0, none⟩) (i + m) cap) ∧
      w'.ownsRow base 78 7 (.slice (some ⟨g, 0, none⟩) (i + m) cap) (i + m) (xs.take (i * 7) ++ xs.drop ((i + 1) * 7)) ∧ w.grownBy w' (some g) := by
  obtain ⟨i0, hi0, hz0, hz1, hz2⟩ := info_parts info34
  obtain ⟨hl, hr⟩ := h
  rcases hr with ⟨e, -⟩ | ⟨g', cap', cur, e, hb, hg, hnc, hcm, hcs, hx⟩
  · simp at e
  simp only [Value.slice.injEq, Option.some.injEq, Addr.mk.injEq, and_true, true_and] at e
  obtain ⟨rfl, rfl⟩ := e
  obtain ⟨d1, d2, d3⟩ := del_list cur.toList xs zero7 i m hx hl rfl
  obtain ⟨c1, hc1⟩ : ∃ c1, c1 = cur.toList.take (i * 7) ++ xs.drop ((i + 1) * 7) ++ cur.toList.drop (i * 7 + (xs.drop ((i + 1) * 7)).length) := ⟨_, rfl⟩
  obtain ⟨c2, hc2⟩ : ∃ c2, c2 = c1.take ((i + m) * 7) ++ zero7 ++ c1.drop ((i + m) * 7 + 7) := ⟨_, rfl⟩
  rw [← hc1] at d1 d2 d3
  rw [← hc2] at d2 d3
  have hnews : ∀ j u, (xs.drop ((i + 1) * 7))[j]? = some u → w.drew.cell? ((⟨g, (i + 1) * 7, none⟩ : Addr).add j) = some u := by
    intro j u hj
    rw [List.getElem?_drop] at hj
    rw [add_none]
    show w.cell? _ = _
    rw [cell_of_row w g _ _ 78 (0, 0) hg, ← hj, ← hx, List.getElem?_take, if_pos (by have := (List.getElem?_eq_some_iff.1 hj).1; omega)]
    simp
  obtain ⟨A, hA, hnA⟩ : ∃ A : Addr, (if cap = i + 1 then some (⟨g, 0, none⟩ : Addr) else some ⟨g, (i + 1) * 7, none⟩) = some A ∧ ∀ j u, (xs.drop ((i + 1) * 7))[j]? = some u → w.drew.cell? (A.add j) = some u := by
    by_cases hc : cap = i + 1
    · refine ⟨⟨g, 0, none⟩, by simp [hc], fun j u hj => ?_⟩
      have := (List.getElem?_eq_some_iff.1 hj).1
      simp [hl] at this
      omega
    · exact ⟨⟨g, (i + 1) * 7, none⟩, by simp [hc], hnews⟩
  have hrun : ∀ ty, (Builtin.append_ #[74, 74] ty #[.slice (some ⟨g, 0, none⟩) i cap, .slice (some A) m (cap - (i + 1))]).run Try.prog w.drew = .ok (.slice (some ⟨g, 0, none⟩) (i + m) cap) (w.drew.setRow g c1.toArray) := fun ty => by
    have := run_append_room (P := Try.prog) w.drew 74 ty 78 i0 Try.underlying74 hi0 g i cap cur hg A m (cap - (i + 1)) (xs.drop ((i + 1) * 7)) (by rw [hz1]; simp [hl]; omega) hnA (fun u hu => h1 u (List.mem_of_mem_drop hu)) (by omega) (by rw [hz1]; simp [hl, hcs]; omega)
    rw [this, hc1, hz1]
  have hg1 : (w.drew.setRow g c1.toArray).heap[g]? = some (.cells c1.toArray 78 (0, 0)) := setRow_heap w.drew g cur _ 78 _ hg
  obtain ⟨W1, hW1⟩ : ∃ W1, W1 = w.drew.setRow g c1.toArray := ⟨_, rfl⟩
  have HW1 : Hid (W1 = w.drew.setRow g c1.toArray) := hW1
  rw [← hW1] at hrun hg1
  have hcl : ∀ ty, (Builtin.clear_ #[74] ty #[.slice (some ⟨g, (i + m) * 7, none⟩) 1 (cap - (i + m))]).run Try.prog W1 = .ok (.tuple #[]) (W1.setRow g c2.toArray) := fun ty => by
    have := run_clear7 W1 ty g ((i + m) * 7) (cap - (i + m)) c1.toArray hg1 (by simp [d1, hcs]; omega)
    rw [this, hc2]
  have HR : Hid (∀ ty, (Builtin.append_ #[74, 74] ty #[.slice (some ⟨g, 0, none⟩) i cap, .slice (some A) m (cap - (i + 1))]).run Try.prog w.drew = .ok (.slice (some ⟨g, 0, none⟩) (i + m) cap) W1) := hrun
  have HC : Hid (∀ ty, (Builtin.clear_ #[74] ty #[.slice (some ⟨g, (i + m) * 7, none⟩) 1 (cap - (i + m))]).run Try.prog W1 = .ok (.tuple #[]) (W1.setRow g c2.toArray)) := hcl
  have hne : ((i : Int) == (i : Int) + 1) = false := by simp; omega
  have HL : Hid (xs.length = (i + m + 1) * 7) := hl
  clear hrun hW1 hnA hnews hc1 hc2 hcl hx hl h1
  unfold maxLen at hcm
  have hic : i ≤ cap := by omega
  have hic1 : i + 1 ≤ cap := by omega
  have him : i + m ≤ cap := by omega
  have hnn : (0 : Int) ≤ (i : Int) + 1 := by omega
  have hnm : (i : Int) ≤ (i : Int) + (m : Int) := by omega
  have hne2 : ¬ cap = i + m := by omega
  go_enter Try.func168, Try.ntmps168
  go_wp2_with fail
  go_region_law (refine step_run (by rfl) _ _ (by rfl) (by rfl) (by rfl) (HR.out _) ?_)
  all_goals go_wp2_with (simp only [HC.out])
  go_ret
  refine ⟨rfl, ⟨?_, .inr ⟨g, cap, c2.toArray, rfl, hb, setRow_heap W1 g _ _ 78 _ hg1, him, by unfold maxLen; omega, by simp [d2, hcs], by simpa using d3⟩⟩, ?_⟩
  · have := HL.out
    simp [this]; omega
  · have e := HW1.out
    refine ⟨?_, ?_, ?_, ?_, fun k hk hn => ?_⟩
    · rw [e]; rfl
    · rw [e]; rfl
    · rw [e]; rfl
    · rw [e]; simp
    · have hkg : k ≠ g := fun h => hn (by rw [h])
      rw [setRow_other W1 g k _ hkg, e, setRow_other w.drew g k _ hkg]
      rfl

theorem own_far {w : World} {base : Nat} {e : TypeId} {size : Nat} {v : Value} {n : Nat} {xs : List Value} (h : w.ownsRow base e size v n xs) {a : Addr} (ha : v.ownBlock ≠ some a.block) (u : Value) : (w.setCell a u).ownsRow base e size v n xs := by
  refine ⟨h.1, ?_⟩
  rcases h.2 with h1 | ⟨g, cap, cur, e, hb, hg, hr⟩
  · exact .inl h1
  · refine .inr ⟨g, cap, cur, e, hb, (Below.heap_setCell _ _ _ _ (fun e2 => ha ?_)).trans hg, hr⟩
    rw [e, ← e2]; rfl

theorem cellsI_one {S : Nat → Prop} {w : World} (L : ItL) (h : ∀ x ∈ L, NoteIs S w x.2 x.1.note) : ∀ u ∈ cellsI L, u.oneCell' = true := by
  intro u hu
  simp only [cellsI, List.mem_flatMap] at hu
  obtain ⟨x, hx, hu⟩ := hu
  obtain ⟨a, c, e1, -⟩ := SliceV.shape (h x hx).1
  obtain ⟨a', c', e2, -⟩ := SliceV.shape (h x hx).2
  simp only [IT.cells, List.mem_cons, List.not_mem_nil, or_false] at hu
  rcases hu with rfl | rfl | rfl | rfl | rfl | rfl | rfl
  · rfl
  · rfl
  · rfl
  · rfl
  · rfl
  · rw [e1]; rfl
  · rw [e2]; rfl

theorem cellsI_append (A B : ItL) : cellsI (A ++ B) = cellsI A ++ cellsI B := by simp [cellsI]
theorem cellsI_take (L : ItL) (i : Nat) (hi : i ≤ L.length) : (cellsI L).take (i * 7) = cellsI (L.take i) := by
  conv => lhs; rw [← List.take_append_drop i L, cellsI_append]
  rw [List.take_append_of_le_length (by simp [cellsI_len]; omega), List.take_of_length_le (by simp [cellsI_len]; omega)]
theorem cellsI_drop (L : ItL) (i : Nat) (hi : i ≤ L.length) : (cellsI L).drop (i * 7) = cellsI (L.drop i) := by
  conv => lhs; rw [← List.take_append_drop i L, cellsI_append]
  rw [List.drop_append_of_le_length (by simp [cellsI_len]; omega), List.drop_of_length_le (by simp [cellsI_len]; omega)]
  rfl

set_option maxRecDepth 100000 in
set_option maxHeartbeats 3200000 in
theorem without_any (base : Nat) (v : Value) (name : ByteArray) (limit : Int) (its : List IT) (i : Nat) (w : World) (h : OwnI base w v its) (hi : i < its.length) (hs : its.length ≤ 4194304) :
    Calls Try.prog 166 #[.agg #[.string name, .int .i64 limit, v], .int .i64 i] w fun e w' => ∃ v', e = .returned (.agg #[.string name, .int .i64 limit, v']) ∧ OwnI base w' v' (its.eraseIdx i) ∧ w.grownBy w' v.ownBlock := by
  obtain ⟨L, e, ho, hn⟩ := h
  subst e
  obtain ⟨m, hm⟩ : ∃ m, L.length = i + m + 1 := ⟨L.length - i - 1, by simp at hi; omega⟩
  have HO : Hid (w.ownsRow base 78 7 v L.length (cellsI L)) := ho
  have HN : Hid (∀ x ∈ L, NoteIs (fun b => base ≤ b ∧ b < w.heap.size ∧ v.ownBlock ≠ some b) w x.2 x.1.note) := hn
  rcases ho.2 with ⟨_, h0⟩ | ⟨g, cap, cur, rfl, hbg, hg, -⟩
  · omega
  have hgl : g < w.heap.size := (Array.getElem?_eq_some_iff.1 hg).1
  have HM : Hid (L.length = i + m + 1) := hm
  rw [hm] at HO
  have hs' : i + m + 1 ≤ 4194304 := by simp at hs; omega
  rw [hm]
  clear hn ho hi hs hg hm
  have two : Hid (∀ o1 o2 : Obj, Below w.heap.size w ((w.alloc o1).alloc o2)) := fun o1 o2 => (below_alloc _ _).alloc (by simp) _
  have HO2 : Hid (∀ o1 o2 : Obj, ((w.alloc o1).alloc o2).ownsRow base 78 7 (.slice (some ⟨g, 0, none⟩) (i + m + 1) cap) (i + m + 1) (cellsI L)) := fun o1 o2 => own_below HO.out (two.out o1 o2)
  go_enter Try.func166, Try.ntmps166
  go_wp2_with (go_at_call 168; refine (delete_any base g i m cap (cellsI L) _ (HO2.out _ _) (cellsI_one L HN.out) hs').mono ?_; rintro e w1 ⟨rfl, ho1, hg1⟩; obtain ⟨a0, a1, a2, a3, a4⟩ := (((Blk.new w _ 76).alloc _).same (hg1.block w.heap.size (by simp; omega) (by simp; omega))).b3; obtain ⟨b0, b1, b2, b3, b4⟩ := ((Blk.new (w.alloc _) _ 76).same (hg1.block _ (by simp) (by simp; omega))).b3; simp only [World.size_alloc] at b0 b1 b2 b3 b4)
  refine bodyPost_ret (v := .agg #[.string name, .int .i64 limit, .slice (some ⟨g, 0, none⟩) (i + m) cap]) (by simp [results, Try.results166, go_sem, *]; done) rfl ⟨_, rfl, ⟨L.eraseIdx i, ?_, ?_, fun x hx => ?_⟩, ?_⟩
  · rw [List.eraseIdx_eq_take_drop_succ, List.eraseIdx_eq_take_drop_succ]; simp
  · have hl : (L.eraseIdx i).length = i + m := by
      have := HM.out
      rw [List.length_eraseIdx_of_lt (by omega)]; omega
    rw [hl, List.eraseIdx_eq_take_drop_succ, cellsI_append, ← cellsI_take L i (by have := HM.out; omega), ← cellsI_drop L (i + 1) (by have := HM.out; omega)]
    iterate 4 refine own_far ?_ (by simp [Value.ownBlock]; omega) _
    exact ho1
  · refine (HN.out x (List.mem_of_mem_eraseIdx hx)).sub fun b hb => ?_
    have hb3 := hb.2.2
    have hz := hg1.size
    simp at hz
    refine ⟨⟨hb.1, by simp; omega, hb3⟩, ?_⟩
    iterate 4 rw [Below.heap_setCell _ _ _ _ (by simp; omega)]
    rw [hg1.block b (by simp; omega) (fun e => hb3 (by rw [e]; rfl))]
    exact (two.out _ _).block b hb.2.1
  · have t := two.out (.cells #[.string name, .int .i64 limit, .slice (some ⟨g, 0, none⟩) (i + m + 1) cap] 76) (.cells #[.string ByteArray.empty, .int .i64 0, .slice none 0 0] 76)
    refine ⟨hg1.os.trans t.os, hg1.tape.trans t.tape, hg1.output.trans t.output, ?_, fun b hb hne => ?_⟩
    · have hz := hg1.size
      simp at hz ⊢; omega
    · iterate 4 rw [Below.heap_setCell _ _ _ _ (by simp; omega)]
      rw [hg1.block b (by simp; omega) (by simpa [Value.ownBlock] using hne)]
      exact t.block b hb
end Go.Proofs.Ytkddkpdfeeikhaa
