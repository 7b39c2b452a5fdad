/-
  Gone; PutIn: texts laid together.
-/
import Derived.Test.YtkddkpdfeeikhaaSsTagProofM06
import Derived.Deep.DeepCutAuto
/-
  hall.gone tells entries of items that are no more.
-/
namespace Go.Proofs.Ytkddkpdfeeikhaa
open Go.RowKit
set_option linter.unusedVariables false
set_option linter.unusedSimpArgs false

attribute [local go_sem ↓] Go.wp_at_zero Go.wp_at_succ

def nN : ND := ⟨[], []⟩
def goneE (name : ByteArray) (id : Int) : ED := ⟨4, name, 0, id, nN⟩
def putE (name : ByteArray) (id : Int) (n : ND) : ED := ⟨3, name, 0, id, n⟩

/-- Entries of one's own: a row that the call made, notes in other blocks that it made. -/
def OwnE (base : Nat) (w : World) (v : Value) (es : List ED) : Prop :=
  ∃ L : EnL, L.map Prod.fst = es ∧ w.ownsRow base 30 6 v L.length (cellsE L) ∧ ∀ x ∈ L, NoteIs (fun b => base ≤ b ∧ b < w.heap.size ∧ v.ownBlock ≠ some b) w x.2 x.1.note

theorem OwnE.slice {base : Nat} {w : World} {v : Value} {es : List ED} (h : OwnE base w v es) : SliceE (Made base w.heap.size) w v es := by
  obtain ⟨L, e, h1, h2⟩ := h
  exact ⟨L, e, (own_slice h1).sub fun k hk => ⟨h1.lt k hk, rfl⟩, fun x hx => (h2 x hx).sub fun b hb => ⟨⟨hb.1, hb.2.1⟩, rfl⟩⟩
theorem OwnE.nil (base : Nat) (w : World) : OwnE base w (.slice none 0 0) [] := ⟨[], rfl, World.ownsRow_nil _ _ _ _, by simp⟩
theorem OwnE.mono {base base' : Nat} {w : World} {v : Value} {es : List ED} (h : OwnE base w v es) (hb : base' ≤ base) : OwnE base' w v es := by
  obtain ⟨L, e, h1, h2⟩ := h
  exact ⟨L, e, own_mono h1 hb, fun x hx => (h2 x hx).sub fun b h => ⟨⟨Nat.le_trans hb h.1, h.2⟩, rfl⟩⟩
theorem OwnE.kept {base : Nat} {w w' : World} {v : Value} {es : List ED} (h : OwnE base w v es) (hz : w.heap.size ≤ w'.heap.size) (hb : ∀ k, base ≤ k → k < w.heap.size → w'.heap[k]? = w.heap[k]?) : OwnE base w' v es := by
  obtain ⟨L, e, h1, h2⟩ := h
  exact ⟨L, e, own_same h1 (fun b hb' => hb b (h1.lt b hb').1 (h1.lt b hb').2), fun x hx => (h2 x hx).sub fun b h => ⟨⟨h.1, by omega, h.2.2⟩, hb b h.1 h.2.1⟩⟩
theorem OwnE.shp {base : Nat} {w : World} {v : Value} {es : List ED} (h : OwnE base w v es) : ∃ a cap, v = .slice a es.length cap := h.slice.shp

theorem info92 : (Try.prog.info? 30).map (fun i => (i.zero, i.size, i.bytes)) = some (some (.agg #[.int .i64 0, .string ByteArray.empty, .int .i64 0, .int .i64 0, .slice none 0 0, .slice none 0 0]), 6, 88) := by kernel_rfl

/-- A new row, whole. -/
theorem row_any (w : World) (cs : List Value) (t : TypeId) (n : Nat) (hn : n ≤ maxLen) : SliceV (fun b => b = w.heap.size) (w.alloc (.cells cs.toArray t)) (.slice (some ⟨w.heap.size, 0, none⟩) n n) n cs := by
  refine ⟨_, _, rfl, Nat.le_refl _, hn, fun h => by simp at h, fun i hi => ⟨w.heap.size, 0, rfl, rfl, ?_⟩⟩
  rw [(Blk.new w cs t).cell]
  simp [hi]

def goneL' (name : ByteArray) (ids : List Int) : EnL := ids.map fun id => (goneE name id, (.slice none 0 0, .slice none 0 0))

set_option maxRecDepth 100000 in
set_option maxHeartbeats 3200000 in
theorem gone_any (name : ByteArray) (u : Value) (ids : List Int) (hlen : ids.length ≤ 4194304) (w : World) (hu : SliceV (Under w.heap.size) w u ids.length (ints ids)) :
    Calls Try.prog 147 #[.string name, u] w fun e w' => ∃ v, e = .returned v ∧ OwnE w.heap.size w' v (ids.map (goneE name)) ∧ Below w.heap.size w w' := by
  obtain ⟨i0, hi0, hz0, hz1, hz2⟩ := info_parts info92
  have HU : Hid (SliceV (Under w.heap.size) w u ids.length (ints ids)) := hu
  obtain ⟨ua, uc, rfl, h1, h2, h3⟩ := hu.shape
  unfold maxLen at h2
  clear hu
  go_enter Try.func147, Try.ntmps147
  go_wp2
  go_loopw [5, 10] (fun tv i wr => ∃ k : Nat, k ≤ ids.length ∧ i = .int .i64 k ∧ Below w.heap.size w wr ∧ wr.ownsRow w.heap.size 30 6 tv k (cellsE (goneL' name (ids.take k))))
    (fun _ i _ => ids.length - (intOf i).toNat)
  case atStart => exact ⟨0, Nat.zero_le _, rfl, Below.refl _ _, World.ownsRow_nil _ _ _ _⟩
  case round =>
    obtain ⟨k, hk, rfl, hb, ho⟩ := hrel
    have HO : Hid (wr.ownsRow w.heap.size 30 6 u5 k (cellsE (goneL' name (ids.take k)))) := ho
    have hzr := hb.size
    by_cases hlt : k < ids.length
    · obtain ⟨a', cap', e, -, -, -, hR⟩ := HU.out
      obtain ⟨b, off, rfl, hS, hc⟩ := hR k (by simp [ints, hlt])
      simp only [Value.slice.injEq] at e
      obtain ⟨rfl, -, rfl⟩ := e
      have c0 : wr.cell? ⟨b, off + k, none⟩ = some (.int .i64 ids[k]) := by
        rw [World.cell?_of_block (hb.block b hS), hc]
        simp [ints]
      obtain ⟨ta, tc, rfl, -⟩ := own_shape ho
      clear hc hR ho
      go_wp2_with (at_builtin; refine wpList_appV rfl (.tmp 14) (.tmp 18) 37 rfl 30 i0 _ 6 88 Try.underlying37 hi0 hz0 hz1 hz2 rfl (by omega) w.heap.size (.slice ta k tc) k (cellsE (goneL' name (ids.take k))) rfl (own_below HO.out (below_alloc _ _)) (fun b => b = wr.heap.size) (.slice (some ⟨wr.heap.size, 0, none⟩) 1 1) 1 ((goneE name ids[k]).cells (.slice none 0 0, .slice none 0 0)) rfl (row_any _ _ _ _ (by simp [maxLen])) rfl (by simp [ED.cells, Value.oneCell']) (by unfold maxLen; omega) (by omega) (by simp <;> omega) ?_; intro ao cap w1 ho1 hg1 hm1)
      go_roundw
      case rel =>
        refine ⟨k + 1, by omega, by go_num, ?_, ?_⟩
        · exact hb.trans ((below_alloc _ _).mono hzr |>.trans (below_of_grownBy hg1 (by simp; omega) (fun b hb' => (HO.out.lt b hb').1)))
        · have e : cellsE (goneL' name (ids.take (k + 1))) = cellsE (goneL' name (ids.take k)) ++ (goneE name ids[k]).cells (.slice none 0 0, .slice none 0 0) := by
            rw [List.take_succ_eq_append_getElem hlt]
            unfold goneL'
            rw [List.map_append, cellsE_append]
            simp [cellsE]
          rw [e]
          exact ho1
      case measure => simp [intOf]; omega
    · obtain rfl : k = ids.length := by omega
      obtain ⟨ta, tc, rfl, -⟩ := own_shape ho
      clear ho
      go_wp2
      go_ret
      refine ⟨_, rfl, ⟨goneL' name ids, by simp [goneL', Function.comp_def], ?_, fun x hx => ?_⟩, hb⟩
      · have := HO.out
        rw [List.take_of_length_le (Nat.le_refl _)] at this
        simpa [goneL'] using this
      · simp only [goneL', List.mem_map] at hx
        obtain ⟨i, -, rfl⟩ := hx
        exact NoteIs.nil _ _
end Go.Proofs.Ytkddkpdfeeikhaa

/-
  hall.putIn puts a note in a hall itself.
-/
namespace Go.Proofs.Ytkddkpdfeeikhaa
open Go.RowKit
set_option linter.unusedVariables false
set_option linter.unusedSimpArgs false

attribute [local go_sem ↓] Go.wp_at_zero Go.wp_at_succ

/-- The k-th queue in the hall's row. -/
theorem HallIn.at {P : Nat → Prop} {hb : Nat} {w : World} {g n cap : Nat} {L : QuL} {next : Int} (h : HallIn P hb w (.slice (some ⟨g, 0, none⟩) n cap) L next) (k : Nat) (hk : k < L.length) :
    ∃ ia ic, L[k].2 = .slice ia L[k].1.items.length ic ∧ SliceI (fun b => P b ∧ b ≠ g) w (.slice ia L[k].1.items.length ic) L[k].1.items ∧ w.cell? ⟨g, k * 3, none⟩ = some (.string L[k].1.name) ∧ w.cell? ⟨g, k * 3 + 1, none⟩ = some (.int .i64 L[k].1.limit) ∧ w.cell? ⟨g, k * 3 + 2, none⟩ = some (.slice ia L[k].1.items.length ic) := by
  have hi := h.items L[k] (List.getElem_mem hk)
  obtain ⟨ia, ic, e2⟩ := hi.shp
  have hn : n = L.length := by
    rcases h.row.2 with ⟨h', -⟩ | ⟨g', cap', cur, h', -⟩
    · simp at h'
    · simp only [Value.slice.injEq] at h'; exact h'.2.1
  subst hn
  have key : ∀ j, j < 3 → w.cell? ⟨g, k * 3 + j, none⟩ = (L[k].1.cells L[k].2)[j]? := fun j hj => by
    rw [h.row.cellAt (k * 3 + j) (by omega), cellsQ_at L k j hk hj]
  refine ⟨ia, ic, e2, ?_, key 0 (by omega), key 1 (by omega), ?_⟩
  · rw [← e2]; exact hi.sub fun b hb => ⟨⟨hb.1, fun e => hb.2 (by rw [e]; rfl)⟩, rfl⟩
  · rw [← e2]; exact key 2 (by omega)

theorem HallIn.f {P : Nat → Prop} {hb : Nat} {w : World} {g cap n : Nat} {L : QuL} {next : Int} (h : HallIn P hb w (.slice (some ⟨g, 0, none⟩) n cap) L next) : ∀ o, w.frozen? ⟨g, o, none⟩ = false := by
  have hn : n = L.length := by
    rcases h.row.2 with ⟨h', -⟩ | ⟨g', cap', cur, h', -⟩
    · simp at h'
    · simp only [Value.slice.injEq] at h'; exact h'.2.1
  subst hn
  exact fun o => h.row.frozenAt o

theorem HallIn.gl {P : Nat → Prop} {hb : Nat} {w : World} {g cap n : Nat} {L : QuL} {next : Int} (h : HallIn P hb w (.slice (some ⟨g, 0, none⟩) n cap) L next) : g < w.heap.size ∧ g ≠ hb ∧ hb < w.heap.size ∧ P g := ⟨h.lt g (h.rowP g rfl), fun e => h.nb (e ▸ h.rowP g rfl), h.box.lt, h.rowP g rfl⟩

/-- What holds in 'putIn' behind the call: q lies in the box qb. -/
structure PutS (P : Nat → Prop) (hb : Nat) (w : World) (g cap : Nat) (L : QuL) (next : Int) (pv bv : Value) (qn : ByteArray) (ql : Int) (va : Option Addr) (vn vc : Nat) (its : List IT) (qb : Nat) (W : World) : Prop where
  bel : Below w.heap.size w W
  hall : HallIn P hb W (.slice (some ⟨g, 0, none⟩) L.length cap) L next
  note : Blk W w.heap.size [pv, bv]
  q : Blk W qb [.string qn, .int .i64 ql, .slice va vn vc]
  ql : w.heap.size + 1 ≤ qb
  items : SliceI (fun b => Made (w.heap.size + 1) W.heap.size b ∧ b ≠ qb) W (.slice va vn vc) its

theorem PutS.here {P : Nat → Prop} {hb : Nat} {w W0 w1 : World} {g cap : Nat} {L : QuL} {next : Int} {pv bv : Value} {qn : ByteArray} {ql : Int} {va : Option Addr} {vn vc : Nat} {its : List IT} (h0 : Below w.heap.size w W0) (hz : W0.heap.size = w.heap.size + 1) (hH : HallIn P hb W0 (.slice (some ⟨g, 0, none⟩) L.length cap) L next) (hN : Blk W0 w.heap.size [pv, bv]) (h1 : Below W0.heap.size W0 w1) (hq : Blk w1 W0.heap.size [.string ⟨#[]⟩, .int .i64 0, .slice none 0 0]) (hI : SliceI (Made (W0.heap.size + 1) w1.heap.size) w1 (.slice va vn vc) its) :
    PutS P hb w g cap L next pv bv qn ql va vn vc its W0.heap.size (((w1.setCell ⟨W0.heap.size, 0, none⟩ (.string qn)).setCell ⟨W0.heap.size, 1, none⟩ (.int .i64 ql)).setCell ⟨W0.heap.size, 2, none⟩ (.slice va vn vc)) := by
  have far : ∀ b, b ≠ W0.heap.size → (((w1.setCell ⟨W0.heap.size, 0, none⟩ (.string qn)).setCell ⟨W0.heap.size, 1, none⟩ (.int .i64 ql)).setCell ⟨W0.heap.size, 2, none⟩ (.slice va vn vc)).heap[b]? = w1.heap[b]? := fun b hb => by
    rw [Below.heap_setCell _ _ _ _ hb, Below.heap_setCell _ _ _ _ hb, Below.heap_setCell _ _ _ _ hb]
  have z1 := h1.size
  have sz : (((w1.setCell ⟨W0.heap.size, 0, none⟩ (.string qn)).setCell ⟨W0.heap.size, 1, none⟩ (.int .i64 ql)).setCell ⟨W0.heap.size, 2, none⟩ (.slice va vn vc)).heap.size = w1.heap.size := by simp
  refine ⟨?_, hH.on (by omega) (fun b hb => ?_), (hN.below h1 hN.lt).same (far _ (by omega)), (((hq.set 0 _).set 1 _).set 2 _), by omega, hI.sub fun b hb => ⟨⟨⟨by have := hb.1; omega, by rw [sz]; exact hb.2⟩, by have := hb.1; omega⟩, far b (by have := hb.1; omega)⟩⟩
  · exact ((h0.trans (h1.mono (by omega))).setCell (by simp; omega) _).setCell (by simp; omega) _ |>.setCell (by simp; omega) _
  · have hl : b < W0.heap.size := by
      rcases hb with hb | rfl
      · exact hH.lt b hb
      · exact hH.box.lt
    rw [far b (by omega)]
    exact h1.block b hl

theorem PutS.new {P : Nat → Prop} {hb : Nat} {w W0 w1 : World} {g cap : Nat} {L : QuL} {next : Int} {pv bv : Value} {qn : ByteArray} {ql : Int} {va : Option Addr} {vn vc : Nat} {its : List IT} (h0 : Below w.heap.size w W0) (hz : W0.heap.size = w.heap.size + 1) (hH : HallIn P hb W0 (.slice (some ⟨g, 0, none⟩) L.length cap) L next) (hN : Blk W0 w.heap.size [pv, bv]) (h1 : Below W0.heap.size W0 w1) (hI : SliceI (Made W0.heap.size w1.heap.size) w1 (.slice va vn vc) its) :
    PutS P hb w g cap L next pv bv qn ql va vn vc its w1.heap.size (w1.alloc (.cells #[.string qn, .int .i64 ql, .slice va vn vc] 76)) := by
  have z1 := h1.size
  have h2 : Below W0.heap.size W0 (w1.alloc (.cells #[.string qn, .int .i64 ql, .slice va vn vc] 76)) := h1.alloc (by omega) _
  refine ⟨h0.trans (h2.mono (by omega)), hH.below h2, hN.below h2 hN.lt, Blk.new _ _ _, by omega, hI.sub fun b hb => ⟨⟨⟨by have := hb.1; omega, by have := hb.2; simp; omega⟩, by have := hb.2; omega⟩, Below.heap_alloc _ _ _ hb.2⟩⟩

theorem PutS.drew {P : Nat → Prop} {hb : Nat} {w W : World} {g cap : Nat} {L : QuL} {next : Int} {pv bv : Value} {qn : ByteArray} {ql : Int} {va : Option Addr} {vn vc : Nat} {its : List IT} {qb : Nat} (h : PutS P hb w g cap L next pv bv qn ql va vn vc its qb W) : PutS P hb w g cap L next pv bv qn ql va vn vc its qb W.drew :=
  ⟨h.bel.drew, h.hall.on (Nat.le_refl _) (fun _ _ => rfl), h.note, h.q, h.ql, h.items.sub fun b hb => ⟨hb, rfl⟩⟩

theorem HallIn.mono {P P' : Nat → Prop} {hb : Nat} {w : World} {v : Value} {L : QuL} {next : Int} (h : HallIn P hb w v L next) (hP : ∀ b, P b → P' b) (hl : ∀ b, P' b → b < w.heap.size) (hn : ¬ P' hb) : HallIn P' hb w v L next :=
  ⟨h.box, h.row, fun b e => hP b (h.rowP b e), fun x hx => (h.items x hx).sub fun b hb => ⟨⟨hP b hb.1, hb.2⟩, rfl⟩, hl, hn⟩

/-- What holds in 'putIn' behind the store into the row. -/
structure PutT (P : Nat → Prop) (hb : Nat) (w : World) (g cap : Nat) (L : QuL) (k : Nat) (next : Int) (pv bv : Value) (q : QD) (v : Value) (m qb : Nat) (W : World) : Prop where
  keep : Keep (fun b => b < w.heap.size ∧ b ≠ g ∧ b ≠ hb) w W
  hall : HallIn (fun b => P b ∨ Made w.heap.size m b) hb W (.slice (some ⟨g, 0, none⟩) L.length cap) (L.set k (q, v)) next
  note : Blk W w.heap.size [pv, bv]
  q : Blk W qb [.string q.name, .int .i64 q.limit, v]
  ml : w.heap.size < m
  mh : m ≤ W.heap.size
  hbl : hb < w.heap.size
  qbl : w.heap.size < qb

theorem PutS.put {P : Nat → Prop} {hb : Nat} {w W : World} {g cap : Nat} {L : QuL} {next : Int} {pv bv : Value} {q : QD} {va : Option Addr} {vc : Nat} {qb : Nat} (h : PutS P hb w g cap L next pv bv q.name q.limit va q.items.length vc q.items qb W) (k : Nat) (hk : k < L.length) (hgl : g < w.heap.size) (hbl : hb < w.heap.size) (hP : ∀ b, P b → b < w.heap.size) :
    PutT P hb w g cap L k next pv bv q (.slice va q.items.length vc) W.heap.size qb (((W.setCell ⟨g, k * 3, none⟩ (.string q.name)).setCell ⟨g, k * 3 + 1, none⟩ (.int .i64 q.limit)).setCell ⟨g, k * 3 + 2, none⟩ (.slice va q.items.length vc)) := by
  have far : ∀ b, b ≠ g → (((W.setCell ⟨g, k * 3, none⟩ (.string q.name)).setCell ⟨g, k * 3 + 1, none⟩ (.int .i64 q.limit)).setCell ⟨g, k * 3 + 2, none⟩ (.slice va q.items.length vc)).heap[b]? = W.heap[b]? := fun b hb => by
    rw [Below.heap_setCell _ _ _ _ hb, Below.heap_setCell _ _ _ _ hb, Below.heap_setCell _ _ _ _ hb]
  have hql := h.ql
  have hz := h.bel.size
  have hnl := h.note.lt
  have sz : (((W.setCell ⟨g, k * 3, none⟩ (.string q.name)).setCell ⟨g, k * 3 + 1, none⟩ (.int .i64 q.limit)).setCell ⟨g, k * 3 + 2, none⟩ (.slice va q.items.length vc)).heap.size = W.heap.size := by simp
  refine ⟨⟨h.bel.os, h.bel.tape, h.bel.output, by rw [sz]; exact hz, fun b hb => (far b hb.2.1).trans (h.bel.block b hb.1)⟩, ?_, h.note.same (far _ (by omega)), h.q.same (far _ (by omega)), by omega, by rw [sz]; exact Nat.le_refl _, hbl, by omega⟩
  refine HallIn.mono (h.hall.put rfl k hk q _ _ (fun b hb' => ?_) h.items) (fun b hb' => ?_) (fun b hb' => ?_) (fun hb' => ?_)
  · obtain ⟨⟨h1, h2⟩, h3⟩ := hb'
    exact ⟨h2, by omega, by omega⟩
  · rcases hb' with hb' | ⟨⟨h1, h2⟩, h3⟩
    · exact .inl hb'
    · exact .inr ⟨by omega, h2⟩
  · rw [sz]
    rcases hb' with hb' | hb'
    · have := hP b hb'; omega
    · exact hb'.2
  · rcases hb' with hb' | hb'
    · exact h.hall.nb hb'
    · have := hb'.1; omega

theorem PutT.drew {P : Nat → Prop} {hb : Nat} {w W : World} {g cap : Nat} {L : QuL} {k : Nat} {next : Int} {pv bv : Value} {q : QD} {v : Value} {m qb : Nat} (h : PutT P hb w g cap L k next pv bv q v m qb W) : PutT P hb w g cap L k next pv bv q v m qb W.drew :=
  ⟨⟨h.keep.os, h.keep.tape, h.keep.output, h.keep.size, h.keep.block⟩, h.hall.on (Nat.le_refl _) (fun _ _ => rfl), h.note, h.q, h.ml, h.mh, h.hbl, h.qbl⟩
theorem PutT.count {P : Nat → Prop} {hb : Nat} {w W : World} {g cap : Nat} {L : QuL} {k : Nat} {next : Int} {pv bv : Value} {q : QD} {v : Value} {m qb : Nat} (h : PutT P hb w g cap L k next pv bv q v m qb W) (n : Int) : PutT P hb w g cap L k n pv bv q v m qb (W.setCell ⟨hb, 1, none⟩ (.int .i64 n)) := by
  have hbl := h.hbl
  have hq := h.qbl
  refine ⟨⟨h.keep.os, h.keep.tape, h.keep.output, by simpa using h.keep.size, fun b hb => ?_⟩, h.hall.count n, h.note.far (by simp; omega) _, h.q.far (by simp; omega) _, h.ml, by simpa using h.mh, hbl, hq⟩
  rw [Below.heap_setCell _ _ _ _ hb.2.2]
  exact h.keep.block b hb
theorem PutT.below {P : Nat → Prop} {hb : Nat} {w W W' : World} {g cap : Nat} {L : QuL} {k : Nat} {next : Int} {pv bv : Value} {q : QD} {v : Value} {m qb : Nat} (h : PutT P hb w g cap L k next pv bv q v m qb W) (hB : Below W.heap.size W W') : PutT P hb w g cap L k next pv bv q v m qb W' :=
  ⟨⟨hB.os.trans h.keep.os, hB.tape.trans h.keep.tape, hB.output.trans h.keep.output, Nat.le_trans h.keep.size hB.size, fun b hb => (hB.block b (Nat.lt_of_lt_of_le hb.1 h.keep.size)).trans (h.keep.block b hb)⟩, h.hall.below hB, h.note.below hB h.note.lt, h.q.below hB h.q.lt, h.ml, Nat.le_trans h.mh hB.size, h.hbl, h.qbl⟩

theorem PutT.told {P : Nat → Prop} {hb : Nat} {w W : World} {g cap : Nat} {L : QuL} {k : Nat} {next : Int} {pv bv : Value} {q : QD} {v : Value} {m qb : Nat} (h : PutT P hb w g cap L k next pv bv q v m qb W) {lo : Nat} {a b : Value} {n : ND} (hn : NoteIs (Made lo W.heap.size) W (a, b) n) (hlo : m ≤ lo) (name : ByteArray) (id : Int) :
    let W' := W.alloc (.cells #[.int .i64 3, .string name, .int .i64 0, .int .i64 id, a, b] 30)
    m ≤ W'.heap.size ∧ HallIn (fun b => P b ∨ Made w.heap.size m b) hb W' (.slice (some ⟨g, 0, none⟩) L.length cap) (L.set k (q, v)) next ∧ SliceE (Made m W'.heap.size) W' (.slice (some ⟨W.heap.size, 0, none⟩) 1 1) [putE name id n] ∧ Keep (fun b => b < w.heap.size ∧ b ≠ g ∧ b ≠ hb) w W' := by
  intro W'
  have h' := h.below (below_alloc W (.cells #[.int .i64 3, .string name, .int .i64 0, .int .i64 id, a, b] 30))
  have hmh := h.mh
  have hz : W'.heap.size = W.heap.size + 1 := by simp [W']
  refine ⟨h'.mh, h'.hall, ⟨[(putE name id n, (a, b))], rfl, (row_any W [.int .i64 3, .string name, .int .i64 0, .int .i64 id, a, b] 30 1 (by simp [maxLen])).sub fun k hk => ⟨⟨by omega, by omega⟩, rfl⟩, fun x hx => ?_⟩, h'.keep⟩
  rw [List.mem_singleton] at hx
  subst hx
  exact hn.sub fun k hk => ⟨⟨by have := hk.1; omega, by have := hk.2; omega⟩, Below.heap_alloc _ _ _ hk.2⟩

set_option maxRecDepth 100000 in
set_option maxHeartbeats 3200000 in
theorem putIn_ok {P : Nat → Prop} {hb : Nat} {w : World} {g cap : Nat} {L : QuL} {next : Int} (H : HallIn P hb w (.slice (some ⟨g, 0, none⟩) L.length cap) L next) (k : Nat) (hk : k < L.length) (hlen : L.length ≤ 4194304) (hnx : 0 ≤ next ∧ next ≤ 1000000000) (hs : smallI L[k].1.items) (hf : ¬ L[k].1.limit ≤ (L[k].1.items.length : Int)) (pv bv : Value) (n : ND) (hn : NoteIs (fun b => b < w.heap.size ∧ b ≠ g ∧ b ≠ hb) w (pv, bv) n) (hsm : n.small) :
    Calls Try.prog 144 #[.pointer (some ⟨hb, 0, none⟩), .int .i64 k, .agg #[pv, bv]] w fun e w' => ∃ ev v' m, w.heap.size ≤ m ∧ m ≤ w'.heap.size ∧ e = .returned (.tuple #[ev, .int .i64 0]) ∧ HallIn (fun b => P b ∨ Made w.heap.size m b) hb w' (.slice (some ⟨g, 0, none⟩) L.length cap) (L.set k (⟨L[k].1.name, L[k].1.limit, L[k].1.items ++ [newI next n]⟩, v')) (next + 1) ∧ SliceE (Made m w'.heap.size) w' ev [putE L[k].1.name next n] ∧ Keep (fun b => b < w.heap.size ∧ b ≠ g ∧ b ≠ hb) w w' := by
  have HN : Hid (NoteIs (fun b => b < w.heap.size ∧ b ≠ g ∧ b ≠ hb) w (pv, bv) n) := hn
  have HM : Hid n.small := hsm
  have HS : Hid (smallI L[k].1.items) := hs
  have HF : Hid (¬ L[k].1.limit ≤ (L[k].1.items.length : Int)) := hf
  obtain ⟨pa, pc, rfl, -⟩ := SliceV.shape hn.1
  obtain ⟨ba, bc, rfl, -⟩ := SliceV.shape hn.2
  obtain ⟨W0, hW0⟩ : ∃ W0, W0 = w.alloc (.cells #[.slice pa n.props.length pc, .slice ba n.body.length bc] 28) := ⟨_, rfl⟩
  have hz0 : W0.heap.size = w.heap.size + 1 := by rw [hW0]; simp
  have HB0 : Hid (Below w.heap.size w W0) := by rw [hW0]; exact below_alloc _ _
  have H0 := H.below HB0.out
  have HNB : Hid (Blk W0 w.heap.size [.slice pa n.props.length pc, .slice ba n.body.length bc]) := by rw [hW0]; exact Blk.new _ _ _
  obtain ⟨n0, n1, n2, n3⟩ := HNB.out.b2
  obtain ⟨ia, ic, -, hI, c0, c1, c2⟩ := H0.at k hk
  have HI : Hid (SliceI (Under W0.heap.size) W0 (.slice ia L[k].1.items.length ic) L[k].1.items) := hI.sub fun b hb => ⟨H0.lt b hb.1, rfl⟩
  obtain ⟨b0, b1, b2, b3⟩ := H0.box.b2
  obtain ⟨hgl, hgb, -, -⟩ := H0.gl
  obtain ⟨x0, x1, x2, x3⟩ := H.box.b2
  have HH : Hid (HallIn P hb W0 (.slice (some ⟨g, 0, none⟩) L.length cap) L next) := H0
  have HG : Hid (g < w.heap.size ∧ hb < w.heap.size ∧ ∀ b, P b → b < w.heap.size) := ⟨H.gl.1, H.gl.2.2.1, H.lt⟩
  clear H H0 hI hn hsm hs hf
  obtain ⟨q, hq⟩ : ∃ q, q = L[k].1 := ⟨_, rfl⟩
  rw [← hq] at c0 c1 c2 HI HS HF ⊢
  have HQ : Hid (q = L[k].1) := hq
  clear hq
  obtain ⟨its', hits⟩ : ∃ its', its' = q.items ++ [newI next n] := ⟨_, rfl⟩
  rw [← hits]
  have HIT : Hid (its' = q.items ++ [newI next n]) := hits
  clear hits
  go_enter Try.func144, Try.ntmps144
  go_upto_region 2 with fail
  rw [← hW0]
  have HZ0 : Hid (W0.heap.size = w.heap.size + 1) := hz0
  clear hW0 x0 x1 x2 x3 hz0
  go_cut [9, 10] (fun qp er wx => ∃ qb va vc, qp = .pointer (some ⟨qb, 0, none⟩) ∧ er = .int .i64 0 ∧ PutS P hb w g cap L next (.slice pa n.props.length pc) (.slice ba n.body.length bc) q.name q.limit va its'.length vc its' qb wx)
  case first =>
    go_region_law (first
      | (go_simp; go_at_call 158; refine (put_new _ _ _ q.name q.limit next q.items n _ ?_ HS.out ?_ HM.out HF.out).mono ?_; (exact HI.out.sub fun b hb => ⟨Nat.lt_of_lt_of_le hb (by simp), Below.heap_alloc _ _ _ hb⟩); (exact HN.out.sub fun b hb => ⟨Nat.lt_of_lt_of_le hb.1 (by have := HZ0.out; simp; omega), (Below.heap_alloc _ _ _ (by have := HZ0.out; omega)).trans (HB0.out.block b hb.1)⟩); rw [← HIT.out]; rintro e w1 ⟨v1, rfl, hv1, hb1⟩; obtain ⟨va, vc, rfl⟩ := hv1.shp; have hb1' : Below (W0.heap.size + 1) (W0.alloc (.cells #[.string ⟨#[]⟩, .int .i64 0, .slice none 0 0] 76)) w1 := ⟨hb1.os, hb1.tape, hb1.output, by simpa using hb1.size, fun b hb => hb1.block b (by simpa using hb)⟩; have hq1 : Blk w1 W0.heap.size [.string ⟨#[]⟩, .int .i64 0, .slice none 0 0] := (Blk.new W0 [.string ⟨#[]⟩, .int .i64 0, .slice none 0 0] 76).below hb1' (by omega); have HQ1 : Hid _ := hq1; obtain ⟨q0, q1, q2, q3, q4⟩ := hq1.b3; have HB1 : Hid (Below W0.heap.size W0 w1) := (((below_alloc W0 (.cells #[.string ⟨#[]⟩, .int .i64 0, .slice none 0 0] 76)).mono (by omega)).trans (hb1'.mono (by omega))); have HV1 : Hid (SliceI (Made (W0.heap.size + 1) w1.heap.size) w1 (.slice va its'.length vc) its') := (hv1.sub fun b hb => ⟨⟨by have := hb.1; simp at this; omega, hb.2⟩, rfl⟩); clear hb1 hv1 hb1' hq1)
      | (go_simp; go_at_call 158; refine (put_new _ _ _ q.name q.limit next q.items n _ ?_ HS.out ?_ HM.out HF.out).mono ?_; (exact HI.out.sub fun b hb => ⟨hb, rfl⟩); (exact HN.out.sub fun b hb => ⟨Nat.lt_of_lt_of_le hb.1 (by have := HZ0.out; simp; omega), HB0.out.block b hb.1⟩); rw [← HIT.out]; rintro e w1 ⟨v1, rfl, hv1, hb1⟩; obtain ⟨va, vc, rfl⟩ := hv1.shp; have HB1 : Hid (Below W0.heap.size W0 w1) := ⟨hb1.os, hb1.tape, hb1.output, hb1.size, hb1.block⟩; have HV1 : Hid (SliceI (Made W0.heap.size w1.heap.size) w1 (.slice va its'.length vc) its') := hv1; clear hb1 hv1))
    all_goals
      go_wp2_with fail
      go_meet
      first
        | exact ⟨_, va, vc, rfl, rfl, PutS.new HB0.out HZ0.out HH.out HNB.out HB1.out HV1.out⟩
        | exact ⟨_, va, vc, rfl, rfl, PutS.here HB0.out HZ0.out HH.out HNB.out HB1.out HQ1.out HV1.out⟩
        | exact ⟨_, va, vc, rfl, rfl, (PutS.new HB0.out HZ0.out HH.out HNB.out HB1.out HV1.out).drew⟩
        | exact ⟨_, va, vc, rfl, rfl, (PutS.here HB0.out HZ0.out HH.out HNB.out HB1.out HQ1.out HV1.out).drew⟩
  case rest =>
    obtain ⟨qb, va, vc, rfl, rfl, hS⟩ := hcut
    have HS2 : Hid _ := hS
    obtain ⟨q0, q1, q2, q3, q4⟩ := hS.q.b3
    obtain ⟨h0, h1, h2, h3⟩ := hS.hall.box.b2
    obtain ⟨ja, jc, -, -, y0, y1, y2⟩ := hS.hall.at k hk
    obtain ⟨hgw, -, -, -⟩ := hS.hall.gl
    have hgf := hS.hall.f
    clear hS n0 n1 n2 n3 c0 c1 c2 b0 b1 b2 b3
    go_upto_region 5 with fail
    go_cut [] (fun wx => PutT P hb w g cap L k next (.slice pa n.props.length pc) (.slice ba n.body.length bc) ⟨q.name, q.limit, its'⟩ (.slice va its'.length vc) wc.heap.size qb wx)
    case first =>
      go_region_law (fail)
      all_goals
        go_wp2_with fail
        go_meet
        exact (PutS.put (q := ⟨q.name, q.limit, its'⟩) HS2.out k hk HG.out.1 HG.out.2.1 HG.out.2.2).drew
    case rest =>
      have HC : Hid _ := hcut.count (next + 1)
      have HNC : Hid (NoteIs (fun b => b < w.heap.size) (wc.setCell ⟨hb, 1, none⟩ (.int .i64 (next + 1))) (.slice pa n.props.length pc, .slice ba n.body.length bc) n) := HN.out.sub fun b hb => ⟨hb.1, HC.out.keep.block b hb⟩
      have hml := hcut.ml
      have hmh := hcut.mh
      obtain ⟨d0, d1, d2, d3⟩ := hcut.hall.box.b2
      obtain ⟨e0, e1, e2, e3, e4⟩ := hcut.q.b3
      obtain ⟨f0, f1, f2, f3⟩ := hcut.note.b2
      clear hcut
      go_wp2_with fail
      obtain ⟨W7, hW7⟩ : ∃ W7, W7 = wc.setCell ⟨hb, 1, none⟩ (.int .i64 (next + 1)) := ⟨_, rfl⟩
      rw [← hW7] at HC HNC
      rw [← hW7]
      have hz7 : W7.heap.size = wc.heap.size := by rw [hW7]; simp
      clear hW7 d0 d1 d2 d3 e0 e1 e2 e3 f0 f1 f2 f3
      obtain ⟨e0, e1, e2, e3, e4⟩ := HC.out.q.b3
      obtain ⟨f0, f1, f2, f3⟩ := HC.out.note.b2
      go_region_law (first
        | (go_simp; go_at_call 60; refine (noteOwn_any _ _ n HM.out _ ?_).mono ?_; (exact HNC.out.sub fun b hb => ⟨Nat.lt_of_lt_of_le hb HC.out.keep.size, rfl⟩); rintro e w8 ⟨⟨o1, o2⟩, rfl, hn8, hb8⟩; obtain ⟨ra, rc, rfl, -⟩ := SliceV.shape hn8.1; obtain ⟨sa, sc, rfl, -⟩ := SliceV.shape hn8.2; have hb8' : Below W7.heap.size W7 w8 := ⟨hb8.os, hb8.tape, hb8.output, hb8.size, hb8.block⟩; have HN8 : Hid (NoteIs (Made W7.heap.size w8.heap.size) w8 (.slice ra n.props.length rc, .slice sa n.body.length sc) n) := hn8; have HC8 : Hid _ := HC.out.below hb8'; obtain ⟨e0', e1', e2', e3', e4'⟩ := HC8.out.q.b3; have hz8 := hb8'.size; clear hn8 hb8 hb8'))
      all_goals
        obtain ⟨t1, t2, t3, t4⟩ := HC8.out.told HN8.out (by omega) q.name next
        go_wp2_with fail
        exact bodyPost_ret (v := .tuple #[.slice (some ⟨w8.heap.size, 0, none⟩) 1 1, .int .i64 0]) (by simp [results, Try.results144, go_sem, *]; done) rfl ⟨_, _, _, Nat.le_of_lt hml, t1, rfl, t2, t3, t4⟩

set_option maxRecDepth 100000 in
set_option maxHeartbeats 3200000 in
theorem putIn_full {P : Nat → Prop} {hb : Nat} {w : World} {g cap : Nat} {L : QuL} {next : Int} (H : HallIn P hb w (.slice (some ⟨g, 0, none⟩) L.length cap) L next) (k : Nat) (hk : k < L.length) (hlen : L.length ≤ 4194304) (hf : L[k].1.limit ≤ (L[k].1.items.length : Int)) (pa ba : Option Addr) (pn pc bn bc : Nat) :
    Calls Try.prog 144 #[.pointer (some ⟨hb, 0, none⟩), .int .i64 k, .agg #[.slice pa pn pc, .slice ba bn bc]] w fun e w' => e = .returned (.tuple #[.slice none 0 0, .int .i64 8]) ∧ Below w.heap.size w w' := by
  obtain ⟨W0, hW0⟩ : ∃ W0, W0 = w.alloc (.cells #[.slice pa pn pc, .slice ba bn bc] 28) := ⟨_, rfl⟩
  have hz0 : W0.heap.size = w.heap.size + 1 := by rw [hW0]; simp
  have HB0 : Hid (Below w.heap.size w W0) := by rw [hW0]; exact below_alloc _ _
  have H0 := H.below HB0.out
  have HNB : Hid (Blk W0 w.heap.size [.slice pa pn pc, .slice ba bn bc]) := by rw [hW0]; exact Blk.new _ _ _
  obtain ⟨n0, n1, n2, n3⟩ := HNB.out.b2
  obtain ⟨ia, ic, -, hI, c0, c1, c2⟩ := H0.at k hk
  have HI : Hid (SliceI (Under W0.heap.size) W0 (.slice ia L[k].1.items.length ic) L[k].1.items) := hI.sub fun b hb => ⟨H0.lt b hb.1, rfl⟩
  obtain ⟨b0, b1, b2, b3⟩ := H0.box.b2
  obtain ⟨hgl, hgb, -, -⟩ := H0.gl
  obtain ⟨x0, x1, x2, x3⟩ := H.box.b2
  have HF : Hid (L[k].1.limit ≤ (L[k].1.items.length : Int)) := hf
  clear H H0 hI hf
  go_enter Try.func144, Try.ntmps144
  go_upto_region 2 with fail
  rw [← hW0]
  have HZ0 : Hid (W0.heap.size = w.heap.size + 1) := hz0
  clear hW0 x0 x1 x2 x3 hz0
  go_region_law (first
    | (go_simp; go_at_call 158; refine (put_full _ _ _ L[k].1.name L[k].1.limit next L[k].1.items _ ?_ HF.out ⟨_, _, _, rfl⟩ ⟨_, _, _, rfl⟩).mono ?_; (exact HI.out.sub fun b hb => ⟨Nat.lt_of_lt_of_le hb (by simp), Below.heap_alloc _ _ _ hb⟩); rintro e w1 ⟨rfl, hb1⟩; have hb1' : Below (W0.heap.size + 1) (W0.alloc (.cells #[.string ⟨#[]⟩, .int .i64 0, .slice none 0 0] 76)) w1 := ⟨hb1.os, hb1.tape, hb1.output, by simpa using hb1.size, fun b hb => hb1.block b (by simpa using hb)⟩; have hq1 : Blk w1 W0.heap.size [.string ⟨#[]⟩, .int .i64 0, .slice none 0 0] := (Blk.new W0 [.string ⟨#[]⟩, .int .i64 0, .slice none 0 0] 76).below hb1' (by omega); obtain ⟨q0, q1, q2, q3, q4⟩ := hq1.b3; have HB1 : Hid (Below W0.heap.size W0 w1) := (((below_alloc W0 (.cells #[.string ⟨#[]⟩, .int .i64 0, .slice none 0 0] 76)).mono (by omega)).trans (hb1'.mono (by omega))); clear hb1 hb1' hq1)
    | (go_simp; go_at_call 158; refine (put_full _ _ _ L[k].1.name L[k].1.limit next L[k].1.items _ ?_ HF.out ⟨_, _, _, rfl⟩ ⟨_, _, _, rfl⟩).mono ?_; (exact HI.out.sub fun b hb => ⟨hb, rfl⟩); rintro e w1 ⟨rfl, hb1⟩; have HB1 : Hid (Below W0.heap.size W0 w1) := ⟨hb1.os, hb1.tape, hb1.output, hb1.size, hb1.block⟩; clear hb1))
  all_goals
    go_wp2_with fail
    refine bodyPost_ret (v := .tuple #[.slice none 0 0, .int .i64 8]) (by simp [results, Try.results144, go_sem, *]; done) rfl ⟨rfl, ?_⟩
    have hz := HZ0.out
    have hB := HB0.out.trans (HB1.out.mono (by omega))
    have hs1 := HB1.out.size
    first
      | exact (hB.alloc (by omega) _).drew
      | exact hB.alloc (by omega) _
      | exact ((hB.setCell (by simp; omega) _).setCell (by simp; omega) _).setCell (by simp; omega) _
      | exact (((hB.setCell (by simp; omega) _).setCell (by simp; omega) _).setCell (by simp; omega) _).drew
end Go.Proofs.Ytkddkpdfeeikhaa
