/-
  hall.gone tells entries of items that are no more.
-/
import Derived.Test.YthdaccmjipomdabFind
namespace Go.Proofs.Ythdaccmjipomdab
open Go.RowKit
set_option linter.unusedVariables false
set_option linter.unusedSimpArgs false

attribute [local go_sem ↓] Go.wp_at_zero Go.wp_at_succ

def nN : ND := ⟨[], []⟩
def goneE (name : ByteArray) (id : Int) : ED := ⟨4, name, 0, id, nN⟩
def putE (name : ByteArray) (id : Int) (n : ND) : ED := ⟨3, name, 0, id, n⟩

/-- Entries of one's own: a row that the call made, notes in other blocks that it made. -/
def OwnE (base : Nat) (w : World) (v : Value) (es : List ED) : Prop :=
  ∃ L : EnL, L.map Prod.fst = es ∧ w.ownsRow base 92 6 v L.length (cellsE L) ∧ ∀ x ∈ L, NoteIs (fun b => base ≤ b ∧ b < w.heap.size ∧ v.ownBlock ≠ some b) w x.2 x.1.note

theorem OwnE.slice {base : Nat} {w : World} {v : Value} {es : List ED} (h : OwnE base w v es) : SliceE (Made base w.heap.size) w v es := by
  obtain ⟨L, e, h1, h2⟩ := h
  exact ⟨L, e, (own_slice h1).sub fun k hk => ⟨h1.lt k hk, rfl⟩, fun x hx => (h2 x hx).sub fun b hb => ⟨⟨hb.1, hb.2.1⟩, rfl⟩⟩
theorem OwnE.nil (base : Nat) (w : World) : OwnE base w (.slice none 0 0) [] := ⟨[], rfl, World.ownsRow_nil _ _ _ _, by simp⟩
theorem OwnE.mono {base base' : Nat} {w : World} {v : Value} {es : List ED} (h : OwnE base w v es) (hb : base' ≤ base) : OwnE base' w v es := by
  obtain ⟨L, e, h1, h2⟩ := h
  exact ⟨L, e, own_mono h1 hb, fun x hx => (h2 x hx).sub fun b h => ⟨⟨Nat.le_trans hb h.1, h.2⟩, rfl⟩⟩
theorem OwnE.kept {base : Nat} {w w' : World} {v : Value} {es : List ED} (h : OwnE base w v es) (hz : w.heap.size ≤ w'.heap.size) (hb : ∀ k, base ≤ k → k < w.heap.size → w'.heap[k]? = w.heap[k]?) : OwnE base w' v es := by
  obtain ⟨L, e, h1, h2⟩ := h
  exact ⟨L, e, own_same h1 (fun b hb' => hb b (h1.lt b hb').1 (h1.lt b hb').2), fun x hx => (h2 x hx).sub fun b h => ⟨⟨h.1, by omega, h.2.2⟩, hb b h.1 h.2.1⟩⟩
theorem OwnE.shp {base : Nat} {w : World} {v : Value} {es : List ED} (h : OwnE base w v es) : ∃ a cap, v = .slice a es.length cap := h.slice.shp

theorem info92 : (Try.prog.info? 92).map (fun i => (i.zero, i.size, i.bytes)) = some (some (.agg #[.int .i64 0, .string ByteArray.empty, .int .i64 0, .int .i64 0, .slice none 0 0, .slice none 0 0]), 6, 88) := by kernel_rfl

/-- A new row, whole. -/
theorem row_any (w : World) (cs : List Value) (t : TypeId) (n : Nat) (hn : n ≤ maxLen) : SliceV (fun b => b = w.heap.size) (w.alloc (.cells cs.toArray t)) (.slice (some ⟨w.heap.size, 0, none⟩) n n) n cs := by
  refine ⟨_, _, rfl, Nat.le_refl _, hn, fun h => by simp at h, fun i hi => ⟨w.heap.size, 0, rfl, rfl, ?_⟩⟩
  rw [(Blk.new w cs t).cell]
  simp [hi]

def goneL' (name : ByteArray) (ids : List Int) : EnL := ids.map fun id => (goneE name id, (.slice none 0 0, .slice none 0 0))

set_option maxRecDepth 100000 in
set_option maxHeartbeats 3200000 in
theorem gone_any (name : ByteArray) (u : Value) (ids : List Int) (hlen : ids.length ≤ 1000) (w : World) (hu : SliceV (Under w.heap.size) w u ids.length (ints ids)) :
    Calls Try.prog 71 #[.string name, u] w fun e w' => ∃ v, e = .returned v ∧ OwnE w.heap.size w' v (ids.map (goneE name)) ∧ Below w.heap.size w w' := by
  obtain ⟨i0, hi0, hz0, hz1, hz2⟩ := info_parts info92
  have HU : Hid (SliceV (Under w.heap.size) w u ids.length (ints ids)) := hu
  obtain ⟨ua, uc, rfl, h1, h2, h3⟩ := hu.shape
  unfold maxLen at h2
  clear hu
  go_enter Try.func71, Try.ntmps71
  go_wp2
  go_loopw [5, 10] (fun tv i wr => ∃ k : Nat, k ≤ ids.length ∧ i = .int .i64 k ∧ Below w.heap.size w wr ∧ wr.ownsRow w.heap.size 92 6 tv k (cellsE (goneL' name (ids.take k))))
    (fun _ i _ => ids.length - (intOf i).toNat)
  case atStart => exact ⟨0, Nat.zero_le _, rfl, Below.refl _ _, World.ownsRow_nil _ _ _ _⟩
  case round =>
    obtain ⟨k, hk, rfl, hb, ho⟩ := hrel
    have HO : Hid (wr.ownsRow w.heap.size 92 6 u5 k (cellsE (goneL' name (ids.take k)))) := ho
    have hzr := hb.size
    by_cases hlt : k < ids.length
    · obtain ⟨a', cap', e, -, -, -, hR⟩ := HU.out
      obtain ⟨b, off, rfl, hS, hc⟩ := hR k (by simp [ints, hlt])
      simp only [Value.slice.injEq] at e
      obtain ⟨rfl, -, rfl⟩ := e
      have c0 : wr.cell? ⟨b, off + k, none⟩ = some (.int .i64 ids[k]) := by
        rw [World.cell?_of_block (hb.block b hS), hc]
        simp [ints]
      obtain ⟨ta, tc, rfl, -⟩ := own_shape ho
      clear hc hR ho
      go_wp2_with (at_builtin; refine wpList_appV rfl (.tmp 14) (.tmp 18) 51 rfl 92 i0 _ 6 88 Try.underlying51 hi0 hz0 hz1 hz2 rfl (by omega) w.heap.size (.slice ta k tc) k (cellsE (goneL' name (ids.take k))) rfl (own_below HO.out (below_alloc _ _)) (fun b => b = wr.heap.size) (.slice (some ⟨wr.heap.size, 0, none⟩) 1 1) 1 ((goneE name ids[k]).cells (.slice none 0 0, .slice none 0 0)) rfl (row_any _ _ _ _ (by simp [maxLen])) rfl (by simp [ED.cells, Value.oneCell']) (by unfold maxLen; omega) (by omega) (by simp <;> omega) ?_; intro ao cap w1 ho1 hg1 hm1)
      go_roundw
      case rel =>
        refine ⟨k + 1, by omega, by go_num, ?_, ?_⟩
        · exact hb.trans ((below_alloc _ _).mono hzr |>.trans (below_of_grownBy hg1 (by simp; omega) (fun b hb' => (HO.out.lt b hb').1)))
        · have e : cellsE (goneL' name (ids.take (k + 1))) = cellsE (goneL' name (ids.take k)) ++ (goneE name ids[k]).cells (.slice none 0 0, .slice none 0 0) := by
            rw [List.take_succ_eq_append_getElem hlt]
            unfold goneL'
            rw [List.map_append, cellsE_append]
            simp [cellsE]
          rw [e]
          exact ho1
      case measure => simp [intOf]; omega
    · obtain rfl : k = ids.length := by omega
      obtain ⟨ta, tc, rfl, -⟩ := own_shape ho
      clear ho
      go_wp2
      go_ret
      refine ⟨_, rfl, ⟨goneL' name ids, by simp [goneL', Function.comp_def], ?_, fun x hx => ?_⟩, hb⟩
      · have := HO.out
        rw [List.take_of_length_le (Nat.le_refl _)] at this
        simpa [goneL'] using this
      · simp only [goneL', List.mem_map] at hx
        obtain ⟨i, -, rfl⟩ := hx
        exact NoteIs.nil _ _
end Go.Proofs.Ythdaccmjipomdab
