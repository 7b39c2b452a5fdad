/-
  note.Own answers a note that reads as the given one, in new memory; queue.ownItem likewise.
-/
import Derived.Test.YthdaccmjipomdabBase
import Derived.Deep.RegionHeld3
import Derived.Deep.RegionLaw
import Derived.Deep.DrawnRows
namespace Go.Proofs.Ythdaccmjipomdab
open Go.RowKit
set_option linter.unusedVariables false
set_option linter.unusedSimpArgs false

attribute [local go_sem ↓] Go.wp_at_zero Go.wp_at_succ

theorem info68 : (Try.prog.info? 105).map (fun i => (i.zero, i.size, i.bytes)) = some (some (.agg #[.string ByteArray.empty, .int .i64 0, .int .i64 0, .string ByteArray.empty]), 4, 48) := by kernel_rfl

/-- Blocks that a call made. -/
def Made (lo hi : Nat) : Nat → Prop := fun b => lo ≤ b ∧ b < hi
/-- Blocks below. -/
def Under (hi : Nat) : Nat → Prop := fun b => b < hi

theorem own_made {w : World} {base lo : Nat} {e : TypeId} {size : Nat} {v : Value} {n : Nat} {xs : List Value} (h : w.ownsRow base e size v n xs) (hl : lo ≤ base) : SliceV (Made lo w.heap.size) w v n xs :=
  (own_slice h).sub fun k hk => ⟨⟨Nat.le_trans hl (h.lt k hk).1, (h.lt k hk).2⟩, rfl⟩

set_option maxRecDepth 100000 in
set_option maxHeartbeats 3200000 in
theorem noteOwn_any (v u : Value) (n : ND) (hs : n.small) (w : World) (h : NoteIs (Under w.heap.size) w (v, u) n) :
    Calls Try.prog 48 #[.agg #[v, u]] w fun e w' => ∃ q : Value × Value, e = .returned (.agg #[q.1, q.2]) ∧ NoteIs (Made w.heap.size w'.heap.size) w' q n ∧ Below w.heap.size w w' := by
  obtain ⟨i0, hi0, hz0, hz1, hz2⟩ := info_parts info68
  obtain ⟨j0, hj0, hy0, hy1, hy2⟩ := info_parts info5
  obtain ⟨hs1, hs2⟩ := hs
  obtain ⟨hv, hu⟩ := h
  have KP : Hid (SliceP (Under w.heap.size) w v n.props) := hv
  have KB : Hid (SliceB (Under w.heap.size) w u n.body) := hu
  obtain ⟨va, vc, rfl, -⟩ := SliceV.shape hv
  obtain ⟨ua, uc, rfl, -⟩ := SliceV.shape hu
  obtain ⟨ps, bs⟩ := n
  simp only at hs1 hs2 KP KB ⊢
  have two : Hid (∀ o1 o2 : Obj, Below w.heap.size w ((w.alloc o1).alloc o2)) := fun o1 o2 => (below_alloc _ _).alloc (by simp) _
  clear hv hu
  go_enter Try.func48, Try.ntmps48
  go_wp2_with fail
  go_region_held3 (fun w' => w'.cell? ⟨w.heap.size, 0, none⟩ = some (.slice va ps.length vc) ∧ w'.cell? ⟨w.heap.size, 1, none⟩ = some (.slice ua bs.length uc)) (go_keep)
    (first
      | (refine step_appV (by rfl) _ _ 30 (by rfl) 105 i0 _ 4 48 Try.underlying30 hi0 hz0 hz1 hz2 rfl (by omega) (w.heap.size + 2) (.slice none 0 0) 0 [] (by rfl) (World.ownsRow_nil _ _ _ _) (Under w.heap.size) (.slice va ps.length vc) ps.length (cellsL ps) (by rfl) (KP.out.sub fun k hk => ⟨hk, (two.out _ _).block k hk⟩) (cellsL_len ps) (cellsL_one ps) (by unfold maxLen; omega) (by omega) (by simp) ?_; intro ao cap wP hownP hgP hmP; obtain ⟨p1, p2⟩ := bcellx hgP w.heap.size (by simp; omega); obtain ⟨p3, p4⟩ := bcellx hgP (w.heap.size + 1) (by simp); have hzP : w.heap.size + 2 ≤ wP.heap.size := (by have := hgP.size; simp at this; omega))
      | (refine step_appV (by rfl) _ _ 29 (by rfl) 5 j0 _ 1 1 Try.underlying29 hj0 hy0 hy1 hy2 rfl (by omega) (w.heap.size + 2) (.slice none 0 0) 0 [] (by rfl) (World.ownsRow_nil _ _ _ _) (Under w.heap.size) (.slice ua bs.length uc) bs.length (u8s bs) (by rfl) (KB.out.sub fun k hk => ⟨hk, (hgP.block k (by simp [Under] at hk ⊢; omega) (by simp [Value.ownBlock])).trans ((two.out _ _).block k hk)⟩) (by simp [u8s]) (u8s_one bs) (by unfold maxLen; omega) (by omega) hzP ?_; intro ao2 cap2 wB hownB hgB hmB; obtain ⟨q1, q2⟩ := bcellx hgB w.heap.size (by omega); obtain ⟨q3, q4⟩ := bcellx hgB (w.heap.size + 1) (by omega)))
  go_wp2
  have oP : wB.ownsRow (w.heap.size + 2) 105 4 (.slice ao ps.length cap) ps.length (cellsL ps) := by
    have := hownP.kept hgB (by simp [Value.ownBlock]; cases ao <;> simp [Value.ownBlock])
    simpa using this
  have oB : wB.ownsRow (w.heap.size + 2) 5 1 (.slice ao2 bs.length cap2) bs.length (u8s bs) := by simpa using hownB
  have bel : Below w.heap.size w wB := by
    have b1 := (two.out (.cells #[.slice va ps.length vc, .slice ua bs.length uc] 32) (.cells #[.slice none 0 0, .slice none 0 0] 32)).drew.trans ((nil_below hgP).mono (by simp; omega))
    exact b1.trans ((nil_below hgB).mono (by omega))
  refine bodyPost_ret (v := .agg #[.slice ao ps.length cap, .slice ao2 bs.length cap2]) (by simp [results, Try.results48, go_sem, *]) rfl ⟨(_, _), rfl, ⟨?_, ?_⟩, (bel.setCell (by simp) _).setCell (by simp) _⟩
  · exact own_made (ownsRow_setCell_below (ownsRow_setCell_below oP (by simp) _) (by simp) _) (by omega)
  · exact own_made (ownsRow_setCell_below (ownsRow_setCell_below oB (by simp) _) (by simp) _) (by omega)

/-- An item. -/
structure IT where
  id : Int
  turn : Int
  tries : Int
  out : Bool
  due : Int
  note : ND

def IT.val (i : IT) (p : Value × Value) : Value := .agg #[.int .i64 i.id, .int .i64 i.turn, .int .i64 i.tries, .bool i.out, .int .i64 i.due, p.1, p.2]
def IT.cells (i : IT) (p : Value × Value) : List Value := [.int .i64 i.id, .int .i64 i.turn, .int .i64 i.tries, .bool i.out, .int .i64 i.due, p.1, p.2]

set_option maxRecDepth 100000 in
set_option maxHeartbeats 3200000 in
theorem ownItem_any (v u : Value) (i : IT) (hs : i.note.small) (w : World) (h : NoteIs (Under w.heap.size) w (v, u) i.note) :
    Calls Try.prog 83 #[.agg #[.int .i64 i.id, .int .i64 i.turn, .int .i64 i.tries, .bool i.out, .int .i64 i.due, v, u]] w fun e w' => ∃ q : Value × Value, e = .returned (i.val q) ∧ NoteIs (Made w.heap.size w'.heap.size) w' q i.note ∧ Below w.heap.size w w' := by
  have KN : Hid (NoteIs (Under w.heap.size) w (v, u) i.note) := h
  have HS : Hid i.note.small := hs
  obtain ⟨va, vc, rfl, -⟩ := SliceV.shape h.1
  obtain ⟨ua, uc, rfl, -⟩ := SliceV.shape h.2
  obtain ⟨id, turn, tries, out, due, note⟩ := i
  simp only at KN HS ⊢
  clear h hs
  have two : Hid (∀ o1 o2 : Obj, Below w.heap.size w ((w.alloc o1).alloc o2)) := fun o1 o2 => (below_alloc _ _).alloc (by simp) _
  go_enter Try.func83, Try.ntmps83
  go_wp2_with (first
    | (go_at_call 48; refine (noteOwn_any _ _ note HS.out _ (KN.out.sub fun k hk => ⟨?_, (two.out _ _).block k hk⟩)).mono ?_; (simp [Under] at hk ⊢; omega); rintro e w1 ⟨⟨v1, u1⟩, rfl, hn1, hb1⟩; obtain ⟨va1, vc1, rfl, -⟩ := SliceV.shape hn1.1; obtain ⟨ua1, uc1, rfl, -⟩ := SliceV.shape hn1.2; obtain ⟨⟨a0, a1, a2, a3⟩, ⟨a4, a5, a6⟩, a7, a8⟩ := (((Blk.new w _ 34).alloc _).below hb1 (by simp; omega)).b7; obtain ⟨⟨b0, b1, b2, b3⟩, ⟨b4, b5, b6⟩, b7, b8⟩ := ((Blk.new (w.alloc _) _ 34).below hb1 (by simp)).b7; simp only [World.size_alloc] at b0 b1 b2 b3 b4 b5 b6 b7 b8))
  refine bodyPost_ret (v := .agg #[.int .i64 id, .int .i64 turn, .int .i64 tries, .bool out, .int .i64 due, .slice va1 note.props.length vc1, .slice ua1 note.body.length uc1]) (by simp [results, Try.results83, go_sem, *]; done) rfl ⟨(_, _), rfl, ?_, ?_⟩
  · refine hn1.sub fun k hk => ?_
    obtain ⟨h1, h2⟩ := hk
    simp at h1
    refine ⟨⟨by omega, by simpa using h2⟩, ?_⟩
    iterate 9 rw [Below.heap_setCell _ _ _ _ (by simp; omega)]
  · iterate 9 refine Below.setCell ?_ (by simp) _
    exact (two.out _ _).trans (hb1.mono (by simp; omega))
end Go.Proofs.Ythdaccmjipomdab
