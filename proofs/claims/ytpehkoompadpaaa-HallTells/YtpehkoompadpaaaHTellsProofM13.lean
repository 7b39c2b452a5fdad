/-
  Same; SameQ; RFind; Gone: texts laid together.
-/
import Derived.Test.YtpehkoompadpaaaRef
import Derived.Deep.QuietTactic
import Derived.BigQuiet
import Derived.Laws.StructEq
import Derived.Test.YtpehkoompadpaaaLate
import Derived.Test.YtpehkoompadpaaaHTellsProofM11
/-
  tgref1.Same, SameItem and SameQueue answer true where both read the same.
-/
namespace Go.Proofs.Ytpehkoompadpaaa
open Go.RowKit
set_option linter.unusedVariables false
set_option linter.unusedSimpArgs false

attribute [local go_sem ↓] Go.wp_at_zero Go.wp_at_succ

def bstr (bs : List UInt8) : ByteArray := ⟨bs.toArray⟩
theorem bstr_toList (a : List UInt8) : (bstr a).toList = a := by rw [ByteArray.toList_eq]; rfl

theorem conv_str {S : Nat → Prop} {w : World} {v : Value} {bs : List UInt8} (h : SliceB S w v bs) : (convert 26 9 v).run Try.prog w = .ok (.string (bstr bs)) w := by
  obtain ⟨a, cap, rfl, h1, h2, _, h3⟩ := h
  by_cases h0 : bs = []
  · subst h0
    rw [run_convert_bytes_string w 26 9 5 a _ cap Try.underlying26 Try.underlying5 Try.underlying9]
    cases a <;> simp [Conv.bytesToString, loadCells]
    all_goals rfl
  · have hl : 0 < bs.length := by cases bs; simp at h0; simp
    obtain ⟨b, off, rfl, hlt, _⟩ := h3 0 (by rw [u8s_len]; exact hl)
    have := run_convert_bytes_arg (P := Try.prog) w 26 5 Try.underlying26 Try.underlying5 b off bs.length cap (bs.map fun c => (c.toNat : Int)) (by simp) (fun i hi => by
      obtain ⟨b', off', e, _, hc⟩ := h3 i (by rw [u8s_len]; exact hi)
      simp at e
      obtain ⟨rfl, rfl⟩ := e
      rw [hc]
      simp [hi, u8s]) 9 Try.underlying9
    rw [this]
    have e : strOfNums (bs.map fun c => (c.toNat : Int)) = bstr bs := by
      have e2 : ∀ l : List UInt8, (l.map fun c => (c.toNat : Int)).map (fun n : Int => UInt8.ofNat n.toNat) = l := fun l => by
        induction l with
        | nil => rfl
        | cons a r ih => simp only [List.map_cons, ih]; simp
      unfold strOfNums bstr
      first
        | rw [e2]
        | (simp only [List.map_map] at e2 ⊢; rw [e2])
    first
      | rw [e]
      | (rw [List.take_of_length_le (by simp), e])

theorem fields78 : Try.prog.underlying 117 = some (.struct (Try.prog.fieldsOf 117)) := by kernel_rfl
theorem held78 : Try.prog.stoodInHeld 117 = false := by kernel_rfl

theorem prop_neq (k1 : ByteArray) (a1 b1 : Int) (t1 : ByteArray) (w : World) :
    (binOp .neq 117 (.agg #[.string k1, .int .i64 a1, .int .i64 b1, .string t1]) (.agg #[.string k1, .int .i64 a1, .int .i64 b1, .string t1])).run Try.prog w = .ok (.bool false) w := by
  rw [run_neq_struct, run_equalIn_agg w _ 117 _ _ fields78 held78]
  have hf : (Try.prog.fieldsOf 117).toList = [{ name := "Key", type := 9, offset := 0, embedded := false, tag := "", pkgPath := "", byteOffset := 0 },
        { name := "Kind", type := 3, offset := 1, embedded := false, tag := "", pkgPath := "", byteOffset := 16 },
        { name := "N", type := 3, offset := 2, embedded := false, tag := "", pkgPath := "", byteOffset := 24 },
        { name := "Text", type := 9, offset := 3, embedded := false, tag := "", pkgPath := "", byteOffset := 32 }] := by
    rw [Program.fieldsOf, Try.underlying117]
  rw [hf]
  simp [go_sem]

theorem NoteIs.up' {w w' : World} {v : Value × Value} {n : ND} (h : NoteIs (Under w.heap.size) w v n) (hb : Below w.heap.size w w') : NoteIs (Under w'.heap.size) w' v n :=
  h.sub fun k hk => ⟨Nat.lt_of_lt_of_le hk hb.size, hb.block k hk⟩

set_option maxRecDepth 100000 in
set_option maxHeartbeats 2000000 in
theorem same_true (v u v' u' : Value) (n : ND) (w : World) (h : NoteIs (Under w.heap.size) w (v, u) n) (h' : NoteIs (Under w.heap.size) w (v', u') n) :
    Calls Try.prog 57 #[.agg #[v, u], .agg #[v', u']] w fun e w' => e = .returned (.bool true) ∧ Below w.heap.size w w' := by
  have hcx := fun o1 o2 => conv_str ((h.up' (below_alloc w o1)).up' (below_alloc (w.alloc o1) o2)).2
  have hcy := fun o1 o2 => conv_str ((h'.up' (below_alloc w o1)).up' (below_alloc (w.alloc o1) o2)).2
  have HP : Hid (SliceP (Under w.heap.size) w v n.props) := h.1
  have HQ : Hid (SliceP (Under w.heap.size) w v' n.props) := h'.1
  obtain ⟨va, vc, rfl, v1, v2, v3⟩ := SliceV.shape h.1
  obtain ⟨ua, uc, rfl, -⟩ := SliceV.shape h.2
  obtain ⟨xa, xc, rfl, x1, x2, x3⟩ := SliceV.shape h'.1
  obtain ⟨ya, yc, rfl, -⟩ := SliceV.shape h'.2
  obtain ⟨ps, x⟩ := n
  simp only at HP HQ hcx hcy v1 x1 ⊢
  have hpl : ps.length ≤ 9223372036854775807 := by unfold maxLen at v2; omega
  clear v1 v2 v3 x1 x2 x3 h h'
  have two : Hid (∀ o1 o2 : Obj, Below w.heap.size w ((w.alloc o1).alloc o2)) := fun o1 o2 => (below_alloc _ _).alloc (by simp) _
  go_enter Try.func57, Try.ntmps57
  go_wp2
  go_loopw [25] (fun i wr => ∃ k : Nat, k ≤ ps.length ∧ i = .int .i64 k ∧ (∃ n, wr = ((w.alloc (.cells #[.slice va ps.length vc, .slice ua x.length uc] 28)).alloc (.cells #[.slice xa ps.length xc, .slice ya x.length yc] 28)).drewN n)) (fun i _ => ps.length - (intOf i).toNat)
  case atStart => exact ⟨0, Nat.zero_le _, rfl, ⟨0, rfl⟩⟩
  case round =>
    obtain ⟨k, hk, rfl, ⟨n, rfl⟩⟩ := hrel
    by_cases hlt : k < ps.length
    · obtain ⟨b1, o1, e1, _, c0, c1, c2, c3⟩ := SliceP.at (SliceV.sub (T := Under w.heap.size) HP.out fun b hb => ⟨hb, (two.out (.cells #[.slice va ps.length vc, .slice ua x.length uc] 28) (.cells #[.slice xa ps.length xc, .slice ya x.length yc] 28)).block b hb⟩) k hlt
      obtain ⟨b2, o2, e2, _, d0, d1, d2, d3⟩ := SliceP.at (SliceV.sub (T := Under w.heap.size) HQ.out fun b hb => ⟨hb, (two.out (.cells #[.slice va ps.length vc, .slice ua x.length uc] 28) (.cells #[.slice xa ps.length xc, .slice ya x.length yc] 28)).block b hb⟩) k hlt
      subst e1 e2
      obtain ⟨p, hp⟩ : ∃ p, p = ps[k] := ⟨_, rfl⟩
      rw [← hp] at c0 c1 c2 c3 d0 d1 d2 d3
      clear hp
      have hk1 : (k : Int) < (ps.length : Int) := by omega
      have hne := prop_neq p.key p.kind p.n p.text
      go_wp2_with fail
      go_quiet (fail)
      go_wp2
      go_roundw
      case rel => exact ⟨k + 1, by omega, by go_num, ⟨_, rfl⟩⟩
      case measure => simp [intOf]; omega
    · go_wp2
      go_ret
      exact ⟨rfl, below_drewN (two.out _ _) _⟩

set_option maxRecDepth 100000 in
set_option maxHeartbeats 2000000 in
theorem sameItem_true (it : IT) (v u v' u' : Value) (w : World) (h : NoteIs (Under w.heap.size) w (v, u) it.note) (h' : NoteIs (Under w.heap.size) w (v', u') it.note) :
    Calls Try.prog 33 #[.agg #[.int .i64 it.id, .int .i64 it.turn, .int .i64 it.tries, .bool it.out, .int .i64 it.due, v, u], .agg #[.int .i64 it.id, .int .i64 it.turn, .int .i64 it.tries, .bool it.out, .int .i64 it.due, v', u']] w fun e w' => e = .returned (.bool true) ∧ Below w.heap.size w w' := by
  have HN : Hid (NoteIs (Under w.heap.size) w (v, u) it.note ∧ NoteIs (Under w.heap.size) w (v', u') it.note) := ⟨h, h'⟩
  obtain ⟨va, vc, rfl, -⟩ := SliceV.shape h.1
  obtain ⟨ua, uc, rfl, -⟩ := SliceV.shape h.2
  obtain ⟨xa, xc, rfl, -⟩ := SliceV.shape h'.1
  obtain ⟨ya, yc, rfl, -⟩ := SliceV.shape h'.2
  clear h h'
  obtain ⟨id, turn, tries, out, due, note⟩ := it
  simp only at HN ⊢
  go_enter Try.func33, Try.ntmps33
  go_wp2_with (go_at_call 57; refine (same_true _ _ _ _ note _ ((HN.out.1.up' (below_alloc _ _)).up' (below_alloc _ _)) ((HN.out.2.up' (below_alloc _ _)).up' (below_alloc _ _))).mono ?_; rintro e w1 ⟨rfl, hb1⟩)
  go_ret
  exact ⟨rfl, ((below_alloc _ _).alloc (by simp) _).trans (hb1.mono (by simp; omega))⟩
end Go.Proofs.Ytpehkoompadpaaa

/-
  tgref1.SameQueue answers true where both read the same.
-/
namespace Go.Proofs.Ytpehkoompadpaaa
open Go.RowKit
set_option linter.unusedVariables false
set_option linter.unusedSimpArgs false

attribute [local go_sem ↓] Go.wp_at_zero Go.wp_at_succ

theorem SliceI.up {w w' : World} {v : Value} {its : List IT} (h : SliceI (Under w.heap.size) w v its) (hb : Below w.heap.size w w') : SliceI (Under w'.heap.size) w' v its :=
  h.sub fun k hk => ⟨Nat.lt_of_lt_of_le hk hb.size, hb.block k hk⟩

set_option maxRecDepth 100000 in
set_option maxHeartbeats 3200000 in
theorem sameQueue_true (v v' : Value) (name : ByteArray) (limit : Int) (its : List IT) (hlen : its.length ≤ 1000) (w : World) (hv : SliceI (Under w.heap.size) w v its) (hv' : SliceI (Under w.heap.size) w v' its) :
    Calls Try.prog 51 #[.agg #[.string name, .int .i64 limit, v], .agg #[.string name, .int .i64 limit, v']] w fun e w' => e = .returned (.bool true) ∧ Below w.heap.size w w' := by
  have HV : Hid (SliceI (Under w.heap.size) w v its) := hv
  have HV' : Hid (SliceI (Under w.heap.size) w v' its) := hv'
  obtain ⟨va, vc, rfl⟩ := hv.shp
  obtain ⟨ua, uc, rfl⟩ := hv'.shp
  clear hv hv'
  have two : Hid (∀ o1 o2 : Obj, Below w.heap.size w ((w.alloc o1).alloc o2)) := fun o1 o2 => (below_alloc _ _).alloc (by simp) _
  go_enter Try.func51, Try.ntmps51
  go_wp2
  go_loopw [30] (fun i wr => ∃ k : Nat, k ≤ its.length ∧ i = .int .i64 k ∧ Below w.heap.size w wr ∧ Blk wr w.heap.size [.string name, .int .i64 limit, .slice va its.length vc] ∧ Blk wr (w.heap.size + 1) [.string name, .int .i64 limit, .slice ua its.length uc]) (fun i _ => its.length - (intOf i).toNat)
  case atStart =>
    refine ⟨0, Nat.zero_le _, rfl, two.out _ _, (Blk.new w _ 71).alloc _, ?_⟩
    have := Blk.new (w.alloc (.cells #[.string name, .int .i64 limit, .slice va its.length vc] 71)) [.string name, .int .i64 limit, .slice ua its.length uc] 71
    simpa using this
  case round =>
    obtain ⟨k, hk, rfl, hbr, hk0, hk1⟩ := hrel
    have hzr := hbr.size
    have HB : Hid (Below w.heap.size w wr) := hbr
    have HK : Hid (Blk wr w.heap.size [.string name, .int .i64 limit, .slice va its.length vc] ∧ Blk wr (w.heap.size + 1) [.string name, .int .i64 limit, .slice ua its.length uc]) := ⟨hk0, hk1⟩
    by_cases hlt : k < its.length
    · obtain ⟨a0, a1, a2, a3, a4⟩ := hk0.b3
      obtain ⟨b0, b1, b2, b3, b4⟩ := hk1.b3
      obtain ⟨b, off, pa, pc, qa, qc, rfl, hS, hn, ⟨c0, c1, c2, c3⟩, c4, c5, c6⟩ := (HV.out.up hbr).at k hlt
      obtain ⟨b', off', pa', pc', qa', qc', rfl, hS', hn', ⟨d0, d1, d2, d3⟩, d4, d5, d6⟩ := (HV'.out.up hbr).at k hlt
      have HN : Hid (NoteIs (Under wr.heap.size) wr (.slice pa its[k].note.props.length pc, .slice qa its[k].note.body.length qc) its[k].note ∧ NoteIs (Under wr.heap.size) wr (.slice pa' its[k].note.props.length pc', .slice qa' its[k].note.body.length qc') its[k].note) := ⟨hn, hn'⟩
      obtain ⟨it, hit⟩ : ∃ it, it = its[k] := ⟨_, rfl⟩
      rw [← hit] at c0 c1 c2 c3 c4 c5 c6 d0 d1 d2 d3 d4 d5 d6 HN
      clear hn hn' hit hbr hk0 hk1
      have hk1 : (k : Int) < (its.length : Int) := by omega
      go_wp2_with fail
      go_region_law (first
        | (go_simp; go_at_call 33; refine (sameItem_true it _ _ _ _ _ ?_ ?_).mono ?_; (exact HN.out.1.sub fun b hb => ⟨hb, rfl⟩); (exact HN.out.2.sub fun b hb => ⟨hb, rfl⟩); rintro e w1 ⟨rfl, hb1⟩; have hb1' : Below wr.heap.size wr w1 := ⟨hb1.os, hb1.tape, hb1.output, hb1.size, hb1.block⟩; clear hb1))
      all_goals
        have HB1 : Hid (Below w.heap.size w w1) := HB.out.trans (hb1'.mono hzr)
        have HK1 : Hid (Blk w1 w.heap.size [.string name, .int .i64 limit, .slice (some ⟨b, off, none⟩) its.length vc] ∧ Blk w1 (w.heap.size + 1) [.string name, .int .i64 limit, .slice (some ⟨b', off', none⟩) its.length uc]) := ⟨HK.out.1.below hb1' a4, HK.out.2.below hb1' b4⟩
        clear hb1' a0 a1 a2 a3 b0 b1 b2 b3 c0 c1 c2 c3 c4 c5 c6 d0 d1 d2 d3 d4 d5 d6
        go_wp2
        go_roundw
        case rel => exact ⟨k + 1, by omega, by go_num, HB1.out, HK1.out.1, HK1.out.2⟩
        case measure => simp [intOf]; omega
    · clear hk0 hk1
      go_wp2
      go_ret
      exact ⟨rfl, HB.out⟩
end Go.Proofs.Ytpehkoompadpaaa

/-
  tgref1.Find tells the place of a queue.
-/
namespace Go.Proofs.Ytpehkoompadpaaa
open Go.RowKit
set_option linter.unusedVariables false
set_option linter.unusedSimpArgs false

attribute [local go_sem ↓] Go.wp_at_zero Go.wp_at_succ

set_option maxRecDepth 100000 in
set_option maxHeartbeats 3200000 in
theorem refFind_any (name : ByteArray) (v : Value) (next : Int) (qs : List QD) (w : World) (h : SliceQ (Under w.heap.size) w v qs) :
    Calls Try.prog 11 #[.agg #[v, .int .i64 next], .string name] w fun e w' => e = .returned (.int .i64 (idxQ name qs)) ∧ Below w.heap.size w w' := by
  have HL : Hid (SliceQ (Under w.heap.size) w v qs) := h
  obtain ⟨va, vc, rfl, h1, h2, h3⟩ := h.shape
  unfold maxLen at h2
  clear h
  go_enter Try.func11, Try.ntmps11
  go_wp2
  go_loopw [10] (fun i wr => ∃ k : Nat, k ≤ qs.length ∧ i = .int .i64 k ∧ Below w.heap.size w wr ∧ ∀ x ∈ qs.take k, nameB name x = false)
    (fun i _ => qs.length - (intOf i).toNat)
  case atStart => exact ⟨0, Nat.zero_le _, rfl, below_alloc _ _, by simp⟩
  case round =>
    obtain ⟨k, hk, rfl, hb, hno⟩ := hrel
    have HN : Hid (∀ x ∈ qs.take k, nameB name x = false) := hno
    have HB : Hid (Below w.heap.size w wr) := hb
    have hzr := hb.size
    clear hno
    by_cases hlt : k < qs.length
    · obtain ⟨b, off, ia, ic, rfl, hS, hq, c0, c1, c2⟩ := (SliceQ.sub (T := Under w.heap.size) HL.out (fun b hb' => ⟨hb', hb.block b hb'⟩)).at k hlt
      clear hq hb
      cases hp : nameB name qs[k]
      · have hp' : (qs[k].name.toList == name.toList) = false := hp
        go_wp2
        go_roundw
        case rel =>
          refine ⟨k + 1, by omega, by go_num, HB.out.alloc (by omega) _, fun x hx => ?_⟩
          rw [List.take_succ_eq_append_getElem hlt, List.mem_append, List.mem_singleton] at hx
          rcases hx with hx | rfl
          · exact HN.out x hx
          · exact hp
        case measure => simp [intOf]; omega
      · have hp' : (qs[k].name.toList == name.toList) = true := hp
        go_wp2
        go_ret
        exact ⟨ret_i64 (idxQ_yes name qs k hlt HN.out hp).symm, HB.out.alloc (by omega) _⟩
    · clear hb
      go_wp2
      go_ret
      refine ⟨ret_i64 (idxQ_no name qs fun x hx => HN.out x ?_).symm, HB.out⟩
      rw [List.take_of_length_le (by omega)]; exact hx
end Go.Proofs.Ytpehkoompadpaaa

/-
  hall.gone tells entries of items that are no more.
-/
namespace Go.Proofs.Ytpehkoompadpaaa
open Go.RowKit
set_option linter.unusedVariables false
set_option linter.unusedSimpArgs false

attribute [local go_sem ↓] Go.wp_at_zero Go.wp_at_succ

def nN : ND := ⟨[], []⟩
def goneE (name : ByteArray) (id : Int) : ED := ⟨4, name, 0, id, nN⟩
def putE (name : ByteArray) (id : Int) (n : ND) : ED := ⟨3, name, 0, id, n⟩

/-- Entries of one's own: a row that the call made, notes in other blocks that it made. -/
def OwnE (base : Nat) (w : World) (v : Value) (es : List ED) : Prop :=
  ∃ L : EnL, L.map Prod.fst = es ∧ w.ownsRow base 54 6 v L.length (cellsE L) ∧ ∀ x ∈ L, NoteIs (fun b => base ≤ b ∧ b < w.heap.size ∧ v.ownBlock ≠ some b) w x.2 x.1.note

theorem OwnE.slice {base : Nat} {w : World} {v : Value} {es : List ED} (h : OwnE base w v es) : SliceE (Made base w.heap.size) w v es := by
  obtain ⟨L, e, h1, h2⟩ := h
  exact ⟨L, e, (own_slice h1).sub fun k hk => ⟨h1.lt k hk, rfl⟩, fun x hx => (h2 x hx).sub fun b hb => ⟨⟨hb.1, hb.2.1⟩, rfl⟩⟩
theorem OwnE.nil (base : Nat) (w : World) : OwnE base w (.slice none 0 0) [] := ⟨[], rfl, World.ownsRow_nil _ _ _ _, by simp⟩
theorem OwnE.mono {base base' : Nat} {w : World} {v : Value} {es : List ED} (h : OwnE base w v es) (hb : base' ≤ base) : OwnE base' w v es := by
  obtain ⟨L, e, h1, h2⟩ := h
  exact ⟨L, e, own_mono h1 hb, fun x hx => (h2 x hx).sub fun b h => ⟨⟨Nat.le_trans hb h.1, h.2⟩, rfl⟩⟩
theorem OwnE.kept {base : Nat} {w w' : World} {v : Value} {es : List ED} (h : OwnE base w v es) (hz : w.heap.size ≤ w'.heap.size) (hb : ∀ k, base ≤ k → k < w.heap.size → w'.heap[k]? = w.heap[k]?) : OwnE base w' v es := by
  obtain ⟨L, e, h1, h2⟩ := h
  exact ⟨L, e, own_same h1 (fun b hb' => hb b (h1.lt b hb').1 (h1.lt b hb').2), fun x hx => (h2 x hx).sub fun b h => ⟨⟨h.1, by omega, h.2.2⟩, hb b h.1 h.2.1⟩⟩
theorem OwnE.shp {base : Nat} {w : World} {v : Value} {es : List ED} (h : OwnE base w v es) : ∃ a cap, v = .slice a es.length cap := h.slice.shp

theorem info92 : (Try.prog.info? 54).map (fun i => (i.zero, i.size, i.bytes)) = some (some (.agg #[.int .i64 0, .string ByteArray.empty, .int .i64 0, .int .i64 0, .slice none 0 0, .slice none 0 0]), 6, 88) := by kernel_rfl

/-- A new row, whole. -/
theorem row_any (w : World) (cs : List Value) (t : TypeId) (n : Nat) (hn : n ≤ maxLen) : SliceV (fun b => b = w.heap.size) (w.alloc (.cells cs.toArray t)) (.slice (some ⟨w.heap.size, 0, none⟩) n n) n cs := by
  refine ⟨_, _, rfl, Nat.le_refl _, hn, fun h => by simp at h, fun i hi => ⟨w.heap.size, 0, rfl, rfl, ?_⟩⟩
  rw [(Blk.new w cs t).cell]
  simp [hi]

def goneL' (name : ByteArray) (ids : List Int) : EnL := ids.map fun id => (goneE name id, (.slice none 0 0, .slice none 0 0))

set_option maxRecDepth 100000 in
set_option maxHeartbeats 3200000 in
theorem gone_any (name : ByteArray) (u : Value) (ids : List Int) (hlen : ids.length ≤ 1000) (w : World) (hu : SliceV (Under w.heap.size) w u ids.length (ints ids)) :
    Calls Try.prog 69 #[.string name, u] w fun e w' => ∃ v, e = .returned v ∧ OwnE w.heap.size w' v (ids.map (goneE name)) ∧ Below w.heap.size w w' := by
  obtain ⟨i0, hi0, hz0, hz1, hz2⟩ := info_parts info92
  have HU : Hid (SliceV (Under w.heap.size) w u ids.length (ints ids)) := hu
  obtain ⟨ua, uc, rfl, h1, h2, h3⟩ := hu.shape
  unfold maxLen at h2
  clear hu
  go_enter Try.func69, Try.ntmps69
  go_wp2
  go_loopw [5, 10] (fun tv i wr => ∃ k : Nat, k ≤ ids.length ∧ i = .int .i64 k ∧ Below w.heap.size w wr ∧ wr.ownsRow w.heap.size 54 6 tv k (cellsE (goneL' name (ids.take k))))
    (fun _ i _ => ids.length - (intOf i).toNat)
  case atStart => exact ⟨0, Nat.zero_le _, rfl, Below.refl _ _, World.ownsRow_nil _ _ _ _⟩
  case round =>
    obtain ⟨k, hk, rfl, hb, ho⟩ := hrel
    have HO : Hid (wr.ownsRow w.heap.size 54 6 u5 k (cellsE (goneL' name (ids.take k)))) := ho
    have hzr := hb.size
    by_cases hlt : k < ids.length
    · obtain ⟨a', cap', e, -, -, -, hR⟩ := HU.out
      obtain ⟨b, off, rfl, hS, hc⟩ := hR k (by simp [ints, hlt])
      simp only [Value.slice.injEq] at e
      obtain ⟨rfl, -, rfl⟩ := e
      have c0 : wr.cell? ⟨b, off + k, none⟩ = some (.int .i64 ids[k]) := by
        rw [World.cell?_of_block (hb.block b hS), hc]
        simp [ints]
      obtain ⟨ta, tc, rfl, -⟩ := own_shape ho
      clear hc hR ho
      go_wp2_with (at_builtin; refine wpList_appV rfl (.tmp 14) (.tmp 18) 35 rfl 54 i0 _ 6 88 Try.underlying35 hi0 hz0 hz1 hz2 rfl (by omega) w.heap.size (.slice ta k tc) k (cellsE (goneL' name (ids.take k))) rfl (own_below HO.out (below_alloc _ _)) (fun b => b = wr.heap.size) (.slice (some ⟨wr.heap.size, 0, none⟩) 1 1) 1 ((goneE name ids[k]).cells (.slice none 0 0, .slice none 0 0)) rfl (row_any _ _ _ _ (by simp [maxLen])) rfl (by simp [ED.cells, Value.oneCell']) (by unfold maxLen; omega) (by omega) (by simp <;> omega) ?_; intro ao cap w1 ho1 hg1 hm1)
      go_roundw
      case rel =>
        refine ⟨k + 1, by omega, by go_num, ?_, ?_⟩
        · exact hb.trans ((below_alloc _ _).mono hzr |>.trans (below_of_grownBy hg1 (by simp; omega) (fun b hb' => (HO.out.lt b hb').1)))
        · have e : cellsE (goneL' name (ids.take (k + 1))) = cellsE (goneL' name (ids.take k)) ++ (goneE name ids[k]).cells (.slice none 0 0, .slice none 0 0) := by
            rw [List.take_succ_eq_append_getElem hlt]
            unfold goneL'
            rw [List.map_append, cellsE_append]
            simp [cellsE]
          rw [e]
          exact ho1
      case measure => simp [intOf]; omega
    · obtain rfl : k = ids.length := by omega
      obtain ⟨ta, tc, rfl, -⟩ := own_shape ho
      clear ho
      go_wp2
      go_ret
      refine ⟨_, rfl, ⟨goneL' name ids, by simp [goneL', Function.comp_def], ?_, fun x hx => ?_⟩, hb⟩
      · have := HO.out
        rw [List.take_of_length_le (Nat.le_refl _)] at this
        simpa [goneL'] using this
      · simp only [goneL', List.mem_map] at hx
        obtain ⟨i, -, rfl⟩ := hx
        exact NoteIs.nil _ _
end Go.Proofs.Ytpehkoompadpaaa
