/-
  tgref1.Same, SameItem and SameQueue answer true where both read the same.
-/
import Derived.Test.YthdaccmjipomdabRef
import Derived.Deep.QuietTactic
import Derived.BigQuiet
import Derived.Laws.StructEq
namespace Go.Proofs.Ythdaccmjipomdab
open Go.RowKit
set_option linter.unusedVariables false
set_option linter.unusedSimpArgs false

attribute [local go_sem ↓] Go.wp_at_zero Go.wp_at_succ

def bstr (bs : List UInt8) : ByteArray := ⟨bs.toArray⟩
theorem bstr_toList (a : List UInt8) : (bstr a).toList = a := by rw [ByteArray.toList_eq]; rfl

theorem conv_str {S : Nat → Prop} {w : World} {v : Value} {bs : List UInt8} (h : SliceB S w v bs) : (convert 29 9 v).run Try.prog w = .ok (.string (bstr bs)) w := by
  obtain ⟨a, cap, rfl, h1, h2, _, h3⟩ := h
  by_cases h0 : bs = []
  · subst h0
    rw [run_convert_bytes_string w 29 9 5 a _ cap Try.underlying29 Try.underlying5 Try.underlying9]
    cases a <;> simp [Conv.bytesToString, loadCells]
    all_goals rfl
  · have hl : 0 < bs.length := by cases bs; simp at h0; simp
    obtain ⟨b, off, rfl, hlt, _⟩ := h3 0 (by rw [u8s_len]; exact hl)
    have := run_convert_bytes_arg (P := Try.prog) w 29 5 Try.underlying29 Try.underlying5 b off bs.length cap (bs.map fun c => (c.toNat : Int)) (by simp) (fun i hi => by
      obtain ⟨b', off', e, _, hc⟩ := h3 i (by rw [u8s_len]; exact hi)
      simp at e
      obtain ⟨rfl, rfl⟩ := e
      rw [hc]
      simp [hi, u8s]) 9 Try.underlying9
    rw [this]
    have e : strOfNums (bs.map fun c => (c.toNat : Int)) = bstr bs := by
      have e2 : ∀ l : List UInt8, (l.map fun c => (c.toNat : Int)).map (fun n : Int => UInt8.ofNat n.toNat) = l := fun l => by
        induction l with
        | nil => rfl
        | cons a r ih => simp only [List.map_cons, ih]; simp
      unfold strOfNums bstr
      first
        | rw [e2]
        | (simp only [List.map_map] at e2 ⊢; rw [e2])
    first
      | rw [e]
      | (rw [List.take_of_length_le (by simp), e])

theorem fields78 : Try.prog.underlying 105 = some (.struct (Try.prog.fieldsOf 105)) := by kernel_rfl
theorem held78 : Try.prog.stoodInHeld 105 = false := by kernel_rfl

theorem prop_neq (k1 : ByteArray) (a1 b1 : Int) (t1 : ByteArray) (w : World) :
    (binOp .neq 105 (.agg #[.string k1, .int .i64 a1, .int .i64 b1, .string t1]) (.agg #[.string k1, .int .i64 a1, .int .i64 b1, .string t1])).run Try.prog w = .ok (.bool false) w := by
  rw [run_neq_struct, run_equalIn_agg w _ 105 _ _ fields78 held78]
  have hf : (Try.prog.fieldsOf 105).toList = [{ name := "Key", type := 9, offset := 0, embedded := false, tag := "", pkgPath := "", byteOffset := 0 },
        { name := "Kind", type := 3, offset := 1, embedded := false, tag := "", pkgPath := "", byteOffset := 16 },
        { name := "N", type := 3, offset := 2, embedded := false, tag := "", pkgPath := "", byteOffset := 24 },
        { name := "Text", type := 9, offset := 3, embedded := false, tag := "", pkgPath := "", byteOffset := 32 }] := by
    rw [Program.fieldsOf, Try.underlying105]
  rw [hf]
  simp [go_sem]

theorem NoteIs.up' {w w' : World} {v : Value × Value} {n : ND} (h : NoteIs (Under w.heap.size) w v n) (hb : Below w.heap.size w w') : NoteIs (Under w'.heap.size) w' v n :=
  h.sub fun k hk => ⟨Nat.lt_of_lt_of_le hk hb.size, hb.block k hk⟩

set_option maxRecDepth 100000 in
set_option maxHeartbeats 2000000 in
theorem same_true (v u v' u' : Value) (n : ND) (w : World) (h : NoteIs (Under w.heap.size) w (v, u) n) (h' : NoteIs (Under w.heap.size) w (v', u') n) :
    Calls Try.prog 44 #[.agg #[v, u], .agg #[v', u']] w fun e w' => e = .returned (.bool true) ∧ Below w.heap.size w w' := by
  have hcx := fun o1 o2 => conv_str ((h.up' (below_alloc w o1)).up' (below_alloc (w.alloc o1) o2)).2
  have hcy := fun o1 o2 => conv_str ((h'.up' (below_alloc w o1)).up' (below_alloc (w.alloc o1) o2)).2
  have HP : Hid (SliceP (Under w.heap.size) w v n.props) := h.1
  have HQ : Hid (SliceP (Under w.heap.size) w v' n.props) := h'.1
  obtain ⟨va, vc, rfl, v1, v2, v3⟩ := SliceV.shape h.1
  obtain ⟨ua, uc, rfl, -⟩ := SliceV.shape h.2
  obtain ⟨xa, xc, rfl, x1, x2, x3⟩ := SliceV.shape h'.1
  obtain ⟨ya, yc, rfl, -⟩ := SliceV.shape h'.2
  obtain ⟨ps, x⟩ := n
  simp only at HP HQ hcx hcy v1 x1 ⊢
  have hpl : ps.length ≤ 9223372036854775807 := by unfold maxLen at v2; omega
  clear v1 v2 v3 x1 x2 x3 h h'
  have two : Hid (∀ o1 o2 : Obj, Below w.heap.size w ((w.alloc o1).alloc o2)) := fun o1 o2 => (below_alloc _ _).alloc (by simp) _
  go_enter Try.func44, Try.ntmps44
  go_wp2
  go_loopw [25] (fun i wr => ∃ k : Nat, k ≤ ps.length ∧ i = .int .i64 k ∧ (∃ n, wr = ((w.alloc (.cells #[.slice va ps.length vc, .slice ua x.length uc] 32)).alloc (.cells #[.slice xa ps.length xc, .slice ya x.length yc] 32)).drewN n)) (fun i _ => ps.length - (intOf i).toNat)
  case atStart => exact ⟨0, Nat.zero_le _, rfl, ⟨0, rfl⟩⟩
  case round =>
    obtain ⟨k, hk, rfl, ⟨n, rfl⟩⟩ := hrel
    by_cases hlt : k < ps.length
    · obtain ⟨b1, o1, e1, _, c0, c1, c2, c3⟩ := SliceP.at (SliceV.sub (T := Under w.heap.size) HP.out fun b hb => ⟨hb, (two.out (.cells #[.slice va ps.length vc, .slice ua x.length uc] 32) (.cells #[.slice xa ps.length xc, .slice ya x.length yc] 32)).block b hb⟩) k hlt
      obtain ⟨b2, o2, e2, _, d0, d1, d2, d3⟩ := SliceP.at (SliceV.sub (T := Under w.heap.size) HQ.out fun b hb => ⟨hb, (two.out (.cells #[.slice va ps.length vc, .slice ua x.length uc] 32) (.cells #[.slice xa ps.length xc, .slice ya x.length yc] 32)).block b hb⟩) k hlt
      subst e1 e2
      obtain ⟨p, hp⟩ : ∃ p, p = ps[k] := ⟨_, rfl⟩
      rw [← hp] at c0 c1 c2 c3 d0 d1 d2 d3
      clear hp
      have hk1 : (k : Int) < (ps.length : Int) := by omega
      have hne := prop_neq p.key p.kind p.n p.text
      go_wp2_with fail
      go_quiet (fail)
      go_wp2
      go_roundw
      case rel => exact ⟨k + 1, by omega, by go_num, ⟨_, rfl⟩⟩
      case measure => simp [intOf]; omega
    · go_wp2
      go_ret
      exact ⟨rfl, below_drewN (two.out _ _) _⟩

set_option maxRecDepth 100000 in
set_option maxHeartbeats 2000000 in
theorem sameItem_true (it : IT) (v u v' u' : Value) (w : World) (h : NoteIs (Under w.heap.size) w (v, u) it.note) (h' : NoteIs (Under w.heap.size) w (v', u') it.note) :
    Calls Try.prog 39 #[.agg #[.int .i64 it.id, .int .i64 it.turn, .int .i64 it.tries, .bool it.out, .int .i64 it.due, v, u], .agg #[.int .i64 it.id, .int .i64 it.turn, .int .i64 it.tries, .bool it.out, .int .i64 it.due, v', u']] w fun e w' => e = .returned (.bool true) ∧ Below w.heap.size w w' := by
  have HN : Hid (NoteIs (Under w.heap.size) w (v, u) it.note ∧ NoteIs (Under w.heap.size) w (v', u') it.note) := ⟨h, h'⟩
  obtain ⟨va, vc, rfl, -⟩ := SliceV.shape h.1
  obtain ⟨ua, uc, rfl, -⟩ := SliceV.shape h.2
  obtain ⟨xa, xc, rfl, -⟩ := SliceV.shape h'.1
  obtain ⟨ya, yc, rfl, -⟩ := SliceV.shape h'.2
  clear h h'
  obtain ⟨id, turn, tries, out, due, note⟩ := it
  simp only at HN ⊢
  go_enter Try.func39, Try.ntmps39
  go_wp2_with (go_at_call 44; refine (same_true _ _ _ _ note _ ((HN.out.1.up' (below_alloc _ _)).up' (below_alloc _ _)) ((HN.out.2.up' (below_alloc _ _)).up' (below_alloc _ _))).mono ?_; rintro e w1 ⟨rfl, hb1⟩)
  go_ret
  exact ⟨rfl, ((below_alloc _ _).alloc (by simp) _).trans (hb1.mono (by simp; omega))⟩
end Go.Proofs.Ythdaccmjipomdab
