/-
  Ref; Same; SameQ; RFind: texts laid together.
-/
import Derived.Test.YtkddkpdfeeikhaaSsRefProofM01
import Derived.MapKept
import Derived.Deep.QuietTactic
import Derived.BigQuiet
import Derived.Laws.StructEq
import Derived.Test.YtkddkpdfeeikhaaSsRefProofM05
import Derived.Test.YtkddkpdfeeikhaaSsRefProofM06
/-
  tgref1.Key, Find and Wrong answer something, and what Wrong calls right is small.
-/
namespace Go.Proofs.Ytkddkpdfeeikhaa
open Go.RowKit
set_option linter.unusedVariables false
set_option linter.unusedSimpArgs false

attribute [local go_sem ↓] Go.wp_at_zero Go.wp_at_succ

theorem size_list (s : ByteArray) : s.data.toList.length = s.size := by rw [Array.length_toList]; rfl

theorem bytesRow_at (s : ByteArray) (w : World) (k : Nat) (hk : k < s.size) :
    (w.alloc (.cells (bytesRow s (grownCap w s.size 0 5)) 5 ((bytesRow s (grownCap w s.size 0 5)).size, (bytesRow s (grownCap w s.size 0 5)).size + 1))).drew.cell? ⟨w.heap.size, k, none⟩ = some (.int .u8 s[k].toNat) := by
  show (w.alloc _).cell? _ = _
  rw [World.cell?_alloc_mark]
  unfold bytesRow
  have hi' : k < s.data.size := hk
  rw [Array.getElem?_append_left (by simpa using hi')]
  simp
  exact ⟨s.data[k], by simp [hi'], rfl⟩

theorem below_conv (w : World) (o : Obj) : Below w.heap.size w (w.alloc o).drew := ((Below.refl _ _).alloc (Nat.le_refl _) _).drew

theorem empty_of (s : ByteArray) (h : s.size = 0) : s.toList = [] := by
  rw [ByteArray.toList_eq]
  exact List.length_eq_zero_iff.1 (by rw [size_list]; exact h)
theorem isEmpty_of (s : ByteArray) (h : 1 ≤ s.size) : s.toList.isEmpty = false := by
  rw [ByteArray.toList_eq]
  have := size_list s
  cases h' : s.data.toList with
  | nil => rw [h'] at this; simp at this; omega
  | cons a b => rfl

/-- A truth is answered; if it is true, P holds. -/
def AnsB (w : World) (P : Prop) (e : Ending) (w' : World) : Prop := ∃ b, e = .returned (.bool b) ∧ (b = true → P) ∧ Below w.heap.size w w'
/-- A number is answered; if it is nought, P holds. -/
def AnsE (w : World) (P : Prop) (e : Ending) (w' : World) : Prop := ∃ n : Int, e = .returned (.int .i64 n) ∧ (n = 0 → P) ∧ Below w.heap.size w w'
theorem AnsB.no {w w' : World} {P : Prop} (h : Below w.heap.size w w') : AnsB w P (.returned (.bool false)) w' := ⟨_, rfl, (fun h => by cases h), h⟩
theorem AnsB.yes {w w' : World} {P : Prop} (b : Bool) (p : P) (h : Below w.heap.size w w') : AnsB w P (.returned (.bool b)) w' := ⟨_, rfl, fun _ => p, h⟩
theorem AnsE.no {w w' : World} {P : Prop} {n : Int} (hn : n ≠ 0) (h : Below w.heap.size w w') : AnsE w P (.returned (.int .i64 n)) w' := ⟨_, rfl, fun h => absurd h hn, h⟩
theorem AnsE.yes {w w' : World} {P : Prop} {n : Int} (p : P) (h : Below w.heap.size w w') : AnsE w P (.returned (.int .i64 n)) w' := ⟨_, rfl, fun _ => p, h⟩

theorem run_checkInt (k : Int) (c : Bool) (w : World) : (Instr.checkKey c 10000 3 (.int .i64 k)).run Try.prog w = .ok () w := by
  exact MapKept.run_checkKey Try.underlying3 (by simp [MapKept.IsKey]) c 9999

theorem upd_new (w : World) (es : Array MapEntry) (clock : Nat) (k : Int) (v : Value) (hf : Instr.findNow (.int .i64) (.int .i64 k) es.toList 0 = some none) :
    (Instr.mapUpdate 100 (.map (some w.heap.size)) (.int .i64 k) v).run Try.prog (w.alloc (.map es clock)) = .ok () (w.alloc (.map (es.push { key := .int .i64 k, val := v, born := clock }) (clock + 1))) := by
  have hg : (w.alloc (.map es clock)).heap[w.heap.size]? = some (.map es clock) := heap_alloc_new w _
  unfold Instr.mapUpdate
  simp only [Sem.run_bind, run_underlying Try.underlying100, Result.andThen_ok, MapKept.run_getObj_map hg, run_checkInt, MapKept.run_findKey Try.underlying3 hf, MapKept.run_setObj_map _ hg]
  congr 1
  show ({ w.alloc (.map es clock) with heap := (w.heap.push (.map es clock)).setIfInBounds w.heap.size _ } : World) = _
  have : ∀ o, (w.heap.push (.map es clock)).setIfInBounds w.heap.size o = w.heap.push o := by
    intro o
    apply Array.ext_getElem?
    intro i
    rw [Array.getElem?_setIfInBounds, Array.getElem?_push, Array.getElem?_push]
    by_cases h : w.heap.size = i
    · subst h; simp
    · rw [if_neg h]; simp [Ne.symm h]
  rw [this]
  rfl

theorem look_yes (w : World) (es : Array MapEntry) (clock i : Nat) (k : Int) (v : Value) (c : Bool) (hf : Instr.findNow (.int .i64) (.int .i64 k) es.toList 0 = some (some (i, v))) :
    (Instr.lookup 100 (.map (some w.heap.size)) (.int .i64 k) c).run Try.prog (w.alloc (.map es clock)) = .ok (if c then .tuple #[v, .bool true] else v) (w.alloc (.map es clock)) := by
  have hg : (w.alloc (.map es clock)).heap[w.heap.size]? = some (.map es clock) := heap_alloc_new w _
  unfold Instr.lookup
  simp only [Sem.run_bind, run_underlying Try.underlying100, Result.andThen_ok, MapKept.run_getObj_map hg, run_checkInt, MapKept.run_findKey Try.underlying3 hf, Sem.run_pure]
theorem zero3 (w : World) : (zeroValue 3).run Try.prog w = .ok (.int .i64 0) w := by kernel_rfl
theorem look_no (w : World) (es : Array MapEntry) (clock : Nat) (k : Int) (c : Bool) (hf : Instr.findNow (.int .i64) (.int .i64 k) es.toList 0 = some none) :
    (Instr.lookup 100 (.map (some w.heap.size)) (.int .i64 k) c).run Try.prog (w.alloc (.map es clock)) = .ok (if c then .tuple #[.int .i64 0, .bool false] else .int .i64 0) (w.alloc (.map es clock)) := by
  have hg : (w.alloc (.map es clock)).heap[w.heap.size]? = some (.map es clock) := heap_alloc_new w _
  unfold Instr.lookup
  simp only [Sem.run_bind, run_underlying Try.underlying100, Result.andThen_ok, MapKept.run_getObj_map hg, run_checkInt, MapKept.run_findKey Try.underlying3 hf, Sem.run_pure, zero3]

/-- The map that a round of tgref1.Wrong makes. -/
def mostE : Array MapEntry := #[{ key := .int .i64 1, val := .int .i64 1073741824, born := 0 }, { key := .int .i64 2, val := .int .i64 0, born := 1 }, { key := .int .i64 3, val := .int .i64 1, born := 2 }]

theorem up1 (w : World) : (Instr.mapUpdate 100 (.map (some w.heap.size)) (.int .i64 1) (.int .i64 1073741824)).run Try.prog (w.alloc (.map #[] 0)) = .ok () (w.alloc (.map #[{ key := .int .i64 1, val := .int .i64 1073741824, born := 0 }] 1)) := upd_new w #[] 0 1 _ rfl
theorem up2 (w : World) : (Instr.mapUpdate 100 (.map (some w.heap.size)) (.int .i64 2) (.int .i64 0)).run Try.prog (w.alloc (.map #[{ key := .int .i64 1, val := .int .i64 1073741824, born := 0 }] 1)) = .ok () (w.alloc (.map #[{ key := .int .i64 1, val := .int .i64 1073741824, born := 0 }, { key := .int .i64 2, val := .int .i64 0, born := 1 }] 2)) := upd_new w _ 1 2 _ rfl
theorem up3 (w : World) : (Instr.mapUpdate 100 (.map (some w.heap.size)) (.int .i64 3) (.int .i64 1)).run Try.prog (w.alloc (.map #[{ key := .int .i64 1, val := .int .i64 1073741824, born := 0 }, { key := .int .i64 2, val := .int .i64 0, born := 1 }] 2)) = .ok () (w.alloc (.map mostE 3)) := upd_new w _ 2 3 _ rfl
theorem lk1 (w : World) : (Instr.lookup 100 (.map (some w.heap.size)) (.int .i64 1) true).run Try.prog (w.alloc (.map mostE 3)) = .ok (.tuple #[.int .i64 1073741824, .bool true]) (w.alloc (.map mostE 3)) := look_yes w mostE 3 0 1 _ true rfl
theorem lk2 (w : World) : (Instr.lookup 100 (.map (some w.heap.size)) (.int .i64 2) true).run Try.prog (w.alloc (.map mostE 3)) = .ok (.tuple #[.int .i64 0, .bool true]) (w.alloc (.map mostE 3)) := look_yes w mostE 3 1 2 _ true rfl
theorem lk3 (w : World) : (Instr.lookup 100 (.map (some w.heap.size)) (.int .i64 3) true).run Try.prog (w.alloc (.map mostE 3)) = .ok (.tuple #[.int .i64 1, .bool true]) (w.alloc (.map mostE 3)) := look_yes w mostE 3 2 3 _ true rfl
theorem lf1 (w : World) : (Instr.lookup 100 (.map (some w.heap.size)) (.int .i64 1) false).run Try.prog (w.alloc (.map mostE 3)) = .ok (.int .i64 1073741824) (w.alloc (.map mostE 3)) := look_yes w mostE 3 0 1 _ false rfl
theorem lf3 (w : World) : (Instr.lookup 100 (.map (some w.heap.size)) (.int .i64 3) false).run Try.prog (w.alloc (.map mostE 3)) = .ok (.int .i64 1) (w.alloc (.map mostE 3)) := look_yes w mostE 3 2 3 _ false rfl
theorem size0 (s : ByteArray) : s.toList.isEmpty = decide (s.size = 0) := by
  by_cases h : s.size = 0
  · rw [empty_of s h]; simp [h]
  · rw [isEmpty_of s (by omega)]; simp [h]

theorem cellsL_at (ps : List PD) (k j : Nat) (hk : k < ps.length) (hj : j < 4) : (cellsL ps)[k * 4 + j]? = (ps[k].cells)[j]? := by
  induction ps generalizing k with
  | nil => simp at hk
  | cons x r ih =>
    have e : cellsL (x :: r) = x.cells ++ cellsL r := by simp [cellsL]
    rw [e]
    cases k with
    | zero => rw [List.getElem?_append_left (by simp [PD.cells]; omega)]; simp
    | succ k =>
      rw [List.getElem?_append_right (by simp [PD.cells]; omega)]
      have := ih k (by simpa using hk)
      rw [List.getElem_cons_succ, ← this]
      congr 1
      simp [PD.cells]; omega

theorem SliceP.at {S : Nat → Prop} {w : World} {a : Option Addr} {n cap : Nat} {ps : List PD} (h : SliceP S w (.slice a n cap) ps) (k : Nat) (hk : k < ps.length) :
    ∃ b off, a = some ⟨b, off, none⟩ ∧ S b ∧ w.cell? ⟨b, off + k * 4, none⟩ = some (.string ps[k].key) ∧ w.cell? ⟨b, off + k * 4 + 1, none⟩ = some (.int .i64 ps[k].kind) ∧ w.cell? ⟨b, off + k * 4 + 2, none⟩ = some (.int .i64 ps[k].n) ∧ w.cell? ⟨b, off + k * 4 + 3, none⟩ = some (.string ps[k].text) := by
  obtain ⟨a', cap', e, _, _, _, h3⟩ := h
  simp only [Value.slice.injEq] at e
  obtain ⟨rfl, -, rfl⟩ := e
  have hl := cellsL_len ps
  obtain ⟨b, off, rfl, hs, _⟩ := h3 (k * 4) (by omega)
  have key : ∀ j (hj : j < 4), w.cell? ⟨b, off + k * 4 + j, none⟩ = (ps[k].cells)[j]? := fun j hj => by
    obtain ⟨b', off', e, _, hc⟩ := h3 (k * 4 + j) (by omega)
    simp only [Option.some.injEq, Addr.mk.injEq] at e
    obtain ⟨rfl, rfl, -⟩ := e
    rw [← cellsL_at ps k j hk hj, List.getElem?_eq_getElem (by omega), ← hc]
    congr 2; omega
  exact ⟨b, off, rfl, hs, key 0 (by omega), key 1 (by omega), key 2 (by omega), key 3 (by omega)⟩

def PD.fits (p : PD) : Prop := p.key.size ≤ maxLen ∧ p.text.size ≤ maxLen
def ND.fits (n : ND) : Prop := ∀ p ∈ n.props, p.fits

end Go.Proofs.Ytkddkpdfeeikhaa

/-
  tgref1.Same, SameItem and SameQueue answer true where both read the same.
-/
namespace Go.Proofs.Ytkddkpdfeeikhaa
open Go.RowKit
set_option linter.unusedVariables false
set_option linter.unusedSimpArgs false

attribute [local go_sem ↓] Go.wp_at_zero Go.wp_at_succ

def bstr (bs : List UInt8) : ByteArray := ⟨bs.toArray⟩
theorem conv_str {S : Nat → Prop} {w : World} {v : Value} {bs : List UInt8} (h : SliceB S w v bs) : (convert 26 9 v).run Try.prog w = .ok (.string (bstr bs)) w := by
  obtain ⟨a, cap, rfl, h1, h2, _, h3⟩ := h
  by_cases h0 : bs = []
  · subst h0
    rw [run_convert_bytes_string w 26 9 5 a _ cap Try.underlying26 Try.underlying5 Try.underlying9]
    cases a <;> simp [Conv.bytesToString, loadCells]
    all_goals rfl
  · have hl : 0 < bs.length := by cases bs; simp at h0; simp
    obtain ⟨b, off, rfl, hlt, _⟩ := h3 0 (by rw [u8s_len]; exact hl)
    have := run_convert_bytes_arg (P := Try.prog) w 26 5 Try.underlying26 Try.underlying5 b off bs.length cap (bs.map fun c => (c.toNat : Int)) (by simp) (fun i hi => by
      obtain ⟨b', off', e, _, hc⟩ := h3 i (by rw [u8s_len]; exact hi)
      simp at e
      obtain ⟨rfl, rfl⟩ := e
      rw [hc]
      simp [hi, u8s]) 9 Try.underlying9
    rw [this]
    have e : strOfNums (bs.map fun c => (c.toNat : Int)) = bstr bs := by
      have e2 : ∀ l : List UInt8, (l.map fun c => (c.toNat : Int)).map (fun n : Int => UInt8.ofNat n.toNat) = l := fun l => by
        induction l with
        | nil => rfl
        | cons a r ih => simp only [List.map_cons, ih]; simp
      unfold strOfNums bstr
      first
        | rw [e2]
        | (simp only [List.map_map] at e2 ⊢; rw [e2])
    first
      | rw [e]
      | (rw [List.take_of_length_le (by simp), e])

theorem fields78 : Try.prog.underlying 98 = some (.struct (Try.prog.fieldsOf 98)) := by kernel_rfl
theorem held78 : Try.prog.stoodInHeld 98 = false := by kernel_rfl

theorem prop_neq (k1 : ByteArray) (a1 b1 : Int) (t1 : ByteArray) (w : World) :
    (binOp .neq 98 (.agg #[.string k1, .int .i64 a1, .int .i64 b1, .string t1]) (.agg #[.string k1, .int .i64 a1, .int .i64 b1, .string t1])).run Try.prog w = .ok (.bool false) w := by
  rw [run_neq_struct, run_equalIn_agg w _ 98 _ _ fields78 held78]
  have hf : (Try.prog.fieldsOf 98).toList = [{ name := "Key", type := 9, offset := 0, embedded := false, tag := "", pkgPath := "", byteOffset := 0 },
        { name := "Kind", type := 3, offset := 1, embedded := false, tag := "", pkgPath := "", byteOffset := 16 },
        { name := "N", type := 3, offset := 2, embedded := false, tag := "", pkgPath := "", byteOffset := 24 },
        { name := "Text", type := 9, offset := 3, embedded := false, tag := "", pkgPath := "", byteOffset := 32 }] := by
    rw [Program.fieldsOf, Try.underlying98]
  rw [hf]
  simp [go_sem]

theorem NoteIs.up' {w w' : World} {v : Value × Value} {n : ND} (h : NoteIs (Under w.heap.size) w v n) (hb : Below w.heap.size w w') : NoteIs (Under w'.heap.size) w' v n :=
  h.sub fun k hk => ⟨Nat.lt_of_lt_of_le hk hb.size, hb.block k hk⟩

set_option maxRecDepth 100000 in
set_option maxHeartbeats 2000000 in
theorem same_true (v u v' u' : Value) (n : ND) (w : World) (h : NoteIs (Under w.heap.size) w (v, u) n) (h' : NoteIs (Under w.heap.size) w (v', u') n) :
    Calls Try.prog 44 #[.agg #[v, u], .agg #[v', u']] w fun e w' => e = .returned (.bool true) ∧ Below w.heap.size w w' := by
  have hcx := fun o1 o2 => conv_str ((h.up' (below_alloc w o1)).up' (below_alloc (w.alloc o1) o2)).2
  have hcy := fun o1 o2 => conv_str ((h'.up' (below_alloc w o1)).up' (below_alloc (w.alloc o1) o2)).2
  have HP : Hid (SliceP (Under w.heap.size) w v n.props) := h.1
  have HQ : Hid (SliceP (Under w.heap.size) w v' n.props) := h'.1
  obtain ⟨va, vc, rfl, v1, v2, v3⟩ := SliceV.shape h.1
  obtain ⟨ua, uc, rfl, -⟩ := SliceV.shape h.2
  obtain ⟨xa, xc, rfl, x1, x2, x3⟩ := SliceV.shape h'.1
  obtain ⟨ya, yc, rfl, -⟩ := SliceV.shape h'.2
  obtain ⟨ps, x⟩ := n
  simp only at HP HQ hcx hcy v1 x1 ⊢
  have hpl : ps.length ≤ 9223372036854775807 := by unfold maxLen at v2; omega
  clear v1 v2 v3 x1 x2 x3 h h'
  have two : Hid (∀ o1 o2 : Obj, Below w.heap.size w ((w.alloc o1).alloc o2)) := fun o1 o2 => (below_alloc _ _).alloc (by simp) _
  go_enter Try.func44, Try.ntmps44
  go_wp2
  go_loopw [25] (fun i wr => ∃ k : Nat, k ≤ ps.length ∧ i = .int .i64 k ∧ (∃ n, wr = ((w.alloc (.cells #[.slice va ps.length vc, .slice ua x.length uc] 28)).alloc (.cells #[.slice xa ps.length xc, .slice ya x.length yc] 28)).drewN n)) (fun i _ => ps.length - (intOf i).toNat)
  case atStart => exact ⟨0, Nat.zero_le _, rfl, ⟨0, rfl⟩⟩
  case round =>
    obtain ⟨k, hk, rfl, ⟨n, rfl⟩⟩ := hrel
    by_cases hlt : k < ps.length
    · obtain ⟨b1, o1, e1, _, c0, c1, c2, c3⟩ := SliceP.at (SliceV.sub (T := Under w.heap.size) HP.out fun b hb => ⟨hb, (two.out (.cells #[.slice va ps.length vc, .slice ua x.length uc] 28) (.cells #[.slice xa ps.length xc, .slice ya x.length yc] 28)).block b hb⟩) k hlt
      obtain ⟨b2, o2, e2, _, d0, d1, d2, d3⟩ := SliceP.at (SliceV.sub (T := Under w.heap.size) HQ.out fun b hb => ⟨hb, (two.out (.cells #[.slice va ps.length vc, .slice ua x.length uc] 28) (.cells #[.slice xa ps.length xc, .slice ya x.length yc] 28)).block b hb⟩) k hlt
      subst e1 e2
      obtain ⟨p, hp⟩ : ∃ p, p = ps[k] := ⟨_, rfl⟩
      rw [← hp] at c0 c1 c2 c3 d0 d1 d2 d3
      clear hp
      have hk1 : (k : Int) < (ps.length : Int) := by omega
      have hne := prop_neq p.key p.kind p.n p.text
      go_wp2_with fail
      go_quiet (fail)
      go_wp2
      go_roundw
      case rel => exact ⟨k + 1, by omega, by go_num, ⟨_, rfl⟩⟩
      case measure => simp [intOf]; omega
    · go_wp2
      go_ret
      exact ⟨rfl, below_drewN (two.out _ _) _⟩

set_option maxRecDepth 100000 in
set_option maxHeartbeats 2000000 in
theorem sameItem_true (it : IT) (v u v' u' : Value) (w : World) (h : NoteIs (Under w.heap.size) w (v, u) it.note) (h' : NoteIs (Under w.heap.size) w (v', u') it.note) :
    Calls Try.prog 76 #[.agg #[.int .i64 it.id, .int .i64 it.turn, .int .i64 it.tries, .bool it.out, .int .i64 it.due, v, u], .agg #[.int .i64 it.id, .int .i64 it.turn, .int .i64 it.tries, .bool it.out, .int .i64 it.due, v', u']] w fun e w' => e = .returned (.bool true) ∧ Below w.heap.size w w' := by
  have HN : Hid (NoteIs (Under w.heap.size) w (v, u) it.note ∧ NoteIs (Under w.heap.size) w (v', u') it.note) := ⟨h, h'⟩
  obtain ⟨va, vc, rfl, -⟩ := SliceV.shape h.1
  obtain ⟨ua, uc, rfl, -⟩ := SliceV.shape h.2
  obtain ⟨xa, xc, rfl, -⟩ := SliceV.shape h'.1
  obtain ⟨ya, yc, rfl, -⟩ := SliceV.shape h'.2
  clear h h'
  obtain ⟨id, turn, tries, out, due, note⟩ := it
  simp only at HN ⊢
  go_enter Try.func76, Try.ntmps76
  go_wp2_with (go_at_call 44; refine (same_true _ _ _ _ note _ ((HN.out.1.up' (below_alloc _ _)).up' (below_alloc _ _)) ((HN.out.2.up' (below_alloc _ _)).up' (below_alloc _ _))).mono ?_; rintro e w1 ⟨rfl, hb1⟩)
  go_ret
  exact ⟨rfl, ((below_alloc _ _).alloc (by simp) _).trans (hb1.mono (by simp; omega))⟩
end Go.Proofs.Ytkddkpdfeeikhaa

/-
  tgref1.SameQueue answers true where both read the same.
-/
namespace Go.Proofs.Ytkddkpdfeeikhaa
open Go.RowKit
set_option linter.unusedVariables false
set_option linter.unusedSimpArgs false

attribute [local go_sem ↓] Go.wp_at_zero Go.wp_at_succ

theorem SliceI.up {w w' : World} {v : Value} {its : List IT} (h : SliceI (Under w.heap.size) w v its) (hb : Below w.heap.size w w') : SliceI (Under w'.heap.size) w' v its :=
  h.sub fun k hk => ⟨Nat.lt_of_lt_of_le hk hb.size, hb.block k hk⟩

set_option maxRecDepth 100000 in
set_option maxHeartbeats 3200000 in
theorem sameQueue_true (v v' : Value) (name : ByteArray) (limit : Int) (its : List IT) (hlen : its.length ≤ 4194304) (w : World) (hv : SliceI (Under w.heap.size) w v its) (hv' : SliceI (Under w.heap.size) w v' its) :
    Calls Try.prog 45 #[.agg #[.string name, .int .i64 limit, v], .agg #[.string name, .int .i64 limit, v']] w fun e w' => e = .returned (.bool true) ∧ Below w.heap.size w w' := by
  have HV : Hid (SliceI (Under w.heap.size) w v its) := hv
  have HV' : Hid (SliceI (Under w.heap.size) w v' its) := hv'
  obtain ⟨va, vc, rfl⟩ := hv.shp
  obtain ⟨ua, uc, rfl⟩ := hv'.shp
  clear hv hv'
  have two : Hid (∀ o1 o2 : Obj, Below w.heap.size w ((w.alloc o1).alloc o2)) := fun o1 o2 => (below_alloc _ _).alloc (by simp) _
  go_enter Try.func45, Try.ntmps45
  go_wp2
  go_loopw [30] (fun i wr => ∃ k : Nat, k ≤ its.length ∧ i = .int .i64 k ∧ Below w.heap.size w wr ∧ Blk wr w.heap.size [.string name, .int .i64 limit, .slice va its.length vc] ∧ Blk wr (w.heap.size + 1) [.string name, .int .i64 limit, .slice ua its.length uc]) (fun i _ => its.length - (intOf i).toNat)
  case atStart =>
    refine ⟨0, Nat.zero_le _, rfl, two.out _ _, (Blk.new w _ 76).alloc _, ?_⟩
    have := Blk.new (w.alloc (.cells #[.string name, .int .i64 limit, .slice va its.length vc] 76)) [.string name, .int .i64 limit, .slice ua its.length uc] 76
    simpa using this
  case round =>
    obtain ⟨k, hk, rfl, hbr, hk0, hk1⟩ := hrel
    have hzr := hbr.size
    have HB : Hid (Below w.heap.size w wr) := hbr
    have HK : Hid (Blk wr w.heap.size [.string name, .int .i64 limit, .slice va its.length vc] ∧ Blk wr (w.heap.size + 1) [.string name, .int .i64 limit, .slice ua its.length uc]) := ⟨hk0, hk1⟩
    by_cases hlt : k < its.length
    · obtain ⟨a0, a1, a2, a3, a4⟩ := hk0.b3
      obtain ⟨b0, b1, b2, b3, b4⟩ := hk1.b3
      obtain ⟨b, off, pa, pc, qa, qc, rfl, hS, hn, ⟨c0, c1, c2, c3⟩, c4, c5, c6⟩ := (HV.out.up hbr).at k hlt
      obtain ⟨b', off', pa', pc', qa', qc', rfl, hS', hn', ⟨d0, d1, d2, d3⟩, d4, d5, d6⟩ := (HV'.out.up hbr).at k hlt
      have HN : Hid (NoteIs (Under wr.heap.size) wr (.slice pa its[k].note.props.length pc, .slice qa its[k].note.body.length qc) its[k].note ∧ NoteIs (Under wr.heap.size) wr (.slice pa' its[k].note.props.length pc', .slice qa' its[k].note.body.length qc') its[k].note) := ⟨hn, hn'⟩
      obtain ⟨it, hit⟩ : ∃ it, it = its[k] := ⟨_, rfl⟩
      rw [← hit] at c0 c1 c2 c3 c4 c5 c6 d0 d1 d2 d3 d4 d5 d6 HN
      clear hn hn' hit hbr hk0 hk1
      have hk1 : (k : Int) < (its.length : Int) := by omega
      go_wp2_with fail
      go_region_law (first
        | (go_simp; go_at_call 76; refine (sameItem_true it _ _ _ _ _ ?_ ?_).mono ?_; (exact HN.out.1.sub fun b hb => ⟨hb, rfl⟩); (exact HN.out.2.sub fun b hb => ⟨hb, rfl⟩); rintro e w1 ⟨rfl, hb1⟩; have hb1' : Below wr.heap.size wr w1 := ⟨hb1.os, hb1.tape, hb1.output, hb1.size, hb1.block⟩; clear hb1))
      all_goals
        have HB1 : Hid (Below w.heap.size w w1) := HB.out.trans (hb1'.mono hzr)
        have HK1 : Hid (Blk w1 w.heap.size [.string name, .int .i64 limit, .slice (some ⟨b, off, none⟩) its.length vc] ∧ Blk w1 (w.heap.size + 1) [.string name, .int .i64 limit, .slice (some ⟨b', off', none⟩) its.length uc]) := ⟨HK.out.1.below hb1' a4, HK.out.2.below hb1' b4⟩
        clear hb1' a0 a1 a2 a3 b0 b1 b2 b3 c0 c1 c2 c3 c4 c5 c6 d0 d1 d2 d3 d4 d5 d6
        go_wp2
        go_roundw
        case rel => exact ⟨k + 1, by omega, by go_num, HB1.out, HK1.out.1, HK1.out.2⟩
        case measure => simp [intOf]; omega
    · clear hk0 hk1
      go_wp2
      go_ret
      exact ⟨rfl, HB.out⟩
end Go.Proofs.Ytkddkpdfeeikhaa

/-
  tgref1.Find tells the place of a queue.
-/
namespace Go.Proofs.Ytkddkpdfeeikhaa
open Go.RowKit
set_option linter.unusedVariables false
set_option linter.unusedSimpArgs false

attribute [local go_sem ↓] Go.wp_at_zero Go.wp_at_succ

set_option maxRecDepth 100000 in
set_option maxHeartbeats 3200000 in
theorem refFind_any (name : ByteArray) (v : Value) (next : Int) (qs : List QD) (w : World) (h : SliceQ (Under w.heap.size) w v qs) :
    Calls Try.prog 56 #[.agg #[v, .int .i64 next], .string name] w fun e w' => e = .returned (.int .i64 (idxQ name qs)) ∧ Below w.heap.size w w' := by
  have HL : Hid (SliceQ (Under w.heap.size) w v qs) := h
  obtain ⟨va, vc, rfl, h1, h2, h3⟩ := h.shape
  unfold maxLen at h2
  clear h
  go_enter Try.func56, Try.ntmps56
  go_wp2
  go_loopw [10] (fun i wr => ∃ k : Nat, k ≤ qs.length ∧ i = .int .i64 k ∧ Below w.heap.size w wr ∧ ∀ x ∈ qs.take k, nameB name x = false)
    (fun i _ => qs.length - (intOf i).toNat)
  case atStart => exact ⟨0, Nat.zero_le _, rfl, below_alloc _ _, by simp⟩
  case round =>
    obtain ⟨k, hk, rfl, hb, hno⟩ := hrel
    have HN : Hid (∀ x ∈ qs.take k, nameB name x = false) := hno
    have HB : Hid (Below w.heap.size w wr) := hb
    have hzr := hb.size
    clear hno
    by_cases hlt : k < qs.length
    · obtain ⟨b, off, ia, ic, rfl, hS, hq, c0, c1, c2⟩ := (SliceQ.sub (T := Under w.heap.size) HL.out (fun b hb' => ⟨hb', hb.block b hb'⟩)).at k hlt
      clear hq hb
      cases hp : nameB name qs[k]
      · have hp' : (qs[k].name.toList == name.toList) = false := hp
        go_wp2
        go_roundw
        case rel =>
          refine ⟨k + 1, by omega, by go_num, HB.out.alloc (by omega) _, fun x hx => ?_⟩
          rw [List.take_succ_eq_append_getElem hlt, List.mem_append, List.mem_singleton] at hx
          rcases hx with hx | rfl
          · exact HN.out x hx
          · exact hp
        case measure => simp [intOf]; omega
      · have hp' : (qs[k].name.toList == name.toList) = true := hp
        go_wp2
        go_ret
        exact ⟨ret_i64 (idxQ_yes name qs k hlt HN.out hp).symm, HB.out.alloc (by omega) _⟩
    · clear hb
      go_wp2
      go_ret
      refine ⟨ret_i64 (idxQ_no name qs fun x hx => HN.out x ?_).symm, HB.out⟩
      rw [List.take_of_length_le (by omega)]; exact hx
end Go.Proofs.Ytkddkpdfeeikhaa
