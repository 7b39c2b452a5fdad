/-
  Ref; Same; SameQ; RFind: texts laid together.
-/
import Derived.Test.YtkddkpdfeeikhaaSsTagProofM01
import Derived.MapKept
import Derived.Deep.QuietTactic
import Derived.BigQuiet
import Derived.Laws.StructEq
import Derived.Test.YtkddkpdfeeikhaaSsTagProofM05
import Derived.Test.YtkddkpdfeeikhaaSsTagProofM06
/-
  tgref1.Key, Find and Wrong answer something, and what Wrong calls right is small.
-/
namespace Go.Proofs.Ytkddkpdfeeikhaa
open Go.RowKit
set_option linter.unusedVariables false
set_option linter.unusedSimpArgs false

attribute [local go_sem ↓] Go.wp_at_zero Go.wp_at_succ

theorem size_list (s : ByteArray) : s.data.toList.length = s.size := by rw [Array.length_toList]; rfl

theorem bytesRow_at (s : ByteArray) (w : World) (k : Nat) (hk : k < s.size) :
    (w.alloc (.cells (bytesRow s (grownCap w s.size 0 5)) 5 ((bytesRow s (grownCap w s.size 0 5)).size, (bytesRow s (grownCap w s.size 0 5)).size + 1))).drew.cell? ⟨w.heap.size, k, none⟩ = some (.int .u8 s[k].toNat) := by
  show (w.alloc _).cell? _ = _
  rw [World.cell?_alloc_mark]
  unfold bytesRow
  have hi' : k < s.data.size := hk
  rw [Array.getElem?_append_left (by simpa using hi')]
  simp
  exact ⟨s.data[k], by simp [hi'], rfl⟩

theorem below_conv (w : World) (o : Obj) : Below w.heap.size w (w.alloc o).drew := ((Below.refl _ _).alloc (Nat.le_refl _) _).drew

theorem empty_of (s : ByteArray) (h : s.size = 0) : s.toList = [] := by
  rw [ByteArray.toList_eq]
  exact List.length_eq_zero_iff.1 (by rw [size_list]; exact h)
theorem isEmpty_of (s : ByteArray) (h : 1 ≤ s.size) : s.toList.isEmpty = false := by
  rw [ByteArray.toList_eq]
  have := size_list s
  cases h' : s.data.toList with
  | nil => rw [h'] at this; simp at this; omega
  | cons a b => rfl

/-- A truth is answered; if it is true, P holds. -/
def AnsB (w : World) (P : Prop) (e : Ending) (w' : World) : Prop := ∃ b, e = .returned (.bool b) ∧ (b = true → P) ∧ Below w.heap.size w w'
/-- A number is answered; if it is nought, P holds. -/
def AnsE (w : World) (P : Prop) (e : Ending) (w' : World) : Prop := ∃ n : Int, e = .returned (.int .i64 n) ∧ (n = 0 → P) ∧ Below w.heap.size w w'
theorem AnsB.no {w w' : World} {P : Prop} (h : Below w.heap.size w w') : AnsB w P (.returned (.bool false)) w' := ⟨_, rfl, (fun h => by cases h), h⟩
theorem AnsB.yes {w w' : World} {P : Prop} (b : Bool) (p : P) (h : Below w.heap.size w w') : AnsB w P (.returned (.bool b)) w' := ⟨_, rfl, fun _ => p, h⟩
theorem AnsE.no {w w' : World} {P : Prop} {n : Int} (hn : n ≠ 0) (h : Below w.heap.size w w') : AnsE w P (.returned (.int .i64 n)) w' := ⟨_, rfl, fun h => absurd h hn, h⟩
theorem AnsE.yes {w w' : World} {P : Prop} {n : Int} (p : P) (h : Below w.heap.size w w') : AnsE w P (.returned (.int .i64 n)) w' := ⟨_, rfl, fun _ => p, h⟩

theorem run_checkInt (k : Int) (c : Bool) (w : World) : (Instr.checkKey c 10000 3 (.int .i64 k)).run Try.prog w = .ok () w := by
  exact MapKept.run_checkKey Try.underlying3 (by simp [MapKept.IsKey]) c 9999

theorem upd_new (w : World) (es : Array MapEntry) (clock : Nat) (k : Int) (v : Value) (hf : Instr.findNow (.int .i64) (.int .i64 k) es.toList 0 = some none) :
    (Instr.mapUpdate 100 (.map (some w.heap.size)) (.int .i64 k) v).run Try.prog (w.alloc (.map es clock)) = .ok () (w.alloc (.map (es.push { key := .int .i64 k, val := v, born := clock }) (clock + 1))) := by
  have hg : (w.alloc (.map es clock)).heap[w.heap.size]? = some (.map es clock) := heap_alloc_new w _
  unfold Instr.mapUpdate
  simp only [Sem.run_bind, run_underlying Try.underlying100, Result.andThen_ok, MapKept.run_getObj_map hg, run_checkInt, MapKept.run_findKey Try.underlying3 hf, MapKept.run_setObj_map _ hg]
  congr 1
  show ({ w.alloc (.map es clock) with heap := (w.heap.push (.map es clock)).setIfInBounds w.heap.size _ } : World) = _
  have : ∀ o, (w.heap.push (.map es clock)).setIfInBounds w.heap.size o = w.heap.push o := by
    intro o
    apply Array.ext_getElem?
    intro i
    rw [Array.getElem?_setIfInBounds, Array.getElem?_push, Array.getElem?_push]
    by_cases h : w.heap.size = i
    · subst h; simp
    · rw [if_neg h]; simp [Ne.symm h]
  rw [this]
  rfl

theorem look_yes (w : World) (es : Array MapEntry) (clock i : Nat) (k : Int) (v : Value) (c : Bool) (hf : Instr.findNow (.int .i64) (.int .i64 k) es.toList 0 = some (some (i, v))) :
    (Instr.lookup 100 (.map (some w.heap.size)) (.int .i64 k) c).run Try.prog (w.alloc (.map es clock)) = .ok (if c then .tuple #[v, .bool true] else v) (w.alloc (.map es clock)) := by
  have hg : (w.alloc (.map es clock)).heap[w.heap.size]? = some (.map es clock) := heap_alloc_new w _
  unfold Instr.lookup
  simp only [Sem.run_bind, run_underlying Try.underlying100, Result.andThen_ok, MapKept.run_getObj_map hg, run_checkInt, MapKept.run_findKey Try.underlying3 hf, Sem.run_pure]
theorem zero3 (w : World) : (zeroValue 3).run Try.prog w = .ok (.int .i64 0) w := by kernel_rfl
theorem look_no (w : World) (es : Array MapEntry) (clock : Nat) (k : Int) (c : Bool) (hf : Instr.findNow (.int .i64) (.int .i64 k) es.toList 0 = some none) :
    (Instr.lookup 100 (.map (some w.heap.size)) (.int .i64 k) c).run Try.prog (w.alloc (.map es clock)) = .ok (if c then .tuple #[.int .i64 0, .bool false] else .int .i64 0) (w.alloc (.map es clock)) := by
  have hg : (w.alloc (.map es clock)).heap[w.heap.size]? = some (.map es clock) := heap_alloc_new w _
  unfold Instr.lookup
  simp only [Sem.run_bind, run_underlying Try.underlying100, Result.andThen_ok, MapKept.run_getObj_map hg, run_checkInt, MapKept.run_findKey Try.underlying3 hf, Sem.run_pure, zero3]

/-- The map that a round of tgref1.Wrong makes. -/
def mostE : Array MapEntry := #[{ key := .int .i64 1, val := .int .i64 1073741824, born := 0 }, { key := .int .i64 2, val := .int .i64 0, born := 1 }, { key := .int .i64 3, val := .int .i64 1, born := 2 }]

theorem up1 (w : World) : (Instr.mapUpdate 100 (.map (some w.heap.size)) (.int .i64 1) (.int .i64 1073741824)).run Try.prog (w.alloc (.map #[] 0)) = .ok () (w.alloc (.map #[{ key := .int .i64 1, val := .int .i64 1073741824, born := 0 }] 1)) := upd_new w #[] 0 1 _ rfl
theorem up2 (w : World) : (Instr.mapUpdate 100 (.map (some w.heap.size)) (.int .i64 2) (.int .i64 0)).run Try.prog (w.alloc (.map #[{ key := .int .i64 1, val := .int .i64 1073741824, born := 0 }] 1)) = .ok () (w.alloc (.map #[{ key := .int .i64 1, val := .int .i64 1073741824, born := 0 }, { key := .int .i64 2, val := .int .i64 0, born := 1 }] 2)) := upd_new w _ 1 2 _ rfl
theorem up3 (w : World) : (Instr.mapUpdate 100 (.map (some w.heap.size)) (.int .i64 3) (.int .i64 1)).run Try.prog (w.alloc (.map #[{ key := .int .i64 1, val := .int .i64 1073741824, born := 0 }, { key := .int .i64 2, val := .int .i64 0, born := 1 }] 2)) = .ok () (w.alloc (.map mostE 3)) := upd_new w _ 2 3 _ rfl
theorem lk1 (w : World) : (Instr.lookup 100 (.map (some w.heap.size)) (.int .i64 1) true).run Try.prog (w.alloc (.map mostE 3)) = .ok (.tuple #[.int .i64 1073741824, .bool true]) (w.alloc (.map mostE 3)) := look_yes w mostE 3 0 1 _ true rfl
theorem lk2 (w : World) : (Instr.lookup 100 (.map (some w.heap.size)) (.int .i64 2) true).run Try.prog (w.alloc (.map mostE 3)) = .ok (.tuple #[.int .i64 0, .bool true]) (w.alloc (.map mostE 3)) := look_yes w mostE 3 1 2 _ true rfl
theorem lk3 (w : World) : (Instr.lookup 100 (.map (some w.heap.size)) (.int .i64 3) true).run Try.prog (w.alloc (.map mostE 3)) = .ok (.tuple #[.int .i64 1, .bool true]) (w.alloc (.map mostE 3)) := look_yes w mostE 3 2 3 _ true rfl
theorem lf1 (w : World) : (Instr.lookup 100 (.map (some w.heap.size)) (.int .i64 1) false).run Try.prog (w.alloc (.map mostE 3)) = .ok (.int .i64 1073741824) (w.alloc (.map mostE 3)) := look_yes w mostE 3 0 1 _ false rfl
theorem lf3 (w : World) : (Instr.lookup 100 (.map (some w.heap.size)) (.int .i64 3) false).run Try.prog (w.alloc (.map mostE 3)) = .ok (.int .i64 1) (w.alloc (.map mostE 3)) := look_yes w mostE 3 2 3 _ false rfl
theorem size0 (s : ByteArray) : s.toList.isEmpty = decide (s.size = 0) := by
  by_cases h : s.size = 0
  · rw [empty_of s h]; simp [h]
  · rw [isEmpty_of s (by omega)]; simp [h]

theorem cellsL_at (ps : List PD) (k j : Nat) (hk : k < ps.length) (hj : j < 4) : (cellsL ps)[k * 4 + j]? = (ps[k].cells)[j]? := by
  induction ps generalizing k with
  | nil => simp at hk
  | cons x r ih =>
    have e : cellsL (x :: r) = x.cells ++ cellsL r := by simp [cellsL]
    rw [e]
    cases k with
    | zero => rw [List.getElem?_append_left (by simp [PD.cells]; omega)]; simp
    | succ k =>
      rw [List.getElem?_append_right (by simp [PD.cells]; omega)]
      have := ih k (by simpa using hk)
      rw [List.getElem_cons_succ, ← this]
      congr 1
      simp [PD.cells]; omega

theorem SliceP.at {S : Nat → Prop} {w : World} {a : Option Addr} {n cap : Nat} {ps : List PD} (h : SliceP S w (.slice a n cap) ps) (k : Nat) (hk : k < ps.length) :
    ∃ b off, a = some ⟨b, off, none⟩ ∧ S b ∧ w.cell? ⟨b, off + k * 4, none⟩ = some (.string ps[k].key) ∧ w.cell? ⟨b, off + k * 4 + 1, none⟩ = some (.int .i64 ps[k].kind) ∧ w.cell? ⟨b, off + k * 4 + 2, none⟩ = some (.int .i64 ps[k].n) ∧ w.cell? ⟨b, off + k * 4 + 3, none⟩ = some (.string ps[k].text) := by
  obtain ⟨a', cap', e, _, _, _, h3⟩ := h
  simp only [Value.slice.injEq] at e
  obtain ⟨rfl, -, rfl⟩ := e
  have hl := cellsL_len ps
  obtain ⟨b, off, rfl, hs, _⟩ := h3 (k * 4) (by omega)
  have key : ∀ j (hj : j < 4), w.cell? ⟨b, off + k * 4 + j, none⟩ = (ps[k].cells)[j]? := fun j hj => by
    obtain ⟨b', off', e, _, hc⟩ := h3 (k * 4 + j) (by omega)
    simp only [Option.some.injEq, Addr.mk.injEq] at e
    obtain ⟨rfl, rfl, -⟩ := e
    rw [← cellsL_at ps k j hk hj, List.getElem?_eq_getElem (by omega), ← hc]
    congr 2; omega
  exact ⟨b, off, rfl, hs, key 0 (by omega), key 1 (by omega), key 2 (by omega), key 3 (by omega)⟩

def PD.fits (p : PD) : Prop := p.key.size ≤ maxLen ∧ p.text.size ≤ maxLen
def ND.fits (n : ND) : Prop := ∀ p ∈ n.props, p.fits

end Go.Proofs.Ytkddkpdfeeikhaa

/-
  tgref1.Same, SameItem and SameQueue answer true where both read the same.
-/
namespace Go.Proofs.Ytkddkpdfeeikhaa
open Go.RowKit
set_option linter.unusedVariables false
set_option linter.unusedSimpArgs false

attribute [local go_sem ↓] Go.wp_at_zero Go.wp_at_succ

def bstr (bs : List UInt8) : ByteArray := ⟨bs.toArray⟩
end Go.Proofs.Ytkddkpdfeeikhaa

/-
  tgref1.SameQueue answers true where both read the same.
-/
namespace Go.Proofs.Ytkddkpdfeeikhaa
open Go.RowKit
set_option linter.unusedVariables false
set_option linter.unusedSimpArgs false

attribute [local go_sem ↓] Go.wp_at_zero Go.wp_at_succ

theorem SliceI.up {w w' : World} {v : Value} {its : List IT} (h : SliceI (Under w.heap.size) w v its) (hb : Below w.heap.size w w') : SliceI (Under w'.heap.size) w' v its :=
  h.sub fun k hk => ⟨Nat.lt_of_lt_of_le hk hb.size, hb.block k hk⟩

end Go.Proofs.Ytkddkpdfeeikhaa

/-
  tgref1.Find tells the place of a queue.
-/
namespace Go.Proofs.Ytkddkpdfeeikhaa
open Go.RowKit
set_option linter.unusedVariables false
set_option linter.unusedSimpArgs false

attribute [local go_sem ↓] Go.wp_at_zero Go.wp_at_succ

set_option maxRecDepth 100000 in
set_option maxHeartbeats 3200000 in
theorem refFind_any (name : ByteArray) (v : Value) (next : Int) (qs : List QD) (w : World) (h : SliceQ (Under w.heap.size) w v qs) :
    Calls Try.prog 56 #[.agg #[v, .int .i64 next], .string name] w fun e w' => e = .returned (.int .i64 (idxQ name qs)) ∧ Below w.heap.size w w' := by
  have HL : Hid (SliceQ (Under w.heap.size) w v qs) := h
  obtain ⟨va, vc, rfl, h1, h2, h3⟩ := h.shape
  unfold maxLen at h2
  clear h
  go_enter Try.func56, Try.ntmps56
  go_wp2
  go_loopw [10] (fun i wr => ∃ k : Nat, k ≤ qs.length ∧ i = .int .i64 k ∧ Below w.heap.size w wr ∧ ∀ x ∈ qs.take k, nameB name x = false)
    (fun i _ => qs.length - (intOf i).toNat)
  case atStart => exact ⟨0, Nat.zero_le _, rfl, below_alloc _ _, by simp⟩
  case round =>
    obtain ⟨k, hk, rfl, hb, hno⟩ := hrel
    have HN : Hid (∀ x ∈ qs.take k, nameB name x = false) := hno
    have HB : Hid (Below w.heap.size w wr) := hb
    have hzr := hb.size
    clear hno
    by_cases hlt : k < qs.length
    · obtain ⟨b, off, ia, ic, rfl, hS, hq, c0, c1, c2⟩ := (SliceQ.sub (T := Under w.heap.size) HL.out (fun b hb' => ⟨hb', hb.block b hb'⟩)).at k hlt
      clear hq hb
      cases hp : nameB name qs[k]
      · have hp' : (qs[k].name.toList == name.toList) = false := hp
        go_wp2
        go_roundw
        case rel =>
          refine ⟨k + 1, by omega, by go_num, HB.out.alloc (by omega) _, fun x hx => ?_⟩
          rw [List.take_succ_eq_append_getElem hlt, List.mem_append, List.mem_singleton] at hx
          rcases hx with hx | rfl
          · exact HN.out x hx
          · exact hp
        case measure => simp [intOf]; omega
      · have hp' : (qs[k].name.toList == name.toList) = true := hp
        go_wp2
        go_ret
        exact ⟨ret_i64 (idxQ_yes name qs k hlt HN.out hp).symm, HB.out.alloc (by omega) _⟩
    · clear hb
      go_wp2
      go_ret
      refine ⟨ret_i64 (idxQ_no name qs fun x hx => HN.out x ?_).symm, HB.out⟩
      rw [List.take_of_length_le (by omega)]; exact hx
end Go.Proofs.Ytkddkpdfeeikhaa
