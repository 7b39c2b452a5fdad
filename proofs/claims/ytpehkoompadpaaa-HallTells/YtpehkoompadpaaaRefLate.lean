/-
  tgref1.Late.
-/
import Derived.Test.YtpehkoompadpaaaHTellsProofM38
namespace Go.Proofs.Ytpehkoompadpaaa
open Go.RowKit
set_option linter.unusedVariables false
set_option linter.unusedSimpArgs false

attribute [local go_sem ↓] Go.wp_at_zero Go.wp_at_succ

theorem late_not {now : Int} {x : IT} (h : lateB now x = false) : x.out = false ∨ (x.out = true ∧ ¬ x.due ≤ now) := by
  cases h1 : x.out
  · exact .inl rfl
  · exact .inr ⟨rfl, by simpa [lateB, h1] using h⟩

set_option maxRecDepth 100000 in
set_option maxHeartbeats 3200000 in
theorem refLate_none (v : Value) (name : ByteArray) (limit now : Int) (its : List IT) (hlen : its.length ≤ 1000) (hno : ∀ x ∈ its, lateB now x = false) (w : World) (hv : SliceI (Under w.heap.size) w v its) :
    Calls Try.prog 78 #[.agg #[.string name, .int .i64 limit, v], .int .i64 now] w fun e w' => e = .returned (.tuple #[.agg #[.int .i64 0, .int .i64 0, .int .i64 0, .bool false, .int .i64 0, .slice none 0 0, .slice none 0 0], .bool false]) ∧ Below w.heap.size w w' := by
  have HV : Hid (SliceI (Under w.heap.size) w v its) := hv
  have HNO : Hid (∀ x ∈ its, lateB now x = false) := hno
  obtain ⟨va, vc, rfl⟩ := hv.shp
  clear hv hno
  obtain ⟨X, hX⟩ : ∃ X, X = (w.alloc (.cells #[.string name, .int .i64 limit, .slice va its.length vc] 71)).alloc (.cells #[.int .i64 0, .int .i64 0, .int .i64 0, .bool false, .int .i64 0, .slice none 0 0, .slice none 0 0] 48) := ⟨_, rfl⟩
  have HX : Hid (X.heap.size = w.heap.size + 2 ∧ Below w.heap.size w X ∧ Blk X (w.heap.size + 1) [.int .i64 0, .int .i64 0, .int .i64 0, .bool false, .int .i64 0, .slice none 0 0, .slice none 0 0]) := by
    subst hX
    refine ⟨by simp, (below_alloc _ _).alloc (by simp) _, ?_⟩
    have := Blk.new (w.alloc (.cells #[.string name, .int .i64 limit, .slice va its.length vc] 71)) [.int .i64 0, .int .i64 0, .int .i64 0, .bool false, .int .i64 0, .slice none 0 0, .slice none 0 0] 48
    simpa using this
  go_enter Try.func78, Try.ntmps78
  go_wp2
  go_loopw [11] (fun x wr => ∃ k : Nat, k ≤ its.length ∧ x = .int .i64 k ∧ Below X.heap.size X wr) (fun x _ => its.length - (intOf x).toNat)
  case atStart => exact ⟨0, Nat.zero_le _, rfl, by rw [hX]; exact Below.refl _ _⟩
  case round =>
    obtain ⟨k, hk, rfl, hbr⟩ := hrel
    have hzr := hbr.size
    have hzx := HX.out.1
    clear hX
    have HB : Hid (Below w.heap.size w wr) := HX.out.2.1.trans (hbr.mono (by omega))
    by_cases hlt : k < its.length
    · have ho := HNO.out _ (List.getElem_mem hlt)
      obtain ⟨b, off, pa, pc, qa, qc, rfl, hS, hn, ⟨c0, c1, c2, c3⟩, c4, c5, c6⟩ := (SliceI.sub (T := Under w.heap.size) HV.out (fun x hx => ⟨hx, HB.out.block x hx⟩)).at k hlt
      clear hn
      rcases late_not ho with e1 | ⟨e1, e2⟩
      · rw [e1] at c3
        go_wp2
        go_roundw
        case rel => exact ⟨k + 1, by omega, by go_num, hbr.trans ((below_alloc _ _).mono hzr)⟩
        case measure => simp [intOf]; omega
      · rw [e1] at c3
        go_wp2
        go_roundw
        case rel => exact ⟨k + 1, by omega, by go_num, hbr.trans ((below_alloc _ _).mono hzr)⟩
        case measure => simp [intOf]; omega
    · obtain ⟨⟨d0, d1, d2, d3⟩, ⟨d4, d5, d6⟩, d7, d8⟩ := (HX.out.2.2.below hbr (by omega)).b7
      go_wp2
      refine bodyPost_ret (v := .tuple #[.agg #[.int .i64 0, .int .i64 0, .int .i64 0, .bool false, .int .i64 0, .slice none 0 0, .slice none 0 0], .bool false]) (by simp [results, Try.results78, go_sem, *]; done) rfl ⟨rfl, ?_⟩
      iterate 7 refine Below.setCell ?_ (by simp <;> omega) _
      exact HB.out

set_option maxRecDepth 100000 in
set_option maxHeartbeats 3200000 in
theorem refLate_ok (v : Value) (name : ByteArray) (limit now : Int) (its : List IT) (hlen : its.length ≤ 1000) (i : Nat) (hil : i < its.length) (hin : lateB now its[i] = true) (hbf : ∀ j (hj : j < i), lateB now (its[j]'(by omega)) = false) (w : World) (hv : SliceI (Under w.heap.size) w v its) :
    Calls Try.prog 78 #[.agg #[.string name, .int .i64 limit, v], .int .i64 now] w fun e w' => ∃ q, e = .returned (.tuple #[its[i].val q, .bool true]) ∧ NoteIs (Under w'.heap.size) w' q its[i].note ∧ Below w.heap.size w w' := by
  have HV : Hid (SliceI (Under w.heap.size) w v its) := hv
  have HBF : Hid (∀ j (hj : j < i), lateB now (its[j]'(by omega)) = false) := hbf
  obtain ⟨g1, g2⟩ : its[i].out = true ∧ its[i].due ≤ now := by simpa [lateB] using hin
  obtain ⟨va, vc, rfl⟩ := hv.shp
  clear hv hbf hin
  obtain ⟨X, hX⟩ : ∃ X, X = (w.alloc (.cells #[.string name, .int .i64 limit, .slice va its.length vc] 71)).alloc (.cells #[.int .i64 0, .int .i64 0, .int .i64 0, .bool false, .int .i64 0, .slice none 0 0, .slice none 0 0] 48) := ⟨_, rfl⟩
  have HX : Hid (X.heap.size = w.heap.size + 2 ∧ Below w.heap.size w X ∧ Blk X (w.heap.size + 1) [.int .i64 0, .int .i64 0, .int .i64 0, .bool false, .int .i64 0, .slice none 0 0, .slice none 0 0]) := by
    subst hX
    refine ⟨by simp, (below_alloc _ _).alloc (by simp) _, ?_⟩
    have := Blk.new (w.alloc (.cells #[.string name, .int .i64 limit, .slice va its.length vc] 71)) [.int .i64 0, .int .i64 0, .int .i64 0, .bool false, .int .i64 0, .slice none 0 0, .slice none 0 0] 48
    simpa using this
  go_enter Try.func78, Try.ntmps78
  go_wp2
  go_loopw [11] (fun x wr => ∃ k : Nat, k ≤ i ∧ x = .int .i64 k ∧ Below X.heap.size X wr) (fun x _ => its.length - (intOf x).toNat)
  case atStart => exact ⟨0, Nat.zero_le _, rfl, by rw [hX]; exact Below.refl _ _⟩
  case round =>
    obtain ⟨k, hk, rfl, hbr⟩ := hrel
    have hzr := hbr.size
    have hzx := HX.out.1
    clear hX
    have HB : Hid (Below w.heap.size w wr) := HX.out.2.1.trans (hbr.mono (by omega))
    have hlt : k < its.length := by omega
    obtain ⟨b, off, pa, pc, qa, qc, rfl, hS, hn, ⟨c0, c1, c2, c3⟩, c4, c5, c6⟩ := (SliceI.sub (T := Under w.heap.size) HV.out (fun x hx => ⟨hx, HB.out.block x hx⟩)).at k hlt
    by_cases hki : k < i
    · have ho := HBF.out k hki
      clear hn
      rcases late_not ho with e1 | ⟨e1, e2⟩
      · rw [e1] at c3
        go_wp2
        go_roundw
        case rel => exact ⟨k + 1, by omega, by go_num, hbr.trans ((below_alloc _ _).mono hzr)⟩
        case measure => simp [intOf]; omega
      · rw [e1] at c3
        go_wp2
        go_roundw
        case rel => exact ⟨k + 1, by omega, by go_num, hbr.trans ((below_alloc _ _).mono hzr)⟩
        case measure => simp [intOf]; omega
    · obtain rfl : k = i := by omega
      have HN : Hid (NoteIs (Under w.heap.size) wr (.slice pa its[k].note.props.length pc, .slice qa its[k].note.body.length qc) its[k].note) := hn
      have hzw := HB.out.size
      have HKR : Hid (Blk wr (w.heap.size + 1) [.int .i64 0, .int .i64 0, .int .i64 0, .bool false, .int .i64 0, .slice none 0 0, .slice none 0 0]) := HX.out.2.2.below hbr (by omega)
      have hkr := HKR.out.lt
      obtain ⟨⟨d0, d1, d2, d3⟩, ⟨d4, d5, d6⟩, d7, d8⟩ := HKR.out.b7
      rw [g1] at c3
      clear hn
      go_wp2
      refine bodyPost_ret (v := .tuple #[.agg #[.int .i64 its[k].id, .int .i64 its[k].turn, .int .i64 its[k].tries, .bool true, .int .i64 its[k].due, .slice pa its[k].note.props.length pc, .slice qa its[k].note.body.length qc], .bool true]) (by simp [results, Try.results78, go_sem, *]; done) rfl ⟨(.slice pa its[k].note.props.length pc, .slice qa its[k].note.body.length qc), by simp only [IT.val, g1], ?_, ?_⟩
      · refine HN.out.sub fun x hx => ?_
        have hx' : x < w.heap.size := hx
        refine ⟨by show x < _; simp; omega, (Below.heap_alloc _ _ _ (by simp; omega)).trans ?_⟩
        iterate 7 rw [Below.heap_setCell _ _ _ _ (by simp; omega)]
      · refine Below.alloc ?_ (by simp; omega) _
        iterate 7 refine Below.setCell ?_ (by simp <;> omega) _
        exact HB.out
end Go.Proofs.Ytpehkoompadpaaa
