/-
  tgref1.SameQueue answers true where both read the same.
-/
import Derived.Test.YthdaccmjipomdabSame
import Derived.Test.YthdaccmjipomdabLate
namespace Go.Proofs.Ythdaccmjipomdab
open Go.RowKit
set_option linter.unusedVariables false
set_option linter.unusedSimpArgs false

attribute [local go_sem ↓] Go.wp_at_zero Go.wp_at_succ

theorem SliceI.up {w w' : World} {v : Value} {its : List IT} (h : SliceI (Under w.heap.size) w v its) (hb : Below w.heap.size w w') : SliceI (Under w'.heap.size) w' v its :=
  h.sub fun k hk => ⟨Nat.lt_of_lt_of_le hk hb.size, hb.block k hk⟩

set_option maxRecDepth 100000 in
set_option maxHeartbeats 3200000 in
theorem sameQueue_true (v v' : Value) (name : ByteArray) (limit : Int) (its : List IT) (hlen : its.length ≤ 1000) (w : World) (hv : SliceI (Under w.heap.size) w v its) (hv' : SliceI (Under w.heap.size) w v' its) :
    Calls Try.prog 42 #[.agg #[.string name, .int .i64 limit, v], .agg #[.string name, .int .i64 limit, v']] w fun e w' => e = .returned (.bool true) ∧ Below w.heap.size w w' := by
  have HV : Hid (SliceI (Under w.heap.size) w v its) := hv
  have HV' : Hid (SliceI (Under w.heap.size) w v' its) := hv'
  obtain ⟨va, vc, rfl⟩ := hv.shp
  obtain ⟨ua, uc, rfl⟩ := hv'.shp
  clear hv hv'
  have two : Hid (∀ o1 o2 : Obj, Below w.heap.size w ((w.alloc o1).alloc o2)) := fun o1 o2 => (below_alloc _ _).alloc (by simp) _
  go_enter Try.func42, Try.ntmps42
  go_wp2
  go_loopw [30] (fun i wr => ∃ k : Nat, k ≤ its.length ∧ i = .int .i64 k ∧ Below w.heap.size w wr ∧ Blk wr w.heap.size [.string name, .int .i64 limit, .slice va its.length vc] ∧ Blk wr (w.heap.size + 1) [.string name, .int .i64 limit, .slice ua its.length uc]) (fun i _ => its.length - (intOf i).toNat)
  case atStart =>
    refine ⟨0, Nat.zero_le _, rfl, two.out _ _, (Blk.new w _ 25).alloc _, ?_⟩
    have := Blk.new (w.alloc (.cells #[.string name, .int .i64 limit, .slice va its.length vc] 25)) [.string name, .int .i64 limit, .slice ua its.length uc] 25
    simpa using this
  case round =>
    obtain ⟨k, hk, rfl, hbr, hk0, hk1⟩ := hrel
    have hzr := hbr.size
    have HB : Hid (Below w.heap.size w wr) := hbr
    have HK : Hid (Blk wr w.heap.size [.string name, .int .i64 limit, .slice va its.length vc] ∧ Blk wr (w.heap.size + 1) [.string name, .int .i64 limit, .slice ua its.length uc]) := ⟨hk0, hk1⟩
    by_cases hlt : k < its.length
    · obtain ⟨a0, a1, a2, a3, a4⟩ := hk0.b3
      obtain ⟨b0, b1, b2, b3, b4⟩ := hk1.b3
      obtain ⟨b, off, pa, pc, qa, qc, rfl, hS, hn, ⟨c0, c1, c2, c3⟩, c4, c5, c6⟩ := (HV.out.up hbr).at k hlt
      obtain ⟨b', off', pa', pc', qa', qc', rfl, hS', hn', ⟨d0, d1, d2, d3⟩, d4, d5, d6⟩ := (HV'.out.up hbr).at k hlt
      have HN : Hid (NoteIs (Under wr.heap.size) wr (.slice pa its[k].note.props.length pc, .slice qa its[k].note.body.length qc) its[k].note ∧ NoteIs (Under wr.heap.size) wr (.slice pa' its[k].note.props.length pc', .slice qa' its[k].note.body.length qc') its[k].note) := ⟨hn, hn'⟩
      obtain ⟨it, hit⟩ : ∃ it, it = its[k] := ⟨_, rfl⟩
      rw [← hit] at c0 c1 c2 c3 c4 c5 c6 d0 d1 d2 d3 d4 d5 d6 HN
      clear hn hn' hit hbr hk0 hk1
      have hk1 : (k : Int) < (its.length : Int) := by omega
      go_wp2_with fail
      go_region_law (first
        | (go_simp; go_at_call 39; refine (sameItem_true it _ _ _ _ _ ?_ ?_).mono ?_; (exact HN.out.1.sub fun b hb => ⟨hb, rfl⟩); (exact HN.out.2.sub fun b hb => ⟨hb, rfl⟩); rintro e w1 ⟨rfl, hb1⟩; have hb1' : Below wr.heap.size wr w1 := ⟨hb1.os, hb1.tape, hb1.output, hb1.size, hb1.block⟩; clear hb1))
      all_goals
        have HB1 : Hid (Below w.heap.size w w1) := HB.out.trans (hb1'.mono hzr)
        have HK1 : Hid (Blk w1 w.heap.size [.string name, .int .i64 limit, .slice (some ⟨b, off, none⟩) its.length vc] ∧ Blk w1 (w.heap.size + 1) [.string name, .int .i64 limit, .slice (some ⟨b', off', none⟩) its.length uc]) := ⟨HK.out.1.below hb1' a4, HK.out.2.below hb1' b4⟩
        clear hb1' a0 a1 a2 a3 b0 b1 b2 b3 c0 c1 c2 c3 c4 c5 c6 d0 d1 d2 d3 d4 d5 d6
        go_wp2
        go_roundw
        case rel => exact ⟨k + 1, by omega, by go_num, HB1.out, HK1.out.1, HK1.out.2⟩
        case measure => simp [intOf]; omega
    · clear hk0 hk1
      go_wp2
      go_ret
      exact ⟨rfl, HB.out⟩
end Go.Proofs.Ythdaccmjipomdab
