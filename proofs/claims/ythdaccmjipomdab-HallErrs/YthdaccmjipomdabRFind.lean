/-
  tgref1.Find tells the place of a queue.
-/
import Derived.Test.YthdaccmjipomdabFind
import Derived.Test.YthdaccmjipomdabSameQ
namespace Go.Proofs.Ythdaccmjipomdab
open Go.RowKit
set_option linter.unusedVariables false
set_option linter.unusedSimpArgs false

attribute [local go_sem ↓] Go.wp_at_zero Go.wp_at_succ

set_option maxRecDepth 100000 in
set_option maxHeartbeats 3200000 in
theorem refFind_any (name : ByteArray) (v : Value) (next : Int) (qs : List QD) (w : World) (h : SliceQ (Under w.heap.size) w v qs) :
    Calls Try.prog 17 #[.agg #[v, .int .i64 next], .string name] w fun e w' => e = .returned (.int .i64 (idxQ name qs)) ∧ Below w.heap.size w w' := by
  have HL : Hid (SliceQ (Under w.heap.size) w v qs) := h
  obtain ⟨va, vc, rfl, h1, h2, h3⟩ := h.shape
  unfold maxLen at h2
  clear h
  go_enter Try.func17, Try.ntmps17
  go_wp2
  go_loopw [10] (fun i wr => ∃ k : Nat, k ≤ qs.length ∧ i = .int .i64 k ∧ Below w.heap.size w wr ∧ ∀ x ∈ qs.take k, nameB name x = false)
    (fun i _ => qs.length - (intOf i).toNat)
  case atStart => exact ⟨0, Nat.zero_le _, rfl, below_alloc _ _, by simp⟩
  case round =>
    obtain ⟨k, hk, rfl, hb, hno⟩ := hrel
    have HN : Hid (∀ x ∈ qs.take k, nameB name x = false) := hno
    have HB : Hid (Below w.heap.size w wr) := hb
    have hzr := hb.size
    clear hno
    by_cases hlt : k < qs.length
    · obtain ⟨b, off, ia, ic, rfl, hS, hq, c0, c1, c2⟩ := (SliceQ.sub (T := Under w.heap.size) HL.out (fun b hb' => ⟨hb', hb.block b hb'⟩)).at k hlt
      clear hq hb
      cases hp : nameB name qs[k]
      · have hp' : (qs[k].name.toList == name.toList) = false := hp
        go_wp2
        go_roundw
        case rel =>
          refine ⟨k + 1, by omega, by go_num, HB.out.alloc (by omega) _, fun x hx => ?_⟩
          rw [List.take_succ_eq_append_getElem hlt, List.mem_append, List.mem_singleton] at hx
          rcases hx with hx | rfl
          · exact HN.out x hx
          · exact hp
        case measure => simp [intOf]; omega
      · have hp' : (qs[k].name.toList == name.toList) = true := hp
        go_wp2
        go_ret
        exact ⟨ret_i64 (idxQ_yes name qs k hlt HN.out hp).symm, HB.out.alloc (by omega) _⟩
    · clear hb
      go_wp2
      go_ret
      refine ⟨ret_i64 (idxQ_no name qs fun x hx => HN.out x ?_).symm, HB.out⟩
      rw [List.take_of_length_le (by omega)]; exact hx
end Go.Proofs.Ythdaccmjipomdab
