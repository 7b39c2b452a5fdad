/-
  tglaw3.QueueTells answers true: the walk (its head: a time out of bounds).
-/
import Derived.Test.YtefankjmlbkldaaBackM
import Derived.Test.YtefankjmlbkldaaSameQ
namespace Go.Proofs.Ytefankjmlbkldaa
open Go.RowKit
set_option linter.unusedVariables false
set_option linter.unusedSimpArgs false
attribute [local go_sem ↓] Go.wp_at_zero Go.wp_at_succ

set_option maxRecDepth 100000 in
set_option maxHeartbeats 3200000 in
theorem tells_out (v pv bv : Value) (name : ByteArray) (limit id turn now : Int) (its : List IT) (n : ND) (w : World) (hv : SliceI (Under w.heap.size) w v its) (hn : NoteIs (Under w.heap.size) w (pv, bv) n) (hnow : now < 0 ∨ 1000000 < now) :
    Calls Try.prog 8 #[.agg #[.string name, .int .i64 limit, v], .int .i64 id, .int .i64 turn, .int .i64 now, .agg #[pv, bv]] w fun e w' => e = .returned (.bool true) ∧ Below w.heap.size w w' := by
  obtain ⟨va, vc, rfl⟩ := hv.shp
  obtain ⟨pa, pc, e1, -⟩ := SliceV.shape hn.1
  obtain ⟨qa, qc, e2, -⟩ := SliceV.shape hn.2
  simp only at e1 e2
  subst e1 e2
  clear hv hn
  rcases hnow with h | h
  · go_enter Try.func8, Try.ntmps8
    go_wp2_with fail
    go_ret
    exact ⟨rfl, (below_alloc _ _).alloc (by simp) _⟩
  · have h0 : ¬ now < 0 := by omega
    go_enter Try.func8, Try.ntmps8
    go_wp2_with fail
    go_ret
    exact ⟨rfl, (below_alloc _ _).alloc (by simp) _⟩
end Go.Proofs.Ytefankjmlbkldaa
