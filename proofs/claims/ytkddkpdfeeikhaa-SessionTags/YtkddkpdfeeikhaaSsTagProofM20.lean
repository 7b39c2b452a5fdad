/-
  RefDoneS; RefPut; RefPutS: texts laid together.
-/
import Derived.Test.YtkddkpdfeeikhaaSsTagProofM19
import Derived.Test.YtkddkpdfeeikhaaSsTagProofM05
/-
  tgref1.Done: the answer's blocks are the argument's, or made.
-/
namespace Go.Proofs.Ytkddkpdfeeikhaa
open Go.RowKit
set_option linter.unusedVariables false
set_option linter.unusedSimpArgs false

attribute [local go_sem ↓] Go.wp_at_zero Go.wp_at_succ

end Go.Proofs.Ytkddkpdfeeikhaa

/-
  tgref1.Put.
-/
namespace Go.Proofs.Ytkddkpdfeeikhaa
open Go.RowKit
set_option linter.unusedVariables false
set_option linter.unusedSimpArgs false

attribute [local go_sem ↓] Go.wp_at_zero Go.wp_at_succ

/-- The world behind the first append, whatever was made ahead of it. -/
structure PutW (w : World) (name : ByteArray) (limit : Int) (va : Option Addr) (n vc : Nat) (pv bv : Value) (W : World) : Prop where
  bel : Below w.heap.size w W
  q : Blk W w.heap.size [.string name, .int .i64 limit, .slice va n vc]
  n : Blk W (w.heap.size + 1) [pv, bv]
  res : Blk W (w.heap.size + 1 + 1) [.string ⟨#[]⟩, .int .i64 0, .slice none 0 0]

theorem PutW.alloc {w : World} {name : ByteArray} {limit : Int} {va : Option Addr} {n vc : Nat} {pv bv : Value} {W : World} (h : PutW w name limit va n vc pv bv W) (o : Obj) : PutW w name limit va n vc pv bv (W.alloc o) :=
  ⟨h.bel.alloc h.bel.size o, h.q.alloc o, h.n.alloc o, h.res.alloc o⟩
theorem PutW.drew {w : World} {name : ByteArray} {limit : Int} {va : Option Addr} {n vc : Nat} {pv bv : Value} {W : World} (h : PutW w name limit va n vc pv bv W) : PutW w name limit va n vc pv bv W.drew :=
  ⟨h.bel.drew, h.q, h.n, h.res⟩
theorem PutW.grown {w : World} {name : ByteArray} {limit : Int} {va : Option Addr} {n vc : Nat} {pv bv : Value} {W W' : World} {row : Option Nat} (h : PutW w name limit va n vc pv bv W) (hg : W.grownBy W' row) (hr : ∀ b, row = some b → w.heap.size + 3 ≤ b) : PutW w name limit va n vc pv bv W' := by
  have nb : ∀ b, b < w.heap.size + 3 → W'.heap[b]? = W.heap[b]? := fun b hb => hg.block b (by have := h.res.lt; omega) (fun e => by have := hr b e.symm; omega)
  exact ⟨h.bel.trans ⟨hg.os, hg.tape, hg.output, hg.size, fun b hb => nb b (by omega)⟩, h.q.same (nb _ (by omega)), h.n.same (nb _ (by omega)), h.res.same (nb _ (by omega))⟩

end Go.Proofs.Ytkddkpdfeeikhaa

/-
  tgref1.Put: the answer's blocks are the argument's, or made.
-/
namespace Go.Proofs.Ytkddkpdfeeikhaa
open Go.RowKit
set_option linter.unusedVariables false
set_option linter.unusedSimpArgs false

attribute [local go_sem ↓] Go.wp_at_zero Go.wp_at_succ

end Go.Proofs.Ytkddkpdfeeikhaa
