/-
  A function's body, statement by statement: each has a theorem of its own.
-/
import Derived.Test.YtefankjmlbkldaaEnds
import Derived.Deep.CutRange
namespace Go.Proofs.Ytefankjmlbkldaa
open Go.RowKit
set_option linter.unusedVariables false
set_option linter.unusedSimpArgs false

/-- The n-th statement of a row. -/
def stmtOf : Nat → Code → Option Code
  | 0, .seq a _ => some a
  | n + 1, .seq _ b => stmtOf n b
  | _, _ => none
/-- All from the n-th on. -/
def restOf : Nat → Code → Option Code
  | 0, c => some c
  | n + 1, .seq _ b => restOf n b
  | _, _ => none
def stmtAt (n : Nat) (f : Func) : Option Code := f.body.bind (stmtOf n)
def restAt (n : Nat) (f : Func) : Option Code := f.body.bind (restOf n)

theorem all_of {P : Code → Prop} {o : Option Code} {c : Code} (h : o = some c) (hp : P c) : ∀ c', o = some c' → P c' := by
  intro c' h'
  rw [h] at h'
  cases h'
  exact hp

theorem restOf_seq : ∀ (n : Nat) (c a b : Code), stmtOf n c = some a → restOf (n + 1) c = some b → restOf n c = some (.seq a b)
  | 0, .seq x y, a, b, h, k => by cases h; cases k; rfl
  | n + 1, .seq x y, a, b, h, k => restOf_seq n y a b h k

theorem rest_seq {P : Program} {f : Func} {n : Nat} {Q : Exit → Act → World → Prop} {a : Act} {w : World} {s b : Code} (h1 : stmtAt n f = some s) (h2 : restAt (n + 1) f = some b)
    (hs : ∀ c, stmtAt n f = some c → c.wp P (Exit.then (fun a w => ∀ c, restAt (n + 1) f = some c → c.wp P Q a w) Q) a w) : ∀ c, restAt n f = some c → c.wp P Q a w := by
  have e : restAt n f = some (.seq s b) := by
    unfold restAt stmtAt at *
    cases hb : f.body with
    | none => rw [hb] at h1; cases h1
    | some c0 => rw [hb] at h1 h2; exact restOf_seq n c0 s b h1 h2
  intro c hc
  rw [e] at hc
  cases hc
  refine wp_seq ?_
  refine wp_mono (hs s h1) ?_
  intro e' a' w' hq
  cases e' with
  | normal => exact hq b h2
  | _ => exact hq
end Go.Proofs.Ytefankjmlbkldaa
