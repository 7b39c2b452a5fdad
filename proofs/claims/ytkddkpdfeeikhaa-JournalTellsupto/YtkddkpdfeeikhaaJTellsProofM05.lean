/-
  Late; Put: texts laid together.
-/
import Derived.Test.YtkddkpdfeeikhaaJTellsProofM03
import Derived.Test.YtkddkpdfeeikhaaJTellsProofM02
/-
  queue.Late, queue.Purge.
-/
namespace Go.Proofs.Ytkddkpdfeeikhaa
open Go.RowKit
set_option linter.unusedVariables false
set_option linter.unusedSimpArgs false

attribute [local go_sem ↓] Go.wp_at_zero Go.wp_at_succ

theorem SliceI.at {S : Nat → Prop} {w : World} {a : Option Addr} {n cap : Nat} {its : List IT} (h : SliceI S w (.slice a n cap) its) (k : Nat) (hk : k < its.length) :
    ∃ b off pa pc qa qc, a = some ⟨b, off, none⟩ ∧ S b ∧ NoteIs S w (.slice pa its[k].note.props.length pc, .slice qa its[k].note.body.length qc) its[k].note ∧ (w.cell? ⟨b, off + k * 7, none⟩ = some (.int .i64 its[k].id) ∧ w.cell? ⟨b, off + k * 7 + 1, none⟩ = some (.int .i64 its[k].turn) ∧ w.cell? ⟨b, off + k * 7 + 2, none⟩ = some (.int .i64 its[k].tries) ∧ w.cell? ⟨b, off + k * 7 + 3, none⟩ = some (.bool its[k].out)) ∧
      (w.cell? ⟨b, off + k * 7 + 4, none⟩ = some (.int .i64 its[k].due) ∧ w.cell? ⟨b, off + k * 7 + 5, none⟩ = some (.slice pa its[k].note.props.length pc) ∧ w.cell? ⟨b, off + k * 7 + 6, none⟩ = some (.slice qa its[k].note.body.length qc)) := by
  obtain ⟨L, rfl, hL⟩ := h
  have hk' : k < L.length := by simpa using hk
  obtain ⟨b, off, e, hS, ⟨c0, c1, c2, c3⟩, c4, c5, c6⟩ := hL.at k hk'
  have hn := hL.2 L[k] (List.getElem_mem hk')
  obtain ⟨pa, pc, e1, -⟩ := SliceV.shape hn.1
  obtain ⟨qa, qc, e2, -⟩ := SliceV.shape hn.2
  have hg : (L.map Prod.fst)[k] = L[k].1 := by simp
  rw [e1] at c5
  rw [e2] at c6
  rw [hg]
  refine ⟨b, off, pa, pc, qa, qc, e, hS, ?_, ⟨c0, c1, c2, c3⟩, c4, c5, c6⟩
  rw [← e1, ← e2]
  exact hn

def lateB (now : Int) (i : IT) : Bool := i.out && decide (i.due ≤ now)
def goneL (its : List IT) : List Int := (its.filter (fun i => !i.out)).map IT.id
def ints (l : List Int) : List Value := l.map (Value.int .i64)
theorem goneL_snoc (its : List IT) (it : IT) : goneL (its ++ [it]) = goneL its ++ (if it.out then [] else [it.id]) := by
  cases h : it.out <;> simp [goneL, h]

section
variable {w : World} {ops : Array Oper} {rest : List Oper} {o : Oper} {a : Act} {Q : Exit → Act → World → Prop}
theorem wpList_appV (hgd : o.guard = none) (s x : Operand) (t : TypeId) (ho : o.op = .call { callee := .builtin .append, args := #[s, x], argTypes := #[t, t] })
    (e : TypeId) (i : TypeInfo) (z : Value) (size bytes : Nat) (ht : Try.prog.underlying t = some (.slice e)) (hi : Try.prog.info? e = some i) (hz : i.zero = some z)
    (hsize : i.size = size) (hby : i.bytes = bytes) (hzs : z.cells.size = size) (hsz : 0 < size)
    (base : Nat) (v : Value) (n : Nat) (xs : List Value) (hs : a.eval s = v) (hown : w.ownsRow base e size v n xs) (S : Nat → Prop) (u : Value) (m : Nat) (ys : List Value) (hx : a.eval x = u) (hu : SliceV S w u m ys) (hl : ys.length = m * size) (h1 : ∀ u ∈ ys, u.oneCell' = true)
    (h63 : n + m ≤ maxLen) (hb : (n + m) * bytes ≤ 140737488355328) (hbase : base ≤ w.heap.size)
    (h : ∀ ao cap w', w'.ownsRow base e size (.slice ao (n + m) cap) (n + m) (xs ++ ys) → w.grownBy w' v.ownBlock → Moved w v (.slice ao (n + m) cap) → wpList Try.prog ops Q rest (a.put o.dst (.slice ao (n + m) cap)) w') :
    wpList Try.prog ops Q (o :: rest) a w := by
  refine wpList_plain hgd fun K hK => ?_
  obtain ⟨ao, cap, w', hr, h1, h2, h3⟩ := run_appV w t o.type e i z size bytes ht hi hz hsize hby hzs hsz base v n xs hown S u m ys hu hl h1 h63 hb hbase
  exact wp_app_of s x ho hs hx hr (hK _ _ (h ao cap w' h1 h2 h3))
end

end Go.Proofs.Ytkddkpdfeeikhaa

/-
  queue.Put.
-/
namespace Go.Proofs.Ytkddkpdfeeikhaa
open Go.RowKit
set_option linter.unusedVariables false
set_option linter.unusedSimpArgs false

attribute [local go_sem ↓] Go.wp_at_zero Go.wp_at_succ

def newI (id : Int) (n : ND) : IT := ⟨id, 0, 0, false, 0, n⟩

theorem SliceI.shape {S : Nat → Prop} {w : World} {v : Value} {its : List IT} (h : SliceI S w v its) : ∃ a cap, v = .slice a its.length cap ∧ its.length ≤ cap ∧ cap ≤ maxLen ∧ (a = none → cap = 0) := by
  obtain ⟨L, rfl, h, -⟩ := h
  obtain ⟨a, cap, rfl, h1, h2, h3⟩ := h.shape
  exact ⟨a, cap, by simp, by simpa using h1, h2, h3⟩

theorem SliceI.under {lo hi : Nat} {w : World} {v : Value} {its : List IT} (h : SliceI (Made lo hi) w v its) : SliceI (Under hi) w v its := h.sub fun k hk => ⟨hk.2, rfl⟩

end Go.Proofs.Ytkddkpdfeeikhaa
