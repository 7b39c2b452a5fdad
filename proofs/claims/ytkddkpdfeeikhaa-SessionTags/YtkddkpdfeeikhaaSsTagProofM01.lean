/-
  Base; Note; Items: texts laid together.
-/
import Derived.Test.YtkddkpdfeeikhaaRows
import Derived.WalkKit
import Derived.WalkSpells
import Derived.WalkLawsBesides
import Derived.Laws.BytesArg
import Derived.Deep.AppendLies
import Derived.Maps.AppendAt
import Derived.OwnWalk
import Derived.Deep.RegionWith
import Derived.Deep.RegionHeld3
import Derived.Deep.RegionLaw
import Derived.Deep.DrawnRows
/-
  Memory: slices whose cells are known, out of a set of blocks; rows that a call made itself; append to them.
-/
namespace Go.Proofs.Ytkddkpdfeeikhaa
open Go.RowKit
set_option linter.unusedVariables false
set_option linter.unusedSimpArgs false

theorem ret_bool {a b : Bool} (h : a = b) : Ending.returned (.bool a) = .returned (.bool b) := by rw [h]

theorem ret_i64 {a b : Int} (h : a = b) : Ending.returned (.int .i64 a) = .returned (.int .i64 b) := by rw [h]

theorem add_none (b off n : Nat) : (⟨b, off, none⟩ : Addr).add n = ⟨b, off + n, none⟩ := by unfold Addr.add; split <;> simp_all

/-- The cells from an address on, in blocks of S. -/
def RowAt (S : Nat → Prop) (w : World) (a : Option Addr) (xs : List Value) : Prop :=
  ∀ i (h : i < xs.length), ∃ b off, a = some ⟨b, off, none⟩ ∧ S b ∧ w.cell? ⟨b, off + i, none⟩ = some xs[i]

theorem RowAt.sub {S T : Nat → Prop} {w w' : World} {a : Option Addr} {xs : List Value} (h : RowAt S w a xs) (hb : ∀ k, S k → T k ∧ w'.heap[k]? = w.heap[k]?) : RowAt T w' a xs := by
  intro i hi
  obtain ⟨b, off, rfl, hs, h0⟩ := h i hi
  exact ⟨b, off, rfl, (hb b hs).1, (World.cell?_of_block (hb b hs).2).trans h0⟩

/-- A slice of n elements, whose cells are xs. -/
def SliceV (S : Nat → Prop) (w : World) (v : Value) (n : Nat) (xs : List Value) : Prop :=
  ∃ a cap, v = .slice a n cap ∧ n ≤ cap ∧ cap ≤ maxLen ∧ (a = none → cap = 0) ∧ RowAt S w a xs

theorem SliceV.sub {S T : Nat → Prop} {w w' : World} {v : Value} {n : Nat} {xs : List Value} (h : SliceV S w v n xs) (hb : ∀ k, S k → T k ∧ w'.heap[k]? = w.heap[k]?) : SliceV T w' v n xs := by
  obtain ⟨a, cap, rfl, h1, h2, hn, h3⟩ := h
  exact ⟨a, cap, rfl, h1, h2, hn, h3.sub hb⟩

theorem SliceV.nil (S : Nat → Prop) (w : World) : SliceV S w (.slice none 0 0) 0 [] := ⟨none, 0, rfl, Nat.le_refl _, by simp [maxLen], fun _ => rfl, fun i h => by simp at h⟩

theorem SliceV.shape {S : Nat → Prop} {w : World} {v : Value} {n : Nat} {xs : List Value} (h : SliceV S w v n xs) : ∃ a cap, v = .slice a n cap ∧ n ≤ cap ∧ cap ≤ maxLen ∧ (a = none → cap = 0) := by
  obtain ⟨a, cap, rfl, h1, h2, hn, h3⟩ := h
  exact ⟨a, cap, rfl, h1, h2, hn⟩

theorem grownBy_refl (w : World) (row : Option Nat) : w.grownBy w row := ⟨rfl, rfl, rfl, Nat.le_refl _, fun _ _ _ => rfl⟩

theorem grownBy_trans {a b c : World} {row : Option Nat} (h : a.grownBy b row) (k : b.grownBy c row) : a.grownBy c row :=
  ⟨k.os.trans h.os, k.tape.trans h.tape, k.output.trans h.output, Nat.le_trans h.size k.size, fun i hi hn => (k.block i (Nat.lt_of_lt_of_le hi h.size) hn).trans (h.block i hi hn)⟩

theorem grownBy_of_below {w w' : World} {row : Option Nat} (h : Below w.heap.size w w') : w.grownBy w' row :=
  ⟨h.os, h.tape, h.output, h.size, fun k hk _ => h.block k hk⟩

theorem below_of_grownBy {w w' : World} {row : Option Nat} {B : Nat} (h : w.grownBy w' row) (hB : B ≤ w.heap.size) (hr : ∀ k, row = some k → B ≤ k) : Below B w w' :=
  ⟨h.os, h.tape, h.output, h.size, fun k hk => h.block k (by omega) (fun e => by have := hr k e.symm; omega)⟩

theorem below_alloc (w : World) (o : Obj) : Below w.heap.size w (w.alloc o) := (Below.refl _ _).alloc (Nat.le_refl _) _

theorem below_drewN {B : Nat} {w w' : World} (h : Below B w w') (n : Nat) : Below B w (w'.drewN n) := h.trans ⟨rfl, rfl, rfl, Nat.le_refl _, fun _ _ => rfl⟩

theorem bcell {W w1 : World} (hb : Below W.heap.size W w1) : (∀ b o, b < W.heap.size → w1.cell? ⟨b, o, none⟩ = W.cell? ⟨b, o, none⟩) ∧ (∀ b o, b < W.heap.size → w1.frozen? ⟨b, o, none⟩ = W.frozen? ⟨b, o, none⟩) :=
  ⟨fun b o h => hb.cell (p := ⟨b, o, none⟩) h, fun b o h => hb.frozen (p := ⟨b, o, none⟩) h⟩

theorem own_shape {w : World} {base : Nat} {e : TypeId} {size : Nat} {v : Value} {n : Nat} {xs : List Value} (h : w.ownsRow base e size v n xs) : ∃ ao cap, v = .slice ao n cap ∧ n ≤ cap ∧ cap ≤ maxLen ∧ (ao = none → cap = 0) := by
  rcases h.2 with ⟨rfl, rfl⟩ | ⟨g, cap, cur, rfl, _, _, h1, h2, _⟩
  · exact ⟨none, 0, rfl, Nat.le_refl _, by simp [maxLen], fun _ => rfl⟩
  · exact ⟨_, cap, rfl, h1, h2, fun h => by simp at h⟩

theorem own_mono {w : World} {base base' : Nat} {e : TypeId} {size : Nat} {v : Value} {n : Nat} {xs : List Value} (h : w.ownsRow base e size v n xs) (hb : base' ≤ base) : w.ownsRow base' e size v n xs := by
  obtain ⟨h1, h2⟩ := h
  refine ⟨h1, ?_⟩
  rcases h2 with h2 | ⟨g, cap, cur, hv, hg, r⟩
  · exact .inl h2
  · exact .inr ⟨g, cap, cur, hv, by omega, r⟩

theorem own_below {w w' : World} {base : Nat} {e : TypeId} {size : Nat} {v : Value} {n : Nat} {xs : List Value} (h : w.ownsRow base e size v n xs) (hb : Below w.heap.size w w') : w'.ownsRow base e size v n xs :=
  h.kept (row := none) (grownBy_of_below hb) (by cases v.ownBlock <;> simp)

/-- What is owned reads as a slice, out of its own block. -/
theorem own_slice {w : World} {base : Nat} {e : TypeId} {size : Nat} {v : Value} {n : Nat} {xs : List Value} (h : w.ownsRow base e size v n xs) : SliceV (fun b => v.ownBlock = some b) w v n xs := by
  have hl := h.lt
  obtain ⟨ao, cap, rfl, h1, h2, h3⟩ := own_shape h
  refine ⟨ao, cap, rfl, h1, h2, h3, fun i hi => ?_⟩
  rcases h.2 with ⟨e, h0⟩ | ⟨g, cap', cur, e, hb, hg, _⟩
  · have := h.1; subst h0; simp at this; subst this; simp at hi
  · simp only [Value.slice.injEq] at e
    obtain ⟨rfl, _, _⟩ := e
    refine ⟨g, 0, rfl, rfl, ?_⟩
    have := h.cells (g := g) rfl i xs[i] (by simp [hi])
    rw [add_none] at this
    exact this

/-- The block of v' is that of v, or a new one. -/
def Moved (w : World) (v v' : Value) : Prop := ∀ k, v'.ownBlock = some k → v.ownBlock = some k ∨ w.heap.size ≤ k

/-- 'append(out, x...)', out the call's own, x a slice whose cells are known. -/
theorem run_appV (w : World) (t ty e : TypeId) (i : TypeInfo) (z : Value) (size bytes : Nat) (ht : Try.prog.underlying t = some (.slice e)) (hi : Try.prog.info? e = some i) (hz : i.zero = some z)
    (hsize : i.size = size) (hby : i.bytes = bytes) (hzs : z.cells.size = size) (hsz : 0 < size) (base : Nat) (v : Value) (n : Nat) (xs : List Value) (hown : w.ownsRow base e size v n xs)
    (S : Nat → Prop) (u : Value) (m : Nat) (ys : List Value) (hu : SliceV S w u m ys) (hl : ys.length = m * size) (h1 : ∀ u ∈ ys, u.oneCell' = true)
    (h63 : n + m ≤ maxLen) (hb : (n + m) * bytes ≤ 140737488355328) (hbase : base ≤ w.heap.size) :
    ∃ ao cap w', (Builtin.append_ #[t, t] ty #[v, u]).run Try.prog w = .ok (.slice ao (n + m) cap) w' ∧ w'.ownsRow base e size (.slice ao (n + m) cap) (n + m) (xs ++ ys) ∧ w.grownBy w' v.ownBlock ∧ Moved w v (.slice ao (n + m) cap) := by
  obtain ⟨a, cap, rfl, g1, g2, hn, h3⟩ := hu
  cases a with
  | none =>
    have hc := hn rfl
    have hl0 : m = 0 := by omega
    subst hl0
    have : ys = [] := List.length_eq_zero_iff.1 (by omega)
    subst this hc
    have hr := run_append_owned_none (P := Try.prog) (w := w) base t ty e i size ht hi v n xs hown
    obtain ⟨ao, cp, rfl, _⟩ := own_shape hown
    exact ⟨ao, cp, w, hr, by simpa using hown, grownBy_refl _ _, fun _ h => .inl h⟩
  | some ad =>
    have hnews : ∀ j x, ys[j]? = some x → w.cell? (ad.add j) = some x := by
      intro j x hj
      obtain ⟨hjl, hx⟩ := List.getElem?_eq_some_iff.1 hj
      obtain ⟨b, off, e, _, hc⟩ := h3 j hjl
      simp only [Option.some.injEq] at e
      subst e
      rw [add_none, hc, hx]
    obtain ⟨v', w', hr, ho, hg, _, hat⟩ := run_append_own_at (P := Try.prog) w base t ty e i z size bytes ht hi hz hsize hby hzs hsz v n xs hown ad m cap ys hl hnews h1 h63 hb hbase
    have hm : Moved w v v' := by
      intro k hk
      rcases hat with h | h
      · exact .inl (h.symm.trans hk)
      · rw [h] at hk; simp at hk; exact .inr (by omega)
    obtain ⟨ao, cp, rfl, _⟩ := own_shape ho
    exact ⟨ao, cp, w', hr, ho, hg, hm⟩

section
variable {w : World} {ops : Array Oper} {rest : List Oper} {o : Oper} {a : Act} {Q : Exit → Act → World → Prop} {K : Act → World → Prop} {E : Prop}

theorem wp_app_of {t u : TypeId} {v1 v2 : Value} (s x : Operand) (ho : o.op = .call { callee := .builtin .append, args := #[s, x], argTypes := #[t, u] }) (hs : a.eval s = v1) (hx : a.eval x = v2) {v' : Value} {w' : World}
    (hr : (Builtin.append_ #[t, u] o.type #[v1, v2]).run Try.prog w = .ok v' w') (h : K (a.put o.dst v') w') : o.wp Try.prog a w K Q := by
  unfold Oper.wp execOp
  simp only [ho, resolve, invoke, builtin, Sem.run_bind, Sem.run_pure, Result.andThen_ok, List.map_toArray, List.map_cons, List.map_nil, hs, hx, hr]
  exact h

theorem step_appV (hgd : o.guard = none) (s x : Operand) (t : TypeId) (ho : o.op = .call { callee := .builtin .append, args := #[s, x], argTypes := #[t, t] })
    (e : TypeId) (i : TypeInfo) (z : Value) (size bytes : Nat) (ht : Try.prog.underlying t = some (.slice e)) (hi : Try.prog.info? e = some i) (hz : i.zero = some z)
    (hsize : i.size = size) (hby : i.bytes = bytes) (hzs : z.cells.size = size) (hsz : 0 < size)
    (base : Nat) (v : Value) (n : Nat) (xs : List Value) (hs : a.eval s = v) (hown : w.ownsRow base e size v n xs) (S : Nat → Prop) (u : Value) (m : Nat) (ys : List Value) (hx : a.eval x = u) (hu : SliceV S w u m ys) (hl : ys.length = m * size) (h1 : ∀ u ∈ ys, u.oneCell' = true)
    (h63 : n + m ≤ maxLen) (hb : (n + m) * bytes ≤ 140737488355328) (hbase : base ≤ w.heap.size)
    (h : ∀ ao cap w', w'.ownsRow base e size (.slice ao (n + m) cap) (n + m) (xs ++ ys) → w.grownBy w' v.ownBlock → Moved w v (.slice ao (n + m) cap) → K (a.put o.dst (.slice ao (n + m) cap)) w') :
    if Region.wanted o (yielded ops a.tmps) = true then Oper.wp Try.prog o a w K Q else E := by
  have hw : Region.wanted o (yielded ops a.tmps) = true := by simp [Region.wanted, hgd]
  rw [if_pos hw]
  obtain ⟨ao, cap, w', hr, h1, h2, h3⟩ := run_appV w t o.type e i z size bytes ht hi hz hsize hby hzs hsz base v n xs hown S u m ys hu hl h1 h63 hb hbase
  exact wp_app_of s x ho hs hx hr (h ao cap w' h1 h2 h3)
end

theorem bcellx {W w1 : World} (hb : W.grownBy w1 (Value.slice none 0 0).ownBlock) (b : Nat) (h : b < W.heap.size) : (∀ o, w1.cell? ⟨b, o, none⟩ = W.cell? ⟨b, o, none⟩) ∧ (∀ o, w1.frozen? ⟨b, o, none⟩ = W.frozen? ⟨b, o, none⟩) :=
  ⟨fun o => World.cell?_of_block (a := ⟨b, o, none⟩) (hb.block b h (by simp [Value.ownBlock])), fun o => World.frozen?_of_block (a := ⟨b, o, none⟩) (hb.block b h (by simp [Value.ownBlock]))⟩

theorem nil_below {w w' : World} (h : w.grownBy w' (Value.slice none 0 0).ownBlock) : Below w.heap.size w w' :=
  ⟨h.os, h.tape, h.output, h.size, fun k hk => h.block k hk (by simp [Value.ownBlock])⟩

def u8s (bs : List UInt8) : List Value := bs.map fun c => Value.int .u8 c.toNat
theorem u8s_len (bs : List UInt8) : (u8s bs).length = bs.length := by simp [u8s]
theorem u8s_one (bs : List UInt8) : ∀ u ∈ u8s bs, u.oneCell' = true := by
  intro u hu
  simp only [u8s, List.mem_map] at hu
  obtain ⟨b, _, rfl⟩ := hu
  rfl

/-- A property. -/
structure PD where
  key : ByteArray
  kind : Int
  n : Int
  text : ByteArray

def PD.cells (p : PD) : List Value := [.string p.key, .int .i64 p.kind, .int .i64 p.n, .string p.text]
def cellsL (l : List PD) : List Value := l.flatMap PD.cells
theorem cellsL_len (ps : List PD) : (cellsL ps).length = ps.length * 4 := by
  induction ps with
  | nil => rfl
  | cons p r ih => simp [cellsL, PD.cells] at ih ⊢; omega
theorem cells_one (p : PD) : ∀ u ∈ p.cells, u.oneCell' = true := by
  intro u hu
  simp only [PD.cells, List.mem_cons, List.not_mem_nil, or_false] at hu
  rcases hu with rfl | rfl | rfl | rfl <;> rfl
theorem cellsL_one (ps : List PD) : ∀ u ∈ cellsL ps, u.oneCell' = true := by
  intro u hu
  simp only [cellsL, List.mem_flatMap] at hu
  obtain ⟨p, _, hp⟩ := hu
  exact cells_one p u hp

/-- A note. -/
structure ND where
  props : List PD
  body : List UInt8

def ND.small (n : ND) : Prop := n.props.length ≤ 4194304 ∧ n.body.length ≤ 4194304

def SliceP (S : Nat → Prop) (w : World) (v : Value) (ps : List PD) : Prop := SliceV S w v ps.length (cellsL ps)
def SliceB (S : Nat → Prop) (w : World) (v : Value) (bs : List UInt8) : Prop := SliceV S w v bs.length (u8s bs)

/-- The two slices of a note. -/
def NoteIs (S : Nat → Prop) (w : World) (p : Value × Value) (n : ND) : Prop := SliceP S w p.1 n.props ∧ SliceB S w p.2 n.body

theorem NoteIs.sub {S T : Nat → Prop} {w w' : World} {p : Value × Value} {n : ND} (h : NoteIs S w p n) (hb : ∀ k, S k → T k ∧ w'.heap[k]? = w.heap[k]?) : NoteIs T w' p n := ⟨SliceV.sub h.1 hb, SliceV.sub h.2 hb⟩
theorem NoteIs.nil (S : Nat → Prop) (w : World) : NoteIs S w (.slice none 0 0, .slice none 0 0) ⟨[], []⟩ := ⟨SliceV.nil _ _, SliceV.nil _ _⟩

/-- A block of plain cells. -/
def Blk (w : World) (b : Nat) (cs : List Value) : Prop := ∃ t, w.heap[b]? = some (.cells cs.toArray t (0, 0))

theorem Blk.same {w w' : World} {b : Nat} {cs : List Value} (h : Blk w b cs) (hb : w'.heap[b]? = w.heap[b]?) : Blk w' b cs := by
  obtain ⟨t, h⟩ := h
  exact ⟨t, hb.trans h⟩
theorem Blk.lt {w : World} {b : Nat} {cs : List Value} (h : Blk w b cs) : b < w.heap.size := by
  obtain ⟨t, h⟩ := h
  exact (Array.getElem?_eq_some_iff.1 h).1
theorem Blk.below {B : Nat} {w w' : World} {b : Nat} {cs : List Value} (h : Blk w b cs) (hb : Below B w w') (hl : b < B) : Blk w' b cs := h.same (hb.block b hl)
theorem Blk.cell {w : World} {b : Nat} {cs : List Value} (h : Blk w b cs) (o : Nat) : w.cell? ⟨b, o, none⟩ = cs[o]? := by
  obtain ⟨t, h⟩ := h
  rw [cell_of_row w b o _ t (0, 0) h]; simp
theorem Blk.f {w : World} {b : Nat} {cs : List Value} (h : Blk w b cs) (o : Nat) : w.frozen? ⟨b, o, none⟩ = false := by
  obtain ⟨t, h⟩ := h
  simp [World.frozen?, h]
theorem Blk.set {w : World} {b : Nat} {cs : List Value} (h : Blk w b cs) (o : Nat) (v : Value) : Blk (w.setCell ⟨b, o, none⟩ v) b (cs.set o v) := by
  obtain ⟨t, h⟩ := h
  refine ⟨t, ?_⟩
  simp [World.setCell, Array.getElem?_modify, h]
theorem Blk.new (w : World) (cs : List Value) (t : TypeId) : Blk (w.alloc (.cells cs.toArray t)) w.heap.size cs := ⟨t, heap_alloc_new w _⟩
theorem Blk.alloc {w : World} {b : Nat} {cs : List Value} (h : Blk w b cs) (o : Obj) : Blk (w.alloc o) b cs := h.same (Below.heap_alloc _ _ _ h.lt)
theorem Blk.drew {w : World} {b : Nat} {cs : List Value} (h : Blk w b cs) : Blk w.drew b cs := h
theorem Blk.far {w : World} {b : Nat} {cs : List Value} (h : Blk w b cs) {a : Addr} (hn : a.block ≠ b) (v : Value) : Blk (w.setCell a v) b cs := h.same (Below.heap_setCell _ _ _ _ (fun e => hn e.symm))

theorem Blk.b1 {w : World} {b : Nat} {x0 : Value} (h : Blk w b [x0]) : w.cell? ⟨b, 0, none⟩ = some x0 ∧ (∀ o, w.frozen? ⟨b, o, none⟩ = false) ∧ b < w.heap.size := ⟨h.cell 0, h.f, h.lt⟩
theorem Blk.b2 {w : World} {b : Nat} {x0 x1 : Value} (h : Blk w b [x0, x1]) : w.cell? ⟨b, 0, none⟩ = some x0 ∧ w.cell? ⟨b, 1, none⟩ = some x1 ∧ (∀ o, w.frozen? ⟨b, o, none⟩ = false) ∧ b < w.heap.size := ⟨h.cell 0, h.cell 1, h.f, h.lt⟩
theorem Blk.b3 {w : World} {b : Nat} {x0 x1 x2 : Value} (h : Blk w b [x0, x1, x2]) : w.cell? ⟨b, 0, none⟩ = some x0 ∧ w.cell? ⟨b, 1, none⟩ = some x1 ∧ w.cell? ⟨b, 2, none⟩ = some x2 ∧ (∀ o, w.frozen? ⟨b, o, none⟩ = false) ∧ b < w.heap.size := ⟨h.cell 0, h.cell 1, h.cell 2, h.f, h.lt⟩
theorem Blk.b7 {w : World} {b : Nat} {x0 x1 x2 x3 x4 x5 x6 : Value} (h : Blk w b [x0, x1, x2, x3, x4, x5, x6]) : (w.cell? ⟨b, 0, none⟩ = some x0 ∧ w.cell? ⟨b, 1, none⟩ = some x1 ∧ w.cell? ⟨b, 2, none⟩ = some x2 ∧ w.cell? ⟨b, 3, none⟩ = some x3) ∧ (w.cell? ⟨b, 4, none⟩ = some x4 ∧ w.cell? ⟨b, 5, none⟩ = some x5 ∧ w.cell? ⟨b, 6, none⟩ = some x6) ∧ (∀ o, w.frozen? ⟨b, o, none⟩ = false) ∧ b < w.heap.size := ⟨⟨h.cell 0, h.cell 1, h.cell 2, h.cell 3⟩, ⟨h.cell 4, h.cell 5, h.cell 6⟩, h.f, h.lt⟩

theorem info5 : (Try.prog.info? 5).map (fun i => (i.zero, i.size, i.bytes)) = some (some (.int .u8 0), 1, 1) := by kernel_rfl
end Go.Proofs.Ytkddkpdfeeikhaa

/-
  note.Own answers a note that reads as the given one, in new memory; queue.ownItem likewise.
-/
namespace Go.Proofs.Ytkddkpdfeeikhaa
open Go.RowKit
set_option linter.unusedVariables false
set_option linter.unusedSimpArgs false

attribute [local go_sem ↓] Go.wp_at_zero Go.wp_at_succ

theorem info68 : (Try.prog.info? 98).map (fun i => (i.zero, i.size, i.bytes)) = some (some (.agg #[.string ByteArray.empty, .int .i64 0, .int .i64 0, .string ByteArray.empty]), 4, 48) := by kernel_rfl

/-- Blocks that a call made. -/
def Made (lo hi : Nat) : Nat → Prop := fun b => lo ≤ b ∧ b < hi
/-- Blocks below. -/
def Under (hi : Nat) : Nat → Prop := fun b => b < hi

theorem own_made {w : World} {base lo : Nat} {e : TypeId} {size : Nat} {v : Value} {n : Nat} {xs : List Value} (h : w.ownsRow base e size v n xs) (hl : lo ≤ base) : SliceV (Made lo w.heap.size) w v n xs :=
  (own_slice h).sub fun k hk => ⟨⟨Nat.le_trans hl (h.lt k hk).1, (h.lt k hk).2⟩, rfl⟩

set_option maxRecDepth 100000 in
set_option maxHeartbeats 3200000 in
theorem noteOwn_any (v u : Value) (n : ND) (hs : n.small) (w : World) (h : NoteIs (Under w.heap.size) w (v, u) n) :
    Calls Try.prog 60 #[.agg #[v, u]] w fun e w' => ∃ q : Value × Value, e = .returned (.agg #[q.1, q.2]) ∧ NoteIs (Made w.heap.size w'.heap.size) w' q n ∧ Below w.heap.size w w' := by
  obtain ⟨i0, hi0, hz0, hz1, hz2⟩ := info_parts info68
  obtain ⟨j0, hj0, hy0, hy1, hy2⟩ := info_parts info5
  obtain ⟨hs1, hs2⟩ := hs
  obtain ⟨hv, hu⟩ := h
  have KP : Hid (SliceP (Under w.heap.size) w v n.props) := hv
  have KB : Hid (SliceB (Under w.heap.size) w u n.body) := hu
  obtain ⟨va, vc, rfl, -⟩ := SliceV.shape hv
  obtain ⟨ua, uc, rfl, -⟩ := SliceV.shape hu
  obtain ⟨ps, bs⟩ := n
  simp only at hs1 hs2 KP KB ⊢
  have two : Hid (∀ o1 o2 : Obj, Below w.heap.size w ((w.alloc o1).alloc o2)) := fun o1 o2 => (below_alloc _ _).alloc (by simp) _
  clear hv hu
  go_enter Try.func60, Try.ntmps60
  go_wp2_with fail
  go_region_held3 (fun w' => w'.cell? ⟨w.heap.size, 0, none⟩ = some (.slice va ps.length vc) ∧ w'.cell? ⟨w.heap.size, 1, none⟩ = some (.slice ua bs.length uc)) (go_keep)
    (first
      | (refine step_appV (by rfl) _ _ 25 (by rfl) 98 i0 _ 4 48 Try.underlying25 hi0 hz0 hz1 hz2 rfl (by omega) (w.heap.size + 2) (.slice none 0 0) 0 [] (by rfl) (World.ownsRow_nil _ _ _ _) (Under w.heap.size) (.slice va ps.length vc) ps.length (cellsL ps) (by rfl) (KP.out.sub fun k hk => ⟨hk, (two.out _ _).block k hk⟩) (cellsL_len ps) (cellsL_one ps) (by unfold maxLen; omega) (by omega) (by simp) ?_; intro ao cap wP hownP hgP hmP; obtain ⟨p1, p2⟩ := bcellx hgP w.heap.size (by simp; omega); obtain ⟨p3, p4⟩ := bcellx hgP (w.heap.size + 1) (by simp); have hzP : w.heap.size + 2 ≤ wP.heap.size := (by have := hgP.size; simp at this; omega))
      | (refine step_appV (by rfl) _ _ 26 (by rfl) 5 j0 _ 1 1 Try.underlying26 hj0 hy0 hy1 hy2 rfl (by omega) (w.heap.size + 2) (.slice none 0 0) 0 [] (by rfl) (World.ownsRow_nil _ _ _ _) (Under w.heap.size) (.slice ua bs.length uc) bs.length (u8s bs) (by rfl) (KB.out.sub fun k hk => ⟨hk, (hgP.block k (by simp [Under] at hk ⊢; omega) (by simp [Value.ownBlock])).trans ((two.out _ _).block k hk)⟩) (by simp [u8s]) (u8s_one bs) (by unfold maxLen; omega) (by omega) hzP ?_; intro ao2 cap2 wB hownB hgB hmB; obtain ⟨q1, q2⟩ := bcellx hgB w.heap.size (by omega); obtain ⟨q3, q4⟩ := bcellx hgB (w.heap.size + 1) (by omega)))
  go_wp2
  have oP : wB.ownsRow (w.heap.size + 2) 98 4 (.slice ao ps.length cap) ps.length (cellsL ps) := by
    have := hownP.kept hgB (by simp [Value.ownBlock]; cases ao <;> simp [Value.ownBlock])
    simpa using this
  have oB : wB.ownsRow (w.heap.size + 2) 5 1 (.slice ao2 bs.length cap2) bs.length (u8s bs) := by simpa using hownB
  have bel : Below w.heap.size w wB := by
    have b1 := (two.out (.cells #[.slice va ps.length vc, .slice ua bs.length uc] 28) (.cells #[.slice none 0 0, .slice none 0 0] 28)).drew.trans ((nil_below hgP).mono (by simp; omega))
    exact b1.trans ((nil_below hgB).mono (by omega))
  refine bodyPost_ret (v := .agg #[.slice ao ps.length cap, .slice ao2 bs.length cap2]) (by simp [results, Try.results60, go_sem, *]) rfl ⟨(_, _), rfl, ⟨?_, ?_⟩, (bel.setCell (by simp) _).setCell (by simp) _⟩
  · exact own_made (ownsRow_setCell_below (ownsRow_setCell_below oP (by simp) _) (by simp) _) (by omega)
  · exact own_made (ownsRow_setCell_below (ownsRow_setCell_below oB (by simp) _) (by simp) _) (by omega)

/-- An item. -/
structure IT where
  id : Int
  turn : Int
  tries : Int
  out : Bool
  due : Int
  note : ND

def IT.val (i : IT) (p : Value × Value) : Value := .agg #[.int .i64 i.id, .int .i64 i.turn, .int .i64 i.tries, .bool i.out, .int .i64 i.due, p.1, p.2]
def IT.cells (i : IT) (p : Value × Value) : List Value := [.int .i64 i.id, .int .i64 i.turn, .int .i64 i.tries, .bool i.out, .int .i64 i.due, p.1, p.2]

set_option maxRecDepth 100000 in
set_option maxHeartbeats 3200000 in
theorem ownItem_any (v u : Value) (i : IT) (hs : i.note.small) (w : World) (h : NoteIs (Under w.heap.size) w (v, u) i.note) :
    Calls Try.prog 130 #[.agg #[.int .i64 i.id, .int .i64 i.turn, .int .i64 i.tries, .bool i.out, .int .i64 i.due, v, u]] w fun e w' => ∃ q : Value × Value, e = .returned (i.val q) ∧ NoteIs (Made w.heap.size w'.heap.size) w' q i.note ∧ Below w.heap.size w w' := by
  have KN : Hid (NoteIs (Under w.heap.size) w (v, u) i.note) := h
  have HS : Hid i.note.small := hs
  obtain ⟨va, vc, rfl, -⟩ := SliceV.shape h.1
  obtain ⟨ua, uc, rfl, -⟩ := SliceV.shape h.2
  obtain ⟨id, turn, tries, out, due, note⟩ := i
  simp only at KN HS ⊢
  clear h hs
  have two : Hid (∀ o1 o2 : Obj, Below w.heap.size w ((w.alloc o1).alloc o2)) := fun o1 o2 => (below_alloc _ _).alloc (by simp) _
  go_enter Try.func130, Try.ntmps130
  go_wp2_with (first
    | (go_at_call 60; refine (noteOwn_any _ _ note HS.out _ (KN.out.sub fun k hk => ⟨?_, (two.out _ _).block k hk⟩)).mono ?_; (simp [Under] at hk ⊢; omega); rintro e w1 ⟨⟨v1, u1⟩, rfl, hn1, hb1⟩; obtain ⟨va1, vc1, rfl, -⟩ := SliceV.shape hn1.1; obtain ⟨ua1, uc1, rfl, -⟩ := SliceV.shape hn1.2; obtain ⟨⟨a0, a1, a2, a3⟩, ⟨a4, a5, a6⟩, a7, a8⟩ := (((Blk.new w _ 78).alloc _).below hb1 (by simp; omega)).b7; obtain ⟨⟨b0, b1, b2, b3⟩, ⟨b4, b5, b6⟩, b7, b8⟩ := ((Blk.new (w.alloc _) _ 78).below hb1 (by simp)).b7; simp only [World.size_alloc] at b0 b1 b2 b3 b4 b5 b6 b7 b8))
  refine bodyPost_ret (v := .agg #[.int .i64 id, .int .i64 turn, .int .i64 tries, .bool out, .int .i64 due, .slice va1 note.props.length vc1, .slice ua1 note.body.length uc1]) (by simp [results, Try.results130, go_sem, *]; done) rfl ⟨(_, _), rfl, ?_, ?_⟩
  · refine hn1.sub fun k hk => ?_
    obtain ⟨h1, h2⟩ := hk
    simp at h1
    refine ⟨⟨by omega, by simpa using h2⟩, ?_⟩
    iterate 9 rw [Below.heap_setCell _ _ _ _ (by simp; omega)]
  · iterate 9 refine Below.setCell ?_ (by simp) _
    exact (two.out _ _).trans (hb1.mono (by simp; omega))
end Go.Proofs.Ytkddkpdfeeikhaa

/-
  Items in memory; the closures that look at one; slices.IndexFunc.
-/
namespace Go.Proofs.Ytkddkpdfeeikhaa
open Go.RowKit
set_option linter.unusedVariables false
set_option linter.unusedSimpArgs false

attribute [local go_sem ↓] Go.wp_at_zero Go.wp_at_succ

/-- Items, each with the two slices of its note. -/
abbrev ItL := List (IT × (Value × Value))
def cellsI (L : ItL) : List Value := L.flatMap fun x => x.1.cells x.2
theorem cellsI_len (L : ItL) : (cellsI L).length = L.length * 7 := by
  induction L with
  | nil => rfl
  | cons p r ih => simp [cellsI, IT.cells] at ih ⊢; omega
theorem cellsI_snoc (L : ItL) (x : IT × (Value × Value)) : cellsI (L ++ [x]) = cellsI L ++ x.1.cells x.2 := by simp [cellsI]
theorem cellsI_at (L : ItL) (k j : Nat) (hk : k < L.length) (hj : j < 7) : (cellsI L)[k * 7 + j]? = (L[k].1.cells L[k].2)[j]? := by
  induction L generalizing k with
  | nil => simp at hk
  | cons x r ih =>
    have e : cellsI (x :: r) = x.1.cells x.2 ++ cellsI r := by simp [cellsI]
    rw [e]
    cases k with
    | zero => rw [List.getElem?_append_left (by simp [IT.cells]; omega)]; simp
    | succ k =>
      rw [List.getElem?_append_right (by simp [IT.cells]; omega)]
      have := ih k (by simpa using hk)
      rw [List.getElem_cons_succ, ← this]
      congr 1
      simp [IT.cells]; omega

def SliceL (S : Nat → Prop) (w : World) (v : Value) (L : ItL) : Prop := SliceV S w v L.length (cellsI L) ∧ ∀ x ∈ L, NoteIs S w x.2 x.1.note

theorem SliceL.sub {S T : Nat → Prop} {w w' : World} {v : Value} {L : ItL} (h : SliceL S w v L) (hb : ∀ k, S k → T k ∧ w'.heap[k]? = w.heap[k]?) : SliceL T w' v L :=
  ⟨h.1.sub hb, fun x hx => (h.2 x hx).sub hb⟩

theorem SliceL.below {B : Nat} {w w' : World} {v : Value} {L : ItL} (h : SliceL (Under B) w v L) (hb : Below B w w') : SliceL (Under B) w' v L := h.sub fun k hk => ⟨hk, hb.block k hk⟩

/-- A slice that reads as items. -/
def SliceI (S : Nat → Prop) (w : World) (v : Value) (its : List IT) : Prop := ∃ L : ItL, L.map Prod.fst = its ∧ SliceL S w v L

theorem SliceI.sub {S T : Nat → Prop} {w w' : World} {v : Value} {its : List IT} (h : SliceI S w v its) (hb : ∀ k, S k → T k ∧ w'.heap[k]? = w.heap[k]?) : SliceI T w' v its := by
  obtain ⟨L, e, h⟩ := h
  exact ⟨L, e, h.sub hb⟩

theorem SliceL.at {S : Nat → Prop} {w : World} {a : Option Addr} {n cap : Nat} {L : ItL} (h : SliceL S w (.slice a n cap) L) (k : Nat) (hk : k < L.length) :
    ∃ b off, a = some ⟨b, off, none⟩ ∧ S b ∧ (w.cell? ⟨b, off + k * 7, none⟩ = some (.int .i64 L[k].1.id) ∧ w.cell? ⟨b, off + k * 7 + 1, none⟩ = some (.int .i64 L[k].1.turn) ∧ w.cell? ⟨b, off + k * 7 + 2, none⟩ = some (.int .i64 L[k].1.tries) ∧ w.cell? ⟨b, off + k * 7 + 3, none⟩ = some (.bool L[k].1.out)) ∧
      (w.cell? ⟨b, off + k * 7 + 4, none⟩ = some (.int .i64 L[k].1.due) ∧ w.cell? ⟨b, off + k * 7 + 5, none⟩ = some L[k].2.1 ∧ w.cell? ⟨b, off + k * 7 + 6, none⟩ = some L[k].2.2) := by
  obtain ⟨⟨a', cap', e, _, _, _, h3⟩, _⟩ := h
  simp only [Value.slice.injEq] at e
  obtain ⟨rfl, -, rfl⟩ := e
  have hl := cellsI_len L
  obtain ⟨b, off, rfl, hs, _⟩ := h3 (k * 7) (by omega)
  have key : ∀ j (hj : j < 7), w.cell? ⟨b, off + k * 7 + j, none⟩ = (L[k].1.cells L[k].2)[j]? := fun j hj => by
    obtain ⟨b', off', e, _, hc⟩ := h3 (k * 7 + j) (by omega)
    simp only [Option.some.injEq, Addr.mk.injEq] at e
    obtain ⟨rfl, rfl, -⟩ := e
    rw [← cellsI_at L k j hk hj, List.getElem?_eq_getElem (by omega), ← hc]
    congr 2; omega
  exact ⟨b, off, rfl, hs, ⟨key 0 (by omega), key 1 (by omega), key 2 (by omega), key 3 (by omega)⟩, key 4 (by omega), key 5 (by omega), key 6 (by omega)⟩

/-- The place of the first that fits; else -1. -/
def idxI (p : IT → Bool) (its : List IT) : Int := match its.findIdx? p with
  | some k => (k : Int)
  | none => -1

theorem idxI_yes (p : IT → Bool) (L : ItL) (k : Nat) (hk : k < L.length) (hn : ∀ x ∈ L.take k, p x.1 = false) (hp : p L[k].1 = true) : idxI p (L.map Prod.fst) = k := by
  have : (L.map Prod.fst).findIdx? p = some k := by
    rw [List.findIdx?_eq_some_iff_getElem]
    refine ⟨by simpa using hk, by simpa using hp, fun j hj => ?_⟩
    have := hn L[j] (by rw [List.mem_take_iff_getElem]; exact ⟨j, by omega, rfl⟩)
    simpa using this
  simp [idxI, this]
theorem idxI_no (p : IT → Bool) (L : ItL) (hn : ∀ x ∈ L, p x.1 = false) : idxI p (L.map Prod.fst) = -1 := by
  have : (L.map Prod.fst).findIdx? p = none := by
    rw [List.findIdx?_eq_none_iff]
    intro x hx
    obtain ⟨y, hy, rfl⟩ := List.mem_map.1 hx
    exact hn y hy
  simp [idxI, this]

/-- A function that tells, of any item, whether it fits. -/
def Tells (B : Nat) (w0 : World) (F : Nat) (caps : List Value) (p : IT → Bool) : Prop :=
  (∀ args W, (callFunc F args).run Try.prog W = .ok (.enter F args) W) ∧ ∀ (it : IT) (va ua : Option Addr) (vn vc un uc : Nat) (W : World), Below B w0 W → Calls Try.prog F (Value.agg #[.int .i64 it.id, .int .i64 it.turn, .int .i64 it.tries, .bool it.out, .int .i64 it.due, .slice va vn vc, .slice ua un uc] :: caps).toArray W fun e w' => e = .returned (.bool (p it)) ∧ Below W.heap.size W w'

set_option maxRecDepth 100000 in
set_option maxHeartbeats 3200000 in
theorem index_any (F : Nat) (caps : List Value) (p : IT → Bool) (v : Value) (L : ItL) (w : World) (h : SliceL (Under w.heap.size) w v L) (hF : Tells w.heap.size w F caps p) :
    Calls Try.prog 129 #[v, .func (.func F) #[] caps.toArray] w fun e w' => e = .returned (.int .i64 (idxI p (L.map Prod.fst))) ∧ Below w.heap.size w w' := by
  have HL : Hid (SliceL (Under w.heap.size) w v L) := h
  have HF : Hid (Tells w.heap.size w F caps p) := hF
  obtain ⟨va, vc, rfl, h1, h2, h3⟩ := h.1.shape
  unfold maxLen at h2
  have hE := hF.1
  clear h hF
  go_enter Try.func129, Try.ntmps129
  go_wp2
  go_loopw [8] (fun i wr => ∃ k : Nat, k ≤ L.length ∧ i = .int .i64 k ∧ Below w.heap.size w wr ∧ ∀ x ∈ L.take k, p x.1 = false)
    (fun i _ => L.length - (intOf i).toNat)
  case atStart => exact ⟨0, Nat.zero_le _, rfl, Below.refl _ _, by simp⟩
  case round =>
    obtain ⟨k, hk, rfl, hb, hno⟩ := hrel
    have HN : Hid (∀ x ∈ L.take k, p x.1 = false) := hno
    clear hno
    by_cases hlt : k < L.length
    · obtain ⟨b, off, rfl, hS, ⟨c0, c1, c2, c3⟩, c4, c5, c6⟩ := (HL.out.below hb).at k hlt
      have hnote := HL.out.2 L[k] (List.getElem_mem hlt)
      obtain ⟨pa, pc, e1, -⟩ := SliceV.shape hnote.1
      obtain ⟨qa, qc, e2, -⟩ := SliceV.shape hnote.2
      rw [e1] at c5
      rw [e2] at c6
      cases hp : p L[k].1
      · go_wp2_with ((with_reducible show Calls Try.prog F _ _ _); refine (HF.out.2 L[k].1 _ _ _ _ _ _ _ hb).mono ?_; rw [hp]; rintro e w1 ⟨rfl, hb1⟩)
        go_roundw
        case rel =>
          refine ⟨k + 1, by omega, by go_num, hb.trans (hb1.mono hb.size), fun x hx => ?_⟩
          rw [List.take_succ_eq_append_getElem hlt, List.mem_append, List.mem_singleton] at hx
          rcases hx with hx | rfl
          · exact HN.out x hx
          · exact hp
        case measure => simp [intOf]; omega
      · go_wp2_with ((with_reducible show Calls Try.prog F _ _ _); refine (HF.out.2 L[k].1 _ _ _ _ _ _ _ hb).mono ?_; rw [hp]; rintro e w1 ⟨rfl, hb1⟩)
        go_ret
        exact ⟨ret_i64 (idxI_yes p L k hlt HN.out hp).symm, hb.trans (hb1.mono hb.size)⟩
    · go_wp2
      go_ret
      refine ⟨ret_i64 (idxI_no p L fun x hx => HN.out x ?_).symm, hb⟩
      rw [List.take_of_length_le (by omega)]; exact hx

theorem enter16 (args : Array Value) (W : World) : (callFunc 153 args).run Try.prog W = .ok (.enter 153 args) W := by go_simp
theorem enter30 (args : Array Value) (W : World) : (callFunc 167 args).run Try.prog W = .ok (.enter 167 args) W := by go_simp

set_option maxHeartbeats 1000000 in
theorem isIn_tells (B : Nat) (w0 : World) : Tells B w0 153 [] (fun i => !i.out) := by
  refine ⟨enter16, fun it va ua vn vc un uc W _ => ?_⟩
  obtain ⟨id, turn, tries, out, due, note⟩ := it
  simp only
  go_enter Try.func153, Try.ntmps153
  go_wp2
  go_ret
  exact ⟨rfl, below_alloc _ _⟩

set_option maxHeartbeats 1000000 in
theorem given_tells (B : Nat) (w0 : World) (g h : Nat) (id turn : Int) (hg : Blk w0 g [.int .i64 id]) (hl : g < B) (hh : Blk w0 h [.int .i64 turn]) (hm : h < B) : Tells B w0 167 [.pointer (some ⟨g, 0, none⟩), .pointer (some ⟨h, 0, none⟩)] (fun i => i.out && (i.id == id) && (i.turn == turn)) := by
  refine ⟨enter30, fun it va ua vn vc un uc W hb => ?_⟩
  obtain ⟨id', turn', tries, out, due, note⟩ := it
  obtain ⟨c0, c1, c2⟩ := (hg.below hb hl).b1
  obtain ⟨d0, d1, d2⟩ := (hh.below hb hm).b1
  simp only
  cases out
  · go_enter Try.func167, Try.ntmps167
    go_wp2
    go_ret
    exact ⟨by simp, below_alloc _ _⟩
  · cases h1 : (id' == id)
    · go_enter Try.func167, Try.ntmps167
      go_wp2
      go_ret
      exact ⟨by simp, below_alloc _ _⟩
    · go_enter Try.func167, Try.ntmps167
      go_wp2
      go_ret
      exact ⟨by simp, below_alloc _ _⟩

set_option maxHeartbeats 1000000 in
theorem givenAs_any (id turn : Int) (w : World) :
    Calls Try.prog 164 #[.int .i64 id, .int .i64 turn] w fun e w' => e = .returned (.func (.func 167) #[] #[.pointer (some ⟨w.heap.size, 0, none⟩), .pointer (some ⟨w.heap.size + 1, 0, none⟩)]) ∧ Blk w' w.heap.size [.int .i64 id] ∧ Blk w' (w.heap.size + 1) [.int .i64 turn] ∧ Below w.heap.size w w' := by
  go_enter Try.func164, Try.ntmps164
  go_wp2
  go_ret
  refine ⟨rfl, (Blk.new w _ 3).alloc _, ?_, (below_alloc _ _).alloc (by simp) _⟩
  have := Blk.new (w.alloc (.cells #[.int .i64 id] 3)) [.int .i64 turn] 3
  simpa using this
end Go.Proofs.Ytkddkpdfeeikhaa
