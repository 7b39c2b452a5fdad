/-
  Delete; Change: texts laid together.
-/
import Derived.Test.YtkddkpdfeeikhaaKept
import Derived.Lib.SliceRun
/-
  slices.Delete takes one item out of a row of one's own; queue.without.
-/
namespace Go.Proofs.Ytkddkpdfeeikhaa
open Go.RowKit
set_option linter.unusedVariables false
set_option linter.unusedSimpArgs false

attribute [local go_sem ↓] Go.wp_at_zero Go.wp_at_succ

theorem step_run {w : World} {ops : Array Oper} {o : Oper} {a : Act} {Q : Exit → Act → World → Prop} {K : Act → World → Prop} {E : Prop} {t u : TypeId} {v1 v2 v' : Value} {w' : World} (hgd : o.guard = none) (s x : Operand) (ho : o.op = .call { callee := .builtin .append, args := #[s, x], argTypes := #[t, u] }) (hs : a.eval s = v1) (hx : a.eval x = v2)
    (hr : (Builtin.append_ #[t, u] o.type #[v1, v2]).run Try.prog w = .ok v' w') (h : K (a.put o.dst v') w') : if Region.wanted o (yielded ops a.tmps) = true then Oper.wp Try.prog o a w K Q else E := by
  have hw : Region.wanted o (yielded ops a.tmps) = true := by simp [Region.wanted, hgd]
  rw [if_pos hw]
  exact wp_app_of s x ho hs hx hr h

theorem zero34 (w : World) : (zeroValue 78).run Try.prog w = .ok (.agg #[.int .i64 0, .int .i64 0, .int .i64 0, .bool false, .int .i64 0, .slice none 0 0, .slice none 0 0]) w := by kernel_rfl

def zero7 : List Value := [.int .i64 0, .int .i64 0, .int .i64 0, .bool false, .int .i64 0, .slice none 0 0, .slice none 0 0]

theorem run_clear7 (w : World) (ty : TypeId) (g off c : Nat) (cur : Array Value) (hg : w.heap[g]? = some (.cells cur 78 (0, 0))) (hf : off + 7 ≤ cur.size) :
    (Builtin.clear_ #[74] ty #[.slice (some ⟨g, off, none⟩) 1 c]).run Try.prog w = .ok (.tuple #[]) (w.setRow g (cur.toList.take off ++ zero7 ++ cur.toList.drop (off + 7)).toArray) := by
  have hst := run_storeCells_at Try.prog g off 78 zero7 0 cur w hg (by simpa [zero7] using hf) (by simp [zero7, Value.oneCell'])
  simp only [Nat.add_zero] at hst
  have hz : (Builtin.zeroCells (Value.agg #[.int .i64 0, .int .i64 0, .int .i64 0, .bool false, .int .i64 0, .slice none 0 0, .slice none 0 0]).cells 1).toList = zero7 := by simp [Builtin.zeroCells, Value.cells, zero7]; rfl
  simp [Builtin.clear_, run_underlying Try.underlying74, zero34, hz, hst]
  simp [zero7]

/-- The row without one element. -/
theorem del_list {α : Type} (cs xs z : List α) (i m : Nat) (hx : cs.take ((i + m + 1) * 7) = xs) (hl : xs.length = (i + m + 1) * 7) (hz : z.length = 7) :
    let c1 := cs.take (i * 7) ++ xs.drop ((i + 1) * 7) ++ cs.drop (i * 7 + (xs.drop ((i + 1) * 7)).length)
    let c2 := c1.take ((i + m) * 7) ++ z ++ c1.drop ((i + m) * 7 + 7)
    c1.length = cs.length ∧ c2.length = cs.length ∧ c2.take ((i + m) * 7) = xs.take (i * 7) ++ xs.drop ((i + 1) * 7) := by
  have hcl : (i + m + 1) * 7 ≤ cs.length := by
    rw [← hx, List.length_take] at hl; omega
  have e1 : cs.take (i * 7) = xs.take (i * 7) := by
    rw [← hx, List.take_take]; congr 1; omega
  have l1 : (xs.drop ((i + 1) * 7)).length = m * 7 := by simp [hl]; omega
  intro c1 c2
  have hc1 : c1.length = cs.length := by simp only [c1, List.length_append, List.length_take, List.length_drop, hl]; omega
  have ht : c1.take ((i + m) * 7) = xs.take (i * 7) ++ xs.drop ((i + 1) * 7) := by
    simp only [c1, e1]
    rw [List.take_append_of_le_length (by simp [hl]; omega), List.take_of_length_le (by simp [hl]; omega)]
  refine ⟨hc1, ?_, ?_⟩
  · simp only [c2, List.length_append, List.length_take, List.length_drop, hc1, hz]; omega
  · simp only [c2]
    rw [List.append_assoc, List.take_append_of_le_length (by simp [hc1]; omega), List.take_take, Nat.min_self, ht]

set_option maxRecDepth 100000 in
set_option maxHeartbeats 3200000 in
theorem delete_any (base g i m cap : Nat) (xs : List Value) (w : World) (h : w.ownsRow base 78 7 (.slice (some ⟨g, 0, none⟩) (i + m + 1) cap) (i + m + 1) xs) (h1 : ∀ u ∈ xs, u.oneCell' = true) (hn : i + m + 1 ≤ 4194304) :
    Calls Try.prog 168 #[.slice (some ⟨g, 0, none⟩) (i + m + 1) cap, .int .i64 i, .int .i64 (i + 1)] w fun e w' => e = .returned (.slice (some ⟨g, 0, none⟩) (i + m) cap) ∧
      w'.ownsRow base 78 7 (.slice (some ⟨g, 0, none⟩) (i + m) cap) (i + m) (xs.take (i * 7) ++ xs.drop ((i + 1) * 7)) ∧ w.grownBy w' (some g) := by
  obtain ⟨i0, hi0, hz0, hz1, hz2⟩ := info_parts info34
  obtain ⟨hl, hr⟩ := h
  rcases hr with ⟨e, -⟩ | ⟨g', cap', cur, e, hb, hg, hnc, hcm, hcs, hx⟩
  · simp at e
  simp only [Value.slice.injEq, Option.some.injEq, Addr.mk.injEq, and_true, true_and] at e
  obtain ⟨rfl, rfl⟩ := e
  obtain ⟨d1, d2, d3⟩ := del_list cur.toList xs zero7 i m hx hl rfl
  obtain ⟨c1, hc1⟩ : ∃ c1, c1 = cur.toList.take (i * 7) ++ xs.drop ((i + 1) * 7) ++ cur.toList.drop (i * 7 + (xs.drop ((i + 1) * 7)).length) := ⟨_, rfl⟩
  obtain ⟨c2, hc2⟩ : ∃ c2, c2 = c1.take ((i + m) * 7) ++ zero7 ++ c1.drop ((i + m) * 7 + 7) := ⟨_, rfl⟩
  rw [← hc1] at d1 d2 d3
  rw [← hc2] at d2 d3
  have hnews : ∀ j u, (xs.drop ((i + 1) * 7))[j]? = some u → w.drew.cell? ((⟨g, (i + 1) * 7, none⟩ : Addr).add j) = some u := by
    intro j u hj
    rw [List.getElem?_drop] at hj
    rw [add_none]
    show w.cell? _ = _
    rw [cell_of_row w g _ _ 78 (0, 0) hg, ← hj, ← hx, List.getElem?_take, if_pos (by have := (List.getElem?_eq_some_iff.1 hj).1; omega)]
    simp
  obtain ⟨A, hA, hnA⟩ : ∃ A : Addr, (if cap = i + 1 then some (⟨g, 0, none⟩ : Addr) else some ⟨g, (i + 1) * 7, none⟩) = some A ∧ ∀ j u, (xs.drop ((i + 1) * 7))[j]? = some u → w.drew.cell? (A.add j) = some u := by
    by_cases hc : cap = i + 1
    · refine ⟨⟨g, 0, none⟩, by simp [hc], fun j u hj => ?_⟩
      have := (List.getElem?_eq_some_iff.1 hj).1
      simp [hl] at this
      omega
    · exact ⟨⟨g, (i + 1) * 7, none⟩, by simp [hc], hnews⟩
  have hrun : ∀ ty, (Builtin.append_ #[74, 74] ty #[.slice (some ⟨g, 0, none⟩) i cap, .slice (some A) m (cap - (i + 1))]).run Try.prog w.drew = .ok (.slice (some ⟨g, 0, none⟩) (i + m) cap) (w.drew.setRow g c1.toArray) := fun ty => by
    have := run_append_room (P := Try.prog) w.drew 74 ty 78 i0 Try.underlying74 hi0 g i cap cur hg A m (cap - (i + 1)) (xs.drop ((i + 1) * 7)) (by rw [hz1]; simp [hl]; omega) hnA (fun u hu => h1 u (List.mem_of_mem_drop hu)) (by omega) (by rw [hz1]; simp [hl, hcs]; omega)
    rw [this, hc1, hz1]
  have hg1 : (w.drew.setRow g c1.toArray).heap[g]? = some (.cells c1.toArray 78 (0, 0)) := setRow_heap w.drew g cur _ 78 _ hg
  obtain ⟨W1, hW1⟩ : ∃ W1, W1 = w.drew.setRow g c1.toArray := ⟨_, rfl⟩
  have HW1 : Hid (W1 = w.drew.setRow g c1.toArray) := hW1
  rw [← hW1] at hrun hg1
  have hcl : ∀ ty, (Builtin.clear_ #[74] ty #[.slice (some ⟨g, (i + m) * 7, none⟩) 1 (cap - (i + m))]).run Try.prog W1 = .ok (.tuple #[]) (W1.setRow g c2.toArray) := fun ty => by
    have := run_clear7 W1 ty g ((i + m) * 7) (cap - (i + m)) c1.toArray hg1 (by simp [d1, hcs]; omega)
    rw [this, hc2]
  have HR : Hid (∀ ty, (Builtin.append_ #[74, 74] ty #[.slice (some ⟨g, 0, none⟩) i cap, .slice (some A) m (cap - (i + 1))]).run Try.prog w.drew = .ok (.slice (some ⟨g, 0, none⟩) (i + m) cap) W1) := hrun
  have HC : Hid (∀ ty, (Builtin.clear_ #[74] ty #[.slice (some ⟨g, (i + m) * 7, none⟩) 1 (cap - (i + m))]).run Try.prog W1 = .ok (.tuple #[]) (W1.setRow g c2.toArray)) := hcl
  have hne : ((i : Int) == (i : Int) + 1) = false := by simp; omega
  have HL : Hid (xs.length = (i + m + 1) * 7) := hl
  clear hrun hW1 hnA hnews hc1 hc2 hcl hx hl h1
  unfold maxLen at hcm
  have hic : i ≤ cap := by omega
  have hic1 : i + 1 ≤ cap := by omega
  have him : i + m ≤ cap := by omega
  have hnn : (0 : Int) ≤ (i : Int) + 1 := by omega
  have hnm : (i : Int) ≤ (i : Int) + (m : Int) := by omega
  have hne2 : ¬ cap = i + m := by omega
  go_enter Try.func168, Try.ntmps168
  go_wp2_with fail
  go_region_law (refine step_run (by rfl) _ _ (by rfl) (by rfl) (by rfl) (HR.out _) ?_)
  all_goals go_wp2_with (simp only [HC.out])
  go_ret
  refine ⟨rfl, ⟨?_, .inr ⟨g, cap, c2.toArray, rfl, hb, setRow_heap W1 g _ _ 78 _ hg1, him, by unfold maxLen; omega, by simp [d2, hcs], by simpa using d3⟩⟩, ?_⟩
  · have := HL.out
    simp [this]; omega
  · have e := HW1.out
    refine ⟨?_, ?_, ?_, ?_, fun k hk hn => ?_⟩
    · rw [e]; rfl
    · rw [e]; rfl
    · rw [e]; rfl
    · rw [e]; simp
    · have hkg : k ≠ g := fun h => hn (by rw [h])
      rw [setRow_other W1 g k _ hkg, e, setRow_other w.drew g k _ hkg]
      rfl

theorem own_far {w : World} {base : Nat} {e : TypeId} {size : Nat} {v : Value} {n : Nat} {xs : List Value} (h : w.ownsRow base e size v n xs) {a : Addr} (ha : v.ownBlock ≠ some a.block) (u : Value) : (w.setCell a u).ownsRow base e size v n xs := by
  refine ⟨h.1, ?_⟩
  rcases h.2 with h1 | ⟨g, cap, cur, e, hb, hg, hr⟩
  · exact .inl h1
  · refine .inr ⟨g, cap, cur, e, hb, (Below.heap_setCell _ _ _ _ (fun e2 => ha ?_)).trans hg, hr⟩
    rw [e, ← e2]; rfl

theorem cellsI_one {S : Nat → Prop} {w : World} (L : ItL) (h : ∀ x ∈ L, NoteIs S w x.2 x.1.note) : ∀ u ∈ cellsI L, u.oneCell' = true := by
  intro u hu
  simp only [cellsI, List.mem_flatMap] at hu
  obtain ⟨x, hx, hu⟩ := hu
  obtain ⟨a, c, e1, -⟩ := SliceV.shape (h x hx).1
  obtain ⟨a', c', e2, -⟩ := SliceV.shape (h x hx).2
  simp only [IT.cells, List.mem_cons, List.not_mem_nil, or_false] at hu
  rcases hu with rfl | rfl | rfl | rfl | rfl | rfl | rfl
  · rfl
  · rfl
  · rfl
  · rfl
  · rfl
  · rw [e1]; rfl
  · rw [e2]; rfl

theorem cellsI_append (A B : ItL) : cellsI (A ++ B) = cellsI A ++ cellsI B := by simp [cellsI]
theorem cellsI_take (L : ItL) (i : Nat) (hi : i ≤ L.length) : (cellsI L).take (i * 7) = cellsI (L.take i) := by
  conv => lhs; rw [← List.take_append_drop i L, cellsI_append]
  rw [List.take_append_of_le_length (by simp [cellsI_len]; omega), List.take_of_length_le (by simp [cellsI_len]; omega)]
theorem cellsI_drop (L : ItL) (i : Nat) (hi : i ≤ L.length) : (cellsI L).drop (i * 7) = cellsI (L.drop i) := by
  conv => lhs; rw [← List.take_append_drop i L, cellsI_append]
  rw [List.drop_append_of_le_length (by simp [cellsI_len]; omega), List.drop_of_length_le (by simp [cellsI_len]; omega)]
  rfl

set_option maxRecDepth 100000 in
set_option maxHeartbeats 3200000 in
theorem without_any (base : Nat) (v : Value) (name : ByteArray) (limit : Int) (its : List IT) (i : Nat) (w : World) (h : OwnI base w v its) (hi : i < its.length) (hs : its.length ≤ 4194304) :
    Calls Try.prog 166 #[.agg #[.string name, .int .i64 limit, v], .int .i64 i] w fun e w' => ∃ v', e = .returned (.agg #[.string name, .int .i64 limit, v']) ∧ OwnI base w' v' (its.eraseIdx i) ∧ w.grownBy w' v.ownBlock := by
  obtain ⟨L, e, ho, hn⟩ := h
  subst e
  obtain ⟨m, hm⟩ : ∃ m, L.length = i + m + 1 := ⟨L.length - i - 1, by simp at hi; omega⟩
  have HO : Hid (w.ownsRow base 78 7 v L.length (cellsI L)) := ho
  have HN : Hid (∀ x ∈ L, NoteIs (fun b => base ≤ b ∧ b < w.heap.size ∧ v.ownBlock ≠ some b) w x.2 x.1.note) := hn
  rcases ho.2 with ⟨_, h0⟩ | ⟨g, cap, cur, rfl, hbg, hg, -⟩
  · omega
  have hgl : g < w.heap.size := (Array.getElem?_eq_some_iff.1 hg).1
  have HM : Hid (L.length = i + m + 1) := hm
  rw [hm] at HO
  have hs' : i + m + 1 ≤ 4194304 := by simp at hs; omega
  rw [hm]
  clear hn ho hi hs hg hm
  have two : Hid (∀ o1 o2 : Obj, Below w.heap.size w ((w.alloc o1).alloc o2)) := fun o1 o2 => (below_alloc _ _).alloc (by simp) _
  have HO2 : Hid (∀ o1 o2 : Obj, ((w.alloc o1).alloc o2).ownsRow base 78 7 (.slice (some ⟨g, 0, none⟩) (i + m + 1) cap) (i + m + 1) (cellsI L)) := fun o1 o2 => own_below HO.out (two.out o1 o2)
  go_enter Try.func166, Try.ntmps166
  go_wp2_with (go_at_call 168; refine (delete_any base g i m cap (cellsI L) _ (HO2.out _ _) (cellsI_one L HN.out) hs').mono ?_; rintro e w1 ⟨rfl, ho1, hg1⟩; obtain ⟨a0, a1, a2, a3, a4⟩ := (((Blk.new w _ 76).alloc _).same (hg1.block w.heap.size (by simp; omega) (by simp; omega))).b3; obtain ⟨b0, b1, b2, b3, b4⟩ := ((Blk.new (w.alloc _) _ 76).same (hg1.block _ (by simp) (by simp; omega))).b3; simp only [World.size_alloc] at b0 b1 b2 b3 b4)
  refine bodyPost_ret (v := .agg #[.string name, .int .i64 limit, .slice (some ⟨g, 0, none⟩) (i + m) cap]) (by simp [results, Try.results166, go_sem, *]; done) rfl ⟨_, rfl, ⟨L.eraseIdx i, ?_, ?_, fun x hx => ?_⟩, ?_⟩
  · rw [List.eraseIdx_eq_take_drop_succ, List.eraseIdx_eq_take_drop_succ]; simp
  · have hl : (L.eraseIdx i).length = i + m := by
      have := HM.out
      rw [List.length_eraseIdx_of_lt (by omega)]; omega
    rw [hl, List.eraseIdx_eq_take_drop_succ, cellsI_append, ← cellsI_take L i (by have := HM.out; omega), ← cellsI_drop L (i + 1) (by have := HM.out; omega)]
    iterate 4 refine own_far ?_ (by simp [Value.ownBlock]; omega) _
    exact ho1
  · refine (HN.out x (List.mem_of_mem_eraseIdx hx)).sub fun b hb => ?_
    have hb3 := hb.2.2
    have hz := hg1.size
    simp at hz
    refine ⟨⟨hb.1, by simp; omega, hb3⟩, ?_⟩
    iterate 4 rw [Below.heap_setCell _ _ _ _ (by simp; omega)]
    rw [hg1.block b (by simp; omega) (fun e => hb3 (by rw [e]; rfl))]
    exact (two.out _ _).block b hb.2.1
  · have t := two.out (.cells #[.string name, .int .i64 limit, .slice (some ⟨g, 0, none⟩) (i + m + 1) cap] 76) (.cells #[.string ByteArray.empty, .int .i64 0, .slice none 0 0] 76)
    refine ⟨hg1.os.trans t.os, hg1.tape.trans t.tape, hg1.output.trans t.output, ?_, fun b hb hne => ?_⟩
    · have hz := hg1.size
      simp at hz ⊢; omega
    · iterate 4 rw [Below.heap_setCell _ _ _ _ (by simp; omega)]
      rw [hg1.block b (by simp; omega) (by simpa [Value.ownBlock] using hne)]
      exact t.block b hb
end Go.Proofs.Ytkddkpdfeeikhaa

/-
  The closures that change one item; queue.changed.
-/
namespace Go.Proofs.Ytkddkpdfeeikhaa
open Go.RowKit
set_option linter.unusedVariables false
set_option linter.unusedSimpArgs false

attribute [local go_sem ↓] Go.wp_at_zero Go.wp_at_succ

theorem enter18 (args : Array Value) (W : World) : (callFunc 155 args).run Try.prog W = .ok (.enter 155 args) W := by go_simp
theorem enter20 (args : Array Value) (W : World) : (callFunc 165 args).run Try.prog W = .ok (.enter 165 args) W := by go_simp

/-- A row of items. -/
def RowIs (w : World) (g : Nat) (cs : List Value) : Prop := w.heap[g]? = some (.cells cs.toArray 78 (0, 0))

theorem RowIs.cell {w : World} {g : Nat} {cs : List Value} (h : RowIs w g cs) (o : Nat) : w.cell? ⟨g, o, none⟩ = cs[o]? := by
  rw [cell_of_row w g o _ 78 (0, 0) h]; simp
theorem RowIs.f {w : World} {g : Nat} {cs : List Value} (h : RowIs w g cs) (o : Nat) : w.frozen? ⟨g, o, none⟩ = false := by
  unfold RowIs at h
  simp [World.frozen?, h]
theorem RowIs.set {w : World} {g : Nat} {cs : List Value} (h : RowIs w g cs) (o : Nat) (v : Value) : RowIs (w.setCell ⟨g, o, none⟩ v) g (cs.set o v) := by
  unfold RowIs at h ⊢
  simp [World.setCell, Array.getElem?_modify, h]
theorem RowIs.drew {w : World} {g : Nat} {cs : List Value} (h : RowIs w g cs) : RowIs w.drew g cs := h
theorem RowIs.lt {w : World} {g : Nat} {cs : List Value} (h : RowIs w g cs) : g < w.heap.size := (Array.getElem?_eq_some_iff.1 h).1

/-- One item of the row, at off. -/
def ItemAt (cs : List Value) (off : Nat) (it : IT) (p : Value × Value) : Prop := ∀ j, j < 7 → cs[off + j]? = (it.cells p)[j]?

theorem ItemAt.lt {cs : List Value} {off : Nat} {it : IT} {p : Value × Value} (h : ItemAt cs off it p) : off + 7 ≤ cs.length := by
  have := h 6 (by omega)
  have := (List.getElem?_eq_some_iff.1 this).1
  omega

def IT.fits (i : IT) : Prop := (0 ≤ i.turn ∧ i.turn ≤ 1000000000) ∧ (0 ≤ i.tries ∧ i.tries ≤ 1000000000)

def takeI (now : Int) (i : IT) : IT := { i with turn := i.turn + 1, out := true, due := now + 5 }
def backI (i : IT) : IT := { i with tries := i.tries + 1, out := false, due := 0 }

/-- A function that changes an item in its place. -/
def Changes (B : Nat) (w0 : World) (F : Nat) (caps : List Value) (f : IT → IT) : Prop :=
  (∀ args W, (callFunc F args).run Try.prog W = .ok (.enter F args) W) ∧ ∀ (g off : Nat) (cs : List Value) (it : IT) (p : Value × Value) (W : World), it.fits → Below B w0 W → B ≤ g → RowIs W g cs → ItemAt cs off it p →
    Calls Try.prog F (Value.pointer (some ⟨g, off, none⟩) :: caps).toArray W fun e w' => e = .returned (.tuple #[]) ∧ (∃ cs', RowIs w' g cs' ∧ cs'.length = cs.length ∧ ItemAt cs' off (f it) p ∧ ∀ k, (k < off ∨ off + 7 ≤ k) → cs'[k]? = cs[k]?) ∧ Keep (fun b => b ≠ g) W w'

set_option maxHeartbeats 1000000 in
theorem take_changes (B : Nat) (w0 : World) (c : Nat) (now : Int) (hc : Blk w0 c [.int .i64 now]) (hl : c < B) (hn : 0 ≤ now ∧ now ≤ 1000000000) : Changes B w0 155 [.pointer (some ⟨c, 0, none⟩)] (takeI now) := by
  refine ⟨enter18, fun g off cs it p W hfit hb hg hrow hit => ?_⟩
  obtain ⟨c0, c1, c2⟩ := (hc.below hb hl).b1
  obtain ⟨⟨f1, f2⟩, -⟩ := hfit
  have i1 : W.cell? ⟨g, off + 1, none⟩ = some (.int .i64 it.turn) := (hrow.cell _).trans (hit 1 (by omega))
  have i3 : W.cell? ⟨g, off + 3, none⟩ = some (.bool it.out) := (hrow.cell _).trans (hit 3 (by omega))
  have i4 : W.cell? ⟨g, off + 4, none⟩ = some (.int .i64 it.due) := (hrow.cell _).trans (hit 4 (by omega))
  have ff := hrow.f
  have hne : c ≠ g := by omega
  have HR : Hid (RowIs W g cs) := hrow
  have HI : Hid (ItemAt cs off it p) := hit
  clear hrow hit
  go_enter Try.func155, Try.ntmps155
  go_wp2
  go_region
  go_wp2
  go_end0
  have hl := HI.out.lt
  refine ⟨rfl, ⟨_, ((HR.out.set _ _).set _ _).set _ _, by simp, fun j hj => ?_, fun k hk => ?_⟩, ?_⟩
  · have hj' := HI.out j hj
    have : j = 0 ∨ j = 1 ∨ j = 2 ∨ j = 3 ∨ j = 4 ∨ j = 5 ∨ j = 6 := by omega
    rcases this with rfl | rfl | rfl | rfl | rfl | rfl | rfl
    all_goals
      simp only [List.getElem?_set, List.length_set]
      simp only [IT.cells, List.getElem?_cons_zero, List.getElem?_cons_succ, takeI] at hj' ⊢
      simp
      first | exact hj' | omega | rfl
  · simp only [List.getElem?_set, List.length_set]
    repeat rw [if_neg (by omega)]
  · refine ⟨rfl, rfl, rfl, by simp, fun b hb => ?_⟩
    show (((W.setCell _ _).setCell _ _).setCell _ _).heap[b]? = _
    iterate 3 rw [Below.heap_setCell _ _ _ _ (by simpa using hb)]

set_option maxHeartbeats 1000000 in
theorem back_changes (B : Nat) (w0 : World) : Changes B w0 165 [] backI := by
  refine ⟨enter20, fun g off cs it p W hfit hb hg hrow hit => ?_⟩
  obtain ⟨-, f1, f2⟩ := hfit
  have i2 : W.cell? ⟨g, off + 2, none⟩ = some (.int .i64 it.tries) := (hrow.cell _).trans (hit 2 (by omega))
  have i3 : W.cell? ⟨g, off + 3, none⟩ = some (.bool it.out) := (hrow.cell _).trans (hit 3 (by omega))
  have i4 : W.cell? ⟨g, off + 4, none⟩ = some (.int .i64 it.due) := (hrow.cell _).trans (hit 4 (by omega))
  have ff := hrow.f
  have HR : Hid (RowIs W g cs) := hrow
  have HI : Hid (ItemAt cs off it p) := hit
  clear hrow hit
  go_enter Try.func165, Try.ntmps165
  go_wp2
  go_end0
  have hl := HI.out.lt
  refine ⟨rfl, ⟨_, ((HR.out.set _ _).set _ _).set _ _, by simp, fun j hj => ?_, fun k hk => ?_⟩, ?_⟩
  · have hj' := HI.out j hj
    have : j = 0 ∨ j = 1 ∨ j = 2 ∨ j = 3 ∨ j = 4 ∨ j = 5 ∨ j = 6 := by omega
    rcases this with rfl | rfl | rfl | rfl | rfl | rfl | rfl
    all_goals
      simp only [List.getElem?_set, List.length_set]
      simp only [IT.cells, List.getElem?_cons_zero, List.getElem?_cons_succ, backI] at hj' ⊢
      simp
      first | exact hj' | omega | rfl
  · simp only [List.getElem?_set, List.length_set]
    repeat rw [if_neg (by omega)]
  · refine ⟨rfl, rfl, rfl, by simp, fun b hb => ?_⟩
    show (((W.setCell _ _).setCell _ _).setCell _ _).heap[b]? = _
    iterate 3 rw [Below.heap_setCell _ _ _ _ (by simpa using hb)]

theorem cellsI_at' (L : ItL) (k j : Nat) (hk : k < L.length) (hj : j < 7) : (cellsI L)[k * 7 + j]? = (L[k].1.cells L[k].2)[j]? := cellsI_at L k j hk hj

/-- The row of items, and one of them. -/
theorem own_row {w : World} {base n cap g : Nat} {L : ItL} (h : w.ownsRow base 78 7 (.slice (some ⟨g, 0, none⟩) n cap) n (cellsI L)) (hn : n = L.length) (i : Nat) (hi : i < L.length) :
    ∃ cs, RowIs w g cs ∧ cs.take (n * 7) = cellsI L ∧ cs.length = cap * 7 ∧ n ≤ cap ∧ cap ≤ maxLen ∧ base ≤ g ∧ ItemAt cs (i * 7) L[i].1 L[i].2 := by
  rcases h.2 with ⟨e, -⟩ | ⟨g', cap', cur, e, hb, hg, hnc, hcm, hcs, hx⟩
  · simp at e
  simp only [Value.slice.injEq, Option.some.injEq, Addr.mk.injEq, and_true, true_and] at e
  obtain ⟨rfl, rfl⟩ := e
  refine ⟨cur.toList, by simpa [RowIs] using hg, hx, by simpa using hcs, hnc, hcm, hb, fun j hj => ?_⟩
  rw [← cellsI_at L i j hi hj, ← hx, List.getElem?_take, if_pos (by omega)]

theorem own_changed {w' : World} {base n cap g : Nat} {L : ItL} {cs cs' : List Value} {i : Nat} (hi : i < L.length) (hn : n = L.length) (it : IT) (hx : cs.take (n * 7) = cellsI L) (hcs : cs.length = cap * 7) (hnc : n ≤ cap) (hcm : cap ≤ maxLen) (hb : base ≤ g)
    (hr : RowIs w' g cs') (hl : cs'.length = cs.length) (hit : ItemAt cs' (i * 7) it L[i].2) (hk : ∀ k, (k < i * 7 ∨ i * 7 + 7 ≤ k) → cs'[k]? = cs[k]?) :
    w'.ownsRow base 78 7 (.slice (some ⟨g, 0, none⟩) n cap) n (cellsI (L.set i (it, L[i].2))) := by
  refine ⟨by rw [cellsI_len]; simp [hn], .inr ⟨g, cap, cs'.toArray, rfl, hb, hr, hnc, hcm, by simp [hl, hcs], ?_⟩⟩
  apply List.ext_getElem?
  intro k
  by_cases hkn : k < n * 7
  · rw [List.toList_toArray, List.getElem?_take, if_pos hkn]
    have hq : k / 7 < L.length := by omega
    have hke : k = k / 7 * 7 + k % 7 := by omega
    have := cellsI_at (L.set i (it, L[i].2)) (k / 7) (k % 7) (by simpa using hq) (by omega)
    rw [← hke] at this
    rw [this]
    by_cases hki : k / 7 = i
    · have h1 := hit (k % 7) (by omega)
      have : i * 7 + k % 7 = k := by omega
      rw [this] at h1
      rw [h1]
      simp [hki]
    · rw [hk k (by omega)]
      have h2 := cellsI_at L (k / 7) (k % 7) hq (by omega)
      rw [← hke, ← hx, List.getElem?_take, if_pos hkn] at h2
      rw [h2, List.getElem_set_ne (by omega)]
  · rw [List.getElem?_eq_none (by simp; omega), List.getElem?_eq_none (by rw [cellsI_len]; simp; omega)]

theorem own_at {w : World} {base : Nat} {v : Value} {L : ItL} (h : w.ownsRow base 78 7 v L.length (cellsI L)) {i : Nat} (hi : i < L.length) : ∃ g cap, v = .slice (some ⟨g, 0, none⟩) L.length cap := by
  rcases h.2 with ⟨_, h0⟩ | ⟨g, cap, cur, e, -⟩
  · omega
  · exact ⟨g, cap, e⟩

set_option maxRecDepth 100000 in
set_option maxHeartbeats 3200000 in
theorem changed_any (F : Nat) (caps : List Value) (f : IT → IT) (v : Value) (name : ByteArray) (limit : Int) (its : List IT) (i : Nat) (hi : i < its.length) (w : World) (hv : SliceI (Under w.heap.size) w v its) (hs : smallI its) (hfit : (its[i]).fits) (hfn : (f its[i]).note = its[i].note) (hF : Changes w.heap.size w F caps f) :
    Calls Try.prog 154 #[.agg #[.string name, .int .i64 limit, v], .int .i64 i, .func (.func F) #[] caps.toArray] w fun e w' => ∃ vi q, e = .returned (.tuple #[.agg #[.string name, .int .i64 limit, vi], (f its[i]).val q]) ∧ OwnI w.heap.size w' vi (its.set i (f its[i])) ∧ NoteIs (fun b => w.heap.size ≤ b ∧ b < w'.heap.size ∧ vi.ownBlock ≠ some b) w' q its[i].note ∧ Below w.heap.size w w' := by
  have HV : Hid (SliceI (Under w.heap.size) w v its) := hv
  have HS : Hid (smallI its) := hs
  have HF : Hid (Changes w.heap.size w F caps f) := hF
  have hE := hF.1
  have hsm := hs.2 its[i] (List.getElem_mem hi)
  have hlen := hs.1
  obtain ⟨va, vc, n0, rfl⟩ : ∃ va vc n0, v = .slice va n0 vc := by
    obtain ⟨L, -, h1, -⟩ := hv
    obtain ⟨a, c, rfl, -⟩ := h1.shape
    exact ⟨a, c, _, rfl⟩
  clear hv hs hF
  have three : Hid (∀ o1 o2 o3 : Obj, Below w.heap.size w (((w.alloc o1).alloc o2).alloc o3)) := fun o1 o2 o3 => ((below_alloc _ _).alloc (by simp) _).alloc (by simp; omega) _
  go_enter Try.func154, Try.ntmps154
  go_wp2_with (first
    | (go_at_call 87; refine (own_any _ name limit its _ (HV.out.sub fun k hk => ⟨?_, (three.out _ _ _).block k hk⟩) HS.out).mono ?_; (simp [Under] at hk ⊢; omega); rintro e w1 ⟨vi, rfl, ⟨L, hL, ho1, hn1⟩, hb1⟩; have hiL : i < L.length := (by rw [← hL] at hi; simpa using hi); obtain ⟨g, cap, rfl⟩ := own_at ho1 hiL; have hLi : L[i].1 = its[i] := (by subst hL; simp); obtain ⟨cs, hrow, hx, hcs, hnc, hcm, hbg, hit⟩ := own_row ho1 rfl i hiL; have hgl := hrow.lt; rw [hLi] at hit; simp only [World.size_alloc] at hbg; have hz1 := hb1.size; simp only [World.size_alloc] at hz1; have HIT : Hid (ItemAt cs (i * 7) its[i] L[i].2) := hit; have hrow1 : ∀ o, RowIs (w1.alloc o) g cs := (fun o => (Below.heap_alloc _ _ _ hgl).trans hrow); have HRW : Hid (∀ o, RowIs (w1.alloc o) g cs) := hrow1; have hLn : L.length ≤ 4194304 := (by have := congrArg List.length hL; simp at this; omega); have HN1 : Hid _ := hn1; have HX : Hid (cs.take (L.length * 7) = cellsI L ∧ cs.length = cap * 7 ∧ L.length ≤ cap ∧ cap ≤ maxLen ∧ L.map Prod.fst = its ∧ L[i].1 = its[i]) := ⟨hx, hcs, hnc, hcm, hL, hLi⟩; have HB1 : Hid (Below w.heap.size w w1) := (three.out _ _ _).trans (hb1.mono (by simp; omega)); have hblk1 := ((Blk.new ((w.alloc _)) _ 76).alloc _).below hb1 (by simp); have hblk2 := (Blk.new ((w.alloc _).alloc _) _ 78).below hb1 (by simp); simp only [World.size_alloc] at hblk1 hblk2; clear ho1 hn1 hit hrow hrow1 hb1 hx hcs hnc hcm hL hLi)
    | ((with_reducible show Calls Try.prog F _ _ _); refine (HF.out.2 g (i * 7) cs its[i] L[i].2 _ hfit (HB1.out.trans ((below_alloc _ _).mono (by omega))) (by omega) (HRW.out _) HIT.out).mono ?_; rintro e w2 ⟨rfl, ⟨cs', hrow', hlen', hit', hrest⟩, hk2⟩; obtain ⟨y0, y1, y2, y3, y4⟩ := ((Blk.new w1 _ 76).same (hk2.block w1.heap.size (by omega))).b3; have hb1' := (hblk1.alloc _).same (hk2.block _ (by omega)); have hb2' := (hblk2.alloc _).same (hk2.block _ (by omega)); obtain ⟨z0, z1, z2, z3, z4⟩ := hb1'.b3; obtain ⟨⟨x0, x1, x2, x3⟩, ⟨x4, x5, x6⟩, x7, x8⟩ := hb2'.b7; have HZ : Hid _ := And.intro hb1' (And.intro hb2' ((Blk.new w1 _ 76).same (hk2.block w1.heap.size (by omega)))); clear hblk1 hblk2 hb1' hb2'))
  have hnL := HN1.out L[i] (List.getElem_mem hiL)
  obtain ⟨pa, pc, e1, -⟩ := SliceV.shape hnL.1
  obtain ⟨qa, qc, e2, -⟩ := SliceV.shape hnL.2
  obtain ⟨it2, hit2⟩ : ∃ it2, it2 = f its[i] := ⟨_, rfl⟩
  rw [← hit2] at hit' hfn
  have HIT2 : Hid (it2 = f its[i]) := hit2
  have HFN : Hid (it2.note = its[i].note) := hfn
  have HU : Hid (∀ b, b < w1.heap.size → b ≠ g → w2.heap[b]? = w1.heap[b]?) := fun b hb hn => (hk2.block b hn).trans (Below.heap_alloc _ _ _ hb)
  have hz2 : w1.heap.size + 1 ≤ w2.heap.size := by have := hk2.size; simpa using this
  have HN2 : Hid (NoteIs (Under w2.heap.size) w2 (.slice pa L[i].1.note.props.length pc, .slice qa L[i].1.note.body.length qc) it2.note) := by
    rw [← e1, ← e2, hfn, ← HX.out.2.2.2.2.2]
    refine hnL.sub fun b hb => ⟨?_, HU.out b hb.2.1 (fun e => hb.2.2 (by rw [e]; rfl))⟩
    show b < _
    have := hb.2.1; omega
  have r0 : w2.cell? ⟨g, i * 7, none⟩ = some (.int .i64 it2.id) := (hrow'.cell _).trans (hit' 0 (by omega))
  have r1 : w2.cell? ⟨g, i * 7 + 1, none⟩ = some (.int .i64 it2.turn) := (hrow'.cell _).trans (hit' 1 (by omega))
  have r2 : w2.cell? ⟨g, i * 7 + 2, none⟩ = some (.int .i64 it2.tries) := (hrow'.cell _).trans (hit' 2 (by omega))
  have r3 : w2.cell? ⟨g, i * 7 + 3, none⟩ = some (.bool it2.out) := (hrow'.cell _).trans (hit' 3 (by omega))
  have r4 : w2.cell? ⟨g, i * 7 + 4, none⟩ = some (.int .i64 it2.due) := (hrow'.cell _).trans (hit' 4 (by omega))
  have r5 : w2.cell? ⟨g, i * 7 + 5, none⟩ = some (.slice pa L[i].1.note.props.length pc) := ((hrow'.cell _).trans (hit' 5 (by omega))).trans (by rw [← e1]; rfl)
  have r6 : w2.cell? ⟨g, i * 7 + 6, none⟩ = some (.slice qa L[i].1.note.body.length qc) := ((hrow'.cell _).trans (hit' 6 (by omega))).trans (by rw [← e2]; rfl)
  have HSM : Hid it2.note.small := by rw [hfn]; exact hsm
  have HO2 : Hid (w2.ownsRow w.heap.size 78 7 (.slice (some ⟨g, 0, none⟩) L.length cap) L.length (cellsI (L.set i (it2, L[i].2)))) := own_changed hiL rfl it2 HX.out.1 HX.out.2.1 HX.out.2.2.1 HX.out.2.2.2.1 (by omega) hrow' hlen' hit' hrest
  have HB2 : Hid (Below w.heap.size w w2) := HB1.out.trans ⟨hk2.os, hk2.tape, hk2.output, by omega, fun b hb => HU.out b (by omega) (by omega)⟩
  clear hrow' hlen' hit' hrest hk2 hnL HIT HRW e1 e2
  clear hit2 hfn
  go_region_law (first
    | (go_simp; go_at_call 130; refine (ownItem_any _ _ it2 HSM.out _ ?_).mono ?_; (exact HN2.out.sub fun b hb => ⟨hb, rfl⟩); rintro e w3 ⟨⟨q1, q2⟩, rfl, hn3, hb3⟩; obtain ⟨xa, xc, rfl, -⟩ := SliceV.shape hn3.1; obtain ⟨ya, yc, rfl, -⟩ := SliceV.shape hn3.2; have hb3' : Below w2.heap.size w2 w3 := ⟨hb3.os, hb3.tape, hb3.output, hb3.size, hb3.block⟩; obtain ⟨u0, u1, u2, u3, u4⟩ := (HZ.out.2.2.below hb3' (by omega)).b3; obtain ⟨v0, v1, v2, v3, v4⟩ := (HZ.out.1.below hb3' (by omega)).b3; obtain ⟨⟨t0, t1, t2, t3⟩, ⟨t4, t5, t6⟩, t7, t8⟩ := (HZ.out.2.1.below hb3' (by omega)).b7; have hn3' : NoteIs (Made w2.heap.size w3.heap.size) w3 (.slice xa it2.note.props.length xc, .slice ya it2.note.body.length yc) it2.note := hn3; clear hn3 hb3; simp only [IT.val]))
  all_goals go_wp2
  all_goals
    refine bodyPost_ret (v := .tuple #[.agg #[.string name, .int .i64 limit, .slice (some ⟨g, 0, none⟩) L.length cap], .agg #[.int .i64 it2.id, .int .i64 it2.turn, .int .i64 it2.tries, .bool it2.out, .int .i64 it2.due, .slice xa it2.note.props.length xc, .slice ya it2.note.body.length yc]]) (by simp [results, Try.results154, go_sem, *]; done) rfl ?_
    rw [← HIT2.out]
    have hbk : ∀ b, b ≠ w.heap.size + 1 → b ≠ w.heap.size + 1 + 1 → b < w1.heap.size → b ≠ g → w3.heap[b]? = w1.heap[b]? := fun b _ _ h3 h4 => (hb3'.block b (by omega)).trans (HU.out b h3 h4)
    refine ⟨_, (.slice xa it2.note.props.length xc, .slice ya it2.note.body.length yc), rfl, ⟨L.set i (it2, L[i].2), ?_, ?_, fun x hx => ?_⟩, ?_, ?_⟩
    · rw [List.map_set, HX.out.2.2.2.2.1]
    · rw [List.length_set]
      iterate 10 refine own_far ?_ (by simp [Value.ownBlock]; omega) _
      exact own_below HO2.out hb3'
    · rcases List.mem_or_eq_of_mem_set hx with hx | rfl
      · refine (HN1.out x hx).sub fun b hb => ?_
        obtain ⟨h1, h2, h3⟩ := hb
        simp only [World.size_alloc] at h1
        refine ⟨⟨by omega, by simp; have := hb3'.size; omega, h3⟩, ?_⟩
        iterate 10 rw [Below.heap_setCell _ _ _ _ (by simp; omega)]
        exact hbk b (by omega) (by omega) h2 (fun e => h3 (by rw [e]; rfl))
      · have hnL := HN1.out L[i] (List.getElem_mem hiL)
        rw [HX.out.2.2.2.2.2, ← HFN.out] at hnL
        refine hnL.sub fun b hb => ?_
        obtain ⟨h1, h2, h3⟩ := hb
        simp only [World.size_alloc] at h1
        refine ⟨⟨by omega, by simp; have := hb3'.size; omega, h3⟩, ?_⟩
        iterate 10 rw [Below.heap_setCell _ _ _ _ (by simp; omega)]
        exact hbk b (by omega) (by omega) h2 (fun e => h3 (by rw [e]; rfl))
    · rw [← HFN.out]
      refine hn3'.sub fun b hb => ?_
      obtain ⟨h1, h2⟩ := hb
      refine ⟨⟨by omega, by simpa using h2, by simp [Value.ownBlock]; omega⟩, ?_⟩
      iterate 10 rw [Below.heap_setCell _ _ _ _ (by simp; omega)]
    · iterate 10 refine Below.setCell ?_ (by simp <;> omega) _
      exact HB2.out.trans (hb3'.mono (by omega))
end Go.Proofs.Ytkddkpdfeeikhaa
