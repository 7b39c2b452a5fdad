/-
  slices.Delete takes one item out of a row of one's own; queue.without.
-/
import Derived.Test.YtpehkoompadpaaaKept
import Derived.Lib.SliceRun
namespace Go.Proofs.Ytpehkoompadpaaa
open Go.RowKit
set_option linter.unusedVariables false
set_option linter.unusedSimpArgs false

attribute [local go_sem ↓] Go.wp_at_zero Go.wp_at_succ

theorem step_run {w : World} {ops : Array Oper} {o : Oper} {a : Act} {Q : Exit → Act → World → Prop} {K : Act → World → Prop} {E : Prop} {t u : TypeId} {v1 v2 v' : Value} {w' : World} (hgd : o.guard = none) (s x : Operand) (ho : o.op = .call { callee := .builtin .append, args := #[s, x], argTypes := #[t, u] }) (hs : a.eval s = v1) (hx : a.eval x = v2)
    (hr : (Builtin.append_ #[t, u] o.type #[v1, v2]).run Try.prog w = .ok v' w') (h : K (a.put o.dst v') w') : if Region.wanted o (yielded ops a.tmps) = true then Oper.wp Try.prog o a w K Q else E := by
  have hw : Region.wanted o (yielded ops a.tmps) = true := by simp [Region.wanted, hgd]
  rw [if_pos hw]
  exact wp_app_of s x ho hs hx hr h

theorem zero34 (w : World) : (zeroValue 48).run Try.prog w = .ok (.agg #[.int .i64 0, .int .i64 0, .int .i64 0, .bool false, .int .i64 0, .slice none 0 0, .slice none 0 0]) w := by kernel_rfl

def zero7 : List Value := [.int .i64 0, .int .i64 0, .int .i64 0, .bool false, .int .i64 0, .slice none 0 0, .slice none 0 0]

theorem run_clear7 (w : World) (ty : TypeId) (g off c : Nat) (cur : Array Value) (hg : w.heap[g]? = some (.cells cur 48 (0, 0))) (hf : off + 7 ≤ cur.size) :
    (Builtin.clear_ #[69] ty #[.slice (some ⟨g, off, none⟩) 1 c]).run Try.prog w = .ok (.tuple #[]) (w.setRow g (cur.toList.take off ++ zero7 ++ cur.toList.drop (off + 7)).toArray) := by
  have hst := run_storeCells_at Try.prog g off 48 zero7 0 cur w hg (by simpa [zero7] using hf) (by simp [zero7, Value.oneCell'])
  simp only [Nat.add_zero] at hst
  have hz : (Builtin.zeroCells (Value.agg #[.int .i64 0, .int .i64 0, .int .i64 0, .bool false, .int .i64 0, .slice none 0 0, .slice none 0 0]).cells 1).toList = zero7 := by simp [Builtin.zeroCells, Value.cells, zero7]; rfl
  simp [Builtin.clear_, run_underlying Try.underlying69, zero34, hz, hst]
  simp [zero7]

/-- The row without one element. -/
theorem del_list {α : Type} (cs xs z : List α) (i m : Nat) (hx : cs.take ((i + m + 1) * 7) = xs) (hl : xs.length = (i + m + 1) * 7) (hz : z.length = 7) :
    let c1 := cs.take (i * 7) ++ xs.drop ((i + 1) * 7) ++ cs.drop (i * 7 + (xs.drop ((i + 1) * 7)).length)
    let c2 := c1.take ((i + m) * 7) ++ z ++ c1.drop ((i + m) * 7 + 7)
    c1.length = cs.length ∧ c2.length = cs.length ∧ c2.take ((i + m) * 7) = xs.take (i * 7) ++ xs.drop ((i + 1) * 7) := by
  have hcl : (i + m + 1) * 7 ≤ cs.length := by
    rw [← hx, List.length_take] at hl; omega
  have e1 : cs.take (i * 7) = xs.take (i * 7) := by
    rw [← hx, List.take_take]; congr 1; omega
  have l1 : (xs.drop ((i + 1) * 7)).length = m * 7 := by simp [hl]; omega
  intro c1 c2
  have hc1 : c1.length = cs.length := by simp only [c1, List.length_append, List.length_take, List.length_drop, hl]; omega
  have ht : c1.take ((i + m) * 7) = xs.take (i * 7) ++ xs.drop ((i + 1) * 7) := by
    simp only [c1, e1]
    rw [List.take_append_of_le_length (by simp [hl]; omega), List.take_of_length_le (by simp [hl]; omega)]
  refine ⟨hc1, ?_, ?_⟩
  · simp only [c2, List.length_append, List.length_take, List.length_drop, hc1, hz]; omega
  · simp only [c2]
    rw [List.append_assoc, List.take_append_of_le_length (by simp [hc1]; omega), List.take_take, Nat.min_self, ht]

set_option maxRecDepth 100000 in
set_option maxHeartbeats 3200000 in
theorem delete_any (base g i m cap : Nat) (xs : List Value) (w : World) (h : w.ownsRow base 48 7 (.slice (some ⟨g, 0, none⟩) (i + m + 1) cap) (i + m + 1) xs) (h1 : ∀ u ∈ xs, u.oneCell' = true) (hn : i + m + 1 ≤ 1000) :
    Calls Try.prog 135 #[.slice (some ⟨g, 0, none⟩) (i + m + 1) cap, .int .i64 i, .int .i64 (i + 1)] w fun e w' => e = .returned (.slice (some ⟨g, 0, none⟩) (i + m) cap) ∧
      w'.ownsRow base 48 7 (.slice (some ⟨g, 0, none⟩) (i + m) cap) (i + m) (xs.take (i * 7) ++ xs.drop ((i + 1) * 7)) ∧ w.grownBy w' (some g) := by
  obtain ⟨i0, hi0, hz0, hz1, hz2⟩ := info_parts info34
  obtain ⟨hl, hr⟩ := h
  rcases hr with ⟨e, -⟩ | ⟨g', cap', cur, e, hb, hg, hnc, hcm, hcs, hx⟩
  · simp at e
  simp only [Value.slice.injEq, Option.some.injEq, Addr.mk.injEq, and_true, true_and] at e
  obtain ⟨rfl, rfl⟩ := e
  obtain ⟨d1, d2, d3⟩ := del_list cur.toList xs zero7 i m hx hl rfl
  obtain ⟨c1, hc1⟩ : ∃ c1, c1 = cur.toList.take (i * 7) ++ xs.drop ((i + 1) * 7) ++ cur.toList.drop (i * 7 + (xs.drop ((i + 1) * 7)).length) := ⟨_, rfl⟩
  obtain ⟨c2, hc2⟩ : ∃ c2, c2 = c1.take ((i + m) * 7) ++ zero7 ++ c1.drop ((i + m) * 7 + 7) := ⟨_, rfl⟩
  rw [← hc1] at d1 d2 d3
  rw [← hc2] at d2 d3
  have hnews : ∀ j u, (xs.drop ((i + 1) * 7))[j]? = some u → w.drew.cell? ((⟨g, (i + 1) * 7, none⟩ : Addr).add j) = some u := by
    intro j u hj
    rw [List.getElem?_drop] at hj
    rw [add_none]
    show w.cell? _ = _
    rw [cell_of_row w g _ _ 48 (0, 0) hg, ← hj, ← hx, List.getElem?_take, if_pos (by have := (List.getElem?_eq_some_iff.1 hj).1; omega)]
    simp
  obtain ⟨A, hA, hnA⟩ : ∃ A : Addr, (if cap = i + 1 then some (⟨g, 0, none⟩ : Addr) else some ⟨g, (i + 1) * 7, none⟩) = some A ∧ ∀ j u, (xs.drop ((i + 1) * 7))[j]? = some u → w.drew.cell? (A.add j) = some u := by
    by_cases hc : cap = i + 1
    · refine ⟨⟨g, 0, none⟩, by simp [hc], fun j u hj => ?_⟩
      have := (List.getElem?_eq_some_iff.1 hj).1
      simp [hl] at this
      omega
    · exact ⟨⟨g, (i + 1) * 7, none⟩, by simp [hc], hnews⟩
  have hrun : ∀ ty, (Builtin.append_ #[69, 69] ty #[.slice (some ⟨g, 0, none⟩) i cap, .slice (some A) m (cap - (i + 1))]).run Try.prog w.drew = .ok (.slice (some ⟨g, 0, none⟩) (i + m) cap) (w.drew.setRow g c1.toArray) := fun ty => by
    have := run_append_room (P := Try.prog) w.drew 69 ty 48 i0 Try.underlying69 hi0 g i cap cur hg A m (cap - (i + 1)) (xs.drop ((i + 1) * 7)) (by rw [hz1]; simp [hl]; omega) hnA (fun u hu => h1 u (List.mem_of_mem_drop hu)) (by omega) (by rw [hz1]; simp [hl, hcs]; omega)
    rw [this, hc1, hz1]
  have hg1 : (w.drew.setRow g c1.toArray).heap[g]? = some (.cells c1.toArray 48 (0, 0)) := setRow_heap w.drew g cur _ 48 _ hg
  obtain ⟨W1, hW1⟩ : ∃ W1, W1 = w.drew.setRow g c1.toArray := ⟨_, rfl⟩
  have HW1 : Hid (W1 = w.drew.setRow g c1.toArray) := hW1
  rw [← hW1] at hrun hg1
  have hcl : ∀ ty, (Builtin.clear_ #[69] ty #[.slice (some ⟨g, (i + m) * 7, none⟩) 1 (cap - (i + m))]).run Try.prog W1 = .ok (.tuple #[]) (W1.setRow g c2.toArray) := fun ty => by
    have := run_clear7 W1 ty g ((i + m) * 7) (cap - (i + m)) c1.toArray hg1 (by simp [d1, hcs]; omega)
    rw [this, hc2]
  have HR : Hid (∀ ty, (Builtin.append_ #[69, 69] ty #[.slice (some ⟨g, 0, none⟩) i cap, .slice (some A) m (cap - (i + 1))]).run Try.prog w.drew = .ok (.slice (some ⟨g, 0, none⟩) (i + m) cap) W1) := hrun
  have HC : Hid (∀ ty, (Builtin.clear_ #[69] ty #[.slice (some ⟨g, (i + m) * 7, none⟩) 1 (cap - (i + m))]).run Try.prog W1 = .ok (.tuple #[]) (W1.setRow g c2.toArray)) := hcl
  have hne : ((i : Int) == (i : Int) + 1) = false := by simp; omega
  have HL : Hid (xs.length = (i + m + 1) * 7) := hl
  clear hrun hW1 hnA hnews hc1 hc2 hcl hx hl h1
  unfold maxLen at hcm
  have hic : i ≤ cap := by omega
  have hic1 : i + 1 ≤ cap := by omega
  have him : i + m ≤ cap := by omega
  have hnn : (0 : Int) ≤ (i : Int) + 1 := by omega
  have hnm : (i : Int) ≤ (i : Int) + (m : Int) := by omega
  have hne2 : ¬ cap = i + m := by omega
  go_enter Try.func135, Try.ntmps135
  go_wp2_with fail
  go_region_law (refine step_run (by rfl) _ _ (by rfl) (by rfl) (by rfl) (HR.out _) ?_)
  all_goals go_wp2_with (simp only [HC.out])
  go_ret
  refine ⟨rfl, ⟨?_, .inr ⟨g, cap, c2.toArray, rfl, hb, setRow_heap W1 g _ _ 48 _ hg1, him, by unfold maxLen; omega, by simp [d2, hcs], by simpa using d3⟩⟩, ?_⟩
  · have := HL.out
    simp [this]; omega
  · have e := HW1.out
    refine ⟨?_, ?_, ?_, ?_, fun k hk hn => ?_⟩
    · rw [e]; rfl
    · rw [e]; rfl
    · rw [e]; rfl
    · rw [e]; simp
    · have hkg : k ≠ g := fun h => hn (by rw [h])
      rw [setRow_other W1 g k _ hkg, e, setRow_other w.drew g k _ hkg]
      rfl

theorem own_far {w : World} {base : Nat} {e : TypeId} {size : Nat} {v : Value} {n : Nat} {xs : List Value} (h : w.ownsRow base e size v n xs) {a : Addr} (ha : v.ownBlock ≠ some a.block) (u : Value) : (w.setCell a u).ownsRow base e size v n xs := by
  refine ⟨h.1, ?_⟩
  rcases h.2 with h1 | ⟨g, cap, cur, e, hb, hg, hr⟩
  · exact .inl h1
  · refine .inr ⟨g, cap, cur, e, hb, (Below.heap_setCell _ _ _ _ (fun e2 => ha ?_)).trans hg, hr⟩
    rw [e, ← e2]; rfl

theorem cellsI_one {S : Nat → Prop} {w : World} (L : ItL) (h : ∀ x ∈ L, NoteIs S w x.2 x.1.note) : ∀ u ∈ cellsI L, u.oneCell' = true := by
  intro u hu
  simp only [cellsI, List.mem_flatMap] at hu
  obtain ⟨x, hx, hu⟩ := hu
  obtain ⟨a, c, e1, -⟩ := SliceV.shape (h x hx).1
  obtain ⟨a', c', e2, -⟩ := SliceV.shape (h x hx).2
  simp only [IT.cells, List.mem_cons, List.not_mem_nil, or_false] at hu
  rcases hu with rfl | rfl | rfl | rfl | rfl | rfl | rfl
  · rfl
  · rfl
  · rfl
  · rfl
  · rfl
  · rw [e1]; rfl
  · rw [e2]; rfl

theorem cellsI_append (A B : ItL) : cellsI (A ++ B) = cellsI A ++ cellsI B := by simp [cellsI]
theorem cellsI_take (L : ItL) (i : Nat) (hi : i ≤ L.length) : (cellsI L).take (i * 7) = cellsI (L.take i) := by
  conv => lhs; rw [← List.take_append_drop i L, cellsI_append]
  rw [List.take_append_of_le_length (by simp [cellsI_len]; omega), List.take_of_length_le (by simp [cellsI_len]; omega)]
theorem cellsI_drop (L : ItL) (i : Nat) (hi : i ≤ L.length) : (cellsI L).drop (i * 7) = cellsI (L.drop i) := by
  conv => lhs; rw [← List.take_append_drop i L, cellsI_append]
  rw [List.drop_append_of_le_length (by simp [cellsI_len]; omega), List.drop_of_length_le (by simp [cellsI_len]; omega)]
  rfl

set_option maxRecDepth 100000 in
set_option maxHeartbeats 3200000 in
theorem without_any (base : Nat) (v : Value) (name : ByteArray) (limit : Int) (its : List IT) (i : Nat) (w : World) (h : OwnI base w v its) (hi : i < its.length) (hs : its.length ≤ 1000) :
    Calls Try.prog 105 #[.agg #[.string name, .int .i64 limit, v], .int .i64 i] w fun e w' => ∃ v', e = .returned (.agg #[.string name, .int .i64 limit, v']) ∧ OwnI base w' v' (its.eraseIdx i) ∧ w.grownBy w' v.ownBlock := by
  obtain ⟨L, e, ho, hn⟩ := h
  subst e
  obtain ⟨m, hm⟩ : ∃ m, L.length = i + m + 1 := ⟨L.length - i - 1, by simp at hi; omega⟩
  have HO : Hid (w.ownsRow base 48 7 v L.length (cellsI L)) := ho
  have HN : Hid (∀ x ∈ L, NoteIs (fun b => base ≤ b ∧ b < w.heap.size ∧ v.ownBlock ≠ some b) w x.2 x.1.note) := hn
  rcases ho.2 with ⟨_, h0⟩ | ⟨g, cap, cur, rfl, hbg, hg, -⟩
  · omega
  have hgl : g < w.heap.size := (Array.getElem?_eq_some_iff.1 hg).1
  have HM : Hid (L.length = i + m + 1) := hm
  rw [hm] at HO
  have hs' : i + m + 1 ≤ 1000 := by simp at hs; omega
  rw [hm]
  clear hn ho hi hs hg hm
  have two : Hid (∀ o1 o2 : Obj, Below w.heap.size w ((w.alloc o1).alloc o2)) := fun o1 o2 => (below_alloc _ _).alloc (by simp) _
  have HO2 : Hid (∀ o1 o2 : Obj, ((w.alloc o1).alloc o2).ownsRow base 48 7 (.slice (some ⟨g, 0, none⟩) (i + m + 1) cap) (i + m + 1) (cellsI L)) := fun o1 o2 => own_below HO.out (two.out o1 o2)
  go_enter Try.func105, Try.ntmps105
  go_wp2_with (go_at_call 135; refine (delete_any base g i m cap (cellsI L) _ (HO2.out _ _) (cellsI_one L HN.out) hs').mono ?_; rintro e w1 ⟨rfl, ho1, hg1⟩; obtain ⟨a0, a1, a2, a3, a4⟩ := (((Blk.new w _ 71).alloc _).same (hg1.block w.heap.size (by simp; omega) (by simp; omega))).b3; obtain ⟨b0, b1, b2, b3, b4⟩ := ((Blk.new (w.alloc _) _ 71).same (hg1.block _ (by simp) (by simp; omega))).b3; simp only [World.size_alloc] at b0 b1 b2 b3 b4)
  refine bodyPost_ret (v := .agg #[.string name, .int .i64 limit, .slice (some ⟨g, 0, none⟩) (i + m) cap]) (by simp [results, Try.results105, go_sem, *]; done) rfl ⟨_, rfl, ⟨L.eraseIdx i, ?_, ?_, fun x hx => ?_⟩, ?_⟩
  · rw [List.eraseIdx_eq_take_drop_succ, List.eraseIdx_eq_take_drop_succ]; simp
  · have hl : (L.eraseIdx i).length = i + m := by
      have := HM.out
      rw [List.length_eraseIdx_of_lt (by omega)]; omega
    rw [hl, List.eraseIdx_eq_take_drop_succ, cellsI_append, ← cellsI_take L i (by have := HM.out; omega), ← cellsI_drop L (i + 1) (by have := HM.out; omega)]
    iterate 4 refine own_far ?_ (by simp [Value.ownBlock]; omega) _
    exact ho1
  · refine (HN.out x (List.mem_of_mem_eraseIdx hx)).sub fun b hb => ?_
    have hb3 := hb.2.2
    have hz := hg1.size
    simp at hz
    refine ⟨⟨hb.1, by simp; omega, hb3⟩, ?_⟩
    iterate 4 rw [Below.heap_setCell _ _ _ _ (by simp; omega)]
    rw [hg1.block b (by simp; omega) (fun e => hb3 (by rw [e]; rfl))]
    exact (two.out _ _).block b hb.2.1
  · have t := two.out (.cells #[.string name, .int .i64 limit, .slice (some ⟨g, 0, none⟩) (i + m + 1) cap] 71) (.cells #[.string ByteArray.empty, .int .i64 0, .slice none 0 0] 71)
    refine ⟨hg1.os.trans t.os, hg1.tape.trans t.tape, hg1.output.trans t.output, ?_, fun b hb hne => ?_⟩
    · have hz := hg1.size
      simp at hz ⊢; omega
    · iterate 4 rw [Below.heap_setCell _ _ _ _ (by simp; omega)]
      rw [hg1.block b (by simp; omega) (by simpa [Value.ownBlock] using hne)]
      exact t.block b hb
end Go.Proofs.Ytpehkoompadpaaa
