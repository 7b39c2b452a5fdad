/-
  SsTag; SsWrong; NtLeaf: texts laid together.
-/
import Derived.Test.YtkddkpdfeeikhaaSsTagProofM10
import Derived.Test.YtkddkpdfeeikhaaRows
import Derived.WalkKit
import Derived.WalkSpells
import Derived.WalkLawsBesides
/-
  Tags: a row of them, session.Own, slices.IndexFunc and slices.Delete of such a row.
-/
namespace Go.Proofs.Ytkddkpdfeeikhaa
open Go.RowKit
set_option linter.unusedVariables false
set_option linter.unusedSimpArgs false

attribute [local go_sem ↓] Go.wp_at_zero Go.wp_at_succ

/-- A tag. -/
structure TD where
  n : Int
  queue : ByteArray
  id : Int
  turn : Int

def TD.cells (t : TD) : List Value := [.int .i64 t.n, .string t.queue, .int .i64 t.id, .int .i64 t.turn]
def cellsT (l : List TD) : List Value := l.flatMap TD.cells
theorem cellsT_len (l : List TD) : (cellsT l).length = l.length * 4 := flat_len _ 4 (fun _ => rfl) l
theorem cellsT_at (l : List TD) (k j : Nat) (hk : k < l.length) (hj : j < 4) : (cellsT l)[k * 4 + j]? = (l[k].cells)[j]? := flat_at _ 4 (fun _ => rfl) l k j hk hj
theorem cellsT_append (a b : List TD) : cellsT (a ++ b) = cellsT a ++ cellsT b := by simp [cellsT]
theorem cellsT_one (l : List TD) : ∀ u ∈ cellsT l, u.oneCell' = true := by
  intro u hu
  simp only [cellsT, List.mem_flatMap, TD.cells, List.mem_cons, List.not_mem_nil, or_false] at hu
  obtain ⟨t, -, hu⟩ := hu
  rcases hu with rfl | rfl | rfl | rfl <;> rfl
theorem cellsT_take (l : List TD) (i : Nat) : (cellsT l).take (i * 4) = cellsT (l.take i) := by
  induction l generalizing i with
  | nil => simp [cellsT]
  | cons t l ih =>
    cases i with
    | zero => simp [cellsT]
    | succ i =>
      have e : cellsT (t :: l) = t.cells ++ cellsT l := by simp [cellsT]
      have e2 : cellsT ((t :: l).take (i + 1)) = t.cells ++ cellsT (l.take i) := by simp [cellsT]
      rw [e, e2, ← ih i, show (i + 1) * 4 = t.cells.length + i * 4 by simp [TD.cells]; omega, List.take_length_add_append]
theorem cellsT_drop (l : List TD) (i : Nat) : (cellsT l).drop (i * 4) = cellsT (l.drop i) := by
  induction l generalizing i with
  | nil => simp [cellsT]
  | cons t l ih =>
    cases i with
    | zero => simp [cellsT]
    | succ i =>
      have e : cellsT (t :: l) = t.cells ++ cellsT l := by simp [cellsT]
      have e2 : (t :: l).drop (i + 1) = l.drop i := rfl
      rw [e, e2, ← ih i, show (i + 1) * 4 = t.cells.length + i * 4 by simp [TD.cells]; omega, List.drop_length_add_append]
theorem cellsT_erase (l : List TD) (i : Nat) : (cellsT l).take (i * 4) ++ (cellsT l).drop ((i + 1) * 4) = cellsT (l.eraseIdx i) := by
  rw [cellsT_take, cellsT_drop, ← cellsT_append, List.eraseIdx_eq_take_drop_succ]

/-- A slice that reads as tags. -/
def SliceT (S : Nat → Prop) (w : World) (v : Value) (ts : List TD) : Prop := SliceV S w v ts.length (cellsT ts)
theorem SliceT.on {W W' : World} {v : Value} {ts : List TD} (h : SliceT (Under W.heap.size) W v ts) (hb : Below W.heap.size W W') : SliceT (Under W'.heap.size) W' v ts := SliceV.sub h fun b h => ⟨Nat.lt_of_lt_of_le h hb.size, hb.block b h⟩

theorem SliceT.at {S : Nat → Prop} {w : World} {a : Option Addr} {n cap : Nat} {ts : List TD} (h : SliceT S w (.slice a n cap) ts) (k : Nat) (hk : k < ts.length) :
    ∃ b off, a = some ⟨b, off, none⟩ ∧ S b ∧ w.cell? ⟨b, off + k * 4, none⟩ = some (.int .i64 ts[k].n) ∧ w.cell? ⟨b, off + k * 4 + 1, none⟩ = some (.string ts[k].queue) ∧ w.cell? ⟨b, off + k * 4 + 2, none⟩ = some (.int .i64 ts[k].id) ∧ w.cell? ⟨b, off + k * 4 + 3, none⟩ = some (.int .i64 ts[k].turn) := by
  obtain ⟨a', cap', e, _, _, _, h3⟩ := h
  simp only [Value.slice.injEq] at e
  obtain ⟨rfl, -, rfl⟩ := e
  have hl := cellsT_len ts
  obtain ⟨b, off, e, hs, -⟩ := h3 (k * 4) (by omega)
  have key : ∀ j, j < 4 → w.cell? ⟨b, off + k * 4 + j, none⟩ = (ts[k].cells)[j]? := by
    intro j hj
    obtain ⟨b', off', e', -, hc⟩ := h3 (k * 4 + j) (by omega)
    rw [e] at e'
    simp only [Option.some.injEq, Addr.mk.injEq, and_true] at e'
    obtain ⟨rfl, rfl⟩ := e'
    rw [Nat.add_assoc, hc, ← cellsT_at ts k j hk hj]
    exact (List.getElem?_eq_getElem _).symm
  exact ⟨b, off, e, hs, key 0 (by omega), key 1 (by omega), key 2 (by omega), key 3 (by omega)⟩

theorem info50 : (Try.prog.info? 50).map (fun i => (i.zero, i.size, i.bytes)) = some (some (.agg #[.int .i64 0, .string ByteArray.empty, .int .i64 0, .int .i64 0]), 4, 40) := by kernel_rfl

set_option maxRecDepth 100000 in
set_option maxHeartbeats 3200000 in
theorem sessOwn_any (v : Value) (nx : Int) (ts : List TD) (w : World) (h : SliceT (Under w.heap.size) w v ts) (hl : ts.length ≤ 3518437208832) :
    Calls Try.prog 68 #[.agg #[v, .int .i64 nx]] w fun e w' => ∃ a c, e = .returned (.agg #[.slice a ts.length c, .int .i64 nx]) ∧ w'.ownsRow w.heap.size 50 4 (.slice a ts.length c) ts.length (cellsT ts) ∧ Below w.heap.size w w' := by
  obtain ⟨i0, hi0, hz0, hz1, hz2⟩ := info_parts info50
  have KT : Hid (SliceT (Under w.heap.size) w v ts) := h
  obtain ⟨va, vc, rfl, -⟩ := SliceV.shape h
  clear h
  have two : Hid (∀ o1 o2 : Obj, Below w.heap.size w ((w.alloc o1).alloc o2)) := fun o1 o2 => (below_alloc _ _).alloc (by simp) _
  obtain ⟨n, hn⟩ : ∃ n, n = ts.length := ⟨_, rfl⟩
  have HCL : Hid ((cellsT ts).length = n * 4) := by rw [hn]; exact cellsT_len ts
  have KT' : Hid (SliceV (Under w.heap.size) w (.slice va n vc) n (cellsT ts)) := by rw [hn]; exact KT.out
  rw [← hn] at hl ⊢
  clear hn KT
  go_enter Try.func68, Try.ntmps68
  go_wp2_with fail
  go_region_held3 (fun w' => w'.cell? ⟨w.heap.size, 0, none⟩ = some (.slice va n vc) ∧ w'.cell? ⟨w.heap.size, 1, none⟩ = some (.int .i64 nx)) (go_keep)
    (first
      | (refine step_appV (by rfl) _ _ 62 (by rfl) 50 i0 _ 4 40 Try.underlying62 hi0 hz0 hz1 hz2 rfl (by omega) (w.heap.size + 2) (.slice none 0 0) 0 [] (by rfl) (World.ownsRow_nil _ _ _ _) (Under w.heap.size) (.slice va n vc) n (cellsT ts) (by rfl) (SliceV.sub KT'.out fun k hk => ⟨hk, (two.out _ _).block k hk⟩) HCL.out (cellsT_one ts) (by unfold maxLen; omega) (by omega) (by simp) ?_; intro ao cap wP hownP hgP hmP; obtain ⟨p1, p2⟩ := bcellx hgP w.heap.size (by simp; omega); obtain ⟨p3, p4⟩ := bcellx hgP (w.heap.size + 1) (by simp); have hzP : w.heap.size + 2 ≤ wP.heap.size := (by have := hgP.size; simpa using this)))
  all_goals
    go_wp2
    have oP : wP.ownsRow (w.heap.size + 2) 50 4 (.slice ao n cap) n (cellsT ts) := by simpa using hownP
    have bel : Below w.heap.size w wP := (two.out (.cells #[.slice va n vc, .int .i64 nx] 64) (.cells #[.slice none 0 0, .int .i64 0] 64)).drew.trans ((nil_below hgP).mono (by simp; omega))
    refine bodyPost_ret (v := .agg #[.slice ao n cap, .int .i64 nx]) (by simp [results, Try.results68, go_sem, *]) rfl ⟨ao, cap, rfl, ?_, (bel.setCell (by simp) _).setCell (by simp) _⟩
    have h2 := (ownsRow_setCell_below (ownsRow_setCell_below oP (a := ⟨w.heap.size + 1, 0, none⟩) (by simp) (.slice ao n cap)) (a := ⟨w.heap.size + 1, 1, none⟩) (by simp) (.int .i64 nx))
    exact own_mono h2 (by omega)
theorem zero50t (w : World) : (zeroValue 50).run Try.prog w = .ok (.agg #[.int .i64 0, .string ⟨#[]⟩, .int .i64 0, .int .i64 0]) w := by kernel_rfl

def zero4t : List Value := [.int .i64 0, .string ⟨#[]⟩, .int .i64 0, .int .i64 0]

theorem run_clear4 (w : World) (ty : TypeId) (g off c : Nat) (cur : Array Value) (hg : w.heap[g]? = some (.cells cur 50 (0, 0))) (hf : off + 4 ≤ cur.size) :
    (Builtin.clear_ #[62] ty #[.slice (some ⟨g, off, none⟩) 1 c]).run Try.prog w = .ok (.tuple #[]) (w.setRow g (cur.toList.take off ++ zero4t ++ cur.toList.drop (off + 4)).toArray) := by
  have hst := run_storeCells_at Try.prog g off 50 zero4t 0 cur w hg (by simpa [zero4t] using hf) (by simp [zero4t, Value.oneCell'])
  simp only [Nat.add_zero] at hst
  have hz : (Builtin.zeroCells (Value.agg #[.int .i64 0, .string ⟨#[]⟩, .int .i64 0, .int .i64 0]).cells 1).toList = zero4t := by simp [Builtin.zeroCells, Value.cells, zero4t]; rfl
  simp [Builtin.clear_, run_underlying Try.underlying62, zero50t, hz, hst]
  simp [zero4t]

/-- The row without one element. -/
theorem del_list4 {α : Type} (cs xs z : List α) (i m : Nat) (hx : cs.take ((i + m + 1) * 4) = xs) (hl : xs.length = (i + m + 1) * 4) (hz : z.length = 4) :
    let c1 := cs.take (i * 4) ++ xs.drop ((i + 1) * 4) ++ cs.drop (i * 4 + (xs.drop ((i + 1) * 4)).length)
    let c2 := c1.take ((i + m) * 4) ++ z ++ c1.drop ((i + m) * 4 + 4)
    c1.length = cs.length ∧ c2.length = cs.length ∧ c2.take ((i + m) * 4) = xs.take (i * 4) ++ xs.drop ((i + 1) * 4) := by
  have hcl : (i + m + 1) * 4 ≤ cs.length := by
    rw [← hx, List.length_take] at hl; omega
  have e1 : cs.take (i * 4) = xs.take (i * 4) := by
    rw [← hx, List.take_take]; congr 1; omega
  have l1 : (xs.drop ((i + 1) * 4)).length = m * 4 := by simp [hl]; omega
  intro c1 c2
  have hc1 : c1.length = cs.length := by simp only [c1, List.length_append, List.length_take, List.length_drop, hl]; omega
  have ht : c1.take ((i + m) * 4) = xs.take (i * 4) ++ xs.drop ((i + 1) * 4) := by
    simp only [c1, e1]
    rw [List.take_append_of_le_length (by simp [hl]; omega), List.take_of_length_le (by simp [hl]; omega)]
  refine ⟨hc1, ?_, ?_⟩
  · simp only [c2, List.length_append, List.length_take, List.length_drop, hc1, hz]; omega
  · simp only [c2]
    rw [List.append_assoc, List.take_append_of_le_length (by simp [hc1]; omega), List.take_take, Nat.min_self, ht]

set_option maxRecDepth 100000 in
set_option maxHeartbeats 3200000 in
theorem deleteT_any (base g i m cap : Nat) (xs : List Value) (w : World) (h : w.ownsRow base 50 4 (.slice (some ⟨g, 0, none⟩) (i + m + 1) cap) (i + m + 1) xs) (h1 : ∀ u ∈ xs, u.oneCell' = true) (hn : i + m + 1 ≤ 3518437208883) :
    Calls Try.prog 121 #[.slice (some ⟨g, 0, none⟩) (i + m + 1) cap, .int .i64 i, .int .i64 (i + 1)] w fun e w' => e = .returned (.slice (some ⟨g, 0, none⟩) (i + m) cap) ∧
      w'.ownsRow base 50 4 (.slice (some ⟨g, 0, none⟩) (i + m) cap) (i + m) (xs.take (i * 4) ++ xs.drop ((i + 1) * 4)) ∧ w.grownBy w' (some g) := by
  obtain ⟨i0, hi0, hz0, hz1, hz2⟩ := info_parts info50
  obtain ⟨hl, hr⟩ := h
  rcases hr with ⟨e, -⟩ | ⟨g', cap', cur, e, hb, hg, hnc, hcm, hcs, hx⟩
  · simp at e
  simp only [Value.slice.injEq, Option.some.injEq, Addr.mk.injEq, and_true, true_and] at e
  obtain ⟨rfl, rfl⟩ := e
  obtain ⟨d1, d2, d3⟩ := del_list4 cur.toList xs zero4t i m hx hl rfl
  obtain ⟨c1, hc1⟩ : ∃ c1, c1 = cur.toList.take (i * 4) ++ xs.drop ((i + 1) * 4) ++ cur.toList.drop (i * 4 + (xs.drop ((i + 1) * 4)).length) := ⟨_, rfl⟩
  obtain ⟨c2, hc2⟩ : ∃ c2, c2 = c1.take ((i + m) * 4) ++ zero4t ++ c1.drop ((i + m) * 4 + 4) := ⟨_, rfl⟩
  rw [← hc1] at d1 d2 d3
  rw [← hc2] at d2 d3
  have hnews : ∀ j u, (xs.drop ((i + 1) * 4))[j]? = some u → w.drew.cell? ((⟨g, (i + 1) * 4, none⟩ : Addr).add j) = some u := by
    intro j u hj
    rw [List.getElem?_drop] at hj
    rw [add_none]
    show w.cell? _ = _
    rw [cell_of_row w g _ _ 50 (0, 0) hg, ← hj, ← hx, List.getElem?_take, if_pos (by have := (List.getElem?_eq_some_iff.1 hj).1; omega)]
    simp
  obtain ⟨A, hA, hnA⟩ : ∃ A : Addr, (if cap = i + 1 then some (⟨g, 0, none⟩ : Addr) else some ⟨g, (i + 1) * 4, none⟩) = some A ∧ ∀ j u, (xs.drop ((i + 1) * 4))[j]? = some u → w.drew.cell? (A.add j) = some u := by
    by_cases hc : cap = i + 1
    · refine ⟨⟨g, 0, none⟩, by simp [hc], fun j u hj => ?_⟩
      have := (List.getElem?_eq_some_iff.1 hj).1
      simp [hl] at this
      omega
    · exact ⟨⟨g, (i + 1) * 4, none⟩, by simp [hc], hnews⟩
  have hrun : ∀ ty, (Builtin.append_ #[62, 62] ty #[.slice (some ⟨g, 0, none⟩) i cap, .slice (some A) m (cap - (i + 1))]).run Try.prog w.drew = .ok (.slice (some ⟨g, 0, none⟩) (i + m) cap) (w.drew.setRow g c1.toArray) := fun ty => by
    have := run_append_room (P := Try.prog) w.drew 62 ty 50 i0 Try.underlying62 hi0 g i cap cur hg A m (cap - (i + 1)) (xs.drop ((i + 1) * 4)) (by rw [hz1]; simp [hl]; omega) hnA (fun u hu => h1 u (List.mem_of_mem_drop hu)) (by omega) (by rw [hz1]; simp [hl, hcs]; omega)
    rw [this, hc1, hz1]
  have hg1 : (w.drew.setRow g c1.toArray).heap[g]? = some (.cells c1.toArray 50 (0, 0)) := setRow_heap w.drew g cur _ 50 _ hg
  obtain ⟨W1, hW1⟩ : ∃ W1, W1 = w.drew.setRow g c1.toArray := ⟨_, rfl⟩
  have HW1 : Hid (W1 = w.drew.setRow g c1.toArray) := hW1
  rw [← hW1] at hrun hg1
  have hcl : ∀ ty, (Builtin.clear_ #[62] ty #[.slice (some ⟨g, (i + m) * 4, none⟩) 1 (cap - (i + m))]).run Try.prog W1 = .ok (.tuple #[]) (W1.setRow g c2.toArray) := fun ty => by
    have := run_clear4 W1 ty g ((i + m) * 4) (cap - (i + m)) c1.toArray hg1 (by simp [d1, hcs]; omega)
    rw [this, hc2]
  have HR : Hid (∀ ty, (Builtin.append_ #[62, 62] ty #[.slice (some ⟨g, 0, none⟩) i cap, .slice (some A) m (cap - (i + 1))]).run Try.prog w.drew = .ok (.slice (some ⟨g, 0, none⟩) (i + m) cap) W1) := hrun
  have HC : Hid (∀ ty, (Builtin.clear_ #[62] ty #[.slice (some ⟨g, (i + m) * 4, none⟩) 1 (cap - (i + m))]).run Try.prog W1 = .ok (.tuple #[]) (W1.setRow g c2.toArray)) := hcl
  have hne : ((i : Int) == (i : Int) + 1) = false := by simp; omega
  have HL : Hid (xs.length = (i + m + 1) * 4) := hl
  clear hrun hW1 hnA hnews hc1 hc2 hcl hx hl h1
  unfold maxLen at hcm
  have hic : i ≤ cap := by omega
  have hic1 : i + 1 ≤ cap := by omega
  have him : i + m ≤ cap := by omega
  have hnn : (0 : Int) ≤ (i : Int) + 1 := by omega
  have hnm : (i : Int) ≤ (i : Int) + (m : Int) := by omega
  have hne2 : ¬ cap = i + m := by omega
  go_enter Try.func121, Try.ntmps121
  go_wp2_with fail
  go_region_law (refine step_run (by rfl) _ _ (by rfl) (by rfl) (by rfl) (HR.out _) ?_)
  all_goals go_wp2_with (simp only [HC.out])
  go_ret
  refine ⟨rfl, ⟨?_, .inr ⟨g, cap, c2.toArray, rfl, hb, setRow_heap W1 g _ _ 50 _ hg1, him, by unfold maxLen; omega, by simp [d2, hcs], by simpa using d3⟩⟩, ?_⟩
  · have := HL.out
    simp [this]; omega
  · have e := HW1.out
    refine ⟨?_, ?_, ?_, ?_, fun k hk hn => ?_⟩
    · rw [e]; rfl
    · rw [e]; rfl
    · rw [e]; rfl
    · rw [e]; simp
    · have hkg : k ≠ g := fun h => hn (by rw [h])
      rw [setRow_other W1 g k _ hkg, e, setRow_other w.drew g k _ hkg]
      rfl

/-- The place of the first tag of this number; else -1. -/
def tagB (n : Int) (t : TD) : Bool := t.n == n
def idxT (n : Int) (ts : List TD) : Int := match ts.findIdx? (tagB n) with
  | some k => (k : Int)
  | none => -1
theorem idxT_yes (n : Int) (ts : List TD) (k : Nat) (hk : k < ts.length) (hn : ∀ x ∈ ts.take k, tagB n x = false) (hp : tagB n ts[k] = true) : idxT n ts = k := by
  have : ts.findIdx? (tagB n) = some k := by
    rw [List.findIdx?_eq_some_iff_getElem]
    refine ⟨hk, hp, fun j hj => ?_⟩
    have := hn ts[j] (by rw [List.mem_take_iff_getElem]; exact ⟨j, by omega, rfl⟩)
    simpa using this
  simp [idxT, this]
theorem idxT_no (n : Int) (ts : List TD) (hn : ∀ x ∈ ts, tagB n x = false) : idxT n ts = -1 := by
  have : ts.findIdx? (tagB n) = none := by
    rw [List.findIdx?_eq_none_iff]
    exact hn
  simp [idxT, this]

theorem Blk.b5 {w : World} {b : Nat} {x0 x1 x2 x3 x4 : Value} (h : Blk w b [x0, x1, x2, x3, x4]) : w.cell? ⟨b, 0, none⟩ = some x0 ∧ w.cell? ⟨b, 1, none⟩ = some x1 ∧ w.cell? ⟨b, 2, none⟩ = some x2 ∧ w.cell? ⟨b, 3, none⟩ = some x3 ∧ w.cell? ⟨b, 4, none⟩ = some x4 ∧ (∀ o, w.frozen? ⟨b, o, none⟩ = false) ∧ b < w.heap.size := ⟨h.cell 0, h.cell 1, h.cell 2, h.cell 3, h.cell 4, h.f, h.lt⟩

set_option maxHeartbeats 1000000 in
theorem tagIs_tells (g : Nat) (k : Int) (q : ByteArray) (n : Int) (pv bv : Value) (t : TD) (W : World) (hg : Blk W g [.int .i64 k, .string q, .int .i64 n, pv, bv]) :
   Calls Try.prog 119 #[.agg #[.int .i64 t.n, .string t.queue, .int .i64 t.id, .int .i64 t.turn], .pointer (some ⟨g, 0, none⟩)] W fun e w' => e = .returned (.bool (tagB n t)) ∧ Below W.heap.size W w' := by
  obtain ⟨c0, c1, c2, c3, c4, c5, c6⟩ := hg.b5
  obtain ⟨tn, tq, ti, tt⟩ := t
  simp only [tagB]
  go_enter Try.func119, Try.ntmps119
  go_wp2
  go_ret
  exact ⟨rfl, below_alloc _ _⟩

set_option maxRecDepth 100000 in
set_option maxHeartbeats 3200000 in
theorem indexT_any (g : Nat) (kd : Int) (qn : ByteArray) (n : Int) (pv bv : Value) (v : Value) (ts : List TD) (w : World) (h : SliceT (Under w.heap.size) w v ts) (hg : Blk w g [.int .i64 kd, .string qn, .int .i64 n, pv, bv]) :
    Calls Try.prog 118 #[v, .func (.func 119) #[] #[.pointer (some ⟨g, 0, none⟩)]] w fun e w' => e = .returned (.int .i64 (idxT n ts)) ∧ Below w.heap.size w w' := by
  have HL : Hid (SliceT (Under w.heap.size) w v ts) := h
  have HG : Hid (Blk w g [.int .i64 kd, .string qn, .int .i64 n, pv, bv]) := hg
  have hgl := hg.lt
  obtain ⟨va, vc, rfl, h1, h2, h3⟩ := SliceV.shape h
  unfold maxLen at h2
  clear h hg
  go_enter Try.func118, Try.ntmps118
  go_wp2
  go_loopw [8] (fun i wr => ∃ k : Nat, k ≤ ts.length ∧ i = .int .i64 k ∧ Below w.heap.size w wr ∧ ∀ x ∈ ts.take k, tagB n x = false)
    (fun i _ => ts.length - (intOf i).toNat)
  case atStart => exact ⟨0, Nat.zero_le _, rfl, Below.refl _ _, by simp⟩
  case round =>
    obtain ⟨k, hk, rfl, hb, hno⟩ := hrel
    have HN : Hid (∀ x ∈ ts.take k, tagB n x = false) := hno
    clear hno
    by_cases hlt : k < ts.length
    · obtain ⟨b, off, rfl, hS, c0, c1, c2, c3⟩ := (SliceT.on HL.out hb).at k hlt
      cases hp : tagB n ts[k]
      · go_wp2_with (go_at_call 119; refine (tagIs_tells g kd qn n pv bv ts[k] _ (HG.out.below hb hgl)).mono ?_; rw [hp]; rintro e w1 ⟨rfl, hb1⟩)
        go_roundw
        case rel =>
          refine ⟨k + 1, by omega, by go_num, hb.trans (hb1.mono hb.size), fun x hx => ?_⟩
          rw [List.take_succ_eq_append_getElem hlt, List.mem_append, List.mem_singleton] at hx
          rcases hx with hx | rfl
          · exact HN.out x hx
          · exact hp
        case measure => simp [intOf]; omega
      · go_wp2_with (go_at_call 119; refine (tagIs_tells g kd qn n pv bv ts[k] _ (HG.out.below hb hgl)).mono ?_; rw [hp]; rintro e w1 ⟨rfl, hb1⟩)
        go_ret
        exact ⟨ret_i64 (idxT_yes n ts k hlt HN.out hp).symm, hb.trans (hb1.mono hb.size)⟩
    · go_wp2
      go_ret
      refine ⟨ret_i64 (idxT_no n ts fun x hx => HN.out x ?_).symm, hb⟩
      rw [List.take_of_length_le (by omega)]; exact hx
end Go.Proofs.Ytkddkpdfeeikhaa

/-
  session.Wrong tells what is wrong with an ask.
-/
namespace Go.Proofs.Ytkddkpdfeeikhaa
open Go.RowKit
set_option linter.unusedVariables false
set_option linter.unusedSimpArgs false

attribute [local go_sem ↓] Go.wp_at_zero Go.wp_at_succ

/-- An ask. -/
structure AD where
  kind : Int
  queue : ByteArray
  n : Int
  note : ND

def namedB (k : Int) : Bool := k == 2 || k == 3 || k == 4 || k == 5 || k == 6 || k == 9
def queueB (k : Int) (q : ByteArray) : Bool := if namedB k then keyB q else q.toList.isEmpty
def numB (k n : Int) : Bool :=
  if k == 2 then decide (0 ≤ n ∧ n ≤ 1073741824) else if k == 6 then decide (1 ≤ n ∧ n ≤ 9) else if k == 7 || k == 8 then decide (1 ≤ n ∧ n ≤ 1073741824) else n == 0
def AD.wrong (a : AD) : Int :=
  if a.kind < 1 ∨ 9 < a.kind then 1 else if queueB a.kind a.queue = false then 7 else if numB a.kind a.n = false then 3
  else if a.kind ≠ 4 ∧ 0 < a.note.props.length + a.note.body.length then 2 else a.note.wrong

set_option maxHeartbeats 1000000 in
theorem rightNumber_any (k n : Int) (q : ByteArray) (v u : Value) (w : World) :
    Calls Try.prog 95 #[.agg #[.int .i64 k, .string q, .int .i64 n, v, u]] w fun r w' => r = .returned (.bool (numB k n)) ∧ Below w.heap.size w w' := by
  go_enter Try.func95, Try.ntmps95
  go_wp2
  all_goals go_ret
  all_goals refine ⟨ret_bool ?_, (Below.refl _ _).alloc (Nat.le_refl _) _⟩
  all_goals (simp [numB, *] <;> try omega)

set_option maxHeartbeats 1000000 in
theorem askHas_any (k n : Int) (q : ByteArray) (va ua : Option Addr) (vl vc ul uc : Nat) (w : World) :
    Calls Try.prog 96 #[.agg #[.int .i64 k, .string q, .int .i64 n, .slice va vl vc, .slice ua ul uc]] w fun r w' => r = .returned (.bool (decide (0 < vl + ul))) ∧ Below w.heap.size w w' := by
  go_enter Try.func96, Try.ntmps96
  go_wp2
  all_goals go_ret
  all_goals refine ⟨ret_bool ?_, (Below.refl _ _).alloc (Nat.le_refl _) _⟩
  all_goals (simp [*] <;> try omega)

set_option maxHeartbeats 1000000 in
theorem rightQueue_any (k n : Int) (q : ByteArray) (v u : Value) (w : World) (hq : q.size ≤ maxLen) :
    Calls Try.prog 94 #[.agg #[.int .i64 k, .string q, .int .i64 n, v, u]] w fun r w' => r = .returned (.bool (queueB k q)) ∧ Below w.heap.size w w' := by
  have HK : Hid (∀ W, Calls Try.prog 114 #[.string q] W fun e w' => e = .returned (.bool (keyB q)) ∧ w' = W) := fun W => key_any q W hq
  go_enter Try.func94, Try.ntmps94
  go_wp2_with (go_at_call 114; refine (HK.out _).mono ?_; rintro e w1 ⟨rfl, rfl⟩)
  all_goals go_ret
  all_goals refine ⟨ret_bool ?_, (Below.refl _ _).alloc (Nat.le_refl _) _⟩
  all_goals (simp [queueB, namedB, *] <;> try omega)

set_option maxRecDepth 100000 in
set_option maxHeartbeats 3200000 in
theorem swrong_any (a : AD) (v u : Value) (w : World) (hq : a.queue.size ≤ maxLen) (hn : NoteIs (Under w.heap.size) w (v, u) a.note) (hf : a.note.fitN) :
    Calls Try.prog 67 #[.agg #[.int .i64 a.kind, .string a.queue, .int .i64 a.n, v, u]] w fun r w' => r = .returned (.int .i64 a.wrong) ∧ Below w.heap.size w w' := by
  obtain ⟨k, q, n, nt⟩ := a
  simp only at hq hn hf ⊢
  obtain ⟨va, vc, rfl, -⟩ := SliceV.shape hn.1
  obtain ⟨ua, uc, rfl, -⟩ := SliceV.shape hn.2
  have HN : Hid (NoteIs (Under w.heap.size) w (.slice va nt.props.length vc, .slice ua nt.body.length uc) nt ∧ nt.fitN) := ⟨hn, hf⟩
  have HB : Hid (∀ W, Below (w.heap.size + 1) (w.alloc (.cells #[.int .i64 k, .string q, .int .i64 n, .slice va nt.props.length vc, .slice ua nt.body.length uc] 66)) W → Blk W w.heap.size [.int .i64 k, .string q, .int .i64 n, .slice va nt.props.length vc, .slice ua nt.body.length uc] ∧ Below w.heap.size w W ∧ NoteIs (Under W.heap.size) W (.slice va nt.props.length vc, .slice ua nt.body.length uc) nt) := fun W hW => by
    have h1 := (below_alloc w (.cells #[.int .i64 k, .string q, .int .i64 n, .slice va nt.props.length vc, .slice ua nt.body.length uc] 66)).trans (hW.mono (by omega))
    exact ⟨(Blk.new _ _ _).below hW (by omega), h1, HN.out.1.sub fun b hb => ⟨Nat.lt_of_lt_of_le hb h1.size, h1.block b hb⟩⟩
  obtain ⟨np, hnp⟩ : ∃ np, np = nt.props.length := ⟨_, rfl⟩
  obtain ⟨nb, hnb⟩ : ∃ nb, nb = nt.body.length := ⟨_, rfl⟩
  have HNP : Hid (np = nt.props.length ∧ nb = nt.body.length) := ⟨hnp, hnb⟩
  have P97 : Hid (∀ W, NoteIs (Under W.heap.size) W (.slice va np vc, .slice ua nb uc) nt → Calls Try.prog 97 #[.agg #[.slice va np vc, .slice ua nb uc]] W fun e w' => e = .returned (.int .i64 nt.wrong) ∧ Below W.heap.size W w') := fun W h => noteWrong_any _ _ nt W h HN.out.2
  rw [← hnp, ← hnb] at HB ⊢
  have P94 : Hid (∀ W, Calls Try.prog 94 #[.agg #[.int .i64 k, .string q, .int .i64 n, .slice va np vc, .slice ua nb uc]] W fun r w' => r = .returned (.bool (queueB k q)) ∧ Below W.heap.size W w') := fun W => rightQueue_any _ _ _ _ _ _ hq
  clear hn hf hnp hnb hq HN
  obtain ⟨A, hA⟩ : ∃ A, A = w.alloc (.cells #[.int .i64 k, .string q, .int .i64 n, .slice va np vc, .slice ua nb uc] 66) := ⟨_, rfl⟩
  have hAz : A.heap.size = w.heap.size + 1 := by rw [hA]; simp
  rw [← hA, ← hAz] at HB
  obtain ⟨a0, a1, a2, a3, a4, a5, a6⟩ := (HB.out A (Below.refl _ _)).1.b5
  go_enter Try.func67, Try.ntmps67
  go_upto_region 1 with fail
  rw [← hA]
  clear hA hAz
  by_cases h1 : k < 1
  · go_wp2
    go_ret
    exact ⟨ret_i64 (by simp [AD.wrong, h1]), (HB.out A (Below.refl _ _)).2.1⟩
  by_cases h2 : 9 < k
  · go_wp2
    go_ret
    exact ⟨ret_i64 (by simp [AD.wrong, h1, h2]), (HB.out A (Below.refl _ _)).2.1⟩
  obtain ⟨b3, h3⟩ : ∃ b3, queueB k q = b3 := ⟨_, rfl⟩
  rw [h3] at P94
  cases b3 with
  | false =>
    go_wp2_with (first | (go_at_call 94; refine (P94.out _).mono ?_; rintro r w1 ⟨rfl, hb1⟩) | fail)
    go_ret
    exact ⟨ret_i64 (by simp [AD.wrong, h1, h2, h3]), (HB.out w1 hb1).2.1⟩
  | true =>
    go_upto_region 5 with (first | (go_at_call 94; refine (P94.out _).mono ?_; rintro r w1 ⟨rfl, hb1⟩; have HB1 : Hid (Below A.heap.size A w1) := hb1; clear hb1 a0 a1 a2 a3 a4 a5 a6; obtain ⟨a0, a1, a2, a3, a4, a5, a6⟩ := (HB.out w1 HB1.out).1.b5) | fail)
    obtain ⟨b4, h4⟩ : ∃ b4, numB k n = b4 := ⟨_, rfl⟩
    have P95 : Hid (∀ W, Calls Try.prog 95 #[.agg #[.int .i64 k, .string q, .int .i64 n, .slice va np vc, .slice ua nb uc]] W fun r w' => r = .returned (.bool b4) ∧ Below W.heap.size W w') := fun W => by rw [← h4]; exact rightNumber_any _ _ _ _ _ _
    cases b4 with
    | false =>
      go_wp2_with (first | (go_at_call 95; refine (P95.out _).mono ?_; rintro r w2 ⟨rfl, hb2⟩) | fail)
      go_ret
      exact ⟨ret_i64 (by simp [AD.wrong, h1, h2, h3, h4]), (HB.out w2 (HB1.out.trans (hb2.mono HB1.out.size))).2.1⟩
    | true =>
      go_upto_region 7 with (first | (go_at_call 95; refine (P95.out _).mono ?_; rintro r w2 ⟨rfl, hb2⟩; have HB2 : Hid (Below A.heap.size A w2) := HB1.out.trans (hb2.mono HB1.out.size); clear hb2 a0 a1 a2 a3 a4 a5 a6; obtain ⟨a0, a1, a2, a3, a4, a5, a6⟩ := (HB.out w2 HB2.out).1.b5) | fail)
      by_cases h5 : k = 4
      · subst h5
        go_wp2_with (first | (go_at_call 97; refine (P97.out _ (HB.out w2 HB2.out).2.2).mono ?_; rintro r w3 ⟨rfl, hb3⟩; have HB3 : Hid (Below A.heap.size A w3) := HB2.out.trans (hb3.mono HB2.out.size)) | fail)
        go_ret
        exact ⟨ret_i64 (by simp [AD.wrong, h3, h4]), (HB.out w3 HB3.out).2.1⟩
      · have h5' : (k == 4) = false := by simpa using h5
        obtain ⟨b7, h7⟩ : ∃ b7, decide (0 < np + nb) = b7 := ⟨_, rfl⟩
        have P96 : Hid (∀ W, Calls Try.prog 96 #[.agg #[.int .i64 k, .string q, .int .i64 n, .slice va np vc, .slice ua nb uc]] W fun r w' => r = .returned (.bool b7) ∧ Below W.heap.size W w') := fun W => by rw [← h7]; exact askHas_any _ _ _ _ _ _ _ _ _ _
        have H7 : Hid (b7 = decide (0 < nt.props.length + nt.body.length)) := by rw [← HNP.out.1, ← HNP.out.2]; exact h7.symm
        clear h7
        cases b7 with
        | true =>
          go_wp2_with (first | (go_at_call 96; refine (P96.out _).mono ?_; rintro r w3 ⟨rfl, hb3⟩; have HB3 : Hid (Below A.heap.size A w3) := HB2.out.trans (hb3.mono HB2.out.size)) | fail)
          go_ret
          exact ⟨ret_i64 (by symm; unfold AD.wrong; rw [if_neg (by show ¬ (k < 1 ∨ 9 < k); omega), if_neg (by simp [h3]), if_neg (by simp [h4]), if_pos ⟨h5, by simpa using H7.out.symm⟩]), (HB.out w3 HB3.out).2.1⟩
        | false =>
          go_wp2_with (first
            | (go_at_call 96; refine (P96.out _).mono ?_; rintro r w3 ⟨rfl, hb3⟩; have HB3 : Hid (Below A.heap.size A w3) := HB2.out.trans (hb3.mono HB2.out.size); clear a0 a1 a2 a3 a4 a5 a6; obtain ⟨a0, a1, a2, a3, a4, a5, a6⟩ := (HB.out w3 HB3.out).1.b5)
            | (go_at_call 97; refine (P97.out _ (HB.out w3 HB3.out).2.2).mono ?_; rintro r w4 ⟨rfl, hb4⟩; have HB4 : Hid (Below A.heap.size A w4) := HB3.out.trans (hb4.mono HB3.out.size)))
          go_ret
          exact ⟨ret_i64 (by symm; unfold AD.wrong; rw [if_neg (by show ¬ (k < 1 ∨ 9 < k); omega), if_neg (by simp [h3]), if_neg (by simp [h4]), if_neg (fun h => of_decide_eq_false H7.out.symm h.2)]), (HB.out w4 HB4.out).2.1⟩
end Go.Proofs.Ytkddkpdfeeikhaa

/-
  The leaves of package note: isKind, hasStray, inRange, Key and wrongProp answer what the functions below say, and turn nothing that was there.
-/
namespace Go.Proofs.Ytkddkpdfeeikhaa.NT
open Go.RowKit
set_option linter.unusedVariables false
set_option linter.unusedSimpArgs false

def kindB (k : Int) : Bool := k == 1 || k == 2 || k == 3

set_option maxHeartbeats 400000 in
theorem isKind_any (k : Int) (w : World) :
    Calls Try.prog 134 #[.int .i64 k] w fun e w' => e = .returned (.bool (kindB k)) ∧ w' = w := by
  go_enter Try.func134, Try.ntmps134
  go_wp2
  all_goals (go_ret; exact ⟨by simp [kindB, *], rfl⟩)

def strayB (kind n : Int) (text : ByteArray) : Bool := if kind == 2 then n != 0 else !text.toList.isEmpty

theorem ret_bool {a b : Bool} (h : a = b) : Ending.returned (.bool a) = .returned (.bool b) := by rw [h]

set_option maxHeartbeats 400000 in
theorem hasStray_any (key : ByteArray) (kind n : Int) (text : ByteArray) (w : World) :
    Calls Try.prog 136 #[.agg #[.string key, .int .i64 kind, .int .i64 n, .string text]] w fun e w' => e = .returned (.bool (strayB kind n text)) ∧ Below w.heap.size w w' := by
  go_enter Try.func136, Try.ntmps136
  go_wp2
  all_goals (go_ret; exact ⟨ret_bool (by simp [strayB, *]), (Below.refl _ _).alloc (Nat.le_refl _) _⟩)

def rangeB (kind n : Int) : Bool := if kind == 1 then decide (-1073741824 ≤ n ∧ n ≤ 1073741824) else if kind == 3 then n == 0 || n == 1 else true

set_option maxHeartbeats 400000 in
theorem inRange_any (key : ByteArray) (kind n : Int) (text : ByteArray) (w : World) :
    Calls Try.prog 135 #[.agg #[.string key, .int .i64 kind, .int .i64 n, .string text]] w fun e w' => e = .returned (.bool (rangeB kind n)) ∧ Below w.heap.size w w' := by
  go_enter Try.func135, Try.ntmps135
  go_wp2
  all_goals go_ret
  all_goals refine ⟨ret_bool ?_, (Below.refl _ _).alloc (Nat.le_refl _) _⟩
  all_goals (simp [rangeB, *] <;> try omega)

def lowB (c : UInt8) : Bool := 97 ≤ c && c ≤ 122
def keyB (s : ByteArray) : Bool := 1 ≤ s.size && s.size ≤ 8 && s.data.toList.all lowB

theorem take_snoc (s : ByteArray) (k : Nat) (h : k < s.size) : s.data.toList.take (k + 1) = s.data.toList.take k ++ [s[k]] := by
  rw [List.take_succ_eq_append_getElem (by simpa using h)]; rfl
theorem low_iff (c : UInt8) : lowB c = true ↔ (97 : Int) ≤ c.toNat ∧ (c.toNat : Int) ≤ 122 := by
  simp [lowB, UInt8.le_iff_toNat_le]; omega

theorem all_step (s : ByteArray) (k : Nat) (h : k < s.size) (ha : (s.data.toList.take k).all lowB = true) (h1 : ¬ (s[k].toNat : Int) < 97) (h2 : ¬ (122 : Int) < s[k].toNat) : (s.data.toList.take (k+1)).all lowB = true := by
  rw [take_snoc s k h, List.all_append, ha]; simp [low_iff]; omega
theorem all_stop (s : ByteArray) (k : Nat) (h : k < s.size) (h1 : (s[k].toNat : Int) < 97 ∨ (122 : Int) < s[k].toNat) : s.data.toList.all lowB = false := by
  rw [Bool.eq_false_iff]
  intro hh
  rw [List.all_eq_true] at hh
  have := (low_iff _).1 (hh s[k] (by have : s[k] = s.data.toList[k]'(by simpa using h) := rfl
                                     rw [this]; exact List.getElem_mem _))
  omega

set_option maxHeartbeats 400000 in
theorem key_any (s : ByteArray) (w : World) (hs : s.size ≤ maxLen) :
    Calls Try.prog 114 #[.string s] w fun e w' => e = .returned (.bool (keyB s)) ∧ w' = w := by
  unfold maxLen at hs
  by_cases h1 : 1 ≤ s.size
  case neg =>
    go_enter Try.func114, Try.ntmps114
    go_wp2
    all_goals (go_ret; exact ⟨ret_bool (by simp [keyB]; omega), rfl⟩)
  by_cases h2 : s.size ≤ 8
  case neg =>
    go_enter Try.func114, Try.ntmps114
    go_wp2
    all_goals (go_ret; exact ⟨ret_bool (by simp [keyB]; omega), rfl⟩)
  go_enter Try.func114, Try.ntmps114
  go_wp2
  go_loop [14] (fun i => ∃ k : Nat, k ≤ s.size ∧ i = .int .i64 k ∧ (s.data.toList.take k).all lowB = true) (fun i => s.size - (intOf i).toNat)
  case atStart => exact ⟨0, Nat.zero_le _, rfl, rfl⟩
  case round =>
    obtain ⟨k, hk, rfl, ha⟩ := hrel
    have HA : Hid ((s.data.toList.take k).all lowB = true) := ha
    clear ha
    by_cases hlt : k < s.size
    · by_cases h3 : (s[k].toNat : Int) < 97
      · go_wp2
        go_ret
        exact ⟨ret_bool (by simp [keyB, all_stop s k hlt (Or.inl h3)]), rfl⟩
      · by_cases h4 : (122 : Int) < s[k].toNat
        · go_wp2
          go_ret
          exact ⟨ret_bool (by simp [keyB, all_stop s k hlt (Or.inr h4)]), rfl⟩
        · go_wp2
          go_round
          case rel => exact ⟨k + 1, by omega, by go_num, all_step s k hlt HA.out h3 h4⟩
          case measure => simp [intOf]; omega
    · go_wp2
      go_ret
      have e : k = s.size := by omega
      have HB := HA.out
      rw [e, List.take_of_length_le (by simp)] at HB
      exact ⟨ret_bool (by simp [keyB, h1, h2, HB]), rfl⟩

theorem bcell {W w1 : World} (hb : Below W.heap.size W w1) : (∀ b o, b < W.heap.size → w1.cell? ⟨b, o, none⟩ = W.cell? ⟨b, o, none⟩) ∧ (∀ b o, b < W.heap.size → w1.frozen? ⟨b, o, none⟩ = W.frozen? ⟨b, o, none⟩) :=
  ⟨fun b o h => hb.cell (p := ⟨b, o, none⟩) h, fun b o h => hb.frozen (p := ⟨b, o, none⟩) h⟩

theorem ret_i64 {a b : Int} (h : a = b) : Ending.returned (.int .i64 a) = .returned (.int .i64 b) := by rw [h]

def wrongP (key : ByteArray) (kind n : Int) (text : ByteArray) : Int :=
  if !keyB key then 7 else if !kindB kind then 1 else if !rangeB kind n then 3 else if kind == 2 && 12 < text.size then 4 else if strayB kind n text then 2 else 0

set_option maxHeartbeats 1000000 in
theorem wrongProp_any (key : ByteArray) (kind n : Int) (text : ByteArray) (w : World) (hs : key.size ≤ maxLen) (ht : text.size ≤ maxLen) :
    Calls Try.prog 115 #[.agg #[.string key, .int .i64 kind, .int .i64 n, .string text]] w fun e w' => e = .returned (.int .i64 (wrongP key kind n text)) ∧ Below w.heap.size w w' := by
  have ht' := ht
  unfold maxLen at ht'
  cases hk : keyB key
  · go_enter Try.func115, Try.ntmps115
    go_wp2_with (go_at_call 114; refine (key_any key _ hs).mono ?_; rintro e w1 ⟨rfl, rfl⟩)
    go_ret
    exact ⟨ret_i64 (by simp [wrongP, hk]), (Below.refl _ _).alloc (Nat.le_refl _) _⟩
  cases hk2 : kindB kind
  · go_enter Try.func115, Try.ntmps115
    go_wp2_with (first
    | (go_at_call 114; refine (key_any key _ hs).mono ?_; rintro e w1 ⟨rfl, rfl⟩)
    | (go_at_call 134; refine (isKind_any _ _).mono ?_; rintro e w1 ⟨rfl, rfl⟩))
    go_ret
    exact ⟨ret_i64 (by simp [wrongP, hk, hk2]), (Below.refl _ _).alloc (Nat.le_refl _) _⟩
  cases hk3 : rangeB kind n
  · go_enter Try.func115, Try.ntmps115
    go_wp2_with (first
    | (go_at_call 114; refine (key_any key _ hs).mono ?_; rintro e w1 ⟨rfl, rfl⟩)
    | (go_at_call 134; refine (isKind_any _ _).mono ?_; rintro e w1 ⟨rfl, rfl⟩)
    | (go_at_call 135; refine (inRange_any _ _ _ _ _).mono ?_; rintro e w1 ⟨rfl, hb1⟩; obtain ⟨hc1, hf1⟩ := bcell hb1))
    go_ret
    exact ⟨ret_i64 (by simp [wrongP, hk, hk2, hk3]), ((Below.refl _ _).alloc (Nat.le_refl _) _).trans (hb1.mono (by simp))⟩
  by_cases h5 : kind = 2
  · subst h5
    by_cases h6 : 12 < text.size
    · go_enter Try.func115, Try.ntmps115
      go_wp2_with (first
      | (go_at_call 114; refine (key_any key _ hs).mono ?_; rintro e w1 ⟨rfl, rfl⟩)
      | (go_at_call 134; refine (isKind_any _ _).mono ?_; rintro e w1 ⟨rfl, rfl⟩)
      | (go_at_call 135; refine (inRange_any _ _ _ _ _).mono ?_; rintro e w1 ⟨rfl, hb1⟩; obtain ⟨hc1, hf1⟩ := bcell hb1; have hz1 := hb1.size)
      | (go_at_call 136; refine (hasStray_any _ _ _ _ _).mono ?_; rintro e w2 ⟨rfl, hb2⟩))
      go_ret
      exact ⟨ret_i64 (by simp [wrongP, hk, hk2, hk3, h6]), ((Below.refl _ _).alloc (Nat.le_refl _) _).trans (hb1.mono (by simp))⟩
    · cases h7 : strayB 2 n text
      all_goals
        go_enter Try.func115, Try.ntmps115
        go_wp2_with (first
        | (go_at_call 114; refine (key_any key _ hs).mono ?_; rintro e w1 ⟨rfl, rfl⟩)
        | (go_at_call 134; refine (isKind_any _ _).mono ?_; rintro e w1 ⟨rfl, rfl⟩)
        | (go_at_call 135; refine (inRange_any _ _ _ _ _).mono ?_; rintro e w1 ⟨rfl, hb1⟩; obtain ⟨hc1, hf1⟩ := bcell hb1; have hz1 := hb1.size)
        | (go_at_call 136; refine (hasStray_any _ _ _ _ _).mono ?_; rintro e w2 ⟨rfl, hb2⟩))
        go_ret
        exact ⟨ret_i64 (by simp [wrongP, hk, hk2, hk3, h6, h7]), (((Below.refl _ _).alloc (Nat.le_refl _) _).trans (hb1.mono (by simp))).trans (hb2.mono (by have := hb1.size; simp at this; omega))⟩
  · have h5' : (kind == 2) = false := by simpa using h5
    cases h7 : strayB kind n text
    all_goals
      go_enter Try.func115, Try.ntmps115
      go_wp2_with (first
      | (go_at_call 114; refine (key_any key _ hs).mono ?_; rintro e w1 ⟨rfl, rfl⟩)
      | (go_at_call 134; refine (isKind_any _ _).mono ?_; rintro e w1 ⟨rfl, rfl⟩)
      | (go_at_call 135; refine (inRange_any _ _ _ _ _).mono ?_; rintro e w1 ⟨rfl, hb1⟩; obtain ⟨hc1, hf1⟩ := bcell hb1; have hz1 := hb1.size)
      | (go_at_call 136; refine (hasStray_any _ _ _ _ _).mono ?_; rintro e w2 ⟨rfl, hb2⟩))
      go_ret
      exact ⟨ret_i64 (by simp [wrongP, hk, hk2, hk3, h5, h7]), (((Below.refl _ _).alloc (Nat.le_refl _) _).trans (hb1.mono (by simp))).trans (hb2.mono (by have := hb1.size; simp at this; omega))⟩
end Go.Proofs.Ytkddkpdfeeikhaa.NT
