/-
  ItemsRef; RefWith; RefDone: texts laid together.
-/
import Derived.Test.YtkddkpdfeeikhaaJFollowsProofM06
import Derived.Test.YtkddkpdfeeikhaaFaceM
import Derived.Test.YtkddkpdfeeikhaaJFollowsProofM04
/-
  tgref1.items answers a queue with one item less, or another one in its place.
-/
namespace Go.Proofs.Ytkddkpdfeeikhaa
open Go.RowKit
set_option linter.unusedVariables false
set_option linter.unusedSimpArgs false

attribute [local go_sem ↓] Go.wp_at_zero Go.wp_at_succ

theorem slice_take {S : Nat → Prop} {w : World} {a : Option Addr} {n cap : Nat} {L : ItL} (h : SliceV S w (.slice a n cap) n (cellsI L)) (hn : n = L.length) (k : Nat) (hk : k ≤ n) : SliceV S w (.slice a k cap) k (cellsI (L.take k)) := by
  obtain ⟨a', cap', e, h1, h2, h3, h4⟩ := h
  simp only [Value.slice.injEq] at e
  obtain ⟨rfl, -, rfl⟩ := e
  refine ⟨a, cap, rfl, by omega, h2, h3, fun i hi => ?_⟩
  have hl := cellsI_len L
  rw [cellsI_len, List.length_take] at hi
  obtain ⟨b, off, e, hs, hc⟩ := h4 i (by omega)
  refine ⟨b, off, e, hs, ?_⟩
  rw [hc]
  congr 1
  have e2 := cellsI_take L k (by omega)
  simp only [← e2, List.getElem_take]

theorem slice_drop {S : Nat → Prop} {w : World} {b off n cap : Nat} {L : ItL} (h : SliceV S w (.slice (some ⟨b, off, none⟩) n cap) n (cellsI L)) (hn : n = L.length) (k : Nat) (hk : k ≤ n) (A : Addr) (hA : (if cap = k then some (⟨b, off, none⟩ : Addr) else some ⟨b, off + k * 7, none⟩) = some A) : SliceV S w (.slice (some A) (n - k) (cap - k)) (n - k) (cellsI (L.drop k)) := by
  obtain ⟨a', cap', e, h1, h2, h3, h4⟩ := h
  simp only [Value.slice.injEq] at e
  obtain ⟨rfl, -, rfl⟩ := e
  refine ⟨some A, cap - k, rfl, by omega, by unfold maxLen at *; omega, fun h => by simp at h, fun i hi => ?_⟩
  rw [cellsI_len, List.length_drop] at hi
  have hne : ¬ cap = k := by omega
  rw [if_neg hne, Option.some.injEq] at hA
  subst hA
  have hl := cellsI_len L
  obtain ⟨b', off', e, hs, hc⟩ := h4 (k * 7 + i) (by omega)
  simp only [Option.some.injEq, Addr.mk.injEq, and_true] at e
  obtain ⟨rfl, rfl⟩ := e
  refine ⟨b, off + k * 7, rfl, hs, ?_⟩
  rw [Nat.add_assoc, hc]
  congr 1
  have e2 := cellsI_drop L k (by omega)
  simp only [← e2, List.getElem_drop]

/-- A new row of no items. -/
theorem empty_own (w : World) (base g : Nat) (hg : w.heap.size = g) (hb : base ≤ g) : (w.alloc (.cells #[] 78)).ownsRow base 78 7 (.slice (some ⟨g, 0, none⟩) 0 0) 0 [] := by
  subst hg
  exact ⟨rfl, .inr ⟨w.heap.size, 0, #[], rfl, hb, heap_alloc_new w _, Nat.le_refl _, by simp [maxLen], rfl, rfl⟩⟩

theorem del_L {α β : Type} (f : α → β) (L : List α) (k : Nat) : (L.take k ++ L.drop (k + 1)).map f = (L.map f).eraseIdx k := by
  rw [List.eraseIdx_eq_take_drop_succ]; simp
theorem set_L {α β : Type} (f : α → β) (L : List α) (k : Nat) (hk : k < L.length) (x : α) : (L.take k ++ [x] ++ L.drop (k + 1)).map f = (L.map f).set k (f x) := by
  rw [List.set_eq_take_append_cons_drop, if_pos (by simpa using hk)]; simp

set_option maxRecDepth 100000 in
set_option maxHeartbeats 3200000 in
theorem items_del (v : Value) (name : ByteArray) (limit : Int) (its : List IT) (k : Nat) (hk : k < its.length) (hlen : its.length ≤ 4194304) (w : World) (S : Nat → Prop) (hS : ∀ b, S b → b < w.heap.size) (hv : SliceI S w v its) :
    Calls Try.prog 91 #[.agg #[.string name, .int .i64 limit, v], .int .i64 k, .pointer none] w fun e w' => ∃ v', e = .returned (.agg #[.string name, .int .i64 limit, v']) ∧ SliceI (fun b => S b ∨ Made w.heap.size w'.heap.size b) w' v' (its.eraseIdx k) ∧ Below w.heap.size w w' := by
  obtain ⟨i0, hi0, hz0, hz1, hz2⟩ := info_parts info34
  obtain ⟨L, rfl, hL, hN⟩ := hv
  obtain ⟨va, vc, rfl, h1, h2, -⟩ := hL.shape
  simp only [List.length_map] at hk hlen
  obtain ⟨m, hm⟩ : ∃ m, L.length = k + m + 1 := ⟨L.length - k - 1, by omega⟩
  have HL : Hid (SliceV S w (.slice va (k + m + 1) vc) (k + m + 1) (cellsI L)) := by rw [← hm]; exact hL
  have HN : Hid (∀ x ∈ L, NoteIs S w x.2 x.1.note) := hN
  obtain ⟨b, off, rfl, -⟩ : ∃ b off, va = some ⟨b, off, none⟩ ∧ True := by
    obtain ⟨_, _, e, _, _, _, h4⟩ := hL
    obtain ⟨b, off, e2, -⟩ := h4 0 (by rw [cellsI_len]; omega)
    simp only [Value.slice.injEq] at e
    exact ⟨b, off, e.1.trans e2, trivial⟩
  have HO : Hid (∀ u ∈ cellsI L, u.oneCell' = true) := cellsI_one L hN
  have HM : Hid (L.length = k + m + 1) := hm
  rw [hm] at h1 hk hlen ⊢
  clear hL hN hm
  obtain ⟨A, hA⟩ : ∃ A : Addr, (if vc = k + 1 then some (⟨b, off, none⟩ : Addr) else some ⟨b, off + (k + 1) * 7, none⟩) = some A := by
    split <;> exact ⟨_, rfl⟩
  have hT : Hid (∀ u ∈ cellsI (L.take k), u.oneCell' = true) := fun u hu => HO.out u (List.mem_of_mem_take (by rw [cellsI_take L k (by have := HM.out; omega)]; exact hu))
  have hD : Hid (∀ u ∈ cellsI (L.drop (k + 1)), u.oneCell' = true) := fun u hu => HO.out u (List.mem_of_mem_drop (by rw [cellsI_drop L (k + 1) (by have := HM.out; omega)]; exact hu))
  have HLT : Hid ((cellsI (L.take k)).length = k * 7 ∧ (cellsI (L.drop (k + 1))).length = m * 7) := by
    have := HM.out
    refine ⟨by rw [cellsI_len, List.length_take]; omega, by rw [cellsI_len, List.length_drop]; omega⟩
  have two : Hid (∀ o1 o2 : Obj, Below w.heap.size w ((w.alloc o1).alloc o2)) := fun o1 o2 => (below_alloc _ _).alloc (by simp) _
  have hkc : k ≤ vc := by omega
  have hkc1 : k + 1 ≤ vc := by omega
  have hnn : (0 : Int) ≤ (k : Int) + 1 := by omega
  have hnm : (k : Int) ≤ (k : Int) + (m : Int) := by omega
  unfold maxLen at h2
  go_enter Try.func91, Try.ntmps91
  have ny : Hid True := trivial
  go_wp2_with (first
    | (at_builtin; clear ny; refine wpList_appV rfl (.tmp 8) (.tmp 12) 74 rfl 78 i0 _ 7 88 Try.underlying74 hi0 hz0 hz1 hz2 rfl (by omega) (w.heap.size + 2) (.slice (some ⟨w.heap.size + 1 + 1, 0, none⟩) 0 0) 0 [] rfl (empty_own _ _ _ (by simp) (by simp <;> omega)) S (.slice (some ⟨b, off, none⟩) k vc) k (cellsI (L.take k)) rfl (slice_take (SliceV.sub HL.out (fun i hi => ⟨hi, ((two.out _ _).alloc (by simp <;> omega) _).block i (hS i hi)⟩)) HM.out.symm k (by omega)) HLT.out.1 hT.out (by unfold maxLen; omega) (by omega) (by simp <;> omega) ?_; intro ao cap w1 ho1 hg1 hm1; have ho1' : w1.ownsRow (w.heap.size + 2) 78 7 (.slice ao k cap) k (cellsI (L.take k)) := (by simpa using ho1); have hz1' : w.heap.size + 3 ≤ w1.heap.size := (by have := hg1.size; simp at this; omega); have hbk : ∀ i, i < w.heap.size + 2 → w1.heap[i]? = _ := (fun i hi => hg1.block i (by simp only [World.size_alloc]; omega) (fun e => by simp only [Value.ownBlock, Option.some.injEq] at e; omega)); have hq1 := ((((Blk.new w _ 76).alloc _).alloc _).same (hbk _ (by omega))); have hr1 := (((Blk.new (w.alloc _) _ 76).alloc _).same (hbk _ (by simp))); simp only [World.size_alloc] at hr1; have HB1 : Hid (Below w.heap.size w w1) := ((two.out _ _).alloc (by simp <;> omega) _).trans ⟨hg1.os, hg1.tape, hg1.output, hg1.size, fun i hi => hbk i (by omega)⟩; have HO1 : Hid (w1.ownsRow (w.heap.size + 2) 78 7 (.slice ao k cap) k (cellsI (L.take k))) := ho1'; have HQ1 : Hid _ := And.intro hq1 hr1; obtain ⟨q0, q1, q2, q3, q4⟩ := hq1.b3; clear ho1 ho1' hg1 hm1 hq1 hr1 hbk)
    | (at_builtin; refine wpList_appV rfl (.tmp 22) (.tmp 27) 74 rfl 78 i0 _ 7 88 Try.underlying74 hi0 hz0 hz1 hz2 rfl (by omega) (w.heap.size + 2) (.slice ao k cap) k (cellsI (L.take k)) rfl HO1.out S (.slice (some A) m (vc - (k + 1))) m (cellsI (L.drop (k + 1))) rfl (by have h := slice_drop (SliceV.sub (T := S) HL.out (fun i hi => ⟨hi, HB1.out.block i (hS i hi)⟩)) HM.out.symm (k + 1) (by omega) A hA; rw [show k + m + 1 - (k + 1) = m by omega] at h; exact h) HLT.out.2 hD.out (by unfold maxLen; omega) (by omega) (by omega) ?_; intro ao2 cap2 w2 ho2 hg2 hm2; have hlt1 := HO1.out.lt; have hbk : ∀ i, i < w.heap.size + 2 → w2.heap[i]? = w1.heap[i]? := (fun i hi => hg2.block i (by omega) (fun e => by have := (hlt1 i e.symm).1; omega)); have hz2' := hg2.size; obtain ⟨p0, p1, p2, p3, p4⟩ := (HQ1.out.1.same (hbk _ (by omega))).b3; obtain ⟨t0, t1, t2, t3, t4⟩ := (HQ1.out.2.same (hbk _ (by omega))).b3; have HB2 : Hid (Below w.heap.size w w2) := HB1.out.trans ⟨hg2.os, hg2.tape, hg2.output, hg2.size, fun i hi => hbk i (by omega)⟩; have HO2 : Hid (w2.ownsRow (w.heap.size + 2) 78 7 (.slice ao2 (k + m) cap2) (k + m) (cellsI (L.take k) ++ cellsI (L.drop (k + 1)))) := ho2; clear ho2 hg2 hm2 hbk q0 q1 q2 q3))
  refine bodyPost_ret (v := .agg #[.string name, .int .i64 limit, .slice ao2 (k + m) cap2]) (by simp [results, Try.results91, go_sem, *]; done) rfl ⟨_, rfl, ⟨L.take k ++ L.drop (k + 1), del_L _ _ _, ?_, fun x hx => ?_⟩, ?_⟩
  · have hl : (L.take k ++ L.drop (k + 1)).length = k + m := by have := HM.out; simp; omega
    rw [hl, cellsI_append]
    refine (own_slice HO2.out).sub fun i hi => ?_
    have h1 := HO2.out.lt i hi
    refine ⟨.inr ⟨by omega, by simpa using h1.2⟩, ?_⟩
    iterate 4 rw [Below.heap_setCell _ _ _ _ (by simp; omega)]
  · have hxL : x ∈ L := by
      rcases List.mem_append.1 hx with h | h
      · exact List.mem_of_mem_take h
      · exact List.mem_of_mem_drop h
    refine (HN.out x hxL).sub fun i hi => ?_
    have hi' : i < w.heap.size := hS i hi
    refine ⟨.inl hi, ?_⟩
    iterate 4 rw [Below.heap_setCell _ _ _ _ (by simp; omega)]
    exact HB2.out.block i hi'
  · iterate 4 refine Below.setCell ?_ (by simp <;> omega) _
    exact HB2.out
/-- A new row of one item. -/
theorem row7_slice (w : World) (it : IT) (v u : Value) : SliceV (fun _ => True) (w.alloc (.cells #[.int .i64 it.id, .int .i64 it.turn, .int .i64 it.tries, .bool it.out, .int .i64 it.due, v, u] 78)) (.slice (some ⟨w.heap.size, 0, none⟩) 1 1) 1 (it.cells (v, u)) := by
  refine ⟨_, _, rfl, Nat.le_refl _, by simp [maxLen], fun h => by simp at h, fun i hi => ⟨w.heap.size, 0, rfl, trivial, ?_⟩⟩
  have := (Blk.new w (it.cells (v, u)) 78).cell (0 + i)
  rw [Nat.zero_add, List.getElem?_eq_getElem hi] at this
  rw [Nat.zero_add]
  exact this

set_option maxRecDepth 100000 in
set_option maxHeartbeats 3200000 in
theorem items_set (bx : Nat) (it : IT) (xv xu : Value) (v : Value) (name : ByteArray) (limit : Int) (its : List IT) (k : Nat) (hk : k < its.length) (hlen : its.length ≤ 4194304) (w : World) (S : Nat → Prop) (hS : ∀ b, S b → b < w.heap.size) (hv : SliceI S w v its) (hbx : Blk w bx (it.cells (xv, xu))) (hnx : NoteIs S w (xv, xu) it.note) :
    Calls Try.prog 91 #[.agg #[.string name, .int .i64 limit, v], .int .i64 k, .pointer (some ⟨bx, 0, none⟩)] w fun e w' => ∃ v', e = .returned (.agg #[.string name, .int .i64 limit, v']) ∧ SliceI (fun b => S b ∨ Made w.heap.size w'.heap.size b) w' v' (its.set k it) ∧ Below w.heap.size w w' := by
  obtain ⟨i0, hi0, hz0, hz1, hz2⟩ := info_parts info34
  obtain ⟨L, rfl, hL, hN⟩ := hv
  have HX : Hid (NoteIs S w (xv, xu) it.note) := hnx
  obtain ⟨xa, xc, rfl, -⟩ := SliceV.shape hnx.1
  obtain ⟨xb, xd, rfl, -⟩ := SliceV.shape hnx.2
  have HBX : Hid (Blk w bx [.int .i64 it.id, .int .i64 it.turn, .int .i64 it.tries, .bool it.out, .int .i64 it.due, .slice xa it.note.props.length xc, .slice xb it.note.body.length xd]) := hbx
  have hbxl := hbx.lt
  clear hnx hbx
  obtain ⟨va, vc, rfl, h1, h2, -⟩ := hL.shape
  simp only [List.length_map] at hk hlen
  obtain ⟨m, hm⟩ : ∃ m, L.length = k + m + 1 := ⟨L.length - k - 1, by omega⟩
  have HL : Hid (SliceV S w (.slice va (k + m + 1) vc) (k + m + 1) (cellsI L)) := by rw [← hm]; exact hL
  have HN : Hid (∀ x ∈ L, NoteIs S w x.2 x.1.note) := hN
  obtain ⟨b, off, rfl, -⟩ : ∃ b off, va = some ⟨b, off, none⟩ ∧ True := by
    obtain ⟨_, _, e, _, _, _, h4⟩ := hL
    obtain ⟨b, off, e2, -⟩ := h4 0 (by rw [cellsI_len]; omega)
    simp only [Value.slice.injEq] at e
    exact ⟨b, off, e.1.trans e2, trivial⟩
  have HO : Hid (∀ u ∈ cellsI L, u.oneCell' = true) := cellsI_one L hN
  have HM : Hid (L.length = k + m + 1) := hm
  rw [hm] at h1 hk hlen ⊢
  clear hL hN hm
  obtain ⟨A, hA⟩ : ∃ A : Addr, (if vc = k + 1 then some (⟨b, off, none⟩ : Addr) else some ⟨b, off + (k + 1) * 7, none⟩) = some A := by
    split <;> exact ⟨_, rfl⟩
  have hT : Hid (∀ u ∈ cellsI (L.take k), u.oneCell' = true) := fun u hu => HO.out u (List.mem_of_mem_take (by rw [cellsI_take L k (by have := HM.out; omega)]; exact hu))
  have hD : Hid (∀ u ∈ cellsI (L.drop (k + 1)), u.oneCell' = true) := fun u hu => HO.out u (List.mem_of_mem_drop (by rw [cellsI_drop L (k + 1) (by have := HM.out; omega)]; exact hu))
  have HLT : Hid ((cellsI (L.take k)).length = k * 7 ∧ (cellsI (L.drop (k + 1))).length = m * 7) := by
    have := HM.out
    refine ⟨by rw [cellsI_len, List.length_take]; omega, by rw [cellsI_len, List.length_drop]; omega⟩
  have two : Hid (∀ o1 o2 : Obj, Below w.heap.size w ((w.alloc o1).alloc o2)) := fun o1 o2 => (below_alloc _ _).alloc (by simp) _
  have hkc : k ≤ vc := by omega
  have hkc1 : k + 1 ≤ vc := by omega
  have hnn : (0 : Int) ≤ (k : Int) + 1 := by omega
  have hnm : (k : Int) ≤ (k : Int) + (m : Int) := by omega
  unfold maxLen at h2
  go_enter Try.func91, Try.ntmps91
  have ny : Hid True := trivial
  have nz : Hid True := trivial
  go_wp2_with (first
    | (at_builtin; clear ny; refine wpList_appV rfl (.tmp 8) (.tmp 12) 74 rfl 78 i0 _ 7 88 Try.underlying74 hi0 hz0 hz1 hz2 rfl (by omega) (w.heap.size + 2) (.slice (some ⟨w.heap.size + 1 + 1, 0, none⟩) 0 0) 0 [] rfl (empty_own _ _ _ (by simp) (by simp <;> omega)) S (.slice (some ⟨b, off, none⟩) k vc) k (cellsI (L.take k)) rfl (slice_take (SliceV.sub HL.out (fun i hi => ⟨hi, ((two.out _ _).alloc (by simp <;> omega) _).block i (hS i hi)⟩)) HM.out.symm k (by omega)) HLT.out.1 hT.out (by unfold maxLen; omega) (by omega) (by simp <;> omega) ?_; intro ao cap w1 ho1 hg1 hm1; have ho1' : w1.ownsRow (w.heap.size + 2) 78 7 (.slice ao k cap) k (cellsI (L.take k)) := (by simpa using ho1); have hz1' : w.heap.size + 3 ≤ w1.heap.size := (by have := hg1.size; simp at this; omega); have hbk : ∀ i, i < w.heap.size + 2 → w1.heap[i]? = _ := (fun i hi => hg1.block i (by simp only [World.size_alloc]; omega) (fun e => by simp only [Value.ownBlock, Option.some.injEq] at e; omega)); have hq1 := ((((Blk.new w _ 76).alloc _).alloc _).same (hbk _ (by omega))); have hr1 := (((Blk.new (w.alloc _) _ 76).alloc _).same (hbk _ (by simp))); simp only [World.size_alloc] at hr1; have HB1 : Hid (Below w.heap.size w w1) := ((two.out _ _).alloc (by simp <;> omega) _).trans ⟨hg1.os, hg1.tape, hg1.output, hg1.size, fun i hi => hbk i (by omega)⟩; have HO1 : Hid (w1.ownsRow (w.heap.size + 2) 78 7 (.slice ao k cap) k (cellsI (L.take k))) := ho1'; have HQ1 : Hid _ := And.intro hq1 hr1; obtain ⟨q0, q1, q2, q3, q4⟩ := hq1.b3; obtain ⟨⟨x0, x1, x2, x3⟩, ⟨x4, x5, x6⟩, x7, x8⟩ := (HBX.out.below HB1.out hbxl).b7; clear ho1 ho1' hg1 hm1 hq1 hr1 hbk)
    | (at_builtin; clear nz; refine wpList_appV rfl (.tmp 16) (.tmp 20) 74 rfl 78 i0 _ 7 88 Try.underlying74 hi0 hz0 hz1 hz2 rfl (by omega) (w.heap.size + 2) (.slice ao k cap) k (cellsI (L.take k)) rfl (own_below HO1.out (below_alloc _ _)) (fun _ => True) (.slice (some ⟨w1.heap.size, 0, none⟩) 1 1) 1 (it.cells (.slice xa it.note.props.length xc, .slice xb it.note.body.length xd)) rfl (row7_slice w1 it _ _) rfl (by simp [IT.cells, Value.oneCell']) (by unfold maxLen; omega) (by omega) (by simp <;> omega) ?_; intro aox capx wx hox hgx hmx; have hlt1 := HO1.out.lt; have hzx := hgx.size; simp only [World.size_alloc] at hzx; have hbk : ∀ i, i < w.heap.size + 2 → wx.heap[i]? = w1.heap[i]? := (fun i hi => (hgx.block i (by simp only [World.size_alloc]; omega) (fun e => by have := (hlt1 i e.symm).1; omega)).trans (Below.heap_alloc _ _ _ (by omega))); have hqx := HQ1.out.1.same (hbk _ (by omega)); have hrx := HQ1.out.2.same (hbk _ (by omega)); have HBX2 : Hid (Below w.heap.size w wx) := HB1.out.trans ⟨hgx.os, hgx.tape, hgx.output, by omega, fun i hi => hbk i (by omega)⟩; have HOX : Hid (wx.ownsRow (w.heap.size + 2) 78 7 (.slice aox (k + 1) capx) (k + 1) (cellsI (L.take k) ++ it.cells (.slice xa it.note.props.length xc, .slice xb it.note.body.length xd))) := hox; have HQX : Hid _ := And.intro hqx hrx; obtain ⟨u0, u1, u2, u3, u4⟩ := hqx.b3; clear hox hgx hmx hqx hrx hbk q0 q1 q2 q3 x0 x1 x2 x3 x4 x5 x6 x7)
    | (at_builtin; refine wpList_appV rfl (.tmp 22) (.tmp 27) 74 rfl 78 i0 _ 7 88 Try.underlying74 hi0 hz0 hz1 hz2 rfl (by omega) (w.heap.size + 2) (.slice aox (k + 1) capx) (k + 1) (cellsI (L.take k) ++ it.cells (.slice xa it.note.props.length xc, .slice xb it.note.body.length xd)) rfl HOX.out S (.slice (some A) m (vc - (k + 1))) m (cellsI (L.drop (k + 1))) rfl (by have h := slice_drop (SliceV.sub (T := S) HL.out (fun i hi => ⟨hi, HBX2.out.block i (hS i hi)⟩)) HM.out.symm (k + 1) (by omega) A hA; rw [show k + m + 1 - (k + 1) = m by omega] at h; exact h) HLT.out.2 hD.out (by unfold maxLen; omega) (by omega) (by omega) ?_; intro ao2 cap2 w2 ho2 hg2 hm2; have hlt1 := HOX.out.lt; have hbk : ∀ i, i < w.heap.size + 2 → w2.heap[i]? = wx.heap[i]? := (fun i hi => hg2.block i (by omega) (fun e => by have := (hlt1 i e.symm).1; omega)); have hz2' := hg2.size; obtain ⟨p0, p1, p2, p3, p4⟩ := (HQX.out.1.same (hbk _ (by omega))).b3; obtain ⟨t0, t1, t2, t3, t4⟩ := (HQX.out.2.same (hbk _ (by omega))).b3; have HB2 : Hid (Below w.heap.size w w2) := HBX2.out.trans ⟨hg2.os, hg2.tape, hg2.output, hg2.size, fun i hi => hbk i (by omega)⟩; have HO2 : Hid (w2.ownsRow (w.heap.size + 2) 78 7 (.slice ao2 (k + 1 + m) cap2) (k + 1 + m) (cellsI (L.take k) ++ it.cells (.slice xa it.note.props.length xc, .slice xb it.note.body.length xd) ++ cellsI (L.drop (k + 1)))) := ho2; clear ho2 hg2 hm2 hbk u0 u1 u2 u3))
  refine bodyPost_ret (v := .agg #[.string name, .int .i64 limit, .slice ao2 (k + 1 + m) cap2]) (by simp [results, Try.results91, go_sem, *]; done) rfl ⟨_, rfl, ⟨L.take k ++ [(it, (.slice xa it.note.props.length xc, .slice xb it.note.body.length xd))] ++ L.drop (k + 1), set_L _ _ _ (by have := HM.out; omega) _, ?_, fun x hx => ?_⟩, ?_⟩
  · have hl : (L.take k ++ [(it, (Value.slice xa it.note.props.length xc, Value.slice xb it.note.body.length xd))] ++ L.drop (k + 1)).length = k + 1 + m := by have := HM.out; simp; omega
    rw [hl, cellsI_append, cellsI_snoc]
    refine (own_slice HO2.out).sub fun i hi => ?_
    have h1 := HO2.out.lt i hi
    refine ⟨.inr ⟨by omega, by simpa using h1.2⟩, ?_⟩
    iterate 4 rw [Below.heap_setCell _ _ _ _ (by simp; omega)]
  · have hxL : x ∈ L ∨ x = (it, (Value.slice xa it.note.props.length xc, Value.slice xb it.note.body.length xd)) := by
      rcases List.mem_append.1 hx with h | h
      · rcases List.mem_append.1 h with h | h
        · exact .inl (List.mem_of_mem_take h)
        · exact .inr (by simpa using h)
      · exact .inl (List.mem_of_mem_drop h)
    have hnt : NoteIs S w x.2 x.1.note := by
      rcases hxL with h | rfl
      · exact HN.out x h
      · exact HX.out
    refine hnt.sub fun i hi => ?_
    have hi' : i < w.heap.size := hS i hi
    refine ⟨.inl hi, ?_⟩
    iterate 4 rw [Below.heap_setCell _ _ _ _ (by simp; omega)]
    exact HB2.out.block i hi'
  · iterate 4 refine Below.setCell ?_ (by simp <;> omega) _
    exact HB2.out
end Go.Proofs.Ytkddkpdfeeikhaa

/-
  tgref1.with answers a hall with another queue in a place.
-/
namespace Go.Proofs.Ytkddkpdfeeikhaa
open Go.RowKit
set_option linter.unusedVariables false
set_option linter.unusedSimpArgs false

attribute [local go_sem ↓] Go.wp_at_zero Go.wp_at_succ

/-- A new row of no queues. -/
theorem emptyQ_own (w : World) (base g : Nat) (hg : w.heap.size = g) (hb : base ≤ g) : (w.alloc (.cells #[] 76)).ownsRow base 76 3 (.slice (some ⟨g, 0, none⟩) 0 0) 0 [] := by
  subst hg
  exact ⟨rfl, .inr ⟨w.heap.size, 0, #[], rfl, hb, heap_alloc_new w _, Nat.le_refl _, by simp [maxLen], rfl, rfl⟩⟩

theorem rowQ_cells {w : World} {base g n cap : Nat} {L : QuL} (h : w.ownsRow base 76 3 (.slice (some ⟨g, 0, none⟩) n cap) n (cellsQ L)) (k : Nat) (hk : k < L.length) : ∃ u0 u1 u2, w.cell? ⟨g, k * 3, none⟩ = some u0 ∧ w.cell? ⟨g, k * 3 + 1, none⟩ = some u1 ∧ w.cell? ⟨g, k * 3 + 2, none⟩ = some u2 := by
  obtain ⟨a', cap', e, _, _, _, h3⟩ := own_slice h
  simp only [Value.slice.injEq] at e
  obtain ⟨rfl, -, rfl⟩ := e
  have hl := cellsQ_len L
  have key : ∀ i, i < L.length * 3 → ∃ u, w.cell? ⟨g, i, none⟩ = some u := fun i hi => by
    obtain ⟨b', off', e, _, hc⟩ := h3 i (by omega)
    simp only [Option.some.injEq, Addr.mk.injEq] at e
    obtain ⟨rfl, rfl, -⟩ := e
    rw [Nat.zero_add] at hc
    exact ⟨_, hc⟩
  obtain ⟨u0, h0⟩ := key (k * 3) (by omega)
  obtain ⟨u1, h1⟩ := key (k * 3 + 1) (by omega)
  obtain ⟨u2, h2⟩ := key (k * 3 + 2) (by omega)
  exact ⟨u0, u1, u2, h0, h1, h2⟩

set_option maxRecDepth 100000 in
set_option maxHeartbeats 3200000 in
theorem with_any (v : Value) (qs : List QD) (next : Int) (k : Nat) (hk : k < qs.length) (q : QD) (qv : Value) (hlen : qs.length ≤ 4194304) (w : World) (S : Nat → Prop) (hS : ∀ b, S b → b < w.heap.size) (hv : SliceQ S w v qs) (hq : SliceI S w qv q.items) :
    Calls Try.prog 57 #[.agg #[v, .int .i64 next], .int .i64 k, .agg #[.string q.name, .int .i64 q.limit, qv]] w fun e w' => ∃ v', e = .returned (.agg #[v', .int .i64 next]) ∧ SliceQ (fun b => S b ∨ Made w.heap.size w'.heap.size b) w' v' (qs.set k q) ∧ Below w.heap.size w w' := by
  obtain ⟨i0, hi0, hz0, hz1, hz2⟩ := info_parts info25
  obtain ⟨L, rfl, hL, hN⟩ := hv
  obtain ⟨va, vc, rfl, h1, h2, -⟩ := hL.shape
  obtain ⟨ia, ic, rfl⟩ := hq.shp
  simp only [List.length_map] at hk hlen
  have HL : Hid (SliceV S w (.slice va L.length vc) L.length (cellsQ L)) := hL
  have HN : Hid (∀ x ∈ L, SliceI S w x.2 x.1.items) := hN
  have HQ : Hid (SliceI S w (.slice ia q.items.length ic) q.items) := hq
  have HO : Hid (∀ u ∈ cellsQ L, u.oneCell' = true) := cellsQ_one L hN
  clear hL hN hq
  have three : Hid (∀ o1 o2 o3 o4 : Obj, Below w.heap.size w ((((w.alloc o1).alloc o2).alloc o3).alloc o4)) := fun o1 o2 o3 o4 => (((below_alloc _ _).alloc (by simp) _).alloc (by simp; omega) _).alloc (by simp; omega) _
  have hki : (k : Int) < (L.length : Int) := by omega
  unfold maxLen at h2
  go_enter Try.func57, Try.ntmps57
  go_wp2_with (at_builtin; refine wpList_appV rfl (.tmp 7) (.tmp 9) 22 rfl 76 i0 _ 3 48 Try.underlying22 hi0 hz0 hz1 hz2 rfl (by omega) (w.heap.size + 3) (.slice (some ⟨w.heap.size + 1 + 1 + 1, 0, none⟩) 0 0) 0 [] rfl (emptyQ_own _ _ _ (by simp) (by omega)) S (.slice va L.length vc) L.length (cellsQ L) rfl (SliceV.sub HL.out (fun i hi => ⟨hi, (three.out _ _ _ _).block i (hS i hi)⟩)) (cellsQ_len L) HO.out (by unfold maxLen; omega) (by omega) (by simp <;> omega) ?_; intro ao cap w1 ho1 hg1 hm1; have ho1' : w1.ownsRow (w.heap.size + 3) 76 3 (.slice ao L.length cap) L.length (cellsQ L) := (by simpa using ho1); have hz1' : w.heap.size + 4 ≤ w1.heap.size := (by have := hg1.size; simp at this; omega); have hbk : ∀ i, i < w.heap.size + 3 → w1.heap[i]? = _ := (fun i hi => hg1.block i (by simp only [World.size_alloc]; omega) (fun e => by simp only [Value.ownBlock, Option.some.injEq] at e; omega)); have hk0 := (((((Blk.new w _ 24).alloc _).alloc _).alloc _).same (hbk _ (by omega))); have hk1 := ((((Blk.new (w.alloc _) _ 76).alloc _).alloc _).same (hbk _ (by simp))); have hk2 := (((Blk.new ((w.alloc _).alloc _) _ 24).alloc _).same (hbk _ (by simp))); simp only [World.size_alloc] at hk1 hk2; have HB1 : Hid (Below w.heap.size w w1) := ⟨hg1.os, hg1.tape, hg1.output, by omega, fun i hi => (hbk i (by omega)).trans ((three.out _ _ _ _).block i hi)⟩; obtain ⟨gg, gcap, hao⟩ : ∃ g c, Value.slice ao L.length cap = .slice (some ⟨g, 0, none⟩) L.length c := (by rcases ho1'.2 with ⟨-, h0⟩ | ⟨g, c, cur, e, -⟩; (omega); exact ⟨g, c, e⟩); simp only [Value.slice.injEq, true_and] at hao; obtain ⟨rfl, rfl⟩ := hao; have hgl := ho1'.lt gg rfl; have hgf : ∀ o, w1.frozen? ⟨gg, o, none⟩ = false := (fun o => ho1'.frozenAt o); obtain ⟨u0, u1, u2, g0, g1, g2⟩ := rowQ_cells ho1' k hk; have HO1 : Hid (w1.ownsRow (w.heap.size + 3) 76 3 (.slice (some ⟨gg, 0, none⟩) L.length cap) L.length (cellsQ L)) := ho1'; obtain ⟨a0, a1, a2, a3⟩ := hk0.b2; obtain ⟨b0, b1, b2, b3, b4⟩ := hk1.b3; obtain ⟨c0, c1, c2, c3⟩ := hk2.b2; have n0 : gg ≠ w.heap.size := (by omega); have n1 : gg ≠ w.heap.size + 1 := (by omega); have n2 : gg ≠ w.heap.size + 1 + 1 := (by omega); clear ho1 hg1 hm1 hbk hk0 hk1 hk2 ho1')
  refine bodyPost_ret (v := .agg #[.slice (some ⟨gg, 0, none⟩) L.length cap, .int .i64 next]) (by simp [results, Try.results57, go_sem, *]; done) rfl ⟨_, rfl, ?_, ?_⟩
  · obtain ⟨wF, hF⟩ : ∃ wF, wF = (((((w1.setCell ⟨w.heap.size, 0, none⟩ (.slice (some ⟨gg, 0, none⟩) L.length cap)).setCell ⟨gg, k * 3, none⟩ (.string q.name)).setCell ⟨gg, k * 3 + 1, none⟩ (.int .i64 q.limit)).setCell ⟨gg, k * 3 + 2, none⟩ (.slice ia q.items.length ic)).setCell ⟨w.heap.size + 1 + 1, 0, none⟩ (.slice (some ⟨gg, 0, none⟩) L.length cap)).setCell ⟨w.heap.size + 1 + 1, 1, none⟩ (.int .i64 next) := ⟨_, rfl⟩
    have hFz : wF.heap.size = w1.heap.size := by rw [hF]; simp
    have hFx : ∀ b, b ≠ gg → b ≠ w.heap.size → b ≠ w.heap.size + 1 + 1 → wF.heap[b]? = w1.heap[b]? := fun b h1 h2 h3 => by
      rw [hF, Below.heap_setCell _ _ _ _ h3, Below.heap_setCell _ _ _ _ h3, Below.heap_setCell _ _ _ _ h1, Below.heap_setCell _ _ _ _ h1, Below.heap_setCell _ _ _ _ h1, Below.heap_setCell _ _ _ _ h2]
    have hrow : wF.ownsRow (w.heap.size + 3) 76 3 (.slice (some ⟨gg, 0, none⟩) L.length cap) L.length (cellsQ (L.set k (q, .slice ia q.items.length ic))) := by
      rw [hF, cellsQ_set L k hk]
      have h0 := own_same (w' := w1.setCell ⟨w.heap.size, 0, none⟩ (.slice (some ⟨gg, 0, none⟩) L.length cap)) HO1.out (fun b e => Below.heap_setCell _ _ _ _ (by have e' : gg = b := (by simpa [Value.ownBlock] using e); exact e' ▸ n0))
      have h3 := (((h0.stored (k * 3) (.string q.name)).1.stored (k * 3 + 1) (.int .i64 q.limit)).1.stored (k * 3 + 2) (.slice ia q.items.length ic)).1
      exact own_same h3 (fun b e => by have e' : gg = b := by simpa [Value.ownBlock] using e
                                       rw [Below.heap_setCell _ _ _ _ (e' ▸ n2), Below.heap_setCell _ _ _ _ (e' ▸ n2)])
    rw [← hF]
    refine ⟨L.set k (q, .slice ia q.items.length ic), by rw [List.map_set], ?_, fun x hx => ?_⟩
    · rw [List.length_set]
      exact (own_slice hrow).sub fun b hb => by
        have := hrow.lt b hb
        exact ⟨.inr ⟨by omega, by omega⟩, rfl⟩
    · have hB := HB1.out
      rcases List.mem_or_eq_of_mem_set hx with hx | rfl
      · exact (HN.out x hx).sub fun b hb => ⟨.inl hb, (hFx b (by have := hS b hb; omega) (by have := hS b hb; omega) (by have := hS b hb; omega)).trans (hB.block b (hS b hb))⟩
      · exact HQ.out.sub fun b hb => ⟨.inl hb, (hFx b (by have := hS b hb; omega) (by have := hS b hb; omega) (by have := hS b hb; omega)).trans (hB.block b (hS b hb))⟩
  · iterate 6 refine Below.setCell ?_ (by simp <;> omega) _
    exact HB1.out
end Go.Proofs.Ytkddkpdfeeikhaa

/-
  tgref1.Done.
-/
namespace Go.Proofs.Ytkddkpdfeeikhaa
open Go.RowKit
set_option linter.unusedVariables false
set_option linter.unusedSimpArgs false

attribute [local go_sem ↓] Go.wp_at_zero Go.wp_at_succ

theorem given_out {id turn : Int} {x : IT} (h : givenB id turn x = true) : (x.id == id) = true ∧ (x.turn == turn) = true ∧ x.out = true := by
  simp only [givenB, Bool.and_eq_true] at h
  exact ⟨h.1.2, h.2, h.1.1⟩
theorem given_not {id turn : Int} {x : IT} (h : givenB id turn x = false) : (x.id == id) = false ∨ ((x.id == id) = true ∧ (x.turn == turn) = false) ∨ ((x.id == id) = true ∧ (x.turn == turn) = true ∧ x.out = false) := by
  simp only [givenB, Bool.and_eq_false_iff] at h
  cases h1 : (x.id == id)
  · exact .inl rfl
  · cases h2 : (x.turn == turn)
    · exact .inr (.inl ⟨rfl, rfl⟩)
    · cases h3 : x.out
      · exact .inr (.inr ⟨rfl, rfl, rfl⟩)
      · simp [h1, h2, h3] at h

set_option maxRecDepth 100000 in
set_option maxHeartbeats 3200000 in
theorem refDone_none (v : Value) (name : ByteArray) (limit id turn : Int) (its : List IT) (hlen : its.length ≤ 4194304) (hno : ∀ x ∈ its, givenB id turn x = false) (w : World) (hv : SliceI (Under w.heap.size) w v its) :
    Calls Try.prog 62 #[.agg #[.string name, .int .i64 limit, v], .int .i64 id, .int .i64 turn] w fun e w' => e = .returned (.tuple #[.agg #[.string ⟨#[]⟩, .int .i64 0, .slice none 0 0], .int .i64 6]) ∧ Below w.heap.size w w' := by
  have HV : Hid (SliceI (Under w.heap.size) w v its) := hv
  have HNO : Hid (∀ x ∈ its, givenB id turn x = false) := hno
  obtain ⟨va, vc, rfl⟩ := hv.shp
  clear hv hno
  obtain ⟨X, hX⟩ : ∃ X, X = (w.alloc (.cells #[.string name, .int .i64 limit, .slice va its.length vc] 76)).alloc (.cells #[.string ⟨#[]⟩, .int .i64 0, .slice none 0 0] 76) := ⟨_, rfl⟩
  have HX : Hid (X.heap.size = w.heap.size + 2 ∧ Below w.heap.size w X ∧ Blk X w.heap.size [.string name, .int .i64 limit, .slice va its.length vc] ∧ Blk X (w.heap.size + 1) [.string ⟨#[]⟩, .int .i64 0, .slice none 0 0]) := by
    subst hX
    refine ⟨by simp, (below_alloc _ _).alloc (by simp) _, (Blk.new _ _ _).alloc _, ?_⟩
    have := Blk.new (w.alloc (.cells #[.string name, .int .i64 limit, .slice va its.length vc] 76)) [.string ⟨#[]⟩, .int .i64 0, .slice none 0 0] 76
    simpa using this
  go_enter Try.func62, Try.ntmps62
  go_wp2
  go_loopw [13] (fun x wr => ∃ k : Nat, k ≤ its.length ∧ x = .int .i64 k ∧ Below X.heap.size X wr) (fun x _ => its.length - (intOf x).toNat)
  case atStart => exact ⟨0, Nat.zero_le _, rfl, by rw [hX]; exact Below.refl _ _⟩
  case round =>
    obtain ⟨k, hk, rfl, hbr⟩ := hrel
    have hzr := hbr.size
    have hzx := HX.out.1
    clear hX
    have HB : Hid (Below w.heap.size w wr) := HX.out.2.1.trans (hbr.mono (by omega))
    by_cases hlt : k < its.length
    · have ho := HNO.out _ (List.getElem_mem hlt)
      obtain ⟨b, off, pa, pc, qa, qc, rfl, hS, hn, ⟨c0, c1, c2, c3⟩, c4, c5, c6⟩ := (SliceI.sub (T := Under w.heap.size) HV.out (fun x hx => ⟨hx, HB.out.block x hx⟩)).at k hlt
      clear hn
      rcases given_not ho with e1 | ⟨e1, e2⟩ | ⟨e1, e2, e3⟩
      · go_wp2
        go_roundw
        case rel => exact ⟨k + 1, by omega, by go_num, hbr.trans ((below_alloc _ _).mono hzr)⟩
        case measure => simp [intOf]; omega
      · go_wp2
        go_roundw
        case rel => exact ⟨k + 1, by omega, by go_num, hbr.trans ((below_alloc _ _).mono hzr)⟩
        case measure => simp [intOf]; omega
      · rw [e3] at c3
        go_wp2
        go_roundw
        case rel => exact ⟨k + 1, by omega, by go_num, hbr.trans ((below_alloc _ _).mono hzr)⟩
        case measure => simp [intOf]; omega
    · obtain ⟨b0, b1, b2, b3, b4⟩ := (HX.out.2.2.2.below hbr (by omega)).b3
      go_wp2
      refine bodyPost_ret (v := .tuple #[.agg #[.string ⟨#[]⟩, .int .i64 0, .slice none 0 0], .int .i64 6]) (by simp [results, Try.results62, go_sem, *]; done) rfl ⟨rfl, ?_⟩
      iterate 3 refine Below.setCell ?_ (by simp <;> omega) _
      exact HB.out

end Go.Proofs.Ytkddkpdfeeikhaa
