/-
  FaceB; FaceP; DeleteQ: texts laid together.
-/
import Derived.Test.YtkddkpdfeeikhaaJTellsProofM09
import Derived.Test.YtkddkpdfeeikhaaJTellsProofM10
import Derived.Test.YtkddkpdfeeikhaaJTellsProofM06
/-
  hall.Put and hall.Back.
-/
namespace Go.Proofs.Ytkddkpdfeeikhaa
open Go.RowKit
set_option linter.unusedVariables false
set_option linter.unusedSimpArgs false

attribute [local go_sem ↓] Go.wp_at_zero Go.wp_at_succ

/-- What a change in the box comes to, for 'changed'. -/
theorem in_alter {P G : Nat → Prop} {hb B : Nat} {W w' : World} {g n cap : Nat} {h : HD} {es : List ED} {ev : Value} (H : InAns P hb W (.slice (some ⟨g, 0, none⟩) n cap) h es ev w') (hP : ∀ b, P b → B ≤ b) (hg : P g) (hbB : B ≤ hb) (hB : B ≤ W.heap.size) :
    ∃ ea en ec, ev = .slice ea en ec ∧ (∃ va vn vc, Blk w' hb [.slice va vn vc, .int .i64 h.next] ∧ SliceQ (fun b => B ≤ b ∧ b < w'.heap.size) w' (.slice va vn vc) h.queues ∧ SliceE (fun b => B ≤ b ∧ b < w'.heap.size) w' (.slice ea en ec) es) ∧ Keep (fun b => b < B ∧ ¬ G b) W w' := by
  obtain ⟨ea, ec, rfl⟩ := H.shp
  obtain ⟨L, P', e, h1, h2, hH, hE, hK⟩ := H
  have hPB : ∀ b, P' b → B ≤ b := fun b hb' => by
    rcases h2 b hb' with h | h
    · exact hP b h
    · have := h.1; omega
  refine ⟨ea, _, ec, rfl, ⟨_, _, _, hH.box, ?_, hE.sub fun b hb' => ⟨⟨by have := hb'.1.1; omega, hb'.1.2⟩, rfl⟩⟩, ⟨hK.os, hK.tape, hK.output, hK.size, fun b hb' => hK.block b ⟨by omega, fun e' => ?_, by omega⟩⟩⟩
  · rw [← e]; exact hH.slice.sub fun b hb' => ⟨⟨hPB b hb', hH.lt b hb'⟩, rfl⟩
  · simp [Value.ownBlock] at e'
    have := hP g hg
    omega

/-- What is done at the place of a queue; there may be none. -/
def faceF (h : HD) (name : ByteArray) (f : Nat → QD → HD × List ED × Int) : HD × List ED × Int :=
  match h.queues.findIdx? (nameB name) with
  | none => refuse 6
  | some k => match h.queues[k]? with
    | none => refuse 6
    | some q => failF (f k q)
theorem faceF_none {h : HD} {name : ByteArray} {f : Nat → QD → HD × List ED × Int} (hd : idxQ name h.queues = -1) : faceF h name f = refuse 6 := by
  unfold faceF
  cases hf : h.queues.findIdx? (nameB name) with
  | none => rfl
  | some k => simp [idxQ, hf] at hd
theorem faceF_some {h : HD} {name : ByteArray} {f : Nat → QD → HD × List ED × Int} {k : Nat} (hd : idxQ name h.queues = (k : Int)) (hk : k < h.queues.length) : faceF h name f = failF (f k h.queues[k]) := by
  unfold faceF
  cases hf : h.queues.findIdx? (nameB name) with
  | none => simp [idxQ, hf] at hd
  | some j =>
    simp only [idxQ, hf] at hd
    have : j = k := by omega
    subst this
    simp [List.getElem?_eq_getElem hk]

end Go.Proofs.Ytkddkpdfeeikhaa

/-
  hall.Put.
-/
namespace Go.Proofs.Ytkddkpdfeeikhaa
open Go.RowKit
set_option linter.unusedVariables false
set_option linter.unusedSimpArgs false

attribute [local go_sem ↓] Go.wp_at_zero Go.wp_at_succ

theorem cellsL_at (L : List PD) (k j : Nat) (hk : k < L.length) (hj : j < 4) : (cellsL L)[k * 4 + j]? = (L[k].cells)[j]? := flat_at _ 4 (fun _ => rfl) L k j hk hj

theorem props_at {B : Nat} {w : World} {a : Option Addr} {n c : Nat} {ps : List PD} (h : SliceP (Under B) w (.slice a n c) ps) : PropsAt B w a ps := by
  intro i hi
  obtain ⟨a', cap', e, _, _, _, h3⟩ := h
  simp only [Value.slice.injEq] at e
  obtain ⟨rfl, -, rfl⟩ := e
  have hl := cellsL_len ps
  obtain ⟨b, off, rfl, hs, _⟩ := h3 (i * 4) (by omega)
  have key : ∀ j (hj : j < 4), w.cell? ⟨b, off + i * 4 + j, none⟩ = (ps[i].cells)[j]? := fun j hj => by
    obtain ⟨b', off', e, _, hc⟩ := h3 (i * 4 + j) (by omega)
    simp only [Option.some.injEq, Addr.mk.injEq] at e
    obtain ⟨rfl, rfl, -⟩ := e
    rw [← cellsL_at ps i j hi hj, List.getElem?_eq_getElem (by omega), ← hc]
    congr 2; omega
  exact ⟨b, off, rfl, hs, key 0 (by omega), key 1 (by omega), key 2 (by omega), key 3 (by omega)⟩

def ND.wrong (n : ND) : Int := wrongN n.props n.body.length
def ND.fitN (n : ND) : Prop := ∀ p ∈ n.props, p.fitN

theorem wrong_small {n : ND} (h : n.wrong = 0) : n.small := by
  unfold ND.wrong wrongN at h
  split at h
  · simp at h
  · split at h
    · split at h
      · simp at h
      · exact ⟨by omega, by omega⟩
    · rename_i h1 h2
      simp [h] at h2

end Go.Proofs.Ytkddkpdfeeikhaa

/-
  slices.Delete of a row of queues.
-/
namespace Go.Proofs.Ytkddkpdfeeikhaa
open Go.RowKit
set_option linter.unusedVariables false
set_option linter.unusedSimpArgs false

attribute [local go_sem ↓] Go.wp_at_zero Go.wp_at_succ

theorem zero25q (w : World) : (zeroValue 76).run Try.prog w = .ok (.agg #[.string ⟨#[]⟩, .int .i64 0, .slice none 0 0]) w := by kernel_rfl

def zero3q : List Value := [.string ⟨#[]⟩, .int .i64 0, .slice none 0 0]

theorem run_clear3 (w : World) (ty : TypeId) (g off c : Nat) (cur : Array Value) (hg : w.heap[g]? = some (.cells cur 76 (0, 0))) (hf : off + 3 ≤ cur.size) :
    (Builtin.clear_ #[22] ty #[.slice (some ⟨g, off, none⟩) 1 c]).run Try.prog w = .ok (.tuple #[]) (w.setRow g (cur.toList.take off ++ zero3q ++ cur.toList.drop (off + 3)).toArray) := by
  have hst := run_storeCells_at Try.prog g off 76 zero3q 0 cur w hg (by simpa [zero3q] using hf) (by simp [zero3q, Value.oneCell'])
  simp only [Nat.add_zero] at hst
  have hz : (Builtin.zeroCells (Value.agg #[.string ⟨#[]⟩, .int .i64 0, .slice none 0 0]).cells 1).toList = zero3q := by simp [Builtin.zeroCells, Value.cells, zero3q]; rfl
  simp [Builtin.clear_, run_underlying Try.underlying22, zero25q, hz, hst]
  simp [zero3q]

/-- The row without one element. -/
theorem del_list3 {α : Type} (cs xs z : List α) (i m : Nat) (hx : cs.take ((i + m + 1) * 3) = xs) (hl : xs.length = (i + m + 1) * 3) (hz : z.length = 3) :
    let c1 := cs.take (i * 3) ++ xs.drop ((i + 1) * 3) ++ cs.drop (i * 3 + (xs.drop ((i + 1) * 3)).length)
    let c2 := c1.take ((i + m) * 3) ++ z ++ c1.drop ((i + m) * 3 + 3)
    c1.length = cs.length ∧ c2.length = cs.length ∧ c2.take ((i + m) * 3) = xs.take (i * 3) ++ xs.drop ((i + 1) * 3) := by
  have hcl : (i + m + 1) * 3 ≤ cs.length := by
    rw [← hx, List.length_take] at hl; omega
  have e1 : cs.take (i * 3) = xs.take (i * 3) := by
    rw [← hx, List.take_take]; congr 1; omega
  have l1 : (xs.drop ((i + 1) * 3)).length = m * 3 := by simp [hl]; omega
  intro c1 c2
  have hc1 : c1.length = cs.length := by simp only [c1, List.length_append, List.length_take, List.length_drop, hl]; omega
  have ht : c1.take ((i + m) * 3) = xs.take (i * 3) ++ xs.drop ((i + 1) * 3) := by
    simp only [c1, e1]
    rw [List.take_append_of_le_length (by simp [hl]; omega), List.take_of_length_le (by simp [hl]; omega)]
  refine ⟨hc1, ?_, ?_⟩
  · simp only [c2, List.length_append, List.length_take, List.length_drop, hc1, hz]; omega
  · simp only [c2]
    rw [List.append_assoc, List.take_append_of_le_length (by simp [hc1]; omega), List.take_take, Nat.min_self, ht]

set_option maxRecDepth 100000 in
set_option maxHeartbeats 3200000 in
theorem deleteQ_any (base g i m cap : Nat) (xs : List Value) (w : World) (h : w.ownsRow base 76 3 (.slice (some ⟨g, 0, none⟩) (i + m + 1) cap) (i + m + 1) xs) (h1 : ∀ u ∈ xs, u.oneCell' = true) (hn : i + m + 1 ≤ 4194304) :
    Calls Try.prog 79 #[.slice (some ⟨g, 0, none⟩) (i + m + 1) cap, .int .i64 i, .int .i64 (i + 1)] w fun e w' => e = .returned (.slice (some ⟨g, 0, none⟩) (i + m) cap) ∧
      w'.ownsRow base 76 3 (.slice (some ⟨g, 0, none⟩) (i + m) cap) (i + m) (xs.take (i * 3) ++ xs.drop ((i + 1) * 3)) ∧ w.grownBy w' (some g) := by
  obtain ⟨i0, hi0, hz0, hz1, hz2⟩ := info_parts info25
  obtain ⟨hl, hr⟩ := h
  rcases hr with ⟨e, -⟩ | ⟨g', cap', cur, e, hb, hg, hnc, hcm, hcs, hx⟩
  · simp at e
  simp only [Value.slice.injEq, Option.some.injEq, Addr.mk.injEq, and_true, true_and] at e
  obtain ⟨rfl, rfl⟩ := e
  obtain ⟨d1, d2, d3⟩ := del_list3 cur.toList xs zero3q i m hx hl rfl
  obtain ⟨c1, hc1⟩ : ∃ c1, c1 = cur.toList.take (i * 3) ++ xs.drop ((i + 1) * 3) ++ cur.toList.drop (i * 3 + (xs.drop ((i + 1) * 3)).length) := ⟨_, rfl⟩
  obtain ⟨c2, hc2⟩ : ∃ c2, c2 = c1.take ((i + m) * 3) ++ zero3q ++ c1.drop ((i + m) * 3 + 3) := ⟨_, rfl⟩
  rw [← hc1] at d1 d2 d3
  rw [← hc2] at d2 d3
  have hnews : ∀ j u, (xs.drop ((i + 1) * 3))[j]? = some u → w.drew.cell? ((⟨g, (i + 1) * 3, none⟩ : Addr).add j) = some u := by
    intro j u hj
    rw [List.getElem?_drop] at hj
    rw [add_none]
    show w.cell? _ = _
    rw [cell_of_row w g _ _ 76 (0, 0) hg, ← hj, ← hx, List.getElem?_take, if_pos (by have := (List.getElem?_eq_some_iff.1 hj).1; omega)]
    simp
  obtain ⟨A, hA, hnA⟩ : ∃ A : Addr, (if cap = i + 1 then some (⟨g, 0, none⟩ : Addr) else some ⟨g, (i + 1) * 3, none⟩) = some A ∧ ∀ j u, (xs.drop ((i + 1) * 3))[j]? = some u → w.drew.cell? (A.add j) = some u := by
    by_cases hc : cap = i + 1
    · refine ⟨⟨g, 0, none⟩, by simp [hc], fun j u hj => ?_⟩
      have := (List.getElem?_eq_some_iff.1 hj).1
      simp [hl] at this
      omega
    · exact ⟨⟨g, (i + 1) * 3, none⟩, by simp [hc], hnews⟩
  have hrun : ∀ ty, (Builtin.append_ #[22, 22] ty #[.slice (some ⟨g, 0, none⟩) i cap, .slice (some A) m (cap - (i + 1))]).run Try.prog w.drew = .ok (.slice (some ⟨g, 0, none⟩) (i + m) cap) (w.drew.setRow g c1.toArray) := fun ty => by
    have := run_append_room (P := Try.prog) w.drew 22 ty 76 i0 Try.underlying22 hi0 g i cap cur hg A m (cap - (i + 1)) (xs.drop ((i + 1) * 3)) (by rw [hz1]; simp [hl]; omega) hnA (fun u hu => h1 u (List.mem_of_mem_drop hu)) (by omega) (by rw [hz1]; simp [hl, hcs]; omega)
    rw [this, hc1, hz1]
  have hg1 : (w.drew.setRow g c1.toArray).heap[g]? = some (.cells c1.toArray 76 (0, 0)) := setRow_heap w.drew g cur _ 76 _ hg
  obtain ⟨W1, hW1⟩ : ∃ W1, W1 = w.drew.setRow g c1.toArray := ⟨_, rfl⟩
  have HW1 : Hid (W1 = w.drew.setRow g c1.toArray) := hW1
  rw [← hW1] at hrun hg1
  have hcl : ∀ ty, (Builtin.clear_ #[22] ty #[.slice (some ⟨g, (i + m) * 3, none⟩) 1 (cap - (i + m))]).run Try.prog W1 = .ok (.tuple #[]) (W1.setRow g c2.toArray) := fun ty => by
    have := run_clear3 W1 ty g ((i + m) * 3) (cap - (i + m)) c1.toArray hg1 (by simp [d1, hcs]; omega)
    rw [this, hc2]
  have HR : Hid (∀ ty, (Builtin.append_ #[22, 22] ty #[.slice (some ⟨g, 0, none⟩) i cap, .slice (some A) m (cap - (i + 1))]).run Try.prog w.drew = .ok (.slice (some ⟨g, 0, none⟩) (i + m) cap) W1) := hrun
  have HC : Hid (∀ ty, (Builtin.clear_ #[22] ty #[.slice (some ⟨g, (i + m) * 3, none⟩) 1 (cap - (i + m))]).run Try.prog W1 = .ok (.tuple #[]) (W1.setRow g c2.toArray)) := hcl
  have hne : ((i : Int) == (i : Int) + 1) = false := by simp; omega
  have HL : Hid (xs.length = (i + m + 1) * 3) := hl
  clear hrun hW1 hnA hnews hc1 hc2 hcl hx hl h1
  unfold maxLen at hcm
  have hic : i ≤ cap := by omega
  have hic1 : i + 1 ≤ cap := by omega
  have him : i + m ≤ cap := by omega
  have hnn : (0 : Int) ≤ (i : Int) + 1 := by omega
  have hnm : (i : Int) ≤ (i : Int) + (m : Int) := by omega
  have hne2 : ¬ cap = i + m := by omega
  go_enter Try.func79, Try.ntmps79
  go_wp2_with fail
  go_region_law (refine step_run (by rfl) _ _ (by rfl) (by rfl) (by rfl) (HR.out _) ?_)
  all_goals go_wp2_with (simp only [HC.out])
  go_ret
  refine ⟨rfl, ⟨?_, .inr ⟨g, cap, c2.toArray, rfl, hb, setRow_heap W1 g _ _ 76 _ hg1, him, by unfold maxLen; omega, by simp [d2, hcs], by simpa using d3⟩⟩, ?_⟩
  · have := HL.out
    simp [this]; omega
  · have e := HW1.out
    refine ⟨?_, ?_, ?_, ?_, fun k hk hn => ?_⟩
    · rw [e]; rfl
    · rw [e]; rfl
    · rw [e]; rfl
    · rw [e]; simp
    · have hkg : k ≠ g := fun h => hn (by rw [h])
      rw [setRow_other W1 g k _ hkg, e, setRow_other w.drew g k _ hkg]
      rfl
end Go.Proofs.Ytkddkpdfeeikhaa
