/-
  tgref1.Purge.
-/
import Derived.Test.YtefankjmlbkldaaItemsRef
namespace Go.Proofs.Ytefankjmlbkldaa
open Go.RowKit
set_option linter.unusedVariables false
set_option linter.unusedSimpArgs false

attribute [local go_sem ↓] Go.wp_at_zero Go.wp_at_succ

/-- What holds in tgref1.Purge behind k items. -/
structure PI (w : World) (name : ByteArray) (limit : Int) (va : Option Addr) (n vc : Nat) (L : ItL) (k : Nat) (wr : World) (lv gv : Value) : Prop where
  bel : Below w.heap.size w wr
  q : Blk wr w.heap.size [.string name, .int .i64 limit, .slice va n vc]
  res : Blk wr (w.heap.size + 1) [.string ⟨#[]⟩, .int .i64 0, .slice none 0 0]
  lo : wr.ownsRow (w.heap.size + 2) 64 7 lv ((L.take k).filter (fun x => x.1.out)).length (cellsI ((L.take k).filter (fun x => x.1.out)))
  go : wr.ownsRow (w.heap.size + 2) 3 1 gv (goneL ((L.take k).map Prod.fst)).length (ints (goneL ((L.take k).map Prod.fst)))
  apart : ∀ b, lv.ownBlock = some b → gv.ownBlock ≠ some b

section
variable {w : World} {name : ByteArray} {limit : Int} {va : Option Addr} {n vc : Nat} {L : ItL} {k : Nat} {wr : World} {lv gv : Value}

/-- Memory that is new alone. -/
theorem PI.on (h : PI w name limit va n vc L k wr lv gv) {W : World} (hb : Below wr.heap.size wr W) : PI w name limit va n vc L k W lv gv :=
  ⟨h.bel.trans (hb.mono h.bel.size), h.q.below hb h.q.lt, h.res.below hb h.res.lt, own_below h.lo hb, own_below h.go hb, h.apart⟩

theorem PI.stay (h : PI w name limit va n vc L k wr lv gv) (hk : k < L.length) (ho : L[k].1.out = true) {m : Nat} (hm0 : m = ((L.take k).filter (fun x => x.1.out)).length) {W : World} {ao : Option Addr} {cap : Nat}
    (h1 : W.ownsRow (w.heap.size + 2) 64 7 (.slice ao (m + 1) cap) (m + 1) (cellsI ((L.take k).filter (fun x => x.1.out)) ++ L[k].1.cells L[k].2)) (hg : wr.grownBy W lv.ownBlock) (hm : Moved wr lv (.slice ao (m + 1) cap)) :
    PI w name limit va n vc L (k + 1) W (.slice ao (m + 1) cap) gv := by
  subst hm0
  have hl := h.lo.lt
  have hz := h.res.lt
  have nb : ∀ b, b < w.heap.size + 2 → W.heap[b]? = wr.heap[b]? := fun b hb => hg.block b (by omega) (fun e => by have := (hl b e.symm).1; omega)
  have ef : (L.take (k + 1)).filter (fun x => x.1.out) = (L.take k).filter (fun x => x.1.out) ++ [L[k]] := by
    rw [List.take_succ_eq_append_getElem hk, List.filter_append]; simp [ho]
  have eg : goneL ((L.take (k + 1)).map Prod.fst) = goneL ((L.take k).map Prod.fst) := by
    rw [List.take_succ_eq_append_getElem hk, List.map_append]
    show goneL (_ ++ [L[k].1]) = _
    rw [goneL_snoc, ho]; simp
  refine ⟨h.bel.trans ⟨hg.os, hg.tape, hg.output, hg.size, fun b hb => nb b (by omega)⟩, h.q.same (nb _ (by omega)), h.res.same (nb _ (by omega)), ?_, ?_, fun b hb e => ?_⟩
  · rw [ef, List.length_append, cellsI_snoc]; exact h1
  · rw [eg]
    refine ⟨h.go.1, ?_⟩
    rcases h.go.2 with h2 | ⟨g, c, cur, e, hbg, hgg, hr⟩
    · exact .inl h2
    · exact .inr ⟨g, c, cur, e, hbg, (hg.block g (Array.getElem?_eq_some_iff.1 hgg).1 (fun e2 => h.apart g e2.symm (by rw [e]; rfl))).trans hgg, hr⟩
  · rcases hm b hb with h2 | h2
    · exact h.apart b h2 e
    · have := (h.go.lt b e).2; omega

theorem PI.gone (h : PI w name limit va n vc L k wr lv gv) (hk : k < L.length) (ho : L[k].1.out = false) {m : Nat} (hm0 : m = (goneL ((L.take k).map Prod.fst)).length) {W : World} {ao : Option Addr} {cap : Nat}
    (h1 : W.ownsRow (w.heap.size + 2) 3 1 (.slice ao (m + 1) cap) (m + 1) (ints (goneL ((L.take k).map Prod.fst)) ++ [.int .i64 L[k].1.id])) (hg : wr.grownBy W gv.ownBlock) (hm : Moved wr gv (.slice ao (m + 1) cap)) :
    PI w name limit va n vc L (k + 1) W lv (.slice ao (m + 1) cap) := by
  subst hm0
  have hl := h.go.lt
  have hz := h.res.lt
  have nb : ∀ b, b < w.heap.size + 2 → W.heap[b]? = wr.heap[b]? := fun b hb => hg.block b (by omega) (fun e => by have := (hl b e.symm).1; omega)
  have ef : (L.take (k + 1)).filter (fun x => x.1.out) = (L.take k).filter (fun x => x.1.out) := by
    rw [List.take_succ_eq_append_getElem hk, List.filter_append]; simp [ho]
  have eg : goneL ((L.take (k + 1)).map Prod.fst) = goneL ((L.take k).map Prod.fst) ++ [L[k].1.id] := by
    rw [List.take_succ_eq_append_getElem hk, List.map_append]
    show goneL (_ ++ [L[k].1]) = _
    rw [goneL_snoc, ho]; simp
  refine ⟨h.bel.trans ⟨hg.os, hg.tape, hg.output, hg.size, fun b hb => nb b (by omega)⟩, h.q.same (nb _ (by omega)), h.res.same (nb _ (by omega)), ?_, ?_, fun b hb e => ?_⟩
  · rw [ef]
    refine ⟨h.lo.1, ?_⟩
    rcases h.lo.2 with h2 | ⟨g, c, cur, e, hbg, hgg, hr⟩
    · exact .inl h2
    · exact .inr ⟨g, c, cur, e, hbg, (hg.block g (Array.getElem?_eq_some_iff.1 hgg).1 (fun e2 => h.apart g (by rw [e]; rfl) e2.symm)).trans hgg, hr⟩
  · have : ints (goneL ((L.take k).map Prod.fst) ++ [L[k].1.id]) = ints (goneL ((L.take k).map Prod.fst)) ++ [.int .i64 L[k].1.id] := by simp [ints]
    rw [eg, List.length_append, this]; exact h1
  · rcases hm b e with h2 | h2
    · exact h.apart b hb h2
    · have := (h.lo.lt b hb).2; omega
end

set_option maxRecDepth 100000 in
set_option maxHeartbeats 3200000 in
theorem refPurge_any (v : Value) (name : ByteArray) (limit : Int) (its : List IT) (hlen : its.length ≤ 1000) (w : World) (hv : SliceI (Under w.heap.size) w v its) :
    Calls Try.prog 50 #[.agg #[.string name, .int .i64 limit, v]] w fun e w' => ∃ v' u, e = .returned (.tuple #[.agg #[.string name, .int .i64 limit, v'], u]) ∧ SliceI (Under w'.heap.size) w' v' (its.filter IT.out) ∧ SliceV (Under w'.heap.size) w' u (goneL its).length (ints (goneL its)) ∧ Below w.heap.size w w' := by
  obtain ⟨i0, hi0, hz0, hz1, hz2⟩ := info_parts info34
  obtain ⟨j0, hj0, hy0, hy1, hy2⟩ := info_parts info3
  obtain ⟨L, rfl, hL⟩ := hv
  have HL : Hid (SliceL (Under w.heap.size) w v L) := hL
  obtain ⟨va, vc, rfl, -⟩ := hL.1.shape
  have hln : L.length ≤ 1000 := by simpa using hlen
  clear hL hlen
  have HP0 : Hid (PI w name limit va L.length vc L 0 ((w.alloc (.cells #[.string name, .int .i64 limit, .slice va L.length vc] 54)).alloc (.cells #[.string ⟨#[]⟩, .int .i64 0, .slice none 0 0] 54)) (.slice none 0 0) (.slice none 0 0)) := by
    refine ⟨(below_alloc _ _).alloc (by simp) _, (Blk.new _ _ _).alloc _, ?_, World.ownsRow_nil _ _ _ _, World.ownsRow_nil _ _ _ _, fun b hb => by simp [Value.ownBlock] at hb⟩
    have := Blk.new (w.alloc (.cells #[.string name, .int .i64 limit, .slice va L.length vc] 54)) [.string ⟨#[]⟩, .int .i64 0, .slice none 0 0] 54
    simpa using this
  go_enter Try.func50, Try.ntmps50
  go_wp2
  go_loopw [4, 5, 11] (fun lv gv x wr => ∃ k : Nat, k ≤ L.length ∧ x = .int .i64 k ∧ PI w name limit va L.length vc L k wr lv gv) (fun _ _ x _ => L.length - (intOf x).toNat)
  case atStart => exact ⟨0, Nat.zero_le _, rfl, HP0.out⟩
  case round =>
    obtain ⟨k, hk, rfl, hP⟩ := hrel
    have HP : Hid (PI w name limit va L.length vc L k wr u4 u5) := hP
    have hbw := hP.bel
    have hzw := hbw.size
    obtain ⟨la, lc, rfl, -⟩ := own_shape hP.lo
    obtain ⟨ga, gc, rfl, -⟩ := own_shape hP.go
    obtain ⟨nl, hnl⟩ : ∃ nl, nl = ((L.take k).filter (fun x => x.1.out)).length := ⟨_, rfl⟩
    obtain ⟨ng, hng⟩ : ∃ ng, ng = (goneL ((L.take k).map Prod.fst)).length := ⟨_, rfl⟩
    have hn1 : nl ≤ 1000 := by
      have h1 := List.length_filter_le (fun x : IT × (Value × Value) => x.1.out) (L.take k)
      have h2 := List.length_take_le k L
      have h3 : (L.take k).length ≤ L.length := by simp; omega
      omega
    have hn2 : ng ≤ 1000 := by
      have h1 := goneL_len ((L.take k).map Prod.fst)
      have h3 : ((L.take k).map Prod.fst).length ≤ L.length := by simp; omega
      omega
    have HLO : Hid (wr.ownsRow (w.heap.size + 2) 64 7 (.slice la nl lc) nl (cellsI ((L.take k).filter (fun x => x.1.out)))) := by rw [hnl]; exact hP.lo
    have HGO : Hid (wr.ownsRow (w.heap.size + 2) 3 1 (.slice ga ng gc) ng (ints (goneL ((L.take k).map Prod.fst)))) := by rw [hng]; exact hP.go
    have HP2 : Hid (PI w name limit va L.length vc L k wr (.slice la nl lc) (.slice ga ng gc)) := by rw [hnl, hng]; exact hP
    have HNL : Hid (nl = ((L.take k).filter (fun x => x.1.out)).length) := hnl
    have HNG : Hid (ng = (goneL ((L.take k).map Prod.fst)).length) := hng
    have hrl := hP.res.lt
    by_cases hlt : k < L.length
    · rw [← hnl, ← hng]
      obtain ⟨b, off, rfl, hS, ⟨c0, c1, c2, c3⟩, c4, c5, c6⟩ := (SliceL.sub (T := Under w.heap.size) HL.out (fun x hx => ⟨hx, hbw.block x hx⟩)).at k hlt
      have hnote := HL.out.2 L[k] (List.getElem_mem hlt)
      obtain ⟨pa, pc, e1, -⟩ := SliceV.shape hnote.1
      obtain ⟨qa, qc, e2, -⟩ := SliceV.shape hnote.2
      have hpq : L[k].2 = (.slice pa L[k].1.note.props.length pc, .slice qa L[k].1.note.body.length qc) := by rw [← e1, ← e2]
      have HPQ : Hid (L[k].2 = (.slice pa L[k].1.note.props.length pc, .slice qa L[k].1.note.body.length qc)) := hpq
      rw [e1] at c5
      rw [e2] at c6
      clear hP HP hnote e1 e2 hpq hnl hng
      cases ho : L[k].1.out
      · rw [ho] at c3
        go_wp2_with (at_builtin; refine wpList_appV rfl (.tmp 21) (.tmp 24) 73 rfl 3 j0 _ 1 8 Try.underlying73 hj0 hy0 hy1 hy2 rfl (by omega) (w.heap.size + 2) (.slice ga ng gc) ng (ints (goneL ((L.take k).map Prod.fst))) rfl (own_below (own_below HGO.out (below_alloc _ _)) (below_alloc _ _)) (fun _ => True) (.slice (some ⟨wr.heap.size + 1, 0, none⟩) 1 1) 1 [.int .i64 L[k].1.id] rfl (one_slice' _ _ _ _ (by simp)) rfl (by simp [Value.oneCell']) (by unfold maxLen; omega) (by omega) (by simp <;> omega) ?_; intro ao cap w1 ho1 hg1 hm1)
        go_roundw
        case rel =>
          exact ⟨k + 1, by omega, by go_num, PI.gone ((HP2.out.on (below_alloc _ _)).on (below_alloc _ _)) hlt ho HNG.out ho1 hg1 hm1⟩
        case measure => simp [intOf]; omega
      · rw [ho] at c3
        go_wp2_with (at_builtin; refine wpList_appV rfl (.tmp 17) (.tmp 19) 52 rfl 64 i0 _ 7 88 Try.underlying52 hi0 hz0 hz1 hz2 rfl (by omega) (w.heap.size + 2) (.slice la nl lc) nl (cellsI ((L.take k).filter (fun x => x.1.out))) rfl (own_below (own_below HLO.out (below_alloc _ _)) (below_alloc _ _)) (fun _ => True) (.slice (some ⟨wr.heap.size + 1, 0, none⟩) 1 1) 1 (L[k].1.cells L[k].2) rfl (by have h := row7_slice (wr.alloc (.cells #[.int .i64 L[k].1.id, .int .i64 L[k].1.turn, .int .i64 L[k].1.tries, .bool true, .int .i64 L[k].1.due, .slice pa L[k].1.note.props.length pc, .slice qa L[k].1.note.body.length qc] 64)) L[k].1 (.slice pa L[k].1.note.props.length pc) (.slice qa L[k].1.note.body.length qc); rw [ho, ← HPQ.out] at h; simpa using h) rfl (by rw [HPQ.out]; simp [IT.cells, Value.oneCell']) (by unfold maxLen; omega) (by omega) (by simp <;> omega) ?_; intro ao cap w1 ho1 hg1 hm1)
        go_roundw
        case rel =>
          exact ⟨k + 1, by omega, by go_num, PI.stay ((HP2.out.on (below_alloc _ _)).on (below_alloc _ _)) hlt ho HNL.out ho1 hg1 hm1⟩
        case measure => simp [intOf]; omega
    · obtain rfl : k = L.length := by omega
      obtain ⟨q0, q1, q2, q3, q4⟩ := hP.q.b3
      obtain ⟨r0, r1, r2, r3, r4⟩ := hP.res.b3
      rw [← hnl, ← hng]
      clear hP HP hnl hng
      go_wp2
      refine bodyPost_ret (v := .tuple #[.agg #[.string name, .int .i64 limit, .slice la nl lc], .slice ga ng gc]) (by simp [results, Try.results50, go_sem, *]; done) rfl ⟨_, _, rfl, ⟨L.filter (fun x => x.1.out), ?_, ?_, fun x hx => ?_⟩, ?_, ?_⟩
      · rw [List.filter_map]; rfl
      · have h := own_slice HLO.out
        have e := HNL.out
        rw [List.take_of_length_le (Nat.le_refl _)] at h e
        rw [← e]
        refine h.sub fun i hi => ?_
        have h1 := HLO.out.lt i hi
        refine ⟨by show i < _; simpa using h1.2, ?_⟩
        iterate 4 rw [Below.heap_setCell _ _ _ _ (by simp; omega)]
      · refine (HL.out.2 x (List.mem_filter.1 hx).1).sub fun i hi => ?_
        have hi' : i < w.heap.size := hi
        refine ⟨by show i < _; simp; omega, ?_⟩
        iterate 4 rw [Below.heap_setCell _ _ _ _ (by simp; omega)]
        exact hbw.block i hi'
      · have h := own_slice HGO.out
        have e := HNG.out
        rw [List.take_of_length_le (Nat.le_refl _)] at h e
        rw [← e]
        refine h.sub fun i hi => ?_
        have h1 := HGO.out.lt i hi
        refine ⟨by show i < _; simpa using h1.2, ?_⟩
        iterate 4 rw [Below.heap_setCell _ _ _ _ (by simp; omega)]
      · iterate 4 refine Below.setCell ?_ (by simp <;> omega) _
        exact hbw
end Go.Proofs.Ytefankjmlbkldaa
