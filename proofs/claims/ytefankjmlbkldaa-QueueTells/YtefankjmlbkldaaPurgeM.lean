/-
  Purge's two answers, the numbers in what it made.
-/
import Derived.Test.YtefankjmlbkldaaRefPurge
import Derived.Test.YtefankjmlbkldaaOff
namespace Go.Proofs.Ytefankjmlbkldaa
open Go.RowKit
set_option linter.unusedVariables false
set_option linter.unusedSimpArgs false

attribute [local go_sem ↓] Go.wp_at_zero Go.wp_at_succ

set_option maxRecDepth 100000 in
set_option maxHeartbeats 3200000 in
theorem purge_anyM (v : Value) (name : ByteArray) (limit : Int) (its : List IT) (w : World) (hv : SliceI (Under w.heap.size) w v its) (hs : smallI its) :
    Calls Try.prog 49 #[.agg #[.string name, .int .i64 limit, v]] w fun e w' => ∃ v' u, e = .returned (.tuple #[.agg #[.string name, .int .i64 limit, v'], u]) ∧ SliceI (Under w'.heap.size) w' v' (its.filter IT.out) ∧ SliceV (Made w.heap.size w'.heap.size) w' u (goneL its).length (ints (goneL its)) ∧ Below w.heap.size w w' := by
  obtain ⟨L, e, hL⟩ := hv
  subst e
  obtain ⟨hs1, hs2⟩ := hs
  have HL : Hid (SliceL (Under w.heap.size) w v L) := hL
  have HS : Hid (∀ x ∈ L, x.1.note.small) := fun x hx => hs2 _ (List.mem_map_of_mem hx)
  have HGS : Hid (Stays 80 [.pointer (some ⟨w.heap.size + 1 + 1, 0, none⟩)] IT.out (GoneR (w.heap.size + 1 + 1) (L.map Prod.fst)) (L.map Prod.fst)) := gone_stays _ _ hs1
  obtain ⟨va, vc, rfl, -⟩ := hL.1.shape
  have hlen : L.length ≤ 1000 := by simpa using hs1
  clear hL hs2 hs1
  have three : Hid (∀ o1 o2 o3 : Obj, Below w.heap.size w (((w.alloc o1).alloc o2).alloc o3)) := fun o1 o2 o3 => ((below_alloc _ _).alloc (by simp) _).alloc (by simp; omega) _
  have HR0 : Hid (∀ o1 o2, GoneR (w.heap.size + 1 + 1) (L.map Prod.fst) 0 (((w.alloc o1).alloc o2).alloc (.cells #[.slice none 0 0] 73)) (fun b => b = w.heap.size + 1 + 1)) := fun o1 o2 => by
    refine ⟨.slice none 0 0, ?_, World.ownsRow_nil _ _ _ _, fun b => by simp [Value.ownBlock]⟩
    have := Blk.new ((w.alloc o1).alloc o2) [.slice none 0 0] 73
    simpa using this
  go_enter Try.func49, Try.ntmps49
  go_wp2_with (go_at_call 68; refine (kept_any 80 [.pointer (some ⟨w.heap.size + 1 + 1, 0, none⟩)] IT.out (GoneR (w.heap.size + 1 + 1) (L.map Prod.fst)) (fun b => b = w.heap.size + 1 + 1) _ name limit L _ (HL.out.sub fun k hk => ⟨⟨?_, ?_⟩, (three.out _ _ _).block k hk⟩) HS.out hlen HGS.out (HR0.out _ _) (fun b h => ?_)).mono ?_; (simp [Under] at hk ⊢; omega); (simp [Under] at hk ⊢; omega); (subst h; simp); rintro e w1 ⟨vi, L', fp, rfl, hm1, ho1, hn1, hk1, hr1, hf1⟩; simp only [World.size_alloc] at ho1 hn1 hf1; obtain ⟨xa, xc, rfl, -⟩ := own_shape ho1; obtain ⟨gv, hg1, hgo, hgf⟩ := hr1; obtain ⟨ga, gc, rfl, -⟩ := own_shape hgo; have hz1 := hk1.size; simp only [World.size_alloc] at hz1; have hbk : ∀ b, b < w.heap.size + 1 + 1 → w1.heap[b]? = _ := (fun b hb => hk1.block b ⟨by simp; omega, by omega⟩); have hk2 := (((Blk.new (w.alloc _) _ 54).alloc _).same (hbk _ (by simp))); simp only [World.size_alloc] at hk2; have HB1 : Hid (Below w.heap.size w w1) := (three.out _ _ _).trans ⟨hk1.os, hk1.tape, hk1.output, hk1.size, fun b hb => hbk b (by omega)⟩; have hgw : w.heap.size + 1 + 1 < w1.heap.size := hg1.lt)
  have htk : (L.map Prod.fst).take L.length = L.map Prod.fst := List.take_of_length_le (by simp)
  rw [htk] at hg1 hgo
  obtain ⟨gl, hgl⟩ : ∃ gl, gl = goneL (L.map Prod.fst) := ⟨_, rfl⟩
  rw [← hgl] at hg1 hgo
  have HG : Hid (gl = goneL (L.map Prod.fst)) := hgl
  have HM : Hid (L'.map Prod.fst = (L.map Prod.fst).filter IT.out) := hm1
  obtain ⟨W2, hW2⟩ : ∃ W2, W2 = w1.alloc (.cells #[.string name, .int .i64 limit, .slice xa L'.length xc] 54) := ⟨_, rfl⟩
  have hzW : W2.heap.size = w1.heap.size + 1 := by rw [hW2]; simp
  have hbW : Below w1.heap.size w1 W2 := by rw [hW2]; exact below_alloc _ _
  have hq : Blk W2 w1.heap.size [.string name, .int .i64 limit, .slice xa L'.length xc] := by rw [hW2]; exact Blk.new _ _ _
  have HO : Hid (W2.ownsRow (w.heap.size + 1 + 1 + 1 + 3) 64 7 (.slice xa L'.length xc) L'.length (cellsI L')) := own_below ho1 hbW
  have HN : Hid (∀ x ∈ L', NoteIs (fun b => w.heap.size + 1 + 1 + 1 + 3 ≤ b ∧ b < w1.heap.size) W2 x.2 x.1.note) := fun x hx => (hn1 x hx).sub fun b hb => ⟨⟨hb.1, hb.2.1⟩, hbW.block b hb.2.1⟩
  have HGO : Hid (W2.ownsRow (w.heap.size + 1 + 1 + 1) 3 1 (.slice ga gl.length gc) gl.length (ints gl)) := own_below hgo hbW
  have HB2 : Hid (Below w.heap.size w W2) := HB1.out.trans (hbW.mono (by omega))
  obtain ⟨a0, a1, a2, a3, a4⟩ := hq.b3
  obtain ⟨b0, b1, b2, b3, b4⟩ := (hk2.below hbW (by omega)).b3
  obtain ⟨c0, c1, c2⟩ := (hg1.below hbW (by omega)).b1
  rw [← hW2]
  clear hW2 hq hk2 hg1 hgo ho1 hn1 hk1 hbk hgl hm1 hgf hf1 hbW htk HL HGS HR0 HB1
  go_region_law (fail)
  all_goals
    go_wp2
    refine bodyPost_ret (v := .tuple #[.agg #[.string name, .int .i64 limit, .slice xa L'.length xc], .slice ga gl.length gc]) (by simp [results, Try.results49, go_sem, *]; done) rfl ⟨.slice xa L'.length xc, .slice ga gl.length gc, rfl, ?_, ?_, ?_⟩
    · refine ⟨L', HM.out, (own_slice HO.out).sub fun k hk => ?_, fun x hx => (HN.out x hx).sub fun k hk => ?_⟩
      · have h1 := HO.out.lt k hk
        refine ⟨by show k < _; simpa using h1.2, ?_⟩
        show (((W2.setCell _ _).setCell _ _).setCell _ _).heap[k]? = _
        iterate 3 rw [Below.heap_setCell _ _ _ _ (by simp; omega)]
      · refine ⟨by show k < _; simp; omega, ?_⟩
        show (((W2.setCell _ _).setCell _ _).setCell _ _).heap[k]? = _
        iterate 3 rw [Below.heap_setCell _ _ _ _ (by simp; omega)]
    · rw [← HG.out]
      refine (own_slice HGO.out).sub fun k hk => ?_
      have h1 := HGO.out.lt k hk
      refine ⟨⟨by omega, by simpa using h1.2⟩, ?_⟩
      show (((W2.setCell _ _).setCell _ _).setCell _ _).heap[k]? = _
      iterate 3 rw [Below.heap_setCell _ _ _ _ (by simp; omega)]
    · refine Below.drew ?_
      iterate 3 refine Below.setCell ?_ (by simp <;> omega) _
      exact HB2.out
set_option maxRecDepth 100000 in
set_option maxHeartbeats 3200000 in
theorem refPurge_anyM (v : Value) (name : ByteArray) (limit : Int) (its : List IT) (hlen : its.length ≤ 1000) (w : World) (hv : SliceI (Under w.heap.size) w v its) :
    Calls Try.prog 50 #[.agg #[.string name, .int .i64 limit, v]] w fun e w' => ∃ v' u, e = .returned (.tuple #[.agg #[.string name, .int .i64 limit, v'], u]) ∧ SliceI (Under w'.heap.size) w' v' (its.filter IT.out) ∧ SliceV (Made w.heap.size w'.heap.size) w' u (goneL its).length (ints (goneL its)) ∧ Below w.heap.size w w' := by
  obtain ⟨i0, hi0, hz0, hz1, hz2⟩ := info_parts info34
  obtain ⟨j0, hj0, hy0, hy1, hy2⟩ := info_parts info3
  obtain ⟨L, rfl, hL⟩ := hv
  have HL : Hid (SliceL (Under w.heap.size) w v L) := hL
  obtain ⟨va, vc, rfl, -⟩ := hL.1.shape
  have hln : L.length ≤ 1000 := by simpa using hlen
  clear hL hlen
  have HP0 : Hid (PI w name limit va L.length vc L 0 ((w.alloc (.cells #[.string name, .int .i64 limit, .slice va L.length vc] 54)).alloc (.cells #[.string ⟨#[]⟩, .int .i64 0, .slice none 0 0] 54)) (.slice none 0 0) (.slice none 0 0)) := by
    refine ⟨(below_alloc _ _).alloc (by simp) _, (Blk.new _ _ _).alloc _, ?_, World.ownsRow_nil _ _ _ _, World.ownsRow_nil _ _ _ _, fun b hb => by simp [Value.ownBlock] at hb⟩
    have := Blk.new (w.alloc (.cells #[.string name, .int .i64 limit, .slice va L.length vc] 54)) [.string ⟨#[]⟩, .int .i64 0, .slice none 0 0] 54
    simpa using this
  go_enter Try.func50, Try.ntmps50
  go_wp2
  go_loopw [4, 5, 11] (fun lv gv x wr => ∃ k : Nat, k ≤ L.length ∧ x = .int .i64 k ∧ PI w name limit va L.length vc L k wr lv gv) (fun _ _ x _ => L.length - (intOf x).toNat)
  case atStart => exact ⟨0, Nat.zero_le _, rfl, HP0.out⟩
  case round =>
    obtain ⟨k, hk, rfl, hP⟩ := hrel
    have HP : Hid (PI w name limit va L.length vc L k wr u4 u5) := hP
    have hbw := hP.bel
    have hzw := hbw.size
    obtain ⟨la, lc, rfl, -⟩ := own_shape hP.lo
    obtain ⟨ga, gc, rfl, -⟩ := own_shape hP.go
    obtain ⟨nl, hnl⟩ : ∃ nl, nl = ((L.take k).filter (fun x => x.1.out)).length := ⟨_, rfl⟩
    obtain ⟨ng, hng⟩ : ∃ ng, ng = (goneL ((L.take k).map Prod.fst)).length := ⟨_, rfl⟩
    have hn1 : nl ≤ 1000 := by
      have h1 := List.length_filter_le (fun x : IT × (Value × Value) => x.1.out) (L.take k)
      have h2 := List.length_take_le k L
      have h3 : (L.take k).length ≤ L.length := by simp; omega
      omega
    have hn2 : ng ≤ 1000 := by
      have h1 := goneL_len ((L.take k).map Prod.fst)
      have h3 : ((L.take k).map Prod.fst).length ≤ L.length := by simp; omega
      omega
    have HLO : Hid (wr.ownsRow (w.heap.size + 2) 64 7 (.slice la nl lc) nl (cellsI ((L.take k).filter (fun x => x.1.out)))) := by rw [hnl]; exact hP.lo
    have HGO : Hid (wr.ownsRow (w.heap.size + 2) 3 1 (.slice ga ng gc) ng (ints (goneL ((L.take k).map Prod.fst)))) := by rw [hng]; exact hP.go
    have HP2 : Hid (PI w name limit va L.length vc L k wr (.slice la nl lc) (.slice ga ng gc)) := by rw [hnl, hng]; exact hP
    have HNL : Hid (nl = ((L.take k).filter (fun x => x.1.out)).length) := hnl
    have HNG : Hid (ng = (goneL ((L.take k).map Prod.fst)).length) := hng
    have hrl := hP.res.lt
    by_cases hlt : k < L.length
    · rw [← hnl, ← hng]
      obtain ⟨b, off, rfl, hS, ⟨c0, c1, c2, c3⟩, c4, c5, c6⟩ := (SliceL.sub (T := Under w.heap.size) HL.out (fun x hx => ⟨hx, hbw.block x hx⟩)).at k hlt
      have hnote := HL.out.2 L[k] (List.getElem_mem hlt)
      obtain ⟨pa, pc, e1, -⟩ := SliceV.shape hnote.1
      obtain ⟨qa, qc, e2, -⟩ := SliceV.shape hnote.2
      have hpq : L[k].2 = (.slice pa L[k].1.note.props.length pc, .slice qa L[k].1.note.body.length qc) := by rw [← e1, ← e2]
      have HPQ : Hid (L[k].2 = (.slice pa L[k].1.note.props.length pc, .slice qa L[k].1.note.body.length qc)) := hpq
      rw [e1] at c5
      rw [e2] at c6
      clear hP HP hnote e1 e2 hpq hnl hng
      cases ho : L[k].1.out
      · rw [ho] at c3
        go_wp2_with (at_builtin; refine wpList_appV rfl (.tmp 21) (.tmp 24) 73 rfl 3 j0 _ 1 8 Try.underlying73 hj0 hy0 hy1 hy2 rfl (by omega) (w.heap.size + 2) (.slice ga ng gc) ng (ints (goneL ((L.take k).map Prod.fst))) rfl (own_below (own_below HGO.out (below_alloc _ _)) (below_alloc _ _)) (fun _ => True) (.slice (some ⟨wr.heap.size + 1, 0, none⟩) 1 1) 1 [.int .i64 L[k].1.id] rfl (one_slice' _ _ _ _ (by simp)) rfl (by simp [Value.oneCell']) (by unfold maxLen; omega) (by omega) (by simp <;> omega) ?_; intro ao cap w1 ho1 hg1 hm1)
        go_roundw
        case rel =>
          exact ⟨k + 1, by omega, by go_num, PI.gone ((HP2.out.on (below_alloc _ _)).on (below_alloc _ _)) hlt ho HNG.out ho1 hg1 hm1⟩
        case measure => simp [intOf]; omega
      · rw [ho] at c3
        go_wp2_with (at_builtin; refine wpList_appV rfl (.tmp 17) (.tmp 19) 52 rfl 64 i0 _ 7 88 Try.underlying52 hi0 hz0 hz1 hz2 rfl (by omega) (w.heap.size + 2) (.slice la nl lc) nl (cellsI ((L.take k).filter (fun x => x.1.out))) rfl (own_below (own_below HLO.out (below_alloc _ _)) (below_alloc _ _)) (fun _ => True) (.slice (some ⟨wr.heap.size + 1, 0, none⟩) 1 1) 1 (L[k].1.cells L[k].2) rfl (by have h := row7_slice (wr.alloc (.cells #[.int .i64 L[k].1.id, .int .i64 L[k].1.turn, .int .i64 L[k].1.tries, .bool true, .int .i64 L[k].1.due, .slice pa L[k].1.note.props.length pc, .slice qa L[k].1.note.body.length qc] 64)) L[k].1 (.slice pa L[k].1.note.props.length pc) (.slice qa L[k].1.note.body.length qc); rw [ho, ← HPQ.out] at h; simpa using h) rfl (by rw [HPQ.out]; simp [IT.cells, Value.oneCell']) (by unfold maxLen; omega) (by omega) (by simp <;> omega) ?_; intro ao cap w1 ho1 hg1 hm1)
        go_roundw
        case rel =>
          exact ⟨k + 1, by omega, by go_num, PI.stay ((HP2.out.on (below_alloc _ _)).on (below_alloc _ _)) hlt ho HNL.out ho1 hg1 hm1⟩
        case measure => simp [intOf]; omega
    · obtain rfl : k = L.length := by omega
      obtain ⟨q0, q1, q2, q3, q4⟩ := hP.q.b3
      obtain ⟨r0, r1, r2, r3, r4⟩ := hP.res.b3
      rw [← hnl, ← hng]
      clear hP HP hnl hng
      go_wp2
      refine bodyPost_ret (v := .tuple #[.agg #[.string name, .int .i64 limit, .slice la nl lc], .slice ga ng gc]) (by simp [results, Try.results50, go_sem, *]; done) rfl ⟨_, _, rfl, ⟨L.filter (fun x => x.1.out), ?_, ?_, fun x hx => ?_⟩, ?_, ?_⟩
      · rw [List.filter_map]; rfl
      · have h := own_slice HLO.out
        have e := HNL.out
        rw [List.take_of_length_le (Nat.le_refl _)] at h e
        rw [← e]
        refine h.sub fun i hi => ?_
        have h1 := HLO.out.lt i hi
        refine ⟨by show i < _; simpa using h1.2, ?_⟩
        iterate 4 rw [Below.heap_setCell _ _ _ _ (by simp; omega)]
      · refine (HL.out.2 x (List.mem_filter.1 hx).1).sub fun i hi => ?_
        have hi' : i < w.heap.size := hi
        refine ⟨by show i < _; simp; omega, ?_⟩
        iterate 4 rw [Below.heap_setCell _ _ _ _ (by simp; omega)]
        exact hbw.block i hi'
      · have h := own_slice HGO.out
        have e := HNG.out
        rw [List.take_of_length_le (Nat.le_refl _)] at h e
        rw [← e]
        refine h.sub fun i hi => ?_
        have h1 := HGO.out.lt i hi
        refine ⟨⟨by omega, by simpa using h1.2⟩, ?_⟩
        iterate 4 rw [Below.heap_setCell _ _ _ _ (by simp; omega)]
      · iterate 4 refine Below.setCell ?_ (by simp <;> omega) _
        exact hbw
end Go.Proofs.Ytefankjmlbkldaa
