/-
  RefPurgeS; RefHPurge; RefTake; RefLate: texts laid together.
-/
import Derived.Test.YtkddkpdfeeikhaaJFollowsProofM38
import Derived.Test.YtkddkpdfeeikhaaJFollowsProofM23
import Derived.Test.YtkddkpdfeeikhaaJFollowsProofM19
/-
  tgref1.Purge's answers, and where they lie.
-/
namespace Go.Proofs.Ytkddkpdfeeikhaa
open Go.RowKit
set_option linter.unusedVariables false
set_option linter.unusedSimpArgs false

attribute [local go_sem ↓] Go.wp_at_zero Go.wp_at_succ

set_option maxRecDepth 100000 in
set_option maxHeartbeats 3200000 in
theorem refPurge_anyS (S : Nat → Prop) (v : Value) (name : ByteArray) (limit : Int) (its : List IT) (hlen : its.length ≤ 4194304) (w : World) (hSS : ∀ b, S b → b < w.heap.size) (hv : SliceI S w v its) :
    Calls Try.prog 64 #[.agg #[.string name, .int .i64 limit, v]] w fun e w' => ∃ v' u, e = .returned (.tuple #[.agg #[.string name, .int .i64 limit, v'], u]) ∧ SliceI (fun b => S b ∨ Made w.heap.size w'.heap.size b) w' v' (its.filter IT.out) ∧ SliceV (Made w.heap.size w'.heap.size) w' u (goneL its).length (ints (goneL its)) ∧ Below w.heap.size w w' := by
  obtain ⟨i0, hi0, hz0, hz1, hz2⟩ := info_parts info34
  obtain ⟨j0, hj0, hy0, hy1, hy2⟩ := info_parts info3
  obtain ⟨L, rfl, hL⟩ := hv
  have HL : Hid (SliceL S w v L) := hL
  obtain ⟨va, vc, rfl, -⟩ := hL.1.shape
  have hln : L.length ≤ 4194304 := by simpa using hlen
  clear hL hlen
  have HP0 : Hid (PI w name limit va L.length vc L 0 ((w.alloc (.cells #[.string name, .int .i64 limit, .slice va L.length vc] 76)).alloc (.cells #[.string ⟨#[]⟩, .int .i64 0, .slice none 0 0] 76)) (.slice none 0 0) (.slice none 0 0)) := by
    refine ⟨(below_alloc _ _).alloc (by simp) _, (Blk.new _ _ _).alloc _, ?_, World.ownsRow_nil _ _ _ _, World.ownsRow_nil _ _ _ _, fun b hb => by simp [Value.ownBlock] at hb⟩
    have := Blk.new (w.alloc (.cells #[.string name, .int .i64 limit, .slice va L.length vc] 76)) [.string ⟨#[]⟩, .int .i64 0, .slice none 0 0] 76
    simpa using this
  go_enter Try.func64, Try.ntmps64
  go_wp2
  go_loopw [4, 5, 11] (fun lv gv x wr => ∃ k : Nat, k ≤ L.length ∧ x = .int .i64 k ∧ PI w name limit va L.length vc L k wr lv gv) (fun _ _ x _ => L.length - (intOf x).toNat)
  case atStart => exact ⟨0, Nat.zero_le _, rfl, HP0.out⟩
  case round =>
    obtain ⟨k, hk, rfl, hP⟩ := hrel
    have HP : Hid (PI w name limit va L.length vc L k wr u4 u5) := hP
    have hbw := hP.bel
    have hzw := hbw.size
    obtain ⟨la, lc, rfl, -⟩ := own_shape hP.lo
    obtain ⟨ga, gc, rfl, -⟩ := own_shape hP.go
    obtain ⟨nl, hnl⟩ : ∃ nl, nl = ((L.take k).filter (fun x => x.1.out)).length := ⟨_, rfl⟩
    obtain ⟨ng, hng⟩ : ∃ ng, ng = (goneL ((L.take k).map Prod.fst)).length := ⟨_, rfl⟩
    have hn1 : nl ≤ 4194304 := by
      have h1 := List.length_filter_le (fun x : IT × (Value × Value) => x.1.out) (L.take k)
      have h2 := List.length_take_le k L
      have h3 : (L.take k).length ≤ L.length := by simp; omega
      omega
    have hn2 : ng ≤ 4194304 := by
      have h1 := goneL_len ((L.take k).map Prod.fst)
      have h3 : ((L.take k).map Prod.fst).length ≤ L.length := by simp; omega
      omega
    have HLO : Hid (wr.ownsRow (w.heap.size + 2) 78 7 (.slice la nl lc) nl (cellsI ((L.take k).filter (fun x => x.1.out)))) := by rw [hnl]; exact hP.lo
    have HGO : Hid (wr.ownsRow (w.heap.size + 2) 3 1 (.slice ga ng gc) ng (ints (goneL ((L.take k).map Prod.fst)))) := by rw [hng]; exact hP.go
    have HP2 : Hid (PI w name limit va L.length vc L k wr (.slice la nl lc) (.slice ga ng gc)) := by rw [hnl, hng]; exact hP
    have HNL : Hid (nl = ((L.take k).filter (fun x => x.1.out)).length) := hnl
    have HNG : Hid (ng = (goneL ((L.take k).map Prod.fst)).length) := hng
    have hrl := hP.res.lt
    by_cases hlt : k < L.length
    · rw [← hnl, ← hng]
      obtain ⟨b, off, rfl, hS, ⟨c0, c1, c2, c3⟩, c4, c5, c6⟩ := (SliceL.sub (T := S) HL.out (fun x hx => ⟨hx, hbw.block x (hSS x hx)⟩)).at k hlt
      have hnote := HL.out.2 L[k] (List.getElem_mem hlt)
      obtain ⟨pa, pc, e1, -⟩ := SliceV.shape hnote.1
      obtain ⟨qa, qc, e2, -⟩ := SliceV.shape hnote.2
      have hpq : L[k].2 = (.slice pa L[k].1.note.props.length pc, .slice qa L[k].1.note.body.length qc) := by rw [← e1, ← e2]
      have HPQ : Hid (L[k].2 = (.slice pa L[k].1.note.props.length pc, .slice qa L[k].1.note.body.length qc)) := hpq
      rw [e1] at c5
      rw [e2] at c6
      clear hP HP hnote e1 e2 hpq hnl hng
      cases ho : L[k].1.out
      · rw [ho] at c3
        go_wp2_with (at_builtin; refine wpList_appV rfl (.tmp 21) (.tmp 24) 115 rfl 3 j0 _ 1 8 Try.underlying115 hj0 hy0 hy1 hy2 rfl (by omega) (w.heap.size + 2) (.slice ga ng gc) ng (ints (goneL ((L.take k).map Prod.fst))) rfl (own_below (own_below HGO.out (below_alloc _ _)) (below_alloc _ _)) (fun _ => True) (.slice (some ⟨wr.heap.size + 1, 0, none⟩) 1 1) 1 [.int .i64 L[k].1.id] rfl (one_slice' _ _ _ _ (by simp)) rfl (by simp [Value.oneCell']) (by unfold maxLen; omega) (by omega) (by simp <;> omega) ?_; intro ao cap w1 ho1 hg1 hm1)
        go_roundw
        case rel =>
          exact ⟨k + 1, by omega, by go_num, PI.gone ((HP2.out.on (below_alloc _ _)).on (below_alloc _ _)) hlt ho HNG.out ho1 hg1 hm1⟩
        case measure => simp [intOf]; omega
      · rw [ho] at c3
        go_wp2_with (at_builtin; refine wpList_appV rfl (.tmp 17) (.tmp 19) 74 rfl 78 i0 _ 7 88 Try.underlying74 hi0 hz0 hz1 hz2 rfl (by omega) (w.heap.size + 2) (.slice la nl lc) nl (cellsI ((L.take k).filter (fun x => x.1.out))) rfl (own_below (own_below HLO.out (below_alloc _ _)) (below_alloc _ _)) (fun _ => True) (.slice (some ⟨wr.heap.size + 1, 0, none⟩) 1 1) 1 (L[k].1.cells L[k].2) rfl (by have h := row7_slice (wr.alloc (.cells #[.int .i64 L[k].1.id, .int .i64 L[k].1.turn, .int .i64 L[k].1.tries, .bool true, .int .i64 L[k].1.due, .slice pa L[k].1.note.props.length pc, .slice qa L[k].1.note.body.length qc] 78)) L[k].1 (.slice pa L[k].1.note.props.length pc) (.slice qa L[k].1.note.body.length qc); rw [ho, ← HPQ.out] at h; simpa using h) rfl (by rw [HPQ.out]; simp [IT.cells, Value.oneCell']) (by unfold maxLen; omega) (by omega) (by simp <;> omega) ?_; intro ao cap w1 ho1 hg1 hm1)
        go_roundw
        case rel =>
          exact ⟨k + 1, by omega, by go_num, PI.stay ((HP2.out.on (below_alloc _ _)).on (below_alloc _ _)) hlt ho HNL.out ho1 hg1 hm1⟩
        case measure => simp [intOf]; omega
    · obtain rfl : k = L.length := by omega
      obtain ⟨q0, q1, q2, q3, q4⟩ := hP.q.b3
      obtain ⟨r0, r1, r2, r3, r4⟩ := hP.res.b3
      rw [← hnl, ← hng]
      clear hP HP hnl hng
      go_wp2
      refine bodyPost_ret (v := .tuple #[.agg #[.string name, .int .i64 limit, .slice la nl lc], .slice ga ng gc]) (by simp [results, Try.results64, go_sem, *]; done) rfl ⟨_, _, rfl, ⟨L.filter (fun x => x.1.out), ?_, ?_, fun x hx => ?_⟩, ?_, ?_⟩
      · rw [List.filter_map]; rfl
      · have h := own_slice HLO.out
        have e := HNL.out
        rw [List.take_of_length_le (Nat.le_refl _)] at h e
        rw [← e]
        refine h.sub fun i hi => ?_
        have h1 := HLO.out.lt i hi
        refine ⟨.inr ⟨by omega, by simpa using h1.2⟩, ?_⟩
        iterate 4 rw [Below.heap_setCell _ _ _ _ (by simp; omega)]
      · refine (HL.out.2 x (List.mem_filter.1 hx).1).sub fun i hi => ?_
        have hi' : i < w.heap.size := hSS i hi
        refine ⟨.inl hi, ?_⟩
        iterate 4 rw [Below.heap_setCell _ _ _ _ (by simp; omega)]
        exact hbw.block i hi'
      · have h := own_slice HGO.out
        have e := HNG.out
        rw [List.take_of_length_le (Nat.le_refl _)] at h e
        rw [← e]
        refine h.sub fun i hi => ?_
        have h1 := HGO.out.lt i hi
        refine ⟨⟨by omega, by simpa using h1.2⟩, ?_⟩
        iterate 4 rw [Below.heap_setCell _ _ _ _ (by simp; omega)]
      · iterate 4 refine Below.setCell ?_ (by simp <;> omega) _
        exact hbw
end Go.Proofs.Ytkddkpdfeeikhaa

/-
  tgref1.HallPurge.
-/
namespace Go.Proofs.Ytkddkpdfeeikhaa
open Go.RowKit
set_option linter.unusedVariables false
set_option linter.unusedSimpArgs false

attribute [local go_sem ↓] Go.wp_at_zero Go.wp_at_succ

/-- What holds in HallPurge's loop, behind k numbers. -/
structure PG (W : World) (name : ByteArray) (ids : List Int) (k : Nat) (wr : World) (ev : Value) : Prop where
  bel : Below W.heap.size W wr
  own : wr.ownsRow W.heap.size 30 6 ev k (cellsE (goneL' name (ids.take k)))

theorem PG.start (W : World) (name : ByteArray) (ids : List Int) : PG W name ids 0 W (.slice none 0 0) := ⟨Below.refl _ _, by simpa [goneL', cellsE] using World.ownsRow_nil _ _ _ _⟩

theorem PG.more {W : World} {name : ByteArray} {ids : List Int} {k : Nat} {wr w2 : World} {ev ev' : Value} {id : Int} (h : PG W name ids k wr ev) (hk : k < ids.length) (hid : id = ids[k]) (ho : w2.ownsRow W.heap.size 30 6 ev' (k + 1) (cellsE (goneL' name (ids.take k)) ++ [.int .i64 4, .string name, .int .i64 0, .int .i64 id, .slice none 0 0, .slice none 0 0])) {o : Obj} (hg : (wr.alloc o).grownBy w2 ev.ownBlock) : PG W name ids (k + 1) w2 ev' := by
  subst hid
  have hz := h.bel.size
  refine ⟨⟨hg.os.trans h.bel.os, hg.tape.trans h.bel.tape, hg.output.trans h.bel.output, by have := hg.size; simp at this; omega, fun b hb => ?_⟩, ?_⟩
  · rw [hg.block b (by simp; omega) (fun e => by have := (h.own.lt b e.symm).1; omega), Below.heap_alloc _ _ _ (by omega)]
    exact h.bel.block b hb
  · have e : cellsE (goneL' name (ids.take (k + 1))) = cellsE (goneL' name (ids.take k)) ++ [.int .i64 4, .string name, .int .i64 0, .int .i64 ids[k], .slice none 0 0, .slice none 0 0] := by
      rw [List.take_succ_eq_append_getElem hk]
      unfold goneL'
      rw [List.map_append, cellsE_append]
      rfl
    rw [e]
    exact ho

set_option maxRecDepth 100000 in
set_option maxHeartbeats 3200000 in
theorem refHallPurge_any (S : Nat → Prop) (v : Value) (h : HD) (name : ByteArray) (w : World) (hS : ∀ b, S b → b < w.heap.size) (hv : SliceQ S w v h.queues) (hsm : smallQ h.queues) :
    Calls Try.prog 33 #[.agg #[v, .int .i64 h.next], .string name] w fun e w' => AnsS S (faceF h name (fun k q => purgeF h k q)) w e w' ∧ Below w.heap.size w w' := by
  have HV : Hid (SliceQ S w v h.queues) := hv
  have HM : Hid (smallQ h.queues) := hsm
  have HSS : Hid (∀ b, S b → b < w.heap.size) := hS
  have hlen := hsm.1
  obtain ⟨va, vc, rfl⟩ := hv.shp
  clear hv hsm hS
  have two : Hid (∀ o1 o2 : Obj, Below w.heap.size w ((w.alloc o1).alloc o2)) := fun o1 o2 => (below_alloc _ _).alloc (by simp) _
  rcases idxQ_cases name h.queues with ⟨hd, -⟩ | ⟨k, hk, hd, hnm, -⟩
  · rw [faceF_none hd]
    have HI : Hid (idxQ name h.queues = -1) := hd
    clear hd
    go_enter Try.func33, Try.ntmps33
    go_wp2_with (go_at_call 56; refine (refFind_any name _ h.next h.queues _ (HV.out.sub fun b hb => ⟨?_, (two.out _ _).block b (HSS.out b hb)⟩)).mono ?_; (have := HSS.out b hb; simp [Under]; omega); rw [HI.out]; rintro e w1 ⟨rfl, hb1⟩; have hk2 := (Blk.new (w.alloc _) [.slice none 0 0, .int .i64 0] 24).below hb1 (by simp); simp only [World.size_alloc] at hk2; obtain ⟨c0, c1, c2, c3⟩ := hk2.b2; have HB1 : Hid (Below w.heap.size w w1) := (two.out _ _).trans (hb1.mono (by simp; omega)); clear hb1 hk2)
    refine bodyPost_ret (v := .tuple #[.agg #[.slice none 0 0, .int .i64 0], .slice none 0 0, .int .i64 6]) (by simp [results, Try.results33, go_sem, *]; done) rfl ⟨AnsS.refuse _ _ _ _, ?_⟩
    iterate 2 refine Below.setCell ?_ (by simp) _
    exact HB1.out
  · rw [faceF_some hd hk]
    have HI : Hid (idxQ name h.queues = (k : Int)) := hd
    clear hd
    have hsk := HM.out.2 _ (List.getElem_mem hk)
    obtain ⟨q, hqq⟩ : ∃ q, q = h.queues[k] := ⟨_, rfl⟩
    have HQQ : Hid (q = h.queues[k]) := hqq
    rw [← hqq] at hnm hsk ⊢
    have hfl : failF (purgeF h k q) = (h.setQ k ⟨q.name, q.limit, q.items.filter IT.out⟩, (goneL q.items).map (goneE name), 0) := by simp [failF, purgeF, hnm]
    rw [hfl]
    obtain ⟨q', hq'⟩ : ∃ q' : QD, q' = ⟨q.name, q.limit, q.items.filter IT.out⟩ := ⟨_, rfl⟩
    obtain ⟨ids, hids⟩ : ∃ ids, ids = goneL q.items := ⟨_, rfl⟩
    rw [← hq', ← hids]
    have hidl : ids.length ≤ 4194304 := by rw [hids]; have := goneL_len q.items; have := hsk.1; omega
    have HSK : Hid (smallI q.items ∧ q' = ⟨q.name, q.limit, q.items.filter IT.out⟩ ∧ ids = goneL q.items) := ⟨hsk, hq', hids⟩
    have HONE : Hid (∀ (v : Value) (w : World), (∀ b, S b → b < w.heap.size) → SliceI S w v q.items → Calls Try.prog 64 #[.agg #[.string q.name, .int .i64 q.limit, v]] w fun e w' => ∃ ra rc ga gc, e = .returned (.tuple #[.agg #[.string q'.name, .int .i64 q'.limit, .slice ra q'.items.length rc], .slice ga ids.length gc]) ∧ SliceI (fun b => S b ∨ Made w.heap.size w'.heap.size b) w' (.slice ra q'.items.length rc) q'.items ∧ SliceV (Made w.heap.size w'.heap.size) w' (.slice ga ids.length gc) ids.length (ints ids) ∧ Below w.heap.size w w') := by
      intro v w hS hv
      refine (refPurge_anyS S v q.name q.limit q.items hsk.1 w hS hv).mono ?_
      rintro e w' ⟨v', u, rfl, h1, h2, h3⟩
      subst hq' hids
      obtain ⟨a, c, rfl⟩ := h1.shp
      obtain ⟨ga, gc, rfl, -⟩ := h2.shape
      exact ⟨a, c, ga, gc, rfl, h1, h2, h3⟩
    clear hqq hnm hsk hfl hq' hids
    obtain ⟨t0, ht0, tz0, tz1, tz2⟩ := info_parts info92
    go_enter Try.func33, Try.ntmps33
    go_upto_region 4 with (go_at_call 56; refine (refFind_any name _ h.next h.queues _ (HV.out.sub fun b hb => ⟨?_, (two.out _ _).block b (HSS.out b hb)⟩)).mono ?_; (have := HSS.out b hb; simp [Under]; omega); rw [HI.out]; rintro e w1 ⟨rfl, hb1⟩; have hk0 := ((Blk.new w [.slice va h.queues.length vc, .int .i64 h.next] 24).alloc _).below hb1 (by simp; omega); have hk1 := (Blk.new (w.alloc _) [.slice none 0 0, .int .i64 0] 24).below hb1 (by simp); simp only [World.size_alloc] at hk0 hk1; have HK : Hid (Blk w1 w.heap.size [.slice va h.queues.length vc, .int .i64 h.next] ∧ Blk w1 (w.heap.size + 1) [.slice none 0 0, .int .i64 0]) := ⟨hk0, hk1⟩; have HB1 : Hid (Below w.heap.size w w1) := (two.out _ _).trans (hb1.mono (by simp; omega)); clear hb1 hk0 hk1)
    have hz1 : w.heap.size + 2 ≤ w1.heap.size := by have := HK.out.2.lt; omega
    have HV1 : Hid (SliceQ S w1 (.slice va h.queues.length vc) h.queues) := HV.out.sub fun b hb => ⟨hb, HB1.out.block b (HSS.out b hb)⟩
    obtain ⟨b, off, ia, ic, rfl, hSb, hq, y0, y1, y2⟩ := HV1.out.at k hk
    have hbl : b < w1.heap.size := by have := HSS.out b hSb; omega
    rw [← HQQ.out] at y0 y1 y2 hq
    have HQ : Hid (SliceI S w1 (.slice ia q.items.length ic) q.items) := hq
    have HS1 : Hid (∀ b, S b → b < w1.heap.size) := fun b hb => by have := HSS.out b hb; omega
    clear hq
    obtain ⟨x0, x1, x2, x3⟩ := HK.out.1.b2
    go_upto_region 6 with (go_at_call 64; refine (HONE.out _ _ HS1.out HQ.out).mono ?_; rintro e w2 ⟨ra, rc, ga, gc, rfl, hv2, hg2, hb2⟩; have H2 : Hid (SliceI (fun b => S b ∨ Made w1.heap.size w2.heap.size b) w2 (.slice ra q'.items.length rc) q'.items ∧ SliceV (Made w1.heap.size w2.heap.size) w2 (.slice ga ids.length gc) ids.length (ints ids) ∧ Below w1.heap.size w1 w2) := ⟨hv2, hg2, hb2⟩; clear hv2 hg2 hb2 x0 x1 x2 y0 y1 y2)
    obtain ⟨W3, hW3⟩ : ∃ W3, W3 = w2.alloc (.cells #[.string q'.name, .int .i64 q'.limit, .slice ra q'.items.length rc] 76) := ⟨_, rfl⟩
    have hz2 := H2.out.2.2.size
    have H3 : Hid (SliceI (fun b => S b ∨ Made w1.heap.size w2.heap.size b) W3 (.slice ra q'.items.length rc) q'.items ∧ SliceV (Made w1.heap.size w2.heap.size) W3 (.slice ga ids.length gc) ids.length (ints ids) ∧ Below w1.heap.size w1 W3 ∧ Blk W3 w2.heap.size [.string q'.name, .int .i64 q'.limit, .slice ra q'.items.length rc] ∧ W3.heap.size = w2.heap.size + 1) := by
      rw [hW3]
      refine ⟨H2.out.1.sub fun b hb => ⟨hb, Below.heap_alloc _ _ _ ?_⟩, H2.out.2.1.sub fun b hb => ⟨hb, Below.heap_alloc _ _ _ hb.2⟩, H2.out.2.2.alloc (by omega) _, Blk.new _ _ _, by simp⟩
      rcases hb with hb | hb
      · have := HSS.out b hb; omega
      · exact hb.2
    rw [← hW3]
    clear hW3 H2
    have HPS : Hid (PG W3 name ids 0 W3 (.slice none 0 0)) := PG.start W3 name ids
    go_wp2_with fail
    go_loopw [10, 30] (fun ev i wr => ∃ j : Nat, j ≤ ids.length ∧ i = .int .i64 j ∧ PG W3 name ids j wr ev) (fun _ i _ => ids.length - (intOf i).toNat)
    case atStart => exact ⟨0, Nat.zero_le _, rfl, HPS.out⟩
    case round =>
      obtain ⟨j, hj, rfl, hP⟩ := hrel
      have HP : Hid (PG W3 name ids j wr u10) := hP
      obtain ⟨ea, ec, rfl, -⟩ := own_shape hP.own
      have hzr := hP.bel.size
      have HKR : Hid (Blk wr w.heap.size [.slice (some ⟨b, off, none⟩) h.queues.length vc, .int .i64 h.next] ∧ Blk wr (w.heap.size + 1) [.slice none 0 0, .int .i64 0] ∧ Blk wr w2.heap.size [.string q'.name, .int .i64 q'.limit, .slice ra q'.items.length rc]) := by
        have hz3 := H3.out.2.2.2.2
        exact ⟨(HK.out.1.below H3.out.2.2.1 (by omega)).below hP.bel (by omega), (HK.out.2.below H3.out.2.2.1 (by omega)).below hP.bel (by omega), H3.out.2.2.2.1.below hP.bel (by omega)⟩
      clear HPS
      by_cases hlt : j < ids.length
      · obtain ⟨_, _, e, _, _, _, h4⟩ := H3.out.2.1
        obtain ⟨gb, goff, rfl, hgS, hgc⟩ : ∃ gb goff, ga = some ⟨gb, goff, none⟩ ∧ Made w1.heap.size w2.heap.size gb ∧ wr.cell? ⟨gb, goff + j, none⟩ = some (.int .i64 ids[j]) := by
          obtain ⟨gb, goff, e2, hs2, hc2⟩ := h4 j (by simp [ints]; exact hlt)
          simp only [Value.slice.injEq] at e
          refine ⟨gb, goff, e.1.trans e2, hs2, ?_⟩
          have hz3 := H3.out.2.2.2.2
          rw [hP.bel.cell (p := ⟨gb, goff + j, none⟩) (by have := hs2.2; show gb < _; omega), hc2]
          simp [ints]
        clear e h4 hP
        go_wp2_with (at_builtin; refine wpList_appV rfl (.tmp 34) (.tmp 38) 37 rfl 30 t0 _ 6 88 Try.underlying37 ht0 tz0 tz1 tz2 rfl (by omega) W3.heap.size (.slice ea j ec) j (cellsE (goneL' name (ids.take j))) rfl (own_below HP.out.own (below_alloc _ _)) (fun b => b = wr.heap.size) (.slice (some ⟨wr.heap.size, 0, none⟩) 1 1) 1 [.int .i64 4, .string name, .int .i64 0, .int .i64 ids[j], .slice none 0 0, .slice none 0 0] rfl (row_any' _ _ _ _ _ rfl (by simp [maxLen])) rfl (by simp [Value.oneCell']) (by unfold maxLen; omega) (by omega) (by simp <;> omega) ?_; intro ao cap w3 ho3 hg3 hm3)
        go_roundw
        case rel => exact ⟨j + 1, by omega, by go_num, HP.out.more hlt rfl ho3 hg3⟩
        case measure => simp [intOf]; omega
      · obtain rfl : j = ids.length := by omega
        have hz3 := H3.out.2.2.2.2
        have HBR : Hid (Below w.heap.size w wr) := (HB1.out.trans (H3.out.2.2.1.mono (by omega))).trans (hP.bel.mono (by omega))
        obtain ⟨T, hT⟩ : ∃ T : Nat → Prop, T = fun b => S b ∨ Made w1.heap.size w2.heap.size b := ⟨_, rfl⟩
        have HT : Hid ((∀ b, T b → (S b ∨ w.heap.size ≤ b) ∧ b < w2.heap.size ∧ b ≠ w.heap.size + 1) ∧ SliceQ T wr (.slice (some ⟨b, off, none⟩) h.queues.length vc) h.queues ∧ SliceI T wr (.slice ra q'.items.length rc) q'.items) := by
          subst hT
          refine ⟨fun b hb => ?_, HV.out.sub fun b hb => ⟨.inl hb, HBR.out.block b (HSS.out b hb)⟩, H3.out.1.sub fun b hb => ⟨hb, hP.bel.block b ?_⟩⟩
          · rcases hb with hb | ⟨g1, g2⟩
            · have := HSS.out b hb
              exact ⟨.inl hb, by omega, by omega⟩
            · exact ⟨.inr (by omega), by omega, by omega⟩
          · rcases hb with hb | ⟨g1, g2⟩
            · have := HSS.out b hb; omega
            · omega
        clear hP hT
        obtain ⟨x0, x1, x2, x3'⟩ := HKR.out.1.b2
        obtain ⟨u0, u1, u2, u3, u4⟩ := HKR.out.2.2.b3
        have hT5 : ∀ b, T b → b < wr.heap.size := fun b hb => by have := (HT.out.1 b hb).2.1; omega
        have HTW : Hid (∀ b, T b → b < wr.heap.size) := hT5
        clear hT5
        go_wp2_with (go_at_call 57; refine (with_any _ h.queues h.next k hk q' _ hlen _ T HTW.out HT.out.2.1 HT.out.2.2).mono ?_; rintro r w5 ⟨v5, rfl, hv5, hb5⟩; obtain ⟨sa, sc, e5⟩ := hv5.shp; have e5' : v5 = .slice sa h.queues.length sc := (by rw [e5, List.length_set]); subst e5'; have H5 : Hid (Below wr.heap.size wr w5 ∧ SliceQ (fun b => T b ∨ Made wr.heap.size w5.heap.size b) w5 (.slice sa h.queues.length sc) (h.setQ k q').queues) := ⟨hb5, hv5⟩; have HR5 : Hid (Blk w5 (w.heap.size + 1) [.slice none 0 0, .int .i64 0]) := HKR.out.2.1.below hb5 HKR.out.2.1.lt; obtain ⟨d0, d1, d2, d3⟩ := HR5.out.b2; clear hb5 hv5 e5)
        have hz5 := H5.out.1.size
        have F := Fn.B HR5.out (.slice sa h.queues.length sc) (.int .i64 h.next)
        obtain ⟨wF, hF⟩ : ∃ wF, wF = (w5.setCell ⟨w.heap.size + 1, 0, none⟩ (.slice sa h.queues.length sc)).setCell ⟨w.heap.size + 1, 1, none⟩ (.int .i64 h.next) := ⟨_, rfl⟩
        rw [← hF] at F
        rw [← hF]
        clear hF
        have hzF := F.size
        have hrow := HP.out.own
        rw [List.take_of_length_le (Nat.le_refl _)] at hrow
        have hrowF : wF.ownsRow W3.heap.size 30 6 (.slice ea ids.length ec) ids.length (cellsE (goneL' name ids)) := own_same (own_below hrow H5.out.1) (fun b e => F.keep b (by have := (hrow.lt b e).2; omega) (by have := (hrow.lt b e).1; omega))
        have hE : SliceE (SM S w wF) wF (.slice ea ids.length ec) (ids.map (goneE name)) := by
          refine ⟨goneL' name ids, by simp [goneL'], ?_, fun x hx => ?_⟩
          · have hl : (goneL' name ids).length = ids.length := by simp [goneL']
            rw [hl]
            exact (own_slice hrowF).sub fun b hb => ⟨.inr ⟨by have := (hrowF.lt b hb).1; omega, (hrowF.lt b hb).2⟩, rfl⟩
          · simp only [goneL', List.mem_map] at hx
            obtain ⟨id, -, rfl⟩ := hx
            exact NoteIs.nil _ _
        have hA := Fn.ans (S := S) (hd := h.setQ k q') F (by omega) (HBR.out.trans (H5.out.1.mono (by omega))) H5.out.2 (fun b hb => by
          rcases hb with hb | ⟨g1, g2⟩
          · have := HT.out.1 b hb
            exact ⟨this.1, by omega, this.2.2⟩
          · exact ⟨.inr (by omega), by omega, by omega⟩) hE
        obtain ⟨f0, f1, f2, f3⟩ := F.box.b2
        clear hE hrow hrowF hz3 d0 d1 d2
        exact bodyPost_ret (v := .tuple #[.agg #[.slice sa h.queues.length sc, .int .i64 h.next], .slice ea ids.length ec, .int .i64 0]) (by simp [results, Try.results33, go_sem, *]; done) rfl hA
end Go.Proofs.Ytkddkpdfeeikhaa

/-
  tgref1.Take and Late.
-/
namespace Go.Proofs.Ytkddkpdfeeikhaa
open Go.RowKit
set_option linter.unusedVariables false
set_option linter.unusedSimpArgs false

attribute [local go_sem ↓] Go.wp_at_zero Go.wp_at_succ

end Go.Proofs.Ytkddkpdfeeikhaa

/-
  tgref1.Late.
-/
namespace Go.Proofs.Ytkddkpdfeeikhaa
open Go.RowKit
set_option linter.unusedVariables false
set_option linter.unusedSimpArgs false

attribute [local go_sem ↓] Go.wp_at_zero Go.wp_at_succ

theorem late_not {now : Int} {x : IT} (h : lateB now x = false) : x.out = false ∨ (x.out = true ∧ ¬ x.due ≤ now) := by
  cases h1 : x.out
  · exact .inl rfl
  · exact .inr ⟨rfl, by simpa [lateB, h1] using h⟩

set_option maxRecDepth 100000 in
set_option maxHeartbeats 3200000 in
theorem refLate_none (v : Value) (name : ByteArray) (limit now : Int) (its : List IT) (hlen : its.length ≤ 4194304) (hno : ∀ x ∈ its, lateB now x = false) (w : World) (hv : SliceI (Under w.heap.size) w v its) :
    Calls Try.prog 65 #[.agg #[.string name, .int .i64 limit, v], .int .i64 now] w fun e w' => e = .returned (.tuple #[.agg #[.int .i64 0, .int .i64 0, .int .i64 0, .bool false, .int .i64 0, .slice none 0 0, .slice none 0 0], .bool false]) ∧ Below w.heap.size w w' := by
  have HV : Hid (SliceI (Under w.heap.size) w v its) := hv
  have HNO : Hid (∀ x ∈ its, lateB now x = false) := hno
  obtain ⟨va, vc, rfl⟩ := hv.shp
  clear hv hno
  obtain ⟨X, hX⟩ : ∃ X, X = (w.alloc (.cells #[.string name, .int .i64 limit, .slice va its.length vc] 76)).alloc (.cells #[.int .i64 0, .int .i64 0, .int .i64 0, .bool false, .int .i64 0, .slice none 0 0, .slice none 0 0] 78) := ⟨_, rfl⟩
  have HX : Hid (X.heap.size = w.heap.size + 2 ∧ Below w.heap.size w X ∧ Blk X (w.heap.size + 1) [.int .i64 0, .int .i64 0, .int .i64 0, .bool false, .int .i64 0, .slice none 0 0, .slice none 0 0]) := by
    subst hX
    refine ⟨by simp, (below_alloc _ _).alloc (by simp) _, ?_⟩
    have := Blk.new (w.alloc (.cells #[.string name, .int .i64 limit, .slice va its.length vc] 76)) [.int .i64 0, .int .i64 0, .int .i64 0, .bool false, .int .i64 0, .slice none 0 0, .slice none 0 0] 78
    simpa using this
  go_enter Try.func65, Try.ntmps65
  go_wp2
  go_loopw [11] (fun x wr => ∃ k : Nat, k ≤ its.length ∧ x = .int .i64 k ∧ Below X.heap.size X wr) (fun x _ => its.length - (intOf x).toNat)
  case atStart => exact ⟨0, Nat.zero_le _, rfl, by rw [hX]; exact Below.refl _ _⟩
  case round =>
    obtain ⟨k, hk, rfl, hbr⟩ := hrel
    have hzr := hbr.size
    have hzx := HX.out.1
    clear hX
    have HB : Hid (Below w.heap.size w wr) := HX.out.2.1.trans (hbr.mono (by omega))
    by_cases hlt : k < its.length
    · have ho := HNO.out _ (List.getElem_mem hlt)
      obtain ⟨b, off, pa, pc, qa, qc, rfl, hS, hn, ⟨c0, c1, c2, c3⟩, c4, c5, c6⟩ := (SliceI.sub (T := Under w.heap.size) HV.out (fun x hx => ⟨hx, HB.out.block x hx⟩)).at k hlt
      clear hn
      rcases late_not ho with e1 | ⟨e1, e2⟩
      · rw [e1] at c3
        go_wp2
        go_roundw
        case rel => exact ⟨k + 1, by omega, by go_num, hbr.trans ((below_alloc _ _).mono hzr)⟩
        case measure => simp [intOf]; omega
      · rw [e1] at c3
        go_wp2
        go_roundw
        case rel => exact ⟨k + 1, by omega, by go_num, hbr.trans ((below_alloc _ _).mono hzr)⟩
        case measure => simp [intOf]; omega
    · obtain ⟨⟨d0, d1, d2, d3⟩, ⟨d4, d5, d6⟩, d7, d8⟩ := (HX.out.2.2.below hbr (by omega)).b7
      go_wp2
      refine bodyPost_ret (v := .tuple #[.agg #[.int .i64 0, .int .i64 0, .int .i64 0, .bool false, .int .i64 0, .slice none 0 0, .slice none 0 0], .bool false]) (by simp [results, Try.results65, go_sem, *]; done) rfl ⟨rfl, ?_⟩
      iterate 7 refine Below.setCell ?_ (by simp <;> omega) _
      exact HB.out

set_option maxRecDepth 100000 in
set_option maxHeartbeats 3200000 in
theorem refLate_ok (v : Value) (name : ByteArray) (limit now : Int) (its : List IT) (hlen : its.length ≤ 4194304) (i : Nat) (hil : i < its.length) (hin : lateB now its[i] = true) (hbf : ∀ j (hj : j < i), lateB now (its[j]'(by omega)) = false) (w : World) (hv : SliceI (Under w.heap.size) w v its) :
    Calls Try.prog 65 #[.agg #[.string name, .int .i64 limit, v], .int .i64 now] w fun e w' => ∃ q, e = .returned (.tuple #[its[i].val q, .bool true]) ∧ NoteIs (Under w'.heap.size) w' q its[i].note ∧ Below w.heap.size w w' := by
  have HV : Hid (SliceI (Under w.heap.size) w v its) := hv
  have HBF : Hid (∀ j (hj : j < i), lateB now (its[j]'(by omega)) = false) := hbf
  obtain ⟨g1, g2⟩ : its[i].out = true ∧ its[i].due ≤ now := by simpa [lateB] using hin
  obtain ⟨va, vc, rfl⟩ := hv.shp
  clear hv hbf hin
  obtain ⟨X, hX⟩ : ∃ X, X = (w.alloc (.cells #[.string name, .int .i64 limit, .slice va its.length vc] 76)).alloc (.cells #[.int .i64 0, .int .i64 0, .int .i64 0, .bool false, .int .i64 0, .slice none 0 0, .slice none 0 0] 78) := ⟨_, rfl⟩
  have HX : Hid (X.heap.size = w.heap.size + 2 ∧ Below w.heap.size w X ∧ Blk X (w.heap.size + 1) [.int .i64 0, .int .i64 0, .int .i64 0, .bool false, .int .i64 0, .slice none 0 0, .slice none 0 0]) := by
    subst hX
    refine ⟨by simp, (below_alloc _ _).alloc (by simp) _, ?_⟩
    have := Blk.new (w.alloc (.cells #[.string name, .int .i64 limit, .slice va its.length vc] 76)) [.int .i64 0, .int .i64 0, .int .i64 0, .bool false, .int .i64 0, .slice none 0 0, .slice none 0 0] 78
    simpa using this
  go_enter Try.func65, Try.ntmps65
  go_wp2
  go_loopw [11] (fun x wr => ∃ k : Nat, k ≤ i ∧ x = .int .i64 k ∧ Below X.heap.size X wr) (fun x _ => its.length - (intOf x).toNat)
  case atStart => exact ⟨0, Nat.zero_le _, rfl, by rw [hX]; exact Below.refl _ _⟩
  case round =>
    obtain ⟨k, hk, rfl, hbr⟩ := hrel
    have hzr := hbr.size
    have hzx := HX.out.1
    clear hX
    have HB : Hid (Below w.heap.size w wr) := HX.out.2.1.trans (hbr.mono (by omega))
    have hlt : k < its.length := by omega
    obtain ⟨b, off, pa, pc, qa, qc, rfl, hS, hn, ⟨c0, c1, c2, c3⟩, c4, c5, c6⟩ := (SliceI.sub (T := Under w.heap.size) HV.out (fun x hx => ⟨hx, HB.out.block x hx⟩)).at k hlt
    by_cases hki : k < i
    · have ho := HBF.out k hki
      clear hn
      rcases late_not ho with e1 | ⟨e1, e2⟩
      · rw [e1] at c3
        go_wp2
        go_roundw
        case rel => exact ⟨k + 1, by omega, by go_num, hbr.trans ((below_alloc _ _).mono hzr)⟩
        case measure => simp [intOf]; omega
      · rw [e1] at c3
        go_wp2
        go_roundw
        case rel => exact ⟨k + 1, by omega, by go_num, hbr.trans ((below_alloc _ _).mono hzr)⟩
        case measure => simp [intOf]; omega
    · obtain rfl : k = i := by omega
      have HN : Hid (NoteIs (Under w.heap.size) wr (.slice pa its[k].note.props.length pc, .slice qa its[k].note.body.length qc) its[k].note) := hn
      have hzw := HB.out.size
      have HKR : Hid (Blk wr (w.heap.size + 1) [.int .i64 0, .int .i64 0, .int .i64 0, .bool false, .int .i64 0, .slice none 0 0, .slice none 0 0]) := HX.out.2.2.below hbr (by omega)
      have hkr := HKR.out.lt
      obtain ⟨⟨d0, d1, d2, d3⟩, ⟨d4, d5, d6⟩, d7, d8⟩ := HKR.out.b7
      rw [g1] at c3
      clear hn
      go_wp2
      refine bodyPost_ret (v := .tuple #[.agg #[.int .i64 its[k].id, .int .i64 its[k].turn, .int .i64 its[k].tries, .bool true, .int .i64 its[k].due, .slice pa its[k].note.props.length pc, .slice qa its[k].note.body.length qc], .bool true]) (by simp [results, Try.results65, go_sem, *]; done) rfl ⟨(.slice pa its[k].note.props.length pc, .slice qa its[k].note.body.length qc), by simp only [IT.val, g1], ?_, ?_⟩
      · refine HN.out.sub fun x hx => ?_
        have hx' : x < w.heap.size := hx
        refine ⟨by show x < _; simp; omega, (Below.heap_alloc _ _ _ (by simp; omega)).trans ?_⟩
        iterate 7 rw [Below.heap_setCell _ _ _ _ (by simp; omega)]
      · refine Below.alloc ?_ (by simp; omega) _
        iterate 7 refine Below.setCell ?_ (by simp <;> omega) _
        exact HB.out
end Go.Proofs.Ytkddkpdfeeikhaa
