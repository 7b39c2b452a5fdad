/-
  RefDrop; RefPurge: texts laid together.
-/
import Derived.Test.YtpehkoompadpaaaHTellsProofM31
import Derived.Test.YtpehkoompadpaaaHTellsProofM28
/-
  tgref1.DropQueue.
-/
namespace Go.Proofs.Ytpehkoompadpaaa
open Go.RowKit
set_option linter.unusedVariables false
set_option linter.unusedSimpArgs false

attribute [local go_sem ↓] Go.wp_at_zero Go.wp_at_succ

theorem cellsQ_take (L : QuL) (k : Nat) (hk : k ≤ L.length) : (cellsQ L).take (k * 3) = cellsQ (L.take k) := flat_take _ 3 (fun _ => rfl) L k hk
theorem cellsQ_drop (L : QuL) (k : Nat) (hk : k ≤ L.length) : (cellsQ L).drop (k * 3) = cellsQ (L.drop k) := flat_drop _ 3 (fun _ => rfl) L k hk

theorem sliceQ_take {S : Nat → Prop} {w : World} {a : Option Addr} {n cap : Nat} {L : QuL} (h : SliceV S w (.slice a n cap) n (cellsQ L)) (hn : n = L.length) (k : Nat) (hk : k ≤ n) : SliceV S w (.slice a k cap) k (cellsQ (L.take k)) := by
  obtain ⟨a', cap', e, h1, h2, h3, h4⟩ := h
  simp only [Value.slice.injEq] at e
  obtain ⟨rfl, -, rfl⟩ := e
  refine ⟨a, cap, rfl, by omega, h2, h3, fun i hi => ?_⟩
  have hl := cellsQ_len L
  rw [cellsQ_len, List.length_take] at hi
  obtain ⟨b, off, e, hs, hc⟩ := h4 i (by omega)
  refine ⟨b, off, e, hs, ?_⟩
  rw [hc]
  congr 1
  have e2 := cellsQ_take L k (by omega)
  simp only [← e2, List.getElem_take]

theorem sliceQ_drop {S : Nat → Prop} {w : World} {b off n cap : Nat} {L : QuL} (h : SliceV S w (.slice (some ⟨b, off, none⟩) n cap) n (cellsQ L)) (hn : n = L.length) (k : Nat) (hk : k ≤ n) (A : Addr) (hA : (if cap = k then some (⟨b, off, none⟩ : Addr) else some ⟨b, off + k * 3, none⟩) = some A) : SliceV S w (.slice (some A) (n - k) (cap - k)) (n - k) (cellsQ (L.drop k)) := by
  obtain ⟨a', cap', e, h1, h2, h3, h4⟩ := h
  simp only [Value.slice.injEq] at e
  obtain ⟨rfl, -, rfl⟩ := e
  refine ⟨some A, cap - k, rfl, by omega, by unfold maxLen at *; omega, fun h => by simp at h, fun i hi => ?_⟩
  rw [cellsQ_len, List.length_drop] at hi
  have hne : ¬ cap = k := by omega
  rw [if_neg hne, Option.some.injEq] at hA
  subst hA
  have hl := cellsQ_len L
  obtain ⟨b', off', e, hs, hc⟩ := h4 (k * 3 + i) (by omega)
  simp only [Option.some.injEq, Addr.mk.injEq, and_true] at e
  obtain ⟨rfl, rfl⟩ := e
  refine ⟨b, off + k * 3, rfl, hs, ?_⟩
  rw [Nat.add_assoc, hc]
  congr 1
  have e2 := cellsQ_drop L k (by omega)
  simp only [← e2, List.getElem_drop]

set_option maxRecDepth 100000 in
set_option maxHeartbeats 3200000 in
theorem refDrop_any (S : Nat → Prop) (v : Value) (h : HD) (name : ByteArray) (w : World) (hS : ∀ b, S b → b < w.heap.size) (hv : SliceQ S w v h.queues) (hlen : h.queues.length ≤ 1000) :
    Calls Try.prog 20 #[.agg #[v, .int .i64 h.next], .string name] w fun e w' => AnsS S (faceF h name (fun k q => dropF h k q)) w e w' ∧ Below w.heap.size w w' := by
  obtain ⟨i0, hi0, hz0, hz1, hz2⟩ := info_parts info25
  have HV : Hid (SliceQ S w v h.queues) := hv
  have HSS : Hid (∀ b, S b → b < w.heap.size) := hS
  obtain ⟨va, vc, rfl, hc1, hc2, -⟩ := hv.shape
  have two : Hid (∀ o1 o2 : Obj, Below w.heap.size w ((w.alloc o1).alloc o2)) := fun o1 o2 => (below_alloc _ _).alloc (by simp) _
  rcases idxQ_cases name h.queues with ⟨hd, -⟩ | ⟨k, hk, hd, hnm, -⟩
  · rw [faceF_none hd]
    have HI : Hid (idxQ name h.queues = -1) := hd
    clear hd hv hS
    go_enter Try.func20, Try.ntmps20
    go_wp2_with (go_at_call 11; refine (refFind_any name _ h.next h.queues _ (HV.out.sub fun b hb => ⟨?_, (two.out _ _).block b (HSS.out b hb)⟩)).mono ?_; (have := HSS.out b hb; simp [Under]; omega); rw [HI.out]; rintro e w1 ⟨rfl, hb1⟩; have hk2 := (Blk.new (w.alloc _) [.slice none 0 0, .int .i64 0] 24).below hb1 (by simp); simp only [World.size_alloc] at hk2; obtain ⟨c0, c1, c2, c3⟩ := hk2.b2; have HB1 : Hid (Below w.heap.size w w1) := (two.out _ _).trans (hb1.mono (by simp; omega)); clear hb1 hk2)
    refine bodyPost_ret (v := .tuple #[.agg #[.slice none 0 0, .int .i64 0], .slice none 0 0, .int .i64 6]) (by simp [results, Try.results20, go_sem, *]; done) rfl ⟨AnsS.refuse _ _ _ _, ?_⟩
    iterate 2 refine Below.setCell ?_ (by simp) _
    exact HB1.out
  · rw [faceF_some hd hk]
    have hfl : failF (dropF h k h.queues[k]) = (⟨h.queues.eraseIdx k, h.next⟩, [⟨2, name, 0, 0, nN⟩], 0) := by simp [failF, dropF, hnm]
    rw [hfl]
    have HI : Hid (idxQ name h.queues = (k : Int)) := hd
    obtain ⟨L, hLe, hL, hN⟩ := hv
    have hLl : h.queues.length = L.length := by rw [← hLe]; simp
    obtain ⟨m, hm⟩ : ∃ m, L.length = k + m + 1 := ⟨L.length - k - 1, by omega⟩
    rw [hLl, hm] at hk hc1 hlen HV ⊢
    rw [hLl, hm] at hL
    have HL : Hid (SliceV S w (.slice va (k + m + 1) vc) (k + m + 1) (cellsQ L)) := by rw [← hm] at hL ⊢; exact hL
    have HN : Hid (L.map Prod.fst = h.queues ∧ ∀ x ∈ L, SliceI S w x.2 x.1.items) := ⟨hLe, hN⟩
    have HO : Hid (∀ u ∈ cellsQ L, u.oneCell' = true) := cellsQ_one L hN
    have HMM : Hid (L.length = k + m + 1) := hm
    obtain ⟨b, off, rfl, -⟩ : ∃ b off, va = some ⟨b, off, none⟩ ∧ True := by
      obtain ⟨_, _, e, _, _, _, h4⟩ := HL.out
      obtain ⟨b, off, e2, -⟩ := h4 0 (by rw [cellsQ_len]; omega)
      simp only [Value.slice.injEq] at e
      exact ⟨b, off, e.1.trans e2, trivial⟩
    obtain ⟨A, hA⟩ : ∃ A : Addr, (if vc = k + 1 then some (⟨b, off, none⟩ : Addr) else some ⟨b, off + (k + 1) * 3, none⟩) = some A := by
      split <;> exact ⟨_, rfl⟩
    have hT : Hid (∀ u ∈ cellsQ (L.take k), u.oneCell' = true) := fun u hu => HO.out u (List.mem_of_mem_take (by rw [cellsQ_take L k (by have := HMM.out; omega)]; exact hu))
    have hD : Hid (∀ u ∈ cellsQ (L.drop (k + 1)), u.oneCell' = true) := fun u hu => HO.out u (List.mem_of_mem_drop (by rw [cellsQ_drop L (k + 1) (by have := HMM.out; omega)]; exact hu))
    have HLT : Hid ((cellsQ (L.take k)).length = k * 3 ∧ (cellsQ (L.drop (k + 1))).length = m * 3) := by
      have := HMM.out
      refine ⟨by rw [cellsQ_len, List.length_take]; omega, by rw [cellsQ_len, List.length_drop]; omega⟩
    clear hd hfl hLe hL hN hLl hm hS hnm
    have hkc : k ≤ vc := by omega
    have hkc1 : k + 1 ≤ vc := by omega
    have hnn : (0 : Int) ≤ (k : Int) + 1 := by omega
    have hnmm : (k : Int) ≤ (k : Int) + (m : Int) := by omega
    have hn3 : (k : Int) + 1 ≤ (k : Int) + (m : Int) + 1 := by omega
    have hn4 : (k : Int) + 1 ≤ ((k + m + 1 : Nat) : Int) := by omega
    have hn5 : (k : Int) ≤ ((k + m + 1 : Nat) : Int) := by omega
    have hn6 : (k : Int) + 1 ≤ (vc : Int) := by omega
    have hwr : IntKind.i64.wrap ((k : Int) + 1) = (k : Int) + 1 := by rw [IntKind.wrap_i64]; omega
    have htn : ((k : Int) + 1).toNat = k + 1 := by omega
    unfold maxLen at hc2
    go_enter Try.func20, Try.ntmps20
    go_upto_region 4 with (go_at_call 11; refine (refFind_any name _ h.next h.queues _ (HV.out.sub fun b hb => ⟨?_, (two.out _ _).block b (HSS.out b hb)⟩)).mono ?_; (have := HSS.out b hb; simp [Under]; omega); rw [HI.out]; rintro e w1 ⟨rfl, hb1⟩; have hk0 := ((Blk.new w [.slice (some ⟨b, off, none⟩) (k + m + 1) vc, .int .i64 h.next] 24).alloc _).below hb1 (by simp; omega); have hk1 := (Blk.new (w.alloc _) [.slice none 0 0, .int .i64 0] 24).below hb1 (by simp); simp only [World.size_alloc] at hk0 hk1; have HK : Hid (Blk w1 w.heap.size [.slice (some ⟨b, off, none⟩) (k + m + 1) vc, .int .i64 h.next] ∧ Blk w1 (w.heap.size + 1) [.slice none 0 0, .int .i64 0]) := ⟨hk0, hk1⟩; have HB1 : Hid (Below w.heap.size w w1) := (two.out _ _).trans (hb1.mono (by simp; omega)); clear hb1 hk0 hk1)
    obtain ⟨x0, x1, x2, x3⟩ := HK.out.1.b2
    obtain ⟨c0, c1, c2, c3⟩ := HK.out.2.b2
    have n1 : w1.heap.size ≠ w.heap.size := by omega
    have ny : Hid True := trivial
    go_region_law (first
      | (clear ny; refine step_appV (by rfl) _ _ 22 (by rfl) 71 i0 _ 3 48 Try.underlying22 hi0 hz0 hz1 hz2 rfl (by omega) w1.heap.size (.slice (some ⟨w1.heap.size, 0, none⟩) 0 0) 0 [] (by rfl) (emptyQ_own _ _ _ (by simp) (by omega)) S (.slice (some ⟨b, off, none⟩) k vc) k (cellsQ (L.take k)) (by rfl) (sliceQ_take (SliceV.sub HL.out (fun i hi => ⟨hi, (Below.heap_alloc _ _ _ (by have := HSS.out i hi; omega)).trans (HB1.out.block i (HSS.out i hi))⟩)) HMM.out.symm k (by omega)) HLT.out.1 hT.out (by unfold maxLen; omega) (by omega) (by simp) ?_; intro ao cap w2 ho2 hg2 hm2; have HO2 : Hid (w2.ownsRow w1.heap.size 71 3 (.slice ao k cap) k (cellsQ (L.take k)) ∧ Below w1.heap.size w1 w2) := ⟨by simpa using ho2, hg2.os, hg2.tape, hg2.output, by have := hg2.size; simp at this; omega, fun i hi => (hg2.block i (by simp; omega) (fun e => by simp only [Value.ownBlock, Option.some.injEq] at e; omega)).trans (Below.heap_alloc _ _ _ hi)⟩; have q0 := bel_c HO2.out.2 x3 x0; have hz2' := HO2.out.2.size; clear ho2 hg2 hm2)
      | (refine step_appV (by rfl) _ _ 22 (by rfl) 71 i0 _ 3 48 Try.underlying22 hi0 hz0 hz1 hz2 rfl (by omega) w1.heap.size (.slice ao k cap) k (cellsQ (L.take k)) (by rfl) HO2.out.1 S (.slice (some A) m (vc - (k + 1))) m (cellsQ (L.drop (k + 1))) (by rfl) (by have h := sliceQ_drop (SliceV.sub (T := S) HL.out (fun i hi => ⟨hi, (HO2.out.2.block i (by have := HSS.out i hi; omega)).trans (HB1.out.block i (HSS.out i hi))⟩)) HMM.out.symm (k + 1) (by omega) A hA; rw [show k + m + 1 - (k + 1) = m by omega] at h; exact h) HLT.out.2 hD.out (by unfold maxLen; omega) (by omega) (by omega) ?_; intro ao2 cap2 w3 ho3 hg3 hm3; have HO3 : Hid (w3.ownsRow w1.heap.size 71 3 (.slice ao2 (k + m) cap2) (k + m) (cellsQ (L.take k) ++ cellsQ (L.drop (k + 1))) ∧ Below w1.heap.size w1 w3) := ⟨ho3, hg3.os.trans HO2.out.2.os, hg3.tape.trans HO2.out.2.tape, hg3.output.trans HO2.out.2.output, Nat.le_trans hz2' hg3.size, fun i hi => (hg3.block i (by omega) (fun e => by have := (HO2.out.1.lt i e.symm).1; omega)).trans (HO2.out.2.block i hi)⟩; have hk0 := HK.out.1.below HO3.out.2 HK.out.1.lt; have hk1 := HK.out.2.below HO3.out.2 HK.out.2.lt; obtain ⟨d0, d1, d2, d3⟩ := hk0.b2; obtain ⟨e0, e1, e2, e3⟩ := hk1.b2; have HE3 : Hid (Blk w3 (w.heap.size + 1) [.slice none 0 0, .int .i64 0]) := hk1; have hz3' := HO3.out.2.size; clear ho3 hg3 hm3 hk0 hk1))
    all_goals
      go_wp2_with fail
      obtain ⟨W5, hW5⟩ : ∃ W5, W5 = w3.setCell ⟨w.heap.size, 0, none⟩ (.slice ao2 (k + m) cap2) := ⟨_, rfl⟩
      rw [← hW5]
      have hz5 : W5.heap.size = w3.heap.size := by rw [hW5]; simp
      have hx5 : ∀ b, b ≠ w.heap.size → W5.heap[b]? = w3.heap[b]? := fun b hb => by rw [hW5, Below.heap_setCell _ _ _ _ hb]
      have hR5 : Blk W5 (w.heap.size + 1) [.slice none 0 0, .int .i64 0] := HE3.out.same (hx5 _ (by omega))
      have hB5 : Below w.heap.size w W5 := by
        rw [hW5]
        exact (HB1.out.trans (HO3.out.2.mono (by omega))).setCell (by simp) _
      have hQ5 : SliceQ (fun b => S b ∨ (w1.heap.size ≤ b ∧ b < w3.heap.size)) W5 (.slice ao2 (k + m) cap2) (h.queues.eraseIdx k) := by
        have hll : (L.take k ++ L.drop (k + 1)).length = k + m := by have := HMM.out; simp; omega
        refine ⟨L.take k ++ L.drop (k + 1), by rw [← HN.out.1]; exact del_L _ _ _, ?_, fun x hx => ?_⟩
        · rw [hll, cellsQ_append]
          refine SliceV.sub (own_slice HO3.out.1) fun b hb => ?_
          have h1 := HO3.out.1.lt b hb
          exact ⟨.inr h1, hx5 b (by omega)⟩
        · have hxL : x ∈ L := by
            rcases List.mem_append.1 hx with h | h
            · exact List.mem_of_mem_take h
            · exact List.mem_of_mem_drop h
          exact (HN.out.2 x hxL).sub fun b hb => ⟨.inl hb, hB5.block b (HSS.out b hb)⟩
      have hT5 : ∀ b, (S b ∨ (w1.heap.size ≤ b ∧ b < w3.heap.size)) → (S b ∨ w.heap.size ≤ b) ∧ b < W5.heap.size ∧ b ≠ w.heap.size + 1 := fun b hb => by
        rcases hb with hb | hb
        · have := HSS.out b hb
          exact ⟨.inl hb, by omega, by omega⟩
        · exact ⟨.inr (by omega), by omega, by omega⟩
      have F := Fn.A hR5 (.slice ao2 (k + m) cap2) (.int .i64 h.next) (.cells #[.int .i64 2, .string name, .int .i64 0, .int .i64 0, .slice none 0 0, .slice none 0 0] 54)
      obtain ⟨wF, hF⟩ : ∃ wF, wF = ((W5.setCell ⟨w.heap.size + 1, 0, none⟩ (.slice ao2 (k + m) cap2)).setCell ⟨w.heap.size + 1, 1, none⟩ (.int .i64 h.next)).alloc (.cells #[.int .i64 2, .string name, .int .i64 0, .int .i64 0, .slice none 0 0, .slice none 0 0] 54) := ⟨_, rfl⟩
      have hE : Blk wF w3.heap.size (ED.cells ⟨2, name, 0, 0, nN⟩ (.slice none 0 0, .slice none 0 0)) := by
        have := Blk.new ((W5.setCell ⟨w.heap.size + 1, 0, none⟩ (.slice ao2 (k + m) cap2)).setCell ⟨w.heap.size + 1, 1, none⟩ (.int .i64 h.next)) [.int .i64 2, .string name, .int .i64 0, .int .i64 0, .slice none 0 0, .slice none 0 0] 54
        simp only [World.size_setCell] at this
        rw [← hF, hz5] at this
        exact this
      rw [← hF] at F
      rw [← hF]
      have hA := Fn.ans (S := S) (hd := ⟨h.queues.eraseIdx k, h.next⟩) F (by omega) hB5 hQ5 hT5 (entry_one ⟨2, name, 0, 0, nN⟩ _ hE (.inr ⟨by omega, hE.lt⟩) (NoteIs.nil _ _))
      obtain ⟨f0, f1, f2, f3⟩ := F.box.b2
      clear hF hT5 hE hz5 hx5 hW5 d0 d1 e0 e1
      exact bodyPost_ret (v := .tuple #[.agg #[.slice ao2 (k + m) cap2, .int .i64 h.next], .slice (some ⟨w3.heap.size, 0, none⟩) 1 1, .int .i64 0]) (by simp [results, Try.results20, go_sem, *]; done) rfl hA
end Go.Proofs.Ytpehkoompadpaaa

/-
  tgref1.Purge.
-/
namespace Go.Proofs.Ytpehkoompadpaaa
open Go.RowKit
set_option linter.unusedVariables false
set_option linter.unusedSimpArgs false

attribute [local go_sem ↓] Go.wp_at_zero Go.wp_at_succ

/-- What holds in tgref1.Purge behind k items. -/
structure PI (w : World) (name : ByteArray) (limit : Int) (va : Option Addr) (n vc : Nat) (L : ItL) (k : Nat) (wr : World) (lv gv : Value) : Prop where
  bel : Below w.heap.size w wr
  q : Blk wr w.heap.size [.string name, .int .i64 limit, .slice va n vc]
  res : Blk wr (w.heap.size + 1) [.string ⟨#[]⟩, .int .i64 0, .slice none 0 0]
  lo : wr.ownsRow (w.heap.size + 2) 48 7 lv ((L.take k).filter (fun x => x.1.out)).length (cellsI ((L.take k).filter (fun x => x.1.out)))
  go : wr.ownsRow (w.heap.size + 2) 3 1 gv (goneL ((L.take k).map Prod.fst)).length (ints (goneL ((L.take k).map Prod.fst)))
  apart : ∀ b, lv.ownBlock = some b → gv.ownBlock ≠ some b

section
variable {w : World} {name : ByteArray} {limit : Int} {va : Option Addr} {n vc : Nat} {L : ItL} {k : Nat} {wr : World} {lv gv : Value}

/-- Memory that is new alone. -/
theorem PI.on (h : PI w name limit va n vc L k wr lv gv) {W : World} (hb : Below wr.heap.size wr W) : PI w name limit va n vc L k W lv gv :=
  ⟨h.bel.trans (hb.mono h.bel.size), h.q.below hb h.q.lt, h.res.below hb h.res.lt, own_below h.lo hb, own_below h.go hb, h.apart⟩

theorem PI.stay (h : PI w name limit va n vc L k wr lv gv) (hk : k < L.length) (ho : L[k].1.out = true) {m : Nat} (hm0 : m = ((L.take k).filter (fun x => x.1.out)).length) {W : World} {ao : Option Addr} {cap : Nat}
    (h1 : W.ownsRow (w.heap.size + 2) 48 7 (.slice ao (m + 1) cap) (m + 1) (cellsI ((L.take k).filter (fun x => x.1.out)) ++ L[k].1.cells L[k].2)) (hg : wr.grownBy W lv.ownBlock) (hm : Moved wr lv (.slice ao (m + 1) cap)) :
    PI w name limit va n vc L (k + 1) W (.slice ao (m + 1) cap) gv := by
  subst hm0
  have hl := h.lo.lt
  have hz := h.res.lt
  have nb : ∀ b, b < w.heap.size + 2 → W.heap[b]? = wr.heap[b]? := fun b hb => hg.block b (by omega) (fun e => by have := (hl b e.symm).1; omega)
  have ef : (L.take (k + 1)).filter (fun x => x.1.out) = (L.take k).filter (fun x => x.1.out) ++ [L[k]] := by
    rw [List.take_succ_eq_append_getElem hk, List.filter_append]; simp [ho]
  have eg : goneL ((L.take (k + 1)).map Prod.fst) = goneL ((L.take k).map Prod.fst) := by
    rw [List.take_succ_eq_append_getElem hk, List.map_append]
    show goneL (_ ++ [L[k].1]) = _
    rw [goneL_snoc, ho]; simp
  refine ⟨h.bel.trans ⟨hg.os, hg.tape, hg.output, hg.size, fun b hb => nb b (by omega)⟩, h.q.same (nb _ (by omega)), h.res.same (nb _ (by omega)), ?_, ?_, fun b hb e => ?_⟩
  · rw [ef, List.length_append, cellsI_snoc]; exact h1
  · rw [eg]
    refine ⟨h.go.1, ?_⟩
    rcases h.go.2 with h2 | ⟨g, c, cur, e, hbg, hgg, hr⟩
    · exact .inl h2
    · exact .inr ⟨g, c, cur, e, hbg, (hg.block g (Array.getElem?_eq_some_iff.1 hgg).1 (fun e2 => h.apart g e2.symm (by rw [e]; rfl))).trans hgg, hr⟩
  · rcases hm b hb with h2 | h2
    · exact h.apart b h2 e
    · have := (h.go.lt b e).2; omega

theorem PI.gone (h : PI w name limit va n vc L k wr lv gv) (hk : k < L.length) (ho : L[k].1.out = false) {m : Nat} (hm0 : m = (goneL ((L.take k).map Prod.fst)).length) {W : World} {ao : Option Addr} {cap : Nat}
    (h1 : W.ownsRow (w.heap.size + 2) 3 1 (.slice ao (m + 1) cap) (m + 1) (ints (goneL ((L.take k).map Prod.fst)) ++ [.int .i64 L[k].1.id])) (hg : wr.grownBy W gv.ownBlock) (hm : Moved wr gv (.slice ao (m + 1) cap)) :
    PI w name limit va n vc L (k + 1) W lv (.slice ao (m + 1) cap) := by
  subst hm0
  have hl := h.go.lt
  have hz := h.res.lt
  have nb : ∀ b, b < w.heap.size + 2 → W.heap[b]? = wr.heap[b]? := fun b hb => hg.block b (by omega) (fun e => by have := (hl b e.symm).1; omega)
  have ef : (L.take (k + 1)).filter (fun x => x.1.out) = (L.take k).filter (fun x => x.1.out) := by
    rw [List.take_succ_eq_append_getElem hk, List.filter_append]; simp [ho]
  have eg : goneL ((L.take (k + 1)).map Prod.fst) = goneL ((L.take k).map Prod.fst) ++ [L[k].1.id] := by
    rw [List.take_succ_eq_append_getElem hk, List.map_append]
    show goneL (_ ++ [L[k].1]) = _
    rw [goneL_snoc, ho]; simp
  refine ⟨h.bel.trans ⟨hg.os, hg.tape, hg.output, hg.size, fun b hb => nb b (by omega)⟩, h.q.same (nb _ (by omega)), h.res.same (nb _ (by omega)), ?_, ?_, fun b hb e => ?_⟩
  · rw [ef]
    refine ⟨h.lo.1, ?_⟩
    rcases h.lo.2 with h2 | ⟨g, c, cur, e, hbg, hgg, hr⟩
    · exact .inl h2
    · exact .inr ⟨g, c, cur, e, hbg, (hg.block g (Array.getElem?_eq_some_iff.1 hgg).1 (fun e2 => h.apart g (by rw [e]; rfl) e2.symm)).trans hgg, hr⟩
  · have : ints (goneL ((L.take k).map Prod.fst) ++ [L[k].1.id]) = ints (goneL ((L.take k).map Prod.fst)) ++ [.int .i64 L[k].1.id] := by simp [ints]
    rw [eg, List.length_append, this]; exact h1
  · rcases hm b e with h2 | h2
    · exact h.apart b hb h2
    · have := (h.lo.lt b hb).2; omega
end

set_option maxRecDepth 100000 in
set_option maxHeartbeats 3200000 in
theorem refPurge_any (v : Value) (name : ByteArray) (limit : Int) (its : List IT) (hlen : its.length ≤ 1000) (w : World) (hv : SliceI (Under w.heap.size) w v its) :
    Calls Try.prog 76 #[.agg #[.string name, .int .i64 limit, v]] w fun e w' => ∃ v' u, e = .returned (.tuple #[.agg #[.string name, .int .i64 limit, v'], u]) ∧ SliceI (Under w'.heap.size) w' v' (its.filter IT.out) ∧ SliceV (Under w'.heap.size) w' u (goneL its).length (ints (goneL its)) ∧ Below w.heap.size w w' := by
  obtain ⟨i0, hi0, hz0, hz1, hz2⟩ := info_parts info34
  obtain ⟨j0, hj0, hy0, hy1, hy2⟩ := info_parts info3
  obtain ⟨L, rfl, hL⟩ := hv
  have HL : Hid (SliceL (Under w.heap.size) w v L) := hL
  obtain ⟨va, vc, rfl, -⟩ := hL.1.shape
  have hln : L.length ≤ 1000 := by simpa using hlen
  clear hL hlen
  have HP0 : Hid (PI w name limit va L.length vc L 0 ((w.alloc (.cells #[.string name, .int .i64 limit, .slice va L.length vc] 71)).alloc (.cells #[.string ⟨#[]⟩, .int .i64 0, .slice none 0 0] 71)) (.slice none 0 0) (.slice none 0 0)) := by
    refine ⟨(below_alloc _ _).alloc (by simp) _, (Blk.new _ _ _).alloc _, ?_, World.ownsRow_nil _ _ _ _, World.ownsRow_nil _ _ _ _, fun b hb => by simp [Value.ownBlock] at hb⟩
    have := Blk.new (w.alloc (.cells #[.string name, .int .i64 limit, .slice va L.length vc] 71)) [.string ⟨#[]⟩, .int .i64 0, .slice none 0 0] 71
    simpa using this
  go_enter Try.func76, Try.ntmps76
  go_wp2
  go_loopw [4, 5, 11] (fun lv gv x wr => ∃ k : Nat, k ≤ L.length ∧ x = .int .i64 k ∧ PI w name limit va L.length vc L k wr lv gv) (fun _ _ x _ => L.length - (intOf x).toNat)
  case atStart => exact ⟨0, Nat.zero_le _, rfl, HP0.out⟩
  case round =>
    obtain ⟨k, hk, rfl, hP⟩ := hrel
    have HP : Hid (PI w name limit va L.length vc L k wr u4 u5) := hP
    have hbw := hP.bel
    have hzw := hbw.size
    obtain ⟨la, lc, rfl, -⟩ := own_shape hP.lo
    obtain ⟨ga, gc, rfl, -⟩ := own_shape hP.go
    obtain ⟨nl, hnl⟩ : ∃ nl, nl = ((L.take k).filter (fun x => x.1.out)).length := ⟨_, rfl⟩
    obtain ⟨ng, hng⟩ : ∃ ng, ng = (goneL ((L.take k).map Prod.fst)).length := ⟨_, rfl⟩
    have hn1 : nl ≤ 1000 := by
      have h1 := List.length_filter_le (fun x : IT × (Value × Value) => x.1.out) (L.take k)
      have h2 := List.length_take_le k L
      have h3 : (L.take k).length ≤ L.length := by simp; omega
      omega
    have hn2 : ng ≤ 1000 := by
      have h1 := goneL_len ((L.take k).map Prod.fst)
      have h3 : ((L.take k).map Prod.fst).length ≤ L.length := by simp; omega
      omega
    have HLO : Hid (wr.ownsRow (w.heap.size + 2) 48 7 (.slice la nl lc) nl (cellsI ((L.take k).filter (fun x => x.1.out)))) := by rw [hnl]; exact hP.lo
    have HGO : Hid (wr.ownsRow (w.heap.size + 2) 3 1 (.slice ga ng gc) ng (ints (goneL ((L.take k).map Prod.fst)))) := by rw [hng]; exact hP.go
    have HP2 : Hid (PI w name limit va L.length vc L k wr (.slice la nl lc) (.slice ga ng gc)) := by rw [hnl, hng]; exact hP
    have HNL : Hid (nl = ((L.take k).filter (fun x => x.1.out)).length) := hnl
    have HNG : Hid (ng = (goneL ((L.take k).map Prod.fst)).length) := hng
    have hrl := hP.res.lt
    by_cases hlt : k < L.length
    · rw [← hnl, ← hng]
      obtain ⟨b, off, rfl, hS, ⟨c0, c1, c2, c3⟩, c4, c5, c6⟩ := (SliceL.sub (T := Under w.heap.size) HL.out (fun x hx => ⟨hx, hbw.block x hx⟩)).at k hlt
      have hnote := HL.out.2 L[k] (List.getElem_mem hlt)
      obtain ⟨pa, pc, e1, -⟩ := SliceV.shape hnote.1
      obtain ⟨qa, qc, e2, -⟩ := SliceV.shape hnote.2
      have hpq : L[k].2 = (.slice pa L[k].1.note.props.length pc, .slice qa L[k].1.note.body.length qc) := by rw [← e1, ← e2]
      have HPQ : Hid (L[k].2 = (.slice pa L[k].1.note.props.length pc, .slice qa L[k].1.note.body.length qc)) := hpq
      rw [e1] at c5
      rw [e2] at c6
      clear hP HP hnote e1 e2 hpq hnl hng
      cases ho : L[k].1.out
      · rw [ho] at c3
        go_wp2_with (at_builtin; refine wpList_appV rfl (.tmp 21) (.tmp 24) 94 rfl 3 j0 _ 1 8 Try.underlying94 hj0 hy0 hy1 hy2 rfl (by omega) (w.heap.size + 2) (.slice ga ng gc) ng (ints (goneL ((L.take k).map Prod.fst))) rfl (own_below (own_below HGO.out (below_alloc _ _)) (below_alloc _ _)) (fun _ => True) (.slice (some ⟨wr.heap.size + 1, 0, none⟩) 1 1) 1 [.int .i64 L[k].1.id] rfl (one_slice' _ _ _ _ (by simp)) rfl (by simp [Value.oneCell']) (by unfold maxLen; omega) (by omega) (by simp <;> omega) ?_; intro ao cap w1 ho1 hg1 hm1)
        go_roundw
        case rel =>
          exact ⟨k + 1, by omega, by go_num, PI.gone ((HP2.out.on (below_alloc _ _)).on (below_alloc _ _)) hlt ho HNG.out ho1 hg1 hm1⟩
        case measure => simp [intOf]; omega
      · rw [ho] at c3
        go_wp2_with (at_builtin; refine wpList_appV rfl (.tmp 17) (.tmp 19) 69 rfl 48 i0 _ 7 88 Try.underlying69 hi0 hz0 hz1 hz2 rfl (by omega) (w.heap.size + 2) (.slice la nl lc) nl (cellsI ((L.take k).filter (fun x => x.1.out))) rfl (own_below (own_below HLO.out (below_alloc _ _)) (below_alloc _ _)) (fun _ => True) (.slice (some ⟨wr.heap.size + 1, 0, none⟩) 1 1) 1 (L[k].1.cells L[k].2) rfl (by have h := row7_slice (wr.alloc (.cells #[.int .i64 L[k].1.id, .int .i64 L[k].1.turn, .int .i64 L[k].1.tries, .bool true, .int .i64 L[k].1.due, .slice pa L[k].1.note.props.length pc, .slice qa L[k].1.note.body.length qc] 48)) L[k].1 (.slice pa L[k].1.note.props.length pc) (.slice qa L[k].1.note.body.length qc); rw [ho, ← HPQ.out] at h; simpa using h) rfl (by rw [HPQ.out]; simp [IT.cells, Value.oneCell']) (by unfold maxLen; omega) (by omega) (by simp <;> omega) ?_; intro ao cap w1 ho1 hg1 hm1)
        go_roundw
        case rel =>
          exact ⟨k + 1, by omega, by go_num, PI.stay ((HP2.out.on (below_alloc _ _)).on (below_alloc _ _)) hlt ho HNL.out ho1 hg1 hm1⟩
        case measure => simp [intOf]; omega
    · obtain rfl : k = L.length := by omega
      obtain ⟨q0, q1, q2, q3, q4⟩ := hP.q.b3
      obtain ⟨r0, r1, r2, r3, r4⟩ := hP.res.b3
      rw [← hnl, ← hng]
      clear hP HP hnl hng
      go_wp2
      refine bodyPost_ret (v := .tuple #[.agg #[.string name, .int .i64 limit, .slice la nl lc], .slice ga ng gc]) (by simp [results, Try.results76, go_sem, *]; done) rfl ⟨_, _, rfl, ⟨L.filter (fun x => x.1.out), ?_, ?_, fun x hx => ?_⟩, ?_, ?_⟩
      · rw [List.filter_map]; rfl
      · have h := own_slice HLO.out
        have e := HNL.out
        rw [List.take_of_length_le (Nat.le_refl _)] at h e
        rw [← e]
        refine h.sub fun i hi => ?_
        have h1 := HLO.out.lt i hi
        refine ⟨by show i < _; simpa using h1.2, ?_⟩
        iterate 4 rw [Below.heap_setCell _ _ _ _ (by simp; omega)]
      · refine (HL.out.2 x (List.mem_filter.1 hx).1).sub fun i hi => ?_
        have hi' : i < w.heap.size := hi
        refine ⟨by show i < _; simp; omega, ?_⟩
        iterate 4 rw [Below.heap_setCell _ _ _ _ (by simp; omega)]
        exact hbw.block i hi'
      · have h := own_slice HGO.out
        have e := HNG.out
        rw [List.take_of_length_le (Nat.le_refl _)] at h e
        rw [← e]
        refine h.sub fun i hi => ?_
        have h1 := HGO.out.lt i hi
        refine ⟨by show i < _; simpa using h1.2, ?_⟩
        iterate 4 rw [Below.heap_setCell _ _ _ _ (by simp; omega)]
      · iterate 4 refine Below.setCell ?_ (by simp <;> omega) _
        exact hbw
end Go.Proofs.Ytpehkoompadpaaa
