/-
  RefPlain; JLaw5: texts laid together.
-/
import Derived.Test.YtkddkpdfeeikhaaJShortProofM28
import Derived.Test.YtkddkpdfeeikhaaJShortProofM34
import Derived.Test.YtkddkpdfeeikhaaJShortProofM46
import Derived.Test.YtkddkpdfeeikhaaJShortProofM42
import Derived.Test.YtkddkpdfeeikhaaJShortProofM29
/-
  tgref1.Plain.
-/
namespace Go.Proofs.Ytkddkpdfeeikhaa
open Go.RowKit
set_option linter.unusedVariables false
set_option linter.unusedSimpArgs false

attribute [local go_sem ↓] Go.wp_at_zero Go.wp_at_succ

/-- What holds in Plain, behind k queues. -/
structure RI (S : Nat → Prop) (w : World) (next : Int) (qs : List QD) (k : Nat) (wr : World) (vi : Value) (L' : QuL) : Prop where
  bel : Below w.heap.size w wr
  res : Blk wr (w.heap.size + 1) [.slice none 0 0, .int .i64 0]
  out : Blk wr (w.heap.size + 1 + 1) [vi, .int .i64 next]
  own : wr.ownsRow (w.heap.size + 3) 76 3 vi L'.length (cellsQ L')
  items : ∀ x ∈ L', SliceI (fun b => S b ∨ (w.heap.size + 3 ≤ b ∧ b < wr.heap.size ∧ vi.ownBlock ≠ some b)) wr x.2 x.1.items
  list : L'.map Prod.fst = (qs.take k).map plainQ

section
variable {S : Nat → Prop} {w : World} {next : Int} {qs : List QD} {k : Nat} {wr : World} {vi : Value} {L' : QuL}

theorem RI.lt (h : RI S w next qs k wr vi L') : w.heap.size + 3 ≤ wr.heap.size := by have := h.out.lt; omega

theorem RI.more (hS : ∀ b, S b → b < w.heap.size) (h : RI S w next qs k wr vi L') (hk : k < qs.length) {w1 w2 : World} {v : Value} {o : Obj} {gg cap : Nat}
    (hn : SliceI (fun b => S b ∨ Made wr.heap.size w1.heap.size b) w1 v (plainQ qs[k]).items) (h1 : Below wr.heap.size wr w1)
    (ho : w2.ownsRow (w.heap.size + 3) 76 3 (.slice (some ⟨gg, 0, none⟩) (L'.length + 1) cap) (L'.length + 1) (cellsQ L' ++ (plainQ qs[k]).cells v)) (hg : (w1.alloc o).grownBy w2 vi.ownBlock) (hat : vi.ownBlock = some gg ∨ w1.heap.size + 1 ≤ gg) :
    RI S w next qs (k + 1) (w2.setCell ⟨w.heap.size + 1 + 1, 0, none⟩ (.slice (some ⟨gg, 0, none⟩) (L'.length + 1) cap)) (.slice (some ⟨gg, 0, none⟩) (L'.length + 1) cap) (L' ++ [(plainQ qs[k], v)]) := by
  have hl := h.lt
  have hz1 := h1.size
  have hz2 : w1.heap.size + 1 ≤ w2.heap.size := by have := hg.size; simp at this; omega
  have hown : ∀ b, vi.ownBlock = some b → w.heap.size + 3 ≤ b ∧ b < wr.heap.size := fun b hb => h.own.lt b hb
  have blk : ∀ b, b < w1.heap.size → vi.ownBlock ≠ some b → w2.heap[b]? = w1.heap[b]? := fun b hb hn => (hg.block b (by simp; omega) (fun e => hn e.symm)).trans (Below.heap_alloc _ _ _ hb)
  have blk' : ∀ b, b < wr.heap.size → vi.ownBlock ≠ some b → w2.heap[b]? = wr.heap[b]? := fun b hb hn => (blk b (by omega) hn).trans (h1.block b hb)
  have blo : ∀ b, b < w.heap.size + 3 → w2.heap[b]? = wr.heap[b]? := fun b hb => blk' b (by omega) (fun e => by have := (hown b e).1; omega)
  have hge : ∀ b, vi.ownBlock ≠ some b → b < w1.heap.size → (Value.slice (some ⟨gg, 0, none⟩) (L'.length + 1) cap).ownBlock ≠ some b := fun b hb hlt e => by
    simp only [Value.ownBlock, Option.some.injEq] at e
    subst e
    rcases hat with h | h
    · exact hb h
    · omega
  have hSw : ∀ b, S b → w2.heap[b]? = wr.heap[b]? := fun b hb => blo b (by have := hS b hb; omega)
  refine ⟨⟨?_, ?_, ?_, ?_, fun b hb => ?_⟩, ?_, ?_, ?_, fun x hx => ?_, ?_⟩
  · exact hg.os.trans (h1.os.trans h.bel.os)
  · exact hg.tape.trans (h1.tape.trans h.bel.tape)
  · exact hg.output.trans (h1.output.trans h.bel.output)
  · simp; have := h.bel.size; omega
  · rw [Below.heap_setCell _ _ _ _ (by simp; omega), blo b (by omega)]
    exact h.bel.block b hb
  · exact (h.res.same (blo _ (by omega))).far (by simp) _
  · exact (h.out.same (blo _ (by omega))).set 0 _
  · rw [List.length_append, cellsQ_append]
    have : cellsQ [(plainQ qs[k], v)] = (plainQ qs[k]).cells v := by simp [cellsQ]
    rw [this]
    exact ownsRow_setCell_below ho (by simp) _
  · rw [List.mem_append, List.mem_singleton] at hx
    rcases hx with hx | rfl
    · refine (h.items x hx).sub fun b hb => ?_
      rcases hb with hb | hb
      · refine ⟨.inl hb, ?_⟩
        rw [Below.heap_setCell _ _ _ _ (by have := hS b hb; simp; omega), hSw b hb]
      · refine ⟨.inr ⟨hb.1, by simp; omega, hge b hb.2.2 (by omega)⟩, ?_⟩
        rw [Below.heap_setCell _ _ _ _ (by simp; omega), blk' b hb.2.1 hb.2.2]
    · refine hn.sub fun b hb => ?_
      rcases hb with hb | hb
      · refine ⟨.inl hb, ?_⟩
        rw [Below.heap_setCell _ _ _ _ (by have := hS b hb; simp; omega), hSw b hb, h1.block b (by have := hS b hb; omega)]
      · obtain ⟨hb1, hb2⟩ := hb
        have hno : vi.ownBlock ≠ some b := fun e => by have := (hown b e).2; omega
        refine ⟨.inr ⟨by omega, by simp; omega, hge b hno hb2⟩, ?_⟩
        rw [Below.heap_setCell _ _ _ _ (by simp; omega), blk b hb2 hno]
  · rw [List.map_append, h.list, List.take_succ_eq_append_getElem hk, List.map_append]
    simp
end

theorem RI.start (S : Nat → Prop) (w : World) (next : Int) (qs : List QD) (v : Value) :
    RI S w next qs 0 (((w.alloc (.cells #[v, .int .i64 next] 24)).alloc (.cells #[.slice none 0 0, .int .i64 0] 24)).alloc (.cells #[.slice none 0 0, .int .i64 next] 24)) (.slice none 0 0) [] := by
  have b3 : Below w.heap.size w (((w.alloc (.cells #[v, .int .i64 next] 24)).alloc (.cells #[.slice none 0 0, .int .i64 0] 24)).alloc (.cells #[.slice none 0 0, .int .i64 next] 24)) := ((below_alloc _ _).alloc (by simp) _).alloc (by simp; omega) _
  refine ⟨b3, ?_, ?_, World.ownsRow_nil _ _ _ _, by simp, by simp⟩
  · have := (Blk.new (w.alloc (.cells #[v, .int .i64 next] 24)) [.slice none 0 0, .int .i64 0] 24).alloc (.cells #[.slice none 0 0, .int .i64 next] 24)
    simpa using this
  · have := Blk.new ((w.alloc (.cells #[v, .int .i64 next] 24)).alloc (.cells #[.slice none 0 0, .int .i64 0] 24)) [.slice none 0 0, .int .i64 next] 24
    simpa using this

/-- Items made plain. -/
def plainL (L : ItL) : ItL := L.map fun x => (plainI x.1, x.2)

/-- What holds in Plain's inner loop, behind j items: W the world with the two boxes. -/
structure RJ (W : World) (pb : Nat) (q : QD) (L : ItL) (j : Nat) (wj : World) (lv : Value) : Prop where
  bel : Below pb W wj
  box : Blk wj pb [.string q.name, .int .i64 q.limit, lv]
  own : wj.ownsRow (pb + 1) 78 7 lv j (cellsI (plainL (L.take j)))

theorem RJ.more {W : World} {pb : Nat} {q : QD} {L : ItL} {j : Nat} {wj w2 : World} {lv lv' : Value} (h : RJ W pb q L j wj lv) (hj : j < L.length) {o1 o2 : Obj} (ho : w2.ownsRow (pb + 1) 78 7 lv' (j + 1) (cellsI (plainL (L.take j)) ++ (plainI L[j].1).cells L[j].2)) (hg : ((wj.alloc o1).alloc o2).grownBy w2 lv.ownBlock) (hW : pb < W.heap.size) : RJ W pb q L (j + 1) (w2.setCell ⟨pb, 2, none⟩ lv') lv' := by
  have hz := h.bel.size
  have k2 : ∀ b, b < wj.heap.size → lv.ownBlock ≠ some b → w2.heap[b]? = wj.heap[b]? := fun b h1 h2 => (hg.block b (by simp; omega) (fun e => h2 e.symm)).trans ((Below.heap_alloc _ _ _ (by simp; omega)).trans (Below.heap_alloc _ _ _ h1))
  have hlo : ∀ b, lv.ownBlock = some b → pb + 1 ≤ b := fun b e => (h.own.lt b e).1
  refine ⟨⟨hg.os.trans h.bel.os, hg.tape.trans h.bel.tape, hg.output.trans h.bel.output, by have := hg.size; simp at this ⊢; omega, fun b hb => ?_⟩, ?_, ?_⟩
  · rw [Below.heap_setCell _ _ _ _ (by simp; omega), k2 b (by omega) (fun e => by have := hlo b e; omega)]
    exact h.bel.block b hb
  · exact (h.box.same (k2 _ h.box.lt (fun e => by have := hlo _ e; omega))).set 2 _
  · have e : cellsI (plainL (L.take (j + 1))) = cellsI (plainL (L.take j)) ++ (plainI L[j].1).cells L[j].2 := by
      rw [List.take_succ_eq_append_getElem hj]
      unfold plainL
      rw [List.map_append, cellsI_append]
      simp [cellsI]
    rw [e]
    exact ownsRow_setCell_below ho (by simp) _

set_option maxRecDepth 100000 in
set_option maxHeartbeats 3200000 in
theorem refPlain_any (S : Nat → Prop) (v : Value) (h : HD) (w : World) (hS : ∀ b, S b → b < w.heap.size) (hv : SliceQ S w v h.queues) (hsm : smallQ h.queues) :
    Calls Try.prog 27 #[.agg #[v, .int .i64 h.next]] w fun e w' => ∃ v', e = .returned (.agg #[v', .int .i64 h.next]) ∧ SliceQ (SM S w w') w' v' (h.queues.map plainQ) ∧ Below w.heap.size w w' := by
  obtain ⟨i0, hi0, hz0, hz1, hz2⟩ := info_parts info25
  obtain ⟨j0, hj0, hy0, hy1, hy2⟩ := info_parts info34
  obtain ⟨qs, next⟩ := h
  simp only at hv hsm ⊢
  have HV : Hid (SliceQ S w v qs) := hv
  have HM : Hid (smallQ qs) := hsm
  have HSS : Hid (∀ b, S b → b < w.heap.size) := hS
  have HK : Hid (RI S w next qs 0 _ (.slice none 0 0) []) := RI.start S w next qs v
  obtain ⟨va, vc, rfl, h1, h2, h3⟩ := hv.shape
  have hlen := hsm.1
  unfold maxLen at h2
  clear hv hsm hS
  go_enter Try.func27, Try.ntmps27
  go_wp2
  go_loopw [15] (fun i wr => ∃ k : Nat, k ≤ qs.length ∧ i = .int .i64 k ∧ ∃ vi L', RI S w next qs k wr vi L')
    (fun i _ => qs.length - (intOf i).toNat)
  case atStart => exact ⟨0, Nat.zero_le _, rfl, _, _, HK.out⟩
  case round =>
    obtain ⟨k, hk, rfl, vi, L', hI⟩ := hrel
    clear HK
    obtain ⟨Wr, hWr⟩ : ∃ Wr, Wr = wr := ⟨_, rfl⟩
    subst hWr
    have hL' : L'.length ≤ k := by
      have := congrArg List.length hI.list
      simp at this
      omega
    have HI : Hid (RI S w next qs k Wr vi L') := hI
    by_cases hlt : k < qs.length
    · obtain ⟨b, off, ia, ic, rfl, hSb, hq, c0, c1, c2⟩ := (SliceQ.sub (T := S) HV.out (fun b hb => ⟨hb, hI.bel.block b (HSS.out b hb)⟩)).at k hlt
      have hzr := hI.lt
      have hbl : b < Wr.heap.size := by have := HSS.out b hSb; omega
      obtain ⟨q, hqe⟩ : ∃ q, q = qs[k] := ⟨_, rfl⟩
      rw [← hqe] at c0 c1 c2 hq
      have HQE : Hid (q = qs[k]) := hqe
      obtain ⟨LI, hLI, hLV, hLN⟩ := hq
      have hli : q.items.length = LI.length := by rw [← hLI]; simp
      have hsm2 : LI.length ≤ 4194304 := by have := (HM.out.2 _ (List.getElem_mem hlt)).1; rw [← hqe, hli] at this; exact this
      rw [hli] at c2 hLV
      have HLI : Hid (LI.map Prod.fst = q.items ∧ SliceV S Wr (.slice ia LI.length ic) LI.length (cellsI LI) ∧ ∀ x ∈ LI, NoteIs S Wr x.2 x.1.note) := ⟨hLI, hLV, hLN⟩
      clear hI hqe hLI hLV hLN hli
      obtain ⟨W2, hW2⟩ : ∃ W2, W2 = (Wr.alloc (.cells #[.string q.name, .int .i64 q.limit, .slice ia LI.length ic] 76)).alloc (.cells #[.string q.name, .int .i64 q.limit, .slice none 0 0] 76) := ⟨_, rfl⟩
      have HW2 : Hid (Below Wr.heap.size Wr W2 ∧ W2.heap.size = Wr.heap.size + 2 ∧ RJ W2 (Wr.heap.size + 1) q LI 0 W2 (.slice none 0 0) ∧ Blk W2 Wr.heap.size [.string q.name, .int .i64 q.limit, .slice ia LI.length ic]) := by
        have hb : Blk W2 (Wr.heap.size + 1) [.string q.name, .int .i64 q.limit, .slice none 0 0] := by
          rw [hW2]
          have := Blk.new (Wr.alloc (.cells #[.string q.name, .int .i64 q.limit, .slice ia LI.length ic] 76)) [.string q.name, .int .i64 q.limit, .slice none 0 0] 76
          simpa using this
        refine ⟨by rw [hW2]; exact (below_alloc _ _).alloc (by simp) _, by rw [hW2]; simp, ⟨Below.refl _ _, hb, ?_⟩, by rw [hW2]; exact (Blk.new _ _ _).alloc _⟩
        simpa [plainL, cellsI] using World.ownsRow_nil _ _ _ _
      go_upto_region 6 with fail
      rw [← hW2]
      clear hW2
      obtain ⟨g0, g1, g2, g3, g4⟩ := HW2.out.2.2.2.b3
      clear c0 c1 c2
      go_wp2_with fail
      go_loopw [27] (fun i wr => ∃ j : Nat, j ≤ LI.length ∧ i = .int .i64 j ∧ ∃ lv, RJ W2 (Wr.heap.size + 1) q LI j wr lv) (fun i _ => LI.length - (intOf i).toNat)
      case atStart => exact ⟨0, Nat.zero_le _, rfl, _, HW2.out.2.2.1⟩
      case round =>
        obtain ⟨j, hj, rfl, lv, hJ⟩ := hrel
        have HJ : Hid (RJ W2 (Wr.heap.size + 1) q LI j wr lv) := hJ
        have hzj := hJ.bel.size
        have hz2w := HW2.out.2.1
        have HZ : Hid (W2.heap.size = Wr.heap.size + 2) := hz2w
        have hzz : Wr.heap.size + 2 ≤ wr.heap.size := by omega
        clear hz2w
        obtain ⟨la, lc, rfl, -⟩ := own_shape hJ.own
        obtain ⟨p0, p1, p2, p3, p4⟩ := hJ.box.b3
        have HSJ : Hid (∀ b, S b → wr.heap[b]? = Wr.heap[b]?) := fun b hb => by
          have := HSS.out b hb
          rw [hJ.bel.block b (by omega), HW2.out.1.block b (by omega)]
        clear g0 g1 g2 g3 hJ
        by_cases hjl : j < LI.length
        · obtain ⟨ib, ioff, rfl, hIS, ⟨d0, d1, d2, d3⟩, d4, d5, d6⟩ := (SliceL.sub (T := S) (w' := wr) (v := .slice ia LI.length ic) (L := LI) ⟨HLI.out.2.1, HLI.out.2.2⟩ (fun x hx => ⟨hx, HSJ.out x hx⟩)).at j hjl
          have hibl : ib < wr.heap.size := by have := HSS.out ib hIS; omega
          have hnote := HLI.out.2.2 LI[j] (List.getElem_mem hjl)
          obtain ⟨pa, pc, e1, -⟩ := SliceV.shape hnote.1
          obtain ⟨qa, qc, e2, -⟩ := SliceV.shape hnote.2
          have hpq : LI[j].2 = (.slice pa LI[j].1.note.props.length pc, .slice qa LI[j].1.note.body.length qc) := by rw [← e1, ← e2]
          have HPQ : Hid (LI[j].2 = (.slice pa LI[j].1.note.props.length pc, .slice qa LI[j].1.note.body.length qc)) := hpq
          rw [e1] at d5
          rw [e2] at d6
          clear hnote e1 e2 hpq
          have hne1 : Wr.heap.size + 1 ≠ wr.heap.size := by omega
          have hne2 : Wr.heap.size + 1 ≠ wr.heap.size + 1 := by omega
          go_wp2_with (at_builtin; refine wpList_appV rfl (.tmp 32) (.tmp 38) 74 rfl 78 j0 _ 7 88 Try.underlying74 hj0 hy0 hy1 hy2 rfl (by omega) (Wr.heap.size + 1 + 1) (.slice la j lc) j (cellsI (plainL (LI.take j))) rfl (own_below (own_below HJ.out.own (below_alloc _ _)) (below_alloc _ _)) (fun b => b = wr.heap.size + 1) (.slice (some ⟨wr.heap.size + 1, 0, none⟩) 1 1) 1 ((plainI LI[j].1).cells LI[j].2) rfl (by rw [HPQ.out]; exact row_any' _ _ _ _ _ (by simp) (by simp [maxLen])) rfl (by rw [HPQ.out]; simp [IT.cells, plainI, Value.oneCell']) (by unfold maxLen; omega) (by omega) (by simp <;> omega) ?_; intro ao cap w3 ho3 hg3 hm3; have hbx := HJ.out.box.same ((hg3.block _ (by simp; omega) (fun e => by have := (HJ.out.own.lt _ e.symm).1; omega)).trans ((Below.heap_alloc _ _ _ (by simp; omega)).trans (Below.heap_alloc _ _ _ p4))); obtain ⟨r0, r1, r2, r3, r4⟩ := hbx.b3; clear hbx)
          go_roundw
          case rel =>
            exact ⟨j + 1, by omega, by go_num, _, HJ.out.more hjl ho3 hg3 (by have := HZ.out; omega)⟩
          case measure => simp [intOf]; omega
        · obtain rfl : j = LI.length := by omega
          have HBW : Hid (Below Wr.heap.size Wr wr) := HW2.out.1.trans (HJ.out.bel.mono (by omega))
          obtain ⟨va3, vc3, hvi, -⟩ := own_shape HI.out.own
          subst hvi
          have hout := HI.out.out.below HBW.out (by omega)
          obtain ⟨o0, o1, o2, o3⟩ := hout.b2
          have HOUT : Hid (Blk wr (w.heap.size + 1 + 1) [.slice va3 L'.length vc3, .int .i64 next]) := hout
          have hno : w.heap.size + 1 + 1 ≠ wr.heap.size := by omega
          clear hout
          go_wp2_with (at_builtin; refine wpList_appV rfl (.tmp 43) (.tmp 45) 22 rfl 76 i0 _ 3 48 Try.underlying22 hi0 hz0 hz1 hz2 rfl (by omega) (w.heap.size + 3) (.slice va3 L'.length vc3) L'.length (cellsQ L') rfl (own_below (own_below HI.out.own HBW.out) (below_alloc _ _)) (fun b => b = wr.heap.size) (.slice (some ⟨wr.heap.size, 0, none⟩) 1 1) 1 [.string q.name, .int .i64 q.limit, .slice la LI.length lc] rfl (row_any' _ _ _ _ _ rfl (by simp [maxLen])) rfl (by simp [Value.oneCell']) (by unfold maxLen; omega) (by omega) (by simp <;> omega) ?_; intro ao cap w3 ho3 hg3 hm3; have hbx := HOUT.out.same ((hg3.block _ (by simp; omega) (fun e => by have := (HI.out.own.lt _ e.symm).1; omega)).trans (Below.heap_alloc _ _ _ o3)); obtain ⟨gg, gcap, hao⟩ : ∃ g c, Value.slice ao (L'.length + 1) cap = .slice (some ⟨g, 0, none⟩) (L'.length + 1) c := (by rcases ho3.2 with ⟨-, h0⟩ | ⟨g, c, cur, e, -⟩; (omega); exact ⟨g, c, e⟩); simp only [Value.slice.injEq, true_and] at hao; obtain ⟨rfl, rfl⟩ := hao; obtain ⟨r0, r1, r2, r3⟩ := hbx.b2; clear hbx)
          have hn : SliceI (fun b => S b ∨ Made Wr.heap.size wr.heap.size b) wr (.slice la LI.length lc) (plainQ qs[k]).items := by
            have hrow := HJ.out.own
            rw [List.take_of_length_le (Nat.le_refl _)] at hrow
            rw [← HQE.out]
            refine ⟨plainL LI, ?_, ?_, fun x hx => ?_⟩
            · simp only [plainQ, ← HLI.out.1, plainL, List.map_map]; rfl
            · have hl : (plainL LI).length = LI.length := by simp [plainL]
              rw [hl]
              exact (own_slice hrow).sub fun b hb => ⟨.inr ⟨by have := (hrow.lt b hb).1; omega, (hrow.lt b hb).2⟩, rfl⟩
            · simp only [plainL, List.mem_map] at hx
              obtain ⟨y, hy, rfl⟩ := hx
              exact (HLI.out.2.2 y hy).sub fun b hb => ⟨.inl hb, HSJ.out b hb⟩
          have RR : RI S w next qs (k + 1) _ _ _ := HI.out.more HSS.out hlt hn HBW.out (by rw [← HQE.out]; exact ho3) hg3 (by
            rcases hm3 gg rfl with h | h
            · exact .inl h
            · exact .inr (by simpa using h))
          clear hn ho3 hg3 hm3 HJ p0 p1 p2 p3 o0 o1 o2
          go_roundw
          case rel => exact ⟨k + 1, by omega, by go_num, _, _, RR⟩
          case measure => simp [intOf]; omega
    · obtain ⟨o0, o1, o2, o3⟩ := hI.out.b2
      obtain ⟨r0, r1, r2, r3⟩ := hI.res.b2
      obtain ⟨xa, xc, rfl, -⟩ := own_shape hI.own
      obtain rfl : k = qs.length := by omega
      clear hI
      go_wp2
      have hl := HI.out.lt
      refine bodyPost_ret (v := .agg #[.slice xa L'.length xc, .int .i64 next]) (by simp [results, Try.results27, go_sem, *]; done) rfl ⟨_, rfl, ⟨L', ?_, ?_, fun x hx => ?_⟩, ?_⟩
      · have := HI.out.list
        rwa [List.take_of_length_le (Nat.le_refl _)] at this
      · refine (own_slice HI.out.own).sub fun b hb => ?_
        have h1 := HI.out.own.lt b hb
        refine ⟨.inr ⟨by omega, by simpa using h1.2⟩, ?_⟩
        iterate 2 rw [Below.heap_setCell _ _ _ _ (by simp; omega)]
      · refine (HI.out.items x hx).sub fun b hb => ?_
        rcases hb with hb | hb
        · have := HSS.out b hb
          refine ⟨.inl hb, ?_⟩
          iterate 2 rw [Below.heap_setCell _ _ _ _ (by simp; omega)]
        · refine ⟨.inr ⟨by omega, by simpa using hb.2.1⟩, ?_⟩
          iterate 2 rw [Below.heap_setCell _ _ _ _ (by simp; omega)]
      · iterate 2 refine Below.setCell ?_ (by simp) _
        exact HI.out.bel
end Go.Proofs.Ytkddkpdfeeikhaa

/-
  The law JournalShort, of a hall in memory, wherever tglaw5.alive tells true.
-/
namespace Go.Proofs.Ytkddkpdfeeikhaa
open Go.RowKit Go.WideMaps Go.Maps
set_option linter.unusedVariables false
set_option linter.unusedSimpArgs false

attribute [local go_sem ↓] Go.wp_at_zero Go.wp_at_succ

theorem sound_small {h : HD} (s : h.sound) : smallQ h.queues := s.good.small
theorem SM_lt {c : Nat} {w w' : World} {b : Nat} (h : c < w.heap.size) (hb : Below w.heap.size w w') (hS : SM (Under c) w w' b) : Under w'.heap.size b := by
  have hz := hb.size
  show b < w'.heap.size
  rcases hS with h1 | h1
  · have : b < c := h1
    omega
  · exact h1.2
theorem plain_small {qs : List QD} (s : smallQ qs) : smallQ (qs.map plainQ) := by
  refine ⟨by simpa using s.1, fun q hq => ?_⟩
  obtain ⟨p, hp, rfl⟩ := List.mem_map.1 hq
  obtain ⟨h1, h2⟩ := s.2 p hp
  refine ⟨by simpa [plainQ] using h1, fun i hi => ?_⟩
  simp only [plainQ, List.mem_map] at hi
  obtain ⟨j, hj, rfl⟩ := hi
  exact h2 j hj

set_option maxRecDepth 100000 in
set_option maxHeartbeats 3200000 in
theorem jshort_any (hal : ∀ W, Calls Try.prog 25 #[] W fun e w' => e = .returned (.bool true) ∧ Below W.heap.size W w') (v : Value) (h : HD) (w : World) (hv : SliceQ (Under w.heap.size) w v h.queues) (hname : ∀ q ∈ h.queues, q.name.size ≤ maxLen) (hfit : ∀ q ∈ h.queues, ∀ i ∈ q.items, i.note.fitN) :
    Calls Try.prog 5 #[.agg #[v, .int .i64 h.next]] w fun e w' => e = .returned (.bool true) ∧ Below w.heap.size w w' := by
  have HV : Hid (SliceQ (Under w.heap.size) w v h.queues) := hv
  have HAL : Hid (∀ W, Calls Try.prog 25 #[] W fun e w' => e = .returned (.bool true) ∧ Below W.heap.size W w') := hal
  have HNF : Hid ((∀ q ∈ h.queues, q.name.size ≤ maxLen) ∧ ∀ q ∈ h.queues, ∀ i ∈ q.items, i.note.fitN) := ⟨hname, hfit⟩
  obtain ⟨va, vc, rfl⟩ := hv.shp
  clear hv hal hname hfit
  obtain ⟨n, hn⟩ : ∃ n, n = h.queues.length := ⟨_, rfl⟩
  rw [← hn] at HV
  rw [← hn]
  clear hn
  obtain ⟨A, hA⟩ : ∃ A, A = w.alloc (.cells #[.slice va n vc, .int .i64 h.next] 24) := ⟨_, rfl⟩
  have hAz : A.heap.size = w.heap.size + 1 := by rw [hA]; simp
  have hAB : Below w.heap.size w A := by rw [hA]; exact below_alloc _ _
  have hA0 : Blk A w.heap.size [.slice va n vc, .int .i64 h.next] := by rw [hA]; exact Blk.new _ _ _
  have K : Hid (∀ W, Below A.heap.size A W → Below w.heap.size w W ∧ Blk W w.heap.size [.slice va n vc, .int .i64 h.next] ∧ SliceQ (Under w.heap.size) W (.slice va n vc) h.queues ∧ SliceQ (Under W.heap.size) W (.slice va n vc) h.queues ∧ w.heap.size < W.heap.size) := by
    show ∀ W, Below A.heap.size A W → _
    intro W hW
    have hz := hW.size
    have hB := hAB.trans (hW.mono (by omega))
    exact ⟨hB, hA0.below hW (by omega), HV.out.sub fun b hb => ⟨hb, hB.block b hb⟩, HV.out.sub fun b hb => ⟨Nat.lt_of_lt_of_le hb hB.size, hB.block b hb⟩, by omega⟩
  clear hAB hA0
  go_enter Try.func5, Try.ntmps5
  go_upto_region 1 with fail
  rw [← hA]
  clear hA
  go_upto_region 3 with (go_at_call 25; refine (HAL.out A).mono ?_; rintro r w1 ⟨rfl, hb1⟩; have HB1 : Hid (Below A.heap.size A w1) := hb1; obtain ⟨c0, c1, c2, c3⟩ := (K.out w1 hb1).2.1.b2; clear hb1)
  go_wp2_with ((go_at_call 19; refine (rightH_any _ h _ (K.out w1 HB1.out).2.2.2.1 HNF.out.1 HNF.out.2).mono ?_; rintro r w2 ⟨rb, rfl, hrt, hb2⟩; have HB2 : Hid (Below A.heap.size A w2) := HB1.out.trans (hb2.mono HB1.out.size); have HRT : Hid (rb = true → h.sound) := hrt; obtain ⟨d0, d1, d2, d3⟩ := (K.out w2 HB2.out).2.1.b2; clear hb2 hrt))
  · go_ret
    exact ⟨rfl, (K.out w2 HB2.out).1⟩
  · have hs : h.sound := HRT.out (by first | assumption | simp_all)
    obtain ⟨s1, s2, s3, s4, s5, s6⟩ := short_back hs
    obtain ⟨nx, hnx⟩ : ∃ nx, nx = nextQ 0 h.queues := ⟨_, rfl⟩
    rw [← hnx] at s4 s5 s6
    obtain ⟨bs, hbs⟩ : ∃ bs, bs = SR.appB [] ((shortF h.queues).map entryB) := ⟨_, rfl⟩
    rw [← hbs] at s2 s4
    have HS : Hid (h.sound ∧ (shortF h.queues).length ≤ 36 ∧ replayL ⟨[], 0⟩ (SR.recsF bs) = ⟨h.queues.map plainQ, nx⟩) := ⟨hs, s3, s4⟩
    have HWR : Hid (∀ (W : World) (ev : Value), SliceE (Under W.heap.size) W ev (shortF h.queues) → Calls Try.prog 20 #[.agg #[.slice none 0 0, .int .i64 0], ev] W fun r w' => SR.LogIs W w' r bs 0 0) := by
      show ∀ (W : World) (ev : Value), SliceE (Under W.heap.size) W ev (shortF h.queues) → _
      intro W ev he
      have hr := short_right hs.2.1.2 h.queues (sound_each hs)
      have h1 := write_any (.slice none 0 0) ev 0 [] (shortF h.queues) W (SliceV.nil _ _) he (fun e he => (hr e he).1.1) (by omega) (by simp)
      rw [s1, ← hbs] at h1
      exact h1
    have HRP : Hid (∀ (W : World) (v : Value), SR.SliceB W.heap.size W v bs → Calls Try.prog 12 #[v] W fun r w' => ∃ vi, r = .returned (.agg #[vi, .int .i64 nx]) ∧ SliceQ (Under w'.heap.size) w' vi (h.queues.map plainQ) ∧ Below W.heap.size W w') := by
      show ∀ (W : World) (v : Value), SR.SliceB W.heap.size W v bs → _
      intro W v hv
      have h1 := replay_any v bs W (sr_bytes hv) (by omega)
      rw [s4] at h1
      exact h1
    have hl1 : ¬ nx < 0 := by omega
    have hl2 : ¬ h.next < nx := by omega
    clear s1 s2 s3 s4 hs hnx hbs
    refine (short_any _ h w2 (K.out w2 HB2.out).2.2.2.1 (sound_small HS.out.1) (by have := HS.out.2.1; omega)).mono ?_
    rintro r w3 ⟨x3, rfl, ho3, hb3⟩
    obtain ⟨xa, xc, rfl⟩ := ho3.shp
    have HE3 : Hid (SliceE (Under w3.heap.size) w3 (.slice xa (shortF h.queues).length xc) (shortF h.queues)) := ho3.slice.under
    have HB3 : Hid (Below A.heap.size A w3) := HB2.out.trans (hb3.mono HB2.out.size)
    clear ho3 hb3
    go_upto_region 9 with (first
      | (go_at_call 20; refine (HWR.out _ _ HE3.out).mono ?_; rintro r w4 ⟨ya, yc, rfl, hs4, hb4⟩; have HS4 : Hid (SR.SliceB w4.heap.size w4 (.slice ya bs.length yc) bs) := hs4; have HB4 : Hid (Below A.heap.size A w4) := HB3.out.trans (hb4.mono HB3.out.size); clear hs4 hb4)
      | (go_at_call 12; refine (HRP.out _ _ (HS4.out.below (below_alloc _ _))).mono ?_; rintro r w5 ⟨z, rfl, hz5, hb5⟩; obtain ⟨za, zc, rfl⟩ := hz5.shp; have HZ5 : Hid (SliceQ (Under w5.heap.size) w5 (.slice za (h.queues.map plainQ).length zc) (h.queues.map plainQ)) := hz5; have HB5 : Hid (Below A.heap.size A w5) := HB4.out.trans (((below_alloc w4 _).trans (hb5.mono (by simp))).mono HB4.out.size); clear hz5 hb5))
    obtain ⟨C, hC⟩ : ∃ C, C = w5.alloc (.cells #[.slice za (h.queues.map plainQ).length zc, .int .i64 nx] 24) := ⟨_, rfl⟩
    have hCB : Below w5.heap.size w5 C := by rw [hC]; exact below_alloc _ _
    have hCz : C.heap.size = w5.heap.size + 1 := by rw [hC]; simp
    have hC0 : Blk C w5.heap.size [.slice za (h.queues.map plainQ).length zc, .int .i64 nx] := by rw [hC]; exact Blk.new _ _ _
    have HCB : Hid (Below A.heap.size A C ∧ Blk C w5.heap.size [.slice za (h.queues.map plainQ).length zc, .int .i64 nx] ∧ SliceQ (Under C.heap.size) C (.slice za (h.queues.map plainQ).length zc) (h.queues.map plainQ)) := ⟨HB5.out.trans (hCB.mono HB5.out.size), hC0, HZ5.out.sub fun b hb => ⟨Nat.lt_of_lt_of_le hb hCB.size, hCB.block b hb⟩⟩
    obtain ⟨e0, e1, e2, e3⟩ := (K.out C HCB.out.1).2.1.b2
    obtain ⟨f0, f1, f2, f3⟩ := hC0.b2
    rw [show w5.alloc (.cells #[.slice za h.queues.length zc, .int .i64 nx] 24) = C by rw [hC, List.length_map]]
    obtain ⟨m, hm⟩ : ∃ m, m = (h.queues.map plainQ).length := ⟨_, rfl⟩
    have hm2 : h.queues.length = m := by rw [hm, List.length_map]
    rw [← hm] at f0 HCB
    clear hC hCB hC0 c0 c1 c2 c3 d0 d1 d2 d3 hm
    go_upto_region 12 with (go_at_call 27; refine (refPlain_any (Under w.heap.size) _ h _ (fun b hb => by have := (K.out C HCB.out.1).2.2.2.2; have : b < w.heap.size := hb; omega) (K.out C HCB.out.1).2.2.1 (sound_small HS.out.1)).mono ?_; rintro r w6 ⟨y, rfl, hy6, hb6⟩; obtain ⟨ya6, yc6, rfl⟩ := hy6.shp; have HY6 : Hid (SliceQ (Under w6.heap.size) w6 (.slice ya6 (h.queues.map plainQ).length yc6) (h.queues.map plainQ) ∧ Below C.heap.size C w6) := ⟨hy6.sub fun b hb => ⟨SM_lt (K.out C HCB.out.1).2.2.2.2 hb6 hb, rfl⟩, hb6⟩; clear hy6 hb6)
    have HY : Hid (Below A.heap.size A w6) := HCB.out.1.trans (HY6.out.2.mono HCB.out.1.size)
    obtain ⟨D, hD⟩ : ∃ D, D = w6.alloc (.cells #[.slice ya6 m yc6, .int .i64 h.next] 24) := ⟨_, rfl⟩
    have hml : (h.queues.map plainQ).length = m := by rw [List.length_map]; exact hm2
    rw [hml] at HY6
    have hDB : Below w6.heap.size w6 D := by rw [hD]; exact below_alloc _ _
    have hDz : D.heap.size = w6.heap.size + 1 := by rw [hD]; simp
    have hD0 : Blk D w6.heap.size [.slice ya6 m yc6, .int .i64 h.next] := by rw [hD]; exact Blk.new _ _ _
    have hz6 := HY6.out.2.size
    have hD1 : Blk D w5.heap.size [.slice za m zc, .int .i64 nx] := (HCB.out.2.1.below HY6.out.2 (by omega)).below hDB (by omega)
    have hne : w5.heap.size ≠ w6.heap.size := by omega
    obtain ⟨g0, g1, g2, g3⟩ := hD0.b2
    obtain ⟨i0, i1, i2, i3⟩ := hD1.b2
    have HSM : Hid (∀ x, Calls Try.prog 11 #[.agg #[.slice za m zc, .int .i64 nx], .agg #[.slice ya6 m yc6, .int .i64 nx]] (D.setCell ⟨w6.heap.size, 1, none⟩ x) fun e w' => e = .returned (.bool true) ∧ Below (D.setCell ⟨w6.heap.size, 1, none⟩ x).heap.size (D.setCell ⟨w6.heap.size, 1, none⟩ x) w') := by
      show ∀ x, _
      intro x
      have far : ∀ b, b < w6.heap.size → (D.setCell ⟨w6.heap.size, 1, none⟩ x).heap[b]? = w6.heap[b]? := fun b hb => (Below.heap_setCell _ _ _ _ (fun e => by have e' : b = w6.heap.size := e; omega)).trans (hDB.block b hb)
      exact sameHall_true _ _ ⟨h.queues.map plainQ, nx⟩ (plain_small (sound_small HS.out.1)) _ (HCB.out.2.2.sub fun b hb => ⟨by have : b < C.heap.size := hb; show b < _; simp; omega, (far b (by have : b < C.heap.size := hb; omega)).trans (HY6.out.2.block b hb)⟩) (HY6.out.1.sub fun b hb => ⟨by have : b < w6.heap.size := hb; show b < _; simp; omega, far b hb⟩)
    have HDB : Hid (Below w.heap.size w D) := (K.out w6 HY.out).1.trans (hDB.mono (by have := (K.out w6 HY.out).1.size; omega))
    have hlw : w.heap.size ≤ w6.heap.size := (K.out w6 HY.out).1.size
    rw [← hD]
    clear hD hDB hD0 hD1 hml e0 e1 e2 e3 f0 f1 f2 f3
    go_wp2_with (go_at_call 11; refine (HSM.out _).mono ?_; rintro r w7 ⟨rfl, hb7⟩)
    go_ret
    refine ⟨rfl, ?_⟩
    have h1 : Below w.heap.size w (D.setCell ⟨w6.heap.size, 1, none⟩ (.int .i64 nx)) := HDB.out.setCell hlw _
    exact h1.trans (hb7.mono h1.size)
end Go.Proofs.Ytkddkpdfeeikhaa
