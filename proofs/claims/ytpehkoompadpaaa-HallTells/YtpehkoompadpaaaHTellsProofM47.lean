/-
  RefPlain; TellsP: texts laid together.
-/
import Derived.Test.YtpehkoompadpaaaHTellsProofM31
import Derived.Test.YtpehkoompadpaaaPlain
import Derived.Test.YtpehkoompadpaaaHTellsProofM36
import Derived.Test.YtpehkoompadpaaaHTellsProofM27
import Derived.Test.YtpehkoompadpaaaHTellsProofM32
import Derived.Test.YtpehkoompadpaaaFaceK
import Derived.Test.YtpehkoompadpaaaRefHDone
import Derived.Test.YtpehkoompadpaaaRefMake
import Derived.Test.YtpehkoompadpaaaHTellsProofM37
import Derived.Test.YtpehkoompadpaaaRefHTake
import Derived.Test.YtpehkoompadpaaaRefHTick
/-
  tgref1.Plain.
-/
namespace Go.Proofs.Ytpehkoompadpaaa
open Go.RowKit
set_option linter.unusedVariables false
set_option linter.unusedSimpArgs false

attribute [local go_sem ↓] Go.wp_at_zero Go.wp_at_succ

/-- What holds in Plain, behind k queues. -/
structure RI (S : Nat → Prop) (w : World) (next : Int) (qs : List QD) (k : Nat) (wr : World) (vi : Value) (L' : QuL) : Prop where
  bel : Below w.heap.size w wr
  res : Blk wr (w.heap.size + 1) [.slice none 0 0, .int .i64 0]
  out : Blk wr (w.heap.size + 1 + 1) [vi, .int .i64 next]
  own : wr.ownsRow (w.heap.size + 3) 71 3 vi L'.length (cellsQ L')
  items : ∀ x ∈ L', SliceI (fun b => S b ∨ (w.heap.size + 3 ≤ b ∧ b < wr.heap.size ∧ vi.ownBlock ≠ some b)) wr x.2 x.1.items
  list : L'.map Prod.fst = (qs.take k).map plainQ

section
variable {S : Nat → Prop} {w : World} {next : Int} {qs : List QD} {k : Nat} {wr : World} {vi : Value} {L' : QuL}

theorem RI.lt (h : RI S w next qs k wr vi L') : w.heap.size + 3 ≤ wr.heap.size := by have := h.out.lt; omega

theorem RI.more (hS : ∀ b, S b → b < w.heap.size) (h : RI S w next qs k wr vi L') (hk : k < qs.length) {w1 w2 : World} {v : Value} {o : Obj} {gg cap : Nat}
    (hn : SliceI (fun b => S b ∨ Made wr.heap.size w1.heap.size b) w1 v (plainQ qs[k]).items) (h1 : Below wr.heap.size wr w1)
    (ho : w2.ownsRow (w.heap.size + 3) 71 3 (.slice (some ⟨gg, 0, none⟩) (L'.length + 1) cap) (L'.length + 1) (cellsQ L' ++ (plainQ qs[k]).cells v)) (hg : (w1.alloc o).grownBy w2 vi.ownBlock) (hat : vi.ownBlock = some gg ∨ w1.heap.size + 1 ≤ gg) :
    RI S w next qs (k + 1) (w2.setCell ⟨w.heap.size + 1 + 1, 0, none⟩ (.slice (some ⟨gg, 0, none⟩) (L'.length + 1) cap)) (.slice (some ⟨gg, 0, none⟩) (L'.length + 1) cap) (L' ++ [(plainQ qs[k], v)]) := by
  have hl := h.lt
  have hz1 := h1.size
  have hz2 : w1.heap.size + 1 ≤ w2.heap.size := by have := hg.size; simp at this; omega
  have hown : ∀ b, vi.ownBlock = some b → w.heap.size + 3 ≤ b ∧ b < wr.heap.size := fun b hb => h.own.lt b hb
  have blk : ∀ b, b < w1.heap.size → vi.ownBlock ≠ some b → w2.heap[b]? = w1.heap[b]? := fun b hb hn => (hg.block b (by simp; omega) (fun e => hn e.symm)).trans (Below.heap_alloc _ _ _ hb)
  have blk' : ∀ b, b < wr.heap.size → vi.ownBlock ≠ some b → w2.heap[b]? = wr.heap[b]? := fun b hb hn => (blk b (by omega) hn).trans (h1.block b hb)
  have blo : ∀ b, b < w.heap.size + 3 → w2.heap[b]? = wr.heap[b]? := fun b hb => blk' b (by omega) (fun e => by have := (hown b e).1; omega)
  have hge : ∀ b, vi.ownBlock ≠ some b → b < w1.heap.size → (Value.slice (some ⟨gg, 0, none⟩) (L'.length + 1) cap).ownBlock ≠ some b := fun b hb hlt e => by
    simp only [Value.ownBlock, Option.some.injEq] at e
    subst e
    rcases hat with h | h
    · exact hb h
    · omega
  have hSw : ∀ b, S b → w2.heap[b]? = wr.heap[b]? := fun b hb => blo b (by have := hS b hb; omega)
  refine ⟨⟨?_, ?_, ?_, ?_, fun b hb => ?_⟩, ?_, ?_, ?_, fun x hx => ?_, ?_⟩
  · exact hg.os.trans (h1.os.trans h.bel.os)
  · exact hg.tape.trans (h1.tape.trans h.bel.tape)
  · exact hg.output.trans (h1.output.trans h.bel.output)
  · simp; have := h.bel.size; omega
  · rw [Below.heap_setCell _ _ _ _ (by simp; omega), blo b (by omega)]
    exact h.bel.block b hb
  · exact (h.res.same (blo _ (by omega))).far (by simp) _
  · exact (h.out.same (blo _ (by omega))).set 0 _
  · rw [List.length_append, cellsQ_append]
    have : cellsQ [(plainQ qs[k], v)] = (plainQ qs[k]).cells v := by simp [cellsQ]
    rw [this]
    exact ownsRow_setCell_below ho (by simp) _
  · rw [List.mem_append, List.mem_singleton] at hx
    rcases hx with hx | rfl
    · refine (h.items x hx).sub fun b hb => ?_
      rcases hb with hb | hb
      · refine ⟨.inl hb, ?_⟩
        rw [Below.heap_setCell _ _ _ _ (by have := hS b hb; simp; omega), hSw b hb]
      · refine ⟨.inr ⟨hb.1, by simp; omega, hge b hb.2.2 (by omega)⟩, ?_⟩
        rw [Below.heap_setCell _ _ _ _ (by simp; omega), blk' b hb.2.1 hb.2.2]
    · refine hn.sub fun b hb => ?_
      rcases hb with hb | hb
      · refine ⟨.inl hb, ?_⟩
        rw [Below.heap_setCell _ _ _ _ (by have := hS b hb; simp; omega), hSw b hb, h1.block b (by have := hS b hb; omega)]
      · obtain ⟨hb1, hb2⟩ := hb
        have hno : vi.ownBlock ≠ some b := fun e => by have := (hown b e).2; omega
        refine ⟨.inr ⟨by omega, by simp; omega, hge b hno hb2⟩, ?_⟩
        rw [Below.heap_setCell _ _ _ _ (by simp; omega), blk b hb2 hno]
  · rw [List.map_append, h.list, List.take_succ_eq_append_getElem hk, List.map_append]
    simp
end

theorem RI.start (S : Nat → Prop) (w : World) (next : Int) (qs : List QD) (v : Value) :
    RI S w next qs 0 (((w.alloc (.cells #[v, .int .i64 next] 24)).alloc (.cells #[.slice none 0 0, .int .i64 0] 24)).alloc (.cells #[.slice none 0 0, .int .i64 next] 24)) (.slice none 0 0) [] := by
  have b3 : Below w.heap.size w (((w.alloc (.cells #[v, .int .i64 next] 24)).alloc (.cells #[.slice none 0 0, .int .i64 0] 24)).alloc (.cells #[.slice none 0 0, .int .i64 next] 24)) := ((below_alloc _ _).alloc (by simp) _).alloc (by simp; omega) _
  refine ⟨b3, ?_, ?_, World.ownsRow_nil _ _ _ _, by simp, by simp⟩
  · have := (Blk.new (w.alloc (.cells #[v, .int .i64 next] 24)) [.slice none 0 0, .int .i64 0] 24).alloc (.cells #[.slice none 0 0, .int .i64 next] 24)
    simpa using this
  · have := Blk.new ((w.alloc (.cells #[v, .int .i64 next] 24)).alloc (.cells #[.slice none 0 0, .int .i64 0] 24)) [.slice none 0 0, .int .i64 next] 24
    simpa using this

/-- Items made plain. -/
def plainL (L : ItL) : ItL := L.map fun x => (plainI x.1, x.2)

/-- What holds in Plain's inner loop, behind j items: W the world with the two boxes. -/
structure RJ (W : World) (pb : Nat) (q : QD) (L : ItL) (j : Nat) (wj : World) (lv : Value) : Prop where
  bel : Below pb W wj
  box : Blk wj pb [.string q.name, .int .i64 q.limit, lv]
  own : wj.ownsRow (pb + 1) 48 7 lv j (cellsI (plainL (L.take j)))

theorem RJ.more {W : World} {pb : Nat} {q : QD} {L : ItL} {j : Nat} {wj w2 : World} {lv lv' : Value} (h : RJ W pb q L j wj lv) (hj : j < L.length) {o1 o2 : Obj} (ho : w2.ownsRow (pb + 1) 48 7 lv' (j + 1) (cellsI (plainL (L.take j)) ++ (plainI L[j].1).cells L[j].2)) (hg : ((wj.alloc o1).alloc o2).grownBy w2 lv.ownBlock) (hW : pb < W.heap.size) : RJ W pb q L (j + 1) (w2.setCell ⟨pb, 2, none⟩ lv') lv' := by
  have hz := h.bel.size
  have k2 : ∀ b, b < wj.heap.size → lv.ownBlock ≠ some b → w2.heap[b]? = wj.heap[b]? := fun b h1 h2 => (hg.block b (by simp; omega) (fun e => h2 e.symm)).trans ((Below.heap_alloc _ _ _ (by simp; omega)).trans (Below.heap_alloc _ _ _ h1))
  have hlo : ∀ b, lv.ownBlock = some b → pb + 1 ≤ b := fun b e => (h.own.lt b e).1
  refine ⟨⟨hg.os.trans h.bel.os, hg.tape.trans h.bel.tape, hg.output.trans h.bel.output, by have := hg.size; simp at this ⊢; omega, fun b hb => ?_⟩, ?_, ?_⟩
  · rw [Below.heap_setCell _ _ _ _ (by simp; omega), k2 b (by omega) (fun e => by have := hlo b e; omega)]
    exact h.bel.block b hb
  · exact (h.box.same (k2 _ h.box.lt (fun e => by have := hlo _ e; omega))).set 2 _
  · have e : cellsI (plainL (L.take (j + 1))) = cellsI (plainL (L.take j)) ++ (plainI L[j].1).cells L[j].2 := by
      rw [List.take_succ_eq_append_getElem hj]
      unfold plainL
      rw [List.map_append, cellsI_append]
      simp [cellsI]
    rw [e]
    exact ownsRow_setCell_below ho (by simp) _

set_option maxRecDepth 100000 in
set_option maxHeartbeats 3200000 in
theorem refPlain_any (S : Nat → Prop) (v : Value) (h : HD) (w : World) (hS : ∀ b, S b → b < w.heap.size) (hv : SliceQ S w v h.queues) (hsm : smallQ h.queues) :
    Calls Try.prog 13 #[.agg #[v, .int .i64 h.next]] w fun e w' => ∃ v', e = .returned (.agg #[v', .int .i64 h.next]) ∧ SliceQ (SM S w w') w' v' (h.queues.map plainQ) ∧ Below w.heap.size w w' := by
  obtain ⟨i0, hi0, hz0, hz1, hz2⟩ := info_parts info25
  obtain ⟨j0, hj0, hy0, hy1, hy2⟩ := info_parts info34
  obtain ⟨qs, next⟩ := h
  simp only at hv hsm ⊢
  have HV : Hid (SliceQ S w v qs) := hv
  have HM : Hid (smallQ qs) := hsm
  have HSS : Hid (∀ b, S b → b < w.heap.size) := hS
  have HK : Hid (RI S w next qs 0 _ (.slice none 0 0) []) := RI.start S w next qs v
  obtain ⟨va, vc, rfl, h1, h2, h3⟩ := hv.shape
  have hlen := hsm.1
  unfold maxLen at h2
  clear hv hsm hS
  go_enter Try.func13, Try.ntmps13
  go_wp2
  go_loopw [15] (fun i wr => ∃ k : Nat, k ≤ qs.length ∧ i = .int .i64 k ∧ ∃ vi L', RI S w next qs k wr vi L')
    (fun i _ => qs.length - (intOf i).toNat)
  case atStart => exact ⟨0, Nat.zero_le _, rfl, _, _, HK.out⟩
  case round =>
    obtain ⟨k, hk, rfl, vi, L', hI⟩ := hrel
    clear HK
    obtain ⟨Wr, hWr⟩ : ∃ Wr, Wr = wr := ⟨_, rfl⟩
    subst hWr
    have hL' : L'.length ≤ k := by
      have := congrArg List.length hI.list
      simp at this
      omega
    have HI : Hid (RI S w next qs k Wr vi L') := hI
    by_cases hlt : k < qs.length
    · obtain ⟨b, off, ia, ic, rfl, hSb, hq, c0, c1, c2⟩ := (SliceQ.sub (T := S) HV.out (fun b hb => ⟨hb, hI.bel.block b (HSS.out b hb)⟩)).at k hlt
      have hzr := hI.lt
      have hbl : b < Wr.heap.size := by have := HSS.out b hSb; omega
      obtain ⟨q, hqe⟩ : ∃ q, q = qs[k] := ⟨_, rfl⟩
      rw [← hqe] at c0 c1 c2 hq
      have HQE : Hid (q = qs[k]) := hqe
      obtain ⟨LI, hLI, hLV, hLN⟩ := hq
      have hli : q.items.length = LI.length := by rw [← hLI]; simp
      have hsm2 : LI.length ≤ 1000 := by have := (HM.out.2 _ (List.getElem_mem hlt)).1; rw [← hqe, hli] at this; exact this
      rw [hli] at c2 hLV
      have HLI : Hid (LI.map Prod.fst = q.items ∧ SliceV S Wr (.slice ia LI.length ic) LI.length (cellsI LI) ∧ ∀ x ∈ LI, NoteIs S Wr x.2 x.1.note) := ⟨hLI, hLV, hLN⟩
      clear hI hqe hLI hLV hLN hli
      obtain ⟨W2, hW2⟩ : ∃ W2, W2 = (Wr.alloc (.cells #[.string q.name, .int .i64 q.limit, .slice ia LI.length ic] 71)).alloc (.cells #[.string q.name, .int .i64 q.limit, .slice none 0 0] 71) := ⟨_, rfl⟩
      have HW2 : Hid (Below Wr.heap.size Wr W2 ∧ W2.heap.size = Wr.heap.size + 2 ∧ RJ W2 (Wr.heap.size + 1) q LI 0 W2 (.slice none 0 0) ∧ Blk W2 Wr.heap.size [.string q.name, .int .i64 q.limit, .slice ia LI.length ic]) := by
        have hb : Blk W2 (Wr.heap.size + 1) [.string q.name, .int .i64 q.limit, .slice none 0 0] := by
          rw [hW2]
          have := Blk.new (Wr.alloc (.cells #[.string q.name, .int .i64 q.limit, .slice ia LI.length ic] 71)) [.string q.name, .int .i64 q.limit, .slice none 0 0] 71
          simpa using this
        refine ⟨by rw [hW2]; exact (below_alloc _ _).alloc (by simp) _, by rw [hW2]; simp, ⟨Below.refl _ _, hb, ?_⟩, by rw [hW2]; exact (Blk.new _ _ _).alloc _⟩
        simpa [plainL, cellsI] using World.ownsRow_nil _ _ _ _
      go_upto_region 6 with fail
      rw [← hW2]
      clear hW2
      obtain ⟨g0, g1, g2, g3, g4⟩ := HW2.out.2.2.2.b3
      clear c0 c1 c2
      go_wp2_with fail
      go_loopw [27] (fun i wr => ∃ j : Nat, j ≤ LI.length ∧ i = .int .i64 j ∧ ∃ lv, RJ W2 (Wr.heap.size + 1) q LI j wr lv) (fun i _ => LI.length - (intOf i).toNat)
      case atStart => exact ⟨0, Nat.zero_le _, rfl, _, HW2.out.2.2.1⟩
      case round =>
        obtain ⟨j, hj, rfl, lv, hJ⟩ := hrel
        have HJ : Hid (RJ W2 (Wr.heap.size + 1) q LI j wr lv) := hJ
        have hzj := hJ.bel.size
        have hz2w := HW2.out.2.1
        have HZ : Hid (W2.heap.size = Wr.heap.size + 2) := hz2w
        have hzz : Wr.heap.size + 2 ≤ wr.heap.size := by omega
        clear hz2w
        obtain ⟨la, lc, rfl, -⟩ := own_shape hJ.own
        obtain ⟨p0, p1, p2, p3, p4⟩ := hJ.box.b3
        have HSJ : Hid (∀ b, S b → wr.heap[b]? = Wr.heap[b]?) := fun b hb => by
          have := HSS.out b hb
          rw [hJ.bel.block b (by omega), HW2.out.1.block b (by omega)]
        clear g0 g1 g2 g3 hJ
        by_cases hjl : j < LI.length
        · obtain ⟨ib, ioff, rfl, hIS, ⟨d0, d1, d2, d3⟩, d4, d5, d6⟩ := (SliceL.sub (T := S) (w' := wr) (v := .slice ia LI.length ic) (L := LI) ⟨HLI.out.2.1, HLI.out.2.2⟩ (fun x hx => ⟨hx, HSJ.out x hx⟩)).at j hjl
          have hibl : ib < wr.heap.size := by have := HSS.out ib hIS; omega
          have hnote := HLI.out.2.2 LI[j] (List.getElem_mem hjl)
          obtain ⟨pa, pc, e1, -⟩ := SliceV.shape hnote.1
          obtain ⟨qa, qc, e2, -⟩ := SliceV.shape hnote.2
          have hpq : LI[j].2 = (.slice pa LI[j].1.note.props.length pc, .slice qa LI[j].1.note.body.length qc) := by rw [← e1, ← e2]
          have HPQ : Hid (LI[j].2 = (.slice pa LI[j].1.note.props.length pc, .slice qa LI[j].1.note.body.length qc)) := hpq
          rw [e1] at d5
          rw [e2] at d6
          clear hnote e1 e2 hpq
          have hne1 : Wr.heap.size + 1 ≠ wr.heap.size := by omega
          have hne2 : Wr.heap.size + 1 ≠ wr.heap.size + 1 := by omega
          go_wp2_with (at_builtin; refine wpList_appV rfl (.tmp 32) (.tmp 38) 69 rfl 48 j0 _ 7 88 Try.underlying69 hj0 hy0 hy1 hy2 rfl (by omega) (Wr.heap.size + 1 + 1) (.slice la j lc) j (cellsI (plainL (LI.take j))) rfl (own_below (own_below HJ.out.own (below_alloc _ _)) (below_alloc _ _)) (fun b => b = wr.heap.size + 1) (.slice (some ⟨wr.heap.size + 1, 0, none⟩) 1 1) 1 ((plainI LI[j].1).cells LI[j].2) rfl (by rw [HPQ.out]; exact row_any' _ _ _ _ _ (by simp) (by simp [maxLen])) rfl (by rw [HPQ.out]; simp [IT.cells, plainI, Value.oneCell']) (by unfold maxLen; omega) (by omega) (by simp <;> omega) ?_; intro ao cap w3 ho3 hg3 hm3; have hbx := HJ.out.box.same ((hg3.block _ (by simp; omega) (fun e => by have := (HJ.out.own.lt _ e.symm).1; omega)).trans ((Below.heap_alloc _ _ _ (by simp; omega)).trans (Below.heap_alloc _ _ _ p4))); obtain ⟨r0, r1, r2, r3, r4⟩ := hbx.b3; clear hbx)
          go_roundw
          case rel =>
            exact ⟨j + 1, by omega, by go_num, _, HJ.out.more hjl ho3 hg3 (by have := HZ.out; omega)⟩
          case measure => simp [intOf]; omega
        · obtain rfl : j = LI.length := by omega
          have HBW : Hid (Below Wr.heap.size Wr wr) := HW2.out.1.trans (HJ.out.bel.mono (by omega))
          obtain ⟨va3, vc3, hvi, -⟩ := own_shape HI.out.own
          subst hvi
          have hout := HI.out.out.below HBW.out (by omega)
          obtain ⟨o0, o1, o2, o3⟩ := hout.b2
          have HOUT : Hid (Blk wr (w.heap.size + 1 + 1) [.slice va3 L'.length vc3, .int .i64 next]) := hout
          have hno : w.heap.size + 1 + 1 ≠ wr.heap.size := by omega
          clear hout
          go_wp2_with (at_builtin; refine wpList_appV rfl (.tmp 43) (.tmp 45) 22 rfl 71 i0 _ 3 48 Try.underlying22 hi0 hz0 hz1 hz2 rfl (by omega) (w.heap.size + 3) (.slice va3 L'.length vc3) L'.length (cellsQ L') rfl (own_below (own_below HI.out.own HBW.out) (below_alloc _ _)) (fun b => b = wr.heap.size) (.slice (some ⟨wr.heap.size, 0, none⟩) 1 1) 1 [.string q.name, .int .i64 q.limit, .slice la LI.length lc] rfl (row_any' _ _ _ _ _ rfl (by simp [maxLen])) rfl (by simp [Value.oneCell']) (by unfold maxLen; omega) (by omega) (by simp <;> omega) ?_; intro ao cap w3 ho3 hg3 hm3; have hbx := HOUT.out.same ((hg3.block _ (by simp; omega) (fun e => by have := (HI.out.own.lt _ e.symm).1; omega)).trans (Below.heap_alloc _ _ _ o3)); obtain ⟨gg, gcap, hao⟩ : ∃ g c, Value.slice ao (L'.length + 1) cap = .slice (some ⟨g, 0, none⟩) (L'.length + 1) c := (by rcases ho3.2 with ⟨-, h0⟩ | ⟨g, c, cur, e, -⟩; (omega); exact ⟨g, c, e⟩); simp only [Value.slice.injEq, true_and] at hao; obtain ⟨rfl, rfl⟩ := hao; obtain ⟨r0, r1, r2, r3⟩ := hbx.b2; clear hbx)
          have hn : SliceI (fun b => S b ∨ Made Wr.heap.size wr.heap.size b) wr (.slice la LI.length lc) (plainQ qs[k]).items := by
            have hrow := HJ.out.own
            rw [List.take_of_length_le (Nat.le_refl _)] at hrow
            rw [← HQE.out]
            refine ⟨plainL LI, ?_, ?_, fun x hx => ?_⟩
            · simp only [plainQ, ← HLI.out.1, plainL, List.map_map]; rfl
            · have hl : (plainL LI).length = LI.length := by simp [plainL]
              rw [hl]
              exact (own_slice hrow).sub fun b hb => ⟨.inr ⟨by have := (hrow.lt b hb).1; omega, (hrow.lt b hb).2⟩, rfl⟩
            · simp only [plainL, List.mem_map] at hx
              obtain ⟨y, hy, rfl⟩ := hx
              exact (HLI.out.2.2 y hy).sub fun b hb => ⟨.inl hb, HSJ.out b hb⟩
          have RR : RI S w next qs (k + 1) _ _ _ := HI.out.more HSS.out hlt hn HBW.out (by rw [← HQE.out]; exact ho3) hg3 (by
            rcases hm3 gg rfl with h | h
            · exact .inl h
            · exact .inr (by simpa using h))
          clear hn ho3 hg3 hm3 HJ p0 p1 p2 p3 o0 o1 o2
          go_roundw
          case rel => exact ⟨k + 1, by omega, by go_num, _, _, RR⟩
          case measure => simp [intOf]; omega
    · obtain ⟨o0, o1, o2, o3⟩ := hI.out.b2
      obtain ⟨r0, r1, r2, r3⟩ := hI.res.b2
      obtain ⟨xa, xc, rfl, -⟩ := own_shape hI.own
      obtain rfl : k = qs.length := by omega
      clear hI
      go_wp2
      have hl := HI.out.lt
      refine bodyPost_ret (v := .agg #[.slice xa L'.length xc, .int .i64 next]) (by simp [results, Try.results13, go_sem, *]; done) rfl ⟨_, rfl, ⟨L', ?_, ?_, fun x hx => ?_⟩, ?_⟩
      · have := HI.out.list
        rwa [List.take_of_length_le (Nat.le_refl _)] at this
      · refine (own_slice HI.out.own).sub fun b hb => ?_
        have h1 := HI.out.own.lt b hb
        refine ⟨.inr ⟨by omega, by simpa using h1.2⟩, ?_⟩
        iterate 2 rw [Below.heap_setCell _ _ _ _ (by simp; omega)]
      · refine (HI.out.items x hx).sub fun b hb => ?_
        rcases hb with hb | hb
        · have := HSS.out b hb
          refine ⟨.inl hb, ?_⟩
          iterate 2 rw [Below.heap_setCell _ _ _ _ (by simp; omega)]
        · refine ⟨.inr ⟨by omega, by simpa using hb.2.1⟩, ?_⟩
          iterate 2 rw [Below.heap_setCell _ _ _ _ (by simp; omega)]
      · iterate 2 refine Below.setCell ?_ (by simp) _
        exact HI.out.bel
end Go.Proofs.Ytpehkoompadpaaa

/-
  tglaw4.HallTells: what package hall answers and what the document's halls are, in one form each.
-/
namespace Go.Proofs.Ytpehkoompadpaaa
open Go.RowKit
set_option linter.unusedVariables false
set_option linter.unusedSimpArgs false

/-- A hall, entries and an error are answered. -/
def AnsU (r : HD × List ED × Int) (w : World) (e : Ending) (w' : World) : Prop :=
  ∃ va vc ea ec, e = .returned (.tuple #[.agg #[.slice va r.1.queues.length vc, .int .i64 r.1.next], .slice ea r.2.1.length ec, .int .i64 r.2.2]) ∧ SliceQ (Under w'.heap.size) w' (.slice va r.1.queues.length vc) r.1.queues ∧ SliceE (Under w'.heap.size) w' (.slice ea r.2.1.length ec) r.2.1 ∧ Below w.heap.size w w'
theorem AnsU.ofH {r : HD × List ED × Int} {w w' : World} {e : Ending} (h : AnsH r w e w' ∧ Below w.heap.size w w') : AnsU r w e w' := by
  obtain ⟨⟨va, vc, ea, ec, rfl, h1, h2⟩, hb⟩ := h
  exact ⟨va, vc, ea, ec, rfl, h1.sub fun b hb => ⟨hb.2, rfl⟩, h2.sub fun b hb => ⟨hb.2, rfl⟩, hb⟩
theorem sm_under {w w' : World} (hb : Below w.heap.size w w') {b : Nat} (h : SM (Under w.heap.size) w w' b) : b < w'.heap.size := by
  rcases h with h | h
  · exact Nat.lt_of_lt_of_le h hb.size
  · exact h.2
theorem AnsU.ofS {r : HD × List ED × Int} {w w' : World} {e : Ending} (h : AnsS (Under w.heap.size) r w e w' ∧ Below w.heap.size w w') : AnsU r w e w' := by
  obtain ⟨⟨va, vc, ea, ec, rfl, h1, h2⟩, hb⟩ := h
  exact ⟨va, vc, ea, ec, rfl, h1.sub fun b h => ⟨sm_under hb h, rfl⟩, h2.sub fun b h => ⟨sm_under hb h, rfl⟩, hb⟩

/-- Two functions answer the same. -/
def Both (F G : Nat) (h : HD) (args : List Value) (r : HD × List ED × Int) : Prop := (smallQ r.1.queues ∧ r.2.1.length ≤ 1000) ∧ ∀ (v : Value) (W : World), SliceQ (Under W.heap.size) W v h.queues → Calls Try.prog F (.agg #[v, .int .i64 h.next] :: args).toArray W (AnsU r W) ∧ Calls Try.prog G (.agg #[v, .int .i64 h.next] :: args).toArray W (AnsU r W)

theorem FineA.ok {M : Int} {r : HD × List ED × Int} (h : FineA M r) : smallQ r.1.queues ∧ r.2.1.length ≤ 1000 := ⟨h.1.small, by have := h.2; omega⟩

theorem both_make {h : HD} (s : h.sound) (name : ByteArray) (hs : name.size ≤ maxLen) (n : Int) : ∃ r, Both 17 18 h [.string name, .int .i64 n] r :=
  ⟨makeF h name n, (fineA_make (by omega) s.good name n).ok, fun v W hv => ⟨(hallMake_any v h name n W hv s.good.small hs).mono fun e w' h => AnsU.ofH h, (refMake_any _ v h name n W (fun _ h => h) hv s.good.small.1 hs).mono fun e w' h => AnsU.ofS h⟩⟩
theorem both_drop {h : HD} (s : h.sound) (name : ByteArray) : ∃ r, Both 19 20 h [.string name] r :=
  ⟨_, (fine_face (M := 1000000) (by omega) fun k q _ => fineA_drop s.good k q).ok, fun v W hv => ⟨(hallDrop_any v h name W hv s.good.small).mono fun e w' h => AnsU.ofH h, (refDrop_any _ v h name W (fun _ h => h) hv s.good.small.1).mono fun e w' h => AnsU.ofS h⟩⟩
theorem both_done {h : HD} (s : h.sound) (tn : Int) (tq : ByteArray) (id turn : Int) : ∃ r, Both 23 24 h [.agg #[.int .i64 tn, .string tq, .int .i64 id, .int .i64 turn]] r :=
  ⟨_, (fine_face (M := 1000000) (by omega) fun k q hq => fineA_done s.good hq id turn).ok, fun v W hv => ⟨(hallDone_any v h tn tq id turn W hv s.good.small).mono fun e w' h => AnsU.ofH h, (refHallDone_any _ v h tn tq id turn W (fun _ h => h) hv s.good.small).mono fun e w' h => AnsU.ofS h⟩⟩
theorem sound_right {h : HD} (s : h.sound) : ∀ q ∈ h.queues, ∀ i ∈ q.items, i.note.wrong = 0 ∧ i.note.fitN := fun q hq i hi => by
  obtain ⟨k, hk, rfl⟩ := List.getElem_of_mem hq
  have := ((s.2.2 k hk).1.2.2.2.1 i hi).1
  exact ⟨this, ND.wrong_fit this⟩
theorem both_back {h : HD} (s : h.sound) (tn : Int) (tq : ByteArray) (id turn : Int) : ∃ r, Both 25 26 h [.agg #[.int .i64 tn, .string tq, .int .i64 id, .int .i64 turn]] r :=
  ⟨_, (fine_face (M := 1000000 + 1) (by omega) fun k q hq => fineA_back s.good hq id turn).ok, fun v W hv => ⟨(hallBack_any v h tn tq id turn W hv s.good.small s.good.fits (by have := s.2.1; omega)).mono fun e w' h => AnsU.ofH h, (refHallBack_any _ v h tn tq id turn W (fun _ h => h) hv s.good.small s.good.fits (by have := s.2.1; omega) (sound_right s)).mono fun e w' h => AnsU.ofS h⟩⟩
theorem both_purge {h : HD} (s : h.sound) (name : ByteArray) : ∃ r, Both 27 28 h [.string name] r :=
  ⟨_, (fine_face (M := 1000000) (by omega) fun k q hq => fineA_purge s.good hq).ok, fun v W hv => ⟨(hallPurge_any v h name W hv s.good.small).mono fun e w' h => AnsU.ofH h, (refHallPurge_any _ v h name W (fun _ h => h) hv s.good.small).mono fun e w' h => AnsU.ofS h⟩⟩
theorem both_put {h : HD} (s : h.sound) (name : ByteArray) (n : ND) (hf : n.fitN) : ∃ r, (smallQ r.1.queues ∧ r.2.1.length ≤ 1000) ∧ ∀ (v pv bv : Value) (W : World), SliceQ (Under W.heap.size) W v h.queues → NoteIs (Under W.heap.size) W (pv, bv) n → Calls Try.prog 21 #[.agg #[v, .int .i64 h.next], .string name, .agg #[pv, bv]] W (AnsU r W) ∧ Calls Try.prog 22 #[.agg #[v, .int .i64 h.next], .string name, .agg #[pv, bv]] W (AnsU r W) := by
  refine ⟨hallPutF h name n, ?_, fun v pv bv W hv hn => ⟨(hallPut_any v h name pv bv n W hv s.good.small (by have := s.2.1; omega) hn hf).mono fun e w' h => AnsU.ofH h, (refHallPut_any _ v h name pv bv n W (fun _ h => h) hv s.good.small (by have := s.2.1; omega) hn hf).mono fun e w' h => AnsU.ofS h⟩⟩
  unfold hallPutF
  split
  · rename_i hw
    exact (fine_face (M := 1000000 + 1) (by omega) fun k q hq => fineA_put s.good hq (wrong_small hw)).ok
  · exact (fine_refuse (M := 1) (by omega) _).ok

/-- A hall and entries are answered. -/
def AnsUE (r : HD × List ED) (w : World) (e : Ending) (w' : World) : Prop :=
  ∃ va vc ea ec, e = .returned (.tuple #[.agg #[.slice va r.1.queues.length vc, .int .i64 r.1.next], .slice ea r.2.length ec]) ∧ SliceQ (Under w'.heap.size) w' (.slice va r.1.queues.length vc) r.1.queues ∧ SliceE (Under w'.heap.size) w' (.slice ea r.2.length ec) r.2 ∧ Below w.heap.size w w'
theorem both_tick {h : HD} (s : h.sound) (now : Int) : ∃ r : HD × List ED, (smallQ r.1.queues ∧ r.2.length ≤ 1000) ∧ ∀ (v : Value) (W : World), SliceQ (Under W.heap.size) W v h.queues → Calls Try.prog 29 #[.agg #[v, .int .i64 h.next], .int .i64 now] W (AnsUE r W) ∧ Calls Try.prog 30 #[.agg #[v, .int .i64 h.next], .int .i64 now] W (AnsUE r W) := by
  have ht := tickF_good (now := now) h.queues.length 0 s.good
  have tok : h.tok 1000000 (h.queues.map QD.name) := ⟨s.good, fun q hq i hi => (sound_right s q hq i hi).1, rfl⟩
  refine ⟨tickF now h.queues.length 0 h, ⟨ht.1.small, by have := ht.2; have := s.1; omega⟩, fun v W hv => ⟨(hallTick_any v h now 1000000 (by omega) s.good W hv).mono ?_, (refHallTick_any _ v h now 1000000 (by omega) _ tok (fun k hk => (s.2.2 k hk).2) W (fun _ h => h) hv).mono ?_⟩⟩
  · rintro e w' ⟨⟨va, vc, ea, ec, rfl, h1, h2⟩, hb⟩
    exact ⟨va, vc, ea, ec, rfl, h1.sub fun b hb => ⟨hb.2, rfl⟩, h2.sub fun b hb => ⟨hb.2, rfl⟩, hb⟩
  · rintro e w' ⟨⟨va, vc, ea, ec, rfl, h1, h2⟩, hb⟩
    exact ⟨va, vc, ea, ec, rfl, h1.sub fun b h => ⟨sm_under hb h, rfl⟩, h2.sub fun b h => ⟨sm_under hb h, rfl⟩, hb⟩

/-- A hall, an item and an error are answered. -/
def AnsUT (r : HD × List ED × Int) (it : IT) (w : World) (e : Ending) (w' : World) : Prop :=
  ∃ va vc pa pc qa qc, e = .returned (.tuple #[.agg #[.slice va r.1.queues.length vc, .int .i64 r.1.next], .agg #[.int .i64 it.id, .int .i64 it.turn, .int .i64 it.tries, .bool it.out, .int .i64 it.due, .slice pa it.note.props.length pc, .slice qa it.note.body.length qc], .int .i64 r.2.2]) ∧ SliceQ (Under w'.heap.size) w' (.slice va r.1.queues.length vc) r.1.queues ∧ NoteIs (Under w'.heap.size) w' (.slice pa it.note.props.length pc, .slice qa it.note.body.length qc) it.note ∧ Below w.heap.size w w'
theorem both_take {h : HD} (s : h.sound) (name : ByteArray) (now : Int) (hnow : 0 ≤ now ∧ now ≤ 1000000) : ∃ (r : HD × List ED × Int) (it : IT), smallQ r.1.queues ∧ ∀ (v : Value) (W : World), SliceQ (Under W.heap.size) W v h.queues → Calls Try.prog 31 #[.agg #[v, .int .i64 h.next], .string name, .int .i64 now] W (AnsUT r it W) ∧ Calls Try.prog 32 #[.agg #[v, .int .i64 h.next], .string name, .int .i64 now] W (AnsUT r it W) := by
  have hsn : ∀ q ∈ h.queues, ∀ i ∈ q.items, i.turn ≤ 1000 := fun q hq i hi => by
    obtain ⟨k, hk, rfl⟩ := List.getElem_of_mem hq
    exact ((s.2.2 k hk).1.2.2.2.1 i hi).2.2.1.2
  refine ⟨faceF h name (fun k q => takeF h k q now), giveF h name now, (fine_face (M := 1000000) (by omega) fun k q hq => fineA_take s.good hq (hsn q (List.mem_of_getElem? hq)) now).ok.1, fun v W hv => ⟨(hallTake_any v h name now (by omega) W hv s.good.small s.good.fits).mono ?_, (refHallTake_any _ v h name now (by omega) W (fun _ h => h) hv s.good.small s.good.fits).mono ?_⟩⟩
  · rintro e w' ⟨⟨va, vc, pa, pc, qa, qc, rfl, h1, h2⟩, hb⟩
    exact ⟨va, vc, pa, pc, qa, qc, rfl, h1.sub fun b hb => ⟨hb.2, rfl⟩, h2.sub fun b hb => ⟨hb.2, rfl⟩, hb⟩
  · rintro e w' ⟨⟨va, vc, pa, pc, qa, qc, rfl, h1, h2⟩, hb⟩
    exact ⟨va, vc, pa, pc, qa, qc, rfl, h1.sub fun b h => ⟨sm_under hb h, rfl⟩, h2.sub fun b h => ⟨sm_under hb h, rfl⟩, hb⟩
end Go.Proofs.Ytpehkoompadpaaa
