/-
  RefPurge; RefPlain: texts laid together.
-/
import Derived.Test.YtkddkpdfeeikhaaJFollowsProofM19
import Derived.Test.YtkddkpdfeeikhaaJFollowsProofM23
import Derived.Test.YtkddkpdfeeikhaaJFollowsProofM28
/-
  tgref1.Purge.
-/
namespace Go.Proofs.Ytkddkpdfeeikhaa
open Go.RowKit
set_option linter.unusedVariables false
set_option linter.unusedSimpArgs false

attribute [local go_sem ↓] Go.wp_at_zero Go.wp_at_succ

/-- What holds in tgref1.Purge behind k items. -/
structure PI (w : World) (name : ByteArray) (limit : Int) (va : Option Addr) (n vc : Nat) (L : ItL) (k : Nat) (wr : World) (lv gv : Value) : Prop where
  bel : Below w.heap.size w wr
  q : Blk wr w.heap.size [.string name, .int .i64 limit, .slice va n vc]
  res : Blk wr (w.heap.size + 1) [.string ⟨#[]⟩, .int .i64 0, .slice none 0 0]
  lo : wr.ownsRow (w.heap.size + 2) 78 7 lv ((L.take k).filter (fun x => x.1.out)).length (cellsI ((L.take k).filter (fun x => x.1.out)))
  go : wr.ownsRow (w.heap.size + 2) 3 1 gv (goneL ((L.take k).map Prod.fst)).length (ints (goneL ((L.take k).map Prod.fst)))
  apart : ∀ b, lv.ownBlock = some b → gv.ownBlock ≠ some b

section
variable {w : World} {name : ByteArray} {limit : Int} {va : Option Addr} {n vc : Nat} {L : ItL} {k : Nat} {wr : World} {lv gv : Value}

/-- Memory that is new alone. -/
theorem PI.on (h : PI w name limit va n vc L k wr lv gv) {W : World} (hb : Below wr.heap.size wr W) : PI w name limit va n vc L k W lv gv :=
  ⟨h.bel.trans (hb.mono h.bel.size), h.q.below hb h.q.lt, h.res.below hb h.res.lt, own_below h.lo hb, own_below h.go hb, h.apart⟩

theorem PI.stay (h : PI w name limit va n vc L k wr lv gv) (hk : k < L.length) (ho : L[k].1.out = true) {m : Nat} (hm0 : m = ((L.take k).filter (fun x => x.1.out)).length) {W : World} {ao : Option Addr} {cap : Nat}
    (h1 : W.ownsRow (w.heap.size + 2) 78 7 (.slice ao (m + 1) cap) (m + 1) (cellsI ((L.take k).filter (fun x => x.1.out)) ++ L[k].1.cells L[k].2)) (hg : wr.grownBy W lv.ownBlock) (hm : Moved wr lv (.slice ao (m + 1) cap)) :
    PI w name limit va n vc L (k + 1) W (.slice ao (m + 1) cap) gv := by
  subst hm0
  have hl := h.lo.lt
  have hz := h.res.lt
  have nb : ∀ b, b < w.heap.size + 2 → W.heap[b]? = wr.heap[b]? := fun b hb => hg.block b (by omega) (fun e => by have := (hl b e.symm).1; omega)
  have ef : (L.take (k + 1)).filter (fun x => x.1.out) = (L.take k).filter (fun x => x.1.out) ++ [L[k]] := by
    rw [List.take_succ_eq_append_getElem hk, List.filter_append]; simp [ho]
  have eg : goneL ((L.take (k + 1)).map Prod.fst) = goneL ((L.take k).map Prod.fst) := by
    rw [List.take_succ_eq_append_getElem hk, List.map_append]
    show goneL (_ ++ [L[k].1]) = _
    rw [goneL_snoc, ho]; simp
  refine ⟨h.bel.trans ⟨hg.os, hg.tape, hg.output, hg.size, fun b hb => nb b (by omega)⟩, h.q.same (nb _ (by omega)), h.res.same (nb _ (by omega)), ?_, ?_, fun b hb e => ?_⟩
  · rw [ef, List.length_append, cellsI_snoc]; exact h1
  · rw [eg]
    refine ⟨h.go.1, ?_⟩
    rcases h.go.2 with h2 | ⟨g, c, cur, e, hbg, hgg, hr⟩
    · exact .inl h2
    · exact .inr ⟨g, c, cur, e, hbg, (hg.block g (Array.getElem?_eq_some_iff.1 hgg).1 (fun e2 => h.apart g e2.symm (by rw [e]; rfl))).trans hgg, hr⟩
  · rcases hm b hb with h2 | h2
    · exact h.apart b h2 e
    · have := (h.go.lt b e).2; omega

theorem PI.gone (h : PI w name limit va n vc L k wr lv gv) (hk : k < L.length) (ho : L[k].1.out = false) {m : Nat} (hm0 : m = (goneL ((L.take k).map Prod.fst)).length) {W : World} {ao : Option Addr} {cap : Nat}
    (h1 : W.ownsRow (w.heap.size + 2) 3 1 (.slice ao (m + 1) cap) (m + 1) (ints (goneL ((L.take k).map Prod.fst)) ++ [.int .i64 L[k].1.id])) (hg : wr.grownBy W gv.ownBlock) (hm : Moved wr gv (.slice ao (m + 1) cap)) :
    PI w name limit va n vc L (k + 1) W lv (.slice ao (m + 1) cap) := by
  subst hm0
  have hl := h.go.lt
  have hz := h.res.lt
  have nb : ∀ b, b < w.heap.size + 2 → W.heap[b]? = wr.heap[b]? := fun b hb => hg.block b (by omega) (fun e => by have := (hl b e.symm).1; omega)
  have ef : (L.take (k + 1)).filter (fun x => x.1.out) = (L.take k).filter (fun x => x.1.out) := by
    rw [List.take_succ_eq_append_getElem hk, List.filter_append]; simp [ho]
  have eg : goneL ((L.take (k + 1)).map Prod.fst) = goneL ((L.take k).map Prod.fst) ++ [L[k].1.id] := by
    rw [List.take_succ_eq_append_getElem hk, List.map_append]
    show goneL (_ ++ [L[k].1]) = _
    rw [goneL_snoc, ho]; simp
  refine ⟨h.bel.trans ⟨hg.os, hg.tape, hg.output, hg.size, fun b hb => nb b (by omega)⟩, h.q.same (nb _ (by omega)), h.res.same (nb _ (by omega)), ?_, ?_, fun b hb e => ?_⟩
  · rw [ef]
    refine ⟨h.lo.1, ?_⟩
    rcases h.lo.2 with h2 | ⟨g, c, cur, e, hbg, hgg, hr⟩
    · exact .inl h2
    · exact .inr ⟨g, c, cur, e, hbg, (hg.block g (Array.getElem?_eq_some_iff.1 hgg).1 (fun e2 => h.apart g (by rw [e]; rfl) e2.symm)).trans hgg, hr⟩
  · have : ints (goneL ((L.take k).map Prod.fst) ++ [L[k].1.id]) = ints (goneL ((L.take k).map Prod.fst)) ++ [.int .i64 L[k].1.id] := by simp [ints]
    rw [eg, List.length_append, this]; exact h1
  · rcases hm b e with h2 | h2
    · exact h.apart b hb h2
    · have := (h.lo.lt b hb).2; omega
end

end Go.Proofs.Ytkddkpdfeeikhaa

/-
  tgref1.Plain.
-/
namespace Go.Proofs.Ytkddkpdfeeikhaa
open Go.RowKit
set_option linter.unusedVariables false
set_option linter.unusedSimpArgs false

attribute [local go_sem ↓] Go.wp_at_zero Go.wp_at_succ

/-- What holds in Plain, behind k queues. -/
structure RI (S : Nat → Prop) (w : World) (next : Int) (qs : List QD) (k : Nat) (wr : World) (vi : Value) (L' : QuL) : Prop where
  bel : Below w.heap.size w wr
  res : Blk wr (w.heap.size + 1) [.slice none 0 0, .int .i64 0]
  out : Blk wr (w.heap.size + 1 + 1) [vi, .int .i64 next]
  own : wr.ownsRow (w.heap.size + 3) 76 3 vi L'.length (cellsQ L')
  items : ∀ x ∈ L', SliceI (fun b => S b ∨ (w.heap.size + 3 ≤ b ∧ b < wr.heap.size ∧ vi.ownBlock ≠ some b)) wr x.2 x.1.items
  list : L'.map Prod.fst = (qs.take k).map plainQ

section
variable {S : Nat → Prop} {w : World} {next : Int} {qs : List QD} {k : Nat} {wr : World} {vi : Value} {L' : QuL}

theorem RI.lt (h : RI S w next qs k wr vi L') : w.heap.size + 3 ≤ wr.heap.size := by have := h.out.lt; omega

theorem RI.more (hS : ∀ b, S b → b < w.heap.size) (h : RI S w next qs k wr vi L') (hk : k < qs.length) {w1 w2 : World} {v : Value} {o : Obj} {gg cap : Nat}
    (hn : SliceI (fun b => S b ∨ Made wr.heap.size w1.heap.size b) w1 v (plainQ qs[k]).items) (h1 : Below wr.heap.size wr w1)
    (ho : w2.ownsRow (w.heap.size + 3) 76 3 (.slice (some ⟨gg, 0, none⟩) (L'.length + 1) cap) (L'.length + 1) (cellsQ L' ++ (plainQ qs[k]).cells v)) (hg : (w1.alloc o).grownBy w2 vi.ownBlock) (hat : vi.ownBlock = some gg ∨ w1.heap.size + 1 ≤ gg) :
    RI S w next qs (k + 1) (w2.setCell ⟨w.heap.size + 1 + 1, 0, none⟩ (.slice (some ⟨gg, 0, none⟩) (L'.length + 1) cap)) (.slice (some ⟨gg, 0, none⟩) (L'.length + 1) cap) (L' ++ [(plainQ qs[k], v)]) := by
  have hl := h.lt
  have hz1 := h1.size
  have hz2 : w1.heap.size + 1 ≤ w2.heap.size := by have := hg.size; simp at this; omega
  have hown : ∀ b, vi.ownBlock = some b → w.heap.size + 3 ≤ b ∧ b < wr.heap.size := fun b hb => h.own.lt b hb
  have blk : ∀ b, b < w1.heap.size → vi.ownBlock ≠ some b → w2.heap[b]? = w1.heap[b]? := fun b hb hn => (hg.block b (by simp; omega) (fun e => hn e.symm)).trans (Below.heap_alloc _ _ _ hb)
  have blk' : ∀ b, b < wr.heap.size → vi.ownBlock ≠ some b → w2.heap[b]? = wr.heap[b]? := fun b hb hn => (blk b (by omega) hn).trans (h1.block b hb)
  have blo : ∀ b, b < w.heap.size + 3 → w2.heap[b]? = wr.heap[b]? := fun b hb => blk' b (by omega) (fun e => by have := (hown b e).1; omega)
  have hge : ∀ b, vi.ownBlock ≠ some b → b < w1.heap.size → (Value.slice (some ⟨gg, 0, none⟩) (L'.length + 1) cap).ownBlock ≠ some b := fun b hb hlt e => by
    simp only [Value.ownBlock, Option.some.injEq] at e
    subst e
    rcases hat with h | h
    · exact hb h
    · omega
  have hSw : ∀ b, S b → w2.heap[b]? = wr.heap[b]? := fun b hb => blo b (by have := hS b hb; omega)
  refine ⟨⟨?_, ?_, ?_, ?_, fun b hb => ?_⟩, ?_, ?_, ?_, fun x hx => ?_, ?_⟩
  · exact hg.os.trans (h1.os.trans h.bel.os)
  · exact hg.tape.trans (h1.tape.trans h.bel.tape)
  · exact hg.output.trans (h1.output.trans h.bel.output)
  · simp; have := h.bel.size; omega
  · rw [Below.heap_setCell _ _ _ _ (by simp; omega), blo b (by omega)]
    exact h.bel.block b hb
  · exact (h.res.same (blo _ (by omega))).far (by simp) _
  · exact (h.out.same (blo _ (by omega))).set 0 _
  · rw [List.length_append, cellsQ_append]
    have : cellsQ [(plainQ qs[k], v)] = (plainQ qs[k]).cells v := by simp [cellsQ]
    rw [this]
    exact ownsRow_setCell_below ho (by simp) _
  · rw [List.mem_append, List.mem_singleton] at hx
    rcases hx with hx | rfl
    · refine (h.items x hx).sub fun b hb => ?_
      rcases hb with hb | hb
      · refine ⟨.inl hb, ?_⟩
        rw [Below.heap_setCell _ _ _ _ (by have := hS b hb; simp; omega), hSw b hb]
      · refine ⟨.inr ⟨hb.1, by simp; omega, hge b hb.2.2 (by omega)⟩, ?_⟩
        rw [Below.heap_setCell _ _ _ _ (by simp; omega), blk' b hb.2.1 hb.2.2]
    · refine hn.sub fun b hb => ?_
      rcases hb with hb | hb
      · refine ⟨.inl hb, ?_⟩
        rw [Below.heap_setCell _ _ _ _ (by have := hS b hb; simp; omega), hSw b hb, h1.block b (by have := hS b hb; omega)]
      · obtain ⟨hb1, hb2⟩ := hb
        have hno : vi.ownBlock ≠ some b := fun e => by have := (hown b e).2; omega
        refine ⟨.inr ⟨by omega, by simp; omega, hge b hno hb2⟩, ?_⟩
        rw [Below.heap_setCell _ _ _ _ (by simp; omega), blk b hb2 hno]
  · rw [List.map_append, h.list, List.take_succ_eq_append_getElem hk, List.map_append]
    simp
end

theorem RI.start (S : Nat → Prop) (w : World) (next : Int) (qs : List QD) (v : Value) :
    RI S w next qs 0 (((w.alloc (.cells #[v, .int .i64 next] 24)).alloc (.cells #[.slice none 0 0, .int .i64 0] 24)).alloc (.cells #[.slice none 0 0, .int .i64 next] 24)) (.slice none 0 0) [] := by
  have b3 : Below w.heap.size w (((w.alloc (.cells #[v, .int .i64 next] 24)).alloc (.cells #[.slice none 0 0, .int .i64 0] 24)).alloc (.cells #[.slice none 0 0, .int .i64 next] 24)) := ((below_alloc _ _).alloc (by simp) _).alloc (by simp; omega) _
  refine ⟨b3, ?_, ?_, World.ownsRow_nil _ _ _ _, by simp, by simp⟩
  · have := (Blk.new (w.alloc (.cells #[v, .int .i64 next] 24)) [.slice none 0 0, .int .i64 0] 24).alloc (.cells #[.slice none 0 0, .int .i64 next] 24)
    simpa using this
  · have := Blk.new ((w.alloc (.cells #[v, .int .i64 next] 24)).alloc (.cells #[.slice none 0 0, .int .i64 0] 24)) [.slice none 0 0, .int .i64 next] 24
    simpa using this

/-- Items made plain. -/
def plainL (L : ItL) : ItL := L.map fun x => (plainI x.1, x.2)

/-- What holds in Plain's inner loop, behind j items: W the world with the two boxes. -/
structure RJ (W : World) (pb : Nat) (q : QD) (L : ItL) (j : Nat) (wj : World) (lv : Value) : Prop where
  bel : Below pb W wj
  box : Blk wj pb [.string q.name, .int .i64 q.limit, lv]
  own : wj.ownsRow (pb + 1) 78 7 lv j (cellsI (plainL (L.take j)))

theorem RJ.more {W : World} {pb : Nat} {q : QD} {L : ItL} {j : Nat} {wj w2 : World} {lv lv' : Value} (h : RJ W pb q L j wj lv) (hj : j < L.length) {o1 o2 : Obj} (ho : w2.ownsRow (pb + 1) 78 7 lv' (j + 1) (cellsI (plainL (L.take j)) ++ (plainI L[j].1).cells L[j].2)) (hg : ((wj.alloc o1).alloc o2).grownBy w2 lv.ownBlock) (hW : pb < W.heap.size) : RJ W pb q L (j + 1) (w2.setCell ⟨pb, 2, none⟩ lv') lv' := by
  have hz := h.bel.size
  have k2 : ∀ b, b < wj.heap.size → lv.ownBlock ≠ some b → w2.heap[b]? = wj.heap[b]? := fun b h1 h2 => (hg.block b (by simp; omega) (fun e => h2 e.symm)).trans ((Below.heap_alloc _ _ _ (by simp; omega)).trans (Below.heap_alloc _ _ _ h1))
  have hlo : ∀ b, lv.ownBlock = some b → pb + 1 ≤ b := fun b e => (h.own.lt b e).1
  refine ⟨⟨hg.os.trans h.bel.os, hg.tape.trans h.bel.tape, hg.output.trans h.bel.output, by have := hg.size; simp at this ⊢; omega, fun b hb => ?_⟩, ?_, ?_⟩
  · rw [Below.heap_setCell _ _ _ _ (by simp; omega), k2 b (by omega) (fun e => by have := hlo b e; omega)]
    exact h.bel.block b hb
  · exact (h.box.same (k2 _ h.box.lt (fun e => by have := hlo _ e; omega))).set 2 _
  · have e : cellsI (plainL (L.take (j + 1))) = cellsI (plainL (L.take j)) ++ (plainI L[j].1).cells L[j].2 := by
      rw [List.take_succ_eq_append_getElem hj]
      unfold plainL
      rw [List.map_append, cellsI_append]
      simp [cellsI]
    rw [e]
    exact ownsRow_setCell_below ho (by simp) _

set_option maxRecDepth 100000 in
set_option maxHeartbeats 3200000 in
theorem refPlain_any (S : Nat → Prop) (v : Value) (h : HD) (w : World) (hS : ∀ b, S b → b < w.heap.size) (hv : SliceQ S w v h.queues) (hsm : smallQ h.queues) :
    Calls Try.prog 27 #[.agg #[v, .int .i64 h.next]] w fun e w' => ∃ v', e = .returned (.agg #[v', .int .i64 h.next]) ∧ SliceQ (SM S w w') w' v' (h.queues.map plainQ) ∧ Below w.heap.size w w' := by
  obtain ⟨i0, hi0, hz0, hz1, hz2⟩ := info_parts info25
  obtain ⟨j0, hj0, hy0, hy1, hy2⟩ := info_parts info34
  obtain ⟨qs, next⟩ := h
  simp only at hv hsm ⊢
  have HV : Hid (SliceQ S w v qs) := hv
  have HM : Hid (smallQ qs) := hsm
  have HSS : Hid (∀ b, S b → b < w.heap.size) := hS
  have HK : Hid (RI S w next qs 0 _ (.slice none 0 0) []) := RI.start S w next qs v
  obtain ⟨va, vc, rfl, h1, h2, h3⟩ := hv.shape
  have hlen := hsm.1
  unfold maxLen at h2
  clear hv hsm hS
  go_enter Try.func27, Try.ntmps27
  go_wp2
  go_loopw [15] (fun i wr => ∃ k : Nat, k ≤ qs.length ∧ i = .int .i64 k ∧ ∃ vi L', RI S w next qs k wr vi L')
    (fun i _ => qs.length - (intOf i).toNat)
  case atStart => exact ⟨0, Nat.zero_le _, rfl, _, _, HK.out⟩
  case round =>
    obtain ⟨k, hk, rfl, vi, L', hI⟩ := hrel
    clear HK
    obtain ⟨Wr, hWr⟩ : ∃ Wr, Wr = wr := ⟨_, rfl⟩
    subst hWr
    have hL' : L'.length ≤ k := by
      have := congrArg List.length hI.list
      simp at this
      omega
    have HI : Hid (RI S w next qs k Wr vi L') := hI
    by_cases hlt : k < qs.length
    · obtain ⟨b, off, ia, ic, rfl, hSb, hq, c0, c1, c2⟩ := (SliceQ.sub (T := S) HV.out (fun b hb => ⟨hb, hI.bel.block b (HSS.out b hb)⟩)).at k hlt
      have hzr := hI.lt
      have hbl : b < Wr.heap.size := by have := HSS.out b hSb; omega
      obtain ⟨q, hqe⟩ : ∃ q, q = qs[k] := ⟨_, rfl⟩
      rw [← hqe] at c0 c1 c2 hq
      have HQE : Hid (q = qs[k]) := hqe
      obtain ⟨LI, hLI, hLV, hLN⟩ := hq
      have hli : q.items.length = LI.length := by rw [← hLI]; simp
      have hsm2 : LI.length ≤ 4194304 := by have := (HM.out.2 _ (List.getElem_mem hlt)).1; rw [← hqe, hli] at this; exact this
      rw [hli] at c2 hLV
      have HLI : Hid (LI.map Prod.fst = q.items ∧ SliceV S Wr (.slice ia LI.length ic) LI.length (cellsI LI) ∧ ∀ x ∈ LI, NoteIs S Wr x.2 x.1.note) := ⟨hLI, hLV, hLN⟩
      clear hI hqe hLI hLV hLN hli
      obtain ⟨W2, hW2⟩ : ∃ W2, W2 = (Wr.alloc (.cells #[.string q.name, .int .i64 q.limit, .slice ia LI.length ic] 76)).alloc (.cells #[.string q.name, .int .i64 q.limit, .slice none 0 0] 76) := ⟨_, rfl⟩
      have HW2 : Hid (Below Wr.heap.size Wr W2 ∧ W2.heap.size = Wr.heap.size + 2 ∧ RJ W2 (Wr.heap.size + 1) q LI 0 W2 (.slice none 0 0) ∧ Blk W2 Wr.heap.size [.string q.name, .int .i64 q.limit, .slice ia LI.length ic]) := by
        have hb : Blk W2 (Wr.heap.size + 1) [.string q.name, .int .i64 q.limit, .slice none 0 0] := by
          rw [hW2]
          have := Blk.new (Wr.alloc (.cells #[.string q.name, .int .i64 q.limit, .slice ia LI.length ic] 76)) [.string q.name, .int .i64 q.limit, .slice none 0 0] 76
          simpa using this
        refine ⟨by rw [hW2]; exact (below_alloc _ _).alloc (by simp) _, by rw [hW2]; simp, ⟨Below.refl _ _, hb, ?_⟩, by rw [hW2]; exact (Blk.new _ _ _).alloc _⟩
        simpa [plainL, cellsI] using World.ownsRow_nil _ _ _ _
      go_upto_region 6 with fail
      rw [← hW2]
      clear hW2
      obtain ⟨g0, g1, g2, g3, g4⟩ := HW2.out.2.2.2.b3
      clear c0 c1 c2
      go_wp2_with fail
      go_loopw [27] (fun i wr => ∃ j : Nat, j ≤ LI.length ∧ i = .int .i64 j ∧ ∃ lv, RJ W2 (Wr.heap.size + 1) q LI j wr lv) (fun i _ => LI.length - (intOf i).toNat)
      case atStart => exact ⟨0, Nat.zero_le _, rfl, _, HW2.out.2.2.1⟩
      case round =>
        obtain ⟨j, hj, rfl, lv, hJ⟩ := hrel
        have HJ : Hid (RJ W2 (Wr.heap.size + 1) q LI j wr lv) := hJ
        have hzj := hJ.bel.size
        have hz2w := HW2.out.2.1
        have HZ : Hid (W2.heap.size = Wr.heap.size + 2) := hz2w
        have hzz : Wr.heap.size + 2 ≤ wr.heap.size := by omega
        clear hz2w
        obtain ⟨la, lc, rfl, -⟩ := own_shape hJ.own
        obtain ⟨p0, p1, p2, p3, p4⟩ := hJ.box.b3
        have HSJ : Hid (∀ b, S b → wr.heap[b]? = Wr.heap[b]?) := fun b hb => by
          have := HSS.out b hb
          rw [hJ.bel.block b (by omega), HW2.out.1.block b (by omega)]
        clear g0 g1 g2 g3 hJ
        by_cases hjl : j < LI.length
        · obtain ⟨ib, ioff, rfl, hIS, ⟨d0, d1, d2, d3⟩, d4, d5, d6⟩ := (SliceL.sub (T := S) (w' := wr) (v := .slice ia LI.length ic) (L := LI) ⟨HLI.out.2.1, HLI.out.2.2⟩ (fun x hx => ⟨hx, HSJ.out x hx⟩)).at j hjl
          have hibl : ib < wr.heap.size := by have := HSS.out ib hIS; omega
          have hnote := HLI.out.2.2 LI[j] (List.getElem_mem hjl)
          obtain ⟨pa, pc, e1, -⟩ := SliceV.shape hnote.1
          obtain ⟨qa, qc, e2, -⟩ := SliceV.shape hnote.2
          have hpq : LI[j].2 = (.slice pa LI[j].1.note.props.length pc, .slice qa LI[j].1.note.body.length qc) := by rw [← e1, ← e2]
          have HPQ : Hid (LI[j].2 = (.slice pa LI[j].1.note.props.length pc, .slice qa LI[j].1.note.body.length qc)) := hpq
          rw [e1] at d5
          rw [e2] at d6
          clear hnote e1 e2 hpq
          have hne1 : Wr.heap.size + 1 ≠ wr.heap.size := by omega
          have hne2 : Wr.heap.size + 1 ≠ wr.heap.size + 1 := by omega
          go_wp2_with (at_builtin; refine wpList_appV rfl (.tmp 32) (.tmp 38) 74 rfl 78 j0 _ 7 88 Try.underlying74 hj0 hy0 hy1 hy2 rfl (by omega) (Wr.heap.size + 1 + 1) (.slice la j lc) j (cellsI (plainL (LI.take j))) rfl (own_below (own_below HJ.out.own (below_alloc _ _)) (below_alloc _ _)) (fun b => b = wr.heap.size + 1) (.slice (some ⟨wr.heap.size + 1, 0, none⟩) 1 1) 1 ((plainI LI[j].1).cells LI[j].2) rfl (by rw [HPQ.out]; exact row_any' _ _ _ _ _ (by simp) (by simp [maxLen])) rfl (by rw [HPQ.out]; simp [IT.cells, plainI, Value.oneCell']) (by unfold maxLen; omega) (by omega) (by simp <;> omega) ?_; intro ao cap w3 ho3 hg3 hm3; have hbx := HJ.out.box.same ((hg3.block _ (by simp; omega) (fun e => by have := (HJ.out.own.lt _ e.symm).1; omega)).trans ((Below.heap_alloc _ _ _ (by simp; omega)).trans (Below.heap_alloc _ _ _ p4))); obtain ⟨r0, r1, r2, r3, r4⟩ := hbx.b3; clear hbx)
          go_roundw
          case rel =>
            exact ⟨j + 1, by omega, by go_num, _, HJ.out.more hjl ho3 hg3 (by have := HZ.out; omega)⟩
          case measure => simp [intOf]; omega
        · obtain rfl : j = LI.length := by omega
          have HBW : Hid (Below Wr.heap.size Wr wr) := HW2.out.1.trans (HJ.out.bel.mono (by omega))
          obtain ⟨va3, vc3, hvi, -⟩ := own_shape HI.out.own
          subst hvi
          have hout := HI.out.out.below HBW.out (by omega)
          obtain ⟨o0, o1, o2, o3⟩ := hout.b2
          have HOUT : Hid (Blk wr (w.heap.size + 1 + 1) [.slice va3 L'.length vc3, .int .i64 next]) := hout
          have hno : w.heap.size + 1 + 1 ≠ wr.heap.size := by omega
          clear hout
          go_wp2_with (at_builtin; refine wpList_appV rfl (.tmp 43) (.tmp 45) 22 rfl 76 i0 _ 3 48 Try.underlying22 hi0 hz0 hz1 hz2 rfl (by omega) (w.heap.size + 3) (.slice va3 L'.length vc3) L'.length (cellsQ L') rfl (own_below (own_below HI.out.own HBW.out) (below_alloc _ _)) (fun b => b = wr.heap.size) (.slice (some ⟨wr.heap.size, 0, none⟩) 1 1) 1 [.string q.name, .int .i64 q.limit, .slice la LI.length lc] rfl (row_any' _ _ _ _ _ rfl (by simp [maxLen])) rfl (by simp [Value.oneCell']) (by unfold maxLen; omega) (by omega) (by simp <;> omega) ?_; intro ao cap w3 ho3 hg3 hm3; have hbx := HOUT.out.same ((hg3.block _ (by simp; omega) (fun e => by have := (HI.out.own.lt _ e.symm).1; omega)).trans (Below.heap_alloc _ _ _ o3)); obtain ⟨gg, gcap, hao⟩ : ∃ g c, Value.slice ao (L'.length + 1) cap = .slice (some ⟨g, 0, none⟩) (L'.length + 1) c := (by rcases ho3.2 with ⟨-, h0⟩ | ⟨g, c, cur, e, -⟩; (omega); exact ⟨g, c, e⟩); simp only [Value.slice.injEq, true_and] at hao; obtain ⟨rfl, rfl⟩ := hao; obtain ⟨r0, r1, r2, r3⟩ := hbx.b2; clear hbx)
          have hn : SliceI (fun b => S b ∨ Made Wr.heap.size wr.heap.size b) wr (.slice la LI.length lc) (plainQ qs[k]).items := by
            have hrow := HJ.out.own
            rw [List.take_of_length_le (Nat.le_refl _)] at hrow
            rw [← HQE.out]
            refine ⟨plainL LI, ?_, ?_, fun x hx => ?_⟩
            · simp only [plainQ, ← HLI.out.1, plainL, List.map_map]; rfl
            · have hl : (plainL LI).length = LI.length := by simp [plainL]
              rw [hl]
              exact (own_slice hrow).sub fun b hb => ⟨.inr ⟨by have := (hrow.lt b hb).1; omega, (hrow.lt b hb).2⟩, rfl⟩
            · simp only [plainL, List.mem_map] at hx
              obtain ⟨y, hy, rfl⟩ := hx
              exact (HLI.out.2.2 y hy).sub fun b hb => ⟨.inl hb, HSJ.out b hb⟩
          have RR : RI S w next qs (k + 1) _ _ _ := HI.out.more HSS.out hlt hn HBW.out (by rw [← HQE.out]; exact ho3) hg3 (by
            rcases hm3 gg rfl with h | h
            · exact .inl h
            · exact .inr (by simpa using h))
          clear hn ho3 hg3 hm3 HJ p0 p1 p2 p3 o0 o1 o2
          go_roundw
          case rel => exact ⟨k + 1, by omega, by go_num, _, _, RR⟩
          case measure => simp [intOf]; omega
    · obtain ⟨o0, o1, o2, o3⟩ := hI.out.b2
      obtain ⟨r0, r1, r2, r3⟩ := hI.res.b2
      obtain ⟨xa, xc, rfl, -⟩ := own_shape hI.own
      obtain rfl : k = qs.length := by omega
      clear hI
      go_wp2
      have hl := HI.out.lt
      refine bodyPost_ret (v := .agg #[.slice xa L'.length xc, .int .i64 next]) (by simp [results, Try.results27, go_sem, *]; done) rfl ⟨_, rfl, ⟨L', ?_, ?_, fun x hx => ?_⟩, ?_⟩
      · have := HI.out.list
        rwa [List.take_of_length_le (Nat.le_refl _)] at this
      · refine (own_slice HI.out.own).sub fun b hb => ?_
        have h1 := HI.out.own.lt b hb
        refine ⟨.inr ⟨by omega, by simpa using h1.2⟩, ?_⟩
        iterate 2 rw [Below.heap_setCell _ _ _ _ (by simp; omega)]
      · refine (HI.out.items x hx).sub fun b hb => ?_
        rcases hb with hb | hb
        · have := HSS.out b hb
          refine ⟨.inl hb, ?_⟩
          iterate 2 rw [Below.heap_setCell _ _ _ _ (by simp; omega)]
        · refine ⟨.inr ⟨by omega, by simpa using hb.2.1⟩, ?_⟩
          iterate 2 rw [Below.heap_setCell _ _ _ _ (by simp; omega)]
      · iterate 2 refine Below.setCell ?_ (by simp) _
        exact HI.out.bel
end Go.Proofs.Ytkddkpdfeeikhaa
