/-
  RefShort; JTellsF: texts laid together.
-/
import Derived.Test.YtkddkpdfeeikhaaJTellsProofM43
import Derived.Test.YtkddkpdfeeikhaaJTellsProofM48
import Derived.Test.YtkddkpdfeeikhaaJTellsProofM49
import Derived.Test.YtkddkpdfeeikhaaJTellsProofM44
import Derived.Test.YtkddkpdfeeikhaaJTellsProofM29
/-
  tgref1.Short: the document's entries of a hall; the notes are the hall's own.
-/
namespace Go.Proofs.Ytkddkpdfeeikhaa
open Go.RowKit
set_option linter.unusedVariables false
set_option linter.unusedSimpArgs false

attribute [local go_sem ↓] Go.wp_at_zero Go.wp_at_succ

/-- Entries in a row of one's own, their notes in blocks of S. -/
def OwnES (S : Nat → Prop) (w0 : World) (base : Nat) (w : World) (v : Value) (es : List ED) : Prop :=
  ∃ L : EnL, L.map Prod.fst = es ∧ w.ownsRow base 30 6 v L.length (cellsE L) ∧ ∀ x ∈ L, NoteIs S w0 x.2 x.1.note

theorem OwnES.nil (S : Nat → Prop) (w0 : World) (base : Nat) (w : World) : OwnES S w0 base w (.slice none 0 0) [] := ⟨[], rfl, World.ownsRow_nil _ _ _ _, by simp⟩
theorem OwnES.shp {S : Nat → Prop} {w0 : World} {base : Nat} {w : World} {v : Value} {es : List ED} (h : OwnES S w0 base w v es) : ∃ a c, v = .slice a es.length c := by
  obtain ⟨L, rfl, h, -⟩ := h
  obtain ⟨a, c, rfl, -⟩ := own_shape h
  exact ⟨a, c, by simp⟩
theorem OwnES.mono {S : Nat → Prop} {w0 : World} {base base' : Nat} {w : World} {v : Value} {es : List ED} (h : OwnES S w0 base w v es) (hb : base' ≤ base) : OwnES S w0 base' w v es := by
  obtain ⟨L, h1, h2, h3⟩ := h
  exact ⟨L, h1, own_mono h2 hb, h3⟩
theorem OwnES.slice {S : Nat → Prop} {w0 : World} {base : Nat} {w : World} {v : Value} {es : List ED} (h : OwnES S w0 base w v es) (hS : ∀ b, S b → w.heap[b]? = w0.heap[b]?) : SliceE (fun b => S b ∨ Made base w.heap.size b) w v es := by
  obtain ⟨L, e, h1, h2⟩ := h
  exact ⟨L, e, (own_slice h1).sub fun k hk => ⟨.inr (h1.lt k hk), rfl⟩, fun x hx => (h2 x hx).sub fun b hb => ⟨.inl hb, hS b hb⟩⟩

/-- An entry more. -/
theorem OwnES.push {S : Nat → Prop} {w0 : World} {base : Nat} {w w2 w3 : World} {v : Value} {L : EnL} {e : ED} {p : Value × Value} {o : Obj} {gg cap : Nat} (hL : w.ownsRow base 30 6 v L.length (cellsE L)) (hn : ∀ x ∈ L, NoteIs S w0 x.2 x.1.note) (hbw : base ≤ w.heap.size) (hb : Below w.heap.size w w2) (hp : NoteIs S w0 p e.note)
    (ho : w3.ownsRow base 30 6 (.slice (some ⟨gg, 0, none⟩) (L.length + 1) cap) (L.length + 1) (cellsE L ++ e.cells p)) (hg : (w2.alloc o).grownBy w3 v.ownBlock) :
    OwnES S w0 base w3 (.slice (some ⟨gg, 0, none⟩) (L.length + 1) cap) ((L ++ [(e, p)]).map Prod.fst) ∧ Below base w w3 := by
  have hz := hb.size
  have hz3 : w2.heap.size + 1 ≤ w3.heap.size := by have := hg.size; simpa using this
  refine ⟨⟨L ++ [(e, p)], rfl, ?_, fun x hx => ?_⟩, ?_⟩
  · rw [List.length_append, cellsE_append]
    simpa [cellsE] using ho
  · rw [List.mem_append, List.mem_singleton] at hx
    rcases hx with hx | rfl
    · exact hn x hx
    · exact hp
  · refine ⟨hg.os.trans hb.os, hg.tape.trans hb.tape, hg.output.trans hb.output, by omega, fun b hb' => ?_⟩
    rw [hg.block b (by simp; omega) (fun e => by have := (hL.lt b e.symm).1; omega), Below.heap_alloc _ _ _ (by omega), hb.block b (by omega)]

set_option maxRecDepth 100000 in
set_option maxHeartbeats 3200000 in
theorem refShort_any (S : Nat → Prop) (v : Value) (h : HD) (w : World) (hS : ∀ b, S b → b < w.heap.size) (hv : SliceQ S w v h.queues) (hsm : smallQ h.queues) (hlen : (shortF h.queues).length ≤ 4194304) :
    Calls Try.prog 24 #[.agg #[v, .int .i64 h.next]] w fun r w' => ∃ vi, r = .returned vi ∧ OwnES S w w.heap.size w' vi (shortF h.queues) ∧ Below w.heap.size w w' := by
  obtain ⟨i0, hi0, hz0, hz1, hz2⟩ := info_parts info92
  have HV : Hid (SliceQ S w v h.queues) := hv
  have HSS : Hid (∀ b, S b → b < w.heap.size) := hS
  have HM : Hid (smallQ h.queues) := hsm
  have HLN : Hid ((shortF h.queues).length ≤ 4194304) := hlen
  obtain ⟨va, vc, rfl, h1, h2, -⟩ := hv.shape
  unfold maxLen at h2
  have hql := hsm.1
  clear hv hsm hlen hS
  obtain ⟨n, hn⟩ : ∃ n, n = h.queues.length := ⟨_, rfl⟩
  have HN : Hid (n = h.queues.length) := hn
  rw [← hn] at h1 hql
  rw [← hn]
  clear hn
  obtain ⟨A, hA⟩ : ∃ A, A = w.alloc (.cells #[.slice va n vc, .int .i64 h.next] 24) := ⟨_, rfl⟩
  have hAz : A.heap.size = w.heap.size + 1 := by rw [hA]; simp
  have hAB : Below w.heap.size w A := by rw [hA]; exact below_alloc _ _
  have hA0 : Blk A w.heap.size [.slice va n vc, .int .i64 h.next] := by rw [hA]; exact Blk.new _ _ _
  obtain ⟨a0, a1, a2, a3⟩ := hA0.b2
  have HAB : Hid (Below w.heap.size w A) := hAB
  clear hAB hA0
  go_enter Try.func24, Try.ntmps24
  go_upto_region 1 with fail
  rw [← hA]
  clear hA
  go_wp2_with fail
  go_loopw [3, 11] (fun v i wr => ∃ k : Nat, k ≤ n ∧ i = .int .i64 k ∧ OwnES S w A.heap.size wr v (shortF (h.queues.take k)) ∧ Below A.heap.size A wr) (fun _ i _ => n - (intOf i).toNat)
  case atStart => exact ⟨0, Nat.zero_le _, rfl, OwnES.nil _ _ _ _, Below.refl _ _⟩
  case round =>
    obtain ⟨k, hk, rfl, hrow, hbel⟩ := hrel
    rename World => wq
    by_cases hlt : k < n
    · have hk2 : k < h.queues.length := by rw [← HN.out]; exact hlt
      have hBw : Below w.heap.size w wq := HAB.out.trans (hbel.mono (by omega))
      obtain ⟨b, off, ia, ic, rfl, hS, hq, c0, c1, c2⟩ := (SliceQ.sub (T := S) HV.out (fun b hb => ⟨hb, hBw.block b (HSS.out b hb)⟩)).at k hk2
      obtain ⟨LE, hLE, hown, hnotes⟩ := hrow
      obtain ⟨oa, oc, rfl, ho1, ho2, -⟩ := own_shape hown
      unfold maxLen at ho2
      obtain ⟨q, hqe⟩ : ∃ q, q = h.queues[k] := ⟨_, rfl⟩
      have HQE : Hid (q = h.queues[k]) := hqe
      have hbq : b < wq.heap.size := by have := hBw.size; have : b < w.heap.size := HSS.out b hS; omega
      have hsl := shortF_len h.queues k hk2
      have hle2 : LE.length = (shortF (h.queues.take k)).length := by rw [← hLE]; simp
      rw [← hqe] at c0 c1 c2 hq hsl
      have HQ : Hid (SliceI S w (.slice ia q.items.length ic) q.items) := hq.sub fun b hb => ⟨hb, (hBw.block b (HSS.out b hb)).symm⟩
      have hLEl : LE.length + 1 + q.items.length ≤ 4194304 := by have := HLN.out; omega
      have hzq : A.heap.size ≤ wq.heap.size := hbel.size
      have HBQ : Hid (Below w.heap.size w wq ∧ Below A.heap.size A wq) := ⟨hBw, hbel⟩
      have HO : Hid (LE.map Prod.fst = shortF (h.queues.take k) ∧ wq.ownsRow A.heap.size 30 6 (.slice oa LE.length oc) LE.length (cellsE LE) ∧ ∀ x ∈ LE, NoteIs S w x.2 x.1.note) := ⟨hLE, hown, hnotes⟩
      clear hq hown hnotes hLE hbel hBw hqe hsl hle2
      obtain ⟨its, hits⟩ : ∃ its, its = q.items := ⟨_, rfl⟩
      have HIT : Hid (its = q.items) := hits
      have hsmI : smallI its := by rw [hits, HQE.out]; exact HM.out.2 _ (List.getElem_mem hk2)
      have HSI : Hid (smallI its) := hsmI
      have hitl := hsmI.1
      rw [← hits] at c2 HQ hLEl
      clear hits hsmI
      go_upto_region 6 with (at_builtin; refine wpList_append_lies _ rfl _ _ _ rfl A.heap.size 30 i0 _ 6 88 Try.underlying37 hi0 hz0 hz1 hz2 rfl (by omega) (.slice oa LE.length oc) LE.length (cellsE LE) rfl (own_below (own_below HO.out.2.1 (below_alloc _ _)) (below_alloc _ _)) ⟨wq.heap.size + 1, 0, none⟩ 1 1 ((makeE q).cells (.slice none 0 0, .slice none 0 0)) rfl rfl (by have := World.news_of_block (cs := #[.int .i64 1, .string q.name, .int .i64 q.limit, .int .i64 0, .slice none 0 0, .slice none 0 0]) (t := 30) (fr := (0, 0)) (heap_alloc_new (wq.alloc (.cells #[.string q.name, .int .i64 q.limit, .slice ia its.length ic] 76)) (.cells #[.int .i64 1, .string q.name, .int .i64 q.limit, .int .i64 0, .slice none 0 0, .slice none 0 0] 30)); simpa [makeE, ED.cells, nN] using this) (by simp [ED.cells, makeE, nN, Value.oneCell']) (by omega) (by unfold maxLen; omega) (by omega) (by simp; omega) (wq.heap.size + 2) (by simp) ?_; intro gg cap w3 hown3 hg3 hat3 hlt3)
      obtain ⟨k1, k2, k3⟩ := HO.out
      obtain ⟨hE3, hB3⟩ := OwnES.push (e := makeE q) (p := (.slice none 0 0, .slice none 0 0)) k2 k3 hzq (below_alloc wq (.cells #[.string q.name, .int .i64 q.limit, .slice ia its.length ic] 76)) (NoteIs.nil _ _) hown3 hg3
      rw [List.map_append, k1] at hE3
      have hQ3 : Blk w3 wq.heap.size [.string q.name, .int .i64 q.limit, .slice ia its.length ic] := ((Blk.new wq [.string q.name, .int .i64 q.limit, .slice ia its.length ic] 76).alloc _).same (hg3.block _ (by simp; omega) (fun e => by have := (k2.lt _ e.symm).2; omega))
      have H3 : Hid (OwnES S w A.heap.size w3 (.slice (some ⟨gg, 0, none⟩) (LE.length + 1) cap) (shortF (h.queues.take k) ++ [makeE q]) ∧ Below A.heap.size A w3 ∧ Blk w3 wq.heap.size [.string q.name, .int .i64 q.limit, .slice ia its.length ic]) := ⟨hE3, HBQ.out.2.trans hB3, hQ3⟩
      obtain ⟨q0, q1, q2, q3, q4⟩ := hQ3.b3
      obtain ⟨P, hP⟩ : ∃ P, P = shortF (h.queues.take k) ++ [makeE q] := ⟨_, rfl⟩
      have hPl : P.length + its.length ≤ 4194304 := by
        have : (shortF (h.queues.take k)).length = LE.length := by rw [← k1]; simp
        rw [hP, List.length_append, this]; simp; omega
      have HP : Hid (P = shortF (h.queues.take k) ++ [makeE q]) := hP
      rw [← hP] at H3
      have hnq : wq.heap.size < w3.heap.size := q4
      clear k1 k2 k3 hE3 hB3 hown3 hg3 hat3 hlt3 hQ3 hP c0 c1 c2 a0 a1 a2
      obtain ⟨iv, hiv⟩ : ∃ iv, iv = its.length := ⟨_, rfl⟩
      have HIV : Hid (iv = its.length) := hiv
      rw [← hiv] at q2 H3 HQ hPl hitl
      clear hiv
      go_wp2_with fail
      go_loopw [3, 26] (fun v i wr => ∃ j : Nat, j ≤ iv ∧ i = .int .i64 j ∧ OwnES S w A.heap.size wr v (P ++ (its.take j).map fun i => putE q.name i.id i.note) ∧ Below A.heap.size A wr ∧ Blk wr wq.heap.size [.string q.name, .int .i64 q.limit, .slice ia iv ic] ∧ wq.heap.size < wr.heap.size) (fun _ i _ => iv - (intOf i).toNat)
      case atStart => exact ⟨0, Nat.zero_le _, rfl, by simpa using H3.out.1, H3.out.2.1, H3.out.2.2, hnq⟩
      case round =>
        obtain ⟨j, hj, rfl, hE, hB, hQ, hwl⟩ := hrel
        have hBw : Below w.heap.size w wr := HAB.out.trans (hB.mono (by omega))
        obtain ⟨oa2, oc2, rfl⟩ := hE.shp
        obtain ⟨p0, p1, p2, p3, p4⟩ := hQ.b3
        by_cases hlt2 : j < iv
        · have hj2 : j < its.length := by rw [← HIV.out]; exact hlt2
          have hPj : (P ++ (its.take j).map fun i => putE q.name i.id i.note).length = P.length + j := by simp; omega
          rw [hPj] at hE ⊢
          have hqw := HBQ.out.1.size
          have hIw : SliceI S wr (.slice ia iv ic) its := HQ.out.sub fun b hb => ⟨hb, hBw.block b (HSS.out b hb)⟩
          obtain ⟨b', off', pa, pc, qa, qc, rfl, hS', hnt, ⟨d0, d1, d2, d3⟩, d4, d5, d6⟩ := hIw.at j hj2
          obtain ⟨it, hite⟩ : ∃ it, it = its[j] := ⟨_, rfl⟩
          rw [← hite] at hnt d0 d1 d2 d3 d4 d5 d6
          have HITE : Hid (it = its[j]) := hite
          have hsmn : it.note.small := by rw [hite]; exact HSI.out.2 _ (List.getElem_mem hj2)
          have HSN : Hid it.note.small := hsmn
          have hbr : b' < wr.heap.size := by have := hBw.size; have : b' < w.heap.size := HSS.out b' hS'; omega
          have hc0 := hQ.cell 0
          obtain ⟨LF, hLF, hof, hnf⟩ := hE
          have hLFl : LF.length = P.length + j := by rw [← List.length_map (f := Prod.fst), hLF, hPj]
          have hQr := hQ
          have HNT : Hid (NoteIs S w (.slice pa it.note.props.length pc, .slice qa it.note.body.length qc) it.note) := hnt.sub fun b hb => ⟨hb, (hBw.block b (HSS.out b hb)).symm⟩
          have hrow : wr.ownsRow A.heap.size 30 6 (.slice oa2 (P.length + j) oc2) (P.length + j) (cellsE LF) := by rw [← hLFl]; rw [hLFl] at hof ⊢; exact hof
          have HF : Hid (LF.map Prod.fst = (P ++ (its.take j).map fun i => putE q.name i.id i.note) ∧ wr.ownsRow A.heap.size 30 6 (.slice oa2 (P.length + j) oc2) (P.length + j) (cellsE LF) ∧ (∀ x ∈ LF, NoteIs S w x.2 x.1.note) ∧ LF.length = P.length + j ∧ Below A.heap.size A wr) := ⟨hLF, hrow, hnf, hLFl, hB⟩
          have HQN : Hid ((Value.slice oa2 (P.length + j) oc2).ownBlock ≠ some wq.heap.size) := fun e => by
            have hP1 : 1 ≤ P.length := by rw [HP.out]; simp
            rcases hof.2 with ⟨-, h0⟩ | ⟨g0, cp0, cur0, e2, -⟩
            · omega
            · have hof2 := hof
              rw [hLFl] at hof2 e2
              rw [e2] at e hof2
              simp only [Value.ownBlock, Option.some.injEq] at e
              subst e
              have hc := hof2.cellAt 0 (by omega)
              have hl0 : 0 < LF.length := by omega
              have he := cellsE_at LF 0 0 hl0 (by omega)
              rw [hc0] at hc
              simp only [Nat.zero_mul, Nat.zero_add, ED.cells, List.getElem?_cons_zero] at he
              rw [he] at hc
              simp at hc
          have HQR : Hid (Blk wr wq.heap.size [.string q.name, .int .i64 q.limit, .slice (some ⟨b', off', none⟩) iv ic]) := hQr
          have hzA : A.heap.size ≤ wr.heap.size := hB.size
          clear hQ hQr hnt hof hnf hLF hLFl hIw hB hite hsmn hPj hc0 hrow
          go_upto_region 10 with (at_builtin; refine wpList_append_lies _ rfl _ _ _ rfl A.heap.size 30 i0 _ 6 88 Try.underlying37 hi0 hz0 hz1 hz2 rfl (by omega) (.slice oa2 (P.length + j) oc2) (P.length + j) (cellsE LF) rfl (own_below (own_below HF.out.2.1 (below_alloc _ _)) (below_alloc _ _)) ⟨wr.heap.size + 1, 0, none⟩ 1 1 ((putE q.name it.id it.note).cells (.slice pa it.note.props.length pc, .slice qa it.note.body.length qc)) rfl rfl (by have := World.news_of_block (cs := #[.int .i64 3, .string q.name, .int .i64 0, .int .i64 it.id, .slice pa it.note.props.length pc, .slice qa it.note.body.length qc]) (t := 30) (fr := (0, 0)) (heap_alloc_new (wr.alloc (.cells #[.int .i64 it.id, .int .i64 it.turn, .int .i64 it.tries, .bool it.out, .int .i64 it.due, .slice pa it.note.props.length pc, .slice qa it.note.body.length qc] 78)) (.cells #[.int .i64 3, .string q.name, .int .i64 0, .int .i64 it.id, .slice pa it.note.props.length pc, .slice qa it.note.body.length qc] 30)); simpa [putE, ED.cells] using this) (by simp [ED.cells, putE, Value.oneCell']) (by omega) (by unfold maxLen; omega) (by omega) (by simp; omega) (wr.heap.size + 2) (by simp) ?_; intro g5 c5 w5 hown5 hg5 hat5 hlt5)
          have HEND : Hid (OwnES S w A.heap.size w5 (.slice (some ⟨g5, 0, none⟩) (P.length + j + 1) c5) (P ++ (its.take (j + 1)).map fun i => putE q.name i.id i.note) ∧ Below A.heap.size A w5 ∧ Blk w5 wq.heap.size [.string q.name, .int .i64 q.limit, .slice (some ⟨b', off', none⟩) iv ic] ∧ wq.heap.size < w5.heap.size) := by
            obtain ⟨f1, f2, f3, f4, f5⟩ := HF.out
            have hz5 := hg5.size
            simp only [World.size_alloc] at hz5
            have hQ5 : Blk w5 wq.heap.size [.string q.name, .int .i64 q.limit, .slice (some ⟨b', off', none⟩) iv ic] := ((HQR.out.alloc _).alloc _).same (hg5.block _ (by simp; omega) (fun e => HQN.out e.symm))
            rw [← f4] at f2 hown5 hg5
            obtain ⟨r1, r2⟩ := OwnES.push (e := putE q.name it.id it.note) (p := (.slice pa it.note.props.length pc, .slice qa it.note.body.length qc)) f2 f3 hzA (below_alloc wr _) HNT.out hown5 hg5
            rw [f4, List.map_append, f1] at r1
            refine ⟨?_, f5.trans r2, hQ5, by omega⟩
            rw [List.take_succ_eq_append_getElem hj2, List.map_append, ← HITE.out, ← List.append_assoc]
            exact r1
          clear hown5 hg5 hat5 hlt5
          go_wp2_with fail
          go_roundw
          case rel => exact ⟨j + 1, by omega, by go_num, HEND.out.1, HEND.out.2.1, HEND.out.2.2.1, HEND.out.2.2.2⟩
          case measure => simp [intOf]; omega
        · obtain rfl : j = iv := by omega
          have HE2 : Hid (OwnES S w A.heap.size wr (.slice oa2 (P ++ (its.take j).map fun i => putE q.name i.id i.note).length oc2) (P ++ (its.take j).map fun i => putE q.name i.id i.note) ∧ Below A.heap.size A wr) := ⟨hE, hB⟩
          clear hE hB hQ
          go_wp2_with fail
          go_roundw
          case rel =>
            obtain ⟨r1, r2⟩ := HE2.out
            refine ⟨k + 1, by omega, by go_num, ?_, r2⟩
            have e : (P ++ (its.take j).map fun i => putE q.name i.id i.note) = shortF (h.queues.take (k + 1)) := by
              have ht : its.take j = its := List.take_of_length_le (by have := HIV.out; omega)
              rw [shortF_take h.queues k hk2, ← HQE.out, HP.out, ht, HIT.out, List.append_assoc]
              rfl
            rw [← e]
            exact r1
          case measure => simp [intOf]; omega
    · obtain rfl : k = n := by omega
      obtain ⟨oa, oc, rfl⟩ := hrow.shp
      have HRW : Hid (OwnES S w A.heap.size wq (.slice oa (shortF (h.queues.take k)).length oc) (shortF (h.queues.take k)) ∧ Below A.heap.size A wq) := ⟨hrow, hbel⟩
      clear hrow hbel
      go_wp2_with fail
      go_ret
      have e : h.queues.take k = h.queues := List.take_of_length_le (by have := HN.out; omega)
      obtain ⟨r1, r2⟩ := HRW.out
      rw [e] at r1 ⊢
      exact ⟨_, rfl, r1.mono (by omega), HAB.out.trans (r2.mono (by omega))⟩
end Go.Proofs.Ytkddkpdfeeikhaa

/-
  What the journal's faces and the document's answer, one plain answer for both sides.
-/
namespace Go.Proofs.Ytkddkpdfeeikhaa
open Go.RowKit
set_option linter.unusedVariables false
set_option linter.unusedSimpArgs false

attribute [local go_sem ↓] Go.wp_at_zero Go.wp_at_succ

/-- An entry and an error are answered. -/
def EntAns (e : ED) (en : Int) (W : World) (r : Ending) (W' : World) : Prop :=
  ∃ pa pc ba bc, r = .returned (.tuple #[.agg #[.int .i64 e.kind, .string e.queue, .int .i64 e.n, .int .i64 e.id, .slice pa e.note.props.length pc, .slice ba e.note.body.length bc], .int .i64 en]) ∧ NoteIs (Under W'.heap.size) W' (.slice pa e.note.props.length pc, .slice ba e.note.body.length bc) e.note ∧ Below W.heap.size W W'
/-- A hall is answered. -/
def HallAns (h : HD) (W : World) (r : Ending) (W' : World) : Prop :=
  ∃ a c, r = .returned (.agg #[.slice a h.queues.length c, .int .i64 h.next]) ∧ SliceQ (Under W'.heap.size) W' (.slice a h.queues.length c) h.queues ∧ Below W.heap.size W W'
/-- Bytes are answered. -/
def BytAns (bs : List UInt8) (W : World) (r : Ending) (W' : World) : Prop :=
  ∃ a c, r = .returned (.slice a bs.length c) ∧ NT.SliceB W'.heap.size W' (.slice a bs.length c) bs ∧ Below W.heap.size W W'
/-- Entries are answered. -/
def EntsAns (es : List ED) (W : World) (r : Ending) (W' : World) : Prop :=
  ∃ a c, r = .returned (.slice a es.length c) ∧ SliceE (Under W'.heap.size) W' (.slice a es.length c) es ∧ Below W.heap.size W W'

theorem jt_read (b : List UInt8) (hl : b.length ≤ 1048576) : ∃ (e : ED) (en : Int),
    (∀ W v, SliceB (Under W.heap.size) W v b → Calls Try.prog 8 #[v] W (EntAns e en W)) ∧ (∀ W v, SliceB (Under W.heap.size) W v b → Calls Try.prog 9 #[v] W (EntAns e en W)) := by
  refine ⟨readE b, (jparseF b).2.2.2.2.2.2, fun W v hv => ?_, fun W v hv => ?_⟩
  · obtain ⟨a, cap, rfl, -⟩ := SliceV.shape hv
    refine (jparse_any a cap b W (bytes_nt hv)).mono fun r W' ⟨va, vc, ua, uc, he, hp, hb, hB, _, _⟩ => ?_
    refine ⟨va, vc, ua, uc, ?_, ?_, hB⟩
    · rw [he]; simp [readE]
    · exact ⟨by simpa [readE] using nt_props hp, by simpa [readE] using nt_bytes hb⟩
  · obtain ⟨a, cap, rfl, -⟩ := SliceV.shape hv
    refine (refEnt_any a cap b W (bytes_nt hv) (by omega)).mono fun r W' ⟨v, u, he, hp, hb, hB⟩ => ?_
    have h1 := nt_props hp
    have h2 := nt_bytes hb
    obtain ⟨va, vc, rfl, -⟩ := SliceV.shape h1
    obtain ⟨ua, uc, rfl, -⟩ := SliceV.shape h2
    exact ⟨va, vc, ua, uc, he, ⟨h1, h2⟩, hB⟩

theorem hall_ans {h : HD} {W W' : World} {r : Ending} {vi : Value} (hr : r = .returned (.agg #[vi, .int .i64 h.next])) (hq : SliceQ (Under W'.heap.size) W' vi h.queues) (hb : Below W.heap.size W W') : HallAns h W r W' := by
  obtain ⟨a, c, rfl⟩ := hq.shp
  exact ⟨a, c, hr, hq, hb⟩

theorem jt_replay (b : List UInt8) (hl : b.length ≤ 1048576) : ∃ h : HD, smallQ h.queues ∧
    (∀ W v, SliceB (Under W.heap.size) W v b → Calls Try.prog 12 #[v] W (HallAns h W)) ∧ (∀ W v, SliceB (Under W.heap.size) W v b → Calls Try.prog 13 #[v] W (HallAns h W)) := by
  refine ⟨replayL ⟨[], 0⟩ (SR.recsF b), ?_, fun W v hv => ?_, fun W v hv => ?_⟩
  · have h1 := replayL_cap (SR.recsF b) (h := ⟨[], 0⟩) (c := 0) ⟨by simp, by simp⟩
    have h2 := SR.sizeR_len4 (SR.recsF b)
    have h3 := SR.recsF_size b
    exact ((h1.mono (c' := 4194000) (by omega)).plain' (Nat.le_refl _)).1
  · exact (replay_any v b W hv (by omega)).mono fun r W' ⟨vi, he, hq, hb⟩ => hall_ans he hq hb
  · exact (refReplay_any v b W hv (by omega)).mono fun r W' ⟨vi, he, hq, hb⟩ => hall_ans he hq hb

theorem jt_bytes (e : ED) (hr : e.right) : ∃ bs : List UInt8,
    (∀ W pv bv, NoteIs (Under W.heap.size) W (pv, bv) e.note → Calls Try.prog 15 #[.agg #[.int .i64 e.kind, .string e.queue, .int .i64 e.n, .int .i64 e.id, pv, bv]] W (BytAns bs W)) ∧
    (∀ W pv bv, NoteIs (Under W.heap.size) W (pv, bv) e.note → Calls Try.prog 16 #[.agg #[.int .i64 e.kind, .string e.queue, .int .i64 e.n, .int .i64 e.id, pv, bv]] W (BytAns bs W)) := by
  have key : ∀ {W W' : World} {r : Ending} {v : Value}, r = .returned v → W'.ownsRow W.heap.size 5 1 v (entryB e).length (u8s (entryB e)) → Below W.heap.size W W' → BytAns (entryB e) W r W' := by
    intro W W' r v he ho hb
    have h1 := NT.own_slice ho
    obtain ⟨a, c, rfl, -⟩ := h1
    exact ⟨a, c, he, NT.own_slice ho, hb⟩
  exact ⟨entryB e, fun W pv bv hn => (jbytes_any e hr pv bv W hn).mono fun r W' ⟨v, he, ho, hb⟩ => key he ho hb, fun W pv bv hn => (NT.refEntryB_any e hr pv bv W hn).mono fun r W' ⟨v, he, ho, hb⟩ => key he ho hb⟩

theorem jt_apply (h : HD) (e : ED) (hc : h.cap 1048576) (he : e.fits) : ∃ h' : HD, smallQ h'.queues ∧
    (∀ W v pv bv, SliceQ (Under W.heap.size) W v h.queues → NoteIs (Under W.heap.size) W (pv, bv) e.note → Calls Try.prog 17 #[.agg #[v, .int .i64 h.next], .agg #[.int .i64 e.kind, .string e.queue, .int .i64 e.n, .int .i64 e.id, pv, bv]] W (HallAns h' W)) ∧
    (∀ W v pv bv, SliceQ (Under W.heap.size) W v h.queues → NoteIs (Under W.heap.size) W (pv, bv) e.note → Calls Try.prog 18 #[.agg #[v, .int .i64 h.next], .agg #[.int .i64 e.kind, .string e.queue, .int .i64 e.n, .int .i64 e.id, pv, bv]] W (HallAns h' W)) := by
  have hp := hc.plain' (by omega)
  refine ⟨applyF h e, ((hc.apply he).plain' (by omega)).1, fun W v pv bv hv hn => ?_, fun W v pv bv hv hn => ?_⟩
  · exact (applyJ_any v h e pv bv W hv hp.1 hp.2 he hn).mono fun r W' ⟨vi, he, hq, hb⟩ => hall_ans he hq hb
  · refine (refApply_any (Under W.heap.size) v h e pv bv W (fun b hb => hb) hv hp.1 he hn).mono fun r W' ⟨va, vc, he, hq, hb⟩ => ⟨va, vc, he, hq.sub fun b hb' => ⟨?_, rfl⟩, hb⟩
    rcases hb' with h | h
    · exact Nat.lt_of_lt_of_le h hb.size
    · exact h.2

theorem jt_write (l : List UInt8) (sure : Int) (e : ED) (hr : e.right) (hl : l.length ≤ 1048576) : ∃ (wl : List UInt8) (ws we : Int),
    (∀ W u ev, SliceB (Under W.heap.size) W u l → SliceE (Under W.heap.size) W ev [e, e] → Calls Try.prog 20 #[.agg #[u, .int .i64 sure], ev] W (fun r W' => SR.LogIs W W' r wl ws we)) ∧
    (∀ W u ev, SliceB (Under W.heap.size) W u l → SliceE (Under W.heap.size) W ev [e, e] → Calls Try.prog 21 #[.agg #[u, .int .i64 sure], ev] W (fun r W' => SR.LogIs W W' r wl ws we)) :=
  ⟨_, _, _, fun W u ev hu he => write_any u ev sure l [e, e] W hu he (by simp [hr]) (by simp) (by omega), fun W u ev hu he => refWrite_any u ev sure l [e, e] W hu he (by simp [hr]) (by simp) (by omega)⟩

theorem jt_short (h : HD) (s : h.sound) : ∃ es : List ED, es.length ≤ 4194304 ∧
    (∀ W v, SliceQ (Under W.heap.size) W v h.queues → Calls Try.prog 23 #[.agg #[v, .int .i64 h.next]] W (EntsAns es W)) ∧
    (∀ W v, SliceQ (Under W.heap.size) W v h.queues → Calls Try.prog 24 #[.agg #[v, .int .i64 h.next]] W (EntsAns es W)) := by
  obtain ⟨-, -, hl, -⟩ := short_back s
  refine ⟨shortF h.queues, by omega, fun W v hv => ?_, fun W v hv => ?_⟩
  · refine (short_any v h W hv s.good.small (by omega)).mono fun r W' ⟨vi, he, ho, hb⟩ => ?_
    obtain ⟨a, c, rfl⟩ := ho.shp
    exact ⟨a, c, he, ho.slice.sub fun b hb => ⟨hb.2, rfl⟩, hb⟩
  · refine (refShort_any (Under W.heap.size) v h W (fun b hb => hb) hv s.good.small (by omega)).mono fun r W' ⟨vi, he, ho, hb⟩ => ?_
    have hs := ho.slice (fun b hb' => hb.block b hb')
    obtain ⟨a, c, rfl⟩ := hs.shp
    refine ⟨a, c, he, hs.sub fun b hb' => ⟨?_, rfl⟩, hb⟩
    rcases hb' with h | h
    · exact Nat.lt_of_lt_of_le h hb.size
    · exact h.2

/-- A made row of one entry, and of one twice. -/
theorem row_two {T : Nat → Prop} {w : World} {b : Nat} (e : ED) (p : Value × Value) (h : Blk w b (e.cells p ++ e.cells p)) (hb : T b) (hn : NoteIs T w p e.note) : SliceE T w (.slice (some ⟨b, 0, none⟩) 2 2) [e, e] := by
  refine ⟨[(e, p), (e, p)], rfl, ⟨some ⟨b, 0, none⟩, 2, rfl, by simp, by simp [maxLen], by simp, fun i hi => ?_⟩, ?_⟩
  · refine ⟨b, 0, rfl, hb, ?_⟩
    have e2 : cellsE [(e, p), (e, p)] = e.cells p ++ e.cells p := by simp [cellsE]
    have := h.cell i
    rw [← e2] at this
    rw [Nat.zero_add, this]
    exact List.getElem?_eq_getElem hi
  · intro x hx
    simp only [List.mem_cons, List.not_mem_nil, or_false, or_self] at hx
    subst hx
    exact hn
end Go.Proofs.Ytkddkpdfeeikhaa
