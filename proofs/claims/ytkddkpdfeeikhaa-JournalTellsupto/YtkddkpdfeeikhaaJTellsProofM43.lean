/-
  RefTickF; JShort; JMath: texts laid together.
-/
import Derived.Test.YtkddkpdfeeikhaaJTellsProofM42
import Derived.Test.YtkddkpdfeeikhaaJTellsProofM11
import Derived.Test.YtkddkpdfeeikhaaJTellsProofM29
import Derived.Test.YtkddkpdfeeikhaaJTellsProofM08
import Derived.Test.YtkddkpdfeeikhaaJTellsProofM05
import Derived.Deep.RegionHeld3
import Derived.Test.YtkddkpdfeeikhaaJTellsProofM41
import Derived.Test.YtkddkpdfeeikhaaJTellsProofM07
import Derived.Test.YtkddkpdfeeikhaaJTellsProofM26
/-
  What the document's HallTick comes to, plainly: by steps.
-/
namespace Go.Proofs.Ytkddkpdfeeikhaa
open Go.RowKit
set_option linter.unusedVariables false
set_option linter.unusedSimpArgs false

theorem wrongL_zero {ps : List PD} (h : wrongL ps = 0) : ∀ p ∈ ps, p.wrong = 0 := by
  induction ps with
  | nil => simp
  | cons p r ih =>
    unfold wrongL at h
    by_cases hp : p.wrong = 0
    · simp [hp] at h
      intro x hx
      rw [List.mem_cons] at hx
      rcases hx with rfl | hx
      · exact hp
      · exact ih h x hx
    · simp [hp] at h

end Go.Proofs.Ytkddkpdfeeikhaa

/-
  journal.Short: the entries that make a hall anew.
-/
namespace Go.Proofs.Ytkddkpdfeeikhaa
open Go.RowKit
set_option linter.unusedVariables false
set_option linter.unusedSimpArgs false

attribute [local go_sem ↓] Go.wp_at_zero Go.wp_at_succ

def makeE (q : QD) : ED := ⟨1, q.name, q.limit, 0, nN⟩
def putsE (q : QD) : List ED := q.items.map fun i => putE q.name i.id i.note
/-- The entries that make a hall anew. -/
def shortF (qs : List QD) : List ED := qs.flatMap fun q => makeE q :: putsE q

theorem shortF_take (qs : List QD) (k : Nat) (hk : k < qs.length) : shortF (qs.take (k + 1)) = shortF (qs.take k) ++ (makeE qs[k] :: putsE qs[k]) := by
  unfold shortF
  rw [List.take_succ_eq_append_getElem hk, List.flatMap_append]
  simp
theorem shortF_len (qs : List QD) (k : Nat) (hk : k < qs.length) : (shortF (qs.take k)).length + 1 + qs[k].items.length ≤ (shortF qs).length := by
  have h := List.take_append_drop (k + 1) qs
  have e : shortF qs = shortF (qs.take (k + 1)) ++ shortF (qs.drop (k + 1)) := by
    conv => lhs; rw [← h]
    unfold shortF
    rw [List.flatMap_append]
  rw [e, shortF_take qs k hk]
  simp [putsE]
  omega

/-- An entry more. -/
theorem OwnE.push {base : Nat} {w w2 w3 : World} {v : Value} {L : EnL} {e : ED} {p : Value × Value} {o : Obj} {gg cap : Nat} (hL : w.ownsRow base 30 6 v L.length (cellsE L)) (hn : ∀ x ∈ L, NoteIs (fun b => base ≤ b ∧ b < w.heap.size ∧ v.ownBlock ≠ some b) w x.2 x.1.note) (hbw : base ≤ w.heap.size) (hb : Below w.heap.size w w2) (hp : NoteIs (Made w.heap.size w2.heap.size) w2 p e.note)
    (ho : w3.ownsRow base 30 6 (.slice (some ⟨gg, 0, none⟩) (L.length + 1) cap) (L.length + 1) (cellsE L ++ e.cells p)) (hg : (w2.alloc o).grownBy w3 v.ownBlock) (hat : v.ownBlock = some gg ∨ gg = w2.heap.size + 1) :
    OwnE base w3 (.slice (some ⟨gg, 0, none⟩) (L.length + 1) cap) ((L ++ [(e, p)]).map Prod.fst) ∧ Below base w w3 := by
  have hz := hb.size
  have hz3 : w2.heap.size + 1 ≤ w3.heap.size := by have := hg.size; simpa using this
  have hvl : ∀ b, v.ownBlock = some b → b < w.heap.size := fun b h => (hL.lt b h).2
  have blk : ∀ b, b < w2.heap.size → v.ownBlock ≠ some b → w3.heap[b]? = w2.heap[b]? := fun b h1 h2 => by
    rw [hg.block b (by simp; omega) (fun e => h2 e.symm), Below.heap_alloc _ _ _ h1]
  have hgb : ∀ b, v.ownBlock ≠ some b → b < w2.heap.size → (Value.slice (some ⟨gg, 0, none⟩) (L.length + 1) cap).ownBlock ≠ some b := fun b h1 h2 e => by
    simp only [Value.ownBlock, Option.some.injEq] at e
    subst e
    rcases hat with h | h
    · exact h1 h
    · omega
  refine ⟨⟨L ++ [(e, p)], rfl, ?_, fun x hx => ?_⟩, ?_⟩
  · rw [List.length_append, cellsE_append]
    simpa [cellsE] using ho
  · rw [List.mem_append, List.mem_singleton] at hx
    rcases hx with hx | rfl
    · refine (hn x hx).sub fun b hb' => ⟨⟨hb'.1, by omega, hgb b hb'.2.2 (by omega)⟩, ?_⟩
      rw [blk b (by omega) hb'.2.2, hb.block b hb'.2.1]
    · refine hp.sub fun b hb' => ?_
      have h1 := hb'.1
      have h2 := hb'.2
      have hne : v.ownBlock ≠ some b := fun e => by have := hvl b e; omega
      exact ⟨⟨by omega, by omega, hgb b hne h2⟩, blk b h2 hne⟩
  · refine ⟨hg.os.trans hb.os, hg.tape.trans hb.tape, hg.output.trans hb.output, by omega, fun b hb' => ?_⟩
    rw [blk b (by omega) (fun e => by have := (hL.lt b e).1; omega), hb.block b (by omega)]

set_option maxRecDepth 100000 in
set_option maxHeartbeats 3200000 in
theorem short_any (v : Value) (h : HD) (w : World) (hv : SliceQ (Under w.heap.size) w v h.queues) (hsm : smallQ h.queues) (hlen : (shortF h.queues).length ≤ 4194304) :
    Calls Try.prog 23 #[.agg #[v, .int .i64 h.next]] w fun r w' => ∃ vi, r = .returned vi ∧ OwnE w.heap.size w' vi (shortF h.queues) ∧ Below w.heap.size w w' := by
  obtain ⟨i0, hi0, hz0, hz1, hz2⟩ := info_parts info92
  have HV : Hid (SliceQ (Under w.heap.size) w v h.queues) := hv
  have HM : Hid (smallQ h.queues) := hsm
  have HLN : Hid ((shortF h.queues).length ≤ 4194304) := hlen
  obtain ⟨va, vc, rfl, h1, h2, -⟩ := hv.shape
  unfold maxLen at h2
  have hql := hsm.1
  clear hv hsm hlen
  obtain ⟨n, hn⟩ : ∃ n, n = h.queues.length := ⟨_, rfl⟩
  have HN : Hid (n = h.queues.length) := hn
  rw [← hn] at h1 hql
  rw [← hn]
  clear hn
  obtain ⟨A, hA⟩ : ∃ A, A = w.alloc (.cells #[.slice va n vc, .int .i64 h.next] 24) := ⟨_, rfl⟩
  have hAz : A.heap.size = w.heap.size + 1 := by rw [hA]; simp
  have hAB : Below w.heap.size w A := by rw [hA]; exact below_alloc _ _
  have hA0 : Blk A w.heap.size [.slice va n vc, .int .i64 h.next] := by rw [hA]; exact Blk.new _ _ _
  obtain ⟨a0, a1, a2, a3⟩ := hA0.b2
  have HAB : Hid (Below w.heap.size w A) := hAB
  clear hAB hA0
  go_enter Try.func23, Try.ntmps23
  go_upto_region 1 with fail
  rw [← hA]
  clear hA
  go_wp2_with fail
  go_loopw [3, 11] (fun v i wr => ∃ k : Nat, k ≤ n ∧ i = .int .i64 k ∧ OwnE A.heap.size wr v (shortF (h.queues.take k)) ∧ Below A.heap.size A wr) (fun _ i _ => n - (intOf i).toNat)
  case atStart => exact ⟨0, Nat.zero_le _, rfl, OwnE.nil _ _, Below.refl _ _⟩
  case round =>
    obtain ⟨k, hk, rfl, hrow, hbel⟩ := hrel
    rename World => wq
    by_cases hlt : k < n
    · have hk2 : k < h.queues.length := by rw [← HN.out]; exact hlt
      have hBw : Below w.heap.size w wq := HAB.out.trans (hbel.mono (by omega))
      obtain ⟨b, off, ia, ic, rfl, hS, hq, c0, c1, c2⟩ := (SliceQ.sub (T := Under w.heap.size) HV.out (fun b hb => ⟨hb, hBw.block b hb⟩)).at k hk2
      obtain ⟨LE, hLE, hown, hnotes⟩ := hrow
      obtain ⟨oa, oc, rfl, ho1, ho2, -⟩ := own_shape hown
      unfold maxLen at ho2
      obtain ⟨q, hqe⟩ : ∃ q, q = h.queues[k] := ⟨_, rfl⟩
      have HQE : Hid (q = h.queues[k]) := hqe
      have hbq : b < wq.heap.size := by have := hBw.size; have : b < w.heap.size := hS; omega
      have hsl := shortF_len h.queues k hk2
      have hle2 : LE.length = (shortF (h.queues.take k)).length := by rw [← hLE]; simp
      rw [← hqe] at c0 c1 c2 hq hsl
      have HQ : Hid (SliceI (Under w.heap.size) wq (.slice ia q.items.length ic) q.items) := hq
      have hLEl : LE.length + 1 + q.items.length ≤ 4194304 := by have := HLN.out; omega
      have hzq : A.heap.size ≤ wq.heap.size := hbel.size
      have HBQ : Hid (Below w.heap.size w wq ∧ Below A.heap.size A wq) := ⟨hBw, hbel⟩
      have HO : Hid (LE.map Prod.fst = shortF (h.queues.take k) ∧ wq.ownsRow A.heap.size 30 6 (.slice oa LE.length oc) LE.length (cellsE LE) ∧ ∀ x ∈ LE, NoteIs (fun b => A.heap.size ≤ b ∧ b < wq.heap.size ∧ (Value.slice oa LE.length oc).ownBlock ≠ some b) wq x.2 x.1.note) := ⟨hLE, hown, hnotes⟩
      clear hq hown hnotes hLE hbel hBw hqe hsl hle2
      obtain ⟨its, hits⟩ : ∃ its, its = q.items := ⟨_, rfl⟩
      have HIT : Hid (its = q.items) := hits
      have hsmI : smallI its := by rw [hits, HQE.out]; exact HM.out.2 _ (List.getElem_mem hk2)
      have HSI : Hid (smallI its) := hsmI
      have hitl := hsmI.1
      rw [← hits] at c2 HQ hLEl
      clear hits hsmI
      go_upto_region 6 with (at_builtin; refine wpList_append_lies _ rfl _ _ _ rfl A.heap.size 30 i0 _ 6 88 Try.underlying37 hi0 hz0 hz1 hz2 rfl (by omega) (.slice oa LE.length oc) LE.length (cellsE LE) rfl (own_below (own_below HO.out.2.1 (below_alloc _ _)) (below_alloc _ _)) ⟨wq.heap.size + 1, 0, none⟩ 1 1 ((makeE q).cells (.slice none 0 0, .slice none 0 0)) rfl rfl (by have := World.news_of_block (cs := #[.int .i64 1, .string q.name, .int .i64 q.limit, .int .i64 0, .slice none 0 0, .slice none 0 0]) (t := 30) (fr := (0, 0)) (heap_alloc_new (wq.alloc (.cells #[.string q.name, .int .i64 q.limit, .slice ia its.length ic] 76)) (.cells #[.int .i64 1, .string q.name, .int .i64 q.limit, .int .i64 0, .slice none 0 0, .slice none 0 0] 30)); simpa [makeE, ED.cells, nN] using this) (by simp [ED.cells, makeE, nN, Value.oneCell']) (by omega) (by unfold maxLen; omega) (by omega) (by simp; omega) (wq.heap.size + 2) (by simp) ?_; intro gg cap w3 hown3 hg3 hat3 hlt3)
      obtain ⟨k1, k2, k3⟩ := HO.out
      obtain ⟨hE3, hB3⟩ := OwnE.push (e := makeE q) (p := (.slice none 0 0, .slice none 0 0)) k2 k3 hzq (below_alloc wq (.cells #[.string q.name, .int .i64 q.limit, .slice ia its.length ic] 76)) (NoteIs.nil _ _) hown3 hg3 (by simpa using hat3)
      rw [List.map_append, k1] at hE3
      have hQ3 : Blk w3 wq.heap.size [.string q.name, .int .i64 q.limit, .slice ia its.length ic] := ((Blk.new wq [.string q.name, .int .i64 q.limit, .slice ia its.length ic] 76).alloc _).same (hg3.block _ (by simp; omega) (fun e => by have := (k2.lt _ e.symm).2; omega))
      have H3 : Hid (OwnE A.heap.size w3 (.slice (some ⟨gg, 0, none⟩) (LE.length + 1) cap) (shortF (h.queues.take k) ++ [makeE q]) ∧ Below A.heap.size A w3 ∧ Blk w3 wq.heap.size [.string q.name, .int .i64 q.limit, .slice ia its.length ic]) := ⟨hE3, HBQ.out.2.trans hB3, hQ3⟩
      obtain ⟨q0, q1, q2, q3, q4⟩ := hQ3.b3
      obtain ⟨P, hP⟩ : ∃ P, P = shortF (h.queues.take k) ++ [makeE q] := ⟨_, rfl⟩
      have hPl : P.length + its.length ≤ 4194304 := by
        have : (shortF (h.queues.take k)).length = LE.length := by rw [← k1]; simp
        rw [hP, List.length_append, this]; simp; omega
      have HP : Hid (P = shortF (h.queues.take k) ++ [makeE q]) := hP
      rw [← hP] at H3
      have hnq : wq.heap.size < w3.heap.size := q4
      clear k1 k2 k3 hE3 hB3 hown3 hg3 hat3 hlt3 hQ3 hP c0 c1 c2 a0 a1 a2
      obtain ⟨iv, hiv⟩ : ∃ iv, iv = its.length := ⟨_, rfl⟩
      have HIV : Hid (iv = its.length) := hiv
      rw [← hiv] at q2 H3 HQ hPl hitl
      clear hiv
      go_wp2_with fail
      go_loopw [3, 26] (fun v i wr => ∃ j : Nat, j ≤ iv ∧ i = .int .i64 j ∧ OwnE A.heap.size wr v (P ++ (its.take j).map fun i => putE q.name i.id i.note) ∧ Below A.heap.size A wr ∧ Blk wr wq.heap.size [.string q.name, .int .i64 q.limit, .slice ia iv ic] ∧ wq.heap.size < wr.heap.size) (fun _ i _ => iv - (intOf i).toNat)
      case atStart => exact ⟨0, Nat.zero_le _, rfl, by simpa using H3.out.1, H3.out.2.1, H3.out.2.2, hnq⟩
      case round =>
        obtain ⟨j, hj, rfl, hE, hB, hQ, hwl⟩ := hrel
        have hBw : Below w.heap.size w wr := HAB.out.trans (hB.mono (by omega))
        obtain ⟨oa2, oc2, rfl⟩ := hE.shp
        obtain ⟨p0, p1, p2, p3, p4⟩ := hQ.b3
        by_cases hlt2 : j < iv
        · have hj2 : j < its.length := by rw [← HIV.out]; exact hlt2
          have hPj : (P ++ (its.take j).map fun i => putE q.name i.id i.note).length = P.length + j := by simp; omega
          rw [hPj] at hE ⊢
          have hqw := HBQ.out.1.size
          have hIw : SliceI (Under w.heap.size) wr (.slice ia iv ic) its := by
            exact HQ.out.sub fun b hb => ⟨hb, (hBw.block b hb).trans (HBQ.out.1.block b hb).symm⟩
          obtain ⟨b', off', pa, pc, qa, qc, rfl, hS', hnt, ⟨d0, d1, d2, d3⟩, d4, d5, d6⟩ := hIw.at j hj2
          obtain ⟨it, hite⟩ : ∃ it, it = its[j] := ⟨_, rfl⟩
          rw [← hite] at hnt d0 d1 d2 d3 d4 d5 d6
          have HITE : Hid (it = its[j]) := hite
          have hsmn : it.note.small := by rw [hite]; exact HSI.out.2 _ (List.getElem_mem hj2)
          have HSN : Hid it.note.small := hsmn
          have hbr : b' < wr.heap.size := by have := hBw.size; have : b' < w.heap.size := hS'; omega
          have hc0 := hQ.cell 0
          obtain ⟨LF, hLF, hof, hnf⟩ := hE
          have hLFl : LF.length = P.length + j := by rw [← List.length_map (f := Prod.fst), hLF, hPj]
          obtain ⟨C, hC⟩ : ∃ C, C = wr.alloc (.cells #[.int .i64 it.id, .int .i64 it.turn, .int .i64 it.tries, .bool it.out, .int .i64 it.due, .slice pa it.note.props.length pc, .slice qa it.note.body.length qc] 78) := ⟨_, rfl⟩
          have hCB : Below wr.heap.size wr C := by rw [hC]; exact below_alloc _ _
          have hCz : C.heap.size = wr.heap.size + 1 := by rw [hC]; simp
          have hC0 : Blk C wr.heap.size [.int .i64 it.id, .int .i64 it.turn, .int .i64 it.tries, .bool it.out, .int .i64 it.due, .slice pa it.note.props.length pc, .slice qa it.note.body.length qc] := by rw [hC]; exact Blk.new _ _ _
          have HC : Hid (Below wr.heap.size wr C ∧ Blk C wr.heap.size [.int .i64 it.id, .int .i64 it.turn, .int .i64 it.tries, .bool it.out, .int .i64 it.due, .slice pa it.note.props.length pc, .slice qa it.note.body.length qc] ∧ Blk C wq.heap.size [.string q.name, .int .i64 q.limit, .slice (some ⟨b', off', none⟩) iv ic]) := ⟨hCB, hC0, hQ.below hCB hwl⟩
          have HF : Hid (LF.map Prod.fst = (P ++ (its.take j).map fun i => putE q.name i.id i.note) ∧ wr.ownsRow A.heap.size 30 6 (.slice oa2 (P.length + j) oc2) (P.length + j) (cellsE LF) ∧ (∀ x ∈ LF, NoteIs (fun b => A.heap.size ≤ b ∧ b < wr.heap.size ∧ (Value.slice oa2 (P.length + j) oc2).ownBlock ≠ some b) wr x.2 x.1.note) ∧ LF.length = P.length + j ∧ Below A.heap.size A wr) := ⟨hLF, by rw [← hLFl]; rw [hLFl] at hof ⊢; exact hof, hnf, hLFl, hB⟩
          have HNT : Hid (NoteIs (Under C.heap.size) C (.slice pa it.note.props.length pc, .slice qa it.note.body.length qc) it.note) := hnt.sub fun b hb => ⟨by have : b < w.heap.size := hb; have := hBw.size; show b < C.heap.size; omega, hCB.block b (by have : b < w.heap.size := hb; have := hBw.size; omega)⟩
          have HQN : Hid ((Value.slice oa2 (P.length + j) oc2).ownBlock ≠ some wq.heap.size) := fun e => by
            have hP1 : 1 ≤ P.length := by rw [HP.out]; simp
            rcases hof.2 with ⟨-, h0⟩ | ⟨g0, cp0, cur0, e2, -⟩
            · omega
            · have hof2 := hof
              rw [hLFl] at hof2 e2
              rw [e2] at e hof2
              simp only [Value.ownBlock, Option.some.injEq] at e
              subst e
              have hc := hof2.cellAt 0 (by omega)
              have hl0 : 0 < LF.length := by omega
              have he := cellsE_at LF 0 0 hl0 (by omega)
              rw [hc0] at hc
              simp only [Nat.zero_mul, Nat.zero_add, ED.cells, List.getElem?_cons_zero] at he
              rw [he] at hc
              simp at hc
          have e0 : C.cell? ⟨wr.heap.size, 0, none⟩ = some (.int .i64 it.id) := hC0.cell 0
          have e5 : C.cell? ⟨wr.heap.size, 5, none⟩ = some (.slice pa it.note.props.length pc) := hC0.cell 5
          have e6 : C.cell? ⟨wr.heap.size, 6, none⟩ = some (.slice qa it.note.body.length qc) := hC0.cell 6
          have e7 : C.cell? ⟨wq.heap.size, 0, none⟩ = some (.string q.name) := HC.out.2.2.cell 0
          have hzA : A.heap.size ≤ wr.heap.size := hB.size
          clear hQ hnt hof hnf hLF hLFl hIw hB hite hsmn hC0 hCB hPj hc0
          go_upto_region 9 with fail
          rw [← hC]
          clear hC d0 d1 d2 d3 d4 d5 d6 p0 p1 p2 p3
          have hwqC : wq.heap.size < C.heap.size := by omega
          have hwrC : wr.heap.size < C.heap.size := by omega
          go_region_held3 (fun w' => w'.cell? ⟨wr.heap.size, 0, none⟩ = some (.int .i64 it.id) ∧ w'.cell? ⟨wr.heap.size, 5, none⟩ = some (.slice pa it.note.props.length pc) ∧ w'.cell? ⟨wr.heap.size, 6, none⟩ = some (.slice qa it.note.body.length qc) ∧ w'.cell? ⟨wq.heap.size, 0, none⟩ = some (.string q.name)) (go_keep) (first
            | (go_at_call 60; refine (noteOwn_any _ _ it.note HSN.out _ ?_).mono ?_; (exact HNT.out); rintro e w4 ⟨⟨y1, y2⟩, rfl, hn4, hb4⟩; obtain ⟨ya, yc, rfl, -⟩ := SliceV.shape hn4.1; obtain ⟨za, zc, rfl, -⟩ := SliceV.shape hn4.2; have hb4' : Below C.heap.size C w4 := ⟨hb4.os, hb4.tape, hb4.output, hb4.size, hb4.block⟩; have HN4 : Hid (NoteIs (Made C.heap.size w4.heap.size) w4 (.slice ya it.note.props.length yc, .slice za it.note.body.length zc) it.note ∧ Below C.heap.size C w4) := ⟨hn4, hb4'⟩; have hz4 := hb4'.size; have f0 : w4.cell? ⟨wr.heap.size, 0, none⟩ = some (.int .i64 it.id) := (HC.out.2.1.below hb4' hwrC).cell 0; have f5 : w4.cell? ⟨wr.heap.size, 5, none⟩ = some (.slice pa it.note.props.length pc) := (HC.out.2.1.below hb4' hwrC).cell 5; have f6 : w4.cell? ⟨wr.heap.size, 6, none⟩ = some (.slice qa it.note.body.length qc) := (HC.out.2.1.below hb4' hwrC).cell 6; have f7 : w4.cell? ⟨wq.heap.size, 0, none⟩ = some (.string q.name) := (HC.out.2.2.below hb4' hwqC).cell 0; have HO4 : Hid (w4.ownsRow A.heap.size 30 6 (.slice oa2 (P.length + j) oc2) (P.length + j) (cellsE LF)) := own_below (own_below HF.out.2.1 HC.out.1) hb4'; have n1 : wr.heap.size ≠ w4.heap.size := (by omega); have n2 : wq.heap.size ≠ w4.heap.size := (by omega); clear hn4 hb4 hb4')
            | (refine step_append_lies _ (by rfl) _ _ _ (by rfl) A.heap.size 30 i0 _ 6 88 Try.underlying37 hi0 hz0 hz1 hz2 rfl (by omega) (.slice oa2 (P.length + j) oc2) (P.length + j) (cellsE LF) (by rfl) (own_below HO4.out (below_alloc _ _)) ⟨w4.heap.size, 0, none⟩ 1 1 ((putE q.name it.id it.note).cells (.slice ya it.note.props.length yc, .slice za it.note.body.length zc)) (by rfl) (by rfl) (World.news_of_block (cs := #[.int .i64 3, .string q.name, .int .i64 0, .int .i64 it.id, .slice ya it.note.props.length yc, .slice za it.note.body.length zc]) (t := 30) (fr := (0, 0)) (heap_alloc_new w4 _)) (by simp [ED.cells, putE, Value.oneCell']) (by omega) (by unfold maxLen; omega) (by omega) (by simp; omega) (w4.heap.size + 1) (by simp) ?_; intro g5 c5 w5 hown5 hg5 hat5 hlt5; have HG5 : Hid (w5.ownsRow A.heap.size 30 6 (.slice (some ⟨g5, 0, none⟩) (P.length + j + 1) c5) (P.length + j + 1) (cellsE LF ++ (putE q.name it.id it.note).cells (.slice ya it.note.props.length yc, .slice za it.note.body.length zc)) ∧ (w4.alloc (.cells #[.int .i64 3, .string q.name, .int .i64 0, .int .i64 it.id, .slice ya it.note.props.length yc, .slice za it.note.body.length zc] 30)).grownBy w5 (Value.slice oa2 (P.length + j) oc2).ownBlock ∧ ((Value.slice oa2 (P.length + j) oc2).ownBlock = some g5 ∨ g5 = w4.heap.size + 1)) := ⟨hown5, hg5, hat5⟩; have hc : ∀ b, b < w4.heap.size → (Value.slice oa2 (P.length + j) oc2).ownBlock ≠ some b → w5.heap[b]? = w4.heap[b]? := (fun b h1 h2 => (hg5.block b (by simp; omega) (fun e => h2 e.symm)).trans (Below.heap_alloc _ _ _ h1)); have hcr := hc wr.heap.size (by omega) (fun e => by have := (HF.out.2.1.lt _ e).2; omega); have hcq := hc wq.heap.size (by omega) (fun e => HQN.out e); have hR5 := (HC.out.2.1.below HN4.out.2 hwrC).same hcr; have hQ5 := (HC.out.2.2.below HN4.out.2 hwqC).same hcq; have HQ5 : Hid _ := hQ5; have g0 : w5.cell? ⟨wr.heap.size, 0, none⟩ = some (.int .i64 it.id) := hR5.cell 0; have g5' : w5.cell? ⟨wr.heap.size, 5, none⟩ = some (.slice pa it.note.props.length pc) := hR5.cell 5; have g6 : w5.cell? ⟨wr.heap.size, 6, none⟩ = some (.slice qa it.note.body.length qc) := hR5.cell 6; have g7 : w5.cell? ⟨wq.heap.size, 0, none⟩ = some (.string q.name) := hQ5.cell 0; have hz5 : w4.heap.size + 1 ≤ w5.heap.size := (by have := hg5.size; simpa using this); clear hown5 hg5 hat5 hc hcr hcq hR5 hQ5))
          all_goals
            have HEND : Hid (OwnE A.heap.size w5 (.slice (some ⟨g5, 0, none⟩) (P.length + j + 1) c5) (P ++ (its.take (j + 1)).map fun i => putE q.name i.id i.note) ∧ Below A.heap.size A w5) := by
              obtain ⟨f1, f2, f3, f4, f5⟩ := HF.out
              obtain ⟨m1, m2, m3⟩ := HG5.out
              rw [← f4] at f2 f3 m1 m2 m3
              obtain ⟨r1, r2⟩ := OwnE.push (e := putE q.name it.id it.note) (p := (.slice ya it.note.props.length yc, .slice za it.note.body.length zc)) f2 f3 hzA (HC.out.1.trans (HN4.out.2.mono (by omega))) (HN4.out.1.sub fun b hb => ⟨⟨by have := hb.1; omega, hb.2⟩, rfl⟩) m1 m2 m3
              rw [f4, List.map_append, f1] at r1
              refine ⟨?_, f5.trans r2⟩
              rw [List.take_succ_eq_append_getElem hj2, List.map_append, ← HITE.out, ← List.append_assoc]
              exact r1
            clear HG5 HN4 HO4 HF HC
            go_wp2_with fail
            go_roundw
            case rel => exact ⟨j + 1, by omega, by go_num, HEND.out.1, HEND.out.2, HQ5.out, by omega⟩
            case measure => simp [intOf]; omega
        · obtain rfl : j = iv := by omega
          have HE2 : Hid (OwnE A.heap.size wr (.slice oa2 (P ++ (its.take j).map fun i => putE q.name i.id i.note).length oc2) (P ++ (its.take j).map fun i => putE q.name i.id i.note) ∧ Below A.heap.size A wr) := ⟨hE, hB⟩
          clear hE hB hQ
          go_wp2_with fail
          go_roundw
          case rel =>
            obtain ⟨r1, r2⟩ := HE2.out
            refine ⟨k + 1, by omega, by go_num, ?_, r2⟩
            have e : (P ++ (its.take j).map fun i => putE q.name i.id i.note) = shortF (h.queues.take (k + 1)) := by
              have ht : its.take j = its := List.take_of_length_le (by have := HIV.out; omega)
              rw [shortF_take h.queues k hk2, ← HQE.out, HP.out, ht, HIT.out, List.append_assoc]
              rfl
            rw [← e]
            exact r1
          case measure => simp [intOf]; omega
    · obtain rfl : k = n := by omega
      obtain ⟨oa, oc, rfl⟩ := hrow.shp
      have HRW : Hid (OwnE A.heap.size wq (.slice oa (shortF (h.queues.take k)).length oc) (shortF (h.queues.take k)) ∧ Below A.heap.size A wq) := ⟨hrow, hbel⟩
      clear hrow hbel
      go_wp2_with fail
      go_ret
      have e : h.queues.take k = h.queues := List.take_of_length_le (by have := HN.out; omega)
      obtain ⟨r1, r2⟩ := HRW.out
      rw [e] at r1 ⊢
      exact ⟨_, rfl, r1.mono (by omega), HAB.out.trans (r2.mono (by omega))⟩
end Go.Proofs.Ytkddkpdfeeikhaa

/-
  Entries come back from their bytes; the entries of 'Short' make a hall's plain one, but for the number that comes next. Plain lists.
-/
namespace Go.Proofs.Ytkddkpdfeeikhaa
open Go.RowKit
set_option linter.unusedVariables false
set_option linter.unusedSimpArgs false

/-- The number that comes next behind items. -/
def nextF (nx : Int) (its : List IT) : Int := its.foldl (fun m i => max m (i.id + 1)) nx
def nextQ (nx : Int) (qs : List QD) : Int := qs.foldl (fun m q => nextF m q.items) nx

theorem find_last {name : ByteArray} {pre : List QD} (hpre : ∀ x ∈ pre, nameB name x = false) (q : QD) (hq : q.name = name) : (pre ++ [q]).findIdx? (nameB name) = some pre.length := by
  rw [List.findIdx?_append, List.findIdx?_eq_none_iff.2 (by simpa using hpre)]
  have : nameB name q = true := by rw [← hq]; exact nameB_self q
  simp [List.findIdx?_cons, this]

theorem puts_fold (name : ByteArray) (limit : Int) (pre : List QD) (hpre : ∀ x ∈ pre, nameB name x = false) : ∀ (its acc : List IT) (nx : Int), (its.map fun i => putE name i.id i.note).foldl applyF ⟨pre ++ [⟨name, limit, acc⟩], nx⟩ = ⟨pre ++ [⟨name, limit, acc ++ its.map plainI⟩], nextF nx its⟩ := by
  intro its
  induction its with
  | nil => intro acc nx; simp [nextF]
  | cons i its ih =>
    intro acc nx
    rw [List.map_cons, List.foldl_cons]
    have hk : pre.length < (pre ++ [(⟨name, limit, acc⟩ : QD)]).length := by simp
    have e : applyF ⟨pre ++ [⟨name, limit, acc⟩], nx⟩ (putE name i.id i.note) = ⟨pre ++ [⟨name, limit, acc ++ [plainI i]⟩], max nx (i.id + 1)⟩ := by
      have hf : (HD.mk (pre ++ [⟨name, limit, acc⟩]) nx).queues.findIdx? (nameB (putE name i.id i.note).queue) = some pre.length := find_last hpre (⟨name, limit, acc⟩ : QD) rfl
      have key := applyF_some (h := HD.mk (pre ++ [QD.mk name limit acc]) nx) (e := putE name i.id i.note) (k := pre.length) hk hf
      rw [key]
      simp [putE, ED.item, plainI]
    rw [e, ih]
    simp [nextF]

theorem short_fold : ∀ (qs pre : List QD) (nx : Int), (pre ++ qs).Pairwise (fun a b => nameB b.name a = false) → (shortF qs).foldl applyF ⟨pre, nx⟩ = ⟨pre ++ qs.map plainQ, nextQ nx qs⟩ := by
  intro qs
  induction qs with
  | nil => intro pre nx _; simp [shortF, nextQ]
  | cons q qs ih =>
    intro pre nx hp
    have hpre : ∀ x ∈ pre, nameB q.name x = false := fun x hx => (List.pairwise_append.1 hp).2.2 x hx q (by simp)
    have hs : shortF (q :: qs) = makeE q :: (putsE q ++ shortF qs) := by simp [shortF]
    rw [hs, List.foldl_cons, List.foldl_append]
    have e1 : applyF ⟨pre, nx⟩ (makeE q) = ⟨pre ++ [⟨q.name, q.limit, []⟩], nx⟩ := by
      rw [applyF_none (h := ⟨pre, nx⟩) (List.findIdx?_eq_none_iff.2 (by simpa [makeE] using hpre))]
      simp [makeE]
    rw [e1]
    unfold putsE
    rw [puts_fold q.name q.limit pre hpre q.items [] nx, ih]
    · simp [nextQ, plainQ]
    · rw [List.append_assoc, List.singleton_append]
      rw [List.pairwise_append] at hp ⊢
      obtain ⟨p1, p2, p3⟩ := hp
      refine ⟨p1, ?_, fun a ha b hb => ?_⟩
      · rw [List.pairwise_cons] at p2 ⊢
        exact ⟨fun b hb => p2.1 b hb, p2.2⟩
      · rcases List.mem_cons.1 hb with rfl | hb
        · exact p3 a ha q (by simp)
        · exact p3 a ha b (by simp [hb])

/-- An entry that has no more than its kind tells. -/
def ED.tidy (e : ED) : Prop := (e.kind = 1 ∧ e.id = 0 ∧ e.note = nN) ∨ (e.kind = 2 ∧ e.n = 0 ∧ e.id = 0 ∧ e.note = nN) ∨ (e.kind = 3 ∧ e.n = 0) ∨ (e.kind = 4 ∧ e.n = 0 ∧ e.note = nN)

theorem bstr_data (s : ByteArray) : bstr s.data.toList = s := by simp [bstr]

theorem head_entry (e : ED) (hr : e.right) (rest : List UInt8) : headF ([UInt8.ofNat e.kind.toNat, UInt8.ofNat e.queue.size] ++ e.queue.data.toList ++ rest) = some (UInt8.ofNat e.kind.toNat, e.queue.data.toList, rest) := by
  have hq : e.queue.size ≤ 100 := hr.2.1
  have hn : (UInt8.ofNat e.queue.size).toNat = e.queue.size := by simp; omega
  have hl : e.queue.data.toList.length = e.queue.size := by rw [Array.length_toList]; rfl
  simp only [List.cons_append, List.nil_append, headF, hn]
  rw [if_neg (by simp [hl])]
  rw [← hl, List.take_left, List.drop_left]

theorem kind_byte {k : Int} (h : 1 ≤ k ∧ k ≤ 4) : ((UInt8.ofNat k.toNat).toNat : Int) = k := by simp; omega

theorem id4_len (n : Int) : (id4 n).length = 4 := rfl
theorem id4_val (n : Int) (h0 : 0 ≤ n) (h1 : n ≤ 1000000) : (NT.valB (id4 n) : Int) = n := by
  simp only [NT.valB, id4, List.foldl_cons, List.foldl_nil]
  simp
  omega

theorem wrongL_nt (ps : List PD) : NT.wrongL (ps.map PD.nt) = wrongL ps := by
  induction ps with
  | nil => rfl
  | cons p ps ih => rw [List.map_cons, NT.wrongL, wrongL, ih]; rfl
theorem wrongN_nt {n : ND} (h : n.wrong = 0) : NT.wrongN (n.props.map PD.nt) n.body.length = 0 := by
  unfold NT.wrongN
  rw [wrongL_nt, List.length_map]
  exact h

theorem notes_back (n : ND) (h : n.wrong = 0) (r : List UInt8) : NT.parseF (n.bytes ++ r) = (0, n.props.map PD.nt, n.body, n.bytes.length) := by
  have hw : NT.wrongN (n.props.map PD.nt) n.body.length = 0 := wrongN_nt h
  exact NT.parse_there _ _ _ hw

theorem read_entry (e : ED) (hr : e.right) (ht : e.tidy) : readOk (entryB e) = true ∧ readE (entryB e) = e := by
  have hh := head_entry e hr (if e.kind = 1 then [UInt8.ofNat e.n.toNat] else if e.kind = 3 then id4 e.id ++ e.note.bytes else if e.kind = 4 then id4 e.id else [])
  have hk := kind_byte hr.1
  have hko : kindOkB e.kind = true := by simp [kindOkB]; exact hr.1
  have hj : jparseF (entryB e) = jparseF ([UInt8.ofNat e.kind.toNat, UInt8.ofNat e.queue.size] ++ e.queue.data.toList ++ (if e.kind = 1 then [UInt8.ofNat e.n.toNat] else if e.kind = 3 then id4 e.id ++ e.note.bytes else if e.kind = 4 then id4 e.id else [])) := rfl
  have hid := hr.2.2.2.1
  have hn := hr.2.2.1
  have hiv := id4_val e.id hid.1 hid.2
  have hil := id4_len e.id
  have hup : ∀ n : ND, (⟨List.map upPD (n.props.map PD.nt), n.body⟩ : ND) = n := fun n => by
    obtain ⟨ps, bs⟩ := n
    simp only [List.map_map]
    congr 1
    conv => rhs; rw [← List.map_id ps]
    rfl
  have key : ∀ rest, jparseF ([UInt8.ofNat e.kind.toNat, UInt8.ofNat e.queue.size] ++ e.queue.data.toList ++ rest) = if (restF e.kind rest).2.2.2.2 then (e.kind, e.queue, (restF e.kind rest).1, (restF e.kind rest).2.1, (restF e.kind rest).2.2.1, (restF e.kind rest).2.2.2.1, 0) else (0, ⟨#[]⟩, 0, 0, [], [], 2) := fun rest => by
    unfold jparseF
    rw [head_entry e hr rest]
    simp only [hk, hko, if_true, bstr_data]
  unfold readOk readE
  rw [hj, key]
  rcases ht with ⟨h1, h2, h3⟩ | ⟨h1, h2, h3, h4⟩ | ⟨h1, h2⟩ | ⟨h1, h2, h3⟩
  · have hR : restF e.kind (if e.kind = 1 then [UInt8.ofNat e.n.toNat] else if e.kind = 3 then id4 e.id ++ e.note.bytes else if e.kind = 4 then id4 e.id else []) = (e.n, 0, [], [], true) := by
      rw [h1]
      simp [restF, oneF]
      omega
    rw [hR]
    obtain ⟨kind, queue, n, id, note⟩ := e
    simp only at h1 h2 h3
    subst h1 h2 h3
    simp [nN]
  · have hR : restF e.kind (if e.kind = 1 then [UInt8.ofNat e.n.toNat] else if e.kind = 3 then id4 e.id ++ e.note.bytes else if e.kind = 4 then id4 e.id else []) = (0, 0, [], [], true) := by
      rw [h1]
      simp [restF]
    rw [hR]
    obtain ⟨kind, queue, n, id, note⟩ := e
    simp only at h1 h2 h3 h4
    subst h1 h2 h3 h4
    simp [nN]
  · have hb := notes_back e.note hr.2.2.2.2 []
    rw [List.append_nil] at hb
    have hR : restF e.kind (if e.kind = 1 then [UInt8.ofNat e.n.toNat] else if e.kind = 3 then id4 e.id ++ e.note.bytes else if e.kind = 4 then id4 e.id else []) = (0, e.id, e.note.props.map PD.nt, e.note.body, true) := by
      rw [h1]
      have hd : (id4 e.id ++ e.note.bytes).drop 4 = e.note.bytes := by rw [← hil, List.drop_left]
      have htk : (id4 e.id ++ e.note.bytes).take 4 = id4 e.id := by rw [← hil, List.take_left]
      have hl : ¬ (id4 e.id ++ e.note.bytes).length < 4 := by rw [List.length_append, hil]; omega
      have h31 : ¬ (3 : Int) = 1 := by omega
      simp only [restF, h31, if_false, if_true, hl, hd, htk, hb, hiv]
      simp [hil]
      omega
    rw [hR]
    obtain ⟨kind, queue, n, id, note⟩ := e
    simp only at h1 h2
    subst h1 h2
    simp only [if_true]
    exact ⟨rfl, by rw [hup]⟩
  · have hR : restF e.kind (if e.kind = 1 then [UInt8.ofNat e.n.toNat] else if e.kind = 3 then id4 e.id ++ e.note.bytes else if e.kind = 4 then id4 e.id else []) = (0, e.id, [], [], true) := by
      rw [h1]
      simp [restF, idF, hil, hiv]
    rw [hR]
    obtain ⟨kind, queue, n, id, note⟩ := e
    simp only at h1 h2 h3
    subst h1 h2 h3
    simp [nN]

/-- Entries that are written are read: what they come to. -/
theorem replay_entries : ∀ (es : List ED) (h : HD), (∀ e ∈ es, e.right ∧ e.tidy) → replayL h (es.map entryB) = es.foldl applyF h := by
  intro es
  induction es with
  | nil => intro h _; rfl
  | cons e es ih =>
    intro h he
    have h1 := read_entry e (he e (by simp)).1 (he e (by simp)).2
    unfold replayL at ih ⊢
    rw [List.map_cons, List.foldl_cons, List.foldl_cons, ih _ (fun x hx => he x (by simp [hx]))]
    unfold stepF
    rw [h1.1, h1.2]
    rfl
end Go.Proofs.Ytkddkpdfeeikhaa
