/-
  RefApG; RefApply; NtRefLeaf; NtRefText: texts laid together.
-/
import Derived.Test.YtkddkpdfeeikhaaRefAp
import Derived.Deep.RegionHeld3
import Derived.Deep.RegionLaw
import Derived.Test.YtkddkpdfeeikhaaRefApM
import Derived.Test.YtkddkpdfeeikhaaRefApP
import Derived.Test.YtkddkpdfeeikhaaJTellsProofM28
import Derived.Deep.QuietTactic
import Derived.BigQuiet
/-
  tgref1.Apply: items go.
-/
namespace Go.Proofs.Ytkddkpdfeeikhaa
open Go.RowKit
set_option linter.unusedVariables false
set_option linter.unusedSimpArgs false

attribute [local go_sem ↓] Go.wp_at_zero Go.wp_at_succ


set_option maxRecDepth 100000 in
set_option maxHeartbeats 6400000 in
theorem refApply_gone (S : Nat → Prop) (v : Value) (h : HD) (kind : Int) (queue : ByteArray) (en id : Int) (nt : ND) (pv bv : Value) (w : World) (hS : ∀ b, S b → b < w.heap.size) (hv : SliceQ S w v h.queues) (hsm : smallQ h.queues) (hnt : NoteIs S w (pv, bv) nt) (k : Nat) (hk : k < h.queues.length) (hix : idxQ queue h.queues = (k : Int)) (hkd : kind = 4) :
    Calls Try.prog 18 #[.agg #[v, .int .i64 h.next], .agg #[.int .i64 kind, .string queue, .int .i64 en, .int .i64 id, pv, bv]] w (ApAns S ⟨h.queues.set k ⟨h.queues[k].name, h.queues[k].limit, h.queues[k].items.filter (fun i => !idB id i)⟩, h.next⟩ w) := by
  have HV : Hid (SliceQ S w v h.queues) := hv
  have HSS : Hid (∀ b, S b → b < w.heap.size) := hS
  have HM : Hid (smallQ h.queues) := hsm
  have HNT : Hid (NoteIs S w (pv, bv) nt) := hnt
  obtain ⟨va, vc, rfl, hv1, hv2, -⟩ := hv.shape
  obtain ⟨pa, pc, rfl, -⟩ := SliceV.shape hnt.1
  obtain ⟨ba, bc, rfl, -⟩ := SliceV.shape hnt.2
  unfold maxLen at hv2
  clear hv hS hnt
  obtain ⟨n, hn⟩ : ∃ n, n = h.queues.length := ⟨_, rfl⟩
  have HN : Hid (n = h.queues.length) := hn
  have hnl : n ≤ 4194304 := by rw [hn]; exact hsm.1
  rw [← hn] at HV hv1
  rw [← hn]
  obtain ⟨pn, hpn⟩ : ∃ pn, pn = nt.props.length := ⟨_, rfl⟩
  obtain ⟨bn, hbn⟩ : ∃ bn, bn = nt.body.length := ⟨_, rfl⟩
  rw [← hpn, ← hbn] at HNT
  have HNT2 : Hid (NoteIs S w (.slice pa pn pc, .slice ba bn bc) nt) := HNT
  rw [← hpn, ← hbn]
  obtain ⟨A, hA⟩ : ∃ A, A = ((w.alloc (.cells #[.slice va n vc, .int .i64 h.next] 24)).alloc (.cells #[.int .i64 kind, .string queue, .int .i64 en, .int .i64 id, .slice pa pn pc, .slice ba bn bc] 30)).alloc (.cells #[.slice none 0 0, .int .i64 0] 24) := ⟨_, rfl⟩
  have hAz : A.heap.size = w.heap.size + 3 := by rw [hA]; simp
  have KA : Hid (∀ W, Below A.heap.size A W → Below w.heap.size w W ∧ Blk W w.heap.size [.slice va n vc, .int .i64 h.next] ∧ Blk W (w.heap.size + 1) [.int .i64 kind, .string queue, .int .i64 en, .int .i64 id, .slice pa pn pc, .slice ba bn bc] ∧ Blk W (w.heap.size + 2) [.slice none 0 0, .int .i64 0] ∧ SliceQ S W (.slice va n vc) h.queues ∧ NoteIs S W (.slice pa pn pc, .slice ba bn bc) nt ∧ w.heap.size + 3 ≤ W.heap.size ∧ ∀ b, S b → b < W.heap.size) := by
    have hAB : Below w.heap.size w A := by rw [hA]; exact ((below_alloc _ _).alloc (by simp) _).alloc (by simp; omega) _
    have hA0 : Blk A w.heap.size [.slice va n vc, .int .i64 h.next] := by rw [hA]; exact ((Blk.new _ _ _).alloc _).alloc _
    have hA1 : Blk A (w.heap.size + 1) [.int .i64 kind, .string queue, .int .i64 en, .int .i64 id, .slice pa pn pc, .slice ba bn bc] := by
      rw [hA]
      have := (Blk.new (w.alloc (.cells #[.slice va n vc, .int .i64 h.next] 24)) [.int .i64 kind, .string queue, .int .i64 en, .int .i64 id, .slice pa pn pc, .slice ba bn bc] 30).alloc (.cells #[.slice none 0 0, .int .i64 0] 24)
      simpa using this
    have hA2 : Blk A (w.heap.size + 2) [.slice none 0 0, .int .i64 0] := by
      rw [hA]
      have := Blk.new ((w.alloc (.cells #[.slice va n vc, .int .i64 h.next] 24)).alloc (.cells #[.int .i64 kind, .string queue, .int .i64 en, .int .i64 id, .slice pa pn pc, .slice ba bn bc] 30)) [.slice none 0 0, .int .i64 0] 24
      simpa using this
    show ∀ W, Below A.heap.size A W → _
    intro W hW
    have hz := hW.size
    have hB : Below w.heap.size w W := hAB.trans (hW.mono (by omega))
    exact ⟨hB, hA0.below hW (by omega), hA1.below hW (by omega), hA2.below hW (by omega), HV.out.sub fun b hb => ⟨hb, hB.block b (HSS.out b hb)⟩, HNT.out.sub fun b hb => ⟨hb, hB.block b (HSS.out b hb)⟩, by omega, fun b hb => by have := HSS.out b hb; omega⟩
  clear hn hpn hbn
  have ny : Hid True := trivial
  obtain ⟨a0, a1, a2, a3⟩ := (KA.out A (Below.refl _ _)).2.1.b2
  obtain ⟨e0, e1, e2, e3, e4, e5, e6, e7⟩ := (KA.out A (Below.refl _ _)).2.2.1.b6
  subst hkd
  have HI : Hid (idxQ queue h.queues = (k : Int)) := hix
  have hkn : k < n := by rw [HN.out]; exact hk
  have hki : (k : Int) < (n : Int) := by omega
  have hk0 : ¬ (k : Int) < 0 := by omega
  obtain ⟨bq, oq, ia, ic, rfl, hSb, hq, y0, y1, y2⟩ := HV.out.at k hk
  obtain ⟨q, hqe⟩ : ∃ q, q = h.queues[k] := ⟨_, rfl⟩
  obtain ⟨m, hm⟩ : ∃ m, m = q.items.length := ⟨_, rfl⟩
  rw [← hqe] at hq y0 y1 y2
  rw [← hm] at hq y2
  have hsmq : smallI q.items := by rw [hqe]; exact HM.out.2 _ (List.getElem_mem hk)
  have HQ : Hid (q = h.queues[k] ∧ m = q.items.length ∧ SliceI S w (.slice ia m ic) q.items ∧ smallI q.items) := ⟨hqe, hm, hq, hsmq⟩
  have hml : m ≤ 4194304 := by rw [hm]; exact hsmq.1
  have hbw : bq < w.heap.size := HSS.out bq hSb
  have HY : Hid (∀ W, Below A.heap.size A W → W.cell? ⟨bq, oq + k * 3, none⟩ = some (.string q.name) ∧ W.cell? ⟨bq, oq + k * 3 + 1, none⟩ = some (.int .i64 q.limit) ∧ W.cell? ⟨bq, oq + k * 3 + 2, none⟩ = some (.slice ia m ic) ∧ SliceI S W (.slice ia m ic) q.items) := by
    show ∀ W, Below A.heap.size A W → _
    intro W hW
    have hB := (KA.out W hW).1
    exact ⟨bel_c hB hbw y0, bel_c hB hbw y1, bel_c hB hbw y2, HQ.out.2.2.1.sub fun b hb => ⟨hb, hB.block b (HSS.out b hb)⟩⟩
  clear y0 y1 y2 hq hqe hm hsmq hSb
  obtain ⟨i0, hi0, iz0, iz1, iz2⟩ := info_parts info34
  have HN0 : Hid (∀ W : World, (∀ b, S b → W.heap[b]? = w.heap[b]?) → SliceI S W (.slice ia m ic) q.items) := by
    show ∀ W : World, _ → _
    intro W hW
    exact HQ.out.2.2.1.sub fun b hb => ⟨hb, hW b hb⟩
  obtain ⟨its, hits⟩ : ∃ its, its = q.items := ⟨_, rfl⟩
  have HIT : Hid (its = q.items ∧ m = its.length ∧ smallI its) := by rw [hits]; exact ⟨rfl, HQ.out.2.1, HQ.out.2.2.2⟩
  rw [← hits] at HN0
  clear hits
  obtain ⟨qs', hqs'⟩ : ∃ qs', qs' = h.queues.set k ⟨h.queues[k].name, h.queues[k].limit, h.queues[k].items.filter (fun i => !idB id i)⟩ := ⟨_, rfl⟩
  have HQS : Hid (qs' = h.queues.set k ⟨q.name, q.limit, its.filter (fun i => !idB id i)⟩ ∧ qs'.length = n) := ⟨by rw [hqs', HIT.out.1, HQ.out.1], by rw [hqs', List.length_set]; exact HN.out.symm⟩
  rw [← hqs']
  clear hqs'
  go_enter Try.func18, Try.ntmps18
  go_upto_region 1 with fail
  rw [← hA]
  clear hA
  go_upto_region 2 with (go_at_call 56; refine (refFind_any queue _ h.next h.queues A ((KA.out A (Below.refl _ _)).2.2.2.2.1.sub fun b hb => ⟨(KA.out A (Below.refl _ _)).2.2.2.2.2.2.2 b hb, rfl⟩)).mono ?_; rw [HI.out]; rintro r w1 ⟨rfl, hb1⟩; have HB1 : Hid (Below A.heap.size A w1) := hb1; obtain ⟨c0, c1, c2, c3⟩ := (KA.out w1 hb1).2.1.b2; obtain ⟨f0, f1, f2, f3, f4, f5, f6, f7⟩ := (KA.out w1 hb1).2.2.1.b6; obtain ⟨r0, r1, r2, r3⟩ := (KA.out w1 hb1).2.2.2.1.b2; have hz1 := (KA.out w1 hb1).2.2.2.2.2.2.1; clear hb1)
  clear a0 a1 a2 a3 e0 e1 e2 e3 e4 e5 e6 e7
  obtain ⟨y0, y1, y2, -⟩ := HY.out w1 HB1.out
  obtain ⟨qb, hqb⟩ : ∃ qb, qb = w1.heap.size := ⟨_, rfl⟩
  obtain ⟨C, hC⟩ : ∃ C, C = w1.alloc (.cells #[.string q.name, .int .i64 q.limit, .slice ia m ic] 76) := ⟨_, rfl⟩
  have hCz : C.heap.size = qb + 1 := by rw [hC, hqb]; simp
  have HC : Hid (Below A.heap.size A C) := by rw [hC]; exact HB1.out.alloc HB1.out.size _
  have HKQ : Hid (∀ W, Below C.heap.size C W → Blk W qb [.string q.name, .int .i64 q.limit, .slice ia m ic]) := by
    show ∀ W, Below C.heap.size C W → _
    intro W hW
    have h0 : Blk C qb [.string q.name, .int .i64 q.limit, .slice ia m ic] := by rw [hC, hqb]; exact Blk.new _ _ _
    exact h0.below hW (by omega)
  have HCB : Hid (∀ b, S b → ∀ W, Below C.heap.size C W → W.heap[b]? = w.heap[b]?) := by
    show ∀ b, S b → ∀ W, Below C.heap.size C W → _
    intro b hb W hW
    exact (KA.out W (HC.out.trans (hW.mono HC.out.size))).1.block b (HSS.out b hb)
  have hzA := HB1.out.size
  have hzqb : w.heap.size + 3 ≤ qb := by omega
  have hCq : qb < C.heap.size := by omega
  have hAqb : A.heap.size ≤ qb := by omega
  have HCZ : Hid (C.heap.size = qb + 1) := hCz
  clear hCz
  have n1 : w.heap.size + 2 ≠ w.heap.size := by omega
  have n2 : w.heap.size ≠ qb := by omega
  have n4 : qb ≠ w.heap.size + 1 := by omega
  have n5 : qb ≠ w.heap.size := by omega
  have n3 : w.heap.size + 1 ≠ qb := by omega
  have HW : Hid (∀ (LI : ItL) (ga : Option Addr) (gc : Nat) (w3 : World), Below C.heap.size C w3 → LI.map Prod.fst = its.filter (fun i => !idB id i) → w3.ownsRow C.heap.size 78 7 (.slice ga LI.length gc) LI.length (cellsI LI) → (∀ x ∈ LI, NoteIs S w x.2 x.1.note) → Calls Try.prog 57 #[.agg #[.slice (some ⟨bq, oq, none⟩) n vc, .int .i64 h.next], .int .i64 k, .agg #[.string q.name, .int .i64 q.limit, .slice ga LI.length gc]] (w3.setCell ⟨qb, 2, none⟩ (.slice ga LI.length gc)) fun r w5 => ∃ xa xc, r = .returned (.agg #[.slice xa n xc, .int .i64 h.next]) ∧ Below A.heap.size A w5 ∧ SliceQ (fun b => S b ∨ (w.heap.size + 3 ≤ b ∧ b < w5.heap.size)) w5 (.slice xa qs'.length xc) qs') := by
    show ∀ (LI : ItL) (ga : Option Addr) (gc : Nat) (w3 : World), _ → _ → _ → _ → _
    intro LI ga gc w3 HB3 hLI HO3 hnts
    have hBA : Below A.heap.size A (w3.setCell ⟨qb, 2, none⟩ (.slice ga LI.length gc)) := (HC.out.trans (HB3.mono HC.out.size)).setCell (show A.heap.size ≤ qb by omega) _
    have hz3 := HB3.size
    have far : ∀ b, b ≠ qb → (w3.setCell ⟨qb, 2, none⟩ (.slice ga LI.length gc)).heap[b]? = w3.heap[b]? := fun b hb => Below.heap_setCell _ _ _ _ hb
    have hk4 := KA.out _ hBA
    have h1 := with_any (.slice (some ⟨bq, oq, none⟩) n vc) h.queues h.next k hk ⟨q.name, q.limit, its.filter (fun i => !idB id i)⟩ (.slice ga LI.length gc) HM.out.1 (w3.setCell ⟨qb, 2, none⟩ (.slice ga LI.length gc)) (fun b => S b ∨ (C.heap.size ≤ b ∧ b < w3.heap.size)) (fun b hb => by
      rcases hb with hb | hb
      · exact hk4.2.2.2.2.2.2.2 b hb
      · simpa using hb.2) (hk4.2.2.2.2.1.sub fun b hb => ⟨.inl hb, rfl⟩) (by
      refine ⟨LI, hLI, ?_, fun x hx => (hnts x hx).sub fun b hb => ⟨.inl hb, hk4.1.block b (HSS.out b hb)⟩⟩
      refine SliceV.sub (own_slice HO3) fun b hb => ?_
      have h1 := HO3.lt b hb
      exact ⟨.inr ⟨by omega, h1.2⟩, far b (by omega)⟩)
    refine h1.mono ?_
    rintro r w5 ⟨v', rfl, hq5, hb5⟩
    rw [← HQS.out.1] at hq5
    obtain ⟨xa, xc, rfl⟩ := hq5.shp
    rw [World.size_setCell] at hq5
    have hb5z := hb5.size
    rw [World.size_setCell] at hb5z
    refine ⟨xa, xc, by rw [HQS.out.2], hBA.trans (hb5.mono hBA.size), hq5.sub fun b hb => ⟨?_, rfl⟩⟩
    rcases hb with (hb | hb) | hb
    · exact .inl hb
    · exact .inr ⟨by omega, by omega⟩
    · exact .inr ⟨by have := hb.1; omega, hb.2⟩
  go_upto_region 17 with fail
  rw [← hC, ← hqb]
  clear hC hqb c0 c1 c2 c3 f0 f1 f2 f3 f4 f5 f6 f7 r0 r1 r2 r3 y0 y1 y2
  obtain ⟨c0, c1, c2, c3, c4⟩ := (HKQ.out C (Below.refl _ _)).b3
  go_wp2_with fail
  go_loopw [7, 86] (fun v i wr => ∃ j : Nat, j ≤ m ∧ i = .int .i64 j ∧ (∃ LI : ItL, LI.map Prod.fst = (its.take j).filter (fun i => !idB id i) ∧ wr.ownsRow C.heap.size 78 7 v LI.length (cellsI LI) ∧ ∀ x ∈ LI, NoteIs S w x.2 x.1.note) ∧ Below C.heap.size C wr) (fun _ i _ => m - (intOf i).toNat)
  case atStart => exact ⟨0, Nat.zero_le _, rfl, ⟨[], by simp, World.ownsRow_nil _ _ _ _, by simp⟩, Below.refl _ _⟩
  case round =>
    obtain ⟨j, hj, rfl, ⟨LI, hLI, hown, hnts⟩, hbel⟩ := hrel
    obtain ⟨ga, gc, rfl, hg1, hg2, -⟩ := own_shape hown
    unfold maxLen at hg2
    have HBW : Hid (Below C.heap.size C wr) := hbel
    have hzr := hbel.size
    obtain ⟨e0, e1, e2, e3, e4, e5, e6, e7⟩ := (KA.out wr (HC.out.trans (hbel.mono HC.out.size))).2.2.1.b6
    have HG : Hid (LI.map Prod.fst = (its.take j).filter (fun i => !idB id i) ∧ wr.ownsRow C.heap.size 78 7 (.slice ga LI.length gc) LI.length (cellsI LI) ∧ ∀ x ∈ LI, NoteIs S w x.2 x.1.note) := ⟨hLI, hown, hnts⟩
    clear hown hnts
    by_cases hlt : j < m
    · have hj2 : j < its.length := by rw [← HIT.out.2.1]; exact hlt
      have hLl : LI.length ≤ j := by
        rw [← List.length_map (f := Prod.fst), hLI]
        have h1 := List.length_filter_le (fun i : IT => !idB id i) (its.take j)
        rw [List.length_take] at h1
        omega
      clear hLI
      obtain ⟨b', off', pa', pc', qa', qc', rfl, hS', hnt, ⟨d0, d1, d2, d3⟩, d4, d5, d6⟩ := (HN0.out wr (fun b hb => HCB.out b hb wr HBW.out)).at j hj2
      obtain ⟨it, hite⟩ : ∃ it, it = its[j] := ⟨_, rfl⟩
      rw [← hite] at hnt d0 d1 d2 d3 d4 d5 d6
      have hbr : b' < wr.heap.size := by have := HSS.out b' hS'; omega
      have HIE : Hid (it = its[j] ∧ NoteIs S w (Value.slice pa' it.note.props.length pc', Value.slice qa' it.note.body.length qc') it.note) := ⟨hite, hnt.sub fun b hb => ⟨hb, (HCB.out b hb wr HBW.out).symm⟩⟩
      clear hnt hite
      have hw1r : w.heap.size + 1 < wr.heap.size := by omega
      by_cases hid' : it.id = id
      · have HST : Hid ((its.take (j + 1)).filter (fun i => !idB id i) = (its.take j).filter (fun i => !idB id i)) := by
          have h1 : (its.take (j + 1)).filter (fun i => !idB id i) = (its.take j).filter (fun i => !idB id i) := by
            rw [List.take_succ_eq_append_getElem hj2, List.filter_append, ← HIE.out.1]
            simp [idB, hid']
          exact h1
        go_wp2_with fail
        go_roundw
        case rel => exact ⟨j + 1, by omega, by go_num, ⟨LI, by rw [HST.out]; exact HG.out.1, own_below HG.out.2.1 (below_alloc _ _), HG.out.2.2⟩, HBW.out.alloc HBW.out.size _⟩
        case measure => simp [intOf]; omega
      · have HST : Hid ((its.take (j + 1)).filter (fun i => !idB id i) = (its.take j).filter (fun i => !idB id i) ++ [it]) := by
          have h1 : (its.take (j + 1)).filter (fun i => !idB id i) = (its.take j).filter (fun i => !idB id i) ++ [it] := by
            rw [List.take_succ_eq_append_getElem hj2, List.filter_append, ← HIE.out.1]
            simp [idB, hid']
          exact h1
        go_wp2_with (at_builtin; refine wpList_appV rfl (.tmp 95) (.tmp 97) 74 rfl 78 i0 _ 7 88 Try.underlying74 hi0 iz0 iz1 iz2 rfl (by omega) C.heap.size (.slice ga LI.length gc) LI.length (cellsI LI) rfl (own_below (own_below HG.out.2.1 (below_alloc _ _)) (below_alloc _ _)) (fun _ => True) (.slice (some ⟨wr.heap.size + 1, 0, none⟩) 1 1) 1 (it.cells (Value.slice pa' it.note.props.length pc', Value.slice qa' it.note.body.length qc')) rfl (SliceV.sub (row_any' (wr.alloc _) (it.cells (Value.slice pa' it.note.props.length pc', Value.slice qa' it.note.body.length qc')) 78 1 (wr.heap.size + 1) (by simp) (by simp [maxLen])) (fun b hb => ⟨trivial, rfl⟩)) rfl (by simp [IT.cells, Value.oneCell']) (by unfold maxLen; omega) (by omega) (by first | omega | (simp <;> omega)) ?_; intro ao2 cap2 w3 ho3 hg3 hm3)
        have HO3 : Hid (w3.ownsRow C.heap.size 78 7 (.slice ao2 (LI.length + 1) cap2) (LI ++ [(it, (Value.slice pa' it.note.props.length pc', Value.slice qa' it.note.body.length qc'))]).length (cellsI (LI ++ [(it, (Value.slice pa' it.note.props.length pc', Value.slice qa' it.note.body.length qc'))])) ∧ Below C.heap.size C w3) := by
          refine ⟨?_, ((HBW.out.alloc HBW.out.size _).alloc (by simp; omega) _).grown hg3 (by simp; omega) (fun b hb => (HG.out.2.1.lt b hb).1)⟩
          rw [cellsI_snoc, List.length_append]
          exact ho3
        clear ho3 hg3 hm3
        go_roundw
        case rel =>
          refine ⟨j + 1, by omega, by go_num, ⟨LI ++ [(it, (Value.slice pa' it.note.props.length pc', Value.slice qa' it.note.body.length qc'))], by rw [HST.out, List.map_append, HG.out.1]; rfl, HO3.out.1, fun x hx => ?_⟩, HO3.out.2⟩
          rw [List.mem_append, List.mem_singleton] at hx
          rcases hx with hx | rfl
          · exact HG.out.2.2 x hx
          · exact HIE.out.2
        case measure => simp [intOf]; omega
    · obtain rfl : j = m := by omega
      have hfin : (its.take j).filter (fun i => !idB id i) = its.filter (fun i => !idB id i) := by rw [List.take_of_length_le (by have := HIT.out.2.1; omega)]
      rw [hfin] at hLI HG
      obtain ⟨s0, s1, s2, s3, s4⟩ := (HKQ.out wr HBW.out).b3
      obtain ⟨t0, t1, t2, t3⟩ := (KA.out wr (HC.out.trans (HBW.out.mono HC.out.size))).2.1.b2
      obtain ⟨lg, hlg⟩ : ∃ lg, lg = LI.length := ⟨_, rfl⟩
      have HW2 := HW.out LI ga gc wr HBW.out hLI HG.out.2.1 HG.out.2.2
      rw [← hlg] at HW2
      rw [← hlg]
      have HW3 : Hid (Calls _ _ _ _ _) := HW2
      clear HW2 hfin hLI hlg
      go_upto_region 26 with (go_at_call 57; refine HW3.out.mono ?_; rintro r w5 ⟨xa, xc, rfl, hb5, hq5⟩; have HA5 : Hid (Below A.heap.size A w5 ∧ SliceQ (fun b => S b ∨ (w.heap.size + 3 ≤ b ∧ b < w5.heap.size)) w5 (.slice xa qs'.length xc) qs') := ⟨hb5, hq5⟩; obtain ⟨c0, c1, c2, c3⟩ := (KA.out w5 hb5).2.1.b2; obtain ⟨r0, r1, r2, r3⟩ := (KA.out w5 hb5).2.2.2.1.b2; clear hb5 hq5)
      have hAP := (AP.store HSS.out (KA.out w5 HA5.out.1).1 (KA.out w5 HA5.out.1).2.1 (KA.out w5 HA5.out.1).2.2.2.1 HA5.out.2 h.next).ans HSS.out
      simp only [HQS.out.2] at hAP
      have HF : Hid (ApAns S ⟨qs', h.next⟩ w (.returned (.agg #[.slice xa n xc, .int .i64 h.next])) _) := hAP
      clear hAP
      go_wp2_with fail
      exact bodyPost_ret (v := .agg #[.slice xa n xc, .int .i64 h.next]) (by simp [results, Try.results18, go_sem, *]; done) rfl HF.out
end Go.Proofs.Ytkddkpdfeeikhaa

/-
  tgref1.Apply does what applyF says.
-/
namespace Go.Proofs.Ytkddkpdfeeikhaa
open Go.RowKit
set_option linter.unusedVariables false
set_option linter.unusedSimpArgs false

attribute [local go_sem ↓] Go.wp_at_zero Go.wp_at_succ


theorem refApply_any (S : Nat → Prop) (v : Value) (h : HD) (e : ED) (pv bv : Value) (w : World) (hS : ∀ b, S b → b < w.heap.size) (hv : SliceQ S w v h.queues) (hsm : smallQ h.queues) (he : e.fits) (hnt : NoteIs S w (pv, bv) e.note) :
    Calls Try.prog 18 #[.agg #[v, .int .i64 h.next], .agg #[.int .i64 e.kind, .string e.queue, .int .i64 e.n, .int .i64 e.id, pv, bv]] w (ApAns S (applyF h e) w) := by
  obtain ⟨kind, queue, en, id, nt⟩ := e
  rcases idxQ_cases queue h.queues with ⟨hd, hno⟩ | ⟨k, hk, hd, hnm, hbf⟩
  · have hf : h.queues.findIdx? (nameB queue) = none := by
      cases hf : h.queues.findIdx? (nameB queue) with
      | none => rfl
      | some k => simp [idxQ, hf] at hd
    have ha := applyF_none (h := h) (e := ⟨kind, queue, en, id, nt⟩) hf
    simp only at ha
    rw [ha]
    by_cases h1 : kind = 1
    · rw [if_pos h1]
      exact refApply_make S v h kind queue en id nt pv bv w hS hv hsm hnt hd h1
    · rw [if_neg h1]
      exact refApply_none S v h kind queue en id nt pv bv w hS hv hsm hnt hd h1
  · have hf : h.queues.findIdx? (nameB queue) = some k := by
      unfold idxQ at hd
      split at hd
      · rename_i j hj
        rw [hj]
        congr 1
        omega
      · omega
    have ha := applyF_some (h := h) (e := ⟨kind, queue, en, id, nt⟩) hk hf
    simp only [ED.item] at ha
    rw [ha]
    by_cases h2 : kind = 2
    · rw [if_pos h2]
      exact refApply_drop S v h kind queue en id nt pv bv w hS hv hsm hnt k hk hd h2
    · rw [if_neg h2]
      by_cases h3 : kind = 3
      · rw [if_pos h3]
        exact refApply_put S v h kind queue en id nt pv bv w hS hv hsm hnt k hk hd h3 he.id
      · rw [if_neg h3]
        by_cases h4 : kind = 4
        · rw [if_pos h4]
          exact refApply_gone S v h kind queue en id nt pv bv w hS hv hsm hnt k hk hd h4
        · rw [if_neg h4]
          by_cases h1 : kind = 1
          · exact refApply_made S v h kind queue en id nt pv bv w hS hv hsm hnt k hk hd h1
          · exact refApply_other S v h kind queue en id nt pv bv w hS hv hsm hnt k hk hd ⟨h1, h2, h3, h4⟩
end Go.Proofs.Ytkddkpdfeeikhaa

/-
  The document's own answer, chapter 1: tgref1.Key, Text and Num answer what keyB, txt and num4 say.
-/
namespace Go.Proofs.Ytkddkpdfeeikhaa.NT
open Go.RowKit
set_option linter.unusedVariables false
set_option linter.unusedSimpArgs false

/-- What '[]byte(s)' lays reads as the string's bytes. -/
theorem bytesRow_slice (s : ByteArray) (w : World) (hs : s.size ≤ maxLen) :
    SliceB (w.heap.size + 1) (w.alloc (.cells (bytesRow s (grownCap w s.size 0 5)) 5 ((bytesRow s (grownCap w s.size 0 5)).size, (bytesRow s (grownCap w s.size 0 5)).size + 1))).drew (.slice (some ⟨w.heap.size, 0, none⟩) s.size (grownCap w s.size 0 5)) s.data.toList := by
  refine ⟨_, _, by rw [size_list], by rw [size_list]; exact grownCap_ge _ _ _ _, grownCap_le_maxLen _ _ _ _ hs, fun h => by simp at h, fun i hi => ⟨w.heap.size, 0, rfl, by omega, ?_⟩⟩
  rw [size_list] at hi
  show (w.alloc _).cell? _ = _
  rw [Nat.zero_add, World.cell?_alloc_mark]
  unfold bytesRow
  have hi' : i < s.data.size := hi
  rw [Array.getElem?_append_left (by simpa using hi')]
  simp
  exact ⟨s.data[i], by simp [hi'], rfl⟩

theorem below_conv (w : World) (o : Obj) : Below w.heap.size w (w.alloc o).drew := ((Below.refl _ _).alloc (Nat.le_refl _) _).drew

theorem empty_of (s : ByteArray) (h : s.size = 0) : s.toList = [] := by
  rw [ByteArray.toList_eq]
  exact List.length_eq_zero_iff.1 (by rw [size_list]; exact h)
theorem isEmpty_of (s : ByteArray) (h : 1 ≤ s.size) : s.toList.isEmpty = false := by
  rw [ByteArray.toList_eq]
  have := size_list s
  cases h' : s.data.toList with
  | nil => rw [h'] at this; simp at this; omega
  | cons a b => rfl

set_option maxHeartbeats 400000 in
theorem refKey_any (s : ByteArray) (w : World) (hs : s.size ≤ maxLen) :
    Calls Try.prog 49 #[.string s] w fun e w' => e = .returned (.bool (keyB s)) ∧ Below w.heap.size w w' := by
  have hcv := fun w => run_bytes_of_string (P := Try.prog) w 9 26 5 s Try.underlying9 Try.underlying26 Try.underlying5
  have HSL := bytesRow_slice s w hs
  unfold maxLen at hs
  by_cases h1 : 1 ≤ s.size
  case neg =>
    have he : s.toList = [] := empty_of s (by omega)
    go_enter Try.func49, Try.ntmps49
    go_wp2
    all_goals (go_ret; exact ⟨ret_bool (by simp [keyB]; omega), Below.refl _ _⟩)
  have he : s.toList.isEmpty = false := isEmpty_of s h1
  by_cases h2 : s.size ≤ 8
  case neg =>
    go_enter Try.func49, Try.ntmps49
    go_wp2
    all_goals (go_ret; exact ⟨ret_bool (by simp [keyB]; omega), Below.refl _ _⟩)
  go_enter Try.func49, Try.ntmps49
  go_wp2
  go_loop [15] (fun i => ∃ k : Nat, k ≤ s.size ∧ i = .int .i64 k ∧ (s.data.toList.take k).all lowB = true) (fun i => s.size - (intOf i).toNat)
  case atStart => exact ⟨0, Nat.zero_le _, rfl, rfl⟩
  case round =>
    obtain ⟨k, hk, rfl, ha⟩ := hrel
    have HA : Hid ((s.data.toList.take k).all lowB = true) := ha
    clear ha
    by_cases hlt : k < s.size
    · obtain ⟨_, _, e, _, _, _, hby⟩ := HSL
      simp only [Value.slice.injEq] at e
      obtain ⟨rfl, -, rfl⟩ := e
      obtain ⟨b, off, e, _, hcell⟩ := hby k (by rw [size_list]; exact hlt)
      simp only [Option.some.injEq, Addr.mk.injEq, and_true] at e
      obtain ⟨rfl, rfl⟩ := e
      have hsk : s.data.toList[k]'(by rw [size_list]; exact hlt) = s[k] := rfl
      rw [hsk, Nat.zero_add] at hcell
      clear hby hsk
      by_cases h3 : (s[k].toNat : Int) < 97
      · go_wp2
        go_ret
        exact ⟨ret_bool (by simp [keyB, all_stop s k hlt (Or.inl h3)]), below_conv _ _⟩
      · by_cases h4 : (122 : Int) < s[k].toNat
        · go_wp2
          go_ret
          exact ⟨ret_bool (by simp [keyB, all_stop s k hlt (Or.inr h4)]), below_conv _ _⟩
        · go_wp2
          go_round
          case rel => exact ⟨k + 1, by omega, by go_num, all_step s k hlt HA.out h3 h4⟩
          case measure => simp [intOf]; omega
    · go_wp2
      go_ret
      have e : k = s.size := by omega
      have HB := HA.out
      rw [e, List.take_of_length_le (by rw [size_list]; exact Nat.le_refl _)] at HB
      exact ⟨ret_bool (by simp [keyB, h1, h2, HB]), below_conv _ _⟩

set_option maxHeartbeats 400000 in
theorem refText_any (s : ByteArray) (w : World) (hs : s.size ≤ 255) :
    Calls Try.prog 52 #[.string s] w fun e w' => ∃ ao cap, e = .returned (.slice ao (txt s).length cap) ∧ w'.ownsRow w.heap.size 5 1 (.slice ao (txt s).length cap) (txt s).length (u8s (txt s)) ∧ Below w.heap.size w w' := by
  have hcv := fun w => run_bytes_of_string (P := Try.prog) w 9 26 5 s Try.underlying9 Try.underlying26 Try.underlying5
  have HB : Hid (((UInt8.ofNat s.size).toNat : Int) = s.size) := byte_of s.size hs
  have hm : s.size ≤ maxLen := by unfold maxLen; omega
  have HL : Hid (s.data.toList.length = s.size) := size_list s
  go_enter Try.func52, Try.ntmps52
  go_wp2_with (at_builtin; refine wpList_app rfl (.tmp 6) (.tmp 8) rfl w.heap.size (.slice (some ⟨w.heap.size, 0, none⟩) 1 1) 1 (u8s [UInt8.ofNat s.size]) rfl ?hown (w.heap.size + 1 + 1) _ s.data.toList rfl ?hsl (by rw [HL.out]; omega) (by simp; omega) ?_; rotate_left 2; intro ao cap w1 hown1 hg1 hm1)
  · go_ret
    have e1 : u8s (txt s) = u8s [UInt8.ofNat s.size] ++ u8s s.data.toList := by simp [u8s, txt]
    have e2 : (txt s).length = 1 + s.data.toList.length := by rw [txt_len, HL.out]; omega
    rw [e1, e2]
    rw [HL.out] at hown1 ⊢
    refine ⟨ao, cap, rfl, hown1, ?_⟩
    refine ((below_alloc _ _).trans ((below_conv _ _).mono (by simp))).trans ⟨hg1.os, hg1.tape, hg1.output, hg1.size, fun k hk => hg1.block k (by simp; omega) (by simp [Value.ownBlock]; omega)⟩
  · exact (((new_own w w.heap.size [UInt8.ofNat s.size] _ (by simp [maxLen]) (by simp [u8s, HB.out] <;> omega) (Nat.le_refl _)).alloc _).drew)
  · have := bytesRow_slice s (w.alloc (.cells #[.int .u8 s.size] 5)) hm
    simp only [World.size_alloc] at this
    exact this

set_option maxHeartbeats 400000 in
theorem refNum_any (n : Int) (w : World) :
    Calls Try.prog 53 #[.int .i64 n] w fun e w' => ∃ ao cap, e = .returned (.slice ao (num4 n).length cap) ∧ w'.ownsRow w.heap.size 5 1 (.slice ao (num4 n).length cap) (num4 n).length (u8s (num4 n)) ∧ Below w.heap.size w w' := by
  go_enter Try.func53, Try.ntmps53
  go_wp2
  go_ret
  refine ⟨some ⟨w.heap.size, 0, none⟩, 4, rfl, ?_, below_alloc _ _⟩
  refine new_own w w.heap.size (num4 n) _ (by simp [num4, maxLen]) ?_ (Nat.le_refl _)
  rw [← num4_cells]
end Go.Proofs.Ytkddkpdfeeikhaa.NT

/-
  tgref1.Get, and the two closures of tgref1.Parse.
-/
namespace Go.Proofs.Ytkddkpdfeeikhaa.NT
open Go.RowKit
set_option linter.unusedVariables false
set_option linter.unusedSimpArgs false

set_option maxHeartbeats 400000 in
theorem refGet_any (v : Value) (bs : List UInt8) (B : Nat) (w : World) (hv : SliceB B w v bs) (h4 : 4 ≤ bs.length) :
    Calls Try.prog 42 #[v] w fun e w' => e = .returned (.int .i64 (int32 (valB (bs.take 4)))) ∧ w' = w := by
  obtain ⟨a, cap, rfl, hc, hm, -, hby⟩ := hv
  unfold maxLen at hm
  go_enter Try.func42, Try.ntmps42
  go_wp2
  go_loop [3, 5] (fun u i => ∃ k : Nat, k ≤ 4 ∧ i = .int .i64 k ∧ u = .int .u32 (valB (bs.take k))) (fun _ i => 4 - (intOf i).toNat)
  case atStart => exact ⟨0, by omega, rfl, rfl⟩
  case round =>
    obtain ⟨k, hk, rfl, rfl⟩ := hrel
    by_cases hlt : k < 4
    · obtain ⟨b, off, rfl, hb, hcell⟩ := hby k (by omega)
      obtain ⟨c, hc'⟩ : ∃ c, c = bs[k] := ⟨_, rfl⟩
      rw [← hc'] at hcell
      obtain ⟨c0, c1⟩ := u8_bounds c
      have HC : Hid (c = bs[k]) := hc'
      clear hc'
      have hvb : (valB (bs.take k) : Int) ≤ 16777215 := valB_lt3 _ (by simp; omega)
      go_wp2
      go_round
      case rel => exact ⟨k + 1, by omega, by go_num, by rw [valB_take bs k (by omega), ← HC.out]; go_num⟩
      case measure => simp [intOf]; omega
    · have e : k = 4 := by omega
      subst e
      have hW : Hid (wrap64 (wrap32 (valB (bs.take 4))) = int32 (valB (bs.take 4))) := wrap_int32 _ (valB_lt4 _ (by simp; omega))
      go_wp2
      go_ret
      exact ⟨ret_i64 hW.out, rfl⟩

set_option maxHeartbeats 400000 in
theorem refNo_any (c : Int) (w : World) :
    Calls Try.prog 74 #[.int .i64 c] w fun e w' => e = .returned (.tuple #[.agg #[.slice none 0 0, .slice none 0 0], .int .i64 0, .int .i64 c]) ∧ Below w.heap.size w w' := by
  go_enter Try.func74, Try.ntmps74
  go_wp2
  exact bodyPost_ret (v := .tuple #[.agg #[.slice none 0 0, .slice none 0 0], .int .i64 0, .int .i64 c]) (by simp [results, Try.results74, go_sem]) rfl ⟨rfl, below_alloc _ _⟩

theorem slice_mid {B : Nat} {w : World} {a : Option Addr} {c : Nat} {b : List UInt8} (h : SliceB B w (.slice a b.length c) b) (i n : Nat) (hi : i + n ≤ b.length) (hc : i < c) : SliceB B w (.slice (a.map (fun x => x.add i)) n (c - i)) ((b.drop i).take n) := by
  obtain ⟨a', c', e, h1, h2, h3, h4⟩ := h
  simp only [Value.slice.injEq] at e
  obtain ⟨rfl, -, rfl⟩ := e
  have h1' := h1
  have hl : ((b.drop i).take n).length = n := by simp; omega
  refine ⟨a.map (fun x => x.add i), c - i, by rw [hl], by rw [hl]; omega, by unfold maxLen at *; omega, fun e => ?_, bytes_take (bytes_drop h4 i) n⟩
  have := h3 (by simpa using e)
  omega

set_option maxHeartbeats 1000000 in
theorem refTxt_no1 (A Bb S p : Nat) (ba : Option Addr) (bc n : Nat) (x : Value) (w : World) (hA : w.cell? ⟨A, 0, none⟩ = some (.int .i64 p)) (hB : w.cell? ⟨Bb, 0, none⟩ = some (.slice ba n bc)) (hS : w.cell? ⟨S, 0, none⟩ = some x) (fS : w.frozen? ⟨S, 0, none⟩ = false) (hp : n ≤ p) :
    Calls Try.prog 75 #[.pointer (some ⟨A, 0, none⟩), .pointer (some ⟨Bb, 0, none⟩), .pointer (some ⟨S, 0, none⟩)] w fun e w' => e = .returned (.string ⟨#[]⟩) ∧ ∃ k, w' = (w.setCell ⟨S, 0, none⟩ (.bool true)).drewN k := by
  have hp' : (n : Int) ≤ (p : Int) := by omega
  go_enter Try.func75, Try.ntmps75
  go_wp2_with fail
  go_quiet (fail)
  go_wp2
  go_ret
  exact ⟨rfl, nq, rfl⟩

set_option maxHeartbeats 1000000 in
theorem refTxt_no2 (A Bb S p : Nat) (ba : Option Addr) (bc : Nat) (bs : List UInt8) (x : Value) (w : World) (hA : w.cell? ⟨A, 0, none⟩ = some (.int .i64 p)) (hB : w.cell? ⟨Bb, 0, none⟩ = some (.slice ba bs.length bc)) (hS : w.cell? ⟨S, 0, none⟩ = some x) (fS : w.frozen? ⟨S, 0, none⟩ = false) (B0 : Nat) (hb : SliceB B0 w (.slice ba bs.length bc) bs) (hp : p < bs.length) (hbl : bs.length ≤ 140737488351232) (hm : bs.length < p + 1 + (bs[p]).toNat) :
    Calls Try.prog 75 #[.pointer (some ⟨A, 0, none⟩), .pointer (some ⟨Bb, 0, none⟩), .pointer (some ⟨S, 0, none⟩)] w fun e w' => e = .returned (.string ⟨#[]⟩) ∧ ∃ k, w' = (w.setCell ⟨S, 0, none⟩ (.bool true)).drewN k := by
  obtain ⟨_, _, e, hc, hmx, hn, hby⟩ := hb
  simp only [Value.slice.injEq] at e
  obtain ⟨rfl, -, rfl⟩ := e
  obtain ⟨b, off, rfl, _, hcell⟩ := hby p hp
  obtain ⟨c, hcc⟩ : ∃ c, c = bs[p] := ⟨_, rfl⟩
  rw [← hcc] at hcell hm
  obtain ⟨c0, c1⟩ := u8_bounds c
  clear hn hcc
  unfold maxLen at hmx
  have hp1 : (p : Int) < (bs.length : Int) := by omega
  have hd : decide ((bs.length : Int) ≤ (p : Int)) = false := by simp; omega
  have w1 : IntKind.i64.wrap ((p : Int) + 1) = (p : Int) + 1 := by rw [IntKind.wrap_i64]; omega
  have w2 : IntKind.i64.wrap (c.toNat : Int) = (c.toNat : Int) := by rw [IntKind.wrap_i64]; omega
  have w3 : IntKind.i64.wrap ((p : Int) + 1 + (c.toNat : Int)) = (p : Int) + 1 + (c.toNat : Int) := by rw [IntKind.wrap_i64]; omega
  go_enter Try.func75, Try.ntmps75
  go_wp2_with fail
  go_quiet (fail)
  go_wp2
  go_ret
  exact ⟨rfl, nq, rfl⟩

set_option maxHeartbeats 2000000 in
theorem refTxt_yes (A Bb S p : Nat) (ba : Option Addr) (bc : Nat) (bs : List UInt8) (w : World) (hA : w.cell? ⟨A, 0, none⟩ = some (.int .i64 p)) (fA : w.frozen? ⟨A, 0, none⟩ = false) (hB : w.cell? ⟨Bb, 0, none⟩ = some (.slice ba bs.length bc)) (hAB : A ≠ Bb) (B0 : Nat) (hA0 : B0 ≤ A) (hb : SliceB B0 w (.slice ba bs.length bc) bs) (hp : p < bs.length) (hbl : bs.length ≤ 140737488351232) (hm : p + 1 + (bs[p]).toNat ≤ bs.length) :
    Calls Try.prog 75 #[.pointer (some ⟨A, 0, none⟩), .pointer (some ⟨Bb, 0, none⟩), .pointer (some ⟨S, 0, none⟩)] w fun e w' => e = .returned (.string (bstr ((bs.drop (p + 1)).take (bs[p]).toNat))) ∧ ∃ k, w' = (w.setCell ⟨A, 0, none⟩ (.int .i64 (p + 1 + (bs[p]).toNat : Nat))).drewN k := by
  have hb' := hb
  obtain ⟨_, _, e, hc, hmx, hn, hby⟩ := hb'
  simp only [Value.slice.injEq] at e
  obtain ⟨rfl, -, rfl⟩ := e
  obtain ⟨b, off, rfl, hlt0, hcell⟩ := hby p hp
  obtain ⟨c, hcc⟩ : ∃ c, c = bs[p] := ⟨_, rfl⟩
  rw [← hcc] at hcell hm ⊢
  obtain ⟨c0, c1⟩ := u8_bounds c
  clear hn hcc hby
  unfold maxLen at hmx
  have hp1 : (p : Int) < (bs.length : Int) := by omega
  have hd : decide ((bs.length : Int) ≤ (p : Int)) = false := by simp; omega
  have w1 : IntKind.i64.wrap ((p : Int) + 1) = (p : Int) + 1 := by rw [IntKind.wrap_i64]; omega
  have w2 : IntKind.i64.wrap (c.toNat : Int) = (c.toNat : Int) := by rw [IntKind.wrap_i64]; omega
  have w3 : IntKind.i64.wrap ((p : Int) + 1 + (c.toNat : Int)) = (p : Int) + 1 + (c.toNat : Int) := by rw [IntKind.wrap_i64]; omega
  have hbA : ¬ b = A := by omega
  have e1 : ((p + 1 + c.toNat : Nat) : Int) = (p : Int) + 1 + (c.toNat : Int) := by omega
  have HC : Hid (∀ k, SliceB B0 ((w.drewN k).setCell ⟨A, 0, none⟩ (.int .i64 ((p : Int) + 1 + (c.toNat : Int)))) (.slice (some ⟨b, off, none⟩) bs.length bc) bs) := fun k => hb.same (fun j hj => Below.heap_setCell (w.drewN k) _ _ _ (by simp; omega))
  rw [e1]
  by_cases hbc : bc = p + 1
  · subst hbc
    have hc0 : c.toNat = 0 := by omega
    have hcv : ∀ k, (convert 26 9 (.slice (some ⟨b, off, none⟩) c.toNat 0)).run Try.prog ((w.drewN k).setCell ⟨A, 0, none⟩ (.int .i64 ((p : Int) + 1 + (c.toNat : Int)))) = .ok (.string (bstr ((bs.drop (p + 1)).take c.toNat))) ((w.drewN k).setCell ⟨A, 0, none⟩ (.int .i64 ((p : Int) + 1 + (c.toNat : Int)))) := fun k => by
      refine conv_str (B := B0) ⟨some ⟨b, off, none⟩, 0, ?_, ?_, by simp [maxLen], fun _ => rfl, fun i hi => ?_⟩
      · simp [hc0]
      · simp [hc0]
      · simp [hc0] at hi
    clear hc0
    go_enter Try.func75, Try.ntmps75
    go_wp2_with fail
    go_quiet (fail)
    go_wp2
    go_ret
    exact ⟨rfl, nq, rfl⟩
  · have hcv : ∀ k, (convert 26 9 (.slice (some ⟨b, off + (p + 1), none⟩) c.toNat (bc - (p + 1)))).run Try.prog ((w.drewN k).setCell ⟨A, 0, none⟩ (.int .i64 ((p : Int) + 1 + (c.toNat : Int)))) = .ok (.string (bstr ((bs.drop (p + 1)).take c.toNat))) ((w.drewN k).setCell ⟨A, 0, none⟩ (.int .i64 ((p : Int) + 1 + (c.toNat : Int)))) := fun k => by
      have := conv_str (slice_mid (HC.out k) (p + 1) c.toNat (by omega) (by omega))
      simpa [add_none] using this
    go_enter Try.func75, Try.ntmps75
    go_wp2_with fail
    go_quiet (fail)
    go_wp2
    go_ret
    exact ⟨rfl, nq, rfl⟩
end Go.Proofs.Ytkddkpdfeeikhaa.NT
