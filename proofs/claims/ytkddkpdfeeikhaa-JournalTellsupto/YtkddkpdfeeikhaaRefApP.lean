/-
  tgref1.Apply: an item is put.
-/
import Derived.Test.YtkddkpdfeeikhaaRefAp
import Derived.Deep.RegionHeld3
import Derived.Deep.RegionLaw
namespace Go.Proofs.Ytkddkpdfeeikhaa
open Go.RowKit
set_option linter.unusedVariables false
set_option linter.unusedSimpArgs false

attribute [local go_sem ↓] Go.wp_at_zero Go.wp_at_succ


set_option maxRecDepth 100000 in
set_option maxHeartbeats 6400000 in
theorem refApply_put (S : Nat → Prop) (v : Value) (h : HD) (kind : Int) (queue : ByteArray) (en id : Int) (nt : ND) (pv bv : Value) (w : World) (hS : ∀ b, S b → b < w.heap.size) (hv : SliceQ S w v h.queues) (hsm : smallQ h.queues) (hnt : NoteIs S w (pv, bv) nt) (k : Nat) (hk : k < h.queues.length) (hix : idxQ queue h.queues = (k : Int)) (hkd : kind = 3) (hid : 0 ≤ id ∧ id ≤ 4294967296) :
    Calls Try.prog 18 #[.agg #[v, .int .i64 h.next], .agg #[.int .i64 kind, .string queue, .int .i64 en, .int .i64 id, pv, bv]] w (ApAns S ⟨h.queues.set k ⟨h.queues[k].name, h.queues[k].limit, h.queues[k].items ++ [newI id nt]⟩, max h.next (id + 1)⟩ w) := by
  have HV : Hid (SliceQ S w v h.queues) := hv
  have HSS : Hid (∀ b, S b → b < w.heap.size) := hS
  have HM : Hid (smallQ h.queues) := hsm
  have HNT : Hid (NoteIs S w (pv, bv) nt) := hnt
  obtain ⟨va, vc, rfl, hv1, hv2, -⟩ := hv.shape
  obtain ⟨pa, pc, rfl, -⟩ := SliceV.shape hnt.1
  obtain ⟨ba, bc, rfl, -⟩ := SliceV.shape hnt.2
  unfold maxLen at hv2
  clear hv hS hnt
  obtain ⟨n, hn⟩ : ∃ n, n = h.queues.length := ⟨_, rfl⟩
  have HN : Hid (n = h.queues.length) := hn
  have hnl : n ≤ 4194304 := by rw [hn]; exact hsm.1
  rw [← hn] at HV hv1
  rw [← hn]
  obtain ⟨pn, hpn⟩ : ∃ pn, pn = nt.props.length := ⟨_, rfl⟩
  obtain ⟨bn, hbn⟩ : ∃ bn, bn = nt.body.length := ⟨_, rfl⟩
  rw [← hpn, ← hbn] at HNT
  have HNT2 : Hid (NoteIs S w (.slice pa pn pc, .slice ba bn bc) nt) := HNT
  rw [← hpn, ← hbn]
  obtain ⟨A, hA⟩ : ∃ A, A = ((w.alloc (.cells #[.slice va n vc, .int .i64 h.next] 24)).alloc (.cells #[.int .i64 kind, .string queue, .int .i64 en, .int .i64 id, .slice pa pn pc, .slice ba bn bc] 30)).alloc (.cells #[.slice none 0 0, .int .i64 0] 24) := ⟨_, rfl⟩
  have hAz : A.heap.size = w.heap.size + 3 := by rw [hA]; simp
  have KA : Hid (∀ W, Below A.heap.size A W → Below w.heap.size w W ∧ Blk W w.heap.size [.slice va n vc, .int .i64 h.next] ∧ Blk W (w.heap.size + 1) [.int .i64 kind, .string queue, .int .i64 en, .int .i64 id, .slice pa pn pc, .slice ba bn bc] ∧ Blk W (w.heap.size + 2) [.slice none 0 0, .int .i64 0] ∧ SliceQ S W (.slice va n vc) h.queues ∧ NoteIs S W (.slice pa pn pc, .slice ba bn bc) nt ∧ w.heap.size + 3 ≤ W.heap.size ∧ ∀ b, S b → b < W.heap.size) := by
    have hAB : Below w.heap.size w A := by rw [hA]; exact ((below_alloc _ _).alloc (by simp) _).alloc (by simp; omega) _
    have hA0 : Blk A w.heap.size [.slice va n vc, .int .i64 h.next] := by rw [hA]; exact ((Blk.new _ _ _).alloc _).alloc _
    have hA1 : Blk A (w.heap.size + 1) [.int .i64 kind, .string queue, .int .i64 en, .int .i64 id, .slice pa pn pc, .slice ba bn bc] := by
      rw [hA]
      have := (Blk.new (w.alloc (.cells #[.slice va n vc, .int .i64 h.next] 24)) [.int .i64 kind, .string queue, .int .i64 en, .int .i64 id, .slice pa pn pc, .slice ba bn bc] 30).alloc (.cells #[.slice none 0 0, .int .i64 0] 24)
      simpa using this
    have hA2 : Blk A (w.heap.size + 2) [.slice none 0 0, .int .i64 0] := by
      rw [hA]
      have := Blk.new ((w.alloc (.cells #[.slice va n vc, .int .i64 h.next] 24)).alloc (.cells #[.int .i64 kind, .string queue, .int .i64 en, .int .i64 id, .slice pa pn pc, .slice ba bn bc] 30)) [.slice none 0 0, .int .i64 0] 24
      simpa using this
    show ∀ W, Below A.heap.size A W → _
    intro W hW
    have hz := hW.size
    have hB : Below w.heap.size w W := hAB.trans (hW.mono (by omega))
    exact ⟨hB, hA0.below hW (by omega), hA1.below hW (by omega), hA2.below hW (by omega), HV.out.sub fun b hb => ⟨hb, hB.block b (HSS.out b hb)⟩, HNT.out.sub fun b hb => ⟨hb, hB.block b (HSS.out b hb)⟩, by omega, fun b hb => by have := HSS.out b hb; omega⟩
  clear hn hpn hbn
  have ny : Hid True := trivial
  obtain ⟨a0, a1, a2, a3⟩ := (KA.out A (Below.refl _ _)).2.1.b2
  obtain ⟨e0, e1, e2, e3, e4, e5, e6, e7⟩ := (KA.out A (Below.refl _ _)).2.2.1.b6
  subst hkd
  have HI : Hid (idxQ queue h.queues = (k : Int)) := hix
  have hkn : k < n := by rw [HN.out]; exact hk
  have hki : (k : Int) < (n : Int) := by omega
  have hk0 : ¬ (k : Int) < 0 := by omega
  obtain ⟨bq, oq, ia, ic, rfl, hSb, hq, y0, y1, y2⟩ := HV.out.at k hk
  obtain ⟨q, hqe⟩ : ∃ q, q = h.queues[k] := ⟨_, rfl⟩
  obtain ⟨m, hm⟩ : ∃ m, m = q.items.length := ⟨_, rfl⟩
  rw [← hqe] at hq y0 y1 y2
  rw [← hm] at hq y2
  have hsmq : smallI q.items := by rw [hqe]; exact HM.out.2 _ (List.getElem_mem hk)
  have HQ : Hid (q = h.queues[k] ∧ m = q.items.length ∧ SliceI S w (.slice ia m ic) q.items ∧ smallI q.items) := ⟨hqe, hm, hq, hsmq⟩
  have hml : m ≤ 4194304 := by rw [hm]; exact hsmq.1
  have hbw : bq < w.heap.size := HSS.out bq hSb
  have HY : Hid (∀ W, Below A.heap.size A W → W.cell? ⟨bq, oq + k * 3, none⟩ = some (.string q.name) ∧ W.cell? ⟨bq, oq + k * 3 + 1, none⟩ = some (.int .i64 q.limit) ∧ W.cell? ⟨bq, oq + k * 3 + 2, none⟩ = some (.slice ia m ic) ∧ SliceI S W (.slice ia m ic) q.items) := by
    show ∀ W, Below A.heap.size A W → _
    intro W hW
    have hB := (KA.out W hW).1
    exact ⟨bel_c hB hbw y0, bel_c hB hbw y1, bel_c hB hbw y2, HQ.out.2.2.1.sub fun b hb => ⟨hb, hB.block b (HSS.out b hb)⟩⟩
  clear y0 y1 y2 hq hqe hm hsmq hSb
  obtain ⟨i0, hi0, iz0, iz1, iz2⟩ := info_parts info34
  obtain ⟨L, hLe, hL, hLN⟩ := HQ.out.2.2.1
  have hLl : L.length = m := by rw [HQ.out.2.1, ← hLe]; simp
  have HL : Hid (SliceV S w (.slice ia m ic) m (cellsI L)) := by rw [← hLl] at hL ⊢; exact hL
  have HLN : Hid (L.map Prod.fst = q.items ∧ (∀ x ∈ L, NoteIs S w x.2 x.1.note) ∧ L.length = m) := ⟨hLe, hLN, hLl⟩
  have HO : Hid (∀ u ∈ cellsI L, u.oneCell' = true) := cellsI_one L hLN
  have HCL : Hid ((cellsI L).length = m * 7) := by rw [← hLl]; exact cellsI_len L
  clear hLe hL hLN hLl
  obtain ⟨qs', hqs'⟩ : ∃ qs', qs' = h.queues.set k ⟨h.queues[k].name, h.queues[k].limit, h.queues[k].items ++ [newI id nt]⟩ := ⟨_, rfl⟩
  obtain ⟨nx', hnx'⟩ : ∃ nx', nx' = max h.next (id + 1) := ⟨_, rfl⟩
  have HQS : Hid (qs' = h.queues.set k ⟨q.name, q.limit, q.items ++ [newI id nt]⟩ ∧ qs'.length = n) := ⟨by rw [hqs', HQ.out.1], by rw [hqs', List.length_set]; exact HN.out.symm⟩
  have HNX : Hid (nx' = max h.next (id + 1)) := hnx'
  rw [← hqs', ← hnx']
  clear hqs' hnx'
  go_enter Try.func18, Try.ntmps18
  go_upto_region 1 with fail
  rw [← hA]
  clear hA
  go_upto_region 2 with (go_at_call 56; refine (refFind_any queue _ h.next h.queues A ((KA.out A (Below.refl _ _)).2.2.2.2.1.sub fun b hb => ⟨(KA.out A (Below.refl _ _)).2.2.2.2.2.2.2 b hb, rfl⟩)).mono ?_; rw [HI.out]; rintro r w1 ⟨rfl, hb1⟩; have HB1 : Hid (Below A.heap.size A w1) := hb1; obtain ⟨c0, c1, c2, c3⟩ := (KA.out w1 hb1).2.1.b2; obtain ⟨f0, f1, f2, f3, f4, f5, f6, f7⟩ := (KA.out w1 hb1).2.2.1.b6; obtain ⟨r0, r1, r2, r3⟩ := (KA.out w1 hb1).2.2.2.1.b2; have hz1 := (KA.out w1 hb1).2.2.2.2.2.2.1; clear hb1)
  clear a0 a1 a2 a3 e0 e1 e2 e3 e4 e5 e6 e7
  obtain ⟨y0, y1, y2, -⟩ := HY.out w1 HB1.out
  obtain ⟨qb, hqb⟩ : ∃ qb, qb = w1.heap.size := ⟨_, rfl⟩
  obtain ⟨C, hC⟩ : ∃ C, C = w1.alloc (.cells #[.string q.name, .int .i64 q.limit, .slice ia m ic] 76) := ⟨_, rfl⟩
  have hCz : C.heap.size = qb + 1 := by rw [hC, hqb]; simp
  have HC : Hid (Below A.heap.size A C) := by rw [hC]; exact HB1.out.alloc HB1.out.size _
  have HKQ : Hid (∀ W, Below C.heap.size C W → Blk W qb [.string q.name, .int .i64 q.limit, .slice ia m ic]) := by
    show ∀ W, Below C.heap.size C W → _
    intro W hW
    have h0 : Blk C qb [.string q.name, .int .i64 q.limit, .slice ia m ic] := by rw [hC, hqb]; exact Blk.new _ _ _
    exact h0.below hW (by omega)
  have HCB : Hid (∀ b, S b → ∀ W, Below C.heap.size C W → W.heap[b]? = w.heap[b]?) := by
    show ∀ b, S b → ∀ W, Below C.heap.size C W → _
    intro b hb W hW
    exact (KA.out W (HC.out.trans (hW.mono HC.out.size))).1.block b (HSS.out b hb)
  have hzA := HB1.out.size
  have hzqb : w.heap.size + 3 ≤ qb := by omega
  have hCq : qb < C.heap.size := by omega
  have hAqb : A.heap.size ≤ qb := by omega
  have HCZ : Hid (C.heap.size = qb + 1) := hCz
  clear hCz
  have n1 : w.heap.size + 2 ≠ w.heap.size := by omega
  have n2 : w.heap.size ≠ qb := by omega
  have n4 : qb ≠ w.heap.size + 1 := by omega
  have n5 : qb ≠ w.heap.size := by omega
  have n3 : w.heap.size + 1 ≠ qb := by omega
  have HW : Hid (∀ (ao2 : Option Addr) (cap2 : Nat) (w3 : World), Below C.heap.size C w3 → w3.ownsRow C.heap.size 78 7 (.slice ao2 (m + 1) cap2) (m + 1) (cellsI L ++ (newI id nt).cells (.slice pa pn pc, .slice ba bn bc)) → Calls Try.prog 57 #[.agg #[.slice (some ⟨bq, oq, none⟩) n vc, .int .i64 h.next], .int .i64 k, .agg #[.string q.name, .int .i64 q.limit, .slice ao2 (m + 1) cap2]] (w3.setCell ⟨qb, 2, none⟩ (.slice ao2 (m + 1) cap2)) fun r w5 => ∃ xa xc, r = .returned (.agg #[.slice xa n xc, .int .i64 h.next]) ∧ Below A.heap.size A w5 ∧ SliceQ (fun b => S b ∨ (w.heap.size + 3 ≤ b ∧ b < w5.heap.size)) w5 (.slice xa qs'.length xc) qs') := by
    show ∀ (ao2 : Option Addr) (cap2 : Nat) (w3 : World), _ → _ → _
    intro ao2 cap2 w3 HB3 HO3
    have hBA : Below A.heap.size A (w3.setCell ⟨qb, 2, none⟩ (.slice ao2 (m + 1) cap2)) := (HC.out.trans (HB3.mono HC.out.size)).setCell (show A.heap.size ≤ qb by omega) _
    have hz3 := HB3.size
    have far : ∀ b, b ≠ qb → (w3.setCell ⟨qb, 2, none⟩ (.slice ao2 (m + 1) cap2)).heap[b]? = w3.heap[b]? := fun b hb => Below.heap_setCell _ _ _ _ hb
    have hk4 := KA.out _ hBA
    have h1 := with_any (.slice (some ⟨bq, oq, none⟩) n vc) h.queues h.next k hk ⟨q.name, q.limit, q.items ++ [newI id nt]⟩ (.slice ao2 (m + 1) cap2) HM.out.1 (w3.setCell ⟨qb, 2, none⟩ (.slice ao2 (m + 1) cap2)) (fun b => S b ∨ (C.heap.size ≤ b ∧ b < w3.heap.size)) (fun b hb => by
      rcases hb with hb | hb
      · exact hk4.2.2.2.2.2.2.2 b hb
      · simpa using hb.2) (hk4.2.2.2.2.1.sub fun b hb => ⟨.inl hb, rfl⟩) (by
      have h3 : w3.ownsRow C.heap.size 78 7 (.slice ao2 (m + 1) cap2) (m + 1) (cellsI (L ++ [(newI id nt, (.slice pa pn pc, .slice ba bn bc))])) := by
        rw [cellsI_snoc]; exact HO3
      refine ⟨L ++ [(newI id nt, (.slice pa pn pc, .slice ba bn bc))], by rw [List.map_append, HLN.out.1]; rfl, ?_, fun x hx => ?_⟩
      · rw [List.length_append, HLN.out.2.2]
        refine SliceV.sub (own_slice h3) fun b hb => ?_
        have h1 := h3.lt b hb
        exact ⟨.inr ⟨by omega, h1.2⟩, far b (by omega)⟩
      · rw [List.mem_append, List.mem_singleton] at hx
        rcases hx with hx | rfl
        · exact (HLN.out.2.1 x hx).sub fun b hb => ⟨.inl hb, hk4.1.block b (HSS.out b hb)⟩
        · exact HNT2.out.sub fun b hb => ⟨.inl hb, hk4.1.block b (HSS.out b hb)⟩)
    refine h1.mono ?_
    rintro r w5 ⟨v', rfl, hq5, hb5⟩
    rw [← HQS.out.1] at hq5
    obtain ⟨xa, xc, rfl⟩ := hq5.shp
    rw [World.size_setCell] at hq5
    have hb5z := hb5.size
    rw [World.size_setCell] at hb5z
    refine ⟨xa, xc, by rw [HQS.out.2], hBA.trans (hb5.mono hBA.size), hq5.sub fun b hb => ⟨?_, rfl⟩⟩
    rcases hb with (hb | hb) | hb
    · exact .inl hb
    · exact .inr ⟨by omega, by omega⟩
    · exact .inr ⟨by have := hb.1; omega, hb.2⟩
  go_upto_region 12 with fail
  rw [← hC, ← hqb]
  have HB1q : Hid (qb = w1.heap.size) := hqb
  clear hC hqb c0 c1 c2 c3 f0 f1 f2 f3 f4 f5 f6 f7 r0 r1 r2 r3 y0 y1 y2
  obtain ⟨c0, c1, c2, c3, c4⟩ := (HKQ.out C (Below.refl _ _)).b3
  obtain ⟨f0, f1, f2, f3, f4, f5, f6, f7⟩ := (KA.out C HC.out).2.2.1.b6
  clear c0 c1 f0 f1 f2
  go_cut [] (fun wx => ∃ (ao2 : Option Addr) (cap2 : Nat) (w3 : World), Below C.heap.size C w3 ∧ w3.ownsRow C.heap.size 78 7 (.slice ao2 (m + 1) cap2) (m + 1) (cellsI L ++ (newI id nt).cells (.slice pa pn pc, .slice ba bn bc)) ∧ wx = w3.setCell ⟨qb, 2, none⟩ (.slice ao2 (m + 1) cap2))
  case first =>
    have HOW1 : Hid (∀ W : World, W.heap = (C.alloc (.cells #[] 78)).heap → W.ownsRow C.heap.size 78 7 (.slice (some ⟨C.heap.size, 0, none⟩) 0 0) 0 []) := by
      show ∀ W : World, _ → _
      intro W hW
      exact own_same (empty_own C C.heap.size _ rfl (Nat.le_refl _)) fun b _ => by rw [hW]
    have HOW2 : Hid (∀ W : World, W.heap = ((C.alloc (.cells #[] 78)).alloc (.cells #[.int .i64 id, .int .i64 0, .int .i64 0, .bool false, .int .i64 0, .slice pa pn pc, .slice ba bn bc] 78)).heap → W.ownsRow C.heap.size 78 7 (.slice (some ⟨C.heap.size, 0, none⟩) 0 0) 0 []) := by
      show ∀ W : World, _ → _
      intro W hW
      exact own_same (own_below (empty_own C C.heap.size _ rfl (Nat.le_refl _)) (below_alloc _ (.cells #[.int .i64 id, .int .i64 0, .int .i64 0, .bool false, .int .i64 0, .slice pa pn pc, .slice ba bn bc] 78))) fun b _ => by rw [hW]
    have HOW3 : Hid (∀ W : World, W.heap = ((C.alloc (.cells #[.int .i64 id, .int .i64 0, .int .i64 0, .bool false, .int .i64 0, .slice pa pn pc, .slice ba bn bc] 78)).alloc (.cells #[] 78)).heap → W.ownsRow C.heap.size 78 7 (.slice (some ⟨C.heap.size + 1, 0, none⟩) 0 0) 0 []) := by
      show ∀ W : World, _ → _
      intro W hW
      exact own_same (empty_own (C.alloc (.cells #[.int .i64 id, .int .i64 0, .int .i64 0, .bool false, .int .i64 0, .slice pa pn pc, .slice ba bn bc] 78)) C.heap.size (C.heap.size + 1) (by simp) (by omega)) fun b _ => by rw [hW]
    have HSL1 : Hid (∀ W : World, W.heap = (C.alloc (.cells #[] 78)).heap → SliceV S W (.slice ia m ic) m (cellsI L)) := by
      show ∀ W : World, _ → _
      intro W hW
      exact SliceV.sub HL.out fun b hb => ⟨hb, by rw [hW]; exact HCB.out b hb _ (below_alloc _ _)⟩
    have HSL2 : Hid (∀ W : World, W.heap = ((C.alloc (.cells #[] 78)).alloc (.cells #[.int .i64 id, .int .i64 0, .int .i64 0, .bool false, .int .i64 0, .slice pa pn pc, .slice ba bn bc] 78)).heap → SliceV S W (.slice ia m ic) m (cellsI L)) := by
      show ∀ W : World, _ → _
      intro W hW
      exact SliceV.sub HL.out fun b hb => ⟨hb, by rw [hW]; exact HCB.out b hb _ ((below_alloc _ _).alloc (by simp) _)⟩
    have HSL3 : Hid (∀ W : World, W.heap = ((C.alloc (.cells #[.int .i64 id, .int .i64 0, .int .i64 0, .bool false, .int .i64 0, .slice pa pn pc, .slice ba bn bc] 78)).alloc (.cells #[] 78)).heap → SliceV S W (.slice ia m ic) m (cellsI L)) := by
      show ∀ W : World, _ → _
      intro W hW
      exact SliceV.sub HL.out fun b hb => ⟨hb, by rw [hW]; exact HCB.out b hb _ ((below_alloc _ _).alloc (by simp) _)⟩
    refine wp_region_noPanic ?_
    refine wp_region_held_drew (S := (fun w' => w'.cell? ⟨w.heap.size + 1, 3, none⟩ = some (.int .i64 id) ∧ w'.cell? ⟨w.heap.size + 1, 4, none⟩ = some (.slice pa pn pc) ∧ w'.cell? ⟨w.heap.size + 1, 5, none⟩ = some (.slice ba bn bc))) (by kernel_rfl) ?_ (fun hHeld => ?_)
    · (try dsimp only); go_keep
    refine wpAnyH_take (i := 1) (oi := _) (v := ?_) rfl (by kernel_rfl) (by kernel_rfl) (by kernel_rfl) (fun _ _ _ h => h) (Or.inl ⟨by rfl, ?_⟩) (by assumption) ?_
    rotate_left
    · (intro w' hSw; (try dsimp only at hSw); go_simp <;> (try with_reducible rfl))
    try simp only [Act.put, List.setIfInBounds_toArray, List.set_cons_zero, List.set_cons_succ, List.getElem_toArray, List.getElem_cons_zero, List.getElem_cons_succ]
    refine wpAnyH_take (i := 4) (oi := _) (v := ?_) rfl (by kernel_rfl) (by kernel_rfl) (by kernel_rfl) (fun _ _ _ h => h) (Or.inl ⟨by rfl, ?_⟩) (by assumption) ?_
    rotate_left
    · (intro w' hSw; (try dsimp only at hSw); go_simp <;> (try with_reducible rfl))
    try simp only [Act.put, List.setIfInBounds_toArray, List.set_cons_zero, List.set_cons_succ, List.getElem_toArray, List.getElem_cons_zero, List.getElem_cons_succ]
    refine wpAnyH_take (i := 5) (oi := _) (v := ?_) rfl (by kernel_rfl) (by kernel_rfl) (by kernel_rfl) (fun _ _ _ h => h) (Or.inl ⟨by rfl, ?_⟩) (by assumption) ?_
    rotate_left
    · (intro w' hSw; (try dsimp only at hSw); go_simp <;> (try with_reducible rfl))
    try simp only [Act.put, List.setIfInBounds_toArray, List.set_cons_zero, List.set_cons_succ, List.getElem_toArray, List.getElem_cons_zero, List.getElem_cons_succ]
    refine wpAnyH_take (i := 6) (oi := _) (v := ?_) rfl (by kernel_rfl) (by kernel_rfl) (by kernel_rfl) (fun _ _ _ h => h) (Or.inl ⟨by rfl, ?_⟩) (by assumption) ?_
    rotate_left
    · (intro w' hSw; (try dsimp only at hSw); go_simp <;> (try with_reducible rfl))
    try simp only [Act.put, List.setIfInBounds_toArray, List.set_cons_zero, List.set_cons_succ, List.getElem_toArray, List.getElem_cons_zero, List.getElem_cons_succ]
    refine wpAnyH_take (i := 7) (oi := _) (v := ?_) rfl (by kernel_rfl) (by kernel_rfl) (by kernel_rfl) (fun _ _ _ h => h) (Or.inl ⟨by rfl, ?_⟩) (by assumption) ?_
    rotate_left
    · (intro w' hSw; (try dsimp only at hSw); go_simp <;> (try with_reducible rfl))
    try simp only [Act.put, List.setIfInBounds_toArray, List.set_cons_zero, List.set_cons_succ, List.getElem_toArray, List.getElem_cons_zero, List.getElem_cons_succ]
    refine wpAnyH_take (i := 8) (oi := _) (v := ?_) rfl (by kernel_rfl) (by kernel_rfl) (by kernel_rfl) (fun _ _ _ h => h) (Or.inl ⟨by rfl, ?_⟩) (by assumption) ?_
    rotate_left
    · (intro w' hSw; (try dsimp only at hSw); go_simp <;> (try with_reducible rfl))
    try simp only [Act.put, List.setIfInBounds_toArray, List.set_cons_zero, List.set_cons_succ, List.getElem_toArray, List.getElem_cons_zero, List.getElem_cons_succ]
    refine wpAnyH_ready (rs := [0, 2, 9]) (by kernel_rfl) (by simp) ?_
    refine (AllReadyH.cons (o := _) rfl (fun K hK => ?_) (AllReadyH.cons (o := _) rfl (fun K hK => ?_) (AllReadyH.cons (o := _) rfl (fun K hK => ?_) AllReadyH.nil)))
    · go_simp
      refine hK.out _ _ ?_ (fun hHeld => ?_)
      · (try dsimp only); go_keep
      clear hK K
      try simp only [Act.put, List.setIfInBounds_toArray, List.set_cons_zero, List.set_cons_succ, List.getElem_toArray, List.getElem_cons_zero, List.getElem_cons_succ]
      refine wpAnyH_ready (rs := [2, 9]) (by kernel_rfl) (by simp) ?_
      refine (AllReadyH.cons (o := _) rfl (fun K hK => ?_) (AllReadyH.cons (o := _) rfl (fun K hK => ?_) AllReadyH.nil))
      · go_simp
        refine hK.out _ _ ?_ (fun hHeld => ?_)
        · (try dsimp only); go_keep
        clear hK K
        try simp only [Act.put, List.setIfInBounds_toArray, List.set_cons_zero, List.set_cons_succ, List.getElem_toArray, List.getElem_cons_zero, List.getElem_cons_succ]
        refine wpAnyH_ready (rs := [3, 9]) (by kernel_rfl) (by simp) ?_
        refine (AllReadyH.cons (o := _) rfl (fun K hK => ?_) (AllReadyH.cons (o := _) rfl (fun K hK => ?_) AllReadyH.nil))
        · (refine step_appV (by rfl) (.tmp 56) (.tmp 58) 74 (by rfl) 78 i0 _ 7 88 Try.underlying74 hi0 iz0 iz1 iz2 rfl (by omega) C.heap.size (.slice (some ⟨C.heap.size, 0, none⟩) 0 0) 0 [] (by rfl) (HOW1.out _ rfl) S (.slice ia m ic) m (cellsI L) (by rfl) (HSL1.out _ rfl) HCL.out HO.out (by unfold maxLen; omega) (by omega) (by first | omega | (simp <;> omega)) ?_; intro ao cap w2 ho2 hg2 hm2; have HB2 : Hid (Below C.heap.size C w2) := ⟨hg2.os, hg2.tape, hg2.output, (by have := hg2.size; simp at this; omega), fun b hb => (hg2.block b (by simp; omega) (fun e => by simp only [Value.ownBlock, Option.some.injEq] at e; omega)).trans (Below.heap_alloc _ _ _ hb)⟩; have HO2 : Hid (w2.ownsRow C.heap.size 78 7 (.slice ao m cap) m (cellsI L)) := (by have h := ho2; rw [Nat.zero_add, List.nil_append] at h; exact h); have hz2' := HB2.out.size; obtain ⟨p0, p1, p2, p3, p4⟩ := (HKQ.out w2 HB2.out).b3; obtain ⟨p5, p6, p7, p8, p9, p10, p11, p12⟩ := (KA.out w2 (HC.out.trans (HB2.out.mono HC.out.size))).2.2.1.b6; obtain ⟨p13, p14, p15, p16⟩ := (KA.out w2 (HC.out.trans (HB2.out.mono HC.out.size))).2.1.b2; clear ho2 hg2 hm2; simp only [Nat.zero_add])
          refine hK.out _ _ ?_ (fun hHeld => ?_)
          · (try dsimp only); go_keep
          clear hK K
          try simp only [Act.put, List.setIfInBounds_toArray, List.set_cons_zero, List.set_cons_succ, List.getElem_toArray, List.getElem_cons_zero, List.getElem_cons_succ]
          refine wpAnyH_ready (rs := [9]) (by kernel_rfl) (by simp) ?_
          refine (AllReadyH.cons (o := _) rfl (fun K hK => ?_) AllReadyH.nil)
          go_simp
          refine hK.out _ _ ?_ (fun hHeld => ?_)
          · (try dsimp only); go_keep
          clear hK K
          try simp only [Act.put, List.setIfInBounds_toArray, List.set_cons_zero, List.set_cons_succ, List.getElem_toArray, List.getElem_cons_zero, List.getElem_cons_succ]
          refine wpAnyH_ready (rs := [10]) (by kernel_rfl) (by simp) ?_
          refine (AllReadyH.cons (o := _) rfl (fun K hK => ?_) AllReadyH.nil)
          (refine step_appV (by rfl) (.tmp 59) (.tmp 65) 74 (by rfl) 78 i0 _ 7 88 Try.underlying74 hi0 iz0 iz1 iz2 rfl (by omega) C.heap.size (.slice ao m cap) m (cellsI L) (by rfl) (own_below HO2.out (below_alloc _ _)) (fun _ => True) (.slice (some ⟨w2.heap.size, 0, none⟩) 1 1) 1 ((newI id nt).cells (.slice pa pn pc, .slice ba bn bc)) (by rfl) ((SliceV.sub (row_any' w2 ((newI id nt).cells (.slice pa pn pc, .slice ba bn bc)) 78 1 w2.heap.size rfl (by simp [maxLen])) (fun b hb => ⟨trivial, rfl⟩))) rfl (by simp [IT.cells, QD.cells, newI, Value.oneCell']) (by unfold maxLen; omega) (by omega) (by first | omega | (simp <;> omega)) ?_; intro ao2 cap2 w3 ho3 hg3 hm3; have HB3 : Hid (Below C.heap.size C w3) := ⟨hg3.os.trans HB2.out.os, hg3.tape.trans HB2.out.tape, hg3.output.trans HB2.out.output, (by have := hg3.size; first | omega | (simp at this; omega)), fun b hb => (hg3.block b (by first | omega | (simp <;> omega)) (fun e => by have := (HO2.out.lt b e.symm).1; omega)).trans ((Below.heap_alloc _ _ _ (by omega)).trans (HB2.out.block b hb))⟩; have HO3 : Hid (w3.ownsRow C.heap.size 78 7 (.slice ao2 (m + 1) cap2) (m + 1) (cellsI L ++ (newI id nt).cells (.slice pa pn pc, .slice ba bn bc))) := ho3; have hz3' := HB3.out.size; obtain ⟨s0, s1, s2, s3, s4⟩ := (HKQ.out w3 HB3.out).b3; obtain ⟨s5, s6, s7, s8, s9, s10, s11, s12⟩ := (KA.out w3 (HC.out.trans (HB3.out.mono HC.out.size))).2.2.1.b6; obtain ⟨s13, s14, s15, s16⟩ := (KA.out w3 (HC.out.trans (HB3.out.mono HC.out.size))).2.1.b2; clear ho3 hg3 hm3)
          refine hK.out _ _ ?_ (fun hHeld => ?_)
          · (try dsimp only); go_keep
          clear hK K
          try simp only [Act.put, List.setIfInBounds_toArray, List.set_cons_zero, List.set_cons_succ, List.getElem_toArray, List.getElem_cons_zero, List.getElem_cons_succ]
          refine wpAnyH_take (i := 11) (oi := _) (v := ?_) rfl (by kernel_rfl) (by kernel_rfl) (by kernel_rfl) (fun _ _ _ h => h) (Or.inl ⟨by rfl, ?_⟩) (by assumption) ?_
          rotate_left
          · (intro w' hSw; (try dsimp only at hSw); go_simp <;> (try with_reducible rfl))
          try simp only [Act.put, List.setIfInBounds_toArray, List.set_cons_zero, List.set_cons_succ, List.getElem_toArray, List.getElem_cons_zero, List.getElem_cons_succ]
          refine wpAnyH_ready (rs := [12]) (by kernel_rfl) (by simp) ?_
          refine AllReadyH.cons (o := _) rfl (fun K hK => ?_) AllReadyH.nil
          go_simp
          refine hK.out _ _ ?_ (fun hHeld => ?_)
          · (try dsimp only); go_keep
          clear hK K
          try simp only [Act.put, List.setIfInBounds_toArray, List.set_cons_zero, List.set_cons_succ, List.getElem_toArray, List.getElem_cons_zero, List.getElem_cons_succ]
          refine wpAnyH_done (by kernel_rfl) ?_ _
          refine NoPanic.normal ?_
          go_wp2_with fail
          go_meet
          exact ⟨ao2, cap2, w3, HB3.out, HO3.out, rfl⟩

        · go_simp
          refine hK.out _ _ ?_ (fun hHeld => ?_)
          · (try dsimp only); go_keep
          clear hK K
          try simp only [Act.put, List.setIfInBounds_toArray, List.set_cons_zero, List.set_cons_succ, List.getElem_toArray, List.getElem_cons_zero, List.getElem_cons_succ]
          refine wpAnyH_ready (rs := [3]) (by kernel_rfl) (by simp) ?_
          refine (AllReadyH.cons (o := _) rfl (fun K hK => ?_) AllReadyH.nil)
          (refine step_appV (by rfl) (.tmp 56) (.tmp 58) 74 (by rfl) 78 i0 _ 7 88 Try.underlying74 hi0 iz0 iz1 iz2 rfl (by omega) C.heap.size (.slice (some ⟨C.heap.size, 0, none⟩) 0 0) 0 [] (by rfl) (HOW2.out _ rfl) S (.slice ia m ic) m (cellsI L) (by rfl) (HSL2.out _ rfl) HCL.out HO.out (by unfold maxLen; omega) (by omega) (by first | omega | (simp <;> omega)) ?_; intro ao cap w2 ho2 hg2 hm2; have HB2 : Hid (Below C.heap.size C w2) := ⟨hg2.os, hg2.tape, hg2.output, (by have := hg2.size; simp at this; omega), fun b hb => (hg2.block b (by simp; omega) (fun e => by simp only [Value.ownBlock, Option.some.injEq] at e; omega)).trans ((Below.heap_alloc _ _ _ (by simp; omega)).trans (Below.heap_alloc _ _ _ hb))⟩; have HO2 : Hid (w2.ownsRow C.heap.size 78 7 (.slice ao m cap) m (cellsI L)) := (by have h := ho2; rw [Nat.zero_add, List.nil_append] at h; exact h); have HI2 : Hid (SliceV (fun _ => True) w2 (.slice (some ⟨C.heap.size + 1, 0, none⟩) 1 1) 1 ((newI id nt).cells (.slice pa pn pc, .slice ba bn bc))) := SliceV.sub (row_any' (C.alloc (.cells #[] 78)) ((newI id nt).cells (.slice pa pn pc, .slice ba bn bc)) 78 1 (C.heap.size + 1) (by simp) (by simp [maxLen])) (fun b hb => ⟨trivial, hg2.block b (by subst hb; simp) (fun e => by simp only [Value.ownBlock, Option.some.injEq] at e; omega)⟩); have hz2' := HB2.out.size; obtain ⟨p0, p1, p2, p3, p4⟩ := (HKQ.out w2 HB2.out).b3; obtain ⟨p5, p6, p7, p8, p9, p10, p11, p12⟩ := (KA.out w2 (HC.out.trans (HB2.out.mono HC.out.size))).2.2.1.b6; obtain ⟨p13, p14, p15, p16⟩ := (KA.out w2 (HC.out.trans (HB2.out.mono HC.out.size))).2.1.b2; clear ho2 hg2 hm2; simp only [Nat.zero_add])
          refine hK.out _ _ ?_ (fun hHeld => ?_)
          · (try dsimp only); go_keep
          clear hK K
          try simp only [Act.put, List.setIfInBounds_toArray, List.set_cons_zero, List.set_cons_succ, List.getElem_toArray, List.getElem_cons_zero, List.getElem_cons_succ]
          refine wpAnyH_ready (rs := [10]) (by kernel_rfl) (by simp) ?_
          refine (AllReadyH.cons (o := _) rfl (fun K hK => ?_) AllReadyH.nil)
          (refine step_appV (by rfl) (.tmp 59) (.tmp 65) 74 (by rfl) 78 i0 _ 7 88 Try.underlying74 hi0 iz0 iz1 iz2 rfl (by omega) C.heap.size (.slice ao m cap) m (cellsI L) (by rfl) (HO2.out) (fun _ => True) (.slice (some ⟨C.heap.size + 1, 0, none⟩) 1 1) 1 ((newI id nt).cells (.slice pa pn pc, .slice ba bn bc)) (by rfl) (HI2.out) rfl (by simp [IT.cells, QD.cells, newI, Value.oneCell']) (by unfold maxLen; omega) (by omega) (by first | omega | (simp <;> omega)) ?_; intro ao2 cap2 w3 ho3 hg3 hm3; have HB3 : Hid (Below C.heap.size C w3) := ⟨hg3.os.trans HB2.out.os, hg3.tape.trans HB2.out.tape, hg3.output.trans HB2.out.output, (by have := hg3.size; first | omega | (simp at this; omega)), fun b hb => (hg3.block b (by first | omega | (simp <;> omega)) (fun e => by have := (HO2.out.lt b e.symm).1; omega)).trans (HB2.out.block b hb)⟩; have HO3 : Hid (w3.ownsRow C.heap.size 78 7 (.slice ao2 (m + 1) cap2) (m + 1) (cellsI L ++ (newI id nt).cells (.slice pa pn pc, .slice ba bn bc))) := ho3; have hz3' := HB3.out.size; obtain ⟨s0, s1, s2, s3, s4⟩ := (HKQ.out w3 HB3.out).b3; obtain ⟨s5, s6, s7, s8, s9, s10, s11, s12⟩ := (KA.out w3 (HC.out.trans (HB3.out.mono HC.out.size))).2.2.1.b6; obtain ⟨s13, s14, s15, s16⟩ := (KA.out w3 (HC.out.trans (HB3.out.mono HC.out.size))).2.1.b2; clear ho3 hg3 hm3)
          refine hK.out _ _ ?_ (fun hHeld => ?_)
          · (try dsimp only); go_keep
          clear hK K
          try simp only [Act.put, List.setIfInBounds_toArray, List.set_cons_zero, List.set_cons_succ, List.getElem_toArray, List.getElem_cons_zero, List.getElem_cons_succ]
          refine wpAnyH_take (i := 11) (oi := _) (v := ?_) rfl (by kernel_rfl) (by kernel_rfl) (by kernel_rfl) (fun _ _ _ h => h) (Or.inl ⟨by rfl, ?_⟩) (by assumption) ?_
          rotate_left
          · (intro w' hSw; (try dsimp only at hSw); go_simp <;> (try with_reducible rfl))
          try simp only [Act.put, List.setIfInBounds_toArray, List.set_cons_zero, List.set_cons_succ, List.getElem_toArray, List.getElem_cons_zero, List.getElem_cons_succ]
          refine wpAnyH_ready (rs := [12]) (by kernel_rfl) (by simp) ?_
          refine AllReadyH.cons (o := _) rfl (fun K hK => ?_) AllReadyH.nil
          go_simp
          refine hK.out _ _ ?_ (fun hHeld => ?_)
          · (try dsimp only); go_keep
          clear hK K
          try simp only [Act.put, List.setIfInBounds_toArray, List.set_cons_zero, List.set_cons_succ, List.getElem_toArray, List.getElem_cons_zero, List.getElem_cons_succ]
          refine wpAnyH_done (by kernel_rfl) ?_ _
          refine NoPanic.normal ?_
          go_wp2_with fail
          go_meet
          exact ⟨ao2, cap2, w3, HB3.out, HO3.out, rfl⟩


      · go_simp
        refine hK.out _ _ ?_ (fun hHeld => ?_)
        · (try dsimp only); go_keep
        clear hK K
        try simp only [Act.put, List.setIfInBounds_toArray, List.set_cons_zero, List.set_cons_succ, List.getElem_toArray, List.getElem_cons_zero, List.getElem_cons_succ]
        refine wpAnyH_ready (rs := [2]) (by kernel_rfl) (by simp) ?_
        refine (AllReadyH.cons (o := _) rfl (fun K hK => ?_) AllReadyH.nil)
        go_simp
        refine hK.out _ _ ?_ (fun hHeld => ?_)
        · (try dsimp only); go_keep
        clear hK K
        try simp only [Act.put, List.setIfInBounds_toArray, List.set_cons_zero, List.set_cons_succ, List.getElem_toArray, List.getElem_cons_zero, List.getElem_cons_succ]
        refine wpAnyH_ready (rs := [3]) (by kernel_rfl) (by simp) ?_
        refine (AllReadyH.cons (o := _) rfl (fun K hK => ?_) AllReadyH.nil)
        (refine step_appV (by rfl) (.tmp 56) (.tmp 58) 74 (by rfl) 78 i0 _ 7 88 Try.underlying74 hi0 iz0 iz1 iz2 rfl (by omega) C.heap.size (.slice (some ⟨C.heap.size, 0, none⟩) 0 0) 0 [] (by rfl) (HOW2.out _ rfl) S (.slice ia m ic) m (cellsI L) (by rfl) (HSL2.out _ rfl) HCL.out HO.out (by unfold maxLen; omega) (by omega) (by first | omega | (simp <;> omega)) ?_; intro ao cap w2 ho2 hg2 hm2; have HB2 : Hid (Below C.heap.size C w2) := ⟨hg2.os, hg2.tape, hg2.output, (by have := hg2.size; simp at this; omega), fun b hb => (hg2.block b (by simp; omega) (fun e => by simp only [Value.ownBlock, Option.some.injEq] at e; omega)).trans ((Below.heap_alloc _ _ _ (by simp; omega)).trans (Below.heap_alloc _ _ _ hb))⟩; have HO2 : Hid (w2.ownsRow C.heap.size 78 7 (.slice ao m cap) m (cellsI L)) := (by have h := ho2; rw [Nat.zero_add, List.nil_append] at h; exact h); have HI2 : Hid (SliceV (fun _ => True) w2 (.slice (some ⟨C.heap.size + 1, 0, none⟩) 1 1) 1 ((newI id nt).cells (.slice pa pn pc, .slice ba bn bc))) := SliceV.sub (row_any' (C.alloc (.cells #[] 78)) ((newI id nt).cells (.slice pa pn pc, .slice ba bn bc)) 78 1 (C.heap.size + 1) (by simp) (by simp [maxLen])) (fun b hb => ⟨trivial, hg2.block b (by subst hb; simp) (fun e => by simp only [Value.ownBlock, Option.some.injEq] at e; omega)⟩); have hz2' := HB2.out.size; obtain ⟨p0, p1, p2, p3, p4⟩ := (HKQ.out w2 HB2.out).b3; obtain ⟨p5, p6, p7, p8, p9, p10, p11, p12⟩ := (KA.out w2 (HC.out.trans (HB2.out.mono HC.out.size))).2.2.1.b6; obtain ⟨p13, p14, p15, p16⟩ := (KA.out w2 (HC.out.trans (HB2.out.mono HC.out.size))).2.1.b2; clear ho2 hg2 hm2; simp only [Nat.zero_add])
        refine hK.out _ _ ?_ (fun hHeld => ?_)
        · (try dsimp only); go_keep
        clear hK K
        try simp only [Act.put, List.setIfInBounds_toArray, List.set_cons_zero, List.set_cons_succ, List.getElem_toArray, List.getElem_cons_zero, List.getElem_cons_succ]
        refine wpAnyH_ready (rs := [10]) (by kernel_rfl) (by simp) ?_
        refine (AllReadyH.cons (o := _) rfl (fun K hK => ?_) AllReadyH.nil)
        (refine step_appV (by rfl) (.tmp 59) (.tmp 65) 74 (by rfl) 78 i0 _ 7 88 Try.underlying74 hi0 iz0 iz1 iz2 rfl (by omega) C.heap.size (.slice ao m cap) m (cellsI L) (by rfl) (HO2.out) (fun _ => True) (.slice (some ⟨C.heap.size + 1, 0, none⟩) 1 1) 1 ((newI id nt).cells (.slice pa pn pc, .slice ba bn bc)) (by rfl) (HI2.out) rfl (by simp [IT.cells, QD.cells, newI, Value.oneCell']) (by unfold maxLen; omega) (by omega) (by first | omega | (simp <;> omega)) ?_; intro ao2 cap2 w3 ho3 hg3 hm3; have HB3 : Hid (Below C.heap.size C w3) := ⟨hg3.os.trans HB2.out.os, hg3.tape.trans HB2.out.tape, hg3.output.trans HB2.out.output, (by have := hg3.size; first | omega | (simp at this; omega)), fun b hb => (hg3.block b (by first | omega | (simp <;> omega)) (fun e => by have := (HO2.out.lt b e.symm).1; omega)).trans (HB2.out.block b hb)⟩; have HO3 : Hid (w3.ownsRow C.heap.size 78 7 (.slice ao2 (m + 1) cap2) (m + 1) (cellsI L ++ (newI id nt).cells (.slice pa pn pc, .slice ba bn bc))) := ho3; have hz3' := HB3.out.size; obtain ⟨s0, s1, s2, s3, s4⟩ := (HKQ.out w3 HB3.out).b3; obtain ⟨s5, s6, s7, s8, s9, s10, s11, s12⟩ := (KA.out w3 (HC.out.trans (HB3.out.mono HC.out.size))).2.2.1.b6; obtain ⟨s13, s14, s15, s16⟩ := (KA.out w3 (HC.out.trans (HB3.out.mono HC.out.size))).2.1.b2; clear ho3 hg3 hm3)
        refine hK.out _ _ ?_ (fun hHeld => ?_)
        · (try dsimp only); go_keep
        clear hK K
        try simp only [Act.put, List.setIfInBounds_toArray, List.set_cons_zero, List.set_cons_succ, List.getElem_toArray, List.getElem_cons_zero, List.getElem_cons_succ]
        refine wpAnyH_take (i := 11) (oi := _) (v := ?_) rfl (by kernel_rfl) (by kernel_rfl) (by kernel_rfl) (fun _ _ _ h => h) (Or.inl ⟨by rfl, ?_⟩) (by assumption) ?_
        rotate_left
        · (intro w' hSw; (try dsimp only at hSw); go_simp <;> (try with_reducible rfl))
        try simp only [Act.put, List.setIfInBounds_toArray, List.set_cons_zero, List.set_cons_succ, List.getElem_toArray, List.getElem_cons_zero, List.getElem_cons_succ]
        refine wpAnyH_ready (rs := [12]) (by kernel_rfl) (by simp) ?_
        refine AllReadyH.cons (o := _) rfl (fun K hK => ?_) AllReadyH.nil
        go_simp
        refine hK.out _ _ ?_ (fun hHeld => ?_)
        · (try dsimp only); go_keep
        clear hK K
        try simp only [Act.put, List.setIfInBounds_toArray, List.set_cons_zero, List.set_cons_succ, List.getElem_toArray, List.getElem_cons_zero, List.getElem_cons_succ]
        refine wpAnyH_done (by kernel_rfl) ?_ _
        refine NoPanic.normal ?_
        go_wp2_with fail
        go_meet
        exact ⟨ao2, cap2, w3, HB3.out, HO3.out, rfl⟩


    · go_simp
      refine hK.out _ _ ?_ (fun hHeld => ?_)
      · (try dsimp only); go_keep
      clear hK K
      try simp only [Act.put, List.setIfInBounds_toArray, List.set_cons_zero, List.set_cons_succ, List.getElem_toArray, List.getElem_cons_zero, List.getElem_cons_succ]
      refine wpAnyH_ready (rs := [0, 9]) (by kernel_rfl) (by simp) ?_
      refine (AllReadyH.cons (o := _) rfl (fun K hK => ?_) (AllReadyH.cons (o := _) rfl (fun K hK => ?_) AllReadyH.nil))
      · go_simp
        refine hK.out _ _ ?_ (fun hHeld => ?_)
        · (try dsimp only); go_keep
        clear hK K
        try simp only [Act.put, List.setIfInBounds_toArray, List.set_cons_zero, List.set_cons_succ, List.getElem_toArray, List.getElem_cons_zero, List.getElem_cons_succ]
        refine wpAnyH_ready (rs := [3, 9]) (by kernel_rfl) (by simp) ?_
        refine (AllReadyH.cons (o := _) rfl (fun K hK => ?_) (AllReadyH.cons (o := _) rfl (fun K hK => ?_) AllReadyH.nil))
        · (refine step_appV (by rfl) (.tmp 56) (.tmp 58) 74 (by rfl) 78 i0 _ 7 88 Try.underlying74 hi0 iz0 iz1 iz2 rfl (by omega) C.heap.size (.slice (some ⟨C.heap.size, 0, none⟩) 0 0) 0 [] (by rfl) (HOW1.out _ rfl) S (.slice ia m ic) m (cellsI L) (by rfl) (HSL1.out _ rfl) HCL.out HO.out (by unfold maxLen; omega) (by omega) (by first | omega | (simp <;> omega)) ?_; intro ao cap w2 ho2 hg2 hm2; have HB2 : Hid (Below C.heap.size C w2) := ⟨hg2.os, hg2.tape, hg2.output, (by have := hg2.size; simp at this; omega), fun b hb => (hg2.block b (by simp; omega) (fun e => by simp only [Value.ownBlock, Option.some.injEq] at e; omega)).trans (Below.heap_alloc _ _ _ hb)⟩; have HO2 : Hid (w2.ownsRow C.heap.size 78 7 (.slice ao m cap) m (cellsI L)) := (by have h := ho2; rw [Nat.zero_add, List.nil_append] at h; exact h); have hz2' := HB2.out.size; obtain ⟨p0, p1, p2, p3, p4⟩ := (HKQ.out w2 HB2.out).b3; obtain ⟨p5, p6, p7, p8, p9, p10, p11, p12⟩ := (KA.out w2 (HC.out.trans (HB2.out.mono HC.out.size))).2.2.1.b6; obtain ⟨p13, p14, p15, p16⟩ := (KA.out w2 (HC.out.trans (HB2.out.mono HC.out.size))).2.1.b2; clear ho2 hg2 hm2; simp only [Nat.zero_add])
          refine hK.out _ _ ?_ (fun hHeld => ?_)
          · (try dsimp only); go_keep
          clear hK K
          try simp only [Act.put, List.setIfInBounds_toArray, List.set_cons_zero, List.set_cons_succ, List.getElem_toArray, List.getElem_cons_zero, List.getElem_cons_succ]
          refine wpAnyH_ready (rs := [9]) (by kernel_rfl) (by simp) ?_
          refine (AllReadyH.cons (o := _) rfl (fun K hK => ?_) AllReadyH.nil)
          go_simp
          refine hK.out _ _ ?_ (fun hHeld => ?_)
          · (try dsimp only); go_keep
          clear hK K
          try simp only [Act.put, List.setIfInBounds_toArray, List.set_cons_zero, List.set_cons_succ, List.getElem_toArray, List.getElem_cons_zero, List.getElem_cons_succ]
          refine wpAnyH_ready (rs := [10]) (by kernel_rfl) (by simp) ?_
          refine (AllReadyH.cons (o := _) rfl (fun K hK => ?_) AllReadyH.nil)
          (refine step_appV (by rfl) (.tmp 59) (.tmp 65) 74 (by rfl) 78 i0 _ 7 88 Try.underlying74 hi0 iz0 iz1 iz2 rfl (by omega) C.heap.size (.slice ao m cap) m (cellsI L) (by rfl) (own_below HO2.out (below_alloc _ _)) (fun _ => True) (.slice (some ⟨w2.heap.size, 0, none⟩) 1 1) 1 ((newI id nt).cells (.slice pa pn pc, .slice ba bn bc)) (by rfl) ((SliceV.sub (row_any' w2 ((newI id nt).cells (.slice pa pn pc, .slice ba bn bc)) 78 1 w2.heap.size rfl (by simp [maxLen])) (fun b hb => ⟨trivial, rfl⟩))) rfl (by simp [IT.cells, QD.cells, newI, Value.oneCell']) (by unfold maxLen; omega) (by omega) (by first | omega | (simp <;> omega)) ?_; intro ao2 cap2 w3 ho3 hg3 hm3; have HB3 : Hid (Below C.heap.size C w3) := ⟨hg3.os.trans HB2.out.os, hg3.tape.trans HB2.out.tape, hg3.output.trans HB2.out.output, (by have := hg3.size; first | omega | (simp at this; omega)), fun b hb => (hg3.block b (by first | omega | (simp <;> omega)) (fun e => by have := (HO2.out.lt b e.symm).1; omega)).trans ((Below.heap_alloc _ _ _ (by omega)).trans (HB2.out.block b hb))⟩; have HO3 : Hid (w3.ownsRow C.heap.size 78 7 (.slice ao2 (m + 1) cap2) (m + 1) (cellsI L ++ (newI id nt).cells (.slice pa pn pc, .slice ba bn bc))) := ho3; have hz3' := HB3.out.size; obtain ⟨s0, s1, s2, s3, s4⟩ := (HKQ.out w3 HB3.out).b3; obtain ⟨s5, s6, s7, s8, s9, s10, s11, s12⟩ := (KA.out w3 (HC.out.trans (HB3.out.mono HC.out.size))).2.2.1.b6; obtain ⟨s13, s14, s15, s16⟩ := (KA.out w3 (HC.out.trans (HB3.out.mono HC.out.size))).2.1.b2; clear ho3 hg3 hm3)
          refine hK.out _ _ ?_ (fun hHeld => ?_)
          · (try dsimp only); go_keep
          clear hK K
          try simp only [Act.put, List.setIfInBounds_toArray, List.set_cons_zero, List.set_cons_succ, List.getElem_toArray, List.getElem_cons_zero, List.getElem_cons_succ]
          refine wpAnyH_take (i := 11) (oi := _) (v := ?_) rfl (by kernel_rfl) (by kernel_rfl) (by kernel_rfl) (fun _ _ _ h => h) (Or.inl ⟨by rfl, ?_⟩) (by assumption) ?_
          rotate_left
          · (intro w' hSw; (try dsimp only at hSw); go_simp <;> (try with_reducible rfl))
          try simp only [Act.put, List.setIfInBounds_toArray, List.set_cons_zero, List.set_cons_succ, List.getElem_toArray, List.getElem_cons_zero, List.getElem_cons_succ]
          refine wpAnyH_ready (rs := [12]) (by kernel_rfl) (by simp) ?_
          refine AllReadyH.cons (o := _) rfl (fun K hK => ?_) AllReadyH.nil
          go_simp
          refine hK.out _ _ ?_ (fun hHeld => ?_)
          · (try dsimp only); go_keep
          clear hK K
          try simp only [Act.put, List.setIfInBounds_toArray, List.set_cons_zero, List.set_cons_succ, List.getElem_toArray, List.getElem_cons_zero, List.getElem_cons_succ]
          refine wpAnyH_done (by kernel_rfl) ?_ _
          refine NoPanic.normal ?_
          go_wp2_with fail
          go_meet
          exact ⟨ao2, cap2, w3, HB3.out, HO3.out, rfl⟩

        · go_simp
          refine hK.out _ _ ?_ (fun hHeld => ?_)
          · (try dsimp only); go_keep
          clear hK K
          try simp only [Act.put, List.setIfInBounds_toArray, List.set_cons_zero, List.set_cons_succ, List.getElem_toArray, List.getElem_cons_zero, List.getElem_cons_succ]
          refine wpAnyH_ready (rs := [3]) (by kernel_rfl) (by simp) ?_
          refine (AllReadyH.cons (o := _) rfl (fun K hK => ?_) AllReadyH.nil)
          (refine step_appV (by rfl) (.tmp 56) (.tmp 58) 74 (by rfl) 78 i0 _ 7 88 Try.underlying74 hi0 iz0 iz1 iz2 rfl (by omega) C.heap.size (.slice (some ⟨C.heap.size, 0, none⟩) 0 0) 0 [] (by rfl) (HOW2.out _ rfl) S (.slice ia m ic) m (cellsI L) (by rfl) (HSL2.out _ rfl) HCL.out HO.out (by unfold maxLen; omega) (by omega) (by first | omega | (simp <;> omega)) ?_; intro ao cap w2 ho2 hg2 hm2; have HB2 : Hid (Below C.heap.size C w2) := ⟨hg2.os, hg2.tape, hg2.output, (by have := hg2.size; simp at this; omega), fun b hb => (hg2.block b (by simp; omega) (fun e => by simp only [Value.ownBlock, Option.some.injEq] at e; omega)).trans ((Below.heap_alloc _ _ _ (by simp; omega)).trans (Below.heap_alloc _ _ _ hb))⟩; have HO2 : Hid (w2.ownsRow C.heap.size 78 7 (.slice ao m cap) m (cellsI L)) := (by have h := ho2; rw [Nat.zero_add, List.nil_append] at h; exact h); have HI2 : Hid (SliceV (fun _ => True) w2 (.slice (some ⟨C.heap.size + 1, 0, none⟩) 1 1) 1 ((newI id nt).cells (.slice pa pn pc, .slice ba bn bc))) := SliceV.sub (row_any' (C.alloc (.cells #[] 78)) ((newI id nt).cells (.slice pa pn pc, .slice ba bn bc)) 78 1 (C.heap.size + 1) (by simp) (by simp [maxLen])) (fun b hb => ⟨trivial, hg2.block b (by subst hb; simp) (fun e => by simp only [Value.ownBlock, Option.some.injEq] at e; omega)⟩); have hz2' := HB2.out.size; obtain ⟨p0, p1, p2, p3, p4⟩ := (HKQ.out w2 HB2.out).b3; obtain ⟨p5, p6, p7, p8, p9, p10, p11, p12⟩ := (KA.out w2 (HC.out.trans (HB2.out.mono HC.out.size))).2.2.1.b6; obtain ⟨p13, p14, p15, p16⟩ := (KA.out w2 (HC.out.trans (HB2.out.mono HC.out.size))).2.1.b2; clear ho2 hg2 hm2; simp only [Nat.zero_add])
          refine hK.out _ _ ?_ (fun hHeld => ?_)
          · (try dsimp only); go_keep
          clear hK K
          try simp only [Act.put, List.setIfInBounds_toArray, List.set_cons_zero, List.set_cons_succ, List.getElem_toArray, List.getElem_cons_zero, List.getElem_cons_succ]
          refine wpAnyH_ready (rs := [10]) (by kernel_rfl) (by simp) ?_
          refine (AllReadyH.cons (o := _) rfl (fun K hK => ?_) AllReadyH.nil)
          (refine step_appV (by rfl) (.tmp 59) (.tmp 65) 74 (by rfl) 78 i0 _ 7 88 Try.underlying74 hi0 iz0 iz1 iz2 rfl (by omega) C.heap.size (.slice ao m cap) m (cellsI L) (by rfl) (HO2.out) (fun _ => True) (.slice (some ⟨C.heap.size + 1, 0, none⟩) 1 1) 1 ((newI id nt).cells (.slice pa pn pc, .slice ba bn bc)) (by rfl) (HI2.out) rfl (by simp [IT.cells, QD.cells, newI, Value.oneCell']) (by unfold maxLen; omega) (by omega) (by first | omega | (simp <;> omega)) ?_; intro ao2 cap2 w3 ho3 hg3 hm3; have HB3 : Hid (Below C.heap.size C w3) := ⟨hg3.os.trans HB2.out.os, hg3.tape.trans HB2.out.tape, hg3.output.trans HB2.out.output, (by have := hg3.size; first | omega | (simp at this; omega)), fun b hb => (hg3.block b (by first | omega | (simp <;> omega)) (fun e => by have := (HO2.out.lt b e.symm).1; omega)).trans (HB2.out.block b hb)⟩; have HO3 : Hid (w3.ownsRow C.heap.size 78 7 (.slice ao2 (m + 1) cap2) (m + 1) (cellsI L ++ (newI id nt).cells (.slice pa pn pc, .slice ba bn bc))) := ho3; have hz3' := HB3.out.size; obtain ⟨s0, s1, s2, s3, s4⟩ := (HKQ.out w3 HB3.out).b3; obtain ⟨s5, s6, s7, s8, s9, s10, s11, s12⟩ := (KA.out w3 (HC.out.trans (HB3.out.mono HC.out.size))).2.2.1.b6; obtain ⟨s13, s14, s15, s16⟩ := (KA.out w3 (HC.out.trans (HB3.out.mono HC.out.size))).2.1.b2; clear ho3 hg3 hm3)
          refine hK.out _ _ ?_ (fun hHeld => ?_)
          · (try dsimp only); go_keep
          clear hK K
          try simp only [Act.put, List.setIfInBounds_toArray, List.set_cons_zero, List.set_cons_succ, List.getElem_toArray, List.getElem_cons_zero, List.getElem_cons_succ]
          refine wpAnyH_take (i := 11) (oi := _) (v := ?_) rfl (by kernel_rfl) (by kernel_rfl) (by kernel_rfl) (fun _ _ _ h => h) (Or.inl ⟨by rfl, ?_⟩) (by assumption) ?_
          rotate_left
          · (intro w' hSw; (try dsimp only at hSw); go_simp <;> (try with_reducible rfl))
          try simp only [Act.put, List.setIfInBounds_toArray, List.set_cons_zero, List.set_cons_succ, List.getElem_toArray, List.getElem_cons_zero, List.getElem_cons_succ]
          refine wpAnyH_ready (rs := [12]) (by kernel_rfl) (by simp) ?_
          refine AllReadyH.cons (o := _) rfl (fun K hK => ?_) AllReadyH.nil
          go_simp
          refine hK.out _ _ ?_ (fun hHeld => ?_)
          · (try dsimp only); go_keep
          clear hK K
          try simp only [Act.put, List.setIfInBounds_toArray, List.set_cons_zero, List.set_cons_succ, List.getElem_toArray, List.getElem_cons_zero, List.getElem_cons_succ]
          refine wpAnyH_done (by kernel_rfl) ?_ _
          refine NoPanic.normal ?_
          go_wp2_with fail
          go_meet
          exact ⟨ao2, cap2, w3, HB3.out, HO3.out, rfl⟩


      · go_simp
        refine hK.out _ _ ?_ (fun hHeld => ?_)
        · (try dsimp only); go_keep
        clear hK K
        try simp only [Act.put, List.setIfInBounds_toArray, List.set_cons_zero, List.set_cons_succ, List.getElem_toArray, List.getElem_cons_zero, List.getElem_cons_succ]
        refine wpAnyH_ready (rs := [0]) (by kernel_rfl) (by simp) ?_
        refine (AllReadyH.cons (o := _) rfl (fun K hK => ?_) AllReadyH.nil)
        go_simp
        refine hK.out _ _ ?_ (fun hHeld => ?_)
        · (try dsimp only); go_keep
        clear hK K
        try simp only [Act.put, List.setIfInBounds_toArray, List.set_cons_zero, List.set_cons_succ, List.getElem_toArray, List.getElem_cons_zero, List.getElem_cons_succ]
        refine wpAnyH_ready (rs := [3]) (by kernel_rfl) (by simp) ?_
        refine (AllReadyH.cons (o := _) rfl (fun K hK => ?_) AllReadyH.nil)
        (refine step_appV (by rfl) (.tmp 56) (.tmp 58) 74 (by rfl) 78 i0 _ 7 88 Try.underlying74 hi0 iz0 iz1 iz2 rfl (by omega) C.heap.size (.slice (some ⟨C.heap.size + 1, 0, none⟩) 0 0) 0 [] (by rfl) (HOW3.out _ rfl) S (.slice ia m ic) m (cellsI L) (by rfl) (HSL3.out _ rfl) HCL.out HO.out (by unfold maxLen; omega) (by omega) (by first | omega | (simp <;> omega)) ?_; intro ao cap w2 ho2 hg2 hm2; have HB2 : Hid (Below C.heap.size C w2) := ⟨hg2.os, hg2.tape, hg2.output, (by have := hg2.size; simp at this; omega), fun b hb => (hg2.block b (by simp; omega) (fun e => by simp only [Value.ownBlock, Option.some.injEq] at e; omega)).trans ((Below.heap_alloc _ _ _ (by simp; omega)).trans (Below.heap_alloc _ _ _ hb))⟩; have HO2 : Hid (w2.ownsRow C.heap.size 78 7 (.slice ao m cap) m (cellsI L)) := (by have h := ho2; rw [Nat.zero_add, List.nil_append] at h; exact h); have HI2 : Hid (SliceV (fun _ => True) w2 (.slice (some ⟨C.heap.size, 0, none⟩) 1 1) 1 ((newI id nt).cells (.slice pa pn pc, .slice ba bn bc))) := SliceV.sub (row_any' C ((newI id nt).cells (.slice pa pn pc, .slice ba bn bc)) 78 1 (C.heap.size) rfl (by simp [maxLen])) (fun b hb => ⟨trivial, (hg2.block b (by subst hb; simp <;> omega) (fun e => by simp only [Value.ownBlock, Option.some.injEq] at e; omega)).trans (Below.heap_alloc _ _ _ (by subst hb; simp))⟩); have hz2' := HB2.out.size; obtain ⟨p0, p1, p2, p3, p4⟩ := (HKQ.out w2 HB2.out).b3; obtain ⟨p5, p6, p7, p8, p9, p10, p11, p12⟩ := (KA.out w2 (HC.out.trans (HB2.out.mono HC.out.size))).2.2.1.b6; obtain ⟨p13, p14, p15, p16⟩ := (KA.out w2 (HC.out.trans (HB2.out.mono HC.out.size))).2.1.b2; clear ho2 hg2 hm2; simp only [Nat.zero_add])
        refine hK.out _ _ ?_ (fun hHeld => ?_)
        · (try dsimp only); go_keep
        clear hK K
        try simp only [Act.put, List.setIfInBounds_toArray, List.set_cons_zero, List.set_cons_succ, List.getElem_toArray, List.getElem_cons_zero, List.getElem_cons_succ]
        refine wpAnyH_ready (rs := [10]) (by kernel_rfl) (by simp) ?_
        refine (AllReadyH.cons (o := _) rfl (fun K hK => ?_) AllReadyH.nil)
        (refine step_appV (by rfl) (.tmp 59) (.tmp 65) 74 (by rfl) 78 i0 _ 7 88 Try.underlying74 hi0 iz0 iz1 iz2 rfl (by omega) C.heap.size (.slice ao m cap) m (cellsI L) (by rfl) (HO2.out) (fun _ => True) (.slice (some ⟨C.heap.size, 0, none⟩) 1 1) 1 ((newI id nt).cells (.slice pa pn pc, .slice ba bn bc)) (by rfl) (HI2.out) rfl (by simp [IT.cells, QD.cells, newI, Value.oneCell']) (by unfold maxLen; omega) (by omega) (by first | omega | (simp <;> omega)) ?_; intro ao2 cap2 w3 ho3 hg3 hm3; have HB3 : Hid (Below C.heap.size C w3) := ⟨hg3.os.trans HB2.out.os, hg3.tape.trans HB2.out.tape, hg3.output.trans HB2.out.output, (by have := hg3.size; first | omega | (simp at this; omega)), fun b hb => (hg3.block b (by first | omega | (simp <;> omega)) (fun e => by have := (HO2.out.lt b e.symm).1; omega)).trans (HB2.out.block b hb)⟩; have HO3 : Hid (w3.ownsRow C.heap.size 78 7 (.slice ao2 (m + 1) cap2) (m + 1) (cellsI L ++ (newI id nt).cells (.slice pa pn pc, .slice ba bn bc))) := ho3; have hz3' := HB3.out.size; obtain ⟨s0, s1, s2, s3, s4⟩ := (HKQ.out w3 HB3.out).b3; obtain ⟨s5, s6, s7, s8, s9, s10, s11, s12⟩ := (KA.out w3 (HC.out.trans (HB3.out.mono HC.out.size))).2.2.1.b6; obtain ⟨s13, s14, s15, s16⟩ := (KA.out w3 (HC.out.trans (HB3.out.mono HC.out.size))).2.1.b2; clear ho3 hg3 hm3)
        refine hK.out _ _ ?_ (fun hHeld => ?_)
        · (try dsimp only); go_keep
        clear hK K
        try simp only [Act.put, List.setIfInBounds_toArray, List.set_cons_zero, List.set_cons_succ, List.getElem_toArray, List.getElem_cons_zero, List.getElem_cons_succ]
        refine wpAnyH_take (i := 11) (oi := _) (v := ?_) rfl (by kernel_rfl) (by kernel_rfl) (by kernel_rfl) (fun _ _ _ h => h) (Or.inl ⟨by rfl, ?_⟩) (by assumption) ?_
        rotate_left
        · (intro w' hSw; (try dsimp only at hSw); go_simp <;> (try with_reducible rfl))
        try simp only [Act.put, List.setIfInBounds_toArray, List.set_cons_zero, List.set_cons_succ, List.getElem_toArray, List.getElem_cons_zero, List.getElem_cons_succ]
        refine wpAnyH_ready (rs := [12]) (by kernel_rfl) (by simp) ?_
        refine AllReadyH.cons (o := _) rfl (fun K hK => ?_) AllReadyH.nil
        go_simp
        refine hK.out _ _ ?_ (fun hHeld => ?_)
        · (try dsimp only); go_keep
        clear hK K
        try simp only [Act.put, List.setIfInBounds_toArray, List.set_cons_zero, List.set_cons_succ, List.getElem_toArray, List.getElem_cons_zero, List.getElem_cons_succ]
        refine wpAnyH_done (by kernel_rfl) ?_ _
        refine NoPanic.normal ?_
        go_wp2_with fail
        go_meet
        exact ⟨ao2, cap2, w3, HB3.out, HO3.out, rfl⟩


    · go_simp
      refine hK.out _ _ ?_ (fun hHeld => ?_)
      · (try dsimp only); go_keep
      clear hK K
      try simp only [Act.put, List.setIfInBounds_toArray, List.set_cons_zero, List.set_cons_succ, List.getElem_toArray, List.getElem_cons_zero, List.getElem_cons_succ]
      refine wpAnyH_ready (rs := [0, 2]) (by kernel_rfl) (by simp) ?_
      refine (AllReadyH.cons (o := _) rfl (fun K hK => ?_) (AllReadyH.cons (o := _) rfl (fun K hK => ?_) AllReadyH.nil))
      · go_simp
        refine hK.out _ _ ?_ (fun hHeld => ?_)
        · (try dsimp only); go_keep
        clear hK K
        try simp only [Act.put, List.setIfInBounds_toArray, List.set_cons_zero, List.set_cons_succ, List.getElem_toArray, List.getElem_cons_zero, List.getElem_cons_succ]
        refine wpAnyH_ready (rs := [2]) (by kernel_rfl) (by simp) ?_
        refine (AllReadyH.cons (o := _) rfl (fun K hK => ?_) AllReadyH.nil)
        go_simp
        refine hK.out _ _ ?_ (fun hHeld => ?_)
        · (try dsimp only); go_keep
        clear hK K
        try simp only [Act.put, List.setIfInBounds_toArray, List.set_cons_zero, List.set_cons_succ, List.getElem_toArray, List.getElem_cons_zero, List.getElem_cons_succ]
        refine wpAnyH_ready (rs := [3]) (by kernel_rfl) (by simp) ?_
        refine (AllReadyH.cons (o := _) rfl (fun K hK => ?_) AllReadyH.nil)
        (refine step_appV (by rfl) (.tmp 56) (.tmp 58) 74 (by rfl) 78 i0 _ 7 88 Try.underlying74 hi0 iz0 iz1 iz2 rfl (by omega) C.heap.size (.slice (some ⟨C.heap.size + 1, 0, none⟩) 0 0) 0 [] (by rfl) (HOW3.out _ rfl) S (.slice ia m ic) m (cellsI L) (by rfl) (HSL3.out _ rfl) HCL.out HO.out (by unfold maxLen; omega) (by omega) (by first | omega | (simp <;> omega)) ?_; intro ao cap w2 ho2 hg2 hm2; have HB2 : Hid (Below C.heap.size C w2) := ⟨hg2.os, hg2.tape, hg2.output, (by have := hg2.size; simp at this; omega), fun b hb => (hg2.block b (by simp; omega) (fun e => by simp only [Value.ownBlock, Option.some.injEq] at e; omega)).trans ((Below.heap_alloc _ _ _ (by simp; omega)).trans (Below.heap_alloc _ _ _ hb))⟩; have HO2 : Hid (w2.ownsRow C.heap.size 78 7 (.slice ao m cap) m (cellsI L)) := (by have h := ho2; rw [Nat.zero_add, List.nil_append] at h; exact h); have HI2 : Hid (SliceV (fun _ => True) w2 (.slice (some ⟨C.heap.size, 0, none⟩) 1 1) 1 ((newI id nt).cells (.slice pa pn pc, .slice ba bn bc))) := SliceV.sub (row_any' C ((newI id nt).cells (.slice pa pn pc, .slice ba bn bc)) 78 1 (C.heap.size) rfl (by simp [maxLen])) (fun b hb => ⟨trivial, (hg2.block b (by subst hb; simp <;> omega) (fun e => by simp only [Value.ownBlock, Option.some.injEq] at e; omega)).trans (Below.heap_alloc _ _ _ (by subst hb; simp))⟩); have hz2' := HB2.out.size; obtain ⟨p0, p1, p2, p3, p4⟩ := (HKQ.out w2 HB2.out).b3; obtain ⟨p5, p6, p7, p8, p9, p10, p11, p12⟩ := (KA.out w2 (HC.out.trans (HB2.out.mono HC.out.size))).2.2.1.b6; obtain ⟨p13, p14, p15, p16⟩ := (KA.out w2 (HC.out.trans (HB2.out.mono HC.out.size))).2.1.b2; clear ho2 hg2 hm2; simp only [Nat.zero_add])
        refine hK.out _ _ ?_ (fun hHeld => ?_)
        · (try dsimp only); go_keep
        clear hK K
        try simp only [Act.put, List.setIfInBounds_toArray, List.set_cons_zero, List.set_cons_succ, List.getElem_toArray, List.getElem_cons_zero, List.getElem_cons_succ]
        refine wpAnyH_ready (rs := [10]) (by kernel_rfl) (by simp) ?_
        refine (AllReadyH.cons (o := _) rfl (fun K hK => ?_) AllReadyH.nil)
        (refine step_appV (by rfl) (.tmp 59) (.tmp 65) 74 (by rfl) 78 i0 _ 7 88 Try.underlying74 hi0 iz0 iz1 iz2 rfl (by omega) C.heap.size (.slice ao m cap) m (cellsI L) (by rfl) (HO2.out) (fun _ => True) (.slice (some ⟨C.heap.size, 0, none⟩) 1 1) 1 ((newI id nt).cells (.slice pa pn pc, .slice ba bn bc)) (by rfl) (HI2.out) rfl (by simp [IT.cells, QD.cells, newI, Value.oneCell']) (by unfold maxLen; omega) (by omega) (by first | omega | (simp <;> omega)) ?_; intro ao2 cap2 w3 ho3 hg3 hm3; have HB3 : Hid (Below C.heap.size C w3) := ⟨hg3.os.trans HB2.out.os, hg3.tape.trans HB2.out.tape, hg3.output.trans HB2.out.output, (by have := hg3.size; first | omega | (simp at this; omega)), fun b hb => (hg3.block b (by first | omega | (simp <;> omega)) (fun e => by have := (HO2.out.lt b e.symm).1; omega)).trans (HB2.out.block b hb)⟩; have HO3 : Hid (w3.ownsRow C.heap.size 78 7 (.slice ao2 (m + 1) cap2) (m + 1) (cellsI L ++ (newI id nt).cells (.slice pa pn pc, .slice ba bn bc))) := ho3; have hz3' := HB3.out.size; obtain ⟨s0, s1, s2, s3, s4⟩ := (HKQ.out w3 HB3.out).b3; obtain ⟨s5, s6, s7, s8, s9, s10, s11, s12⟩ := (KA.out w3 (HC.out.trans (HB3.out.mono HC.out.size))).2.2.1.b6; obtain ⟨s13, s14, s15, s16⟩ := (KA.out w3 (HC.out.trans (HB3.out.mono HC.out.size))).2.1.b2; clear ho3 hg3 hm3)
        refine hK.out _ _ ?_ (fun hHeld => ?_)
        · (try dsimp only); go_keep
        clear hK K
        try simp only [Act.put, List.setIfInBounds_toArray, List.set_cons_zero, List.set_cons_succ, List.getElem_toArray, List.getElem_cons_zero, List.getElem_cons_succ]
        refine wpAnyH_take (i := 11) (oi := _) (v := ?_) rfl (by kernel_rfl) (by kernel_rfl) (by kernel_rfl) (fun _ _ _ h => h) (Or.inl ⟨by rfl, ?_⟩) (by assumption) ?_
        rotate_left
        · (intro w' hSw; (try dsimp only at hSw); go_simp <;> (try with_reducible rfl))
        try simp only [Act.put, List.setIfInBounds_toArray, List.set_cons_zero, List.set_cons_succ, List.getElem_toArray, List.getElem_cons_zero, List.getElem_cons_succ]
        refine wpAnyH_ready (rs := [12]) (by kernel_rfl) (by simp) ?_
        refine AllReadyH.cons (o := _) rfl (fun K hK => ?_) AllReadyH.nil
        go_simp
        refine hK.out _ _ ?_ (fun hHeld => ?_)
        · (try dsimp only); go_keep
        clear hK K
        try simp only [Act.put, List.setIfInBounds_toArray, List.set_cons_zero, List.set_cons_succ, List.getElem_toArray, List.getElem_cons_zero, List.getElem_cons_succ]
        refine wpAnyH_done (by kernel_rfl) ?_ _
        refine NoPanic.normal ?_
        go_wp2_with fail
        go_meet
        exact ⟨ao2, cap2, w3, HB3.out, HO3.out, rfl⟩

      · go_simp
        refine hK.out _ _ ?_ (fun hHeld => ?_)
        · (try dsimp only); go_keep
        clear hK K
        try simp only [Act.put, List.setIfInBounds_toArray, List.set_cons_zero, List.set_cons_succ, List.getElem_toArray, List.getElem_cons_zero, List.getElem_cons_succ]
        refine wpAnyH_ready (rs := [0]) (by kernel_rfl) (by simp) ?_
        refine (AllReadyH.cons (o := _) rfl (fun K hK => ?_) AllReadyH.nil)
        go_simp
        refine hK.out _ _ ?_ (fun hHeld => ?_)
        · (try dsimp only); go_keep
        clear hK K
        try simp only [Act.put, List.setIfInBounds_toArray, List.set_cons_zero, List.set_cons_succ, List.getElem_toArray, List.getElem_cons_zero, List.getElem_cons_succ]
        refine wpAnyH_ready (rs := [3]) (by kernel_rfl) (by simp) ?_
        refine (AllReadyH.cons (o := _) rfl (fun K hK => ?_) AllReadyH.nil)
        (refine step_appV (by rfl) (.tmp 56) (.tmp 58) 74 (by rfl) 78 i0 _ 7 88 Try.underlying74 hi0 iz0 iz1 iz2 rfl (by omega) C.heap.size (.slice (some ⟨C.heap.size + 1, 0, none⟩) 0 0) 0 [] (by rfl) (HOW3.out _ rfl) S (.slice ia m ic) m (cellsI L) (by rfl) (HSL3.out _ rfl) HCL.out HO.out (by unfold maxLen; omega) (by omega) (by first | omega | (simp <;> omega)) ?_; intro ao cap w2 ho2 hg2 hm2; have HB2 : Hid (Below C.heap.size C w2) := ⟨hg2.os, hg2.tape, hg2.output, (by have := hg2.size; simp at this; omega), fun b hb => (hg2.block b (by simp; omega) (fun e => by simp only [Value.ownBlock, Option.some.injEq] at e; omega)).trans ((Below.heap_alloc _ _ _ (by simp; omega)).trans (Below.heap_alloc _ _ _ hb))⟩; have HO2 : Hid (w2.ownsRow C.heap.size 78 7 (.slice ao m cap) m (cellsI L)) := (by have h := ho2; rw [Nat.zero_add, List.nil_append] at h; exact h); have HI2 : Hid (SliceV (fun _ => True) w2 (.slice (some ⟨C.heap.size, 0, none⟩) 1 1) 1 ((newI id nt).cells (.slice pa pn pc, .slice ba bn bc))) := SliceV.sub (row_any' C ((newI id nt).cells (.slice pa pn pc, .slice ba bn bc)) 78 1 (C.heap.size) rfl (by simp [maxLen])) (fun b hb => ⟨trivial, (hg2.block b (by subst hb; simp <;> omega) (fun e => by simp only [Value.ownBlock, Option.some.injEq] at e; omega)).trans (Below.heap_alloc _ _ _ (by subst hb; simp))⟩); have hz2' := HB2.out.size; obtain ⟨p0, p1, p2, p3, p4⟩ := (HKQ.out w2 HB2.out).b3; obtain ⟨p5, p6, p7, p8, p9, p10, p11, p12⟩ := (KA.out w2 (HC.out.trans (HB2.out.mono HC.out.size))).2.2.1.b6; obtain ⟨p13, p14, p15, p16⟩ := (KA.out w2 (HC.out.trans (HB2.out.mono HC.out.size))).2.1.b2; clear ho2 hg2 hm2; simp only [Nat.zero_add])
        refine hK.out _ _ ?_ (fun hHeld => ?_)
        · (try dsimp only); go_keep
        clear hK K
        try simp only [Act.put, List.setIfInBounds_toArray, List.set_cons_zero, List.set_cons_succ, List.getElem_toArray, List.getElem_cons_zero, List.getElem_cons_succ]
        refine wpAnyH_ready (rs := [10]) (by kernel_rfl) (by simp) ?_
        refine (AllReadyH.cons (o := _) rfl (fun K hK => ?_) AllReadyH.nil)
        (refine step_appV (by rfl) (.tmp 59) (.tmp 65) 74 (by rfl) 78 i0 _ 7 88 Try.underlying74 hi0 iz0 iz1 iz2 rfl (by omega) C.heap.size (.slice ao m cap) m (cellsI L) (by rfl) (HO2.out) (fun _ => True) (.slice (some ⟨C.heap.size, 0, none⟩) 1 1) 1 ((newI id nt).cells (.slice pa pn pc, .slice ba bn bc)) (by rfl) (HI2.out) rfl (by simp [IT.cells, QD.cells, newI, Value.oneCell']) (by unfold maxLen; omega) (by omega) (by first | omega | (simp <;> omega)) ?_; intro ao2 cap2 w3 ho3 hg3 hm3; have HB3 : Hid (Below C.heap.size C w3) := ⟨hg3.os.trans HB2.out.os, hg3.tape.trans HB2.out.tape, hg3.output.trans HB2.out.output, (by have := hg3.size; first | omega | (simp at this; omega)), fun b hb => (hg3.block b (by first | omega | (simp <;> omega)) (fun e => by have := (HO2.out.lt b e.symm).1; omega)).trans (HB2.out.block b hb)⟩; have HO3 : Hid (w3.ownsRow C.heap.size 78 7 (.slice ao2 (m + 1) cap2) (m + 1) (cellsI L ++ (newI id nt).cells (.slice pa pn pc, .slice ba bn bc))) := ho3; have hz3' := HB3.out.size; obtain ⟨s0, s1, s2, s3, s4⟩ := (HKQ.out w3 HB3.out).b3; obtain ⟨s5, s6, s7, s8, s9, s10, s11, s12⟩ := (KA.out w3 (HC.out.trans (HB3.out.mono HC.out.size))).2.2.1.b6; obtain ⟨s13, s14, s15, s16⟩ := (KA.out w3 (HC.out.trans (HB3.out.mono HC.out.size))).2.1.b2; clear ho3 hg3 hm3)
        refine hK.out _ _ ?_ (fun hHeld => ?_)
        · (try dsimp only); go_keep
        clear hK K
        try simp only [Act.put, List.setIfInBounds_toArray, List.set_cons_zero, List.set_cons_succ, List.getElem_toArray, List.getElem_cons_zero, List.getElem_cons_succ]
        refine wpAnyH_take (i := 11) (oi := _) (v := ?_) rfl (by kernel_rfl) (by kernel_rfl) (by kernel_rfl) (fun _ _ _ h => h) (Or.inl ⟨by rfl, ?_⟩) (by assumption) ?_
        rotate_left
        · (intro w' hSw; (try dsimp only at hSw); go_simp <;> (try with_reducible rfl))
        try simp only [Act.put, List.setIfInBounds_toArray, List.set_cons_zero, List.set_cons_succ, List.getElem_toArray, List.getElem_cons_zero, List.getElem_cons_succ]
        refine wpAnyH_ready (rs := [12]) (by kernel_rfl) (by simp) ?_
        refine AllReadyH.cons (o := _) rfl (fun K hK => ?_) AllReadyH.nil
        go_simp
        refine hK.out _ _ ?_ (fun hHeld => ?_)
        · (try dsimp only); go_keep
        clear hK K
        try simp only [Act.put, List.setIfInBounds_toArray, List.set_cons_zero, List.set_cons_succ, List.getElem_toArray, List.getElem_cons_zero, List.getElem_cons_succ]
        refine wpAnyH_done (by kernel_rfl) ?_ _
        refine NoPanic.normal ?_
        go_wp2_with fail
        go_meet
        exact ⟨ao2, cap2, w3, HB3.out, HO3.out, rfl⟩


  case rest =>
    obtain ⟨ao2, cap2, w3, HB3', HO3', rfl⟩ := hcut
    have HB3 : Hid (Below C.heap.size C w3) := HB3'
    have HO3 : Hid (w3.ownsRow C.heap.size 78 7 (.slice ao2 (m + 1) cap2) (m + 1) (cellsI L ++ (newI id nt).cells (.slice pa pn pc, .slice ba bn bc))) := HO3'
    have hz3' := HB3'.size
    clear HB3' HO3'
    clear c2 c3 c4 f3 f4 f5 f6 f7
    obtain ⟨s0, s1, s2, s3, s4⟩ := (HKQ.out w3 HB3.out).b3
    obtain ⟨s5, s6, s7, s8, s9, s10, s11, s12⟩ := (KA.out w3 (HC.out.trans (HB3.out.mono HC.out.size))).2.2.1.b6
    obtain ⟨s13, s14, s15, s16⟩ := (KA.out w3 (HC.out.trans (HB3.out.mono HC.out.size))).2.1.b2
    go_upto_region 14 with (go_at_call 57; refine (HW.out ao2 cap2 w3 HB3.out HO3.out).mono ?_; rintro r w5 ⟨xa, xc, rfl, hb5, hq5⟩; have HA5 : Hid (Below A.heap.size A w5 ∧ SliceQ (fun b => S b ∨ (w.heap.size + 3 ≤ b ∧ b < w5.heap.size)) w5 (.slice xa qs'.length xc) qs') := ⟨hb5, hq5⟩; obtain ⟨c0, c1, c2, c3⟩ := (KA.out w5 hb5).2.1.b2; obtain ⟨r0, r1, r2, r3⟩ := (KA.out w5 hb5).2.2.2.1.b2; obtain ⟨f0, f1, f2, f3, f4, f5, f6, f7⟩ := (KA.out w5 hb5).2.2.1.b6; clear hb5 hq5)
    have hAP0 := AP.store HSS.out (KA.out w5 HA5.out.1).1 (KA.out w5 HA5.out.1).2.1 (KA.out w5 HA5.out.1).2.2.2.1 HA5.out.2 h.next
    simp only [HQS.out.2] at hAP0
    obtain ⟨W6, hW6⟩ : ∃ W6, W6 = (w5.setCell ⟨w.heap.size, 0, none⟩ (.slice xa n xc)).setCell ⟨w.heap.size, 1, none⟩ (.int .i64 h.next) := ⟨_, rfl⟩
    have hfar : ∀ b, b ≠ w.heap.size → W6.heap[b]? = w5.heap[b]? := fun b hb => by rw [hW6, Below.heap_setCell _ _ _ _ hb, Below.heap_setCell _ _ _ _ hb]
    have heb := (KA.out w5 HA5.out.1).2.2.1.same (hfar (w.heap.size + 1) (by omega))
    rw [← hW6] at hAP0
    rw [← hW6]
    have hAP : AP S w W6 xa xc ⟨qs', h.next⟩ := hAP0
    have hbx := hAP.hbox
    simp only [HQS.out.2] at hbx
    clear hW6 hAP0 hfar c0 c1 c2 c3 r0 r1 r2 r3 f0 f1 f2 f3 f4 f5 f6 f7
    obtain ⟨c0, c1, c2, c3⟩ := hbx.b2
    obtain ⟨r0, r1, r2, r3⟩ := hAP.res.b2
    obtain ⟨f0, f1, f2, f3, f4, f5, f6, f7⟩ := heb.b6
    clear hbx heb
    have m1 : w.heap.size + 1 ≠ w.heap.size := by omega
    have m2 : w.heap.size ≠ w.heap.size + 2 := by omega
    by_cases hle : h.next ≤ id
    · have hAP2 := (hAP.next HSS.out (id + 1)).ans HSS.out
      have hnx : nx' = id + 1 := by rw [HNX.out]; omega
      simp only [HQS.out.2] at hAP2
      rw [← hnx] at hAP2
      have HF : Hid (ApAns S ⟨qs', nx'⟩ w (.returned (.agg #[.slice xa n xc, .int .i64 nx'])) _) := hAP2
      have hwr : IntKind.i64.wrap (id + 1) = nx' := by rw [hnx]; simp [IntKind.wrap, IntKind.bits, IntKind.signed]; omega
      have hwr2 : wrap64 (id + 1) = nx' := by rw [hnx]; unfold wrap64; omega
      clear hAP hAP2 hnx
      go_wp2_with fail
      exact bodyPost_ret (v := .agg #[.slice xa n xc, .int .i64 nx']) (by simp [results, Try.results18, go_sem, *]; done) rfl HF.out
    · have hAP2 := hAP.ans HSS.out
      have hnx : nx' = h.next := by rw [HNX.out]; omega
      simp only [HQS.out.2] at hAP2
      have HF : Hid (ApAns S ⟨qs', nx'⟩ w (.returned (.agg #[.slice xa n xc, .int .i64 h.next])) ((W6.setCell ⟨w.heap.size + 2, 0, none⟩ (.slice xa n xc)).setCell ⟨w.heap.size + 2, 1, none⟩ (.int .i64 h.next))) := by rw [hnx]; exact hAP2
      clear hAP hAP2 hnx
      go_wp2_with fail
      exact bodyPost_ret (v := .agg #[.slice xa n xc, .int .i64 h.next]) (by simp [results, Try.results18, go_sem, *]; done) rfl HF.out
end Go.Proofs.Ytkddkpdfeeikhaa
