/-
  tgref1.Apply: a queue is made.
-/
import Derived.Test.YtkddkpdfeeikhaaRefAp
import Derived.Deep.RegionHeld3
import Derived.Deep.RegionLaw
namespace Go.Proofs.Ytkddkpdfeeikhaa
open Go.RowKit
set_option linter.unusedVariables false
set_option linter.unusedSimpArgs false

attribute [local go_sem ↓] Go.wp_at_zero Go.wp_at_succ


set_option maxRecDepth 100000 in
set_option maxHeartbeats 6400000 in
theorem refApply_make (S : Nat → Prop) (v : Value) (h : HD) (kind : Int) (queue : ByteArray) (en id : Int) (nt : ND) (pv bv : Value) (w : World) (hS : ∀ b, S b → b < w.heap.size) (hv : SliceQ S w v h.queues) (hsm : smallQ h.queues) (hnt : NoteIs S w (pv, bv) nt) (hix : idxQ queue h.queues = -1) (hkd : kind = 1) :
    Calls Try.prog 18 #[.agg #[v, .int .i64 h.next], .agg #[.int .i64 kind, .string queue, .int .i64 en, .int .i64 id, pv, bv]] w (ApAns S ⟨h.queues ++ [⟨queue, en, []⟩], h.next⟩ w) := by
  have HV : Hid (SliceQ S w v h.queues) := hv
  have HSS : Hid (∀ b, S b → b < w.heap.size) := hS
  have HM : Hid (smallQ h.queues) := hsm
  have HNT : Hid (NoteIs S w (pv, bv) nt) := hnt
  obtain ⟨va, vc, rfl, hv1, hv2, -⟩ := hv.shape
  obtain ⟨pa, pc, rfl, -⟩ := SliceV.shape hnt.1
  obtain ⟨ba, bc, rfl, -⟩ := SliceV.shape hnt.2
  unfold maxLen at hv2
  clear hv hS hnt
  obtain ⟨n, hn⟩ : ∃ n, n = h.queues.length := ⟨_, rfl⟩
  have HN : Hid (n = h.queues.length) := hn
  have hnl : n ≤ 4194304 := by rw [hn]; exact hsm.1
  rw [← hn] at HV hv1
  rw [← hn]
  obtain ⟨pn, hpn⟩ : ∃ pn, pn = nt.props.length := ⟨_, rfl⟩
  obtain ⟨bn, hbn⟩ : ∃ bn, bn = nt.body.length := ⟨_, rfl⟩
  rw [← hpn, ← hbn] at HNT
  have HNT2 : Hid (NoteIs S w (.slice pa pn pc, .slice ba bn bc) nt) := HNT
  rw [← hpn, ← hbn]
  obtain ⟨A, hA⟩ : ∃ A, A = ((w.alloc (.cells #[.slice va n vc, .int .i64 h.next] 24)).alloc (.cells #[.int .i64 kind, .string queue, .int .i64 en, .int .i64 id, .slice pa pn pc, .slice ba bn bc] 30)).alloc (.cells #[.slice none 0 0, .int .i64 0] 24) := ⟨_, rfl⟩
  have hAz : A.heap.size = w.heap.size + 3 := by rw [hA]; simp
  have KA : Hid (∀ W, Below A.heap.size A W → Below w.heap.size w W ∧ Blk W w.heap.size [.slice va n vc, .int .i64 h.next] ∧ Blk W (w.heap.size + 1) [.int .i64 kind, .string queue, .int .i64 en, .int .i64 id, .slice pa pn pc, .slice ba bn bc] ∧ Blk W (w.heap.size + 2) [.slice none 0 0, .int .i64 0] ∧ SliceQ S W (.slice va n vc) h.queues ∧ NoteIs S W (.slice pa pn pc, .slice ba bn bc) nt ∧ w.heap.size + 3 ≤ W.heap.size ∧ ∀ b, S b → b < W.heap.size) := by
    have hAB : Below w.heap.size w A := by rw [hA]; exact ((below_alloc _ _).alloc (by simp) _).alloc (by simp; omega) _
    have hA0 : Blk A w.heap.size [.slice va n vc, .int .i64 h.next] := by rw [hA]; exact ((Blk.new _ _ _).alloc _).alloc _
    have hA1 : Blk A (w.heap.size + 1) [.int .i64 kind, .string queue, .int .i64 en, .int .i64 id, .slice pa pn pc, .slice ba bn bc] := by
      rw [hA]
      have := (Blk.new (w.alloc (.cells #[.slice va n vc, .int .i64 h.next] 24)) [.int .i64 kind, .string queue, .int .i64 en, .int .i64 id, .slice pa pn pc, .slice ba bn bc] 30).alloc (.cells #[.slice none 0 0, .int .i64 0] 24)
      simpa using this
    have hA2 : Blk A (w.heap.size + 2) [.slice none 0 0, .int .i64 0] := by
      rw [hA]
      have := Blk.new ((w.alloc (.cells #[.slice va n vc, .int .i64 h.next] 24)).alloc (.cells #[.int .i64 kind, .string queue, .int .i64 en, .int .i64 id, .slice pa pn pc, .slice ba bn bc] 30)) [.slice none 0 0, .int .i64 0] 24
      simpa using this
    show ∀ W, Below A.heap.size A W → _
    intro W hW
    have hz := hW.size
    have hB : Below w.heap.size w W := hAB.trans (hW.mono (by omega))
    exact ⟨hB, hA0.below hW (by omega), hA1.below hW (by omega), hA2.below hW (by omega), HV.out.sub fun b hb => ⟨hb, hB.block b (HSS.out b hb)⟩, HNT.out.sub fun b hb => ⟨hb, hB.block b (HSS.out b hb)⟩, by omega, fun b hb => by have := HSS.out b hb; omega⟩
  clear hn hpn hbn
  have ny : Hid True := trivial
  obtain ⟨a0, a1, a2, a3⟩ := (KA.out A (Below.refl _ _)).2.1.b2
  obtain ⟨e0, e1, e2, e3, e4, e5, e6, e7⟩ := (KA.out A (Below.refl _ _)).2.2.1.b6
  subst hkd
  have HI : Hid (idxQ queue h.queues = -1) := hix
  obtain ⟨i0, hi0, iz0, iz1, iz2⟩ := info_parts info25
  obtain ⟨L, hLe, hL, hLN⟩ := HV.out
  have hLl : L.length = n := by rw [HN.out, ← hLe]; simp
  have HL : Hid (SliceV S w (.slice va n vc) n (cellsQ L)) := by rw [← hLl] at hL ⊢; exact hL
  have HLN : Hid (L.map Prod.fst = h.queues ∧ (∀ x ∈ L, SliceI S w x.2 x.1.items) ∧ L.length = n) := ⟨hLe, hLN, hLl⟩
  have HO : Hid (∀ u ∈ cellsQ L, u.oneCell' = true) := cellsQ_one L hLN
  have HCL : Hid ((cellsQ L).length = n * 3) := by rw [← hLl]; exact cellsQ_len L
  clear hLe hL hLN hLl
  obtain ⟨qs', hqs'⟩ : ∃ qs', qs' = h.queues ++ [⟨queue, en, []⟩] := ⟨_, rfl⟩
  have HQS : Hid (qs' = h.queues ++ [⟨queue, en, []⟩]) := hqs'
  rw [← hqs']
  clear hqs'
  go_enter Try.func18, Try.ntmps18
  go_upto_region 1 with fail
  rw [← hA]
  clear hA
  go_upto_region 2 with (go_at_call 56; refine (refFind_any queue _ h.next h.queues A ((KA.out A (Below.refl _ _)).2.2.2.2.1.sub fun b hb => ⟨(KA.out A (Below.refl _ _)).2.2.2.2.2.2.2 b hb, rfl⟩)).mono ?_; rw [HI.out]; rintro r w1 ⟨rfl, hb1⟩; have HB1 : Hid (Below A.heap.size A w1) := hb1; obtain ⟨c0, c1, c2, c3⟩ := (KA.out w1 hb1).2.1.b2; obtain ⟨f0, f1, f2, f3, f4, f5, f6, f7⟩ := (KA.out w1 hb1).2.2.1.b6; obtain ⟨r0, r1, r2, r3⟩ := (KA.out w1 hb1).2.2.2.1.b2; have hz1 := (KA.out w1 hb1).2.2.2.2.2.2.1; clear hb1)
  clear a0 a1 a2 a3 e0 e1 e2 e3 e4 e5 e6 e7
  have HCB : Hid (∀ b, S b → ∀ W, Below w1.heap.size w1 W → W.heap[b]? = w.heap[b]?) := by
    show ∀ b, S b → ∀ W, Below w1.heap.size w1 W → _
    intro b hb W hW
    exact (KA.out W (HB1.out.trans (hW.mono HB1.out.size))).1.block b (HSS.out b hb)
  have hzA := HB1.out.size
  have n1 : w.heap.size + 2 ≠ w.heap.size := by omega
  have HQL : Hid (qs'.length = n + 1) := by
    have h1 : qs'.length = n + 1 := by rw [HQS.out]; simp [HN.out]
    exact h1
  have HEND : Hid (∀ (ao2 : Option Addr) (cap2 : Nat) (w3 : World), Below w1.heap.size w1 w3 → w3.ownsRow w1.heap.size 76 3 (.slice ao2 (n + 1) cap2) (n + 1) (cellsQ L ++ QD.cells ⟨queue, en, []⟩ (.slice none 0 0)) → AP S w (w3.setCell ⟨w.heap.size, 0, none⟩ (.slice ao2 (n + 1) cap2)) ao2 cap2 ⟨qs', h.next⟩) := by
    show ∀ (ao2 : Option Addr) (cap2 : Nat) (w3 : World), _ → _ → _
    intro ao2 cap2 w3 HB3 HO3
    have hk3 := KA.out w3 (HB1.out.trans (HB3.mono HB1.out.size))
    have far : ∀ b, b ≠ w.heap.size → (w3.setCell ⟨w.heap.size, 0, none⟩ (.slice ao2 (n + 1) cap2)).heap[b]? = w3.heap[b]? := fun b hb => Below.heap_setCell _ _ _ _ hb
    have hql := HQL.out
    refine ⟨hk3.1.setCell (Nat.le_refl _) _, by rw [hql]; exact hk3.2.1.set 0 _, hk3.2.2.2.1.same (far _ (by omega)), ?_⟩
    rw [hql]
    refine ⟨L ++ [(⟨queue, en, []⟩, .slice none 0 0)], by rw [List.map_append, HLN.out.1, HQS.out]; rfl, ?_, fun x hx => ?_⟩
    · rw [List.length_append, HLN.out.2.2, cellsQ_append]
      have h3 : w3.ownsRow w1.heap.size 76 3 (.slice ao2 (n + 1) cap2) (n + 1) (cellsQ L ++ cellsQ [(⟨queue, en, []⟩, .slice none 0 0)]) := by
        simpa [cellsQ] using HO3
      refine SliceV.sub (own_slice h3) fun b hb => ?_
      have h1 := h3.lt b hb
      exact ⟨.inr ⟨by omega, by simpa using h1.2⟩, far b (by omega)⟩
    · rw [List.mem_append, List.mem_singleton] at hx
      rcases hx with hx | rfl
      · exact (HLN.out.2.1 x hx).sub fun b hb => ⟨.inl hb, (far b (by have := HSS.out b hb; omega)).trans (hk3.1.block b (HSS.out b hb))⟩
      · exact nilQ _ _
  go_upto_region 3 with fail
  clear r0 r1 r2 r3 f0 f3 f4 f5 c1
  have HOW1 : Hid (∀ W : World, W.heap = (w1.alloc (.cells #[] 76)).heap → W.ownsRow w1.heap.size 76 3 (.slice (some ⟨w1.heap.size, 0, none⟩) 0 0) 0 []) := by
    show ∀ W : World, _ → _
    intro W hW
    exact own_same (emptyQ_own w1 w1.heap.size _ rfl (Nat.le_refl _)) fun b _ => by rw [hW]
  have HOW2 : Hid (∀ W : World, W.heap = ((w1.alloc (.cells #[] 76)).alloc (.cells #[.string queue, .int .i64 en, .slice none 0 0] 76)).heap → W.ownsRow w1.heap.size 76 3 (.slice (some ⟨w1.heap.size, 0, none⟩) 0 0) 0 []) := by
    show ∀ W : World, _ → _
    intro W hW
    exact own_same (own_below (emptyQ_own w1 w1.heap.size _ rfl (Nat.le_refl _)) (below_alloc _ (.cells #[.string queue, .int .i64 en, .slice none 0 0] 76))) fun b _ => by rw [hW]
  have HOW3 : Hid (∀ W : World, W.heap = ((w1.alloc (.cells #[.string queue, .int .i64 en, .slice none 0 0] 76)).alloc (.cells #[] 76)).heap → W.ownsRow w1.heap.size 76 3 (.slice (some ⟨w1.heap.size + 1, 0, none⟩) 0 0) 0 []) := by
    show ∀ W : World, _ → _
    intro W hW
    exact own_same (emptyQ_own (w1.alloc (.cells #[.string queue, .int .i64 en, .slice none 0 0] 76)) w1.heap.size (w1.heap.size + 1) (by simp) (by omega)) fun b _ => by rw [hW]
  have HSL1 : Hid (∀ W : World, W.heap = (w1.alloc (.cells #[] 76)).heap → SliceV S W (.slice va n vc) n (cellsQ L)) := by
    show ∀ W : World, _ → _
    intro W hW
    exact SliceV.sub HL.out fun b hb => ⟨hb, by rw [hW]; exact HCB.out b hb _ (below_alloc _ _)⟩
  have HSL2 : Hid (∀ W : World, W.heap = ((w1.alloc (.cells #[] 76)).alloc (.cells #[.string queue, .int .i64 en, .slice none 0 0] 76)).heap → SliceV S W (.slice va n vc) n (cellsQ L)) := by
    show ∀ W : World, _ → _
    intro W hW
    exact SliceV.sub HL.out fun b hb => ⟨hb, by rw [hW]; exact HCB.out b hb _ ((below_alloc _ _).alloc (by simp) _)⟩
  have HSL3 : Hid (∀ W : World, W.heap = ((w1.alloc (.cells #[.string queue, .int .i64 en, .slice none 0 0] 76)).alloc (.cells #[] 76)).heap → SliceV S W (.slice va n vc) n (cellsQ L)) := by
    show ∀ W : World, _ → _
    intro W hW
    exact SliceV.sub HL.out fun b hb => ⟨hb, by rw [hW]; exact HCB.out b hb _ ((below_alloc _ _).alloc (by simp) _)⟩
  refine wp_region_noPanic ?_
  refine wp_region_held_drew (S := (fun w' => w'.cell? ⟨w.heap.size + 1, 1, none⟩ = some (.string queue) ∧ w'.cell? ⟨w.heap.size + 1, 2, none⟩ = some (.int .i64 en))) (by kernel_rfl) ?_ (fun hHeld => ?_)
  · (try dsimp only); go_keep
  refine wpAnyH_take (i := 1) (oi := _) (v := ?_) rfl (by kernel_rfl) (by kernel_rfl) (by kernel_rfl) (fun _ _ _ h => h) (Or.inl ⟨by rfl, ?_⟩) (by assumption) ?_
  rotate_left
  · (intro w' hSw; (try dsimp only at hSw); go_simp <;> (try with_reducible rfl))
  try simp only [Act.put, List.setIfInBounds_toArray, List.set_cons_zero, List.set_cons_succ, List.getElem_toArray, List.getElem_cons_zero, List.getElem_cons_succ]
  refine wpAnyH_take (i := 4) (oi := _) (v := ?_) rfl (by kernel_rfl) (by kernel_rfl) (by kernel_rfl) (fun _ _ _ h => h) (Or.inl ⟨by rfl, ?_⟩) (by assumption) ?_
  rotate_left
  · (intro w' hSw; (try dsimp only at hSw); go_simp <;> (try with_reducible rfl))
  try simp only [Act.put, List.setIfInBounds_toArray, List.set_cons_zero, List.set_cons_succ, List.getElem_toArray, List.getElem_cons_zero, List.getElem_cons_succ]
  refine wpAnyH_take (i := 5) (oi := _) (v := ?_) rfl (by kernel_rfl) (by kernel_rfl) (by kernel_rfl) (fun _ _ _ h => h) (Or.inl ⟨by rfl, ?_⟩) (by assumption) ?_
  rotate_left
  · (intro w' hSw; (try dsimp only at hSw); go_simp <;> (try with_reducible rfl))
  try simp only [Act.put, List.setIfInBounds_toArray, List.set_cons_zero, List.set_cons_succ, List.getElem_toArray, List.getElem_cons_zero, List.getElem_cons_succ]
  refine wpAnyH_take (i := 6) (oi := _) (v := ?_) rfl (by kernel_rfl) (by kernel_rfl) (by kernel_rfl) (fun _ _ _ h => h) (Or.inl ⟨by rfl, ?_⟩) (by assumption) ?_
  rotate_left
  · (intro w' hSw; (try dsimp only at hSw); go_simp <;> (try with_reducible rfl))
  try simp only [Act.put, List.setIfInBounds_toArray, List.set_cons_zero, List.set_cons_succ, List.getElem_toArray, List.getElem_cons_zero, List.getElem_cons_succ]
  refine wpAnyH_take (i := 7) (oi := _) (v := ?_) rfl (by kernel_rfl) (by kernel_rfl) (by kernel_rfl) (fun _ _ _ h => h) (Or.inl ⟨by rfl, ?_⟩) (by assumption) ?_
  rotate_left
  · (intro w' hSw; (try dsimp only at hSw); go_simp <;> (try with_reducible rfl))
  try simp only [Act.put, List.setIfInBounds_toArray, List.set_cons_zero, List.set_cons_succ, List.getElem_toArray, List.getElem_cons_zero, List.getElem_cons_succ]
  refine wpAnyH_take (i := 8) (oi := _) (v := ?_) rfl (by kernel_rfl) (by kernel_rfl) (by kernel_rfl) (fun _ _ _ h => h) (Or.inl ⟨by rfl, ?_⟩) (by assumption) ?_
  rotate_left
  · (intro w' hSw; (try dsimp only at hSw); go_simp <;> (try with_reducible rfl))
  try simp only [Act.put, List.setIfInBounds_toArray, List.set_cons_zero, List.set_cons_succ, List.getElem_toArray, List.getElem_cons_zero, List.getElem_cons_succ]
  refine wpAnyH_ready (rs := [0, 2, 9]) (by kernel_rfl) (by simp) ?_
  refine (AllReadyH.cons (o := _) rfl (fun K hK => ?_) (AllReadyH.cons (o := _) rfl (fun K hK => ?_) (AllReadyH.cons (o := _) rfl (fun K hK => ?_) AllReadyH.nil)))
  · go_simp
    refine hK.out _ _ ?_ (fun hHeld => ?_)
    · (try dsimp only); go_keep
    clear hK K
    try simp only [Act.put, List.setIfInBounds_toArray, List.set_cons_zero, List.set_cons_succ, List.getElem_toArray, List.getElem_cons_zero, List.getElem_cons_succ]
    refine wpAnyH_ready (rs := [2, 9]) (by kernel_rfl) (by simp) ?_
    refine (AllReadyH.cons (o := _) rfl (fun K hK => ?_) (AllReadyH.cons (o := _) rfl (fun K hK => ?_) AllReadyH.nil))
    · go_simp
      refine hK.out _ _ ?_ (fun hHeld => ?_)
      · (try dsimp only); go_keep
      clear hK K
      try simp only [Act.put, List.setIfInBounds_toArray, List.set_cons_zero, List.set_cons_succ, List.getElem_toArray, List.getElem_cons_zero, List.getElem_cons_succ]
      refine wpAnyH_ready (rs := [3, 9]) (by kernel_rfl) (by simp) ?_
      refine (AllReadyH.cons (o := _) rfl (fun K hK => ?_) (AllReadyH.cons (o := _) rfl (fun K hK => ?_) AllReadyH.nil))
      · (refine step_appV (by rfl) (.tmp 21) (.tmp 23) 22 (by rfl) 76 i0 _ 3 48 Try.underlying22 hi0 iz0 iz1 iz2 rfl (by omega) w1.heap.size (.slice (some ⟨w1.heap.size, 0, none⟩) 0 0) 0 [] (by rfl) (HOW1.out _ rfl) S (.slice va n vc) n (cellsQ L) (by rfl) (HSL1.out _ rfl) HCL.out HO.out (by unfold maxLen; omega) (by omega) (by first | omega | (simp <;> omega)) ?_; intro ao cap w2 ho2 hg2 hm2; have HB2 : Hid (Below w1.heap.size w1 w2) := ⟨hg2.os, hg2.tape, hg2.output, (by have := hg2.size; simp at this; omega), fun b hb => (hg2.block b (by simp; omega) (fun e => by simp only [Value.ownBlock, Option.some.injEq] at e; omega)).trans (Below.heap_alloc _ _ _ hb)⟩; have HO2 : Hid (w2.ownsRow w1.heap.size 76 3 (.slice ao n cap) n (cellsQ L)) := (by have h := ho2; rw [Nat.zero_add, List.nil_append] at h; exact h); have hz2' := HB2.out.size; obtain ⟨p0, p1, p2, p3⟩ := (KA.out w2 (HB1.out.trans (HB2.out.mono (by omega)))).2.1.b2; obtain ⟨p4, p5, p6, p7, p8, p9, p10, p11⟩ := (KA.out w2 (HB1.out.trans (HB2.out.mono (by omega)))).2.2.1.b6; obtain ⟨p12, p13, p14, p15⟩ := (KA.out w2 (HB1.out.trans (HB2.out.mono (by omega)))).2.2.2.1.b2; clear ho2 hg2 hm2; simp only [Nat.zero_add])
        refine hK.out _ _ ?_ (fun hHeld => ?_)
        · (try dsimp only); go_keep
        clear hK K
        try simp only [Act.put, List.setIfInBounds_toArray, List.set_cons_zero, List.set_cons_succ, List.getElem_toArray, List.getElem_cons_zero, List.getElem_cons_succ]
        refine wpAnyH_ready (rs := [9]) (by kernel_rfl) (by simp) ?_
        refine (AllReadyH.cons (o := _) rfl (fun K hK => ?_) AllReadyH.nil)
        go_simp
        refine hK.out _ _ ?_ (fun hHeld => ?_)
        · (try dsimp only); go_keep
        clear hK K
        try simp only [Act.put, List.setIfInBounds_toArray, List.set_cons_zero, List.set_cons_succ, List.getElem_toArray, List.getElem_cons_zero, List.getElem_cons_succ]
        refine wpAnyH_ready (rs := [10]) (by kernel_rfl) (by simp) ?_
        refine (AllReadyH.cons (o := _) rfl (fun K hK => ?_) AllReadyH.nil)
        (refine step_appV (by rfl) (.tmp 24) (.tmp 30) 22 (by rfl) 76 i0 _ 3 48 Try.underlying22 hi0 iz0 iz1 iz2 rfl (by omega) w1.heap.size (.slice ao n cap) n (cellsQ L) (by rfl) (own_below HO2.out (below_alloc _ _)) (fun _ => True) (.slice (some ⟨w2.heap.size, 0, none⟩) 1 1) 1 (QD.cells ⟨queue, en, []⟩ (.slice none 0 0)) (by rfl) ((SliceV.sub (row_any' w2 (QD.cells ⟨queue, en, []⟩ (.slice none 0 0)) 76 1 w2.heap.size rfl (by simp [maxLen])) (fun b hb => ⟨trivial, rfl⟩))) rfl (by simp [IT.cells, QD.cells, newI, Value.oneCell']) (by unfold maxLen; omega) (by omega) (by first | omega | (simp <;> omega)) ?_; intro ao2 cap2 w3 ho3 hg3 hm3; have HB3 : Hid (Below w1.heap.size w1 w3) := ⟨hg3.os.trans HB2.out.os, hg3.tape.trans HB2.out.tape, hg3.output.trans HB2.out.output, (by have := hg3.size; first | omega | (simp at this; omega)), fun b hb => (hg3.block b (by first | omega | (simp <;> omega)) (fun e => by have := (HO2.out.lt b e.symm).1; omega)).trans ((Below.heap_alloc _ _ _ (by omega)).trans (HB2.out.block b hb))⟩; have HO3 : Hid (w3.ownsRow w1.heap.size 76 3 (.slice ao2 (n + 1) cap2) (n + 1) (cellsQ L ++ QD.cells ⟨queue, en, []⟩ (.slice none 0 0))) := ho3; have hz3' := HB3.out.size; obtain ⟨s0, s1, s2, s3⟩ := (KA.out w3 (HB1.out.trans (HB3.out.mono (by omega)))).2.1.b2; obtain ⟨s4, s5, s6, s7, s8, s9, s10, s11⟩ := (KA.out w3 (HB1.out.trans (HB3.out.mono (by omega)))).2.2.1.b6; obtain ⟨s12, s13, s14, s15⟩ := (KA.out w3 (HB1.out.trans (HB3.out.mono (by omega)))).2.2.2.1.b2; clear ho3 hg3 hm3)
        refine hK.out _ _ ?_ (fun hHeld => ?_)
        · (try dsimp only); go_keep
        clear hK K
        try simp only [Act.put, List.setIfInBounds_toArray, List.set_cons_zero, List.set_cons_succ, List.getElem_toArray, List.getElem_cons_zero, List.getElem_cons_succ]
        refine wpAnyH_take (i := 11) (oi := _) (v := ?_) rfl (by kernel_rfl) (by kernel_rfl) (by kernel_rfl) (fun _ _ _ h => h) (Or.inl ⟨by rfl, ?_⟩) (by assumption) ?_
        rotate_left
        · (intro w' hSw; (try dsimp only at hSw); go_simp <;> (try with_reducible rfl))
        try simp only [Act.put, List.setIfInBounds_toArray, List.set_cons_zero, List.set_cons_succ, List.getElem_toArray, List.getElem_cons_zero, List.getElem_cons_succ]
        refine wpAnyH_ready (rs := [12]) (by kernel_rfl) (by simp) ?_
        refine AllReadyH.cons (o := _) rfl (fun K hK => ?_) AllReadyH.nil
        go_simp
        refine hK.out _ _ ?_ (fun hHeld => ?_)
        · (try dsimp only); go_keep
        clear hK K
        try simp only [Act.put, List.setIfInBounds_toArray, List.set_cons_zero, List.set_cons_succ, List.getElem_toArray, List.getElem_cons_zero, List.getElem_cons_succ]
        refine wpAnyH_done (by kernel_rfl) ?_ _
        refine NoPanic.normal ?_
        have hAP : AP S w (w3.setCell ⟨w.heap.size, 0, none⟩ (.slice ao2 (n + 1) cap2)) ao2 cap2 ⟨qs', h.next⟩ := HEND.out ao2 cap2 w3 HB3.out HO3.out
        have HF : Hid (ApAns S ⟨qs', h.next⟩ w (.returned (.agg #[.slice ao2 (n + 1) cap2, .int .i64 h.next])) (((w3.setCell ⟨w.heap.size, 0, none⟩ (.slice ao2 (n + 1) cap2)).setCell ⟨w.heap.size + 2, 0, none⟩ (.slice ao2 (n + 1) cap2)).setCell ⟨w.heap.size + 2, 1, none⟩ (.int .i64 h.next))) := by
          have h := hAP.ans HSS.out
          simp only [HQL.out] at h
          exact h
        clear hAP
        go_wp2_with fail
        exact bodyPost_ret (v := .agg #[.slice ao2 (n + 1) cap2, .int .i64 h.next]) (by simp [results, Try.results18, go_sem, *]; done) rfl HF.out

      · go_simp
        refine hK.out _ _ ?_ (fun hHeld => ?_)
        · (try dsimp only); go_keep
        clear hK K
        try simp only [Act.put, List.setIfInBounds_toArray, List.set_cons_zero, List.set_cons_succ, List.getElem_toArray, List.getElem_cons_zero, List.getElem_cons_succ]
        refine wpAnyH_ready (rs := [3]) (by kernel_rfl) (by simp) ?_
        refine (AllReadyH.cons (o := _) rfl (fun K hK => ?_) AllReadyH.nil)
        (refine step_appV (by rfl) (.tmp 21) (.tmp 23) 22 (by rfl) 76 i0 _ 3 48 Try.underlying22 hi0 iz0 iz1 iz2 rfl (by omega) w1.heap.size (.slice (some ⟨w1.heap.size, 0, none⟩) 0 0) 0 [] (by rfl) (HOW2.out _ rfl) S (.slice va n vc) n (cellsQ L) (by rfl) (HSL2.out _ rfl) HCL.out HO.out (by unfold maxLen; omega) (by omega) (by first | omega | (simp <;> omega)) ?_; intro ao cap w2 ho2 hg2 hm2; have HB2 : Hid (Below w1.heap.size w1 w2) := ⟨hg2.os, hg2.tape, hg2.output, (by have := hg2.size; simp at this; omega), fun b hb => (hg2.block b (by simp; omega) (fun e => by simp only [Value.ownBlock, Option.some.injEq] at e; omega)).trans ((Below.heap_alloc _ _ _ (by simp; omega)).trans (Below.heap_alloc _ _ _ hb))⟩; have HO2 : Hid (w2.ownsRow w1.heap.size 76 3 (.slice ao n cap) n (cellsQ L)) := (by have h := ho2; rw [Nat.zero_add, List.nil_append] at h; exact h); have HI2 : Hid (SliceV (fun _ => True) w2 (.slice (some ⟨w1.heap.size + 1, 0, none⟩) 1 1) 1 (QD.cells ⟨queue, en, []⟩ (.slice none 0 0))) := SliceV.sub (row_any' (w1.alloc (.cells #[] 76)) (QD.cells ⟨queue, en, []⟩ (.slice none 0 0)) 76 1 (w1.heap.size + 1) (by simp) (by simp [maxLen])) (fun b hb => ⟨trivial, hg2.block b (by subst hb; simp) (fun e => by simp only [Value.ownBlock, Option.some.injEq] at e; omega)⟩); have hz2' := HB2.out.size; obtain ⟨p0, p1, p2, p3⟩ := (KA.out w2 (HB1.out.trans (HB2.out.mono (by omega)))).2.1.b2; obtain ⟨p4, p5, p6, p7, p8, p9, p10, p11⟩ := (KA.out w2 (HB1.out.trans (HB2.out.mono (by omega)))).2.2.1.b6; obtain ⟨p12, p13, p14, p15⟩ := (KA.out w2 (HB1.out.trans (HB2.out.mono (by omega)))).2.2.2.1.b2; clear ho2 hg2 hm2; simp only [Nat.zero_add])
        refine hK.out _ _ ?_ (fun hHeld => ?_)
        · (try dsimp only); go_keep
        clear hK K
        try simp only [Act.put, List.setIfInBounds_toArray, List.set_cons_zero, List.set_cons_succ, List.getElem_toArray, List.getElem_cons_zero, List.getElem_cons_succ]
        refine wpAnyH_ready (rs := [10]) (by kernel_rfl) (by simp) ?_
        refine (AllReadyH.cons (o := _) rfl (fun K hK => ?_) AllReadyH.nil)
        (refine step_appV (by rfl) (.tmp 24) (.tmp 30) 22 (by rfl) 76 i0 _ 3 48 Try.underlying22 hi0 iz0 iz1 iz2 rfl (by omega) w1.heap.size (.slice ao n cap) n (cellsQ L) (by rfl) (HO2.out) (fun _ => True) (.slice (some ⟨w1.heap.size + 1, 0, none⟩) 1 1) 1 (QD.cells ⟨queue, en, []⟩ (.slice none 0 0)) (by rfl) (HI2.out) rfl (by simp [IT.cells, QD.cells, newI, Value.oneCell']) (by unfold maxLen; omega) (by omega) (by first | omega | (simp <;> omega)) ?_; intro ao2 cap2 w3 ho3 hg3 hm3; have HB3 : Hid (Below w1.heap.size w1 w3) := ⟨hg3.os.trans HB2.out.os, hg3.tape.trans HB2.out.tape, hg3.output.trans HB2.out.output, (by have := hg3.size; first | omega | (simp at this; omega)), fun b hb => (hg3.block b (by first | omega | (simp <;> omega)) (fun e => by have := (HO2.out.lt b e.symm).1; omega)).trans (HB2.out.block b hb)⟩; have HO3 : Hid (w3.ownsRow w1.heap.size 76 3 (.slice ao2 (n + 1) cap2) (n + 1) (cellsQ L ++ QD.cells ⟨queue, en, []⟩ (.slice none 0 0))) := ho3; have hz3' := HB3.out.size; obtain ⟨s0, s1, s2, s3⟩ := (KA.out w3 (HB1.out.trans (HB3.out.mono (by omega)))).2.1.b2; obtain ⟨s4, s5, s6, s7, s8, s9, s10, s11⟩ := (KA.out w3 (HB1.out.trans (HB3.out.mono (by omega)))).2.2.1.b6; obtain ⟨s12, s13, s14, s15⟩ := (KA.out w3 (HB1.out.trans (HB3.out.mono (by omega)))).2.2.2.1.b2; clear ho3 hg3 hm3)
        refine hK.out _ _ ?_ (fun hHeld => ?_)
        · (try dsimp only); go_keep
        clear hK K
        try simp only [Act.put, List.setIfInBounds_toArray, List.set_cons_zero, List.set_cons_succ, List.getElem_toArray, List.getElem_cons_zero, List.getElem_cons_succ]
        refine wpAnyH_take (i := 11) (oi := _) (v := ?_) rfl (by kernel_rfl) (by kernel_rfl) (by kernel_rfl) (fun _ _ _ h => h) (Or.inl ⟨by rfl, ?_⟩) (by assumption) ?_
        rotate_left
        · (intro w' hSw; (try dsimp only at hSw); go_simp <;> (try with_reducible rfl))
        try simp only [Act.put, List.setIfInBounds_toArray, List.set_cons_zero, List.set_cons_succ, List.getElem_toArray, List.getElem_cons_zero, List.getElem_cons_succ]
        refine wpAnyH_ready (rs := [12]) (by kernel_rfl) (by simp) ?_
        refine AllReadyH.cons (o := _) rfl (fun K hK => ?_) AllReadyH.nil
        go_simp
        refine hK.out _ _ ?_ (fun hHeld => ?_)
        · (try dsimp only); go_keep
        clear hK K
        try simp only [Act.put, List.setIfInBounds_toArray, List.set_cons_zero, List.set_cons_succ, List.getElem_toArray, List.getElem_cons_zero, List.getElem_cons_succ]
        refine wpAnyH_done (by kernel_rfl) ?_ _
        refine NoPanic.normal ?_
        have hAP : AP S w (w3.setCell ⟨w.heap.size, 0, none⟩ (.slice ao2 (n + 1) cap2)) ao2 cap2 ⟨qs', h.next⟩ := HEND.out ao2 cap2 w3 HB3.out HO3.out
        have HF : Hid (ApAns S ⟨qs', h.next⟩ w (.returned (.agg #[.slice ao2 (n + 1) cap2, .int .i64 h.next])) (((w3.setCell ⟨w.heap.size, 0, none⟩ (.slice ao2 (n + 1) cap2)).setCell ⟨w.heap.size + 2, 0, none⟩ (.slice ao2 (n + 1) cap2)).setCell ⟨w.heap.size + 2, 1, none⟩ (.int .i64 h.next))) := by
          have h := hAP.ans HSS.out
          simp only [HQL.out] at h
          exact h
        clear hAP
        go_wp2_with fail
        exact bodyPost_ret (v := .agg #[.slice ao2 (n + 1) cap2, .int .i64 h.next]) (by simp [results, Try.results18, go_sem, *]; done) rfl HF.out


    · go_simp
      refine hK.out _ _ ?_ (fun hHeld => ?_)
      · (try dsimp only); go_keep
      clear hK K
      try simp only [Act.put, List.setIfInBounds_toArray, List.set_cons_zero, List.set_cons_succ, List.getElem_toArray, List.getElem_cons_zero, List.getElem_cons_succ]
      refine wpAnyH_ready (rs := [2]) (by kernel_rfl) (by simp) ?_
      refine (AllReadyH.cons (o := _) rfl (fun K hK => ?_) AllReadyH.nil)
      go_simp
      refine hK.out _ _ ?_ (fun hHeld => ?_)
      · (try dsimp only); go_keep
      clear hK K
      try simp only [Act.put, List.setIfInBounds_toArray, List.set_cons_zero, List.set_cons_succ, List.getElem_toArray, List.getElem_cons_zero, List.getElem_cons_succ]
      refine wpAnyH_ready (rs := [3]) (by kernel_rfl) (by simp) ?_
      refine (AllReadyH.cons (o := _) rfl (fun K hK => ?_) AllReadyH.nil)
      (refine step_appV (by rfl) (.tmp 21) (.tmp 23) 22 (by rfl) 76 i0 _ 3 48 Try.underlying22 hi0 iz0 iz1 iz2 rfl (by omega) w1.heap.size (.slice (some ⟨w1.heap.size, 0, none⟩) 0 0) 0 [] (by rfl) (HOW2.out _ rfl) S (.slice va n vc) n (cellsQ L) (by rfl) (HSL2.out _ rfl) HCL.out HO.out (by unfold maxLen; omega) (by omega) (by first | omega | (simp <;> omega)) ?_; intro ao cap w2 ho2 hg2 hm2; have HB2 : Hid (Below w1.heap.size w1 w2) := ⟨hg2.os, hg2.tape, hg2.output, (by have := hg2.size; simp at this; omega), fun b hb => (hg2.block b (by simp; omega) (fun e => by simp only [Value.ownBlock, Option.some.injEq] at e; omega)).trans ((Below.heap_alloc _ _ _ (by simp; omega)).trans (Below.heap_alloc _ _ _ hb))⟩; have HO2 : Hid (w2.ownsRow w1.heap.size 76 3 (.slice ao n cap) n (cellsQ L)) := (by have h := ho2; rw [Nat.zero_add, List.nil_append] at h; exact h); have HI2 : Hid (SliceV (fun _ => True) w2 (.slice (some ⟨w1.heap.size + 1, 0, none⟩) 1 1) 1 (QD.cells ⟨queue, en, []⟩ (.slice none 0 0))) := SliceV.sub (row_any' (w1.alloc (.cells #[] 76)) (QD.cells ⟨queue, en, []⟩ (.slice none 0 0)) 76 1 (w1.heap.size + 1) (by simp) (by simp [maxLen])) (fun b hb => ⟨trivial, hg2.block b (by subst hb; simp) (fun e => by simp only [Value.ownBlock, Option.some.injEq] at e; omega)⟩); have hz2' := HB2.out.size; obtain ⟨p0, p1, p2, p3⟩ := (KA.out w2 (HB1.out.trans (HB2.out.mono (by omega)))).2.1.b2; obtain ⟨p4, p5, p6, p7, p8, p9, p10, p11⟩ := (KA.out w2 (HB1.out.trans (HB2.out.mono (by omega)))).2.2.1.b6; obtain ⟨p12, p13, p14, p15⟩ := (KA.out w2 (HB1.out.trans (HB2.out.mono (by omega)))).2.2.2.1.b2; clear ho2 hg2 hm2; simp only [Nat.zero_add])
      refine hK.out _ _ ?_ (fun hHeld => ?_)
      · (try dsimp only); go_keep
      clear hK K
      try simp only [Act.put, List.setIfInBounds_toArray, List.set_cons_zero, List.set_cons_succ, List.getElem_toArray, List.getElem_cons_zero, List.getElem_cons_succ]
      refine wpAnyH_ready (rs := [10]) (by kernel_rfl) (by simp) ?_
      refine (AllReadyH.cons (o := _) rfl (fun K hK => ?_) AllReadyH.nil)
      (refine step_appV (by rfl) (.tmp 24) (.tmp 30) 22 (by rfl) 76 i0 _ 3 48 Try.underlying22 hi0 iz0 iz1 iz2 rfl (by omega) w1.heap.size (.slice ao n cap) n (cellsQ L) (by rfl) (HO2.out) (fun _ => True) (.slice (some ⟨w1.heap.size + 1, 0, none⟩) 1 1) 1 (QD.cells ⟨queue, en, []⟩ (.slice none 0 0)) (by rfl) (HI2.out) rfl (by simp [IT.cells, QD.cells, newI, Value.oneCell']) (by unfold maxLen; omega) (by omega) (by first | omega | (simp <;> omega)) ?_; intro ao2 cap2 w3 ho3 hg3 hm3; have HB3 : Hid (Below w1.heap.size w1 w3) := ⟨hg3.os.trans HB2.out.os, hg3.tape.trans HB2.out.tape, hg3.output.trans HB2.out.output, (by have := hg3.size; first | omega | (simp at this; omega)), fun b hb => (hg3.block b (by first | omega | (simp <;> omega)) (fun e => by have := (HO2.out.lt b e.symm).1; omega)).trans (HB2.out.block b hb)⟩; have HO3 : Hid (w3.ownsRow w1.heap.size 76 3 (.slice ao2 (n + 1) cap2) (n + 1) (cellsQ L ++ QD.cells ⟨queue, en, []⟩ (.slice none 0 0))) := ho3; have hz3' := HB3.out.size; obtain ⟨s0, s1, s2, s3⟩ := (KA.out w3 (HB1.out.trans (HB3.out.mono (by omega)))).2.1.b2; obtain ⟨s4, s5, s6, s7, s8, s9, s10, s11⟩ := (KA.out w3 (HB1.out.trans (HB3.out.mono (by omega)))).2.2.1.b6; obtain ⟨s12, s13, s14, s15⟩ := (KA.out w3 (HB1.out.trans (HB3.out.mono (by omega)))).2.2.2.1.b2; clear ho3 hg3 hm3)
      refine hK.out _ _ ?_ (fun hHeld => ?_)
      · (try dsimp only); go_keep
      clear hK K
      try simp only [Act.put, List.setIfInBounds_toArray, List.set_cons_zero, List.set_cons_succ, List.getElem_toArray, List.getElem_cons_zero, List.getElem_cons_succ]
      refine wpAnyH_take (i := 11) (oi := _) (v := ?_) rfl (by kernel_rfl) (by kernel_rfl) (by kernel_rfl) (fun _ _ _ h => h) (Or.inl ⟨by rfl, ?_⟩) (by assumption) ?_
      rotate_left
      · (intro w' hSw; (try dsimp only at hSw); go_simp <;> (try with_reducible rfl))
      try simp only [Act.put, List.setIfInBounds_toArray, List.set_cons_zero, List.set_cons_succ, List.getElem_toArray, List.getElem_cons_zero, List.getElem_cons_succ]
      refine wpAnyH_ready (rs := [12]) (by kernel_rfl) (by simp) ?_
      refine AllReadyH.cons (o := _) rfl (fun K hK => ?_) AllReadyH.nil
      go_simp
      refine hK.out _ _ ?_ (fun hHeld => ?_)
      · (try dsimp only); go_keep
      clear hK K
      try simp only [Act.put, List.setIfInBounds_toArray, List.set_cons_zero, List.set_cons_succ, List.getElem_toArray, List.getElem_cons_zero, List.getElem_cons_succ]
      refine wpAnyH_done (by kernel_rfl) ?_ _
      refine NoPanic.normal ?_
      have hAP : AP S w (w3.setCell ⟨w.heap.size, 0, none⟩ (.slice ao2 (n + 1) cap2)) ao2 cap2 ⟨qs', h.next⟩ := HEND.out ao2 cap2 w3 HB3.out HO3.out
      have HF : Hid (ApAns S ⟨qs', h.next⟩ w (.returned (.agg #[.slice ao2 (n + 1) cap2, .int .i64 h.next])) (((w3.setCell ⟨w.heap.size, 0, none⟩ (.slice ao2 (n + 1) cap2)).setCell ⟨w.heap.size + 2, 0, none⟩ (.slice ao2 (n + 1) cap2)).setCell ⟨w.heap.size + 2, 1, none⟩ (.int .i64 h.next))) := by
        have h := hAP.ans HSS.out
        simp only [HQL.out] at h
        exact h
      clear hAP
      go_wp2_with fail
      exact bodyPost_ret (v := .agg #[.slice ao2 (n + 1) cap2, .int .i64 h.next]) (by simp [results, Try.results18, go_sem, *]; done) rfl HF.out


  · go_simp
    refine hK.out _ _ ?_ (fun hHeld => ?_)
    · (try dsimp only); go_keep
    clear hK K
    try simp only [Act.put, List.setIfInBounds_toArray, List.set_cons_zero, List.set_cons_succ, List.getElem_toArray, List.getElem_cons_zero, List.getElem_cons_succ]
    refine wpAnyH_ready (rs := [0, 9]) (by kernel_rfl) (by simp) ?_
    refine (AllReadyH.cons (o := _) rfl (fun K hK => ?_) (AllReadyH.cons (o := _) rfl (fun K hK => ?_) AllReadyH.nil))
    · go_simp
      refine hK.out _ _ ?_ (fun hHeld => ?_)
      · (try dsimp only); go_keep
      clear hK K
      try simp only [Act.put, List.setIfInBounds_toArray, List.set_cons_zero, List.set_cons_succ, List.getElem_toArray, List.getElem_cons_zero, List.getElem_cons_succ]
      refine wpAnyH_ready (rs := [3, 9]) (by kernel_rfl) (by simp) ?_
      refine (AllReadyH.cons (o := _) rfl (fun K hK => ?_) (AllReadyH.cons (o := _) rfl (fun K hK => ?_) AllReadyH.nil))
      · (refine step_appV (by rfl) (.tmp 21) (.tmp 23) 22 (by rfl) 76 i0 _ 3 48 Try.underlying22 hi0 iz0 iz1 iz2 rfl (by omega) w1.heap.size (.slice (some ⟨w1.heap.size, 0, none⟩) 0 0) 0 [] (by rfl) (HOW1.out _ rfl) S (.slice va n vc) n (cellsQ L) (by rfl) (HSL1.out _ rfl) HCL.out HO.out (by unfold maxLen; omega) (by omega) (by first | omega | (simp <;> omega)) ?_; intro ao cap w2 ho2 hg2 hm2; have HB2 : Hid (Below w1.heap.size w1 w2) := ⟨hg2.os, hg2.tape, hg2.output, (by have := hg2.size; simp at this; omega), fun b hb => (hg2.block b (by simp; omega) (fun e => by simp only [Value.ownBlock, Option.some.injEq] at e; omega)).trans (Below.heap_alloc _ _ _ hb)⟩; have HO2 : Hid (w2.ownsRow w1.heap.size 76 3 (.slice ao n cap) n (cellsQ L)) := (by have h := ho2; rw [Nat.zero_add, List.nil_append] at h; exact h); have hz2' := HB2.out.size; obtain ⟨p0, p1, p2, p3⟩ := (KA.out w2 (HB1.out.trans (HB2.out.mono (by omega)))).2.1.b2; obtain ⟨p4, p5, p6, p7, p8, p9, p10, p11⟩ := (KA.out w2 (HB1.out.trans (HB2.out.mono (by omega)))).2.2.1.b6; obtain ⟨p12, p13, p14, p15⟩ := (KA.out w2 (HB1.out.trans (HB2.out.mono (by omega)))).2.2.2.1.b2; clear ho2 hg2 hm2; simp only [Nat.zero_add])
        refine hK.out _ _ ?_ (fun hHeld => ?_)
        · (try dsimp only); go_keep
        clear hK K
        try simp only [Act.put, List.setIfInBounds_toArray, List.set_cons_zero, List.set_cons_succ, List.getElem_toArray, List.getElem_cons_zero, List.getElem_cons_succ]
        refine wpAnyH_ready (rs := [9]) (by kernel_rfl) (by simp) ?_
        refine (AllReadyH.cons (o := _) rfl (fun K hK => ?_) AllReadyH.nil)
        go_simp
        refine hK.out _ _ ?_ (fun hHeld => ?_)
        · (try dsimp only); go_keep
        clear hK K
        try simp only [Act.put, List.setIfInBounds_toArray, List.set_cons_zero, List.set_cons_succ, List.getElem_toArray, List.getElem_cons_zero, List.getElem_cons_succ]
        refine wpAnyH_ready (rs := [10]) (by kernel_rfl) (by simp) ?_
        refine (AllReadyH.cons (o := _) rfl (fun K hK => ?_) AllReadyH.nil)
        (refine step_appV (by rfl) (.tmp 24) (.tmp 30) 22 (by rfl) 76 i0 _ 3 48 Try.underlying22 hi0 iz0 iz1 iz2 rfl (by omega) w1.heap.size (.slice ao n cap) n (cellsQ L) (by rfl) (own_below HO2.out (below_alloc _ _)) (fun _ => True) (.slice (some ⟨w2.heap.size, 0, none⟩) 1 1) 1 (QD.cells ⟨queue, en, []⟩ (.slice none 0 0)) (by rfl) ((SliceV.sub (row_any' w2 (QD.cells ⟨queue, en, []⟩ (.slice none 0 0)) 76 1 w2.heap.size rfl (by simp [maxLen])) (fun b hb => ⟨trivial, rfl⟩))) rfl (by simp [IT.cells, QD.cells, newI, Value.oneCell']) (by unfold maxLen; omega) (by omega) (by first | omega | (simp <;> omega)) ?_; intro ao2 cap2 w3 ho3 hg3 hm3; have HB3 : Hid (Below w1.heap.size w1 w3) := ⟨hg3.os.trans HB2.out.os, hg3.tape.trans HB2.out.tape, hg3.output.trans HB2.out.output, (by have := hg3.size; first | omega | (simp at this; omega)), fun b hb => (hg3.block b (by first | omega | (simp <;> omega)) (fun e => by have := (HO2.out.lt b e.symm).1; omega)).trans ((Below.heap_alloc _ _ _ (by omega)).trans (HB2.out.block b hb))⟩; have HO3 : Hid (w3.ownsRow w1.heap.size 76 3 (.slice ao2 (n + 1) cap2) (n + 1) (cellsQ L ++ QD.cells ⟨queue, en, []⟩ (.slice none 0 0))) := ho3; have hz3' := HB3.out.size; obtain ⟨s0, s1, s2, s3⟩ := (KA.out w3 (HB1.out.trans (HB3.out.mono (by omega)))).2.1.b2; obtain ⟨s4, s5, s6, s7, s8, s9, s10, s11⟩ := (KA.out w3 (HB1.out.trans (HB3.out.mono (by omega)))).2.2.1.b6; obtain ⟨s12, s13, s14, s15⟩ := (KA.out w3 (HB1.out.trans (HB3.out.mono (by omega)))).2.2.2.1.b2; clear ho3 hg3 hm3)
        refine hK.out _ _ ?_ (fun hHeld => ?_)
        · (try dsimp only); go_keep
        clear hK K
        try simp only [Act.put, List.setIfInBounds_toArray, List.set_cons_zero, List.set_cons_succ, List.getElem_toArray, List.getElem_cons_zero, List.getElem_cons_succ]
        refine wpAnyH_take (i := 11) (oi := _) (v := ?_) rfl (by kernel_rfl) (by kernel_rfl) (by kernel_rfl) (fun _ _ _ h => h) (Or.inl ⟨by rfl, ?_⟩) (by assumption) ?_
        rotate_left
        · (intro w' hSw; (try dsimp only at hSw); go_simp <;> (try with_reducible rfl))
        try simp only [Act.put, List.setIfInBounds_toArray, List.set_cons_zero, List.set_cons_succ, List.getElem_toArray, List.getElem_cons_zero, List.getElem_cons_succ]
        refine wpAnyH_ready (rs := [12]) (by kernel_rfl) (by simp) ?_
        refine AllReadyH.cons (o := _) rfl (fun K hK => ?_) AllReadyH.nil
        go_simp
        refine hK.out _ _ ?_ (fun hHeld => ?_)
        · (try dsimp only); go_keep
        clear hK K
        try simp only [Act.put, List.setIfInBounds_toArray, List.set_cons_zero, List.set_cons_succ, List.getElem_toArray, List.getElem_cons_zero, List.getElem_cons_succ]
        refine wpAnyH_done (by kernel_rfl) ?_ _
        refine NoPanic.normal ?_
        have hAP : AP S w (w3.setCell ⟨w.heap.size, 0, none⟩ (.slice ao2 (n + 1) cap2)) ao2 cap2 ⟨qs', h.next⟩ := HEND.out ao2 cap2 w3 HB3.out HO3.out
        have HF : Hid (ApAns S ⟨qs', h.next⟩ w (.returned (.agg #[.slice ao2 (n + 1) cap2, .int .i64 h.next])) (((w3.setCell ⟨w.heap.size, 0, none⟩ (.slice ao2 (n + 1) cap2)).setCell ⟨w.heap.size + 2, 0, none⟩ (.slice ao2 (n + 1) cap2)).setCell ⟨w.heap.size + 2, 1, none⟩ (.int .i64 h.next))) := by
          have h := hAP.ans HSS.out
          simp only [HQL.out] at h
          exact h
        clear hAP
        go_wp2_with fail
        exact bodyPost_ret (v := .agg #[.slice ao2 (n + 1) cap2, .int .i64 h.next]) (by simp [results, Try.results18, go_sem, *]; done) rfl HF.out

      · go_simp
        refine hK.out _ _ ?_ (fun hHeld => ?_)
        · (try dsimp only); go_keep
        clear hK K
        try simp only [Act.put, List.setIfInBounds_toArray, List.set_cons_zero, List.set_cons_succ, List.getElem_toArray, List.getElem_cons_zero, List.getElem_cons_succ]
        refine wpAnyH_ready (rs := [3]) (by kernel_rfl) (by simp) ?_
        refine (AllReadyH.cons (o := _) rfl (fun K hK => ?_) AllReadyH.nil)
        (refine step_appV (by rfl) (.tmp 21) (.tmp 23) 22 (by rfl) 76 i0 _ 3 48 Try.underlying22 hi0 iz0 iz1 iz2 rfl (by omega) w1.heap.size (.slice (some ⟨w1.heap.size, 0, none⟩) 0 0) 0 [] (by rfl) (HOW2.out _ rfl) S (.slice va n vc) n (cellsQ L) (by rfl) (HSL2.out _ rfl) HCL.out HO.out (by unfold maxLen; omega) (by omega) (by first | omega | (simp <;> omega)) ?_; intro ao cap w2 ho2 hg2 hm2; have HB2 : Hid (Below w1.heap.size w1 w2) := ⟨hg2.os, hg2.tape, hg2.output, (by have := hg2.size; simp at this; omega), fun b hb => (hg2.block b (by simp; omega) (fun e => by simp only [Value.ownBlock, Option.some.injEq] at e; omega)).trans ((Below.heap_alloc _ _ _ (by simp; omega)).trans (Below.heap_alloc _ _ _ hb))⟩; have HO2 : Hid (w2.ownsRow w1.heap.size 76 3 (.slice ao n cap) n (cellsQ L)) := (by have h := ho2; rw [Nat.zero_add, List.nil_append] at h; exact h); have HI2 : Hid (SliceV (fun _ => True) w2 (.slice (some ⟨w1.heap.size + 1, 0, none⟩) 1 1) 1 (QD.cells ⟨queue, en, []⟩ (.slice none 0 0))) := SliceV.sub (row_any' (w1.alloc (.cells #[] 76)) (QD.cells ⟨queue, en, []⟩ (.slice none 0 0)) 76 1 (w1.heap.size + 1) (by simp) (by simp [maxLen])) (fun b hb => ⟨trivial, hg2.block b (by subst hb; simp) (fun e => by simp only [Value.ownBlock, Option.some.injEq] at e; omega)⟩); have hz2' := HB2.out.size; obtain ⟨p0, p1, p2, p3⟩ := (KA.out w2 (HB1.out.trans (HB2.out.mono (by omega)))).2.1.b2; obtain ⟨p4, p5, p6, p7, p8, p9, p10, p11⟩ := (KA.out w2 (HB1.out.trans (HB2.out.mono (by omega)))).2.2.1.b6; obtain ⟨p12, p13, p14, p15⟩ := (KA.out w2 (HB1.out.trans (HB2.out.mono (by omega)))).2.2.2.1.b2; clear ho2 hg2 hm2; simp only [Nat.zero_add])
        refine hK.out _ _ ?_ (fun hHeld => ?_)
        · (try dsimp only); go_keep
        clear hK K
        try simp only [Act.put, List.setIfInBounds_toArray, List.set_cons_zero, List.set_cons_succ, List.getElem_toArray, List.getElem_cons_zero, List.getElem_cons_succ]
        refine wpAnyH_ready (rs := [10]) (by kernel_rfl) (by simp) ?_
        refine (AllReadyH.cons (o := _) rfl (fun K hK => ?_) AllReadyH.nil)
        (refine step_appV (by rfl) (.tmp 24) (.tmp 30) 22 (by rfl) 76 i0 _ 3 48 Try.underlying22 hi0 iz0 iz1 iz2 rfl (by omega) w1.heap.size (.slice ao n cap) n (cellsQ L) (by rfl) (HO2.out) (fun _ => True) (.slice (some ⟨w1.heap.size + 1, 0, none⟩) 1 1) 1 (QD.cells ⟨queue, en, []⟩ (.slice none 0 0)) (by rfl) (HI2.out) rfl (by simp [IT.cells, QD.cells, newI, Value.oneCell']) (by unfold maxLen; omega) (by omega) (by first | omega | (simp <;> omega)) ?_; intro ao2 cap2 w3 ho3 hg3 hm3; have HB3 : Hid (Below w1.heap.size w1 w3) := ⟨hg3.os.trans HB2.out.os, hg3.tape.trans HB2.out.tape, hg3.output.trans HB2.out.output, (by have := hg3.size; first | omega | (simp at this; omega)), fun b hb => (hg3.block b (by first | omega | (simp <;> omega)) (fun e => by have := (HO2.out.lt b e.symm).1; omega)).trans (HB2.out.block b hb)⟩; have HO3 : Hid (w3.ownsRow w1.heap.size 76 3 (.slice ao2 (n + 1) cap2) (n + 1) (cellsQ L ++ QD.cells ⟨queue, en, []⟩ (.slice none 0 0))) := ho3; have hz3' := HB3.out.size; obtain ⟨s0, s1, s2, s3⟩ := (KA.out w3 (HB1.out.trans (HB3.out.mono (by omega)))).2.1.b2; obtain ⟨s4, s5, s6, s7, s8, s9, s10, s11⟩ := (KA.out w3 (HB1.out.trans (HB3.out.mono (by omega)))).2.2.1.b6; obtain ⟨s12, s13, s14, s15⟩ := (KA.out w3 (HB1.out.trans (HB3.out.mono (by omega)))).2.2.2.1.b2; clear ho3 hg3 hm3)
        refine hK.out _ _ ?_ (fun hHeld => ?_)
        · (try dsimp only); go_keep
        clear hK K
        try simp only [Act.put, List.setIfInBounds_toArray, List.set_cons_zero, List.set_cons_succ, List.getElem_toArray, List.getElem_cons_zero, List.getElem_cons_succ]
        refine wpAnyH_take (i := 11) (oi := _) (v := ?_) rfl (by kernel_rfl) (by kernel_rfl) (by kernel_rfl) (fun _ _ _ h => h) (Or.inl ⟨by rfl, ?_⟩) (by assumption) ?_
        rotate_left
        · (intro w' hSw; (try dsimp only at hSw); go_simp <;> (try with_reducible rfl))
        try simp only [Act.put, List.setIfInBounds_toArray, List.set_cons_zero, List.set_cons_succ, List.getElem_toArray, List.getElem_cons_zero, List.getElem_cons_succ]
        refine wpAnyH_ready (rs := [12]) (by kernel_rfl) (by simp) ?_
        refine AllReadyH.cons (o := _) rfl (fun K hK => ?_) AllReadyH.nil
        go_simp
        refine hK.out _ _ ?_ (fun hHeld => ?_)
        · (try dsimp only); go_keep
        clear hK K
        try simp only [Act.put, List.setIfInBounds_toArray, List.set_cons_zero, List.set_cons_succ, List.getElem_toArray, List.getElem_cons_zero, List.getElem_cons_succ]
        refine wpAnyH_done (by kernel_rfl) ?_ _
        refine NoPanic.normal ?_
        have hAP : AP S w (w3.setCell ⟨w.heap.size, 0, none⟩ (.slice ao2 (n + 1) cap2)) ao2 cap2 ⟨qs', h.next⟩ := HEND.out ao2 cap2 w3 HB3.out HO3.out
        have HF : Hid (ApAns S ⟨qs', h.next⟩ w (.returned (.agg #[.slice ao2 (n + 1) cap2, .int .i64 h.next])) (((w3.setCell ⟨w.heap.size, 0, none⟩ (.slice ao2 (n + 1) cap2)).setCell ⟨w.heap.size + 2, 0, none⟩ (.slice ao2 (n + 1) cap2)).setCell ⟨w.heap.size + 2, 1, none⟩ (.int .i64 h.next))) := by
          have h := hAP.ans HSS.out
          simp only [HQL.out] at h
          exact h
        clear hAP
        go_wp2_with fail
        exact bodyPost_ret (v := .agg #[.slice ao2 (n + 1) cap2, .int .i64 h.next]) (by simp [results, Try.results18, go_sem, *]; done) rfl HF.out


    · go_simp
      refine hK.out _ _ ?_ (fun hHeld => ?_)
      · (try dsimp only); go_keep
      clear hK K
      try simp only [Act.put, List.setIfInBounds_toArray, List.set_cons_zero, List.set_cons_succ, List.getElem_toArray, List.getElem_cons_zero, List.getElem_cons_succ]
      refine wpAnyH_ready (rs := [0]) (by kernel_rfl) (by simp) ?_
      refine (AllReadyH.cons (o := _) rfl (fun K hK => ?_) AllReadyH.nil)
      go_simp
      refine hK.out _ _ ?_ (fun hHeld => ?_)
      · (try dsimp only); go_keep
      clear hK K
      try simp only [Act.put, List.setIfInBounds_toArray, List.set_cons_zero, List.set_cons_succ, List.getElem_toArray, List.getElem_cons_zero, List.getElem_cons_succ]
      refine wpAnyH_ready (rs := [3]) (by kernel_rfl) (by simp) ?_
      refine (AllReadyH.cons (o := _) rfl (fun K hK => ?_) AllReadyH.nil)
      (refine step_appV (by rfl) (.tmp 21) (.tmp 23) 22 (by rfl) 76 i0 _ 3 48 Try.underlying22 hi0 iz0 iz1 iz2 rfl (by omega) w1.heap.size (.slice (some ⟨w1.heap.size + 1, 0, none⟩) 0 0) 0 [] (by rfl) (HOW3.out _ rfl) S (.slice va n vc) n (cellsQ L) (by rfl) (HSL3.out _ rfl) HCL.out HO.out (by unfold maxLen; omega) (by omega) (by first | omega | (simp <;> omega)) ?_; intro ao cap w2 ho2 hg2 hm2; have HB2 : Hid (Below w1.heap.size w1 w2) := ⟨hg2.os, hg2.tape, hg2.output, (by have := hg2.size; simp at this; omega), fun b hb => (hg2.block b (by simp; omega) (fun e => by simp only [Value.ownBlock, Option.some.injEq] at e; omega)).trans ((Below.heap_alloc _ _ _ (by simp; omega)).trans (Below.heap_alloc _ _ _ hb))⟩; have HO2 : Hid (w2.ownsRow w1.heap.size 76 3 (.slice ao n cap) n (cellsQ L)) := (by have h := ho2; rw [Nat.zero_add, List.nil_append] at h; exact h); have HI2 : Hid (SliceV (fun _ => True) w2 (.slice (some ⟨w1.heap.size, 0, none⟩) 1 1) 1 (QD.cells ⟨queue, en, []⟩ (.slice none 0 0))) := SliceV.sub (row_any' w1 (QD.cells ⟨queue, en, []⟩ (.slice none 0 0)) 76 1 (w1.heap.size) rfl (by simp [maxLen])) (fun b hb => ⟨trivial, (hg2.block b (by subst hb; simp <;> omega) (fun e => by simp only [Value.ownBlock, Option.some.injEq] at e; omega)).trans (Below.heap_alloc _ _ _ (by subst hb; simp))⟩); have hz2' := HB2.out.size; obtain ⟨p0, p1, p2, p3⟩ := (KA.out w2 (HB1.out.trans (HB2.out.mono (by omega)))).2.1.b2; obtain ⟨p4, p5, p6, p7, p8, p9, p10, p11⟩ := (KA.out w2 (HB1.out.trans (HB2.out.mono (by omega)))).2.2.1.b6; obtain ⟨p12, p13, p14, p15⟩ := (KA.out w2 (HB1.out.trans (HB2.out.mono (by omega)))).2.2.2.1.b2; clear ho2 hg2 hm2; simp only [Nat.zero_add])
      refine hK.out _ _ ?_ (fun hHeld => ?_)
      · (try dsimp only); go_keep
      clear hK K
      try simp only [Act.put, List.setIfInBounds_toArray, List.set_cons_zero, List.set_cons_succ, List.getElem_toArray, List.getElem_cons_zero, List.getElem_cons_succ]
      refine wpAnyH_ready (rs := [10]) (by kernel_rfl) (by simp) ?_
      refine (AllReadyH.cons (o := _) rfl (fun K hK => ?_) AllReadyH.nil)
      (refine step_appV (by rfl) (.tmp 24) (.tmp 30) 22 (by rfl) 76 i0 _ 3 48 Try.underlying22 hi0 iz0 iz1 iz2 rfl (by omega) w1.heap.size (.slice ao n cap) n (cellsQ L) (by rfl) (HO2.out) (fun _ => True) (.slice (some ⟨w1.heap.size, 0, none⟩) 1 1) 1 (QD.cells ⟨queue, en, []⟩ (.slice none 0 0)) (by rfl) (HI2.out) rfl (by simp [IT.cells, QD.cells, newI, Value.oneCell']) (by unfold maxLen; omega) (by omega) (by first | omega | (simp <;> omega)) ?_; intro ao2 cap2 w3 ho3 hg3 hm3; have HB3 : Hid (Below w1.heap.size w1 w3) := ⟨hg3.os.trans HB2.out.os, hg3.tape.trans HB2.out.tape, hg3.output.trans HB2.out.output, (by have := hg3.size; first | omega | (simp at this; omega)), fun b hb => (hg3.block b (by first | omega | (simp <;> omega)) (fun e => by have := (HO2.out.lt b e.symm).1; omega)).trans (HB2.out.block b hb)⟩; have HO3 : Hid (w3.ownsRow w1.heap.size 76 3 (.slice ao2 (n + 1) cap2) (n + 1) (cellsQ L ++ QD.cells ⟨queue, en, []⟩ (.slice none 0 0))) := ho3; have hz3' := HB3.out.size; obtain ⟨s0, s1, s2, s3⟩ := (KA.out w3 (HB1.out.trans (HB3.out.mono (by omega)))).2.1.b2; obtain ⟨s4, s5, s6, s7, s8, s9, s10, s11⟩ := (KA.out w3 (HB1.out.trans (HB3.out.mono (by omega)))).2.2.1.b6; obtain ⟨s12, s13, s14, s15⟩ := (KA.out w3 (HB1.out.trans (HB3.out.mono (by omega)))).2.2.2.1.b2; clear ho3 hg3 hm3)
      refine hK.out _ _ ?_ (fun hHeld => ?_)
      · (try dsimp only); go_keep
      clear hK K
      try simp only [Act.put, List.setIfInBounds_toArray, List.set_cons_zero, List.set_cons_succ, List.getElem_toArray, List.getElem_cons_zero, List.getElem_cons_succ]
      refine wpAnyH_take (i := 11) (oi := _) (v := ?_) rfl (by kernel_rfl) (by kernel_rfl) (by kernel_rfl) (fun _ _ _ h => h) (Or.inl ⟨by rfl, ?_⟩) (by assumption) ?_
      rotate_left
      · (intro w' hSw; (try dsimp only at hSw); go_simp <;> (try with_reducible rfl))
      try simp only [Act.put, List.setIfInBounds_toArray, List.set_cons_zero, List.set_cons_succ, List.getElem_toArray, List.getElem_cons_zero, List.getElem_cons_succ]
      refine wpAnyH_ready (rs := [12]) (by kernel_rfl) (by simp) ?_
      refine AllReadyH.cons (o := _) rfl (fun K hK => ?_) AllReadyH.nil
      go_simp
      refine hK.out _ _ ?_ (fun hHeld => ?_)
      · (try dsimp only); go_keep
      clear hK K
      try simp only [Act.put, List.setIfInBounds_toArray, List.set_cons_zero, List.set_cons_succ, List.getElem_toArray, List.getElem_cons_zero, List.getElem_cons_succ]
      refine wpAnyH_done (by kernel_rfl) ?_ _
      refine NoPanic.normal ?_
      have hAP : AP S w (w3.setCell ⟨w.heap.size, 0, none⟩ (.slice ao2 (n + 1) cap2)) ao2 cap2 ⟨qs', h.next⟩ := HEND.out ao2 cap2 w3 HB3.out HO3.out
      have HF : Hid (ApAns S ⟨qs', h.next⟩ w (.returned (.agg #[.slice ao2 (n + 1) cap2, .int .i64 h.next])) (((w3.setCell ⟨w.heap.size, 0, none⟩ (.slice ao2 (n + 1) cap2)).setCell ⟨w.heap.size + 2, 0, none⟩ (.slice ao2 (n + 1) cap2)).setCell ⟨w.heap.size + 2, 1, none⟩ (.int .i64 h.next))) := by
        have h := hAP.ans HSS.out
        simp only [HQL.out] at h
        exact h
      clear hAP
      go_wp2_with fail
      exact bodyPost_ret (v := .agg #[.slice ao2 (n + 1) cap2, .int .i64 h.next]) (by simp [results, Try.results18, go_sem, *]; done) rfl HF.out


  · go_simp
    refine hK.out _ _ ?_ (fun hHeld => ?_)
    · (try dsimp only); go_keep
    clear hK K
    try simp only [Act.put, List.setIfInBounds_toArray, List.set_cons_zero, List.set_cons_succ, List.getElem_toArray, List.getElem_cons_zero, List.getElem_cons_succ]
    refine wpAnyH_ready (rs := [0, 2]) (by kernel_rfl) (by simp) ?_
    refine (AllReadyH.cons (o := _) rfl (fun K hK => ?_) (AllReadyH.cons (o := _) rfl (fun K hK => ?_) AllReadyH.nil))
    · go_simp
      refine hK.out _ _ ?_ (fun hHeld => ?_)
      · (try dsimp only); go_keep
      clear hK K
      try simp only [Act.put, List.setIfInBounds_toArray, List.set_cons_zero, List.set_cons_succ, List.getElem_toArray, List.getElem_cons_zero, List.getElem_cons_succ]
      refine wpAnyH_ready (rs := [2]) (by kernel_rfl) (by simp) ?_
      refine (AllReadyH.cons (o := _) rfl (fun K hK => ?_) AllReadyH.nil)
      go_simp
      refine hK.out _ _ ?_ (fun hHeld => ?_)
      · (try dsimp only); go_keep
      clear hK K
      try simp only [Act.put, List.setIfInBounds_toArray, List.set_cons_zero, List.set_cons_succ, List.getElem_toArray, List.getElem_cons_zero, List.getElem_cons_succ]
      refine wpAnyH_ready (rs := [3]) (by kernel_rfl) (by simp) ?_
      refine (AllReadyH.cons (o := _) rfl (fun K hK => ?_) AllReadyH.nil)
      (refine step_appV (by rfl) (.tmp 21) (.tmp 23) 22 (by rfl) 76 i0 _ 3 48 Try.underlying22 hi0 iz0 iz1 iz2 rfl (by omega) w1.heap.size (.slice (some ⟨w1.heap.size + 1, 0, none⟩) 0 0) 0 [] (by rfl) (HOW3.out _ rfl) S (.slice va n vc) n (cellsQ L) (by rfl) (HSL3.out _ rfl) HCL.out HO.out (by unfold maxLen; omega) (by omega) (by first | omega | (simp <;> omega)) ?_; intro ao cap w2 ho2 hg2 hm2; have HB2 : Hid (Below w1.heap.size w1 w2) := ⟨hg2.os, hg2.tape, hg2.output, (by have := hg2.size; simp at this; omega), fun b hb => (hg2.block b (by simp; omega) (fun e => by simp only [Value.ownBlock, Option.some.injEq] at e; omega)).trans ((Below.heap_alloc _ _ _ (by simp; omega)).trans (Below.heap_alloc _ _ _ hb))⟩; have HO2 : Hid (w2.ownsRow w1.heap.size 76 3 (.slice ao n cap) n (cellsQ L)) := (by have h := ho2; rw [Nat.zero_add, List.nil_append] at h; exact h); have HI2 : Hid (SliceV (fun _ => True) w2 (.slice (some ⟨w1.heap.size, 0, none⟩) 1 1) 1 (QD.cells ⟨queue, en, []⟩ (.slice none 0 0))) := SliceV.sub (row_any' w1 (QD.cells ⟨queue, en, []⟩ (.slice none 0 0)) 76 1 (w1.heap.size) rfl (by simp [maxLen])) (fun b hb => ⟨trivial, (hg2.block b (by subst hb; simp <;> omega) (fun e => by simp only [Value.ownBlock, Option.some.injEq] at e; omega)).trans (Below.heap_alloc _ _ _ (by subst hb; simp))⟩); have hz2' := HB2.out.size; obtain ⟨p0, p1, p2, p3⟩ := (KA.out w2 (HB1.out.trans (HB2.out.mono (by omega)))).2.1.b2; obtain ⟨p4, p5, p6, p7, p8, p9, p10, p11⟩ := (KA.out w2 (HB1.out.trans (HB2.out.mono (by omega)))).2.2.1.b6; obtain ⟨p12, p13, p14, p15⟩ := (KA.out w2 (HB1.out.trans (HB2.out.mono (by omega)))).2.2.2.1.b2; clear ho2 hg2 hm2; simp only [Nat.zero_add])
      refine hK.out _ _ ?_ (fun hHeld => ?_)
      · (try dsimp only); go_keep
      clear hK K
      try simp only [Act.put, List.setIfInBounds_toArray, List.set_cons_zero, List.set_cons_succ, List.getElem_toArray, List.getElem_cons_zero, List.getElem_cons_succ]
      refine wpAnyH_ready (rs := [10]) (by kernel_rfl) (by simp) ?_
      refine (AllReadyH.cons (o := _) rfl (fun K hK => ?_) AllReadyH.nil)
      (refine step_appV (by rfl) (.tmp 24) (.tmp 30) 22 (by rfl) 76 i0 _ 3 48 Try.underlying22 hi0 iz0 iz1 iz2 rfl (by omega) w1.heap.size (.slice ao n cap) n (cellsQ L) (by rfl) (HO2.out) (fun _ => True) (.slice (some ⟨w1.heap.size, 0, none⟩) 1 1) 1 (QD.cells ⟨queue, en, []⟩ (.slice none 0 0)) (by rfl) (HI2.out) rfl (by simp [IT.cells, QD.cells, newI, Value.oneCell']) (by unfold maxLen; omega) (by omega) (by first | omega | (simp <;> omega)) ?_; intro ao2 cap2 w3 ho3 hg3 hm3; have HB3 : Hid (Below w1.heap.size w1 w3) := ⟨hg3.os.trans HB2.out.os, hg3.tape.trans HB2.out.tape, hg3.output.trans HB2.out.output, (by have := hg3.size; first | omega | (simp at this; omega)), fun b hb => (hg3.block b (by first | omega | (simp <;> omega)) (fun e => by have := (HO2.out.lt b e.symm).1; omega)).trans (HB2.out.block b hb)⟩; have HO3 : Hid (w3.ownsRow w1.heap.size 76 3 (.slice ao2 (n + 1) cap2) (n + 1) (cellsQ L ++ QD.cells ⟨queue, en, []⟩ (.slice none 0 0))) := ho3; have hz3' := HB3.out.size; obtain ⟨s0, s1, s2, s3⟩ := (KA.out w3 (HB1.out.trans (HB3.out.mono (by omega)))).2.1.b2; obtain ⟨s4, s5, s6, s7, s8, s9, s10, s11⟩ := (KA.out w3 (HB1.out.trans (HB3.out.mono (by omega)))).2.2.1.b6; obtain ⟨s12, s13, s14, s15⟩ := (KA.out w3 (HB1.out.trans (HB3.out.mono (by omega)))).2.2.2.1.b2; clear ho3 hg3 hm3)
      refine hK.out _ _ ?_ (fun hHeld => ?_)
      · (try dsimp only); go_keep
      clear hK K
      try simp only [Act.put, List.setIfInBounds_toArray, List.set_cons_zero, List.set_cons_succ, List.getElem_toArray, List.getElem_cons_zero, List.getElem_cons_succ]
      refine wpAnyH_take (i := 11) (oi := _) (v := ?_) rfl (by kernel_rfl) (by kernel_rfl) (by kernel_rfl) (fun _ _ _ h => h) (Or.inl ⟨by rfl, ?_⟩) (by assumption) ?_
      rotate_left
      · (intro w' hSw; (try dsimp only at hSw); go_simp <;> (try with_reducible rfl))
      try simp only [Act.put, List.setIfInBounds_toArray, List.set_cons_zero, List.set_cons_succ, List.getElem_toArray, List.getElem_cons_zero, List.getElem_cons_succ]
      refine wpAnyH_ready (rs := [12]) (by kernel_rfl) (by simp) ?_
      refine AllReadyH.cons (o := _) rfl (fun K hK => ?_) AllReadyH.nil
      go_simp
      refine hK.out _ _ ?_ (fun hHeld => ?_)
      · (try dsimp only); go_keep
      clear hK K
      try simp only [Act.put, List.setIfInBounds_toArray, List.set_cons_zero, List.set_cons_succ, List.getElem_toArray, List.getElem_cons_zero, List.getElem_cons_succ]
      refine wpAnyH_done (by kernel_rfl) ?_ _
      refine NoPanic.normal ?_
      have hAP : AP S w (w3.setCell ⟨w.heap.size, 0, none⟩ (.slice ao2 (n + 1) cap2)) ao2 cap2 ⟨qs', h.next⟩ := HEND.out ao2 cap2 w3 HB3.out HO3.out
      have HF : Hid (ApAns S ⟨qs', h.next⟩ w (.returned (.agg #[.slice ao2 (n + 1) cap2, .int .i64 h.next])) (((w3.setCell ⟨w.heap.size, 0, none⟩ (.slice ao2 (n + 1) cap2)).setCell ⟨w.heap.size + 2, 0, none⟩ (.slice ao2 (n + 1) cap2)).setCell ⟨w.heap.size + 2, 1, none⟩ (.int .i64 h.next))) := by
        have h := hAP.ans HSS.out
        simp only [HQL.out] at h
        exact h
      clear hAP
      go_wp2_with fail
      exact bodyPost_ret (v := .agg #[.slice ao2 (n + 1) cap2, .int .i64 h.next]) (by simp [results, Try.results18, go_sem, *]; done) rfl HF.out

    · go_simp
      refine hK.out _ _ ?_ (fun hHeld => ?_)
      · (try dsimp only); go_keep
      clear hK K
      try simp only [Act.put, List.setIfInBounds_toArray, List.set_cons_zero, List.set_cons_succ, List.getElem_toArray, List.getElem_cons_zero, List.getElem_cons_succ]
      refine wpAnyH_ready (rs := [0]) (by kernel_rfl) (by simp) ?_
      refine (AllReadyH.cons (o := _) rfl (fun K hK => ?_) AllReadyH.nil)
      go_simp
      refine hK.out _ _ ?_ (fun hHeld => ?_)
      · (try dsimp only); go_keep
      clear hK K
      try simp only [Act.put, List.setIfInBounds_toArray, List.set_cons_zero, List.set_cons_succ, List.getElem_toArray, List.getElem_cons_zero, List.getElem_cons_succ]
      refine wpAnyH_ready (rs := [3]) (by kernel_rfl) (by simp) ?_
      refine (AllReadyH.cons (o := _) rfl (fun K hK => ?_) AllReadyH.nil)
      (refine step_appV (by rfl) (.tmp 21) (.tmp 23) 22 (by rfl) 76 i0 _ 3 48 Try.underlying22 hi0 iz0 iz1 iz2 rfl (by omega) w1.heap.size (.slice (some ⟨w1.heap.size + 1, 0, none⟩) 0 0) 0 [] (by rfl) (HOW3.out _ rfl) S (.slice va n vc) n (cellsQ L) (by rfl) (HSL3.out _ rfl) HCL.out HO.out (by unfold maxLen; omega) (by omega) (by first | omega | (simp <;> omega)) ?_; intro ao cap w2 ho2 hg2 hm2; have HB2 : Hid (Below w1.heap.size w1 w2) := ⟨hg2.os, hg2.tape, hg2.output, (by have := hg2.size; simp at this; omega), fun b hb => (hg2.block b (by simp; omega) (fun e => by simp only [Value.ownBlock, Option.some.injEq] at e; omega)).trans ((Below.heap_alloc _ _ _ (by simp; omega)).trans (Below.heap_alloc _ _ _ hb))⟩; have HO2 : Hid (w2.ownsRow w1.heap.size 76 3 (.slice ao n cap) n (cellsQ L)) := (by have h := ho2; rw [Nat.zero_add, List.nil_append] at h; exact h); have HI2 : Hid (SliceV (fun _ => True) w2 (.slice (some ⟨w1.heap.size, 0, none⟩) 1 1) 1 (QD.cells ⟨queue, en, []⟩ (.slice none 0 0))) := SliceV.sub (row_any' w1 (QD.cells ⟨queue, en, []⟩ (.slice none 0 0)) 76 1 (w1.heap.size) rfl (by simp [maxLen])) (fun b hb => ⟨trivial, (hg2.block b (by subst hb; simp <;> omega) (fun e => by simp only [Value.ownBlock, Option.some.injEq] at e; omega)).trans (Below.heap_alloc _ _ _ (by subst hb; simp))⟩); have hz2' := HB2.out.size; obtain ⟨p0, p1, p2, p3⟩ := (KA.out w2 (HB1.out.trans (HB2.out.mono (by omega)))).2.1.b2; obtain ⟨p4, p5, p6, p7, p8, p9, p10, p11⟩ := (KA.out w2 (HB1.out.trans (HB2.out.mono (by omega)))).2.2.1.b6; obtain ⟨p12, p13, p14, p15⟩ := (KA.out w2 (HB1.out.trans (HB2.out.mono (by omega)))).2.2.2.1.b2; clear ho2 hg2 hm2; simp only [Nat.zero_add])
      refine hK.out _ _ ?_ (fun hHeld => ?_)
      · (try dsimp only); go_keep
      clear hK K
      try simp only [Act.put, List.setIfInBounds_toArray, List.set_cons_zero, List.set_cons_succ, List.getElem_toArray, List.getElem_cons_zero, List.getElem_cons_succ]
      refine wpAnyH_ready (rs := [10]) (by kernel_rfl) (by simp) ?_
      refine (AllReadyH.cons (o := _) rfl (fun K hK => ?_) AllReadyH.nil)
      (refine step_appV (by rfl) (.tmp 24) (.tmp 30) 22 (by rfl) 76 i0 _ 3 48 Try.underlying22 hi0 iz0 iz1 iz2 rfl (by omega) w1.heap.size (.slice ao n cap) n (cellsQ L) (by rfl) (HO2.out) (fun _ => True) (.slice (some ⟨w1.heap.size, 0, none⟩) 1 1) 1 (QD.cells ⟨queue, en, []⟩ (.slice none 0 0)) (by rfl) (HI2.out) rfl (by simp [IT.cells, QD.cells, newI, Value.oneCell']) (by unfold maxLen; omega) (by omega) (by first | omega | (simp <;> omega)) ?_; intro ao2 cap2 w3 ho3 hg3 hm3; have HB3 : Hid (Below w1.heap.size w1 w3) := ⟨hg3.os.trans HB2.out.os, hg3.tape.trans HB2.out.tape, hg3.output.trans HB2.out.output, (by have := hg3.size; first | omega | (simp at this; omega)), fun b hb => (hg3.block b (by first | omega | (simp <;> omega)) (fun e => by have := (HO2.out.lt b e.symm).1; omega)).trans (HB2.out.block b hb)⟩; have HO3 : Hid (w3.ownsRow w1.heap.size 76 3 (.slice ao2 (n + 1) cap2) (n + 1) (cellsQ L ++ QD.cells ⟨queue, en, []⟩ (.slice none 0 0))) := ho3; have hz3' := HB3.out.size; obtain ⟨s0, s1, s2, s3⟩ := (KA.out w3 (HB1.out.trans (HB3.out.mono (by omega)))).2.1.b2; obtain ⟨s4, s5, s6, s7, s8, s9, s10, s11⟩ := (KA.out w3 (HB1.out.trans (HB3.out.mono (by omega)))).2.2.1.b6; obtain ⟨s12, s13, s14, s15⟩ := (KA.out w3 (HB1.out.trans (HB3.out.mono (by omega)))).2.2.2.1.b2; clear ho3 hg3 hm3)
      refine hK.out _ _ ?_ (fun hHeld => ?_)
      · (try dsimp only); go_keep
      clear hK K
      try simp only [Act.put, List.setIfInBounds_toArray, List.set_cons_zero, List.set_cons_succ, List.getElem_toArray, List.getElem_cons_zero, List.getElem_cons_succ]
      refine wpAnyH_take (i := 11) (oi := _) (v := ?_) rfl (by kernel_rfl) (by kernel_rfl) (by kernel_rfl) (fun _ _ _ h => h) (Or.inl ⟨by rfl, ?_⟩) (by assumption) ?_
      rotate_left
      · (intro w' hSw; (try dsimp only at hSw); go_simp <;> (try with_reducible rfl))
      try simp only [Act.put, List.setIfInBounds_toArray, List.set_cons_zero, List.set_cons_succ, List.getElem_toArray, List.getElem_cons_zero, List.getElem_cons_succ]
      refine wpAnyH_ready (rs := [12]) (by kernel_rfl) (by simp) ?_
      refine AllReadyH.cons (o := _) rfl (fun K hK => ?_) AllReadyH.nil
      go_simp
      refine hK.out _ _ ?_ (fun hHeld => ?_)
      · (try dsimp only); go_keep
      clear hK K
      try simp only [Act.put, List.setIfInBounds_toArray, List.set_cons_zero, List.set_cons_succ, List.getElem_toArray, List.getElem_cons_zero, List.getElem_cons_succ]
      refine wpAnyH_done (by kernel_rfl) ?_ _
      refine NoPanic.normal ?_
      have hAP : AP S w (w3.setCell ⟨w.heap.size, 0, none⟩ (.slice ao2 (n + 1) cap2)) ao2 cap2 ⟨qs', h.next⟩ := HEND.out ao2 cap2 w3 HB3.out HO3.out
      have HF : Hid (ApAns S ⟨qs', h.next⟩ w (.returned (.agg #[.slice ao2 (n + 1) cap2, .int .i64 h.next])) (((w3.setCell ⟨w.heap.size, 0, none⟩ (.slice ao2 (n + 1) cap2)).setCell ⟨w.heap.size + 2, 0, none⟩ (.slice ao2 (n + 1) cap2)).setCell ⟨w.heap.size + 2, 1, none⟩ (.int .i64 h.next))) := by
        have h := hAP.ans HSS.out
        simp only [HQL.out] at h
        exact h
      clear hAP
      go_wp2_with fail
      exact bodyPost_ret (v := .agg #[.slice ao2 (n + 1) cap2, .int .i64 h.next]) (by simp [results, Try.results18, go_sem, *]; done) rfl HF.out


end Go.Proofs.Ytkddkpdfeeikhaa
