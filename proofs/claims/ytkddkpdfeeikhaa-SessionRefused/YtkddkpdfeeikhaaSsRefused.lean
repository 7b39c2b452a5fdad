/-
  For every right hall, log and session, and every ask: what session.Do refuses leaves all as it was, but for a tag.
-/
import Derived.Test.YtkddkpdfeeikhaaSsRefProofM48
import Derived.Test.YtkddkpdfeeikhaaSsRefProofM49
import Derived.Test.YtkddkpdfeeikhaaSsRefProofM23
import Derived.Deep.DeepCutAuto
namespace Go.Proofs.Ytkddkpdfeeikhaa
open Go.RowKit
set_option linter.unusedVariables false
set_option linter.unusedSimpArgs false

attribute [local go_sem ↓] Go.wp_at_zero Go.wp_at_succ

theorem four_alloc (w : World) (o1 o2 o3 o4 : Obj) : Below w.heap.size w ((((w.alloc o1).alloc o2).alloc o3).alloc o4) := (((below_alloc _ _).alloc (by simp) _).alloc (by simp; omega) _).alloc (by simp; omega) _
theorem four_blk (w : World) (c1 c2 c3 c4 : List Value) (t1 t2 t3 t4 : TypeId) :
    Blk ((((w.alloc (.cells c1.toArray t1)).alloc (.cells c2.toArray t2)).alloc (.cells c3.toArray t3)).alloc (.cells c4.toArray t4)) w.heap.size c1 ∧ Blk ((((w.alloc (.cells c1.toArray t1)).alloc (.cells c2.toArray t2)).alloc (.cells c3.toArray t3)).alloc (.cells c4.toArray t4)) (w.heap.size + 1) c2 ∧
      Blk ((((w.alloc (.cells c1.toArray t1)).alloc (.cells c2.toArray t2)).alloc (.cells c3.toArray t3)).alloc (.cells c4.toArray t4)) (w.heap.size + 1 + 1) c3 ∧ Blk ((((w.alloc (.cells c1.toArray t1)).alloc (.cells c2.toArray t2)).alloc (.cells c3.toArray t3)).alloc (.cells c4.toArray t4)) (w.heap.size + 1 + 1 + 1) c4 := by
  have k1 := (((Blk.new w c1 t1).alloc (.cells c2.toArray t2)).alloc (.cells c3.toArray t3)).alloc (.cells c4.toArray t4)
  have k2 := ((Blk.new (w.alloc (.cells c1.toArray t1)) c2 t2).alloc (.cells c3.toArray t3)).alloc (.cells c4.toArray t4)
  have k3 := (Blk.new ((w.alloc (.cells c1.toArray t1)).alloc (.cells c2.toArray t2)) c3 t3).alloc (.cells c4.toArray t4)
  have k4 := Blk.new (((w.alloc (.cells c1.toArray t1)).alloc (.cells c2.toArray t2)).alloc (.cells c3.toArray t3)) c4 t4
  simp only [World.size_alloc] at k2 k3 k4
  exact ⟨k1, k2, k3, k4⟩
/-- What the law is given. -/
structure RG (hv lv tv : Value) (d : DK) (a : AD) (pv bv : Value) (w : World) : Prop where
  q : SliceQ (Under w.heap.size) w hv d.h.queues
  l : SliceB (Under w.heap.size) w lv d.l
  t : SliceT (Under w.heap.size) w tv d.ts
  n : NoteIs (Under w.heap.size) w (pv, bv) a.note
  name : ∀ q ∈ d.h.queues, q.name.size ≤ maxLen
  fit : ∀ q ∈ d.h.queues, ∀ i ∈ q.items, i.note.fitN
  ll : d.l.length ≤ 140737488355328
  tl : d.ts.length ≤ 3518437208832
  aq : a.queue.size ≤ maxLen
  af : a.note.fitN
theorem RG.on {hv lv tv : Value} {d : DK} {a : AD} {pv bv : Value} {w W : World} (H : RG hv lv tv d a pv bv w) (hb : Below w.heap.size w W) : RG hv lv tv d a pv bv W :=
  ⟨H.q.sub fun b h => ⟨Nat.lt_of_lt_of_le h hb.size, hb.block b h⟩, SliceV.sub H.l fun b h => ⟨Nat.lt_of_lt_of_le h hb.size, hb.block b h⟩, SliceV.sub H.t fun b h => ⟨Nat.lt_of_lt_of_le h hb.size, hb.block b h⟩, H.n.sub fun b h => ⟨Nat.lt_of_lt_of_le h hb.size, hb.block b h⟩, H.name, H.fit, H.ll, H.tl, H.aq, H.af⟩

set_option maxRecDepth 100000 in
set_option maxHeartbeats 12800000 in
theorem refA (hv lv tv : Value) (d : DK) (a : AD) (pv bv : Value) (now : Int) (w : World) (G : RG hv lv tv d a pv bv w) (d' : DK) (sk sn sm se : Int) (nd : ND) (z : Int) (he : d.answer a now = (d', ⟨sk, sn, sm, se, nd⟩, z)) (hnow : 0 ≤ now ∧ now ≤ 1000) (h0 : z = 0) (h4 : ¬ sk = 4) (h3 : ¬ sk = 3) :
    Calls Try.prog 6 #[.agg #[hv, .int .i64 d.h.next], .agg #[lv, .int .i64 d.sure], .agg #[tv, .int .i64 d.nx], .agg #[.int .i64 a.kind, .string a.queue, .int .i64 a.n, pv, bv], .int .i64 now] w fun e w' => e = .returned (.bool true) ∧ Below w.heap.size w w' := by
  subst h0
  have HG : Hid (RG hv lv tv d a pv bv w) := G
  have HE : Hid (d.answer a now = (d', ⟨sk, sn, sm, se, nd⟩, 0)) := he
  obtain ⟨va, vc, rfl⟩ := G.q.shp
  obtain ⟨ua, uc, rfl, -⟩ := SliceV.shape G.l
  obtain ⟨ta, tc, rfl, -⟩ := SliceV.shape G.t
  obtain ⟨pa, pc, rfl, -⟩ := SliceV.shape G.n.1
  obtain ⟨ba, bc, rfl, -⟩ := SliceV.shape G.n.2
  obtain ⟨qn, hqn⟩ : ∃ n, n = d.h.queues.length := ⟨_, rfl⟩
  obtain ⟨ln, hln⟩ : ∃ n, n = d.l.length := ⟨_, rfl⟩
  obtain ⟨tn, htn⟩ : ∃ n, n = d.ts.length := ⟨_, rfl⟩
  obtain ⟨pn, hpn⟩ : ∃ n, n = a.note.props.length := ⟨_, rfl⟩
  obtain ⟨bn, hbn⟩ : ∃ n, n = a.note.body.length := ⟨_, rfl⟩
  rw [← hqn, ← hln, ← htn, ← hpn, ← hbn] at HG
  rw [← hqn, ← hln, ← htn, ← hpn, ← hbn]
  have HLN : Hid (qn = d.h.queues.length ∧ ln = d.l.length ∧ tn = d.ts.length) := ⟨hqn, hln, htn⟩
  have hn0 : ¬ now < 0 := by omega
  have hn1 : ¬ 1000 < now := by omega
  have HNW : Hid (0 ≤ now ∧ now ≤ 1000) := hnow
  clear G he hqn hln htn hpn hbn hnow
  obtain ⟨A, hA⟩ : ∃ A, A = (((w.alloc (.cells #[.slice va qn vc, .int .i64 d.h.next] 24)).alloc (.cells #[.slice ua ln uc, .int .i64 d.sure] 32)).alloc (.cells #[.slice ta tn tc, .int .i64 d.nx] 64)).alloc (.cells #[.int .i64 a.kind, .string a.queue, .int .i64 a.n, .slice pa pn pc, .slice ba bn bc] 66) := ⟨_, rfl⟩
  have K : Hid (∀ W, Below A.heap.size A W → RG (.slice va qn vc) (.slice ua ln uc) (.slice ta tn tc) d a (.slice pa pn pc) (.slice ba bn bc) W ∧ Below w.heap.size w W ∧ Blk W w.heap.size [.slice va qn vc, .int .i64 d.h.next] ∧ Blk W (w.heap.size + 1) [.slice ua ln uc, .int .i64 d.sure] ∧ Blk W (w.heap.size + 1 + 1) [.slice ta tn tc, .int .i64 d.nx] ∧ Blk W (w.heap.size + 1 + 1 + 1) [.int .i64 a.kind, .string a.queue, .int .i64 a.n, .slice pa pn pc, .slice ba bn bc]) := by
    show ∀ W : World, _
    intro W hW
    have hB : Below w.heap.size w A := by rw [hA]; exact four_alloc w _ _ _ _
    have hb : Below w.heap.size w W := hB.trans (hW.mono hB.size)
    have hk := four_blk w [.slice va qn vc, .int .i64 d.h.next] [.slice ua ln uc, .int .i64 d.sure] [.slice ta tn tc, .int .i64 d.nx] [.int .i64 a.kind, .string a.queue, .int .i64 a.n, .slice pa pn pc, .slice ba bn bc] 24 32 64 66
    have hk' : Blk A w.heap.size [.slice va qn vc, .int .i64 d.h.next] ∧ Blk A (w.heap.size + 1) [.slice ua ln uc, .int .i64 d.sure] ∧ Blk A (w.heap.size + 1 + 1) [.slice ta tn tc, .int .i64 d.nx] ∧ Blk A (w.heap.size + 1 + 1 + 1) [.int .i64 a.kind, .string a.queue, .int .i64 a.n, .slice pa pn pc, .slice ba bn bc] := by rw [hA]; exact hk
    obtain ⟨k1, k2, k3, k4⟩ := hk'
    exact ⟨HG.out.on hb, hb, k1.below hW k1.lt, k2.below hW k2.lt, k3.below hW k3.lt, k4.below hW k4.lt⟩
  go_enter Try.func6, Try.ntmps6
  go_upto_region 1 with fail
  rw [← hA]
  clear hA
  go_upto_region 3 with (first
    | (go_at_call 35; refine (alive6_any A).mono ?_; rintro r w1 ⟨rfl, hb1⟩; have B1 : Hid (Below A.heap.size A w1) := hb1; obtain ⟨c0, c1, c2, c3⟩ := (K.out _ hb1).2.2.1.b2; obtain ⟨c4, c5, c6, c7⟩ := (K.out _ hb1).2.2.2.1.b2; obtain ⟨c8, c9, c10, c11⟩ := (K.out _ hb1).2.2.2.2.1.b2; clear hb1)
    | fail)
  go_upto_region 5 with (first
    | (go_at_call 36; refine (right6_any _ _ _ d.h _ _ d.l d.ts _ (K.out _ B1.out).1.q (K.out _ B1.out).1.name (K.out _ B1.out).1.fit (K.out _ B1.out).1.l (K.out _ B1.out).1.t).mono ?_; rintro r w2 ⟨rb, rfl, hrt, hb2⟩; have B2 : Hid (Below A.heap.size A w2) := B1.out.trans (hb2.mono B1.out.size); have HRT : Hid (rb = true → d.h.sound ∧ 0 ≤ d.nx ∧ d.nx < 1000000) := hrt; clear c0 c1 c2 c3 c4 c5 c6 c7 c8 c9 c10 c11 hb2 hrt)
    | fail)
  rotate_left
  · go_ret
    exact ⟨rfl, (K.out _ B2.out).2.1⟩
  have HS : Hid (d.h.sound ∧ 0 ≤ d.nx ∧ d.nx < 1000000) := HRT.out (by assumption)
  obtain ⟨c0, c1, c2, c3⟩ := (K.out _ B2.out).2.2.1.b2
  obtain ⟨c4, c5, c6, c7⟩ := (K.out _ B2.out).2.2.2.1.b2
  obtain ⟨c8, c9, c10, c11⟩ := (K.out _ B2.out).2.2.2.2.1.b2
  obtain ⟨⟨c12, c13, c14, c15, c16⟩, cf⟩ : (w2.cell? ⟨w.heap.size + 1 + 1 + 1, 0, none⟩ = some (.int .i64 a.kind) ∧ w2.cell? ⟨w.heap.size + 1 + 1 + 1, 1, none⟩ = some (.string a.queue) ∧ w2.cell? ⟨w.heap.size + 1 + 1 + 1, 2, none⟩ = some (.int .i64 a.n) ∧ w2.cell? ⟨w.heap.size + 1 + 1 + 1, 3, none⟩ = some (.slice pa pn pc) ∧ w2.cell? ⟨w.heap.size + 1 + 1 + 1, 4, none⟩ = some (.slice ba bn bc)) ∧ w.heap.size + 1 + 1 + 1 < w2.heap.size := by
    have hk := (K.out _ B2.out).2.2.2.2.2
    exact ⟨⟨hk.cell 0, hk.cell 1, hk.cell 2, hk.cell 3, hk.cell 4⟩, hk.lt⟩
  obtain ⟨px, hpx⟩ : ∃ n, n = nd.props.length := ⟨_, rfl⟩
  obtain ⟨bx, hbx⟩ : ∃ n, n = nd.body.length := ⟨_, rfl⟩
  obtain ⟨q1, hq1⟩ : ∃ n, n = d'.h.queues.length := ⟨_, rfl⟩
  obtain ⟨l1, hl1⟩ : ∃ n, n = d'.l.length := ⟨_, rfl⟩
  obtain ⟨t1, ht1⟩ : ∃ n, n = d'.ts.length := ⟨_, rfl⟩
  obtain ⟨i1, hi1⟩ : ∃ n, n = d'.h.next := ⟨_, rfl⟩
  obtain ⟨i2, hi2⟩ : ∃ n, n = d'.sure := ⟨_, rfl⟩
  obtain ⟨i3, hi3⟩ : ∃ n, n = d'.nx := ⟨_, rfl⟩
  have P : Hid (Calls Try.prog 37 #[.agg #[.slice va qn vc, .int .i64 d.h.next], .agg #[.slice ua ln uc, .int .i64 d.sure], .agg #[.slice ta tn tc, .int .i64 d.nx], .agg #[.int .i64 a.kind, .string a.queue, .int .i64 a.n, .slice pa pn pc, .slice ba bn bc], .int .i64 now] w2 (DA w2 d' q1 l1 t1 sk sn sm se px bx 0 i1 i2 i3)) := by
    have g := (K.out _ B2.out).1
    have := do_any d (.slice va qn vc) (.slice ua ln uc) (.slice ta tn tc) a (.slice pa pn pc) (.slice ba bn bc) now w2 g.q g.l g.t (okD_of HS.out.1 g.ll g.tl ⟨HS.out.2.1, by have := HS.out.2.2; omega⟩ ⟨HNW.out.1, by have := HNW.out.2; omega⟩) g.n g.aq g.af
    rw [HE.out] at this
    exact this.mono fun e w' h => DA.of h hq1 hl1 ht1 hpx hbx hi1 hi2 hi3
  clear hpx hbx hq1 hl1 ht1 hi1 hi2 hi3 hn0 hn1
  go_upto_region 6 with (first
    | (go_at_call 37; refine P.out.mono ?_; rintro e w3 ⟨xa, xc, ya, yc, za, zc, pa3, pc3, ba3, bc3, rfl, hq3, hl3, ht3, hb3⟩; have H3 : Hid _ := And.intro hq3 (And.intro hl3 (And.intro ht3 hb3)); clear hq3 hl3 ht3 hb3 c0 c1 c2 c3 c4 c5 c6 c7 c8 c9 c10 c11 c12 c13 c14 c15 c16 cf; simp only)
    | fail)
  obtain ⟨B, hB⟩ : ∃ B, B = (((w3.alloc (.cells #[.slice xa q1 xc, .int .i64 i1] 24)).alloc (.cells #[.slice ya l1 yc, .int .i64 i2] 32)).alloc (.cells #[.slice za t1 zc, .int .i64 i3] 64)).alloc (.cells #[.int .i64 sk, .int .i64 sn, .int .i64 sm, .int .i64 se, .slice pa3 px pc3, .slice ba3 bx bc3] 69) := ⟨_, rfl⟩
  have HB : Hid (Below A.heap.size A B ∧ Below w3.heap.size w3 B ∧ Blk B w3.heap.size [.slice xa q1 xc, .int .i64 i1] ∧ Blk B (w3.heap.size + 1) [.slice ya l1 yc, .int .i64 i2] ∧ Blk B (w3.heap.size + 1 + 1) [.slice za t1 zc, .int .i64 i3] ∧ Blk B (w3.heap.size + 1 + 1 + 1) [.int .i64 sk, .int .i64 sn, .int .i64 sm, .int .i64 se, .slice pa3 px pc3, .slice ba3 bx bc3]) := by
    have hk := four_blk w3 [.slice xa q1 xc, .int .i64 i1] [.slice ya l1 yc, .int .i64 i2] [.slice za t1 zc, .int .i64 i3] [.int .i64 sk, .int .i64 sn, .int .i64 sm, .int .i64 se, .slice pa3 px pc3, .slice ba3 bx bc3] 24 32 64 69
    have hb := H3.out.2.2.2
    have h4 : Below w3.heap.size w3 B := by rw [hB]; exact four_alloc w3 _ _ _ _
    refine ⟨B2.out.trans ((hb.trans (h4.mono hb.size)).mono B2.out.size), h4, ?_⟩
    rw [hB]
    exact hk
  rw [← hB]
  clear hB P
  have s0 : B.cell? ⟨w3.heap.size + 1 + 1 + 1, 0, none⟩ = some (.int .i64 sk) := HB.out.2.2.2.2.2.cell 0
  have h4' : (sk != 4) = true := by simp [h4]
  have h3' : (sk != 3) = true := by simp [h3]
  go_upto_region 8 with fail
  all_goals (go_ret; exact ⟨rfl, (K.out _ HB.out.1).2.1⟩)

set_option maxRecDepth 100000 in
set_option maxHeartbeats 12800000 in
theorem ref9s (hv lv tv : Value) (d : DK) (a : AD) (pv bv : Value) (now : Int) (w : World) (G : RG hv lv tv d a pv bv w) (sk sn sm se : Int) (nd : ND) (z : Int) (he : d.answer a now = (⟨d.h, d.l, d.sure, d.ts, d.nx⟩, ⟨sk, sn, sm, se, nd⟩, z)) (hnow : 0 ≤ now ∧ now ≤ 1000) (h0 : ¬ z = 0) :
    Calls Try.prog 6 #[.agg #[hv, .int .i64 d.h.next], .agg #[lv, .int .i64 d.sure], .agg #[tv, .int .i64 d.nx], .agg #[.int .i64 a.kind, .string a.queue, .int .i64 a.n, pv, bv], .int .i64 now] w fun e w' => e = .returned (.bool true) ∧ Below w.heap.size w w' := by
  have HG : Hid (RG hv lv tv d a pv bv w) := G
  have HE : Hid (d.answer a now = (⟨d.h, d.l, d.sure, d.ts, d.nx⟩, ⟨sk, sn, sm, se, nd⟩, z)) := he
  obtain ⟨va, vc, rfl⟩ := G.q.shp
  obtain ⟨ua, uc, rfl, -⟩ := SliceV.shape G.l
  obtain ⟨ta, tc, rfl, -⟩ := SliceV.shape G.t
  obtain ⟨pa, pc, rfl, -⟩ := SliceV.shape G.n.1
  obtain ⟨ba, bc, rfl, -⟩ := SliceV.shape G.n.2
  obtain ⟨qn, hqn⟩ : ∃ n, n = d.h.queues.length := ⟨_, rfl⟩
  obtain ⟨ln, hln⟩ : ∃ n, n = d.l.length := ⟨_, rfl⟩
  obtain ⟨tn, htn⟩ : ∃ n, n = d.ts.length := ⟨_, rfl⟩
  obtain ⟨pn, hpn⟩ : ∃ n, n = a.note.props.length := ⟨_, rfl⟩
  obtain ⟨bn, hbn⟩ : ∃ n, n = a.note.body.length := ⟨_, rfl⟩
  rw [← hqn, ← hln, ← htn, ← hpn, ← hbn] at HG
  rw [← hqn, ← hln, ← htn, ← hpn, ← hbn]
  have HLN : Hid (qn = d.h.queues.length ∧ ln = d.l.length ∧ tn = d.ts.length) := ⟨hqn, hln, htn⟩
  have hn0 : ¬ now < 0 := by omega
  have hn1 : ¬ 1000 < now := by omega
  have HNW : Hid (0 ≤ now ∧ now ≤ 1000) := hnow
  clear G he hqn hln htn hpn hbn hnow
  obtain ⟨A, hA⟩ : ∃ A, A = (((w.alloc (.cells #[.slice va qn vc, .int .i64 d.h.next] 24)).alloc (.cells #[.slice ua ln uc, .int .i64 d.sure] 32)).alloc (.cells #[.slice ta tn tc, .int .i64 d.nx] 64)).alloc (.cells #[.int .i64 a.kind, .string a.queue, .int .i64 a.n, .slice pa pn pc, .slice ba bn bc] 66) := ⟨_, rfl⟩
  have K : Hid (∀ W, Below A.heap.size A W → RG (.slice va qn vc) (.slice ua ln uc) (.slice ta tn tc) d a (.slice pa pn pc) (.slice ba bn bc) W ∧ Below w.heap.size w W ∧ Blk W w.heap.size [.slice va qn vc, .int .i64 d.h.next] ∧ Blk W (w.heap.size + 1) [.slice ua ln uc, .int .i64 d.sure] ∧ Blk W (w.heap.size + 1 + 1) [.slice ta tn tc, .int .i64 d.nx] ∧ Blk W (w.heap.size + 1 + 1 + 1) [.int .i64 a.kind, .string a.queue, .int .i64 a.n, .slice pa pn pc, .slice ba bn bc]) := by
    show ∀ W : World, _
    intro W hW
    have hB : Below w.heap.size w A := by rw [hA]; exact four_alloc w _ _ _ _
    have hb : Below w.heap.size w W := hB.trans (hW.mono hB.size)
    have hk := four_blk w [.slice va qn vc, .int .i64 d.h.next] [.slice ua ln uc, .int .i64 d.sure] [.slice ta tn tc, .int .i64 d.nx] [.int .i64 a.kind, .string a.queue, .int .i64 a.n, .slice pa pn pc, .slice ba bn bc] 24 32 64 66
    have hk' : Blk A w.heap.size [.slice va qn vc, .int .i64 d.h.next] ∧ Blk A (w.heap.size + 1) [.slice ua ln uc, .int .i64 d.sure] ∧ Blk A (w.heap.size + 1 + 1) [.slice ta tn tc, .int .i64 d.nx] ∧ Blk A (w.heap.size + 1 + 1 + 1) [.int .i64 a.kind, .string a.queue, .int .i64 a.n, .slice pa pn pc, .slice ba bn bc] := by rw [hA]; exact hk
    obtain ⟨k1, k2, k3, k4⟩ := hk'
    exact ⟨HG.out.on hb, hb, k1.below hW k1.lt, k2.below hW k2.lt, k3.below hW k3.lt, k4.below hW k4.lt⟩
  go_enter Try.func6, Try.ntmps6
  go_upto_region 1 with fail
  rw [← hA]
  clear hA
  go_upto_region 3 with (first
    | (go_at_call 35; refine (alive6_any A).mono ?_; rintro r w1 ⟨rfl, hb1⟩; have B1 : Hid (Below A.heap.size A w1) := hb1; obtain ⟨c0, c1, c2, c3⟩ := (K.out _ hb1).2.2.1.b2; obtain ⟨c4, c5, c6, c7⟩ := (K.out _ hb1).2.2.2.1.b2; obtain ⟨c8, c9, c10, c11⟩ := (K.out _ hb1).2.2.2.2.1.b2; clear hb1)
    | fail)
  go_upto_region 5 with (first
    | (go_at_call 36; refine (right6_any _ _ _ d.h _ _ d.l d.ts _ (K.out _ B1.out).1.q (K.out _ B1.out).1.name (K.out _ B1.out).1.fit (K.out _ B1.out).1.l (K.out _ B1.out).1.t).mono ?_; rintro r w2 ⟨rb, rfl, hrt, hb2⟩; have B2 : Hid (Below A.heap.size A w2) := B1.out.trans (hb2.mono B1.out.size); have HRT : Hid (rb = true → d.h.sound ∧ 0 ≤ d.nx ∧ d.nx < 1000000) := hrt; clear c0 c1 c2 c3 c4 c5 c6 c7 c8 c9 c10 c11 hb2 hrt)
    | fail)
  rotate_left
  · go_ret
    exact ⟨rfl, (K.out _ B2.out).2.1⟩
  have HS : Hid (d.h.sound ∧ 0 ≤ d.nx ∧ d.nx < 1000000) := HRT.out (by assumption)
  obtain ⟨c0, c1, c2, c3⟩ := (K.out _ B2.out).2.2.1.b2
  obtain ⟨c4, c5, c6, c7⟩ := (K.out _ B2.out).2.2.2.1.b2
  obtain ⟨c8, c9, c10, c11⟩ := (K.out _ B2.out).2.2.2.2.1.b2
  obtain ⟨⟨c12, c13, c14, c15, c16⟩, cf⟩ : (w2.cell? ⟨w.heap.size + 1 + 1 + 1, 0, none⟩ = some (.int .i64 a.kind) ∧ w2.cell? ⟨w.heap.size + 1 + 1 + 1, 1, none⟩ = some (.string a.queue) ∧ w2.cell? ⟨w.heap.size + 1 + 1 + 1, 2, none⟩ = some (.int .i64 a.n) ∧ w2.cell? ⟨w.heap.size + 1 + 1 + 1, 3, none⟩ = some (.slice pa pn pc) ∧ w2.cell? ⟨w.heap.size + 1 + 1 + 1, 4, none⟩ = some (.slice ba bn bc)) ∧ w.heap.size + 1 + 1 + 1 < w2.heap.size := by
    have hk := (K.out _ B2.out).2.2.2.2.2
    exact ⟨⟨hk.cell 0, hk.cell 1, hk.cell 2, hk.cell 3, hk.cell 4⟩, hk.lt⟩
  obtain ⟨px, hpx⟩ : ∃ n, n = nd.props.length := ⟨_, rfl⟩
  obtain ⟨bx, hbx⟩ : ∃ n, n = nd.body.length := ⟨_, rfl⟩
  have P : Hid (Calls Try.prog 37 #[.agg #[.slice va qn vc, .int .i64 d.h.next], .agg #[.slice ua ln uc, .int .i64 d.sure], .agg #[.slice ta tn tc, .int .i64 d.nx], .agg #[.int .i64 a.kind, .string a.queue, .int .i64 a.n, .slice pa pn pc, .slice ba bn bc], .int .i64 now] w2 (DA w2 ⟨d.h, d.l, d.sure, d.ts, d.nx⟩ qn ln tn sk sn sm se px bx z d.h.next d.sure d.nx)) := by
    have g := (K.out _ B2.out).1
    have := do_any d (.slice va qn vc) (.slice ua ln uc) (.slice ta tn tc) a (.slice pa pn pc) (.slice ba bn bc) now w2 g.q g.l g.t (okD_of HS.out.1 g.ll g.tl ⟨HS.out.2.1, by have := HS.out.2.2; omega⟩ ⟨HNW.out.1, by have := HNW.out.2; omega⟩) g.n g.aq g.af
    rw [HE.out] at this
    exact this.mono fun e w' h => DA.of h HLN.out.1 HLN.out.2.1 HLN.out.2.2 hpx hbx rfl rfl rfl
  clear hpx hbx hn0 hn1
  go_upto_region 6 with (first
    | (go_at_call 37; refine P.out.mono ?_; rintro e w3 ⟨xa, xc, ya, yc, za, zc, pa3, pc3, ba3, bc3, rfl, hq3, hl3, ht3, hb3⟩; have H3 : Hid _ := And.intro hq3 (And.intro hl3 (And.intro ht3 hb3)); clear hq3 hl3 ht3 hb3 c0 c1 c2 c3 c4 c5 c6 c7 c8 c9 c10 c11 c12 c13 c14 c15 c16 cf; simp only)
    | fail)
  obtain ⟨B, hB⟩ : ∃ B, B = (((w3.alloc (.cells #[.slice xa qn xc, .int .i64 d.h.next] 24)).alloc (.cells #[.slice ya ln yc, .int .i64 d.sure] 32)).alloc (.cells #[.slice za tn zc, .int .i64 d.nx] 64)).alloc (.cells #[.int .i64 sk, .int .i64 sn, .int .i64 sm, .int .i64 se, .slice pa3 px pc3, .slice ba3 bx bc3] 69) := ⟨_, rfl⟩
  have HB : Hid (Below A.heap.size A B ∧ Below w3.heap.size w3 B ∧ Blk B w3.heap.size [.slice xa qn xc, .int .i64 d.h.next] ∧ Blk B (w3.heap.size + 1) [.slice ya ln yc, .int .i64 d.sure] ∧ Blk B (w3.heap.size + 1 + 1) [.slice za tn zc, .int .i64 d.nx] ∧ Blk B (w3.heap.size + 1 + 1 + 1) [.int .i64 sk, .int .i64 sn, .int .i64 sm, .int .i64 se, .slice pa3 px pc3, .slice ba3 bx bc3]) := by
    have hk := four_blk w3 [.slice xa qn xc, .int .i64 d.h.next] [.slice ya ln yc, .int .i64 d.sure] [.slice za tn zc, .int .i64 d.nx] [.int .i64 sk, .int .i64 sn, .int .i64 sm, .int .i64 se, .slice pa3 px pc3, .slice ba3 bx bc3] 24 32 64 69
    have hb := H3.out.2.2.2
    have h4 : Below w3.heap.size w3 B := by rw [hB]; exact four_alloc w3 _ _ _ _
    refine ⟨B2.out.trans ((hb.trans (h4.mono hb.size)).mono B2.out.size), h4, ?_⟩
    rw [hB]
    exact hk
  rw [← hB]
  clear hB P
  have s0 : B.cell? ⟨w3.heap.size + 1 + 1 + 1, 0, none⟩ = some (.int .i64 sk) := HB.out.2.2.2.2.2.cell 0
  have KB : Hid (∀ W, Below B.heap.size B W → ((W.cell? ⟨w.heap.size, 0, none⟩ = some (.slice va qn vc) ∧ W.cell? ⟨w.heap.size, 1, none⟩ = some (.int .i64 d.h.next)) ∧ (W.cell? ⟨w.heap.size + 1, 0, none⟩ = some (.slice ua ln uc) ∧ W.cell? ⟨w.heap.size + 1, 1, none⟩ = some (.int .i64 d.sure)) ∧ (W.cell? ⟨w.heap.size + 1 + 1, 0, none⟩ = some (.slice ta tn tc) ∧ W.cell? ⟨w.heap.size + 1 + 1, 1, none⟩ = some (.int .i64 d.nx)) ∧ W.cell? ⟨w.heap.size + 1 + 1 + 1, 0, none⟩ = some (.int .i64 a.kind)) ∧
      ((W.cell? ⟨w3.heap.size, 0, none⟩ = some (.slice xa qn xc) ∧ W.cell? ⟨w3.heap.size, 1, none⟩ = some (.int .i64 d.h.next)) ∧ (W.cell? ⟨w3.heap.size + 1, 0, none⟩ = some (.slice ya ln yc) ∧ W.cell? ⟨w3.heap.size + 1, 1, none⟩ = some (.int .i64 d.sure)) ∧ (W.cell? ⟨w3.heap.size + 1 + 1, 0, none⟩ = some (.slice za tn zc) ∧ W.cell? ⟨w3.heap.size + 1 + 1, 1, none⟩ = some (.int .i64 d.nx))) ∧
      RG (.slice va qn vc) (.slice ua ln uc) (.slice ta tn tc) d a (.slice pa pn pc) (.slice ba bn bc) W ∧ Below w.heap.size w W ∧ SliceQ (Under W.heap.size) W (.slice xa qn xc) d.h.queues ∧ SliceB (Under W.heap.size) W (.slice ya ln yc) d.l ∧ SliceT (Under W.heap.size) W (.slice za tn zc) d.ts) := by
    show ∀ W : World, _
    intro W hW
    obtain ⟨h1, h2, k1, k2, k3, k4⟩ := HB.out
    have hA := h1.trans (hW.mono h1.size)
    have h3 := h2.trans (hW.mono h2.size)
    obtain ⟨g, hb, j1, j2, j3, j4⟩ := K.out _ hA
    have k1 := k1.below hW k1.lt
    have k2 := k2.below hW k2.lt
    have k3 := k3.below hW k3.lt
    have off : ∀ b, Made w2.heap.size w3.heap.size b → Under W.heap.size b ∧ W.heap[b]? = w3.heap[b]? := fun b h => ⟨Nat.lt_of_lt_of_le h.2 h3.size, h3.block b h.2⟩
    exact ⟨⟨⟨j1.cell 0, j1.cell 1⟩, ⟨j2.cell 0, j2.cell 1⟩, ⟨j3.cell 0, j3.cell 1⟩, j4.cell 0⟩, ⟨⟨k1.cell 0, k1.cell 1⟩, ⟨k2.cell 0, k2.cell 1⟩, ⟨k3.cell 0, k3.cell 1⟩⟩, g, hb, H3.out.1.sub off, SliceV.sub H3.out.2.1 off, SliceV.sub H3.out.2.2.1 off⟩
  obtain ⟨⟨⟨c0, c1⟩, ⟨c2, c3⟩, ⟨c4, c5⟩, c6⟩, ⟨⟨d0, d1⟩, ⟨d2, d3⟩, d4, d5⟩, -⟩ := KB.out B (Below.refl _ _)
  go_wp2_with (first
    | (go_at_call 11; refine (sameHall_true _ _ d.h HS.out.1.good.small B (KB.out B (Below.refl _ _)).2.2.2.2.1 (KB.out B (Below.refl _ _)).2.2.1.q).mono ?_; rintro r w4 ⟨rfl, hb4⟩; have H4 : Hid (Below B.heap.size B w4) := hb4; clear c0 c1 c2 c3 c4 c5 c6 d0 d1 d2 d3 d4 d5 hb4; obtain ⟨⟨⟨c0, c1⟩, ⟨c2, c3⟩, ⟨c4, c5⟩, c6⟩, ⟨⟨d0, d1⟩, ⟨d2, d3⟩, d4, d5⟩, -⟩ := KB.out w4 H4.out)
    | (go_at_call 22; refine (SR.sameLog_eq _ _ d.sure d.l w4 (bytes_sr (KB.out w4 H4.out).2.2.2.2.2.1) (bytes_sr (KB.out w4 H4.out).2.2.1.l)).mono ?_; rintro r w5 ⟨rfl, hb5⟩; have H5 : Hid (Below B.heap.size B w5) := H4.out.trans (Below.mono ⟨hb5.os, hb5.tape, hb5.output, hb5.size, hb5.block⟩ H4.out.size); clear c0 c1 c2 c3 c4 c5 c6 d0 d1 d2 d3 d4 d5 hb5; obtain ⟨⟨⟨c0, c1⟩, ⟨c2, c3⟩, ⟨c4, c5⟩, c6⟩, ⟨⟨d0, d1⟩, ⟨d2, d3⟩, d4, d5⟩, -⟩ := KB.out w5 H5.out)
    | (go_at_call 38; refine (sameSession_true _ _ d.nx d.ts w5 (KB.out w5 H5.out).2.2.2.2.2.2 (KB.out w5 H5.out).2.2.1.t).mono ?_; rintro r w6 ⟨rfl, hb6⟩; have H6 : Hid (Below B.heap.size B w6) := H5.out.trans (hb6.mono H5.out.size); clear c0 c1 c2 c3 c4 c5 c6 d0 d1 d2 d3 d4 d5 hb6; obtain ⟨⟨⟨c0, c1⟩, ⟨c2, c3⟩, ⟨c4, c5⟩, c6⟩, ⟨⟨d0, d1⟩, ⟨d2, d3⟩, d4, d5⟩, -⟩ := KB.out w6 H6.out)
    | fail)
  all_goals (go_ret; exact ⟨rfl, (KB.out w6 H6.out).2.2.2.1⟩)

set_option maxRecDepth 100000 in
set_option maxHeartbeats 12800000 in
theorem ref9t (hv lv tv : Value) (d : DK) (a : AD) (pv bv : Value) (now : Int) (w : World) (G : RG hv lv tv d a pv bv w) (ts' : List TD) (sk sn sm se : Int) (nd : ND) (z : Int) (he : d.answer a now = (⟨d.h, d.l, d.sure, ts', d.nx⟩, ⟨sk, sn, sm, se, nd⟩, z)) (hnow : 0 ≤ now ∧ now ≤ 1000) (h0 : ¬ z = 0) (hk : a.kind = 7 ∨ a.kind = 8) (hts : ts'.length + 1 = d.ts.length) :
    Calls Try.prog 6 #[.agg #[hv, .int .i64 d.h.next], .agg #[lv, .int .i64 d.sure], .agg #[tv, .int .i64 d.nx], .agg #[.int .i64 a.kind, .string a.queue, .int .i64 a.n, pv, bv], .int .i64 now] w fun e w' => e = .returned (.bool true) ∧ Below w.heap.size w w' := by
  have HG : Hid (RG hv lv tv d a pv bv w) := G
  have HE : Hid (d.answer a now = (⟨d.h, d.l, d.sure, ts', d.nx⟩, ⟨sk, sn, sm, se, nd⟩, z)) := he
  obtain ⟨va, vc, rfl⟩ := G.q.shp
  obtain ⟨ua, uc, rfl, -⟩ := SliceV.shape G.l
  obtain ⟨ta, tc, rfl, -⟩ := SliceV.shape G.t
  obtain ⟨pa, pc, rfl, -⟩ := SliceV.shape G.n.1
  obtain ⟨ba, bc, rfl, -⟩ := SliceV.shape G.n.2
  obtain ⟨qn, hqn⟩ : ∃ n, n = d.h.queues.length := ⟨_, rfl⟩
  obtain ⟨ln, hln⟩ : ∃ n, n = d.l.length := ⟨_, rfl⟩
  obtain ⟨tn, htn⟩ : ∃ n, n = d.ts.length := ⟨_, rfl⟩
  obtain ⟨pn, hpn⟩ : ∃ n, n = a.note.props.length := ⟨_, rfl⟩
  obtain ⟨bn, hbn⟩ : ∃ n, n = a.note.body.length := ⟨_, rfl⟩
  rw [← hqn, ← hln, ← htn, ← hpn, ← hbn] at HG
  rw [← hqn, ← hln, ← htn, ← hpn, ← hbn]
  have HLN : Hid (qn = d.h.queues.length ∧ ln = d.l.length ∧ tn = d.ts.length) := ⟨hqn, hln, htn⟩
  have hn0 : ¬ now < 0 := by omega
  have hn1 : ¬ 1000 < now := by omega
  have HNW : Hid (0 ≤ now ∧ now ≤ 1000) := hnow
  clear G he hqn hln htn hpn hbn hnow
  obtain ⟨A, hA⟩ : ∃ A, A = (((w.alloc (.cells #[.slice va qn vc, .int .i64 d.h.next] 24)).alloc (.cells #[.slice ua ln uc, .int .i64 d.sure] 32)).alloc (.cells #[.slice ta tn tc, .int .i64 d.nx] 64)).alloc (.cells #[.int .i64 a.kind, .string a.queue, .int .i64 a.n, .slice pa pn pc, .slice ba bn bc] 66) := ⟨_, rfl⟩
  have K : Hid (∀ W, Below A.heap.size A W → RG (.slice va qn vc) (.slice ua ln uc) (.slice ta tn tc) d a (.slice pa pn pc) (.slice ba bn bc) W ∧ Below w.heap.size w W ∧ Blk W w.heap.size [.slice va qn vc, .int .i64 d.h.next] ∧ Blk W (w.heap.size + 1) [.slice ua ln uc, .int .i64 d.sure] ∧ Blk W (w.heap.size + 1 + 1) [.slice ta tn tc, .int .i64 d.nx] ∧ Blk W (w.heap.size + 1 + 1 + 1) [.int .i64 a.kind, .string a.queue, .int .i64 a.n, .slice pa pn pc, .slice ba bn bc]) := by
    show ∀ W : World, _
    intro W hW
    have hB : Below w.heap.size w A := by rw [hA]; exact four_alloc w _ _ _ _
    have hb : Below w.heap.size w W := hB.trans (hW.mono hB.size)
    have hk := four_blk w [.slice va qn vc, .int .i64 d.h.next] [.slice ua ln uc, .int .i64 d.sure] [.slice ta tn tc, .int .i64 d.nx] [.int .i64 a.kind, .string a.queue, .int .i64 a.n, .slice pa pn pc, .slice ba bn bc] 24 32 64 66
    have hk' : Blk A w.heap.size [.slice va qn vc, .int .i64 d.h.next] ∧ Blk A (w.heap.size + 1) [.slice ua ln uc, .int .i64 d.sure] ∧ Blk A (w.heap.size + 1 + 1) [.slice ta tn tc, .int .i64 d.nx] ∧ Blk A (w.heap.size + 1 + 1 + 1) [.int .i64 a.kind, .string a.queue, .int .i64 a.n, .slice pa pn pc, .slice ba bn bc] := by rw [hA]; exact hk
    obtain ⟨k1, k2, k3, k4⟩ := hk'
    exact ⟨HG.out.on hb, hb, k1.below hW k1.lt, k2.below hW k2.lt, k3.below hW k3.lt, k4.below hW k4.lt⟩
  go_enter Try.func6, Try.ntmps6
  go_upto_region 1 with fail
  rw [← hA]
  clear hA
  go_upto_region 3 with (first
    | (go_at_call 35; refine (alive6_any A).mono ?_; rintro r w1 ⟨rfl, hb1⟩; have B1 : Hid (Below A.heap.size A w1) := hb1; obtain ⟨c0, c1, c2, c3⟩ := (K.out _ hb1).2.2.1.b2; obtain ⟨c4, c5, c6, c7⟩ := (K.out _ hb1).2.2.2.1.b2; obtain ⟨c8, c9, c10, c11⟩ := (K.out _ hb1).2.2.2.2.1.b2; clear hb1)
    | fail)
  go_upto_region 5 with (first
    | (go_at_call 36; refine (right6_any _ _ _ d.h _ _ d.l d.ts _ (K.out _ B1.out).1.q (K.out _ B1.out).1.name (K.out _ B1.out).1.fit (K.out _ B1.out).1.l (K.out _ B1.out).1.t).mono ?_; rintro r w2 ⟨rb, rfl, hrt, hb2⟩; have B2 : Hid (Below A.heap.size A w2) := B1.out.trans (hb2.mono B1.out.size); have HRT : Hid (rb = true → d.h.sound ∧ 0 ≤ d.nx ∧ d.nx < 1000000) := hrt; clear c0 c1 c2 c3 c4 c5 c6 c7 c8 c9 c10 c11 hb2 hrt)
    | fail)
  rotate_left
  · go_ret
    exact ⟨rfl, (K.out _ B2.out).2.1⟩
  have HS : Hid (d.h.sound ∧ 0 ≤ d.nx ∧ d.nx < 1000000) := HRT.out (by assumption)
  obtain ⟨c0, c1, c2, c3⟩ := (K.out _ B2.out).2.2.1.b2
  obtain ⟨c4, c5, c6, c7⟩ := (K.out _ B2.out).2.2.2.1.b2
  obtain ⟨c8, c9, c10, c11⟩ := (K.out _ B2.out).2.2.2.2.1.b2
  obtain ⟨⟨c12, c13, c14, c15, c16⟩, cf⟩ : (w2.cell? ⟨w.heap.size + 1 + 1 + 1, 0, none⟩ = some (.int .i64 a.kind) ∧ w2.cell? ⟨w.heap.size + 1 + 1 + 1, 1, none⟩ = some (.string a.queue) ∧ w2.cell? ⟨w.heap.size + 1 + 1 + 1, 2, none⟩ = some (.int .i64 a.n) ∧ w2.cell? ⟨w.heap.size + 1 + 1 + 1, 3, none⟩ = some (.slice pa pn pc) ∧ w2.cell? ⟨w.heap.size + 1 + 1 + 1, 4, none⟩ = some (.slice ba bn bc)) ∧ w.heap.size + 1 + 1 + 1 < w2.heap.size := by
    have hk := (K.out _ B2.out).2.2.2.2.2
    exact ⟨⟨hk.cell 0, hk.cell 1, hk.cell 2, hk.cell 3, hk.cell 4⟩, hk.lt⟩
  obtain ⟨px, hpx⟩ : ∃ n, n = nd.props.length := ⟨_, rfl⟩
  obtain ⟨bx, hbx⟩ : ∃ n, n = nd.body.length := ⟨_, rfl⟩
  obtain ⟨t1, ht1⟩ : ∃ n, n = ts'.length := ⟨_, rfl⟩
  have HT1 : Hid (t1 + 1 = tn ∧ ts'.length ≠ d.ts.length ∧ tn ≤ 3518437208832 ∧ (a.kind = 7 ∨ a.kind = 8)) := ⟨by rw [HLN.out.2.2]; omega, by omega, by rw [HLN.out.2.2]; exact HG.out.tl, hk⟩
  have P : Hid (Calls Try.prog 37 #[.agg #[.slice va qn vc, .int .i64 d.h.next], .agg #[.slice ua ln uc, .int .i64 d.sure], .agg #[.slice ta tn tc, .int .i64 d.nx], .agg #[.int .i64 a.kind, .string a.queue, .int .i64 a.n, .slice pa pn pc, .slice ba bn bc], .int .i64 now] w2 (DA w2 ⟨d.h, d.l, d.sure, ts', d.nx⟩ qn ln t1 sk sn sm se px bx z d.h.next d.sure d.nx)) := by
    have g := (K.out _ B2.out).1
    have := do_any d (.slice va qn vc) (.slice ua ln uc) (.slice ta tn tc) a (.slice pa pn pc) (.slice ba bn bc) now w2 g.q g.l g.t (okD_of HS.out.1 g.ll g.tl ⟨HS.out.2.1, by have := HS.out.2.2; omega⟩ ⟨HNW.out.1, by have := HNW.out.2; omega⟩) g.n g.aq g.af
    rw [HE.out] at this
    exact this.mono fun e w' h => DA.of h HLN.out.1 HLN.out.2.1 ht1 hpx hbx rfl rfl rfl
  clear hpx hbx ht1 hts hk hn0 hn1
  go_upto_region 6 with (first
    | (go_at_call 37; refine P.out.mono ?_; rintro e w3 ⟨xa, xc, ya, yc, za, zc, pa3, pc3, ba3, bc3, rfl, hq3, hl3, ht3, hb3⟩; have H3 : Hid _ := And.intro hq3 (And.intro hl3 (And.intro ht3 hb3)); clear hq3 hl3 ht3 hb3 c0 c1 c2 c3 c4 c5 c6 c7 c8 c9 c10 c11 c12 c13 c14 c15 c16 cf; simp only)
    | fail)
  obtain ⟨B, hB⟩ : ∃ B, B = (((w3.alloc (.cells #[.slice xa qn xc, .int .i64 d.h.next] 24)).alloc (.cells #[.slice ya ln yc, .int .i64 d.sure] 32)).alloc (.cells #[.slice za t1 zc, .int .i64 d.nx] 64)).alloc (.cells #[.int .i64 sk, .int .i64 sn, .int .i64 sm, .int .i64 se, .slice pa3 px pc3, .slice ba3 bx bc3] 69) := ⟨_, rfl⟩
  have HB : Hid (Below A.heap.size A B ∧ Below w3.heap.size w3 B ∧ Blk B w3.heap.size [.slice xa qn xc, .int .i64 d.h.next] ∧ Blk B (w3.heap.size + 1) [.slice ya ln yc, .int .i64 d.sure] ∧ Blk B (w3.heap.size + 1 + 1) [.slice za t1 zc, .int .i64 d.nx] ∧ Blk B (w3.heap.size + 1 + 1 + 1) [.int .i64 sk, .int .i64 sn, .int .i64 sm, .int .i64 se, .slice pa3 px pc3, .slice ba3 bx bc3]) := by
    have hk := four_blk w3 [.slice xa qn xc, .int .i64 d.h.next] [.slice ya ln yc, .int .i64 d.sure] [.slice za t1 zc, .int .i64 d.nx] [.int .i64 sk, .int .i64 sn, .int .i64 sm, .int .i64 se, .slice pa3 px pc3, .slice ba3 bx bc3] 24 32 64 69
    have hb := H3.out.2.2.2
    have h4 : Below w3.heap.size w3 B := by rw [hB]; exact four_alloc w3 _ _ _ _
    refine ⟨B2.out.trans ((hb.trans (h4.mono hb.size)).mono B2.out.size), h4, ?_⟩
    rw [hB]
    exact hk
  rw [← hB]
  clear hB P
  have s0 : B.cell? ⟨w3.heap.size + 1 + 1 + 1, 0, none⟩ = some (.int .i64 sk) := HB.out.2.2.2.2.2.cell 0
  have KB : Hid (∀ W, Below B.heap.size B W → ((W.cell? ⟨w.heap.size, 0, none⟩ = some (.slice va qn vc) ∧ W.cell? ⟨w.heap.size, 1, none⟩ = some (.int .i64 d.h.next)) ∧ (W.cell? ⟨w.heap.size + 1, 0, none⟩ = some (.slice ua ln uc) ∧ W.cell? ⟨w.heap.size + 1, 1, none⟩ = some (.int .i64 d.sure)) ∧ (W.cell? ⟨w.heap.size + 1 + 1, 0, none⟩ = some (.slice ta tn tc) ∧ W.cell? ⟨w.heap.size + 1 + 1, 1, none⟩ = some (.int .i64 d.nx)) ∧ W.cell? ⟨w.heap.size + 1 + 1 + 1, 0, none⟩ = some (.int .i64 a.kind)) ∧
      ((W.cell? ⟨w3.heap.size, 0, none⟩ = some (.slice xa qn xc) ∧ W.cell? ⟨w3.heap.size, 1, none⟩ = some (.int .i64 d.h.next)) ∧ (W.cell? ⟨w3.heap.size + 1, 0, none⟩ = some (.slice ya ln yc) ∧ W.cell? ⟨w3.heap.size + 1, 1, none⟩ = some (.int .i64 d.sure)) ∧ (W.cell? ⟨w3.heap.size + 1 + 1, 0, none⟩ = some (.slice za t1 zc) ∧ W.cell? ⟨w3.heap.size + 1 + 1, 1, none⟩ = some (.int .i64 d.nx))) ∧
      RG (.slice va qn vc) (.slice ua ln uc) (.slice ta tn tc) d a (.slice pa pn pc) (.slice ba bn bc) W ∧ Below w.heap.size w W ∧ SliceQ (Under W.heap.size) W (.slice xa qn xc) d.h.queues ∧ SliceB (Under W.heap.size) W (.slice ya ln yc) d.l ∧ SliceT (Under W.heap.size) W (.slice za t1 zc) ts') := by
    show ∀ W : World, _
    intro W hW
    obtain ⟨h1, h2, k1, k2, k3, k4⟩ := HB.out
    have hA := h1.trans (hW.mono h1.size)
    have h3 := h2.trans (hW.mono h2.size)
    obtain ⟨g, hb, j1, j2, j3, j4⟩ := K.out _ hA
    have k1 := k1.below hW k1.lt
    have k2 := k2.below hW k2.lt
    have k3 := k3.below hW k3.lt
    have off : ∀ b, Made w2.heap.size w3.heap.size b → Under W.heap.size b ∧ W.heap[b]? = w3.heap[b]? := fun b h => ⟨Nat.lt_of_lt_of_le h.2 h3.size, h3.block b h.2⟩
    exact ⟨⟨⟨j1.cell 0, j1.cell 1⟩, ⟨j2.cell 0, j2.cell 1⟩, ⟨j3.cell 0, j3.cell 1⟩, j4.cell 0⟩, ⟨⟨k1.cell 0, k1.cell 1⟩, ⟨k2.cell 0, k2.cell 1⟩, ⟨k3.cell 0, k3.cell 1⟩⟩, g, hb, H3.out.1.sub off, SliceV.sub H3.out.2.1 off, SliceV.sub H3.out.2.2.1 off⟩
  obtain ⟨⟨⟨c0, c1⟩, ⟨c2, c3⟩, ⟨c4, c5⟩, c6⟩, ⟨⟨d0, d1⟩, ⟨d2, d3⟩, d4, d5⟩, -⟩ := KB.out B (Below.refl _ _)
  have ek : IntKind.i64.wrap ((tn : Int) - 1) = (tn : Int) - 1 := by have h := HT1.out; rw [IntKind.wrap_i64]; omega
  go_wp2_with (first
    | (go_at_call 11; refine (sameHall_true _ _ d.h HS.out.1.good.small B (KB.out B (Below.refl _ _)).2.2.2.2.1 (KB.out B (Below.refl _ _)).2.2.1.q).mono ?_; rintro r w4 ⟨rfl, hb4⟩; have H4 : Hid (Below B.heap.size B w4) := hb4; clear c0 c1 c2 c3 c4 c5 c6 d0 d1 d2 d3 d4 d5 hb4; obtain ⟨⟨⟨c0, c1⟩, ⟨c2, c3⟩, ⟨c4, c5⟩, c6⟩, ⟨⟨d0, d1⟩, ⟨d2, d3⟩, d4, d5⟩, -⟩ := KB.out w4 H4.out)
    | (go_at_call 22; refine (SR.sameLog_eq _ _ d.sure d.l w4 (bytes_sr (KB.out w4 H4.out).2.2.2.2.2.1) (bytes_sr (KB.out w4 H4.out).2.2.1.l)).mono ?_; rintro r w5 ⟨rfl, hb5⟩; have H5 : Hid (Below B.heap.size B w5) := H4.out.trans (Below.mono ⟨hb5.os, hb5.tape, hb5.output, hb5.size, hb5.block⟩ H4.out.size); clear c0 c1 c2 c3 c4 c5 c6 d0 d1 d2 d3 d4 d5 hb5; obtain ⟨⟨⟨c0, c1⟩, ⟨c2, c3⟩, ⟨c4, c5⟩, c6⟩, ⟨⟨d0, d1⟩, ⟨d2, d3⟩, d4, d5⟩, -⟩ := KB.out w5 H5.out)
    | (go_at_call 38; refine (sameSession_len _ _ d.nx ts' d.ts w5 (KB.out w5 H5.out).2.2.2.2.2.2 (KB.out w5 H5.out).2.2.1.t HT1.out.2.1).mono ?_; rintro r w6 ⟨rfl, hb6⟩; have H6 : Hid (Below B.heap.size B w6) := H5.out.trans (hb6.mono H5.out.size); clear c0 c1 c2 c3 c4 c5 c6 d0 d1 d2 d3 d4 d5 hb6; obtain ⟨⟨⟨c0, c1⟩, ⟨c2, c3⟩, ⟨c4, c5⟩, c6⟩, ⟨⟨d0, d1⟩, ⟨d2, d3⟩, d4, d5⟩, -⟩ := KB.out w6 H6.out)
    | fail)
  all_goals have hh := HT1.out
  all_goals (go_ret; exact ⟨by simp; omega, (KB.out w6 H6.out).2.2.2.1⟩)

set_option maxRecDepth 100000 in
set_option maxHeartbeats 12800000 in
theorem ref4s (hv lv tv : Value) (d : DK) (a : AD) (pv bv : Value) (now : Int) (w : World) (G : RG hv lv tv d a pv bv w) (sk sn sm se : Int) (nd : ND) (z : Int) (he : d.answer a now = (⟨d.h, d.l, d.sure, d.ts, d.nx⟩, ⟨sk, sn, sm, se, nd⟩, z)) (hnow : 0 ≤ now ∧ now ≤ 1000) (h0 : z = 0) (h4 : sk = 4) :
    Calls Try.prog 6 #[.agg #[hv, .int .i64 d.h.next], .agg #[lv, .int .i64 d.sure], .agg #[tv, .int .i64 d.nx], .agg #[.int .i64 a.kind, .string a.queue, .int .i64 a.n, pv, bv], .int .i64 now] w fun e w' => e = .returned (.bool true) ∧ Below w.heap.size w w' := by
  subst h0 h4
  have HG : Hid (RG hv lv tv d a pv bv w) := G
  have HE : Hid (d.answer a now = (⟨d.h, d.l, d.sure, d.ts, d.nx⟩, ⟨4, sn, sm, se, nd⟩, 0)) := he
  obtain ⟨va, vc, rfl⟩ := G.q.shp
  obtain ⟨ua, uc, rfl, -⟩ := SliceV.shape G.l
  obtain ⟨ta, tc, rfl, -⟩ := SliceV.shape G.t
  obtain ⟨pa, pc, rfl, -⟩ := SliceV.shape G.n.1
  obtain ⟨ba, bc, rfl, -⟩ := SliceV.shape G.n.2
  obtain ⟨qn, hqn⟩ : ∃ n, n = d.h.queues.length := ⟨_, rfl⟩
  obtain ⟨ln, hln⟩ : ∃ n, n = d.l.length := ⟨_, rfl⟩
  obtain ⟨tn, htn⟩ : ∃ n, n = d.ts.length := ⟨_, rfl⟩
  obtain ⟨pn, hpn⟩ : ∃ n, n = a.note.props.length := ⟨_, rfl⟩
  obtain ⟨bn, hbn⟩ : ∃ n, n = a.note.body.length := ⟨_, rfl⟩
  rw [← hqn, ← hln, ← htn, ← hpn, ← hbn] at HG
  rw [← hqn, ← hln, ← htn, ← hpn, ← hbn]
  have HLN : Hid (qn = d.h.queues.length ∧ ln = d.l.length ∧ tn = d.ts.length) := ⟨hqn, hln, htn⟩
  have hn0 : ¬ now < 0 := by omega
  have hn1 : ¬ 1000 < now := by omega
  have HNW : Hid (0 ≤ now ∧ now ≤ 1000) := hnow
  clear G he hqn hln htn hpn hbn hnow
  obtain ⟨A, hA⟩ : ∃ A, A = (((w.alloc (.cells #[.slice va qn vc, .int .i64 d.h.next] 24)).alloc (.cells #[.slice ua ln uc, .int .i64 d.sure] 32)).alloc (.cells #[.slice ta tn tc, .int .i64 d.nx] 64)).alloc (.cells #[.int .i64 a.kind, .string a.queue, .int .i64 a.n, .slice pa pn pc, .slice ba bn bc] 66) := ⟨_, rfl⟩
  have K : Hid (∀ W, Below A.heap.size A W → RG (.slice va qn vc) (.slice ua ln uc) (.slice ta tn tc) d a (.slice pa pn pc) (.slice ba bn bc) W ∧ Below w.heap.size w W ∧ Blk W w.heap.size [.slice va qn vc, .int .i64 d.h.next] ∧ Blk W (w.heap.size + 1) [.slice ua ln uc, .int .i64 d.sure] ∧ Blk W (w.heap.size + 1 + 1) [.slice ta tn tc, .int .i64 d.nx] ∧ Blk W (w.heap.size + 1 + 1 + 1) [.int .i64 a.kind, .string a.queue, .int .i64 a.n, .slice pa pn pc, .slice ba bn bc]) := by
    show ∀ W : World, _
    intro W hW
    have hB : Below w.heap.size w A := by rw [hA]; exact four_alloc w _ _ _ _
    have hb : Below w.heap.size w W := hB.trans (hW.mono hB.size)
    have hk := four_blk w [.slice va qn vc, .int .i64 d.h.next] [.slice ua ln uc, .int .i64 d.sure] [.slice ta tn tc, .int .i64 d.nx] [.int .i64 a.kind, .string a.queue, .int .i64 a.n, .slice pa pn pc, .slice ba bn bc] 24 32 64 66
    have hk' : Blk A w.heap.size [.slice va qn vc, .int .i64 d.h.next] ∧ Blk A (w.heap.size + 1) [.slice ua ln uc, .int .i64 d.sure] ∧ Blk A (w.heap.size + 1 + 1) [.slice ta tn tc, .int .i64 d.nx] ∧ Blk A (w.heap.size + 1 + 1 + 1) [.int .i64 a.kind, .string a.queue, .int .i64 a.n, .slice pa pn pc, .slice ba bn bc] := by rw [hA]; exact hk
    obtain ⟨k1, k2, k3, k4⟩ := hk'
    exact ⟨HG.out.on hb, hb, k1.below hW k1.lt, k2.below hW k2.lt, k3.below hW k3.lt, k4.below hW k4.lt⟩
  go_enter Try.func6, Try.ntmps6
  go_upto_region 1 with fail
  rw [← hA]
  clear hA
  go_upto_region 3 with (first
    | (go_at_call 35; refine (alive6_any A).mono ?_; rintro r w1 ⟨rfl, hb1⟩; have B1 : Hid (Below A.heap.size A w1) := hb1; obtain ⟨c0, c1, c2, c3⟩ := (K.out _ hb1).2.2.1.b2; obtain ⟨c4, c5, c6, c7⟩ := (K.out _ hb1).2.2.2.1.b2; obtain ⟨c8, c9, c10, c11⟩ := (K.out _ hb1).2.2.2.2.1.b2; clear hb1)
    | fail)
  go_upto_region 5 with (first
    | (go_at_call 36; refine (right6_any _ _ _ d.h _ _ d.l d.ts _ (K.out _ B1.out).1.q (K.out _ B1.out).1.name (K.out _ B1.out).1.fit (K.out _ B1.out).1.l (K.out _ B1.out).1.t).mono ?_; rintro r w2 ⟨rb, rfl, hrt, hb2⟩; have B2 : Hid (Below A.heap.size A w2) := B1.out.trans (hb2.mono B1.out.size); have HRT : Hid (rb = true → d.h.sound ∧ 0 ≤ d.nx ∧ d.nx < 1000000) := hrt; clear c0 c1 c2 c3 c4 c5 c6 c7 c8 c9 c10 c11 hb2 hrt)
    | fail)
  rotate_left
  · go_ret
    exact ⟨rfl, (K.out _ B2.out).2.1⟩
  have HS : Hid (d.h.sound ∧ 0 ≤ d.nx ∧ d.nx < 1000000) := HRT.out (by assumption)
  obtain ⟨c0, c1, c2, c3⟩ := (K.out _ B2.out).2.2.1.b2
  obtain ⟨c4, c5, c6, c7⟩ := (K.out _ B2.out).2.2.2.1.b2
  obtain ⟨c8, c9, c10, c11⟩ := (K.out _ B2.out).2.2.2.2.1.b2
  obtain ⟨⟨c12, c13, c14, c15, c16⟩, cf⟩ : (w2.cell? ⟨w.heap.size + 1 + 1 + 1, 0, none⟩ = some (.int .i64 a.kind) ∧ w2.cell? ⟨w.heap.size + 1 + 1 + 1, 1, none⟩ = some (.string a.queue) ∧ w2.cell? ⟨w.heap.size + 1 + 1 + 1, 2, none⟩ = some (.int .i64 a.n) ∧ w2.cell? ⟨w.heap.size + 1 + 1 + 1, 3, none⟩ = some (.slice pa pn pc) ∧ w2.cell? ⟨w.heap.size + 1 + 1 + 1, 4, none⟩ = some (.slice ba bn bc)) ∧ w.heap.size + 1 + 1 + 1 < w2.heap.size := by
    have hk := (K.out _ B2.out).2.2.2.2.2
    exact ⟨⟨hk.cell 0, hk.cell 1, hk.cell 2, hk.cell 3, hk.cell 4⟩, hk.lt⟩
  obtain ⟨px, hpx⟩ : ∃ n, n = nd.props.length := ⟨_, rfl⟩
  obtain ⟨bx, hbx⟩ : ∃ n, n = nd.body.length := ⟨_, rfl⟩
  have P : Hid (Calls Try.prog 37 #[.agg #[.slice va qn vc, .int .i64 d.h.next], .agg #[.slice ua ln uc, .int .i64 d.sure], .agg #[.slice ta tn tc, .int .i64 d.nx], .agg #[.int .i64 a.kind, .string a.queue, .int .i64 a.n, .slice pa pn pc, .slice ba bn bc], .int .i64 now] w2 (DA w2 ⟨d.h, d.l, d.sure, d.ts, d.nx⟩ qn ln tn 4 sn sm se px bx 0 d.h.next d.sure d.nx)) := by
    have g := (K.out _ B2.out).1
    have := do_any d (.slice va qn vc) (.slice ua ln uc) (.slice ta tn tc) a (.slice pa pn pc) (.slice ba bn bc) now w2 g.q g.l g.t (okD_of HS.out.1 g.ll g.tl ⟨HS.out.2.1, by have := HS.out.2.2; omega⟩ ⟨HNW.out.1, by have := HNW.out.2; omega⟩) g.n g.aq g.af
    rw [HE.out] at this
    exact this.mono fun e w' h => DA.of h HLN.out.1 HLN.out.2.1 HLN.out.2.2 hpx hbx rfl rfl rfl
  clear hpx hbx hn0 hn1
  go_upto_region 6 with (first
    | (go_at_call 37; refine P.out.mono ?_; rintro e w3 ⟨xa, xc, ya, yc, za, zc, pa3, pc3, ba3, bc3, rfl, hq3, hl3, ht3, hb3⟩; have H3 : Hid _ := And.intro hq3 (And.intro hl3 (And.intro ht3 hb3)); clear hq3 hl3 ht3 hb3 c0 c1 c2 c3 c4 c5 c6 c7 c8 c9 c10 c11 c12 c13 c14 c15 c16 cf; simp only)
    | fail)
  obtain ⟨B, hB⟩ : ∃ B, B = (((w3.alloc (.cells #[.slice xa qn xc, .int .i64 d.h.next] 24)).alloc (.cells #[.slice ya ln yc, .int .i64 d.sure] 32)).alloc (.cells #[.slice za tn zc, .int .i64 d.nx] 64)).alloc (.cells #[.int .i64 4, .int .i64 sn, .int .i64 sm, .int .i64 se, .slice pa3 px pc3, .slice ba3 bx bc3] 69) := ⟨_, rfl⟩
  have HB : Hid (Below A.heap.size A B ∧ Below w3.heap.size w3 B ∧ Blk B w3.heap.size [.slice xa qn xc, .int .i64 d.h.next] ∧ Blk B (w3.heap.size + 1) [.slice ya ln yc, .int .i64 d.sure] ∧ Blk B (w3.heap.size + 1 + 1) [.slice za tn zc, .int .i64 d.nx] ∧ Blk B (w3.heap.size + 1 + 1 + 1) [.int .i64 4, .int .i64 sn, .int .i64 sm, .int .i64 se, .slice pa3 px pc3, .slice ba3 bx bc3]) := by
    have hk := four_blk w3 [.slice xa qn xc, .int .i64 d.h.next] [.slice ya ln yc, .int .i64 d.sure] [.slice za tn zc, .int .i64 d.nx] [.int .i64 4, .int .i64 sn, .int .i64 sm, .int .i64 se, .slice pa3 px pc3, .slice ba3 bx bc3] 24 32 64 69
    have hb := H3.out.2.2.2
    have h4 : Below w3.heap.size w3 B := by rw [hB]; exact four_alloc w3 _ _ _ _
    refine ⟨B2.out.trans ((hb.trans (h4.mono hb.size)).mono B2.out.size), h4, ?_⟩
    rw [hB]
    exact hk
  rw [← hB]
  clear hB P
  have s0 : B.cell? ⟨w3.heap.size + 1 + 1 + 1, 0, none⟩ = some (.int .i64 4) := HB.out.2.2.2.2.2.cell 0
  have KB : Hid (∀ W, Below B.heap.size B W → ((W.cell? ⟨w.heap.size, 0, none⟩ = some (.slice va qn vc) ∧ W.cell? ⟨w.heap.size, 1, none⟩ = some (.int .i64 d.h.next)) ∧ (W.cell? ⟨w.heap.size + 1, 0, none⟩ = some (.slice ua ln uc) ∧ W.cell? ⟨w.heap.size + 1, 1, none⟩ = some (.int .i64 d.sure)) ∧ (W.cell? ⟨w.heap.size + 1 + 1, 0, none⟩ = some (.slice ta tn tc) ∧ W.cell? ⟨w.heap.size + 1 + 1, 1, none⟩ = some (.int .i64 d.nx)) ∧ W.cell? ⟨w.heap.size + 1 + 1 + 1, 0, none⟩ = some (.int .i64 a.kind)) ∧
      ((W.cell? ⟨w3.heap.size, 0, none⟩ = some (.slice xa qn xc) ∧ W.cell? ⟨w3.heap.size, 1, none⟩ = some (.int .i64 d.h.next)) ∧ (W.cell? ⟨w3.heap.size + 1, 0, none⟩ = some (.slice ya ln yc) ∧ W.cell? ⟨w3.heap.size + 1, 1, none⟩ = some (.int .i64 d.sure)) ∧ (W.cell? ⟨w3.heap.size + 1 + 1, 0, none⟩ = some (.slice za tn zc) ∧ W.cell? ⟨w3.heap.size + 1 + 1, 1, none⟩ = some (.int .i64 d.nx))) ∧
      RG (.slice va qn vc) (.slice ua ln uc) (.slice ta tn tc) d a (.slice pa pn pc) (.slice ba bn bc) W ∧ Below w.heap.size w W ∧ SliceQ (Under W.heap.size) W (.slice xa qn xc) d.h.queues ∧ SliceB (Under W.heap.size) W (.slice ya ln yc) d.l ∧ SliceT (Under W.heap.size) W (.slice za tn zc) d.ts) := by
    show ∀ W : World, _
    intro W hW
    obtain ⟨h1, h2, k1, k2, k3, k4⟩ := HB.out
    have hA := h1.trans (hW.mono h1.size)
    have h3 := h2.trans (hW.mono h2.size)
    obtain ⟨g, hb, j1, j2, j3, j4⟩ := K.out _ hA
    have k1 := k1.below hW k1.lt
    have k2 := k2.below hW k2.lt
    have k3 := k3.below hW k3.lt
    have off : ∀ b, Made w2.heap.size w3.heap.size b → Under W.heap.size b ∧ W.heap[b]? = w3.heap[b]? := fun b h => ⟨Nat.lt_of_lt_of_le h.2 h3.size, h3.block b h.2⟩
    exact ⟨⟨⟨j1.cell 0, j1.cell 1⟩, ⟨j2.cell 0, j2.cell 1⟩, ⟨j3.cell 0, j3.cell 1⟩, j4.cell 0⟩, ⟨⟨k1.cell 0, k1.cell 1⟩, ⟨k2.cell 0, k2.cell 1⟩, ⟨k3.cell 0, k3.cell 1⟩⟩, g, hb, H3.out.1.sub off, SliceV.sub H3.out.2.1 off, SliceV.sub H3.out.2.2.1 off⟩
  obtain ⟨⟨⟨c0, c1⟩, ⟨c2, c3⟩, ⟨c4, c5⟩, c6⟩, ⟨⟨d0, d1⟩, ⟨d2, d3⟩, d4, d5⟩, -⟩ := KB.out B (Below.refl _ _)
  go_wp2_with (first
    | (go_at_call 11; refine (sameHall_true _ _ d.h HS.out.1.good.small B (KB.out B (Below.refl _ _)).2.2.2.2.1 (KB.out B (Below.refl _ _)).2.2.1.q).mono ?_; rintro r w4 ⟨rfl, hb4⟩; have H4 : Hid (Below B.heap.size B w4) := hb4; clear c0 c1 c2 c3 c4 c5 c6 d0 d1 d2 d3 d4 d5 hb4; obtain ⟨⟨⟨c0, c1⟩, ⟨c2, c3⟩, ⟨c4, c5⟩, c6⟩, ⟨⟨d0, d1⟩, ⟨d2, d3⟩, d4, d5⟩, -⟩ := KB.out w4 H4.out)
    | (go_at_call 22; refine (SR.sameLog_eq _ _ d.sure d.l w4 (bytes_sr (KB.out w4 H4.out).2.2.2.2.2.1) (bytes_sr (KB.out w4 H4.out).2.2.1.l)).mono ?_; rintro r w5 ⟨rfl, hb5⟩; have H5 : Hid (Below B.heap.size B w5) := H4.out.trans (Below.mono ⟨hb5.os, hb5.tape, hb5.output, hb5.size, hb5.block⟩ H4.out.size); clear c0 c1 c2 c3 c4 c5 c6 d0 d1 d2 d3 d4 d5 hb5; obtain ⟨⟨⟨c0, c1⟩, ⟨c2, c3⟩, ⟨c4, c5⟩, c6⟩, ⟨⟨d0, d1⟩, ⟨d2, d3⟩, d4, d5⟩, -⟩ := KB.out w5 H5.out)
    | (go_at_call 38; refine (sameSession_true _ _ d.nx d.ts w5 (KB.out w5 H5.out).2.2.2.2.2.2 (KB.out w5 H5.out).2.2.1.t).mono ?_; rintro r w6 ⟨rfl, hb6⟩; have H6 : Hid (Below B.heap.size B w6) := H5.out.trans (hb6.mono H5.out.size); clear c0 c1 c2 c3 c4 c5 c6 d0 d1 d2 d3 d4 d5 hb6; obtain ⟨⟨⟨c0, c1⟩, ⟨c2, c3⟩, ⟨c4, c5⟩, c6⟩, ⟨⟨d0, d1⟩, ⟨d2, d3⟩, d4, d5⟩, -⟩ := KB.out w6 H6.out)
    | fail)
  all_goals (go_ret; exact ⟨rfl, (KB.out w6 H6.out).2.2.2.1⟩)

set_option maxRecDepth 100000 in
set_option maxHeartbeats 12800000 in
theorem ref4t (hv lv tv : Value) (d : DK) (a : AD) (pv bv : Value) (now : Int) (w : World) (G : RG hv lv tv d a pv bv w) (ts' : List TD) (sk sn sm se : Int) (nd : ND) (z : Int) (he : d.answer a now = (⟨d.h, d.l, d.sure, ts', d.nx⟩, ⟨sk, sn, sm, se, nd⟩, z)) (hnow : 0 ≤ now ∧ now ≤ 1000) (h0 : z = 0) (h4 : sk = 4) (hk : a.kind = 7 ∨ a.kind = 8) (hts : ts'.length + 1 = d.ts.length) :
    Calls Try.prog 6 #[.agg #[hv, .int .i64 d.h.next], .agg #[lv, .int .i64 d.sure], .agg #[tv, .int .i64 d.nx], .agg #[.int .i64 a.kind, .string a.queue, .int .i64 a.n, pv, bv], .int .i64 now] w fun e w' => e = .returned (.bool true) ∧ Below w.heap.size w w' := by
  subst h0 h4
  have HG : Hid (RG hv lv tv d a pv bv w) := G
  have HE : Hid (d.answer a now = (⟨d.h, d.l, d.sure, ts', d.nx⟩, ⟨4, sn, sm, se, nd⟩, 0)) := he
  obtain ⟨va, vc, rfl⟩ := G.q.shp
  obtain ⟨ua, uc, rfl, -⟩ := SliceV.shape G.l
  obtain ⟨ta, tc, rfl, -⟩ := SliceV.shape G.t
  obtain ⟨pa, pc, rfl, -⟩ := SliceV.shape G.n.1
  obtain ⟨ba, bc, rfl, -⟩ := SliceV.shape G.n.2
  obtain ⟨qn, hqn⟩ : ∃ n, n = d.h.queues.length := ⟨_, rfl⟩
  obtain ⟨ln, hln⟩ : ∃ n, n = d.l.length := ⟨_, rfl⟩
  obtain ⟨tn, htn⟩ : ∃ n, n = d.ts.length := ⟨_, rfl⟩
  obtain ⟨pn, hpn⟩ : ∃ n, n = a.note.props.length := ⟨_, rfl⟩
  obtain ⟨bn, hbn⟩ : ∃ n, n = a.note.body.length := ⟨_, rfl⟩
  rw [← hqn, ← hln, ← htn, ← hpn, ← hbn] at HG
  rw [← hqn, ← hln, ← htn, ← hpn, ← hbn]
  have HLN : Hid (qn = d.h.queues.length ∧ ln = d.l.length ∧ tn = d.ts.length) := ⟨hqn, hln, htn⟩
  have hn0 : ¬ now < 0 := by omega
  have hn1 : ¬ 1000 < now := by omega
  have HNW : Hid (0 ≤ now ∧ now ≤ 1000) := hnow
  clear G he hqn hln htn hpn hbn hnow
  obtain ⟨A, hA⟩ : ∃ A, A = (((w.alloc (.cells #[.slice va qn vc, .int .i64 d.h.next] 24)).alloc (.cells #[.slice ua ln uc, .int .i64 d.sure] 32)).alloc (.cells #[.slice ta tn tc, .int .i64 d.nx] 64)).alloc (.cells #[.int .i64 a.kind, .string a.queue, .int .i64 a.n, .slice pa pn pc, .slice ba bn bc] 66) := ⟨_, rfl⟩
  have K : Hid (∀ W, Below A.heap.size A W → RG (.slice va qn vc) (.slice ua ln uc) (.slice ta tn tc) d a (.slice pa pn pc) (.slice ba bn bc) W ∧ Below w.heap.size w W ∧ Blk W w.heap.size [.slice va qn vc, .int .i64 d.h.next] ∧ Blk W (w.heap.size + 1) [.slice ua ln uc, .int .i64 d.sure] ∧ Blk W (w.heap.size + 1 + 1) [.slice ta tn tc, .int .i64 d.nx] ∧ Blk W (w.heap.size + 1 + 1 + 1) [.int .i64 a.kind, .string a.queue, .int .i64 a.n, .slice pa pn pc, .slice ba bn bc]) := by
    show ∀ W : World, _
    intro W hW
    have hB : Below w.heap.size w A := by rw [hA]; exact four_alloc w _ _ _ _
    have hb : Below w.heap.size w W := hB.trans (hW.mono hB.size)
    have hk := four_blk w [.slice va qn vc, .int .i64 d.h.next] [.slice ua ln uc, .int .i64 d.sure] [.slice ta tn tc, .int .i64 d.nx] [.int .i64 a.kind, .string a.queue, .int .i64 a.n, .slice pa pn pc, .slice ba bn bc] 24 32 64 66
    have hk' : Blk A w.heap.size [.slice va qn vc, .int .i64 d.h.next] ∧ Blk A (w.heap.size + 1) [.slice ua ln uc, .int .i64 d.sure] ∧ Blk A (w.heap.size + 1 + 1) [.slice ta tn tc, .int .i64 d.nx] ∧ Blk A (w.heap.size + 1 + 1 + 1) [.int .i64 a.kind, .string a.queue, .int .i64 a.n, .slice pa pn pc, .slice ba bn bc] := by rw [hA]; exact hk
    obtain ⟨k1, k2, k3, k4⟩ := hk'
    exact ⟨HG.out.on hb, hb, k1.below hW k1.lt, k2.below hW k2.lt, k3.below hW k3.lt, k4.below hW k4.lt⟩
  go_enter Try.func6, Try.ntmps6
  go_upto_region 1 with fail
  rw [← hA]
  clear hA
  go_upto_region 3 with (first
    | (go_at_call 35; refine (alive6_any A).mono ?_; rintro r w1 ⟨rfl, hb1⟩; have B1 : Hid (Below A.heap.size A w1) := hb1; obtain ⟨c0, c1, c2, c3⟩ := (K.out _ hb1).2.2.1.b2; obtain ⟨c4, c5, c6, c7⟩ := (K.out _ hb1).2.2.2.1.b2; obtain ⟨c8, c9, c10, c11⟩ := (K.out _ hb1).2.2.2.2.1.b2; clear hb1)
    | fail)
  go_upto_region 5 with (first
    | (go_at_call 36; refine (right6_any _ _ _ d.h _ _ d.l d.ts _ (K.out _ B1.out).1.q (K.out _ B1.out).1.name (K.out _ B1.out).1.fit (K.out _ B1.out).1.l (K.out _ B1.out).1.t).mono ?_; rintro r w2 ⟨rb, rfl, hrt, hb2⟩; have B2 : Hid (Below A.heap.size A w2) := B1.out.trans (hb2.mono B1.out.size); have HRT : Hid (rb = true → d.h.sound ∧ 0 ≤ d.nx ∧ d.nx < 1000000) := hrt; clear c0 c1 c2 c3 c4 c5 c6 c7 c8 c9 c10 c11 hb2 hrt)
    | fail)
  rotate_left
  · go_ret
    exact ⟨rfl, (K.out _ B2.out).2.1⟩
  have HS : Hid (d.h.sound ∧ 0 ≤ d.nx ∧ d.nx < 1000000) := HRT.out (by assumption)
  obtain ⟨c0, c1, c2, c3⟩ := (K.out _ B2.out).2.2.1.b2
  obtain ⟨c4, c5, c6, c7⟩ := (K.out _ B2.out).2.2.2.1.b2
  obtain ⟨c8, c9, c10, c11⟩ := (K.out _ B2.out).2.2.2.2.1.b2
  obtain ⟨⟨c12, c13, c14, c15, c16⟩, cf⟩ : (w2.cell? ⟨w.heap.size + 1 + 1 + 1, 0, none⟩ = some (.int .i64 a.kind) ∧ w2.cell? ⟨w.heap.size + 1 + 1 + 1, 1, none⟩ = some (.string a.queue) ∧ w2.cell? ⟨w.heap.size + 1 + 1 + 1, 2, none⟩ = some (.int .i64 a.n) ∧ w2.cell? ⟨w.heap.size + 1 + 1 + 1, 3, none⟩ = some (.slice pa pn pc) ∧ w2.cell? ⟨w.heap.size + 1 + 1 + 1, 4, none⟩ = some (.slice ba bn bc)) ∧ w.heap.size + 1 + 1 + 1 < w2.heap.size := by
    have hk := (K.out _ B2.out).2.2.2.2.2
    exact ⟨⟨hk.cell 0, hk.cell 1, hk.cell 2, hk.cell 3, hk.cell 4⟩, hk.lt⟩
  obtain ⟨px, hpx⟩ : ∃ n, n = nd.props.length := ⟨_, rfl⟩
  obtain ⟨bx, hbx⟩ : ∃ n, n = nd.body.length := ⟨_, rfl⟩
  obtain ⟨t1, ht1⟩ : ∃ n, n = ts'.length := ⟨_, rfl⟩
  have HT1 : Hid (t1 + 1 = tn ∧ ts'.length ≠ d.ts.length ∧ tn ≤ 3518437208832 ∧ (a.kind = 7 ∨ a.kind = 8)) := ⟨by rw [HLN.out.2.2]; omega, by omega, by rw [HLN.out.2.2]; exact HG.out.tl, hk⟩
  have P : Hid (Calls Try.prog 37 #[.agg #[.slice va qn vc, .int .i64 d.h.next], .agg #[.slice ua ln uc, .int .i64 d.sure], .agg #[.slice ta tn tc, .int .i64 d.nx], .agg #[.int .i64 a.kind, .string a.queue, .int .i64 a.n, .slice pa pn pc, .slice ba bn bc], .int .i64 now] w2 (DA w2 ⟨d.h, d.l, d.sure, ts', d.nx⟩ qn ln t1 4 sn sm se px bx 0 d.h.next d.sure d.nx)) := by
    have g := (K.out _ B2.out).1
    have := do_any d (.slice va qn vc) (.slice ua ln uc) (.slice ta tn tc) a (.slice pa pn pc) (.slice ba bn bc) now w2 g.q g.l g.t (okD_of HS.out.1 g.ll g.tl ⟨HS.out.2.1, by have := HS.out.2.2; omega⟩ ⟨HNW.out.1, by have := HNW.out.2; omega⟩) g.n g.aq g.af
    rw [HE.out] at this
    exact this.mono fun e w' h => DA.of h HLN.out.1 HLN.out.2.1 ht1 hpx hbx rfl rfl rfl
  clear hpx hbx ht1 hts hk hn0 hn1
  go_upto_region 6 with (first
    | (go_at_call 37; refine P.out.mono ?_; rintro e w3 ⟨xa, xc, ya, yc, za, zc, pa3, pc3, ba3, bc3, rfl, hq3, hl3, ht3, hb3⟩; have H3 : Hid _ := And.intro hq3 (And.intro hl3 (And.intro ht3 hb3)); clear hq3 hl3 ht3 hb3 c0 c1 c2 c3 c4 c5 c6 c7 c8 c9 c10 c11 c12 c13 c14 c15 c16 cf; simp only)
    | fail)
  obtain ⟨B, hB⟩ : ∃ B, B = (((w3.alloc (.cells #[.slice xa qn xc, .int .i64 d.h.next] 24)).alloc (.cells #[.slice ya ln yc, .int .i64 d.sure] 32)).alloc (.cells #[.slice za t1 zc, .int .i64 d.nx] 64)).alloc (.cells #[.int .i64 4, .int .i64 sn, .int .i64 sm, .int .i64 se, .slice pa3 px pc3, .slice ba3 bx bc3] 69) := ⟨_, rfl⟩
  have HB : Hid (Below A.heap.size A B ∧ Below w3.heap.size w3 B ∧ Blk B w3.heap.size [.slice xa qn xc, .int .i64 d.h.next] ∧ Blk B (w3.heap.size + 1) [.slice ya ln yc, .int .i64 d.sure] ∧ Blk B (w3.heap.size + 1 + 1) [.slice za t1 zc, .int .i64 d.nx] ∧ Blk B (w3.heap.size + 1 + 1 + 1) [.int .i64 4, .int .i64 sn, .int .i64 sm, .int .i64 se, .slice pa3 px pc3, .slice ba3 bx bc3]) := by
    have hk := four_blk w3 [.slice xa qn xc, .int .i64 d.h.next] [.slice ya ln yc, .int .i64 d.sure] [.slice za t1 zc, .int .i64 d.nx] [.int .i64 4, .int .i64 sn, .int .i64 sm, .int .i64 se, .slice pa3 px pc3, .slice ba3 bx bc3] 24 32 64 69
    have hb := H3.out.2.2.2
    have h4 : Below w3.heap.size w3 B := by rw [hB]; exact four_alloc w3 _ _ _ _
    refine ⟨B2.out.trans ((hb.trans (h4.mono hb.size)).mono B2.out.size), h4, ?_⟩
    rw [hB]
    exact hk
  rw [← hB]
  clear hB P
  have s0 : B.cell? ⟨w3.heap.size + 1 + 1 + 1, 0, none⟩ = some (.int .i64 4) := HB.out.2.2.2.2.2.cell 0
  have KB : Hid (∀ W, Below B.heap.size B W → ((W.cell? ⟨w.heap.size, 0, none⟩ = some (.slice va qn vc) ∧ W.cell? ⟨w.heap.size, 1, none⟩ = some (.int .i64 d.h.next)) ∧ (W.cell? ⟨w.heap.size + 1, 0, none⟩ = some (.slice ua ln uc) ∧ W.cell? ⟨w.heap.size + 1, 1, none⟩ = some (.int .i64 d.sure)) ∧ (W.cell? ⟨w.heap.size + 1 + 1, 0, none⟩ = some (.slice ta tn tc) ∧ W.cell? ⟨w.heap.size + 1 + 1, 1, none⟩ = some (.int .i64 d.nx)) ∧ W.cell? ⟨w.heap.size + 1 + 1 + 1, 0, none⟩ = some (.int .i64 a.kind)) ∧
      ((W.cell? ⟨w3.heap.size, 0, none⟩ = some (.slice xa qn xc) ∧ W.cell? ⟨w3.heap.size, 1, none⟩ = some (.int .i64 d.h.next)) ∧ (W.cell? ⟨w3.heap.size + 1, 0, none⟩ = some (.slice ya ln yc) ∧ W.cell? ⟨w3.heap.size + 1, 1, none⟩ = some (.int .i64 d.sure)) ∧ (W.cell? ⟨w3.heap.size + 1 + 1, 0, none⟩ = some (.slice za t1 zc) ∧ W.cell? ⟨w3.heap.size + 1 + 1, 1, none⟩ = some (.int .i64 d.nx))) ∧
      RG (.slice va qn vc) (.slice ua ln uc) (.slice ta tn tc) d a (.slice pa pn pc) (.slice ba bn bc) W ∧ Below w.heap.size w W ∧ SliceQ (Under W.heap.size) W (.slice xa qn xc) d.h.queues ∧ SliceB (Under W.heap.size) W (.slice ya ln yc) d.l ∧ SliceT (Under W.heap.size) W (.slice za t1 zc) ts') := by
    show ∀ W : World, _
    intro W hW
    obtain ⟨h1, h2, k1, k2, k3, k4⟩ := HB.out
    have hA := h1.trans (hW.mono h1.size)
    have h3 := h2.trans (hW.mono h2.size)
    obtain ⟨g, hb, j1, j2, j3, j4⟩ := K.out _ hA
    have k1 := k1.below hW k1.lt
    have k2 := k2.below hW k2.lt
    have k3 := k3.below hW k3.lt
    have off : ∀ b, Made w2.heap.size w3.heap.size b → Under W.heap.size b ∧ W.heap[b]? = w3.heap[b]? := fun b h => ⟨Nat.lt_of_lt_of_le h.2 h3.size, h3.block b h.2⟩
    exact ⟨⟨⟨j1.cell 0, j1.cell 1⟩, ⟨j2.cell 0, j2.cell 1⟩, ⟨j3.cell 0, j3.cell 1⟩, j4.cell 0⟩, ⟨⟨k1.cell 0, k1.cell 1⟩, ⟨k2.cell 0, k2.cell 1⟩, ⟨k3.cell 0, k3.cell 1⟩⟩, g, hb, H3.out.1.sub off, SliceV.sub H3.out.2.1 off, SliceV.sub H3.out.2.2.1 off⟩
  obtain ⟨⟨⟨c0, c1⟩, ⟨c2, c3⟩, ⟨c4, c5⟩, c6⟩, ⟨⟨d0, d1⟩, ⟨d2, d3⟩, d4, d5⟩, -⟩ := KB.out B (Below.refl _ _)
  have ek : IntKind.i64.wrap ((tn : Int) - 1) = (tn : Int) - 1 := by have h := HT1.out; rw [IntKind.wrap_i64]; omega
  go_wp2_with (first
    | (go_at_call 11; refine (sameHall_true _ _ d.h HS.out.1.good.small B (KB.out B (Below.refl _ _)).2.2.2.2.1 (KB.out B (Below.refl _ _)).2.2.1.q).mono ?_; rintro r w4 ⟨rfl, hb4⟩; have H4 : Hid (Below B.heap.size B w4) := hb4; clear c0 c1 c2 c3 c4 c5 c6 d0 d1 d2 d3 d4 d5 hb4; obtain ⟨⟨⟨c0, c1⟩, ⟨c2, c3⟩, ⟨c4, c5⟩, c6⟩, ⟨⟨d0, d1⟩, ⟨d2, d3⟩, d4, d5⟩, -⟩ := KB.out w4 H4.out)
    | (go_at_call 22; refine (SR.sameLog_eq _ _ d.sure d.l w4 (bytes_sr (KB.out w4 H4.out).2.2.2.2.2.1) (bytes_sr (KB.out w4 H4.out).2.2.1.l)).mono ?_; rintro r w5 ⟨rfl, hb5⟩; have H5 : Hid (Below B.heap.size B w5) := H4.out.trans (Below.mono ⟨hb5.os, hb5.tape, hb5.output, hb5.size, hb5.block⟩ H4.out.size); clear c0 c1 c2 c3 c4 c5 c6 d0 d1 d2 d3 d4 d5 hb5; obtain ⟨⟨⟨c0, c1⟩, ⟨c2, c3⟩, ⟨c4, c5⟩, c6⟩, ⟨⟨d0, d1⟩, ⟨d2, d3⟩, d4, d5⟩, -⟩ := KB.out w5 H5.out)
    | (go_at_call 38; refine (sameSession_len _ _ d.nx ts' d.ts w5 (KB.out w5 H5.out).2.2.2.2.2.2 (KB.out w5 H5.out).2.2.1.t HT1.out.2.1).mono ?_; rintro r w6 ⟨rfl, hb6⟩; have H6 : Hid (Below B.heap.size B w6) := H5.out.trans (hb6.mono H5.out.size); clear c0 c1 c2 c3 c4 c5 c6 d0 d1 d2 d3 d4 d5 hb6; obtain ⟨⟨⟨c0, c1⟩, ⟨c2, c3⟩, ⟨c4, c5⟩, c6⟩, ⟨⟨d0, d1⟩, ⟨d2, d3⟩, d4, d5⟩, -⟩ := KB.out w6 H6.out)
    | fail)
  all_goals have hh := HT1.out
  all_goals (go_ret; exact ⟨by simp; omega, (KB.out w6 H6.out).2.2.2.1⟩)

set_option maxRecDepth 100000 in
set_option maxHeartbeats 12800000 in
theorem ref3s (hv lv tv : Value) (d : DK) (a : AD) (pv bv : Value) (now : Int) (w : World) (G : RG hv lv tv d a pv bv w) (sk sn sm se : Int) (nd : ND) (z : Int) (he : d.answer a now = (⟨d.h, d.l, d.sure, d.ts, d.nx⟩, ⟨sk, sn, sm, se, nd⟩, z)) (hnow : 0 ≤ now ∧ now ≤ 1000) (h0 : z = 0) (h4 : ¬ sk = 4) (h3 : sk = 3) :
    Calls Try.prog 6 #[.agg #[hv, .int .i64 d.h.next], .agg #[lv, .int .i64 d.sure], .agg #[tv, .int .i64 d.nx], .agg #[.int .i64 a.kind, .string a.queue, .int .i64 a.n, pv, bv], .int .i64 now] w fun e w' => e = .returned (.bool true) ∧ Below w.heap.size w w' := by
  clear h4
  subst h0 h3
  have HG : Hid (RG hv lv tv d a pv bv w) := G
  have HE : Hid (d.answer a now = (⟨d.h, d.l, d.sure, d.ts, d.nx⟩, ⟨3, sn, sm, se, nd⟩, 0)) := he
  obtain ⟨va, vc, rfl⟩ := G.q.shp
  obtain ⟨ua, uc, rfl, -⟩ := SliceV.shape G.l
  obtain ⟨ta, tc, rfl, -⟩ := SliceV.shape G.t
  obtain ⟨pa, pc, rfl, -⟩ := SliceV.shape G.n.1
  obtain ⟨ba, bc, rfl, -⟩ := SliceV.shape G.n.2
  obtain ⟨qn, hqn⟩ : ∃ n, n = d.h.queues.length := ⟨_, rfl⟩
  obtain ⟨ln, hln⟩ : ∃ n, n = d.l.length := ⟨_, rfl⟩
  obtain ⟨tn, htn⟩ : ∃ n, n = d.ts.length := ⟨_, rfl⟩
  obtain ⟨pn, hpn⟩ : ∃ n, n = a.note.props.length := ⟨_, rfl⟩
  obtain ⟨bn, hbn⟩ : ∃ n, n = a.note.body.length := ⟨_, rfl⟩
  rw [← hqn, ← hln, ← htn, ← hpn, ← hbn] at HG
  rw [← hqn, ← hln, ← htn, ← hpn, ← hbn]
  have HLN : Hid (qn = d.h.queues.length ∧ ln = d.l.length ∧ tn = d.ts.length) := ⟨hqn, hln, htn⟩
  have hn0 : ¬ now < 0 := by omega
  have hn1 : ¬ 1000 < now := by omega
  have HNW : Hid (0 ≤ now ∧ now ≤ 1000) := hnow
  clear G he hqn hln htn hpn hbn hnow
  obtain ⟨A, hA⟩ : ∃ A, A = (((w.alloc (.cells #[.slice va qn vc, .int .i64 d.h.next] 24)).alloc (.cells #[.slice ua ln uc, .int .i64 d.sure] 32)).alloc (.cells #[.slice ta tn tc, .int .i64 d.nx] 64)).alloc (.cells #[.int .i64 a.kind, .string a.queue, .int .i64 a.n, .slice pa pn pc, .slice ba bn bc] 66) := ⟨_, rfl⟩
  have K : Hid (∀ W, Below A.heap.size A W → RG (.slice va qn vc) (.slice ua ln uc) (.slice ta tn tc) d a (.slice pa pn pc) (.slice ba bn bc) W ∧ Below w.heap.size w W ∧ Blk W w.heap.size [.slice va qn vc, .int .i64 d.h.next] ∧ Blk W (w.heap.size + 1) [.slice ua ln uc, .int .i64 d.sure] ∧ Blk W (w.heap.size + 1 + 1) [.slice ta tn tc, .int .i64 d.nx] ∧ Blk W (w.heap.size + 1 + 1 + 1) [.int .i64 a.kind, .string a.queue, .int .i64 a.n, .slice pa pn pc, .slice ba bn bc]) := by
    show ∀ W : World, _
    intro W hW
    have hB : Below w.heap.size w A := by rw [hA]; exact four_alloc w _ _ _ _
    have hb : Below w.heap.size w W := hB.trans (hW.mono hB.size)
    have hk := four_blk w [.slice va qn vc, .int .i64 d.h.next] [.slice ua ln uc, .int .i64 d.sure] [.slice ta tn tc, .int .i64 d.nx] [.int .i64 a.kind, .string a.queue, .int .i64 a.n, .slice pa pn pc, .slice ba bn bc] 24 32 64 66
    have hk' : Blk A w.heap.size [.slice va qn vc, .int .i64 d.h.next] ∧ Blk A (w.heap.size + 1) [.slice ua ln uc, .int .i64 d.sure] ∧ Blk A (w.heap.size + 1 + 1) [.slice ta tn tc, .int .i64 d.nx] ∧ Blk A (w.heap.size + 1 + 1 + 1) [.int .i64 a.kind, .string a.queue, .int .i64 a.n, .slice pa pn pc, .slice ba bn bc] := by rw [hA]; exact hk
    obtain ⟨k1, k2, k3, k4⟩ := hk'
    exact ⟨HG.out.on hb, hb, k1.below hW k1.lt, k2.below hW k2.lt, k3.below hW k3.lt, k4.below hW k4.lt⟩
  go_enter Try.func6, Try.ntmps6
  go_upto_region 1 with fail
  rw [← hA]
  clear hA
  go_upto_region 3 with (first
    | (go_at_call 35; refine (alive6_any A).mono ?_; rintro r w1 ⟨rfl, hb1⟩; have B1 : Hid (Below A.heap.size A w1) := hb1; obtain ⟨c0, c1, c2, c3⟩ := (K.out _ hb1).2.2.1.b2; obtain ⟨c4, c5, c6, c7⟩ := (K.out _ hb1).2.2.2.1.b2; obtain ⟨c8, c9, c10, c11⟩ := (K.out _ hb1).2.2.2.2.1.b2; clear hb1)
    | fail)
  go_upto_region 5 with (first
    | (go_at_call 36; refine (right6_any _ _ _ d.h _ _ d.l d.ts _ (K.out _ B1.out).1.q (K.out _ B1.out).1.name (K.out _ B1.out).1.fit (K.out _ B1.out).1.l (K.out _ B1.out).1.t).mono ?_; rintro r w2 ⟨rb, rfl, hrt, hb2⟩; have B2 : Hid (Below A.heap.size A w2) := B1.out.trans (hb2.mono B1.out.size); have HRT : Hid (rb = true → d.h.sound ∧ 0 ≤ d.nx ∧ d.nx < 1000000) := hrt; clear c0 c1 c2 c3 c4 c5 c6 c7 c8 c9 c10 c11 hb2 hrt)
    | fail)
  rotate_left
  · go_ret
    exact ⟨rfl, (K.out _ B2.out).2.1⟩
  have HS : Hid (d.h.sound ∧ 0 ≤ d.nx ∧ d.nx < 1000000) := HRT.out (by assumption)
  obtain ⟨c0, c1, c2, c3⟩ := (K.out _ B2.out).2.2.1.b2
  obtain ⟨c4, c5, c6, c7⟩ := (K.out _ B2.out).2.2.2.1.b2
  obtain ⟨c8, c9, c10, c11⟩ := (K.out _ B2.out).2.2.2.2.1.b2
  obtain ⟨⟨c12, c13, c14, c15, c16⟩, cf⟩ : (w2.cell? ⟨w.heap.size + 1 + 1 + 1, 0, none⟩ = some (.int .i64 a.kind) ∧ w2.cell? ⟨w.heap.size + 1 + 1 + 1, 1, none⟩ = some (.string a.queue) ∧ w2.cell? ⟨w.heap.size + 1 + 1 + 1, 2, none⟩ = some (.int .i64 a.n) ∧ w2.cell? ⟨w.heap.size + 1 + 1 + 1, 3, none⟩ = some (.slice pa pn pc) ∧ w2.cell? ⟨w.heap.size + 1 + 1 + 1, 4, none⟩ = some (.slice ba bn bc)) ∧ w.heap.size + 1 + 1 + 1 < w2.heap.size := by
    have hk := (K.out _ B2.out).2.2.2.2.2
    exact ⟨⟨hk.cell 0, hk.cell 1, hk.cell 2, hk.cell 3, hk.cell 4⟩, hk.lt⟩
  obtain ⟨px, hpx⟩ : ∃ n, n = nd.props.length := ⟨_, rfl⟩
  obtain ⟨bx, hbx⟩ : ∃ n, n = nd.body.length := ⟨_, rfl⟩
  have P : Hid (Calls Try.prog 37 #[.agg #[.slice va qn vc, .int .i64 d.h.next], .agg #[.slice ua ln uc, .int .i64 d.sure], .agg #[.slice ta tn tc, .int .i64 d.nx], .agg #[.int .i64 a.kind, .string a.queue, .int .i64 a.n, .slice pa pn pc, .slice ba bn bc], .int .i64 now] w2 (DA w2 ⟨d.h, d.l, d.sure, d.ts, d.nx⟩ qn ln tn 3 sn sm se px bx 0 d.h.next d.sure d.nx)) := by
    have g := (K.out _ B2.out).1
    have := do_any d (.slice va qn vc) (.slice ua ln uc) (.slice ta tn tc) a (.slice pa pn pc) (.slice ba bn bc) now w2 g.q g.l g.t (okD_of HS.out.1 g.ll g.tl ⟨HS.out.2.1, by have := HS.out.2.2; omega⟩ ⟨HNW.out.1, by have := HNW.out.2; omega⟩) g.n g.aq g.af
    rw [HE.out] at this
    exact this.mono fun e w' h => DA.of h HLN.out.1 HLN.out.2.1 HLN.out.2.2 hpx hbx rfl rfl rfl
  clear hpx hbx hn0 hn1
  go_upto_region 6 with (first
    | (go_at_call 37; refine P.out.mono ?_; rintro e w3 ⟨xa, xc, ya, yc, za, zc, pa3, pc3, ba3, bc3, rfl, hq3, hl3, ht3, hb3⟩; have H3 : Hid _ := And.intro hq3 (And.intro hl3 (And.intro ht3 hb3)); clear hq3 hl3 ht3 hb3 c0 c1 c2 c3 c4 c5 c6 c7 c8 c9 c10 c11 c12 c13 c14 c15 c16 cf; simp only)
    | fail)
  obtain ⟨B, hB⟩ : ∃ B, B = (((w3.alloc (.cells #[.slice xa qn xc, .int .i64 d.h.next] 24)).alloc (.cells #[.slice ya ln yc, .int .i64 d.sure] 32)).alloc (.cells #[.slice za tn zc, .int .i64 d.nx] 64)).alloc (.cells #[.int .i64 3, .int .i64 sn, .int .i64 sm, .int .i64 se, .slice pa3 px pc3, .slice ba3 bx bc3] 69) := ⟨_, rfl⟩
  have HB : Hid (Below A.heap.size A B ∧ Below w3.heap.size w3 B ∧ Blk B w3.heap.size [.slice xa qn xc, .int .i64 d.h.next] ∧ Blk B (w3.heap.size + 1) [.slice ya ln yc, .int .i64 d.sure] ∧ Blk B (w3.heap.size + 1 + 1) [.slice za tn zc, .int .i64 d.nx] ∧ Blk B (w3.heap.size + 1 + 1 + 1) [.int .i64 3, .int .i64 sn, .int .i64 sm, .int .i64 se, .slice pa3 px pc3, .slice ba3 bx bc3]) := by
    have hk := four_blk w3 [.slice xa qn xc, .int .i64 d.h.next] [.slice ya ln yc, .int .i64 d.sure] [.slice za tn zc, .int .i64 d.nx] [.int .i64 3, .int .i64 sn, .int .i64 sm, .int .i64 se, .slice pa3 px pc3, .slice ba3 bx bc3] 24 32 64 69
    have hb := H3.out.2.2.2
    have h4 : Below w3.heap.size w3 B := by rw [hB]; exact four_alloc w3 _ _ _ _
    refine ⟨B2.out.trans ((hb.trans (h4.mono hb.size)).mono B2.out.size), h4, ?_⟩
    rw [hB]
    exact hk
  rw [← hB]
  clear hB P
  have s0 : B.cell? ⟨w3.heap.size + 1 + 1 + 1, 0, none⟩ = some (.int .i64 3) := HB.out.2.2.2.2.2.cell 0
  have KB : Hid (∀ W, Below B.heap.size B W → ((W.cell? ⟨w.heap.size, 0, none⟩ = some (.slice va qn vc) ∧ W.cell? ⟨w.heap.size, 1, none⟩ = some (.int .i64 d.h.next)) ∧ (W.cell? ⟨w.heap.size + 1, 0, none⟩ = some (.slice ua ln uc) ∧ W.cell? ⟨w.heap.size + 1, 1, none⟩ = some (.int .i64 d.sure)) ∧ (W.cell? ⟨w.heap.size + 1 + 1, 0, none⟩ = some (.slice ta tn tc) ∧ W.cell? ⟨w.heap.size + 1 + 1, 1, none⟩ = some (.int .i64 d.nx)) ∧ W.cell? ⟨w.heap.size + 1 + 1 + 1, 0, none⟩ = some (.int .i64 a.kind)) ∧
      ((W.cell? ⟨w3.heap.size, 0, none⟩ = some (.slice xa qn xc) ∧ W.cell? ⟨w3.heap.size, 1, none⟩ = some (.int .i64 d.h.next)) ∧ (W.cell? ⟨w3.heap.size + 1, 0, none⟩ = some (.slice ya ln yc) ∧ W.cell? ⟨w3.heap.size + 1, 1, none⟩ = some (.int .i64 d.sure)) ∧ (W.cell? ⟨w3.heap.size + 1 + 1, 0, none⟩ = some (.slice za tn zc) ∧ W.cell? ⟨w3.heap.size + 1 + 1, 1, none⟩ = some (.int .i64 d.nx))) ∧
      RG (.slice va qn vc) (.slice ua ln uc) (.slice ta tn tc) d a (.slice pa pn pc) (.slice ba bn bc) W ∧ Below w.heap.size w W ∧ SliceQ (Under W.heap.size) W (.slice xa qn xc) d.h.queues ∧ SliceB (Under W.heap.size) W (.slice ya ln yc) d.l ∧ SliceT (Under W.heap.size) W (.slice za tn zc) d.ts) := by
    show ∀ W : World, _
    intro W hW
    obtain ⟨h1, h2, k1, k2, k3, k4⟩ := HB.out
    have hA := h1.trans (hW.mono h1.size)
    have h3 := h2.trans (hW.mono h2.size)
    obtain ⟨g, hb, j1, j2, j3, j4⟩ := K.out _ hA
    have k1 := k1.below hW k1.lt
    have k2 := k2.below hW k2.lt
    have k3 := k3.below hW k3.lt
    have off : ∀ b, Made w2.heap.size w3.heap.size b → Under W.heap.size b ∧ W.heap[b]? = w3.heap[b]? := fun b h => ⟨Nat.lt_of_lt_of_le h.2 h3.size, h3.block b h.2⟩
    exact ⟨⟨⟨j1.cell 0, j1.cell 1⟩, ⟨j2.cell 0, j2.cell 1⟩, ⟨j3.cell 0, j3.cell 1⟩, j4.cell 0⟩, ⟨⟨k1.cell 0, k1.cell 1⟩, ⟨k2.cell 0, k2.cell 1⟩, ⟨k3.cell 0, k3.cell 1⟩⟩, g, hb, H3.out.1.sub off, SliceV.sub H3.out.2.1 off, SliceV.sub H3.out.2.2.1 off⟩
  obtain ⟨⟨⟨c0, c1⟩, ⟨c2, c3⟩, ⟨c4, c5⟩, c6⟩, ⟨⟨d0, d1⟩, ⟨d2, d3⟩, d4, d5⟩, -⟩ := KB.out B (Below.refl _ _)
  go_wp2_with (first
    | (go_at_call 11; refine (sameHall_true _ _ d.h HS.out.1.good.small B (KB.out B (Below.refl _ _)).2.2.2.2.1 (KB.out B (Below.refl _ _)).2.2.1.q).mono ?_; rintro r w4 ⟨rfl, hb4⟩; have H4 : Hid (Below B.heap.size B w4) := hb4; clear c0 c1 c2 c3 c4 c5 c6 d0 d1 d2 d3 d4 d5 hb4; obtain ⟨⟨⟨c0, c1⟩, ⟨c2, c3⟩, ⟨c4, c5⟩, c6⟩, ⟨⟨d0, d1⟩, ⟨d2, d3⟩, d4, d5⟩, -⟩ := KB.out w4 H4.out)
    | (go_at_call 22; refine (SR.sameLog_eq _ _ d.sure d.l w4 (bytes_sr (KB.out w4 H4.out).2.2.2.2.2.1) (bytes_sr (KB.out w4 H4.out).2.2.1.l)).mono ?_; rintro r w5 ⟨rfl, hb5⟩; have H5 : Hid (Below B.heap.size B w5) := H4.out.trans (Below.mono ⟨hb5.os, hb5.tape, hb5.output, hb5.size, hb5.block⟩ H4.out.size); clear c0 c1 c2 c3 c4 c5 c6 d0 d1 d2 d3 d4 d5 hb5; obtain ⟨⟨⟨c0, c1⟩, ⟨c2, c3⟩, ⟨c4, c5⟩, c6⟩, ⟨⟨d0, d1⟩, ⟨d2, d3⟩, d4, d5⟩, -⟩ := KB.out w5 H5.out)
    | (go_at_call 38; refine (sameSession_true _ _ d.nx d.ts w5 (KB.out w5 H5.out).2.2.2.2.2.2 (KB.out w5 H5.out).2.2.1.t).mono ?_; rintro r w6 ⟨rfl, hb6⟩; have H6 : Hid (Below B.heap.size B w6) := H5.out.trans (hb6.mono H5.out.size); clear c0 c1 c2 c3 c4 c5 c6 d0 d1 d2 d3 d4 d5 hb6; obtain ⟨⟨⟨c0, c1⟩, ⟨c2, c3⟩, ⟨c4, c5⟩, c6⟩, ⟨⟨d0, d1⟩, ⟨d2, d3⟩, d4, d5⟩, -⟩ := KB.out w6 H6.out)
    | fail)
  all_goals (go_ret; exact ⟨rfl, (KB.out w6 H6.out).2.2.2.1⟩)

set_option maxRecDepth 100000 in
set_option maxHeartbeats 12800000 in
theorem ref3t (hv lv tv : Value) (d : DK) (a : AD) (pv bv : Value) (now : Int) (w : World) (G : RG hv lv tv d a pv bv w) (ts' : List TD) (sk sn sm se : Int) (nd : ND) (z : Int) (he : d.answer a now = (⟨d.h, d.l, d.sure, ts', d.nx⟩, ⟨sk, sn, sm, se, nd⟩, z)) (hnow : 0 ≤ now ∧ now ≤ 1000) (h0 : z = 0) (h4 : ¬ sk = 4) (h3 : sk = 3) (hk : a.kind = 7 ∨ a.kind = 8) (hts : ts'.length + 1 = d.ts.length) :
    Calls Try.prog 6 #[.agg #[hv, .int .i64 d.h.next], .agg #[lv, .int .i64 d.sure], .agg #[tv, .int .i64 d.nx], .agg #[.int .i64 a.kind, .string a.queue, .int .i64 a.n, pv, bv], .int .i64 now] w fun e w' => e = .returned (.bool true) ∧ Below w.heap.size w w' := by
  clear h4
  subst h0 h3
  have HG : Hid (RG hv lv tv d a pv bv w) := G
  have HE : Hid (d.answer a now = (⟨d.h, d.l, d.sure, ts', d.nx⟩, ⟨3, sn, sm, se, nd⟩, 0)) := he
  obtain ⟨va, vc, rfl⟩ := G.q.shp
  obtain ⟨ua, uc, rfl, -⟩ := SliceV.shape G.l
  obtain ⟨ta, tc, rfl, -⟩ := SliceV.shape G.t
  obtain ⟨pa, pc, rfl, -⟩ := SliceV.shape G.n.1
  obtain ⟨ba, bc, rfl, -⟩ := SliceV.shape G.n.2
  obtain ⟨qn, hqn⟩ : ∃ n, n = d.h.queues.length := ⟨_, rfl⟩
  obtain ⟨ln, hln⟩ : ∃ n, n = d.l.length := ⟨_, rfl⟩
  obtain ⟨tn, htn⟩ : ∃ n, n = d.ts.length := ⟨_, rfl⟩
  obtain ⟨pn, hpn⟩ : ∃ n, n = a.note.props.length := ⟨_, rfl⟩
  obtain ⟨bn, hbn⟩ : ∃ n, n = a.note.body.length := ⟨_, rfl⟩
  rw [← hqn, ← hln, ← htn, ← hpn, ← hbn] at HG
  rw [← hqn, ← hln, ← htn, ← hpn, ← hbn]
  have HLN : Hid (qn = d.h.queues.length ∧ ln = d.l.length ∧ tn = d.ts.length) := ⟨hqn, hln, htn⟩
  have hn0 : ¬ now < 0 := by omega
  have hn1 : ¬ 1000 < now := by omega
  have HNW : Hid (0 ≤ now ∧ now ≤ 1000) := hnow
  clear G he hqn hln htn hpn hbn hnow
  obtain ⟨A, hA⟩ : ∃ A, A = (((w.alloc (.cells #[.slice va qn vc, .int .i64 d.h.next] 24)).alloc (.cells #[.slice ua ln uc, .int .i64 d.sure] 32)).alloc (.cells #[.slice ta tn tc, .int .i64 d.nx] 64)).alloc (.cells #[.int .i64 a.kind, .string a.queue, .int .i64 a.n, .slice pa pn pc, .slice ba bn bc] 66) := ⟨_, rfl⟩
  have K : Hid (∀ W, Below A.heap.size A W → RG (.slice va qn vc) (.slice ua ln uc) (.slice ta tn tc) d a (.slice pa pn pc) (.slice ba bn bc) W ∧ Below w.heap.size w W ∧ Blk W w.heap.size [.slice va qn vc, .int .i64 d.h.next] ∧ Blk W (w.heap.size + 1) [.slice ua ln uc, .int .i64 d.sure] ∧ Blk W (w.heap.size + 1 + 1) [.slice ta tn tc, .int .i64 d.nx] ∧ Blk W (w.heap.size + 1 + 1 + 1) [.int .i64 a.kind, .string a.queue, .int .i64 a.n, .slice pa pn pc, .slice ba bn bc]) := by
    show ∀ W : World, _
    intro W hW
    have hB : Below w.heap.size w A := by rw [hA]; exact four_alloc w _ _ _ _
    have hb : Below w.heap.size w W := hB.trans (hW.mono hB.size)
    have hk := four_blk w [.slice va qn vc, .int .i64 d.h.next] [.slice ua ln uc, .int .i64 d.sure] [.slice ta tn tc, .int .i64 d.nx] [.int .i64 a.kind, .string a.queue, .int .i64 a.n, .slice pa pn pc, .slice ba bn bc] 24 32 64 66
    have hk' : Blk A w.heap.size [.slice va qn vc, .int .i64 d.h.next] ∧ Blk A (w.heap.size + 1) [.slice ua ln uc, .int .i64 d.sure] ∧ Blk A (w.heap.size + 1 + 1) [.slice ta tn tc, .int .i64 d.nx] ∧ Blk A (w.heap.size + 1 + 1 + 1) [.int .i64 a.kind, .string a.queue, .int .i64 a.n, .slice pa pn pc, .slice ba bn bc] := by rw [hA]; exact hk
    obtain ⟨k1, k2, k3, k4⟩ := hk'
    exact ⟨HG.out.on hb, hb, k1.below hW k1.lt, k2.below hW k2.lt, k3.below hW k3.lt, k4.below hW k4.lt⟩
  go_enter Try.func6, Try.ntmps6
  go_upto_region 1 with fail
  rw [← hA]
  clear hA
  go_upto_region 3 with (first
    | (go_at_call 35; refine (alive6_any A).mono ?_; rintro r w1 ⟨rfl, hb1⟩; have B1 : Hid (Below A.heap.size A w1) := hb1; obtain ⟨c0, c1, c2, c3⟩ := (K.out _ hb1).2.2.1.b2; obtain ⟨c4, c5, c6, c7⟩ := (K.out _ hb1).2.2.2.1.b2; obtain ⟨c8, c9, c10, c11⟩ := (K.out _ hb1).2.2.2.2.1.b2; clear hb1)
    | fail)
  go_upto_region 5 with (first
    | (go_at_call 36; refine (right6_any _ _ _ d.h _ _ d.l d.ts _ (K.out _ B1.out).1.q (K.out _ B1.out).1.name (K.out _ B1.out).1.fit (K.out _ B1.out).1.l (K.out _ B1.out).1.t).mono ?_; rintro r w2 ⟨rb, rfl, hrt, hb2⟩; have B2 : Hid (Below A.heap.size A w2) := B1.out.trans (hb2.mono B1.out.size); have HRT : Hid (rb = true → d.h.sound ∧ 0 ≤ d.nx ∧ d.nx < 1000000) := hrt; clear c0 c1 c2 c3 c4 c5 c6 c7 c8 c9 c10 c11 hb2 hrt)
    | fail)
  rotate_left
  · go_ret
    exact ⟨rfl, (K.out _ B2.out).2.1⟩
  have HS : Hid (d.h.sound ∧ 0 ≤ d.nx ∧ d.nx < 1000000) := HRT.out (by assumption)
  obtain ⟨c0, c1, c2, c3⟩ := (K.out _ B2.out).2.2.1.b2
  obtain ⟨c4, c5, c6, c7⟩ := (K.out _ B2.out).2.2.2.1.b2
  obtain ⟨c8, c9, c10, c11⟩ := (K.out _ B2.out).2.2.2.2.1.b2
  obtain ⟨⟨c12, c13, c14, c15, c16⟩, cf⟩ : (w2.cell? ⟨w.heap.size + 1 + 1 + 1, 0, none⟩ = some (.int .i64 a.kind) ∧ w2.cell? ⟨w.heap.size + 1 + 1 + 1, 1, none⟩ = some (.string a.queue) ∧ w2.cell? ⟨w.heap.size + 1 + 1 + 1, 2, none⟩ = some (.int .i64 a.n) ∧ w2.cell? ⟨w.heap.size + 1 + 1 + 1, 3, none⟩ = some (.slice pa pn pc) ∧ w2.cell? ⟨w.heap.size + 1 + 1 + 1, 4, none⟩ = some (.slice ba bn bc)) ∧ w.heap.size + 1 + 1 + 1 < w2.heap.size := by
    have hk := (K.out _ B2.out).2.2.2.2.2
    exact ⟨⟨hk.cell 0, hk.cell 1, hk.cell 2, hk.cell 3, hk.cell 4⟩, hk.lt⟩
  obtain ⟨px, hpx⟩ : ∃ n, n = nd.props.length := ⟨_, rfl⟩
  obtain ⟨bx, hbx⟩ : ∃ n, n = nd.body.length := ⟨_, rfl⟩
  obtain ⟨t1, ht1⟩ : ∃ n, n = ts'.length := ⟨_, rfl⟩
  have HT1 : Hid (t1 + 1 = tn ∧ ts'.length ≠ d.ts.length ∧ tn ≤ 3518437208832 ∧ (a.kind = 7 ∨ a.kind = 8)) := ⟨by rw [HLN.out.2.2]; omega, by omega, by rw [HLN.out.2.2]; exact HG.out.tl, hk⟩
  have P : Hid (Calls Try.prog 37 #[.agg #[.slice va qn vc, .int .i64 d.h.next], .agg #[.slice ua ln uc, .int .i64 d.sure], .agg #[.slice ta tn tc, .int .i64 d.nx], .agg #[.int .i64 a.kind, .string a.queue, .int .i64 a.n, .slice pa pn pc, .slice ba bn bc], .int .i64 now] w2 (DA w2 ⟨d.h, d.l, d.sure, ts', d.nx⟩ qn ln t1 3 sn sm se px bx 0 d.h.next d.sure d.nx)) := by
    have g := (K.out _ B2.out).1
    have := do_any d (.slice va qn vc) (.slice ua ln uc) (.slice ta tn tc) a (.slice pa pn pc) (.slice ba bn bc) now w2 g.q g.l g.t (okD_of HS.out.1 g.ll g.tl ⟨HS.out.2.1, by have := HS.out.2.2; omega⟩ ⟨HNW.out.1, by have := HNW.out.2; omega⟩) g.n g.aq g.af
    rw [HE.out] at this
    exact this.mono fun e w' h => DA.of h HLN.out.1 HLN.out.2.1 ht1 hpx hbx rfl rfl rfl
  clear hpx hbx ht1 hts hk hn0 hn1
  go_upto_region 6 with (first
    | (go_at_call 37; refine P.out.mono ?_; rintro e w3 ⟨xa, xc, ya, yc, za, zc, pa3, pc3, ba3, bc3, rfl, hq3, hl3, ht3, hb3⟩; have H3 : Hid _ := And.intro hq3 (And.intro hl3 (And.intro ht3 hb3)); clear hq3 hl3 ht3 hb3 c0 c1 c2 c3 c4 c5 c6 c7 c8 c9 c10 c11 c12 c13 c14 c15 c16 cf; simp only)
    | fail)
  obtain ⟨B, hB⟩ : ∃ B, B = (((w3.alloc (.cells #[.slice xa qn xc, .int .i64 d.h.next] 24)).alloc (.cells #[.slice ya ln yc, .int .i64 d.sure] 32)).alloc (.cells #[.slice za t1 zc, .int .i64 d.nx] 64)).alloc (.cells #[.int .i64 3, .int .i64 sn, .int .i64 sm, .int .i64 se, .slice pa3 px pc3, .slice ba3 bx bc3] 69) := ⟨_, rfl⟩
  have HB : Hid (Below A.heap.size A B ∧ Below w3.heap.size w3 B ∧ Blk B w3.heap.size [.slice xa qn xc, .int .i64 d.h.next] ∧ Blk B (w3.heap.size + 1) [.slice ya ln yc, .int .i64 d.sure] ∧ Blk B (w3.heap.size + 1 + 1) [.slice za t1 zc, .int .i64 d.nx] ∧ Blk B (w3.heap.size + 1 + 1 + 1) [.int .i64 3, .int .i64 sn, .int .i64 sm, .int .i64 se, .slice pa3 px pc3, .slice ba3 bx bc3]) := by
    have hk := four_blk w3 [.slice xa qn xc, .int .i64 d.h.next] [.slice ya ln yc, .int .i64 d.sure] [.slice za t1 zc, .int .i64 d.nx] [.int .i64 3, .int .i64 sn, .int .i64 sm, .int .i64 se, .slice pa3 px pc3, .slice ba3 bx bc3] 24 32 64 69
    have hb := H3.out.2.2.2
    have h4 : Below w3.heap.size w3 B := by rw [hB]; exact four_alloc w3 _ _ _ _
    refine ⟨B2.out.trans ((hb.trans (h4.mono hb.size)).mono B2.out.size), h4, ?_⟩
    rw [hB]
    exact hk
  rw [← hB]
  clear hB P
  have s0 : B.cell? ⟨w3.heap.size + 1 + 1 + 1, 0, none⟩ = some (.int .i64 3) := HB.out.2.2.2.2.2.cell 0
  have KB : Hid (∀ W, Below B.heap.size B W → ((W.cell? ⟨w.heap.size, 0, none⟩ = some (.slice va qn vc) ∧ W.cell? ⟨w.heap.size, 1, none⟩ = some (.int .i64 d.h.next)) ∧ (W.cell? ⟨w.heap.size + 1, 0, none⟩ = some (.slice ua ln uc) ∧ W.cell? ⟨w.heap.size + 1, 1, none⟩ = some (.int .i64 d.sure)) ∧ (W.cell? ⟨w.heap.size + 1 + 1, 0, none⟩ = some (.slice ta tn tc) ∧ W.cell? ⟨w.heap.size + 1 + 1, 1, none⟩ = some (.int .i64 d.nx)) ∧ W.cell? ⟨w.heap.size + 1 + 1 + 1, 0, none⟩ = some (.int .i64 a.kind)) ∧
      ((W.cell? ⟨w3.heap.size, 0, none⟩ = some (.slice xa qn xc) ∧ W.cell? ⟨w3.heap.size, 1, none⟩ = some (.int .i64 d.h.next)) ∧ (W.cell? ⟨w3.heap.size + 1, 0, none⟩ = some (.slice ya ln yc) ∧ W.cell? ⟨w3.heap.size + 1, 1, none⟩ = some (.int .i64 d.sure)) ∧ (W.cell? ⟨w3.heap.size + 1 + 1, 0, none⟩ = some (.slice za t1 zc) ∧ W.cell? ⟨w3.heap.size + 1 + 1, 1, none⟩ = some (.int .i64 d.nx))) ∧
      RG (.slice va qn vc) (.slice ua ln uc) (.slice ta tn tc) d a (.slice pa pn pc) (.slice ba bn bc) W ∧ Below w.heap.size w W ∧ SliceQ (Under W.heap.size) W (.slice xa qn xc) d.h.queues ∧ SliceB (Under W.heap.size) W (.slice ya ln yc) d.l ∧ SliceT (Under W.heap.size) W (.slice za t1 zc) ts') := by
    show ∀ W : World, _
    intro W hW
    obtain ⟨h1, h2, k1, k2, k3, k4⟩ := HB.out
    have hA := h1.trans (hW.mono h1.size)
    have h3 := h2.trans (hW.mono h2.size)
    obtain ⟨g, hb, j1, j2, j3, j4⟩ := K.out _ hA
    have k1 := k1.below hW k1.lt
    have k2 := k2.below hW k2.lt
    have k3 := k3.below hW k3.lt
    have off : ∀ b, Made w2.heap.size w3.heap.size b → Under W.heap.size b ∧ W.heap[b]? = w3.heap[b]? := fun b h => ⟨Nat.lt_of_lt_of_le h.2 h3.size, h3.block b h.2⟩
    exact ⟨⟨⟨j1.cell 0, j1.cell 1⟩, ⟨j2.cell 0, j2.cell 1⟩, ⟨j3.cell 0, j3.cell 1⟩, j4.cell 0⟩, ⟨⟨k1.cell 0, k1.cell 1⟩, ⟨k2.cell 0, k2.cell 1⟩, ⟨k3.cell 0, k3.cell 1⟩⟩, g, hb, H3.out.1.sub off, SliceV.sub H3.out.2.1 off, SliceV.sub H3.out.2.2.1 off⟩
  obtain ⟨⟨⟨c0, c1⟩, ⟨c2, c3⟩, ⟨c4, c5⟩, c6⟩, ⟨⟨d0, d1⟩, ⟨d2, d3⟩, d4, d5⟩, -⟩ := KB.out B (Below.refl _ _)
  have ek : IntKind.i64.wrap ((tn : Int) - 1) = (tn : Int) - 1 := by have h := HT1.out; rw [IntKind.wrap_i64]; omega
  go_wp2_with (first
    | (go_at_call 11; refine (sameHall_true _ _ d.h HS.out.1.good.small B (KB.out B (Below.refl _ _)).2.2.2.2.1 (KB.out B (Below.refl _ _)).2.2.1.q).mono ?_; rintro r w4 ⟨rfl, hb4⟩; have H4 : Hid (Below B.heap.size B w4) := hb4; clear c0 c1 c2 c3 c4 c5 c6 d0 d1 d2 d3 d4 d5 hb4; obtain ⟨⟨⟨c0, c1⟩, ⟨c2, c3⟩, ⟨c4, c5⟩, c6⟩, ⟨⟨d0, d1⟩, ⟨d2, d3⟩, d4, d5⟩, -⟩ := KB.out w4 H4.out)
    | (go_at_call 22; refine (SR.sameLog_eq _ _ d.sure d.l w4 (bytes_sr (KB.out w4 H4.out).2.2.2.2.2.1) (bytes_sr (KB.out w4 H4.out).2.2.1.l)).mono ?_; rintro r w5 ⟨rfl, hb5⟩; have H5 : Hid (Below B.heap.size B w5) := H4.out.trans (Below.mono ⟨hb5.os, hb5.tape, hb5.output, hb5.size, hb5.block⟩ H4.out.size); clear c0 c1 c2 c3 c4 c5 c6 d0 d1 d2 d3 d4 d5 hb5; obtain ⟨⟨⟨c0, c1⟩, ⟨c2, c3⟩, ⟨c4, c5⟩, c6⟩, ⟨⟨d0, d1⟩, ⟨d2, d3⟩, d4, d5⟩, -⟩ := KB.out w5 H5.out)
    | (go_at_call 38; refine (sameSession_len _ _ d.nx ts' d.ts w5 (KB.out w5 H5.out).2.2.2.2.2.2 (KB.out w5 H5.out).2.2.1.t HT1.out.2.1).mono ?_; rintro r w6 ⟨rfl, hb6⟩; have H6 : Hid (Below B.heap.size B w6) := H5.out.trans (hb6.mono H5.out.size); clear c0 c1 c2 c3 c4 c5 c6 d0 d1 d2 d3 d4 d5 hb6; obtain ⟨⟨⟨c0, c1⟩, ⟨c2, c3⟩, ⟨c4, c5⟩, c6⟩, ⟨⟨d0, d1⟩, ⟨d2, d3⟩, d4, d5⟩, -⟩ := KB.out w6 H6.out)
    | fail)
  all_goals have hh := HT1.out
  all_goals (go_ret; exact ⟨by simp; omega, (KB.out w6 H6.out).2.2.2.1⟩)

set_option maxRecDepth 100000 in
set_option maxHeartbeats 12800000 in
theorem refOut (hv lv tv : Value) (d : DK) (a : AD) (pv bv : Value) (now : Int) (w : World) (G : RG hv lv tv d a pv bv w) (hnow : ¬ (0 ≤ now ∧ now ≤ 1000)) :
    Calls Try.prog 6 #[.agg #[hv, .int .i64 d.h.next], .agg #[lv, .int .i64 d.sure], .agg #[tv, .int .i64 d.nx], .agg #[.int .i64 a.kind, .string a.queue, .int .i64 a.n, pv, bv], .int .i64 now] w fun e w' => e = .returned (.bool true) ∧ Below w.heap.size w w' := by
  have HG : Hid (RG hv lv tv d a pv bv w) := G
  obtain ⟨va, vc, rfl⟩ := G.q.shp
  obtain ⟨ua, uc, rfl, -⟩ := SliceV.shape G.l
  obtain ⟨ta, tc, rfl, -⟩ := SliceV.shape G.t
  obtain ⟨pa, pc, rfl, -⟩ := SliceV.shape G.n.1
  obtain ⟨ba, bc, rfl, -⟩ := SliceV.shape G.n.2
  obtain ⟨qn, hqn⟩ : ∃ n, n = d.h.queues.length := ⟨_, rfl⟩
  obtain ⟨ln, hln⟩ : ∃ n, n = d.l.length := ⟨_, rfl⟩
  obtain ⟨tn, htn⟩ : ∃ n, n = d.ts.length := ⟨_, rfl⟩
  obtain ⟨pn, hpn⟩ : ∃ n, n = a.note.props.length := ⟨_, rfl⟩
  obtain ⟨bn, hbn⟩ : ∃ n, n = a.note.body.length := ⟨_, rfl⟩
  rw [← hqn, ← hln, ← htn, ← hpn, ← hbn] at HG
  rw [← hqn, ← hln, ← htn, ← hpn, ← hbn]
  have HLN : Hid (qn = d.h.queues.length ∧ ln = d.l.length ∧ tn = d.ts.length) := ⟨hqn, hln, htn⟩
  have HNW : Hid (¬ (0 ≤ now ∧ now ≤ 1000)) := hnow
  clear G hqn hln htn hpn hbn hnow
  obtain ⟨A, hA⟩ : ∃ A, A = (((w.alloc (.cells #[.slice va qn vc, .int .i64 d.h.next] 24)).alloc (.cells #[.slice ua ln uc, .int .i64 d.sure] 32)).alloc (.cells #[.slice ta tn tc, .int .i64 d.nx] 64)).alloc (.cells #[.int .i64 a.kind, .string a.queue, .int .i64 a.n, .slice pa pn pc, .slice ba bn bc] 66) := ⟨_, rfl⟩
  have K : Hid (∀ W, Below A.heap.size A W → RG (.slice va qn vc) (.slice ua ln uc) (.slice ta tn tc) d a (.slice pa pn pc) (.slice ba bn bc) W ∧ Below w.heap.size w W ∧ Blk W w.heap.size [.slice va qn vc, .int .i64 d.h.next] ∧ Blk W (w.heap.size + 1) [.slice ua ln uc, .int .i64 d.sure] ∧ Blk W (w.heap.size + 1 + 1) [.slice ta tn tc, .int .i64 d.nx] ∧ Blk W (w.heap.size + 1 + 1 + 1) [.int .i64 a.kind, .string a.queue, .int .i64 a.n, .slice pa pn pc, .slice ba bn bc]) := by
    show ∀ W : World, _
    intro W hW
    have hB : Below w.heap.size w A := by rw [hA]; exact four_alloc w _ _ _ _
    have hb : Below w.heap.size w W := hB.trans (hW.mono hB.size)
    have hk := four_blk w [.slice va qn vc, .int .i64 d.h.next] [.slice ua ln uc, .int .i64 d.sure] [.slice ta tn tc, .int .i64 d.nx] [.int .i64 a.kind, .string a.queue, .int .i64 a.n, .slice pa pn pc, .slice ba bn bc] 24 32 64 66
    have hk' : Blk A w.heap.size [.slice va qn vc, .int .i64 d.h.next] ∧ Blk A (w.heap.size + 1) [.slice ua ln uc, .int .i64 d.sure] ∧ Blk A (w.heap.size + 1 + 1) [.slice ta tn tc, .int .i64 d.nx] ∧ Blk A (w.heap.size + 1 + 1 + 1) [.int .i64 a.kind, .string a.queue, .int .i64 a.n, .slice pa pn pc, .slice ba bn bc] := by rw [hA]; exact hk
    obtain ⟨k1, k2, k3, k4⟩ := hk'
    exact ⟨HG.out.on hb, hb, k1.below hW k1.lt, k2.below hW k2.lt, k3.below hW k3.lt, k4.below hW k4.lt⟩
  go_enter Try.func6, Try.ntmps6
  go_upto_region 1 with fail
  rw [← hA]
  clear hA
  go_upto_region 3 with (first
    | (go_at_call 35; refine (alive6_any A).mono ?_; rintro r w1 ⟨rfl, hb1⟩; have B1 : Hid (Below A.heap.size A w1) := hb1; obtain ⟨c0, c1, c2, c3⟩ := (K.out _ hb1).2.2.1.b2; obtain ⟨c4, c5, c6, c7⟩ := (K.out _ hb1).2.2.2.1.b2; obtain ⟨c8, c9, c10, c11⟩ := (K.out _ hb1).2.2.2.2.1.b2; clear hb1)
    | fail)
  go_upto_region 5 with (first
    | (go_at_call 36; refine (right6_any _ _ _ d.h _ _ d.l d.ts _ (K.out _ B1.out).1.q (K.out _ B1.out).1.name (K.out _ B1.out).1.fit (K.out _ B1.out).1.l (K.out _ B1.out).1.t).mono ?_; rintro r w2 ⟨rb, rfl, hrt, hb2⟩; have B2 : Hid (Below A.heap.size A w2) := B1.out.trans (hb2.mono B1.out.size); have HRT : Hid (rb = true → d.h.sound ∧ 0 ≤ d.nx ∧ d.nx < 1000000) := hrt; clear c0 c1 c2 c3 c4 c5 c6 c7 c8 c9 c10 c11 hb2 hrt)
    | fail)
  all_goals first
    | (go_ret; exact ⟨rfl, (K.out _ B2.out).2.1⟩)
    | (exfalso; have hh := HNW.out; omega)

theorem refused_any (hv lv tv : Value) (d : DK) (a : AD) (pv bv : Value) (now : Int) (w : World) (G : RG hv lv tv d a pv bv w) :
    Calls Try.prog 6 #[.agg #[hv, .int .i64 d.h.next], .agg #[lv, .int .i64 d.sure], .agg #[tv, .int .i64 d.nx], .agg #[.int .i64 a.kind, .string a.queue, .int .i64 a.n, pv, bv], .int .i64 now] w fun e w' => e = .returned (.bool true) ∧ Below w.heap.size w w' := by
  by_cases hnow : 0 ≤ now ∧ now ≤ 1000
  case neg => exact refOut hv lv tv d a pv bv now w G hnow
  obtain ⟨⟨d', ⟨sk, sn, sm, se, nd⟩, z⟩, hr⟩ : ∃ r, r = d.answer a now := ⟨_, rfl⟩
  rcases refused_or (d.answer a now) with h | h
  · rw [← hr] at h
    exact refA hv lv tv d a pv bv now w G d' sk sn sm se nd z hr.symm hnow h.1 h.2.1 h.2.2
  · have hs := answer_refused d a now h
    rw [← hr] at h hs
    obtain ⟨dh, dl, dsu, dts, dnx⟩ := d'
    obtain ⟨h1, h2, h3, h4, h5⟩ := hs
    simp only at h1 h2 h3 h4 h5
    subst h1 h2 h3 h4
    rcases h with h | ⟨h, g4⟩ | ⟨h, g4, g3⟩
    · rcases h5 with h5 | ⟨hk, h5⟩
      · subst h5
        exact ref9s hv lv tv d a pv bv now w G sk sn sm se nd z hr.symm hnow h
      · exact ref9t hv lv tv d a pv bv now w G dts sk sn sm se nd z hr.symm hnow h hk h5
    · rcases h5 with h5 | ⟨hk, h5⟩
      · subst h5
        exact ref4s hv lv tv d a pv bv now w G sk sn sm se nd z hr.symm hnow h g4
      · exact ref4t hv lv tv d a pv bv now w G dts sk sn sm se nd z hr.symm hnow h g4 hk h5
    · rcases h5 with h5 | ⟨hk, h5⟩
      · subst h5
        exact ref3s hv lv tv d a pv bv now w G sk sn sm se nd z hr.symm hnow h g4 g3
      · exact ref3t hv lv tv d a pv bv now w G dts sk sn sm se nd z hr.symm hnow h g4 g3 hk h5
end Go.Proofs.Ytkddkpdfeeikhaa
