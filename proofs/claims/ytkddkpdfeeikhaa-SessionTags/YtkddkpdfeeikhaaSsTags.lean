/-
  For every hall, session, name and time: tglaw6.SessionTags tells true.
-/
import Derived.Test.YtkddkpdfeeikhaaSsTagProofM48
import Derived.Test.YtkddkpdfeeikhaaSsTagProofM49
import Derived.Test.YtkddkpdfeeikhaaSsTagProofM23
import Derived.Deep.DeepCutAuto
namespace Go.Proofs.Ytkddkpdfeeikhaa
open Go.RowKit
set_option linter.unusedVariables false
set_option linter.unusedSimpArgs false

attribute [local go_sem ↓] Go.wp_at_zero Go.wp_at_succ

theorem four_alloc7 (w : World) (o1 o2 o3 o4 : Obj) : Below w.heap.size w ((((w.alloc o1).alloc o2).alloc o3).alloc o4) := (((below_alloc _ _).alloc (by simp) _).alloc (by simp; omega) _).alloc (by simp; omega) _
theorem four_blk7 (w : World) (c1 c2 c3 c4 : List Value) (t1 t2 t3 t4 : TypeId) :
    Blk ((((w.alloc (.cells c1.toArray t1)).alloc (.cells c2.toArray t2)).alloc (.cells c3.toArray t3)).alloc (.cells c4.toArray t4)) w.heap.size c1 ∧ Blk ((((w.alloc (.cells c1.toArray t1)).alloc (.cells c2.toArray t2)).alloc (.cells c3.toArray t3)).alloc (.cells c4.toArray t4)) (w.heap.size + 1) c2 ∧
      Blk ((((w.alloc (.cells c1.toArray t1)).alloc (.cells c2.toArray t2)).alloc (.cells c3.toArray t3)).alloc (.cells c4.toArray t4)) (w.heap.size + 1 + 1) c3 ∧ Blk ((((w.alloc (.cells c1.toArray t1)).alloc (.cells c2.toArray t2)).alloc (.cells c3.toArray t3)).alloc (.cells c4.toArray t4)) (w.heap.size + 1 + 1 + 1) c4 := by
  have k1 := (((Blk.new w c1 t1).alloc (.cells c2.toArray t2)).alloc (.cells c3.toArray t3)).alloc (.cells c4.toArray t4)
  have k2 := ((Blk.new (w.alloc (.cells c1.toArray t1)) c2 t2).alloc (.cells c3.toArray t3)).alloc (.cells c4.toArray t4)
  have k3 := (Blk.new ((w.alloc (.cells c1.toArray t1)).alloc (.cells c2.toArray t2)) c3 t3).alloc (.cells c4.toArray t4)
  have k4 := Blk.new (((w.alloc (.cells c1.toArray t1)).alloc (.cells c2.toArray t2)).alloc (.cells c3.toArray t3)) c4 t4
  simp only [World.size_alloc] at k2 k3 k4
  exact ⟨k1, k2, k3, k4⟩
/-- What the law is given. -/
structure TGs (hv tv : Value) (h : HD) (ts : List TD) (nm : ByteArray) (w : World) : Prop where
  q : SliceQ (Under w.heap.size) w hv h.queues
  t : SliceT (Under w.heap.size) w tv ts
  name : ∀ q ∈ h.queues, q.name.size ≤ maxLen
  fit : ∀ q ∈ h.queues, ∀ i ∈ q.items, i.note.fitN
  tl : ts.length ≤ 3518437208832
  aq : nm.size ≤ maxLen
theorem TGs.on {hv tv : Value} {h : HD} {ts : List TD} {name : ByteArray} {w W : World} (H : TGs hv tv h ts name w) (hb : Below w.heap.size w W) : TGs hv tv h ts name W :=
  ⟨H.q.sub fun b h => ⟨Nat.lt_of_lt_of_le h hb.size, hb.block b h⟩, SliceV.sub H.t fun b h => ⟨Nat.lt_of_lt_of_le h hb.size, hb.block b h⟩, H.name, H.fit, H.tl, H.aq⟩

set_option maxRecDepth 100000 in
set_option maxHeartbeats 12800000 in
theorem tags_any (hv tv : Value) (h : HD) (ts : List TD) (nx : Int) (name : ByteArray) (now : Int) (w : World) (G : TGs hv tv h ts name w) :
    Calls Try.prog 7 #[.agg #[hv, .int .i64 h.next], .agg #[tv, .int .i64 nx], .string name, .int .i64 now] w fun e w' => e = .returned (.bool true) ∧ Below w.heap.size w w' := by
  have HG : Hid (TGs hv tv h ts name w) := G
  obtain ⟨va, vc, rfl⟩ := G.q.shp
  obtain ⟨ta, tc, rfl, t1, t2, -⟩ := SliceV.shape G.t
  obtain ⟨qa, qc, qe, q1, q2, -⟩ := G.q.shape
  simp only [Value.slice.injEq, true_and] at qe
  unfold maxLen at t2 q2
  have htl := G.tl
  by_cases hnow : 0 ≤ now ∧ now ≤ 1000
  case neg =>
    have HNW : Hid (¬ (0 ≤ now ∧ now ≤ 1000)) := hnow
    obtain ⟨A, hA⟩ : ∃ A, A = (w.alloc (.cells #[.slice va h.queues.length vc, .int .i64 h.next] 24)).alloc (.cells #[.slice ta ts.length tc, .int .i64 nx] 64) := ⟨_, rfl⟩
    have K : Hid (∀ W, Below A.heap.size A W → TGs (.slice va h.queues.length vc) (.slice ta ts.length tc) h ts name W ∧ Below w.heap.size w W ∧ Blk W w.heap.size [.slice va h.queues.length vc, .int .i64 h.next] ∧ Blk W (w.heap.size + 1) [.slice ta ts.length tc, .int .i64 nx]) := by
      show ∀ W : World, _
      intro W hW
      have hB : Below w.heap.size w A := by rw [hA]; exact (below_alloc _ _).alloc (by simp) _
      have hb : Below w.heap.size w W := hB.trans (hW.mono hB.size)
      have k1 : Blk A w.heap.size [.slice va h.queues.length vc, .int .i64 h.next] := by rw [hA]; exact (Blk.new _ _ _).alloc _
      have k2 : Blk A (w.heap.size + 1) [.slice ta ts.length tc, .int .i64 nx] := by
        rw [hA]
        have := Blk.new (w.alloc (.cells #[.slice va h.queues.length vc, .int .i64 h.next] 24)) [.slice ta ts.length tc, .int .i64 nx] 64
        simpa using this
      exact ⟨HG.out.on hb, hb, k1.below hW k1.lt, k2.below hW k2.lt⟩
    clear G hnow qe
    go_enter Try.func7, Try.ntmps7
    go_upto_region 1 with fail
    rw [← hA]
    clear hA
    go_upto_region 3 with (first
      | (go_at_call 35; refine (alive6_any A).mono ?_; rintro r w1 ⟨rfl, hb1⟩; have B1 : Hid (Below A.heap.size A w1) := hb1; obtain ⟨c0, c1, c2, c3⟩ := (K.out _ hb1).2.2.1.b2; obtain ⟨c4, c5, c6, c7⟩ := (K.out _ hb1).2.2.2.b2; clear hb1)
      | fail)
    go_upto_region 5 with (first
      | (go_at_call 36; refine (right6_any _ (.slice none 0 0) _ h 0 nx [] ts _ (K.out _ B1.out).1.q (K.out _ B1.out).1.name (K.out _ B1.out).1.fit (SliceV.nil _ _) (K.out _ B1.out).1.t).mono ?_; rintro r w2 ⟨rb, rfl, hrt, hb2⟩; have B2 : Hid (Below A.heap.size A w2) := B1.out.trans (hb2.mono B1.out.size); clear c0 c1 c2 c3 c4 c5 c6 c7 hb2 hrt)
      | fail)
    all_goals first
      | (go_ret; exact ⟨rfl, (K.out _ B2.out).2.1⟩)
      | (exfalso; have hh := HNW.out; omega)
  have hn0 : ¬ now < 0 := by omega
  have hn1 : ¬ 1000 < now := by omega
  have HNW : Hid (0 ≤ now ∧ now ≤ 1000) := hnow
  obtain ⟨A, hA⟩ : ∃ A, A = (w.alloc (.cells #[.slice va h.queues.length vc, .int .i64 h.next] 24)).alloc (.cells #[.slice ta ts.length tc, .int .i64 nx] 64) := ⟨_, rfl⟩
  have K : Hid (∀ W, Below A.heap.size A W → TGs (.slice va h.queues.length vc) (.slice ta ts.length tc) h ts name W ∧ Below w.heap.size w W ∧ Blk W w.heap.size [.slice va h.queues.length vc, .int .i64 h.next] ∧ Blk W (w.heap.size + 1) [.slice ta ts.length tc, .int .i64 nx]) := by
    show ∀ W : World, _
    intro W hW
    have hB : Below w.heap.size w A := by rw [hA]; exact (below_alloc _ _).alloc (by simp) _
    have hb : Below w.heap.size w W := hB.trans (hW.mono hB.size)
    have k1 : Blk A w.heap.size [.slice va h.queues.length vc, .int .i64 h.next] := by rw [hA]; exact (Blk.new _ _ _).alloc _
    have k2 : Blk A (w.heap.size + 1) [.slice ta ts.length tc, .int .i64 nx] := by
      rw [hA]
      have := Blk.new (w.alloc (.cells #[.slice va h.queues.length vc, .int .i64 h.next] 24)) [.slice ta ts.length tc, .int .i64 nx] 64
      simpa using this
    exact ⟨HG.out.on hb, hb, k1.below hW k1.lt, k2.below hW k2.lt⟩
  clear G hnow qe
  go_enter Try.func7, Try.ntmps7
  go_upto_region 1 with fail
  rw [← hA]
  clear hA
  go_upto_region 3 with (first
    | (go_at_call 35; refine (alive6_any A).mono ?_; rintro r w1 ⟨rfl, hb1⟩; have B1 : Hid (Below A.heap.size A w1) := hb1; obtain ⟨c0, c1, c2, c3⟩ := (K.out _ hb1).2.2.1.b2; obtain ⟨c4, c5, c6, c7⟩ := (K.out _ hb1).2.2.2.b2; clear hb1)
    | fail)
  go_upto_region 5 with (first
    | (go_at_call 36; refine (right6_any _ (.slice none 0 0) _ h 0 nx [] ts _ (K.out _ B1.out).1.q (K.out _ B1.out).1.name (K.out _ B1.out).1.fit (SliceV.nil _ _) (K.out _ B1.out).1.t).mono ?_; rintro r w2 ⟨rb, rfl, hrt, hb2⟩; have B2 : Hid (Below A.heap.size A w2) := B1.out.trans (hb2.mono B1.out.size); have HRT : Hid (rb = true → h.sound ∧ 0 ≤ nx ∧ nx < 1000000) := hrt; clear c0 c1 c2 c3 c4 c5 c6 c7 hb2 hrt)
    | fail)
  rotate_left
  · go_ret
    exact ⟨rfl, (K.out _ B2.out).2.1⟩
  have HS : Hid (h.sound ∧ 0 ≤ nx ∧ nx < 1000000) := HRT.out (by assumption)
  obtain ⟨c4, c5, c6, c7⟩ := (K.out _ B2.out).2.2.2.b2
  go_wp2
  go_loopw [46] (fun i wr => ∃ k : Nat, k ≤ ts.length ∧ i = .int .i64 k ∧ Below A.heap.size A wr ∧ ∀ j (hj : j < ts.length), j < k → ts[j].n ≤ nx) (fun i _ => ts.length - (intOf i).toNat)
  case atStart => exact ⟨0, Nat.zero_le _, rfl, B2.out, fun j _ h => by omega⟩
  case round =>
    obtain ⟨k, hk, rfl, hbr, hno⟩ := hrel
    have HP : Hid (∀ j (hj : j < ts.length), j < k → ts[j].n ≤ nx) := hno
    obtain ⟨wo, hwo⟩ : ∃ wo, wo = wr := ⟨_, rfl⟩
    subst hwo
    have HB : Hid (Below A.heap.size A wo) := hbr
    clear c4 c5 c6 c7 hno
    obtain ⟨c4, c5, c6, c7⟩ := (K.out _ hbr).2.2.2.b2
    by_cases hlt : k < ts.length
    · obtain ⟨b, off, rfl, hS, x0, x1, x2, x3⟩ := ((K.out _ hbr).1.t).at k hlt
      obtain ⟨t, ht⟩ : ∃ t, t = ts[k] := ⟨_, rfl⟩
      rw [← ht] at x0 x1 x2 x3
      have HT : Hid (t = ts[k]) := ht
      clear hbr ht
      by_cases hgt : nx < t.n
      · go_wp2
        go_ret
        exact ⟨rfl, (K.out _ (HB.out.trans ((below_alloc _ _).mono HB.out.size))).2.1⟩
      · go_wp2
        go_roundw
        case rel =>
          refine ⟨k + 1, by omega, by go_num, HB.out.trans ((below_alloc _ _).mono HB.out.size), fun j hj hjk => ?_⟩
          by_cases e : j = k
          · subst e; rw [← HT.out]; omega
          · exact HP.out j hj (by omega)
        case measure => simp [intOf]; omega
    · have HTS : Hid (∀ t ∈ ts, t.n ≤ nx) := fun t ht => by
        obtain ⟨j, hj, rfl⟩ := List.getElem_of_mem ht
        exact HP.out j hj (by omega)
      obtain ⟨c0, c1, c2, c3⟩ := (K.out _ hbr).2.2.1.b2
      clear hbr HP
      go_wp2
      go_loopw [59] (fun i wr => ∃ k : Nat, k ≤ h.queues.length ∧ i = .int .i64 k ∧ Below A.heap.size A wr) (fun i _ => h.queues.length - (intOf i).toNat)
      case atStart => exact ⟨0, Nat.zero_le _, rfl, HB.out⟩
      case round =>
        obtain ⟨k, hk, rfl, hbr⟩ := hrel
        obtain ⟨wq, hwq⟩ : ∃ wq, wq = wr := ⟨_, rfl⟩
        subst hwq
        have HC : Hid (Below A.heap.size A wq) := hbr
        clear c0 c1 c2 c3 c4 c5 c6 c7
        by_cases hlt : k < h.queues.length
        · obtain ⟨b, off, ia, ic, rfl, hS, hq, x0, x1, x2⟩ := ((K.out _ hbr).1.q).at k hlt
          obtain ⟨q, hqq⟩ : ∃ q, q = h.queues[k] := ⟨_, rfl⟩
          rw [← hqq] at x0 x1 x2 hq
          obtain ⟨l, cc, le, l1, l2, -⟩ := hq.shape
          simp only [Value.slice.injEq, true_and] at le
          unfold maxLen at l2
          have HQ : Hid (SliceI (Under wq.heap.size) wq (.slice ia q.items.length ic) q.items) := hq
          clear hbr hqq hq le
          go_wp2
          go_loopw [66] (fun i wr => ∃ m : Nat, m ≤ q.items.length ∧ i = .int .i64 m ∧ Below wq.heap.size wq wr) (fun i _ => q.items.length - (intOf i).toNat)
          case atStart => exact ⟨0, Nat.zero_le _, rfl, below_alloc _ _⟩
          case round =>
            obtain ⟨m, hm, rfl, hbs⟩ := hrel
            have HBS : Hid (Below A.heap.size A wr) := HC.out.trans (hbs.mono HC.out.size)
            obtain ⟨c4, c5, c6, c7⟩ := (K.out _ HBS.out).2.2.2.b2
            by_cases hlm : m < q.items.length
            · obtain ⟨b', off', pa, pc, qa, qc, rfl, hS', hn, ⟨e0, e1, e2, e3⟩, e4, e5, e6⟩ := (SliceI.sub (T := Under wr.heap.size) HQ.out (fun b hb => ⟨Nat.lt_of_lt_of_le hb hbs.size, hbs.block b hb⟩)).at m hlm
              obtain ⟨it, hit⟩ : ∃ it, it = q.items[m] := ⟨_, rfl⟩
              rw [← hit] at e0 e1 e2 e3 e4 e5 e6
              have HX : Hid (Below wq.heap.size wq wr) := hbs
              clear hn hit hbs
              by_cases g1 : 900 < it.turn
              · go_wp2
                go_ret
                exact ⟨rfl, (K.out _ (HBS.out.trans ((below_alloc _ _).mono HBS.out.size))).2.1⟩
              by_cases g2 : 900000 < nx
              · go_wp2
                go_ret
                exact ⟨rfl, (K.out _ (HBS.out.trans ((below_alloc _ _).mono HBS.out.size))).2.1⟩
              go_wp2
              go_roundw
              case rel => exact ⟨m + 1, by omega, by go_num, HX.out.trans ((below_alloc _ _).mono HX.out.size)⟩
              case measure => simp [intOf]; omega
            · clear hbs
              go_wp2
              go_roundw
              case rel => exact ⟨k + 1, by omega, by go_num, HBS.out⟩
              case measure => simp [intOf]; omega
        · obtain ⟨c0, c1, c2, c3⟩ := (K.out _ hbr).2.2.1.b2
          obtain ⟨c4, c5, c6, c7⟩ := (K.out _ hbr).2.2.2.b2
          clear hbr
          obtain ⟨⟨d1, ⟨sk, sn, sm, se, nd⟩, z⟩, hr⟩ : ∃ r, r = (⟨h, [], 0, ts, nx⟩ : DK).answer ⟨5, name, 0, noteN⟩ now := ⟨_, rfl⟩
          have HE : Hid ((⟨h, [], 0, ts, nx⟩ : DK).answer ⟨5, name, 0, noteN⟩ now = (d1, ⟨sk, sn, sm, se, nd⟩, z)) := hr.symm
          obtain ⟨px, hpx⟩ : ∃ n, n = nd.props.length := ⟨_, rfl⟩
          obtain ⟨bx, hbx⟩ : ∃ n, n = nd.body.length := ⟨_, rfl⟩
          obtain ⟨qn1, hq1⟩ : ∃ n, n = d1.h.queues.length := ⟨_, rfl⟩
          obtain ⟨ln1, hl1⟩ : ∃ n, n = d1.l.length := ⟨_, rfl⟩
          obtain ⟨tn1, ht1⟩ : ∃ n, n = d1.ts.length := ⟨_, rfl⟩
          obtain ⟨i1, hi1⟩ : ∃ n, n = d1.h.next := ⟨_, rfl⟩
          obtain ⟨i2, hi2⟩ : ∃ n, n = d1.sure := ⟨_, rfl⟩
          obtain ⟨i3, hi3⟩ : ∃ n, n = d1.nx := ⟨_, rfl⟩
          have P : Hid (Calls Try.prog 37 #[.agg #[.slice va h.queues.length vc, .int .i64 h.next], .agg #[.slice none 0 0, .int .i64 0], .agg #[.slice ta ts.length tc, .int .i64 nx], .agg #[.int .i64 5, .string name, .int .i64 0, .slice none 0 0, .slice none 0 0], .int .i64 now] wq (DA wq d1 qn1 ln1 tn1 sk sn sm se px bx z i1 i2 i3)) := by
            have g := (K.out _ HC.out).1
            have := do_any ⟨h, [], 0, ts, nx⟩ (.slice va h.queues.length vc) (.slice none 0 0) (.slice ta ts.length tc) ⟨5, name, 0, noteN⟩ (.slice none 0 0) (.slice none 0 0) now wq g.q (SliceV.nil _ _) g.t (okD_of HS.out.1 (by simp) g.tl ⟨HS.out.2.1, by have := HS.out.2.2; simp only; omega⟩ ⟨HNW.out.1, by have := HNW.out.2; omega⟩) (NoteIs.nil _ _) g.aq (by intro p hp; simp [noteN] at hp)
            rw [HE.out] at this
            exact this.mono fun e w' h => DA.of h hq1 hl1 ht1 hpx hbx hi1 hi2 hi3
          have HL : Hid (qn1 = d1.h.queues.length ∧ ln1 = d1.l.length ∧ tn1 = d1.ts.length ∧ i1 = d1.h.next ∧ i2 = d1.sure ∧ i3 = d1.nx) := ⟨hq1, hl1, ht1, hi1, hi2, hi3⟩
          clear hr hpx hbx hq1 hl1 ht1 hi1 hi2 hi3 hn0 hn1
          go_upto_region 22 with (first
            | (go_at_call 37; refine P.out.mono ?_; rintro e w3 ⟨xa, xc, ya, yc, za, zc, pa3, pc3, ba3, bc3, rfl, hq3, hl3, ht3, hb3⟩; have H3 : Hid _ := And.intro hq3 (And.intro hl3 (And.intro ht3 hb3)); clear hq3 hl3 ht3 hb3 c0 c1 c2 c3 c4 c5 c6 c7; simp only)
            | fail)
          obtain ⟨B, hB⟩ : ∃ B, B = (((w3.alloc (.cells #[.slice xa qn1 xc, .int .i64 i1] 24)).alloc (.cells #[.slice ya ln1 yc, .int .i64 i2] 32)).alloc (.cells #[.slice za tn1 zc, .int .i64 i3] 64)).alloc (.cells #[.int .i64 sk, .int .i64 sn, .int .i64 sm, .int .i64 se, .slice pa3 px pc3, .slice ba3 bx bc3] 69) := ⟨_, rfl⟩
          have HB : Hid (AS w3.heap.size d1 (.slice xa qn1 xc) (.slice ya ln1 yc) (.slice za tn1 zc) B ∧ Below A.heap.size A B ∧ Blk B (w3.heap.size + 1 + 1 + 1) [.int .i64 sk, .int .i64 sn, .int .i64 sm, .int .i64 se, .slice pa3 px pc3, .slice ba3 bx bc3] ∧ w.heap.size + 1 < w3.heap.size) := by
            obtain ⟨-, -, -, e1, e2, e3⟩ := HL.out
            obtain ⟨h1, h2⟩ := AS.new H3.out.2.2.2 H3.out.1 H3.out.2.1 H3.out.2.2.1 (.cells #[.int .i64 sk, .int .i64 sn, .int .i64 sm, .int .i64 se, .slice pa3 px pc3, .slice ba3 bx bc3] 69)
            have h3 := Blk.new (((w3.alloc (.cells #[.slice xa qn1 xc, .int .i64 i1] 24)).alloc (.cells #[.slice ya ln1 yc, .int .i64 i2] 32)).alloc (.cells #[.slice za tn1 zc, .int .i64 i3] 64)) [.int .i64 sk, .int .i64 sn, .int .i64 sm, .int .i64 se, .slice pa3 px pc3, .slice ba3 bx bc3] 69
            simp only [World.size_alloc] at h3
            rw [← e1, ← e2, ← e3, ← hB] at h1 h2
            rw [← hB] at h3
            exact ⟨h1, HC.out.trans ((H3.out.2.2.2.trans (h2.mono H3.out.2.2.2.size)).mono HC.out.size), h3, Nat.lt_of_lt_of_le (K.out _ HC.out).2.2.2.lt H3.out.2.2.2.size⟩
          rw [← hB]
          have HW3 : Hid (wq.heap.size ≤ w3.heap.size) := H3.out.2.2.2.size
          clear hB P H3
          have s0 : B.cell? ⟨w3.heap.size + 1 + 1 + 1, 0, none⟩ = some (.int .i64 sk) := HB.out.2.2.1.cell 0
          have s1 : B.cell? ⟨w3.heap.size + 1 + 1 + 1, 1, none⟩ = some (.int .i64 sn) := HB.out.2.2.1.cell 1
          by_cases hz : z = 0
          case neg =>
            have hz' : (z != 0) = true := by simp [hz]
            go_wp2
            go_ret
            exact ⟨rfl, (K.out _ HB.out.2.1).2.1⟩
          by_cases hs2 : sk = 2
          case neg =>
            have hs2' : (sk != 2) = true := by simp [hs2]
            subst hz
            go_wp2
            go_ret
            exact ⟨rfl, (K.out _ HB.out.2.1).2.1⟩
          subst hz hs2
          obtain ⟨hsn, -, hts1, hl4, ok1, d2, he2, hl2, hl6, ok2, he3⟩ := tags_ok h HS.out.1 ts nx name now HNW.out HTS.out HS.out.2 HE.out rfl
          rw [← hsn] at ok1 he2 ok2 he3
          have g1 : ¬ sn ≤ nx := by omega
          have g2 : ((tn1 : Int) != (ts.length : Int) + 1) = false := by have := HL.out.2.2.1; simp; omega
          have HD : Hid (d1.okD (aD sn) now ∧ d1.answer (aD sn) now = (d2, ⟨1, 0, 0, 0, noteN⟩, 0) ∧ 0 < d2.l.length ∧ d2.l.length ≤ 6000 ∧ d2.okD (aD sn) now ∧ d2.answer (aD sn) now = (d2, ⟨4, 0, 0, 6, noteN⟩, 0)) := ⟨ok1, he2, hl2, hl6, ok2, he3⟩
          obtain ⟨⟨c8, c9, cf, cz⟩, ⟨c10, c11, cf', cz'⟩, ⟨c12, c13, cf'', cz''⟩⟩ := HB.out.1.cells HL.out.2.2.2.1.symm HL.out.2.2.2.2.1.symm HL.out.2.2.2.2.2.symm
          obtain ⟨c0, c1, c2, c3⟩ := (K.out _ HB.out.2.1).2.2.1.b2
          obtain ⟨c4, c5, c6, c7⟩ := (K.out _ HB.out.2.1).2.2.2.b2
          clear hsn hts1 hl4 ok1 he2 hl2 hl6 ok2 he3
          go_upto_region 27 with fail
          obtain ⟨C, hC⟩ : ∃ C, C = B.alloc (.cells #[.int .i64 7, .string ⟨#[]⟩, .int .i64 sn, .slice none 0 0, .slice none 0 0] 66) := ⟨_, rfl⟩
          have HCC : Hid (AS w3.heap.size d1 (.slice xa qn1 xc) (.slice ya ln1 yc) (.slice za tn1 zc) C ∧ Below A.heap.size A C ∧ Blk C B.heap.size [.int .i64 7, .string ⟨#[]⟩, .int .i64 sn, .slice none 0 0, .slice none 0 0] ∧ w3.heap.size + 3 ≤ B.heap.size) := by
            have hb : Below B.heap.size B C := by rw [hC]; exact below_alloc _ _
            have h3 := Blk.new B [.int .i64 7, .string ⟨#[]⟩, .int .i64 sn, .slice none 0 0, .slice none 0 0] 66
            have h4 := HB.out.2.2.1.lt
            refine ⟨HB.out.1.on hb, HB.out.2.1.trans (hb.mono HB.out.2.1.size), by rw [hC]; exact h3, by omega⟩
          rw [← hC]
          clear hC c0 c1 c2 c3 c4 c5 c6 c7 c8 c9 cf cz c10 c11 cf' cz' c12 c13 cf'' cz'' s0 s1
          obtain ⟨⟨c8, c9, cf, cz⟩, ⟨c10, c11, cf', cz'⟩, ⟨c12, c13, cf'', cz''⟩⟩ := HCC.out.1.cells HL.out.2.2.2.1.symm HL.out.2.2.2.2.1.symm HL.out.2.2.2.2.2.symm
          obtain ⟨⟨a0, a1, a2, a3, a4⟩, a5⟩ : (C.cell? ⟨B.heap.size, 0, none⟩ = some (.int .i64 7) ∧ C.cell? ⟨B.heap.size, 1, none⟩ = some (.string ⟨#[]⟩) ∧ C.cell? ⟨B.heap.size, 2, none⟩ = some (.int .i64 sn) ∧ C.cell? ⟨B.heap.size, 3, none⟩ = some (.slice none 0 0) ∧ C.cell? ⟨B.heap.size, 4, none⟩ = some (.slice none 0 0)) ∧ B.heap.size < C.heap.size :=
            ⟨⟨HCC.out.2.2.1.cell 0, HCC.out.2.2.1.cell 1, HCC.out.2.2.1.cell 2, HCC.out.2.2.1.cell 3, HCC.out.2.2.1.cell 4⟩, HCC.out.2.2.1.lt⟩
          obtain ⟨qn2, hq2⟩ : ∃ n, n = d2.h.queues.length := ⟨_, rfl⟩
          obtain ⟨ln2, hl2⟩ : ∃ n, n = d2.l.length := ⟨_, rfl⟩
          obtain ⟨tn2, ht2⟩ : ∃ n, n = d2.ts.length := ⟨_, rfl⟩
          obtain ⟨j1, hj1⟩ : ∃ n, n = d2.h.next := ⟨_, rfl⟩
          obtain ⟨j2, hj2⟩ : ∃ n, n = d2.sure := ⟨_, rfl⟩
          obtain ⟨j3, hj3⟩ : ∃ n, n = d2.nx := ⟨_, rfl⟩
          have HL2 : Hid (qn2 = d2.h.queues.length ∧ ln2 = d2.l.length ∧ tn2 = d2.ts.length ∧ j1 = d2.h.next ∧ j2 = d2.sure ∧ j3 = d2.nx) := ⟨hq2, hl2, ht2, hj1, hj2, hj3⟩
          clear hq2 hl2 ht2 hj1 hj2 hj3
          have P2 : Hid (Calls Try.prog 37 #[.agg #[.slice xa qn1 xc, .int .i64 i1], .agg #[.slice ya ln1 yc, .int .i64 i2], .agg #[.slice za tn1 zc, .int .i64 i3], .agg #[.int .i64 7, .string ⟨#[]⟩, .int .i64 sn, .slice none 0 0, .slice none 0 0], .int .i64 now] C (DA C d2 qn2 ln2 tn2 1 0 0 0 0 0 0 j1 j2 j3)) := by
            obtain ⟨g1, g2, g3⟩ := HCC.out.1.qU
            have := do_any d1 (.slice xa qn1 xc) (.slice ya ln1 yc) (.slice za tn1 zc) (aD sn) (.slice none 0 0) (.slice none 0 0) now C g1 g2 g3 HD.out.1 (NoteIs.nil _ _) (Nat.zero_le _) (by intro p hp; simp [aD, noteN] at hp)
            rw [HD.out.2.1, ← HL.out.2.2.2.1, ← HL.out.2.2.2.2.1, ← HL.out.2.2.2.2.2] at this
            obtain ⟨h1, h2, h3, h4, h5, h6⟩ := HL2.out
            exact this.mono fun e w' h => DA.of h h1 h2 h3 rfl rfl h4 h5 h6
          go_upto_region 28 with (first
            | (go_at_call 37; refine P2.out.mono ?_; rintro e w4 ⟨xa4, xc4, ya4, yc4, za4, zc4, pa4, pc4, ba4, bc4, rfl, hq4, hl4, ht4, hb4⟩; have H4 : Hid _ := And.intro hq4 (And.intro hl4 (And.intro ht4 hb4)); clear c8 c9 cf cz c10 c11 cf' cz' c12 c13 cf'' cz'' a0 a1 a2 a3 a4 a5; obtain ⟨⟨c8, c9, cf, cz⟩, ⟨c10, c11, cf', cz'⟩, ⟨c12, c13, cf'', cz''⟩⟩ := (HCC.out.1.on hb4).cells HL.out.2.2.2.1.symm HL.out.2.2.2.2.1.symm HL.out.2.2.2.2.2.symm; clear hq4 hl4 ht4 hb4; simp only)
            | fail)
          obtain ⟨D, hD⟩ : ∃ D, D = (((((((w4.setCell ⟨w3.heap.size, 0, none⟩ (.slice xa4 qn2 xc4)).setCell ⟨w3.heap.size, 1, none⟩ (.int .i64 j1)).setCell ⟨w3.heap.size + 1, 0, none⟩ (.slice ya4 ln2 yc4)).setCell ⟨w3.heap.size + 1, 1, none⟩ (.int .i64 j2)).setCell ⟨w3.heap.size + 1 + 1, 0, none⟩ (.slice za4 tn2 zc4)).setCell ⟨w3.heap.size + 1 + 1, 1, none⟩ (.int .i64 j3))).alloc (.cells #[.int .i64 1, .int .i64 0, .int .i64 0, .int .i64 0, .slice pa4 0 pc4, .slice ba4 0 bc4] 69) := ⟨_, rfl⟩
          have HDD : Hid (AS w3.heap.size d2 (.slice xa4 qn2 xc4) (.slice ya4 ln2 yc4) (.slice za4 tn2 zc4) D ∧ Below A.heap.size A D ∧ Blk D B.heap.size [.int .i64 7, .string ⟨#[]⟩, .int .i64 sn, .slice none 0 0, .slice none 0 0] ∧ Blk D w4.heap.size [.int .i64 1, .int .i64 0, .int .i64 0, .int .i64 0, .slice pa4 0 pc4, .slice ba4 0 bc4]) := by
            obtain ⟨-, -, -, e1, e2, e3⟩ := HL2.out
            obtain ⟨h1, h2, h3, h4, h5⟩ := HCC.out.1.step (d' := d2) (A0 := A) HCC.out.2.1 (Nat.le_trans HC.out.size HW3.out) H4.out.2.2.2 H4.out.1 H4.out.2.1 H4.out.2.2.1 [.int .i64 1, .int .i64 0, .int .i64 0, .int .i64 0, .slice pa4 0 pc4, .slice ba4 0 bc4]
            have hk := HCC.out.2.2.1
            have hz := HCC.out.2.2.2
            rw [hD, e1, e2, e3]
            exact ⟨h1, h2, h3 _ _ hk (by omega), h4⟩
          rw [← hD]
          clear hD c8 c9 cf cz c10 c11 cf' cz' c12 c13 cf'' cz'' P2 H4
          obtain ⟨⟨c8, c9, cf, cz⟩, ⟨c10, c11, cf', cz'⟩, ⟨c12, c13, cf'', cz''⟩⟩ := HDD.out.1.cells HL2.out.2.2.2.1.symm HL2.out.2.2.2.2.1.symm HL2.out.2.2.2.2.2.symm
          obtain ⟨⟨a0, a1, a2, a3, a4⟩, a5⟩ : (D.cell? ⟨B.heap.size, 0, none⟩ = some (.int .i64 7) ∧ D.cell? ⟨B.heap.size, 1, none⟩ = some (.string ⟨#[]⟩) ∧ D.cell? ⟨B.heap.size, 2, none⟩ = some (.int .i64 sn) ∧ D.cell? ⟨B.heap.size, 3, none⟩ = some (.slice none 0 0) ∧ D.cell? ⟨B.heap.size, 4, none⟩ = some (.slice none 0 0)) ∧ B.heap.size < D.heap.size :=
            ⟨⟨HDD.out.2.2.1.cell 0, HDD.out.2.2.1.cell 1, HDD.out.2.2.1.cell 2, HDD.out.2.2.1.cell 3, HDD.out.2.2.1.cell 4⟩, HDD.out.2.2.1.lt⟩
          have P3 : Hid (Calls Try.prog 37 #[.agg #[.slice xa4 qn2 xc4, .int .i64 j1], .agg #[.slice ya4 ln2 yc4, .int .i64 j2], .agg #[.slice za4 tn2 zc4, .int .i64 j3], .agg #[.int .i64 7, .string ⟨#[]⟩, .int .i64 sn, .slice none 0 0, .slice none 0 0], .int .i64 now] D (DA D d2 qn2 ln2 tn2 4 0 0 6 0 0 0 j1 j2 j3)) := by
            obtain ⟨g1, g2, g3⟩ := HDD.out.1.qU
            have := do_any d2 (.slice xa4 qn2 xc4) (.slice ya4 ln2 yc4) (.slice za4 tn2 zc4) (aD sn) (.slice none 0 0) (.slice none 0 0) now D g1 g2 g3 HD.out.2.2.2.2.1 (NoteIs.nil _ _) (Nat.zero_le _) (by intro p hp; simp [aD, noteN] at hp)
            rw [HD.out.2.2.2.2.2, ← HL2.out.2.2.2.1, ← HL2.out.2.2.2.2.1, ← HL2.out.2.2.2.2.2] at this
            obtain ⟨h1, h2, h3, h4, h5, h6⟩ := HL2.out
            exact this.mono fun e w' h => DA.of h h1 h2 h3 rfl rfl h4 h5 h6
          go_upto_region 29 with (first
            | (go_at_call 37; refine P3.out.mono ?_; rintro e w5 ⟨xa5, xc5, ya5, yc5, za5, zc5, pa5, pc5, ba5, bc5, rfl, hq5, hl5, ht5, hb5⟩; have H5 : Hid _ := hb5; clear c8 c9 cf cz c10 c11 cf' cz' c12 c13 cf'' cz'' a0 a1 a2 a3 a4 a5 hq5 hl5 ht5 hb5; simp only)
            | fail)
          obtain ⟨E, hE⟩ : ∃ E, E = (((w5.alloc (.cells #[.slice xa5 qn2 xc5, .int .i64 j1] 24)).alloc (.cells #[.slice ya5 ln2 yc5, .int .i64 j2] 32)).alloc (.cells #[.slice za5 tn2 zc5, .int .i64 j3] 64)).alloc (.cells #[.int .i64 4, .int .i64 0, .int .i64 0, .int .i64 6, .slice pa5 0 pc5, .slice ba5 0 bc5] 69) := ⟨_, rfl⟩
          obtain ⟨e0, e3, y0, l0, hEb⟩ : E.cell? ⟨w5.heap.size + 1 + 1 + 1, 0, none⟩ = some (.int .i64 4) ∧ E.cell? ⟨w5.heap.size + 1 + 1 + 1, 3, none⟩ = some (.int .i64 6) ∧ E.cell? ⟨w4.heap.size, 0, none⟩ = some (.int .i64 1) ∧ E.cell? ⟨w3.heap.size + 1, 0, none⟩ = some (.slice ya4 ln2 yc4) ∧ Below A.heap.size A E := by
            have hk := four_blk7 w5 [.slice xa5 qn2 xc5, .int .i64 j1] [.slice ya5 ln2 yc5, .int .i64 j2] [.slice za5 tn2 zc5, .int .i64 j3] [.int .i64 4, .int .i64 0, .int .i64 0, .int .i64 6, .slice pa5 0 pc5, .slice ba5 0 bc5] 24 32 64 69
            have h4 : Below w5.heap.size w5 E := by rw [hE]; exact four_alloc7 w5 _ _ _ _
            have hb : Below D.heap.size D E := H5.out.trans (h4.mono H5.out.size)
            have hk4 := hk.2.2.2
            rw [← hE] at hk4
            exact ⟨hk4.cell 0, hk4.cell 3, (HDD.out.2.2.2.below hb HDD.out.2.2.2.lt).cell 0, (HDD.out.1.k2.below hb HDD.out.1.k2.lt).cell 0, HDD.out.2.1.trans (hb.mono HDD.out.2.1.size)⟩
          have HE' : Hid (Below A.heap.size A E) := hEb
          rw [← hE]
          clear hE hEb P3 H5
          have hpos : decide ((0 : Int) < (ln2 : Int)) = true := by have := HD.out.2.2.1; have := HL2.out.2.1; simp; omega
          go_wp2
          go_ret
          exact ⟨by first | rfl | simp_all, (K.out _ HE'.out).2.1⟩
end Go.Proofs.Ytkddkpdfeeikhaa
