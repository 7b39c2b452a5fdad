/-
  RefHPut; RefHDone: texts laid together.
-/
import Derived.Test.YtkddkpdfeeikhaaJFollowsProofM23
import Derived.Test.YtkddkpdfeeikhaaJFollowsProofM36
/-
  tgref1.HallPut.
-/
namespace Go.Proofs.Ytkddkpdfeeikhaa
open Go.RowKit
set_option linter.unusedVariables false
set_option linter.unusedSimpArgs false

attribute [local go_sem ↓] Go.wp_at_zero Go.wp_at_succ

theorem AnsS.drew {S : Nat → Prop} {r : HD × List ED × Int} {w w' : World} {e : Ending} (h : AnsS S r w e w' ∧ Below w.heap.size w w') : AnsS S r w e w'.drew ∧ Below w.heap.size w w'.drew := by
  obtain ⟨⟨va, vc, ea, ec, e1, h1, h2⟩, hb⟩ := h
  exact ⟨⟨va, vc, ea, ec, e1, h1.sub fun b hb => ⟨hb, rfl⟩, h2.sub fun b hb => ⟨hb, rfl⟩⟩, hb.drew⟩

set_option maxRecDepth 100000 in
set_option maxHeartbeats 3200000 in
theorem refHallPut_any (S : Nat → Prop) (v : Value) (h : HD) (name : ByteArray) (pv bv : Value) (n : ND) (w : World) (hS : ∀ b, S b → b < w.heap.size) (hv : SliceQ S w v h.queues) (hsm : smallQ h.queues) (hnx : 0 ≤ h.next ∧ h.next ≤ 1000000000) (hn : NoteIs S w (pv, bv) n) (hf : n.fitN) :
    Calls Try.prog 30 #[.agg #[v, .int .i64 h.next], .string name, .agg #[pv, bv]] w fun e w' => AnsS S (hallPutF h name n) w e w' ∧ Below w.heap.size w w' := by
  have HV : Hid (SliceQ S w v h.queues) := hv
  have HNT : Hid (NoteIs S w (pv, bv) n) := hn
  have HM : Hid (smallQ h.queues) := hsm
  have HSS : Hid (∀ b, S b → b < w.heap.size) := hS
  have HF : Hid n.fitN := hf
  have hlen := hsm.1
  obtain ⟨va, vc, rfl⟩ := hv.shp
  obtain ⟨pa, pc, rfl, -⟩ := SliceV.shape hn.1
  obtain ⟨ba, bc, rfl, -⟩ := SliceV.shape hn.2
  clear hv hsm hS hn hf
  have three : Hid (∀ o1 o2 o3 : Obj, Below w.heap.size w (((w.alloc o1).alloc o2).alloc o3)) := fun o1 o2 o3 => ((below_alloc _ _).alloc (by simp) _).alloc (by simp; omega) _
  unfold hallPutF
  by_cases hw : n.wrong = 0
  · rw [if_pos hw]
    have HW : Hid (n.wrong = 0) := hw
    clear hw
    rcases idxQ_cases name h.queues with ⟨hd, -⟩ | ⟨k, hk, hd, hnm, -⟩
    · rw [faceF_none hd]
      have HI : Hid (idxQ name h.queues = -1) := hd
      clear hd
      go_enter Try.func30, Try.ntmps30
      go_wp2_with (first
        | (go_at_call 14; refine (refWrongN_any _ _ n _ (HNT.out.sub fun b hb => ⟨?_, (three.out _ _ _).block b (HSS.out b hb)⟩) HF.out).mono ?_; (have := HSS.out b hb; simp [Under]; omega); rw [HW.out]; rintro e w0 ⟨rfl, hb0⟩; have hk0 := (((Blk.new w [.slice va h.queues.length vc, .int .i64 h.next] 24).alloc _).alloc _).below hb0 (by simp; omega); have hk2 := (Blk.new ((w.alloc _).alloc _) [.slice none 0 0, .int .i64 0] 24).below hb0 (by simp); simp only [World.size_alloc] at hk0 hk2; have HK0 : Hid (Blk w0 (w.heap.size + 1 + 1) [.slice none 0 0, .int .i64 0]) := hk2; obtain ⟨a0, a1, a2, a3⟩ := hk0.b2; have HB0 : Hid (Below w.heap.size w w0) := (three.out _ _ _).trans (hb0.mono (by simp; omega)); clear hb0 hk2 hk0)
        | (go_at_call 56; refine (refFind_any name _ h.next h.queues _ (HV.out.sub fun b hb => ⟨Nat.lt_of_lt_of_le (HSS.out b hb) HB0.out.size, HB0.out.block b (HSS.out b hb)⟩)).mono ?_; rw [HI.out]; rintro e w1 ⟨rfl, hb1⟩; have hk2 := HK0.out.below hb1 HK0.out.lt; obtain ⟨c0, c1, c2, c3⟩ := hk2.b2; have HB1 : Hid (Below w.heap.size w w1) := HB0.out.trans (hb1.mono HB0.out.size); clear hb1 hk2))
      refine bodyPost_ret (v := .tuple #[.agg #[.slice none 0 0, .int .i64 0], .slice none 0 0, .int .i64 6]) (by simp [results, Try.results30, go_sem, *]; done) rfl ⟨AnsS.refuse _ _ _ _, ?_⟩
      iterate 2 refine Below.setCell ?_ (by simp; omega) _
      exact HB1.out
    · rw [faceF_some hd hk]
      have HI : Hid (idxQ name h.queues = (k : Int)) := hd
      clear hd
      have hsk := HM.out.2 _ (List.getElem_mem hk)
      obtain ⟨q, hqq⟩ : ∃ q, q = h.queues[k] := ⟨_, rfl⟩
      have HQQ : Hid (q = h.queues[k]) := hqq
      rw [← hqq] at hnm hsk ⊢
      obtain ⟨q', en, hcase, hone⟩ := put_one h k q n hsk
      have HNM : Hid (q.name = name) := hnm
      obtain ⟨rr, hrr⟩ : ∃ rr, rr = failF (putF h k q n) := ⟨_, rfl⟩
      rw [← hrr] at hcase ⊢
      have HC : Hid ((en = 8 ∧ rr = refuse 8) ∨ (en = 0 ∧ rr = (⟨h.queues.set k q', h.next + 1⟩, [putE q.name h.next n], 0))) := hcase
      have HONE : Hid (∀ (S : Nat → Prop) (v pv bv : Value) (w : World), (∀ b, S b → b < w.heap.size) → SliceI S w v q.items → NoteIs S w (pv, bv) n → Calls Try.prog 61 #[.agg #[.string q.name, .int .i64 q.limit, v], .int .i64 h.next, .agg #[pv, bv]] w (AnsQS S q' en w)) := hone
      clear hqq hnm hsk hcase hone hrr
      go_enter Try.func30, Try.ntmps30
      go_upto_region 7 with (first
        | (go_at_call 14; refine (refWrongN_any _ _ n _ (HNT.out.sub fun b hb => ⟨?_, (three.out _ _ _).block b (HSS.out b hb)⟩) HF.out).mono ?_; (have := HSS.out b hb; simp [Under]; omega); rw [HW.out]; rintro e w0 ⟨rfl, hb0⟩; have hk0 := (((Blk.new w [.slice va h.queues.length vc, .int .i64 h.next] 24).alloc _).alloc _).below hb0 (by simp; omega); have hk1 := ((Blk.new (w.alloc _) [.slice pa n.props.length pc, .slice ba n.body.length bc] 28).alloc _).below hb0 (by simp); have hk2 := (Blk.new ((w.alloc _).alloc _) [.slice none 0 0, .int .i64 0] 24).below hb0 (by simp); simp only [World.size_alloc] at hk0 hk1 hk2; have HK0 : Hid (Blk w0 w.heap.size [.slice va h.queues.length vc, .int .i64 h.next] ∧ Blk w0 (w.heap.size + 1) [.slice pa n.props.length pc, .slice ba n.body.length bc] ∧ Blk w0 (w.heap.size + 1 + 1) [.slice none 0 0, .int .i64 0]) := ⟨hk0, hk1, hk2⟩; obtain ⟨a0, a1, a2, a3⟩ := hk0.b2; have HB0 : Hid (Below w.heap.size w w0) := (three.out _ _ _).trans (hb0.mono (by simp; omega)); clear hb0 hk2 hk0 hk1)
        | (go_at_call 56; refine (refFind_any name _ h.next h.queues _ (HV.out.sub fun b hb => ⟨Nat.lt_of_lt_of_le (HSS.out b hb) HB0.out.size, HB0.out.block b (HSS.out b hb)⟩)).mono ?_; rw [HI.out]; rintro e w1 ⟨rfl, hb1⟩; have HK : Hid (Blk w1 w.heap.size [.slice va h.queues.length vc, .int .i64 h.next] ∧ Blk w1 (w.heap.size + 1) [.slice pa n.props.length pc, .slice ba n.body.length bc] ∧ Blk w1 (w.heap.size + 1 + 1) [.slice none 0 0, .int .i64 0]) := ⟨HK0.out.1.below hb1 HK0.out.1.lt, HK0.out.2.1.below hb1 HK0.out.2.1.lt, HK0.out.2.2.below hb1 HK0.out.2.2.lt⟩; have HB1 : Hid (Below w.heap.size w w1) := HB0.out.trans (hb1.mono HB0.out.size); clear hb1 a0 a1 a2 a3 HK0 HB0))
      have hz1 : w.heap.size + 3 ≤ w1.heap.size := by have := HK.out.2.2.lt; omega
      have HV1 : Hid (SliceQ S w1 (.slice va h.queues.length vc) h.queues) := HV.out.sub fun b hb => ⟨hb, HB1.out.block b (HSS.out b hb)⟩
      have HN1 : Hid (NoteIs S w1 (.slice pa n.props.length pc, .slice ba n.body.length bc) n) := HNT.out.sub fun b hb => ⟨hb, HB1.out.block b (HSS.out b hb)⟩
      obtain ⟨b, off, ia, ic, rfl, hSb, hq, y0, y1, y2⟩ := HV1.out.at k hk
      have hbl : b < w1.heap.size := by have := HSS.out b hSb; omega
      rw [← HQQ.out] at y0 y1 y2 hq
      have HQ : Hid (SliceI S w1 (.slice ia q.items.length ic) q.items) := hq
      have HS1 : Hid (∀ b, S b → b < w1.heap.size) := fun b hb => by have := HSS.out b hb; omega
      clear hq
      obtain ⟨x0, x1, x2, x3⟩ := HK.out.1.b2
      obtain ⟨z0, z1, z2, z3⟩ := HK.out.2.1.b2
      have n1 : w1.heap.size ≠ w.heap.size := by omega
      have n2 : w1.heap.size ≠ b := by omega
      have n3 : w1.heap.size ≠ w.heap.size + 1 := by omega
      go_cut [11, 12] (fun qp er wx => ∃ qb ra rc, qp = .pointer (some ⟨qb, 0, none⟩) ∧ er = .int .i64 en ∧ QB S w1 q' ra rc qb wx)
      case first =>
        go_region_held3 (fun w' => w'.cell? ⟨w.heap.size, 0, none⟩ = some (.slice (some ⟨b, off, none⟩) h.queues.length vc) ∧ w'.cell? ⟨w.heap.size, 1, none⟩ = some (.int .i64 h.next) ∧ w'.cell? ⟨b, off + k * 3, none⟩ = some (.string q.name) ∧ w'.cell? ⟨b, off + k * 3 + 1, none⟩ = some (.int .i64 q.limit) ∧ w'.cell? ⟨b, off + k * 3 + 2, none⟩ = some (.slice ia q.items.length ic) ∧ w'.cell? ⟨w.heap.size + 1, 0, none⟩ = some (.slice pa n.props.length pc) ∧ w'.cell? ⟨w.heap.size + 1, 1, none⟩ = some (.slice ba n.body.length bc)) (go_keep) (first
          | (go_at_call 61; refine (HONE.out S _ _ _ _ ?_ ?_ ?_).mono ?_; (intro b hb; have := HS1.out b hb; simp; omega); (exact HQ.out.sub fun b hb => ⟨hb, Below.heap_alloc _ _ _ (HS1.out b hb)⟩); (exact HN1.out.sub fun b hb => ⟨hb, Below.heap_alloc _ _ _ (HS1.out b hb)⟩); rintro r w2 ⟨ra, rc, rfl, hv2, hb2⟩; have HV2 : Hid (SliceI (fun b => S b ∨ Made (w1.heap.size + 1) w2.heap.size b) w2 (.slice ra q'.items.length rc) q'.items) := (hv2.sub fun b hb => ⟨hb.imp (fun h => h) (fun h => ⟨by have := h.1; simp at this; omega, h.2⟩), rfl⟩); have hb2' : Below (w1.heap.size + 1) (w1.alloc (.cells #[.string ⟨#[]⟩, .int .i64 0, .slice none 0 0] 76)) w2 := ⟨hb2.os, hb2.tape, hb2.output, by simpa using hb2.size, fun b hb => hb2.block b (by simpa using hb)⟩; have hq1 : Blk w2 w1.heap.size [.string ⟨#[]⟩, .int .i64 0, .slice none 0 0] := (Blk.new w1 [.string ⟨#[]⟩, .int .i64 0, .slice none 0 0] 76).below hb2' (by omega); have HQ1 : Hid (Blk w2 w1.heap.size [.string ⟨#[]⟩, .int .i64 0, .slice none 0 0]) := hq1; obtain ⟨q0, q1, q2, q3, q4⟩ := hq1.b3; have HBn : Hid (Below w1.heap.size w1 w2) := (((below_alloc w1 (.cells #[.string ⟨#[]⟩, .int .i64 0, .slice none 0 0] 76)).mono (by omega)).trans (hb2'.mono (by omega))); have hc := bel_c HBn.out x3 x0; have hc' := bel_c HBn.out x3 x1; have hc0 := bel_c HBn.out hbl y0; have hc1 := bel_c HBn.out hbl y1; have hc2 := bel_c HBn.out hbl y2; have hc3 := bel_c HBn.out z3 z0; have hc4 := bel_c HBn.out z3 z1; clear hb2 hb2' hq1 hv2)
          | (go_at_call 61; refine (HONE.out S _ _ _ _ ?_ ?_ ?_).mono ?_; (intro b hb; have := HS1.out b hb; show b < _; (try simp); omega); (exact HQ.out.sub fun b hb => ⟨hb, rfl⟩); (exact HN1.out.sub fun b hb => ⟨hb, rfl⟩); rintro r w2 ⟨ra, rc, rfl, hv2, hb2⟩; have HV2 : Hid (SliceI (fun b => S b ∨ Made w1.heap.size w2.heap.size b) w2 (.slice ra q'.items.length rc) q'.items) := (hv2.sub fun b hb => ⟨hb.imp (fun h => h) (fun h => ⟨h.1, h.2⟩), rfl⟩); have HBn : Hid (Below w1.heap.size w1 w2) := ⟨hb2.os, hb2.tape, hb2.output, hb2.size, hb2.block⟩; have hc := bel_c HBn.out x3 x0; have hc' := bel_c HBn.out x3 x1; have hc0 := bel_c HBn.out hbl y0; have hc1 := bel_c HBn.out hbl y1; have hc2 := bel_c HBn.out hbl y2; have hc3 := bel_c HBn.out z3 z0; have hc4 := bel_c HBn.out z3 z1; clear hb2 hv2))
        all_goals
          go_wp2_with fail
          go_meet
          first
            | exact ⟨_, ra, rc, rfl, rfl, QB.here (q := q') HS1.out HBn.out HQ1.out HV2.out⟩
            | exact ⟨_, ra, rc, rfl, rfl, QB.new (q := q') HS1.out HBn.out HV2.out⟩
      case rest =>
        obtain ⟨qb, ra, rc, rfl, rfl, hQB⟩ := hcut
        have HQB : Hid (QB S w1 q' ra rc qb wc) := hQB
        clear hQB x0 x1 x2 y0 y1 y2 z0 z1 z2
        obtain ⟨W2, hW2⟩ : ∃ W2, W2 = wc := ⟨_, rfl⟩
        rw [← hW2] at HQB
        rw [← hW2]
        clear hW2
        have hzW := HQB.out.bel.size
        have HKW : Hid (Blk W2 w.heap.size [.slice (some ⟨b, off, none⟩) h.queues.length vc, .int .i64 h.next] ∧ Blk W2 (w.heap.size + 1) [.slice pa n.props.length pc, .slice ba n.body.length bc] ∧ Blk W2 (w.heap.size + 1 + 1) [.slice none 0 0, .int .i64 0]) := ⟨HK.out.1.below HQB.out.bel HK.out.1.lt, HK.out.2.1.below HQB.out.bel HK.out.2.1.lt, HK.out.2.2.below HQB.out.bel HK.out.2.2.lt⟩
        have HBW : Hid (Below w.heap.size w W2) := HB1.out.trans (HQB.out.bel.mono (by omega))
        obtain ⟨c0, c1, c2, c3⟩ := HKW.out.2.2.b2
        rcases HC.out with ⟨rfl, e⟩ | ⟨rfl, e⟩
        · have HE : Hid (rr = refuse 8) := e
          clear e HC
          go_wp2_with fail
          refine bodyPost_ret (v := .tuple #[.agg #[.slice none 0 0, .int .i64 0], .slice none 0 0, .int .i64 8]) (by simp [results, Try.results30, go_sem, *]; done) rfl ⟨by rw [HE.out]; exact AnsS.refuse _ _ _ _, ?_⟩
          iterate 2 refine Below.setCell ?_ (by simp; omega) _
          exact HBW.out
        · rw [HNM.out] at e
          have HE : Hid (rr = (⟨h.queues.set k q', h.next + 1⟩, [putE name h.next n], 0)) := e
          clear e HC
          obtain ⟨x0, x1, x2, x3⟩ := HKW.out.1.b2
          obtain ⟨u0, u1, u2, u3, u4⟩ := HQB.out.qblk.b3
          have hqw := HQB.out.ql
          obtain ⟨T, hT⟩ : ∃ T : Nat → Prop, T = fun b => S b ∨ (Made w1.heap.size W2.heap.size b ∧ b ≠ qb) := ⟨_, rfl⟩
          have HT : Hid ((∀ b, T b → b < W2.heap.size) ∧ SliceQ T W2 (.slice (some ⟨b, off, none⟩) h.queues.length vc) h.queues ∧ SliceI T W2 (.slice ra q'.items.length rc) q'.items ∧ ∀ b, T b → S b ∨ w1.heap.size ≤ b) := by
            subst hT
            refine ⟨fun b hb => ?_, HV1.out.sub fun b hb => ⟨.inl hb, HQB.out.bel.block b (by have := HSS.out b hb; omega)⟩, HQB.out.items, fun b hb => hb.imp (fun h => h) fun h => h.1.1⟩
            rcases hb with hb | hb
            · have := HSS.out b hb; omega
            · exact hb.1.2
          clear hT
          go_upto_region 12 with (go_at_call 57; refine (with_any _ h.queues h.next k hk q' _ hlen _ T HT.out.1 HT.out.2.1 HT.out.2.2.1).mono ?_; rintro r w3 ⟨v3, rfl, hv3, hb3⟩; obtain ⟨sa, sc, e3⟩ := hv3.shp; have e3' : v3 = .slice sa h.queues.length sc := (by rw [e3, List.length_set]); subst e3'; have HBn : Hid (Below W2.heap.size W2 w3) := hb3; have HV3 : Hid (SliceQ (fun b => T b ∨ Made W2.heap.size w3.heap.size b) w3 (.slice sa h.queues.length sc) (h.queues.set k q')) := hv3; have HK3 : Hid (Blk w3 w.heap.size [.slice (some ⟨b, off, none⟩) h.queues.length vc, .int .i64 h.next] ∧ Blk w3 (w.heap.size + 1) [.slice pa n.props.length pc, .slice ba n.body.length bc] ∧ Blk w3 (w.heap.size + 1 + 1) [.slice none 0 0, .int .i64 0]) := ⟨HKW.out.1.below hb3 HKW.out.1.lt, HKW.out.2.1.below hb3 HKW.out.2.1.lt, HKW.out.2.2.below hb3 HKW.out.2.2.lt⟩; obtain ⟨d0, d1, d2, d3⟩ := HK3.out.1.b2; clear hb3 hv3 e3 x0 x1 x2 u0 u1 u2 u3 c0 c1 c2)
          obtain ⟨W4, hW4⟩ : ∃ W4, W4 = ((w3.setCell ⟨w.heap.size, 0, none⟩ (.slice sa h.queues.length sc)).setCell ⟨w.heap.size, 1, none⟩ (.int .i64 h.next)).setCell ⟨w.heap.size, 1, none⟩ (.int .i64 (h.next + 1)) := ⟨_, rfl⟩
          rw [← hW4]
          have hz3 := HBn.out.size
          have HX4 : Hid (∀ b, b ≠ w.heap.size → W4.heap[b]? = w3.heap[b]?) := fun b hb => by
            rw [hW4, Below.heap_setCell _ _ _ _ hb, Below.heap_setCell _ _ _ _ hb, Below.heap_setCell _ _ _ _ hb]
          have hz4 : W4.heap.size = w3.heap.size := by rw [hW4]; simp
          have HK4 : Hid (Blk W4 w.heap.size [.slice sa h.queues.length sc, .int .i64 (h.next + 1)] ∧ Blk W4 (w.heap.size + 1) [.slice pa n.props.length pc, .slice ba n.body.length bc] ∧ Blk W4 (w.heap.size + 1 + 1) [.slice none 0 0, .int .i64 0]) :=
            ⟨by rw [hW4]; exact ((HK3.out.1.set 0 _).set 1 _).set 1 _, HK3.out.2.1.same (HX4.out _ (by omega)), HK3.out.2.2.same (HX4.out _ (by omega))⟩
          have HB4 : Hid (Below w.heap.size w W4) := by
            have h3 : Below w.heap.size w w3 := HBW.out.trans (HBn.out.mono (by omega))
            rw [hW4]
            exact ((h3.setCell (by simp) _).setCell (by simp) _).setCell (by simp) _
          have HV4 : Hid (SliceQ (fun b => T b ∨ Made W2.heap.size w3.heap.size b) W4 (.slice sa h.queues.length sc) (h.queues.set k q')) := HV3.out.sub fun b hb => ⟨hb, HX4.out b (by
            rcases hb with hb | hb
            · rcases HT.out.2.2.2 b hb with h2 | h2
              · have := HSS.out b h2; omega
              · omega
            · have := hb.1; omega)⟩
          have HN4 : Hid (NoteIs S W4 (.slice pa n.props.length pc, .slice ba n.body.length bc) n) := HNT.out.sub fun b hb => ⟨hb, HB4.out.block b (HSS.out b hb)⟩
          clear hW4 d0 d1 d2
          obtain ⟨d0, d1, d2, d4⟩ := HK4.out.1.b2
          obtain ⟨z0, z1, z2, z4⟩ := HK4.out.2.1.b2
          obtain ⟨c0, c1, c2, c4⟩ := HK4.out.2.2.b2
          have m1 : W4.heap.size ≠ w.heap.size := by omega
          have m3 : W4.heap.size ≠ w.heap.size + 1 := by omega
          have m4 : W4.heap.size ≠ w.heap.size + 1 + 1 := by omega
          have m5 : w.heap.size + 1 + 1 ≠ w.heap.size := by omega
          have m7 : w.heap.size + 1 + 1 ≠ w.heap.size + 1 := by omega
          have hwr : IntKind.i64.wrap h.next = h.next := by rw [IntKind.wrap_i64]; omega
          have HZ4 : Hid (W4.heap.size = w3.heap.size) := hz4
          clear hz4
          go_region_held3 (fun w' => w'.cell? ⟨w.heap.size, 0, none⟩ = some (.slice sa h.queues.length sc) ∧ w'.cell? ⟨w.heap.size, 1, none⟩ = some (.int .i64 (h.next + 1)) ∧ w'.cell? ⟨w.heap.size + 1, 0, none⟩ = some (.slice pa n.props.length pc) ∧ w'.cell? ⟨w.heap.size + 1, 1, none⟩ = some (.slice ba n.body.length bc)) (go_keep) (fail)
          all_goals
            go_wp2_with fail
            have hz4 := HZ4.out
            have hT3 : ∀ b, (T b ∨ Made W2.heap.size w3.heap.size b) → (S b ∨ w.heap.size ≤ b) ∧ b < W4.heap.size ∧ b ≠ w.heap.size + 1 + 1 := fun b hb => by
              rcases hb with hb | ⟨hb1, hb2⟩
              · have h1 := HT.out.1 b hb
                rcases HT.out.2.2.2 b hb with h2 | h2
                · have := HSS.out b h2
                  exact ⟨.inl h2, by omega, by omega⟩
                · exact ⟨.inr (by omega), by omega, by omega⟩
              · exact ⟨.inr (by omega), by omega, by omega⟩
            have F := Fn.A HK4.out.2.2 (.slice sa h.queues.length sc) (.int .i64 (h.next + 1)) (.cells #[.int .i64 3, .string name, .int .i64 0, .int .i64 h.next, .slice pa n.props.length pc, .slice ba n.body.length bc] 30)
            obtain ⟨wF, hF⟩ : ∃ wF, wF = ((W4.setCell ⟨w.heap.size + 1 + 1, 0, none⟩ (.slice sa h.queues.length sc)).setCell ⟨w.heap.size + 1 + 1, 1, none⟩ (.int .i64 (h.next + 1))).alloc (.cells #[.int .i64 3, .string name, .int .i64 0, .int .i64 h.next, .slice pa n.props.length pc, .slice ba n.body.length bc] 30) := ⟨_, rfl⟩
            have hE : Blk wF W4.heap.size ((putE name h.next n).cells (.slice pa n.props.length pc, .slice ba n.body.length bc)) := by
              have := Blk.new ((W4.setCell ⟨w.heap.size + 1 + 1, 0, none⟩ (.slice sa h.queues.length sc)).setCell ⟨w.heap.size + 1 + 1, 1, none⟩ (.int .i64 (h.next + 1))) [.int .i64 3, .string name, .int .i64 0, .int .i64 h.next, .slice pa n.props.length pc, .slice ba n.body.length bc] 30
              simp only [World.size_setCell] at this
              rw [← hF] at this
              exact this
            rw [← hF] at F
            rw [← hF]
            clear hF
            have hNF : NoteIs (SM S w wF) wF (.slice pa n.props.length pc, .slice ba n.body.length bc) n := HN4.out.sub fun b hb => ⟨.inl hb, F.keep b (by have := HSS.out b hb; omega) (by have := HSS.out b hb; omega)⟩
            have hA := Fn.ans (hd := ⟨h.queues.set k q', h.next + 1⟩) F (by omega) HB4.out HV4.out hT3 (entry_one (putE name h.next n) _ hE (.inr ⟨by omega, hE.lt⟩) hNF)
            rw [← HE.out] at hA
            obtain ⟨f0, f1, f2, f3⟩ := F.box.b2
            clear hz4 hT3 hE hNF
            exact bodyPost_ret (v := .tuple #[.agg #[.slice sa h.queues.length sc, .int .i64 (h.next + 1)], .slice (some ⟨W4.heap.size, 0, none⟩) 1 1, .int .i64 0]) (by simp [results, Try.results30, go_sem, *]; done) rfl (AnsS.drew hA)
  · rw [if_neg hw]
    have hwb : (n.wrong != 0) = true := by simpa using hw
    go_enter Try.func30, Try.ntmps30
    go_wp2_with (go_at_call 14; refine (refWrongN_any _ _ n _ (HNT.out.sub fun b hb => ⟨?_, (three.out _ _ _).block b (HSS.out b hb)⟩) HF.out).mono ?_; (have := HSS.out b hb; simp [Under]; omega); rintro e w0 ⟨rfl, hb0⟩; have hk2 := (Blk.new ((w.alloc _).alloc _) [.slice none 0 0, .int .i64 0] 24).below hb0 (by simp); simp only [World.size_alloc] at hk2; obtain ⟨c0, c1, c2, c3⟩ := hk2.b2; have HB0 : Hid (Below w.heap.size w w0) := (three.out _ _ _).trans (hb0.mono (by simp; omega)); clear hb0 hk2)
    refine bodyPost_ret (v := .tuple #[.agg #[.slice none 0 0, .int .i64 0], .slice none 0 0, .int .i64 n.wrong]) (by simp [results, Try.results30, go_sem, *]; done) rfl ⟨AnsS.refuse _ _ _ _, ?_⟩
    iterate 2 refine Below.setCell ?_ (by simp; omega) _
    exact HB0.out
end Go.Proofs.Ytkddkpdfeeikhaa

/-
  tgref1.HallDone.
-/
namespace Go.Proofs.Ytkddkpdfeeikhaa
open Go.RowKit
set_option linter.unusedVariables false
set_option linter.unusedSimpArgs false

attribute [local go_sem ↓] Go.wp_at_zero Go.wp_at_succ

set_option maxRecDepth 100000 in
set_option maxHeartbeats 3200000 in
theorem refHallDone_any (S : Nat → Prop) (v : Value) (h : HD) (tn : Int) (tq : ByteArray) (id turn : Int) (w : World) (hS : ∀ b, S b → b < w.heap.size) (hv : SliceQ S w v h.queues) (hsm : smallQ h.queues) :
    Calls Try.prog 31 #[.agg #[v, .int .i64 h.next], .agg #[.int .i64 tn, .string tq, .int .i64 id, .int .i64 turn]] w fun e w' => AnsS S (faceF h tq (fun k q => doneF h k q id turn)) w e w' ∧ Below w.heap.size w w' := by
  have HV : Hid (SliceQ S w v h.queues) := hv
  have HM : Hid (smallQ h.queues) := hsm
  have HSS : Hid (∀ b, S b → b < w.heap.size) := hS
  have hlen := hsm.1
  obtain ⟨va, vc, rfl⟩ := hv.shp
  clear hv hsm hS
  have three : Hid (∀ o1 o2 o3 : Obj, Below w.heap.size w (((w.alloc o1).alloc o2).alloc o3)) := fun o1 o2 o3 => ((below_alloc _ _).alloc (by simp) _).alloc (by simp; omega) _
  rcases idxQ_cases tq h.queues with ⟨hd, -⟩ | ⟨k, hk, hd, hnm, -⟩
  · rw [faceF_none hd]
    have HI : Hid (idxQ tq h.queues = -1) := hd
    clear hd
    go_enter Try.func31, Try.ntmps31
    go_wp2_with (go_at_call 56; refine (refFind_any tq _ h.next h.queues _ (HV.out.sub fun b hb => ⟨?_, (three.out _ _ _).block b (HSS.out b hb)⟩)).mono ?_; (have := HSS.out b hb; simp [Under]; omega); rw [HI.out]; rintro e w1 ⟨rfl, hb1⟩; have hk2 := (Blk.new ((w.alloc _).alloc _) [.slice none 0 0, .int .i64 0] 24).below hb1 (by simp); simp only [World.size_alloc] at hk2; obtain ⟨c0, c1, c2, c3⟩ := hk2.b2; have HB1 : Hid (Below w.heap.size w w1) := (three.out _ _ _).trans (hb1.mono (by simp; omega)); clear hb1 hk2)
    refine bodyPost_ret (v := .tuple #[.agg #[.slice none 0 0, .int .i64 0], .slice none 0 0, .int .i64 6]) (by simp [results, Try.results31, go_sem, *]; done) rfl ⟨AnsS.refuse _ _ _ _, ?_⟩
    iterate 2 refine Below.setCell ?_ (by simp; omega) _
    exact HB1.out
  · rw [faceF_some hd hk]
    have HI : Hid (idxQ tq h.queues = (k : Int)) := hd
    clear hd
    have hsk := HM.out.2 _ (List.getElem_mem hk)
    obtain ⟨q, hqq⟩ : ∃ q, q = h.queues[k] := ⟨_, rfl⟩
    have HQQ : Hid (q = h.queues[k]) := hqq
    rw [← hqq] at hnm hsk ⊢
    obtain ⟨q', en, hcase, hone⟩ := done_one h k q id turn hsk
    have HNM : Hid (q.name = tq) := hnm
    obtain ⟨rr, hrr⟩ : ∃ rr, rr = failF (doneF h k q id turn) := ⟨_, rfl⟩
    rw [← hrr] at hcase ⊢
    have HC : Hid ((en = 6 ∧ rr = refuse 6) ∨ (en = 0 ∧ rr = (h.setQ k q', [goneE q.name id], 0))) := hcase
    have HONE : Hid (∀ (S : Nat → Prop) (v : Value) (w : World), (∀ b, S b → b < w.heap.size) → SliceI S w v q.items → Calls Try.prog 62 #[.agg #[.string q.name, .int .i64 q.limit, v], .int .i64 id, .int .i64 turn] w (AnsQS S q' en w)) := hone
    clear hqq hnm hsk hcase hone hrr
    go_enter Try.func31, Try.ntmps31
    go_upto_region 4 with (go_at_call 56; refine (refFind_any tq _ h.next h.queues _ (HV.out.sub fun b hb => ⟨?_, (three.out _ _ _).block b (HSS.out b hb)⟩)).mono ?_; (have := HSS.out b hb; simp [Under]; omega); rw [HI.out]; rintro e w1 ⟨rfl, hb1⟩; have hk0 := (((Blk.new w [.slice va h.queues.length vc, .int .i64 h.next] 24).alloc _).alloc _).below hb1 (by simp; omega); have hk1 := ((Blk.new (w.alloc _) [.int .i64 tn, .string tq, .int .i64 id, .int .i64 turn] 50).alloc _).below hb1 (by simp); have hk2 := (Blk.new ((w.alloc _).alloc _) [.slice none 0 0, .int .i64 0] 24).below hb1 (by simp); simp only [World.size_alloc] at hk0 hk1 hk2; have HK : Hid (Blk w1 w.heap.size [.slice va h.queues.length vc, .int .i64 h.next] ∧ Blk w1 (w.heap.size + 1) [.int .i64 tn, .string tq, .int .i64 id, .int .i64 turn] ∧ Blk w1 (w.heap.size + 1 + 1) [.slice none 0 0, .int .i64 0]) := ⟨hk0, hk1, hk2⟩; have HB1 : Hid (Below w.heap.size w w1) := (three.out _ _ _).trans (hb1.mono (by simp; omega)); clear hb1 hk0 hk1 hk2)
    have hz1 : w.heap.size + 3 ≤ w1.heap.size := by have := HK.out.2.2.lt; omega
    have HV1 : Hid (SliceQ S w1 (.slice va h.queues.length vc) h.queues) := HV.out.sub fun b hb => ⟨hb, HB1.out.block b (HSS.out b hb)⟩
    obtain ⟨b, off, ia, ic, rfl, hSb, hq, y0, y1, y2⟩ := HV1.out.at k hk
    have hbl : b < w1.heap.size := by have := HSS.out b hSb; omega
    rw [← HQQ.out] at y0 y1 y2 hq
    have HQ : Hid (SliceI S w1 (.slice ia q.items.length ic) q.items) := hq
    have HS1 : Hid (∀ b, S b → b < w1.heap.size) := fun b hb => by have := HSS.out b hb; omega
    clear hq
    obtain ⟨x0, x1, x2, x3⟩ := HK.out.1.b2
    obtain ⟨z0, z1, z2, z3, z4, z5⟩ := HK.out.2.1.b4
    have n1 : w1.heap.size ≠ w.heap.size := by omega
    have n2 : w1.heap.size ≠ b := by omega
    have n3 : w1.heap.size ≠ w.heap.size + 1 := by omega
    go_cut [8, 9] (fun qp er wx => ∃ qb ra rc, qp = .pointer (some ⟨qb, 0, none⟩) ∧ er = .int .i64 en ∧ QB S w1 q' ra rc qb wx)
    case first =>
      go_region_held3 (fun w' => w'.cell? ⟨w.heap.size, 0, none⟩ = some (.slice (some ⟨b, off, none⟩) h.queues.length vc) ∧ w'.cell? ⟨b, off + k * 3, none⟩ = some (.string q.name) ∧ w'.cell? ⟨b, off + k * 3 + 1, none⟩ = some (.int .i64 q.limit) ∧ w'.cell? ⟨b, off + k * 3 + 2, none⟩ = some (.slice ia q.items.length ic) ∧ w'.cell? ⟨w.heap.size + 1, 2, none⟩ = some (.int .i64 id) ∧ w'.cell? ⟨w.heap.size + 1, 3, none⟩ = some (.int .i64 turn)) (go_keep) (first
        | (go_at_call 62; refine (HONE.out S _ _ ?_ ?_).mono ?_; (intro b hb; have := HS1.out b hb; simp; omega); (exact HQ.out.sub fun b hb => ⟨hb, Below.heap_alloc _ _ _ (HS1.out b hb)⟩); rintro r w2 ⟨ra, rc, rfl, hv2, hb2⟩; have HV2 : Hid (SliceI (fun b => S b ∨ Made (w1.heap.size + 1) w2.heap.size b) w2 (.slice ra q'.items.length rc) q'.items) := (hv2.sub fun b hb => ⟨hb.imp (fun h => h) (fun h => ⟨by have := h.1; simp at this; omega, h.2⟩), rfl⟩); have hb2' : Below (w1.heap.size + 1) (w1.alloc (.cells #[.string ⟨#[]⟩, .int .i64 0, .slice none 0 0] 76)) w2 := ⟨hb2.os, hb2.tape, hb2.output, by simpa using hb2.size, fun b hb => hb2.block b (by simpa using hb)⟩; have hq1 : Blk w2 w1.heap.size [.string ⟨#[]⟩, .int .i64 0, .slice none 0 0] := (Blk.new w1 [.string ⟨#[]⟩, .int .i64 0, .slice none 0 0] 76).below hb2' (by omega); have HQ1 : Hid (Blk w2 w1.heap.size [.string ⟨#[]⟩, .int .i64 0, .slice none 0 0]) := hq1; obtain ⟨q0, q1, q2, q3, q4⟩ := hq1.b3; have HBn : Hid (Below w1.heap.size w1 w2) := (((below_alloc w1 (.cells #[.string ⟨#[]⟩, .int .i64 0, .slice none 0 0] 76)).mono (by omega)).trans (hb2'.mono (by omega))); have hc := bel_c HBn.out x3 x0; have hc0 := bel_c HBn.out hbl y0; have hc1 := bel_c HBn.out hbl y1; have hc2 := bel_c HBn.out hbl y2; have hc3 := bel_c HBn.out z5 z2; have hc4 := bel_c HBn.out z5 z3; clear hb2 hb2' hq1 hv2)
        | (go_at_call 62; refine (HONE.out S _ _ ?_ ?_).mono ?_; (intro b hb; have := HS1.out b hb; show b < _; (try simp); omega); (exact HQ.out.sub fun b hb => ⟨hb, rfl⟩); rintro r w2 ⟨ra, rc, rfl, hv2, hb2⟩; have HV2 : Hid (SliceI (fun b => S b ∨ Made w1.heap.size w2.heap.size b) w2 (.slice ra q'.items.length rc) q'.items) := (hv2.sub fun b hb => ⟨hb.imp (fun h => h) (fun h => ⟨h.1, h.2⟩), rfl⟩); have HBn : Hid (Below w1.heap.size w1 w2) := ⟨hb2.os, hb2.tape, hb2.output, hb2.size, hb2.block⟩; have hc := bel_c HBn.out x3 x0; have hc0 := bel_c HBn.out hbl y0; have hc1 := bel_c HBn.out hbl y1; have hc2 := bel_c HBn.out hbl y2; have hc3 := bel_c HBn.out z5 z2; have hc4 := bel_c HBn.out z5 z3; clear hb2 hv2))
      all_goals
        go_wp2_with fail
        go_meet
        first
          | exact ⟨_, ra, rc, rfl, rfl, QB.here (q := q') HS1.out HBn.out HQ1.out HV2.out⟩
          | exact ⟨_, ra, rc, rfl, rfl, QB.new (q := q') HS1.out HBn.out HV2.out⟩
    case rest =>
      obtain ⟨qb, ra, rc, rfl, rfl, hQB⟩ := hcut
      have HQB : Hid (QB S w1 q' ra rc qb wc) := hQB
      clear hQB x0 x1 x2 y0 y1 y2 z0 z1 z2 z3 z4
      obtain ⟨W2, hW2⟩ : ∃ W2, W2 = wc := ⟨_, rfl⟩
      rw [← hW2] at HQB
      rw [← hW2]
      clear hW2
      have hzW := HQB.out.bel.size
      have HKW : Hid (Blk W2 w.heap.size [.slice (some ⟨b, off, none⟩) h.queues.length vc, .int .i64 h.next] ∧ Blk W2 (w.heap.size + 1) [.int .i64 tn, .string tq, .int .i64 id, .int .i64 turn] ∧ Blk W2 (w.heap.size + 1 + 1) [.slice none 0 0, .int .i64 0]) := ⟨HK.out.1.below HQB.out.bel HK.out.1.lt, HK.out.2.1.below HQB.out.bel HK.out.2.1.lt, HK.out.2.2.below HQB.out.bel HK.out.2.2.lt⟩
      have HBW : Hid (Below w.heap.size w W2) := HB1.out.trans (HQB.out.bel.mono (by omega))
      obtain ⟨c0, c1, c2, c3⟩ := HKW.out.2.2.b2
      rcases HC.out with ⟨rfl, e⟩ | ⟨rfl, e⟩
      · have HE : Hid (rr = refuse 6) := e
        clear e HC
        go_wp2_with fail
        refine bodyPost_ret (v := .tuple #[.agg #[.slice none 0 0, .int .i64 0], .slice none 0 0, .int .i64 6]) (by simp [results, Try.results31, go_sem, *]; done) rfl ⟨by rw [HE.out]; exact AnsS.refuse _ _ _ _, ?_⟩
        iterate 2 refine Below.setCell ?_ (by simp; omega) _
        exact HBW.out
      · rw [HNM.out] at e
        have HE : Hid (rr = (h.setQ k q', [goneE tq id], 0)) := e
        clear e HC
        obtain ⟨x0, x1, x2, x3⟩ := HKW.out.1.b2
        obtain ⟨z0, z1, z2, z3, z4, z5⟩ := HKW.out.2.1.b4
        obtain ⟨u0, u1, u2, u3, u4⟩ := HQB.out.qblk.b3
        have hqw := HQB.out.ql
        obtain ⟨T, hT⟩ : ∃ T : Nat → Prop, T = fun b => S b ∨ (Made w1.heap.size W2.heap.size b ∧ b ≠ qb) := ⟨_, rfl⟩
        have HT : Hid ((∀ b, T b → b < W2.heap.size) ∧ SliceQ T W2 (.slice (some ⟨b, off, none⟩) h.queues.length vc) h.queues ∧ SliceI T W2 (.slice ra q'.items.length rc) q'.items ∧ ∀ b, T b → S b ∨ w1.heap.size ≤ b) := by
          subst hT
          refine ⟨fun b hb => ?_, HV1.out.sub fun b hb => ⟨.inl hb, HQB.out.bel.block b (by have := HSS.out b hb; omega)⟩, HQB.out.items, fun b hb => hb.imp (fun h => h) fun h => h.1.1⟩
          rcases hb with hb | hb
          · have := HSS.out b hb; omega
          · exact hb.1.2
        clear hT
        have m1 : W2.heap.size ≠ w.heap.size := by omega
        have m2 : W2.heap.size ≠ qb := by omega
        have m3 : W2.heap.size ≠ w.heap.size + 1 := by omega
        have m4 : W2.heap.size ≠ w.heap.size + 1 + 1 := by omega
        have m5 : w.heap.size + 1 + 1 ≠ w.heap.size := by omega
        have m6 : w.heap.size + 1 + 1 ≠ qb := by omega
        have m7 : w.heap.size + 1 + 1 ≠ w.heap.size + 1 := by omega
        go_upto_region 7 with fail
        go_region_held3 (fun w' => w'.cell? ⟨w.heap.size, 0, none⟩ = some (.slice (some ⟨b, off, none⟩) h.queues.length vc) ∧ w'.cell? ⟨w.heap.size, 1, none⟩ = some (.int .i64 h.next) ∧ w'.cell? ⟨qb, 0, none⟩ = some (.string q'.name) ∧ w'.cell? ⟨qb, 1, none⟩ = some (.int .i64 q'.limit) ∧ w'.cell? ⟨qb, 2, none⟩ = some (.slice ra q'.items.length rc) ∧ w'.cell? ⟨w.heap.size + 1, 1, none⟩ = some (.string tq) ∧ w'.cell? ⟨w.heap.size + 1, 2, none⟩ = some (.int .i64 id)) (go_keep) (first
          | (go_at_call 57; refine (with_any _ h.queues h.next k hk q' _ hlen _ T ?_ ?_ ?_).mono ?_; (intro b hb; have := HT.out.1 b hb; simp; omega); (exact HT.out.2.1.sub fun b hb => ⟨hb, Below.heap_alloc _ _ _ (HT.out.1 b hb)⟩); (exact HT.out.2.2.1.sub fun b hb => ⟨hb, Below.heap_alloc _ _ _ (HT.out.1 b hb)⟩); rintro r w3 ⟨v3, rfl, hv3, hb3⟩; obtain ⟨sa, sc, e3⟩ := hv3.shp; have e3' : v3 = .slice sa h.queues.length sc := (by rw [e3, List.length_set]); subst e3'; have hb3' : Below (W2.heap.size + 1) (W2.alloc (.cells #[.int .i64 4, .string tq, .int .i64 0, .int .i64 id, .slice none 0 0, .slice none 0 0] 30)) w3 := ⟨hb3.os, hb3.tape, hb3.output, by simpa using hb3.size, fun b hb => hb3.block b (by simpa using hb)⟩; have HEB : Hid (Blk w3 W2.heap.size [.int .i64 4, .string tq, .int .i64 0, .int .i64 id, .slice none 0 0, .slice none 0 0]) := (Blk.new W2 [.int .i64 4, .string tq, .int .i64 0, .int .i64 id, .slice none 0 0, .slice none 0 0] 30).below hb3' (by omega); have HBn : Hid (Below W2.heap.size W2 w3) := (((below_alloc W2 (.cells #[.int .i64 4, .string tq, .int .i64 0, .int .i64 id, .slice none 0 0, .slice none 0 0] 30)).mono (by omega)).trans (hb3'.mono (by omega))); have HV3 : Hid (SliceQ (fun b => T b ∨ Made (W2.heap.size + 1) w3.heap.size b) w3 (.slice sa h.queues.length sc) (h.queues.set k q')) := (hv3.sub fun b hb => ⟨hb.imp (fun h => h) (fun h => ⟨by have := h.1; simp at this; omega, h.2⟩), rfl⟩); have hc := bel_c HBn.out x3 x0; have hc0 := bel_c HBn.out x3 x1; have hc1 := bel_c HBn.out u4 u0; have hc2 := bel_c HBn.out u4 u1; have hc3 := bel_c HBn.out u4 u2; have hc4 := bel_c HBn.out z5 z1; have hc5 := bel_c HBn.out z5 z2; obtain ⟨d0, d1, d2, d3⟩ := (HKW.out.2.2.below HBn.out HKW.out.2.2.lt).b2; clear hb3 hb3' hv3 e3)
          | (go_at_call 57; refine (with_any _ h.queues h.next k hk q' _ hlen _ T ?_ ?_ ?_).mono ?_; (intro b hb; have := HT.out.1 b hb; show b < _; (try simp); omega); (exact HT.out.2.1.sub fun b hb => ⟨hb, rfl⟩); (exact HT.out.2.2.1.sub fun b hb => ⟨hb, rfl⟩); rintro r w3 ⟨v3, rfl, hv3, hb3⟩; obtain ⟨sa, sc, e3⟩ := hv3.shp; have e3' : v3 = .slice sa h.queues.length sc := (by rw [e3, List.length_set]); subst e3'; have HBn : Hid (Below W2.heap.size W2 w3) := ⟨hb3.os, hb3.tape, hb3.output, hb3.size, hb3.block⟩; have HV3 : Hid (SliceQ (fun b => T b ∨ Made W2.heap.size w3.heap.size b) w3 (.slice sa h.queues.length sc) (h.queues.set k q')) := (hv3.sub fun b hb => ⟨hb.imp (fun h => h) (fun h => ⟨h.1, h.2⟩), rfl⟩); have hc := bel_c HBn.out x3 x0; have hc0 := bel_c HBn.out x3 x1; have hc1 := bel_c HBn.out u4 u0; have hc2 := bel_c HBn.out u4 u1; have hc3 := bel_c HBn.out u4 u2; have hc4 := bel_c HBn.out z5 z1; have hc5 := bel_c HBn.out z5 z2; obtain ⟨d0, d1, d2, d3⟩ := (HKW.out.2.2.below HBn.out HKW.out.2.2.lt).b2; clear hb3 hv3 e3))
        all_goals
          go_wp2_with fail
          have hz3 := HBn.out.size
          have hB3 : Below w.heap.size w w3 := HBW.out.trans (HBn.out.mono (by omega))
          have hR3 := HKW.out.2.2.below HBn.out HKW.out.2.2.lt
          have hT3 : ∀ b, (T b ∨ Made W2.heap.size w3.heap.size b) → (S b ∨ w.heap.size ≤ b) ∧ b < w3.heap.size ∧ b ≠ w.heap.size + 1 + 1 := fun b hb => by
            rcases hb with hb | ⟨hb1, hb2⟩
            · have h1 := HT.out.1 b hb
              rcases HT.out.2.2.2 b hb with h2 | h2
              · have := HSS.out b h2
                exact ⟨.inl h2, by omega, by omega⟩
              · exact ⟨.inr (by omega), by omega, by omega⟩
            · exact ⟨.inr (by omega), hb2, by omega⟩
          have hQ3 : SliceQ (fun b => T b ∨ Made W2.heap.size w3.heap.size b) w3 (.slice sa h.queues.length sc) (h.setQ k q').queues := HV3.out.sub fun b hb => ⟨hb.imp (fun h => h) (fun h => ⟨by have := h.1; omega, h.2⟩), rfl⟩
          first
            | (have F := Fn.B hR3 (.slice sa h.queues.length sc) (.int .i64 (h.setQ k q').next)
               have hE : Blk _ W2.heap.size ((goneE tq id).cells (.slice none 0 0, .slice none 0 0)) := HEB.out.same (F.keep _ HEB.out.lt (by omega))
               obtain ⟨f0, f1, f2, f3⟩ := F.box.b2
               have hA := Fn.ans F (by omega) hB3 hQ3 hT3 (entry_one (T := SM S w _) (goneE tq id) _ hE (.inr ⟨by omega, hE.lt⟩) (NoteIs.nil _ _))
               rw [← HE.out] at hA
               exact bodyPost_ret (by simp [results, Try.results31, go_sem, HD.setQ, *]; done) rfl hA)
            | (have F := Fn.A hR3 (.slice sa h.queues.length sc) (.int .i64 (h.setQ k q').next) (.cells #[.int .i64 4, .string tq, .int .i64 0, .int .i64 id, .slice none 0 0, .slice none 0 0] 30)
               have hE : Blk (((w3.setCell ⟨w.heap.size + 1 + 1, 0, none⟩ (.slice sa h.queues.length sc)).setCell ⟨w.heap.size + 1 + 1, 1, none⟩ (.int .i64 (h.setQ k q').next)).alloc (.cells #[.int .i64 4, .string tq, .int .i64 0, .int .i64 id, .slice none 0 0, .slice none 0 0] 30)) w3.heap.size ((goneE tq id).cells (.slice none 0 0, .slice none 0 0)) := by have := Blk.new ((w3.setCell ⟨w.heap.size + 1 + 1, 0, none⟩ (.slice sa h.queues.length sc)).setCell ⟨w.heap.size + 1 + 1, 1, none⟩ (.int .i64 h.next)) [.int .i64 4, .string tq, .int .i64 0, .int .i64 id, .slice none 0 0, .slice none 0 0] 30; simp only [World.size_setCell] at this; exact this
               obtain ⟨f0, f1, f2, f3⟩ := F.box.b2
               have hA := Fn.ans F (by omega) hB3 hQ3 hT3 (entry_one (T := SM S w _) (goneE tq id) _ hE (.inr ⟨by omega, hE.lt⟩) (NoteIs.nil _ _))
               rw [← HE.out] at hA
               exact bodyPost_ret (by simp [results, Try.results31, go_sem, HD.setQ, *]; done) rfl hA)
end Go.Proofs.Ytkddkpdfeeikhaa
