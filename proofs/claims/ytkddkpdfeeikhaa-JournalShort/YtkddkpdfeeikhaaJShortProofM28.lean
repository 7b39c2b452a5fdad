/-
  FaceG; RefS: texts laid together.
-/
import Derived.Test.YtkddkpdfeeikhaaJShortProofM27
import Derived.Test.YtkddkpdfeeikhaaJShortProofM23
import Derived.Test.YtkddkpdfeeikhaaJShortProofM24
import Derived.Test.YtkddkpdfeeikhaaRefPutS
import Derived.Test.YtkddkpdfeeikhaaJShortProofM14
import Derived.Deep.DeepCutAuto
import Derived.Deep.RegionHeld3
/-
  hall.Done.
-/
namespace Go.Proofs.Ytkddkpdfeeikhaa
open Go.RowKit
set_option linter.unusedVariables false
set_option linter.unusedSimpArgs false

attribute [local go_sem ↓] Go.wp_at_zero Go.wp_at_succ

theorem InAns.same {P G : Nat → Prop} {hb B : Nat} {W w3 : World} {g cap : Nat} {L : QuL} {h : HD} (H : HallIn P hb W (.slice (some ⟨g, 0, Option.none⟩) L.length cap) L h.next) (e : L.map Prod.fst = h.queues) (hP : ∀ b, P b → B ≤ b) (hbB : B ≤ hb) (hB : B ≤ W.heap.size) (h3 : Below W.heap.size W w3) :
    Keep (fun b => b < B ∧ ¬ G b) W w3 := Keep.of h3 fun k hk => by have := hk.1; omega

set_option maxRecDepth 100000 in
set_option maxHeartbeats 3200000 in
theorem done_alters (w : World) (tb : Nat) (tn : Int) (name : ByteArray) (id turn : Int) (hb : Blk w tb [.int .i64 tn, .string name, .int .i64 id, .int .i64 turn]) (h : HD) (k : Nat) (hk : k < h.queues.length) (hnm : h.queues[k].name = name) (hsm : smallQ h.queues) :
    Alters w (fun _ => False) 156 [.pointer (some ⟨tb, 0, none⟩)] h k (doneF h k h.queues[k] id turn) (fun _ _ => True) := by
  refine ⟨enter70, fun _ _ _ _ _ _ => trivial, fun B P hb' W g cap L hH e hP hbB hwB hW => ?_⟩
  have HH : Hid (HallIn P hb' W (.slice (some ⟨g, 0, none⟩) L.length cap) L h.next) := hH
  have hkL : k < L.length := by rw [← e] at hk; simpa using hk
  have hq : h.queues[k] = (L[k]'hkL).1 := by simp [← e]
  have hsk := smallQ_at hsm hk
  have HNB : Hid (Blk W tb [.int .i64 tn, .string name, .int .i64 id, .int .i64 turn]) := hb.below hW hb.lt
  obtain ⟨c0, c1, c2, c3⟩ : W.cell? ⟨tb, 2, none⟩ = some (.int .i64 id) ∧ W.cell? ⟨tb, 3, none⟩ = some (.int .i64 turn) ∧ (∀ o, W.frozen? ⟨tb, o, none⟩ = false) ∧ tb < W.heap.size := ⟨HNB.out.cell 2, HNB.out.cell 3, HNB.out.f, HNB.out.lt⟩
  obtain ⟨ia, ic, -, hI, y0, y1, y2⟩ := hH.at k hkL
  obtain ⟨b0, b1, b2, b3⟩ := hH.box.b2
  obtain ⟨hgl, hgb, hbl, hgP⟩ := hH.gl
  have hlL : L.length ≤ 4194304 := by have := congrArg List.length e; have h1 := hsm.1; simp at this; omega
  rw [← hq] at y0 y1 y2 hI
  obtain ⟨q, hqq⟩ : ∃ q, q = h.queues[k] := ⟨_, rfl⟩
  rw [← hqq] at y0 y1 y2 hI hsk hnm ⊢
  have HI : Hid (SliceI (Under W.heap.size) W (.slice ia q.items.length ic) q.items) := hI.sub fun b hb => ⟨hH.lt b hb.1, rfl⟩
  have HX : Hid (smallI q.items ∧ L.map Prod.fst = h.queues ∧ (∀ b, P b → B ≤ b) ∧ (∀ b, P b → b < W.heap.size)) := ⟨hsk, e, hP, hH.lt⟩
  have hgf := hH.f
  have hWz := hW.size
  have HNM : Hid (q.name = name) := hnm
  have hnbl := hb.lt
  have hgB := hP g hgP
  clear hH e hP hsm hb hW hI hsk hq hqq hnm
  have n1 : W.heap.size ≠ hb' := by omega
  have n2 : W.heap.size ≠ g := by omega
  have n3 : W.heap.size ≠ tb := by omega
  rcases idxI_cases (givenB id turn) q.items with hi | ⟨i, hil, hi, -, -⟩
  · have HXI : Hid (idxI (givenB id turn) q.items = -1) := hi
    rw [doneF_none hi]
    clear hi
    go_enter Try.func156, Try.ntmps156
    go_wp2_with fail
    go_region_held3 (fun w' => w'.cell? ⟨hb', 0, none⟩ = some (.slice (some ⟨g, 0, none⟩) L.length cap) ∧ w'.cell? ⟨g, k * 3, none⟩ = some (.string q.name) ∧ w'.cell? ⟨g, k * 3 + 1, none⟩ = some (.int .i64 q.limit) ∧ w'.cell? ⟨g, k * 3 + 2, none⟩ = some (.slice ia q.items.length ic) ∧ w'.cell? ⟨tb, 2, none⟩ = some (.int .i64 id) ∧ w'.cell? ⟨tb, 3, none⟩ = some (.int .i64 turn)) (go_keep) (first
      | (go_at_call 157; refine (done_none _ q.name q.limit id turn q.items _ ?_ HXI.out).mono ?_; (exact HI.out.sub fun b hb => ⟨Nat.lt_of_lt_of_le hb (by simp), Below.heap_alloc _ _ _ hb⟩); rintro r w1 ⟨rfl, hb1⟩; have hb1' : Below (W.heap.size + 1) (W.alloc (.cells #[.string ⟨#[]⟩, .int .i64 0, .slice none 0 0] 76)) w1 := ⟨hb1.os, hb1.tape, hb1.output, by simpa using hb1.size, fun b hb => hb1.block b (by simpa using hb)⟩; have hq1 : Blk w1 W.heap.size [.string ⟨#[]⟩, .int .i64 0, .slice none 0 0] := (Blk.new W [.string ⟨#[]⟩, .int .i64 0, .slice none 0 0] 76).below hb1' (by omega); obtain ⟨q0, q1, q2, q3, q4⟩ := hq1.b3; have HB1 : Hid (Below W.heap.size W w1) := (((below_alloc W (.cells #[.string ⟨#[]⟩, .int .i64 0, .slice none 0 0] 76)).mono (by omega)).trans (hb1'.mono (by omega))); have hc := HB1.out.cell (p := ⟨hb', 0, none⟩) hbl; have hc0 := HB1.out.cell (p := ⟨g, k * 3, none⟩) hgl; have hc1 := HB1.out.cell (p := ⟨g, k * 3 + 1, none⟩) hgl; have hc2 := HB1.out.cell (p := ⟨g, k * 3 + 2, none⟩) hgl; have hc3 := HB1.out.cell (p := ⟨tb, 2, none⟩) c3; have hc4 := HB1.out.cell (p := ⟨tb, 3, none⟩) c3; rw [b0] at hc; rw [y0] at hc0; rw [y1] at hc1; rw [y2] at hc2; rw [c0] at hc3; rw [c1] at hc4; clear hb1 hb1' hq1)
      | (go_at_call 157; refine (done_none _ q.name q.limit id turn q.items _ ?_ HXI.out).mono ?_; (exact HI.out.sub fun b hb => ⟨hb, rfl⟩); rintro r w1 ⟨rfl, hb1⟩; have HB1 : Hid (Below W.heap.size W w1) := ⟨hb1.os, hb1.tape, hb1.output, hb1.size, hb1.block⟩; have hc := HB1.out.cell (p := ⟨hb', 0, none⟩) hbl; have hc0 := HB1.out.cell (p := ⟨g, k * 3, none⟩) hgl; have hc1 := HB1.out.cell (p := ⟨g, k * 3 + 1, none⟩) hgl; have hc2 := HB1.out.cell (p := ⟨g, k * 3 + 2, none⟩) hgl; have hc3 := HB1.out.cell (p := ⟨tb, 2, none⟩) c3; have hc4 := HB1.out.cell (p := ⟨tb, 3, none⟩) c3; rw [b0] at hc; rw [y0] at hc0; rw [y1] at hc1; rw [y2] at hc2; rw [c0] at hc3; rw [c1] at hc4; clear hb1))
    all_goals
      go_wp2_with fail
      refine bodyPost_ret (v := .tuple #[.slice none 0 0, .int .i64 6]) (by simp [results, Try.results156, go_sem, *]; done) rfl ⟨none, 0, 0, rfl, fun h => by simp at h, trivial, ?_⟩
      have hB := HB1.out
      have hs1 := HB1.out.size
      first
        | (have hqx := q4; exact InAns.same HH.out HX.out.2.1 HX.out.2.2.1 hbB (by omega) (((hB.setCell (by simp) _).setCell (by simp) _).setCell (by simp) _))
        | exact InAns.same HH.out HX.out.2.1 HX.out.2.2.1 hbB (by omega) (hB.alloc (by omega) _)
  · have HXI : Hid (idxI (givenB id turn) q.items = (i : Int)) := hi
    rw [doneF_some hi]
    clear hi
    obtain ⟨its', hits⟩ : ∃ its', its' = q.items.eraseIdx i := ⟨_, rfl⟩
    rw [← hits]
    have HIT : Hid (its' = q.items.eraseIdx i) := hits
    clear hits
    go_enter Try.func156, Try.ntmps156
    go_upto_region 1 with fail
    go_cut [7, 8] (fun qp er wx => ∃ qb va vc, qp = .pointer (some ⟨qb, 0, none⟩) ∧ er = .int .i64 0 ∧ QBox P hb' W g cap L h.next ⟨q.name, q.limit, its'⟩ va vc qb wx)
    case first =>
      go_region_held3 (fun w' => w'.cell? ⟨hb', 0, none⟩ = some (.slice (some ⟨g, 0, none⟩) L.length cap) ∧ w'.cell? ⟨g, k * 3, none⟩ = some (.string q.name) ∧ w'.cell? ⟨g, k * 3 + 1, none⟩ = some (.int .i64 q.limit) ∧ w'.cell? ⟨g, k * 3 + 2, none⟩ = some (.slice ia q.items.length ic) ∧ w'.cell? ⟨tb, 2, none⟩ = some (.int .i64 id) ∧ w'.cell? ⟨tb, 3, none⟩ = some (.int .i64 turn)) (go_keep) (first
        | (go_at_call 157; refine (done_new _ q.name q.limit id turn q.items i hil _ ?_ HX.out.1 HXI.out).mono ?_; (exact HI.out.sub fun b hb => ⟨Nat.lt_of_lt_of_le hb (by simp), Below.heap_alloc _ _ _ hb⟩); rw [← HIT.out]; rintro r w1 ⟨v1, rfl, hv1, hb1⟩; obtain ⟨va, vc, rfl⟩ := hv1.shp; have hb1' : Below (W.heap.size + 1) (W.alloc (.cells #[.string ⟨#[]⟩, .int .i64 0, .slice none 0 0] 76)) w1 := ⟨hb1.os, hb1.tape, hb1.output, by simpa using hb1.size, fun b hb => hb1.block b (by simpa using hb)⟩; have hq1 : Blk w1 W.heap.size [.string ⟨#[]⟩, .int .i64 0, .slice none 0 0] := (Blk.new W [.string ⟨#[]⟩, .int .i64 0, .slice none 0 0] 76).below hb1' (by omega); have HQ1 : Hid (Blk w1 W.heap.size [.string ⟨#[]⟩, .int .i64 0, .slice none 0 0]) := hq1; obtain ⟨q0, q1, q2, q3, q4⟩ := hq1.b3; have HB1 : Hid (Below W.heap.size W w1) := (((below_alloc W (.cells #[.string ⟨#[]⟩, .int .i64 0, .slice none 0 0] 76)).mono (by omega)).trans (hb1'.mono (by omega))); have HV1 : Hid (SliceI (Made (W.heap.size + 1) w1.heap.size) w1 (.slice va its'.length vc) its') := (hv1.sub fun b hb => ⟨⟨by have := hb.1; simp at this; omega, hb.2⟩, rfl⟩); have hc := HB1.out.cell (p := ⟨hb', 0, none⟩) hbl; have hc0 := HB1.out.cell (p := ⟨g, k * 3, none⟩) hgl; have hc1 := HB1.out.cell (p := ⟨g, k * 3 + 1, none⟩) hgl; have hc2 := HB1.out.cell (p := ⟨g, k * 3 + 2, none⟩) hgl; have hc3 := HB1.out.cell (p := ⟨tb, 2, none⟩) c3; have hc4 := HB1.out.cell (p := ⟨tb, 3, none⟩) c3; rw [b0] at hc; rw [y0] at hc0; rw [y1] at hc1; rw [y2] at hc2; rw [c0] at hc3; rw [c1] at hc4; clear hb1 hv1 hb1' hq1)
        | (go_at_call 157; refine (done_new _ q.name q.limit id turn q.items i hil _ ?_ HX.out.1 HXI.out).mono ?_; (exact HI.out.sub fun b hb => ⟨hb, rfl⟩); rw [← HIT.out]; rintro r w1 ⟨v1, rfl, hv1, hb1⟩; obtain ⟨va, vc, rfl⟩ := hv1.shp; have HB1 : Hid (Below W.heap.size W w1) := ⟨hb1.os, hb1.tape, hb1.output, hb1.size, hb1.block⟩; have HV1 : Hid (SliceI (Made W.heap.size w1.heap.size) w1 (.slice va its'.length vc) its') := hv1; have hc := HB1.out.cell (p := ⟨hb', 0, none⟩) hbl; have hc0 := HB1.out.cell (p := ⟨g, k * 3, none⟩) hgl; have hc1 := HB1.out.cell (p := ⟨g, k * 3 + 1, none⟩) hgl; have hc2 := HB1.out.cell (p := ⟨g, k * 3 + 2, none⟩) hgl; have hc3 := HB1.out.cell (p := ⟨tb, 2, none⟩) c3; have hc4 := HB1.out.cell (p := ⟨tb, 3, none⟩) c3; rw [b0] at hc; rw [y0] at hc0; rw [y1] at hc1; rw [y2] at hc2; rw [c0] at hc3; rw [c1] at hc4; clear hb1 hv1))
      all_goals
        go_wp2_with fail
        go_meet
        first
          | (have HH1 := QBox.here (q := ⟨q.name, q.limit, its'⟩) HH.out HB1.out HQ1.out HV1.out; exact ⟨_, va, vc, rfl, rfl, HH1⟩)
          | (have HH1 := QBox.new (q := ⟨q.name, q.limit, its'⟩) HH.out HB1.out HV1.out; exact ⟨_, va, vc, rfl, rfl, HH1⟩)
    case rest =>
      obtain ⟨qb, va, vc, rfl, rfl, hS⟩ := hcut
      have HQ1 : Hid (QBox P hb' W g cap L h.next ⟨q.name, q.limit, its'⟩ va vc qb wc) := hS
      obtain ⟨W2, hW2⟩ : ∃ W2, W2 = wc := ⟨_, rfl⟩
      rw [← hW2] at HQ1
      rw [← hW2]
      clear hS hW2 y0 y1 y2 b0 b1 b2 c0 c1 c2 hgf
      obtain ⟨q0, q1, q2, q3, q4⟩ := HQ1.out.qblk.b3
      obtain ⟨h0, h1, h2, h3⟩ := HQ1.out.hall.box.b2
      obtain ⟨ja, jc, -, -, y0, y1, y2⟩ := HQ1.out.hall.at k hkL
      have hgf := HQ1.out.hall.f
      have hgw := HQ1.out.hall.gl.1
      go_upto_region 4 with fail
      go_cut [] (fun wx => QPut P hb' W g cap L k h.next ⟨q.name, q.limit, its'⟩ (.slice va its'.length vc) W2.heap.size wx ∧ (∀ b, b ≠ g → wx.heap[b]? = W2.heap[b]?))
      case first =>
        go_region_law (fail)
        all_goals
          go_wp2_with fail
          go_meet
          refine ⟨HQ1.out.put hgl hbl HX.out.2.2.2 k hkL, fun b hb => ?_⟩
          exact (Below.heap_setCell _ _ _ _ hb).trans ((Below.heap_setCell _ _ _ _ hb).trans (Below.heap_setCell _ _ _ _ hb))
      case rest =>
        obtain ⟨hc1, hc2⟩ := hcut
        have HC : Hid (QPut P hb' W g cap L k h.next ⟨q.name, q.limit, its'⟩ (.slice va its'.length vc) W2.heap.size wc) := hc1
        have hnc := HNB.out.same (Eq.trans (hc2 tb (by omega)) (HQ1.out.bel.block tb HNB.out.lt))
        obtain ⟨c0, c1, c2, c3'⟩ : wc.cell? ⟨tb, 1, none⟩ = some (.string name) ∧ wc.cell? ⟨tb, 2, none⟩ = some (.int .i64 id) ∧ (∀ o, wc.frozen? ⟨tb, o, none⟩ = false) ∧ tb < wc.heap.size := ⟨hnc.cell 1, hnc.cell 2, hnc.f, hnc.lt⟩
        clear hc1 hc2 hnc q0 q1 q2 q3 h0 h1 h2 y0 y1 y2 hgf
        go_wp2_with (go_at_call 147; refine (gone_any name _ [id] (by simp) _ ?_).mono ?_; (exact (row_any wc [.int .i64 id] 3 1 (by simp [maxLen])).sub fun b hb => ⟨by show b < _; simp; omega, rfl⟩); rintro r w3 ⟨ev, rfl, ho3, hb3⟩; obtain ⟨ea, en, ec, rfl, hA1, hA2⟩ := HC.out.told (G := fun _ => False) HX.out.2.1 HX.out.2.2.1 hgP hbB (by omega) ((below_alloc wc (.cells #[.int .i64 id] 3)).trans (hb3.mono (by simp))) (ho3.slice.sub fun b hb => ⟨⟨by have := hb.1; simp at this; omega, hb.2⟩, rfl⟩); have HA : Hid _ := And.intro hA1 hA2; clear hA1 hA2 ho3 hb3)
        refine bodyPost_ret (v := .tuple #[.slice ea en ec, .int .i64 0]) (by simp [results, Try.results156, go_sem, *]; done) rfl ⟨ea, en, ec, rfl, fun _ => ?_, trivial, HA.out.2⟩
        have h1 := HA.out.1
        rw [← HNM.out] at h1
        exact h1

set_option maxRecDepth 100000 in
set_option maxHeartbeats 1000000 in
theorem hallDone_any (v : Value) (h : HD) (tn : Int) (tq : ByteArray) (id turn : Int) (w : World) (hv : SliceQ (Under w.heap.size) w v h.queues) (hsm : smallQ h.queues) :
    Calls Try.prog 140 #[.agg #[v, .int .i64 h.next], .agg #[.int .i64 tn, .string tq, .int .i64 id, .int .i64 turn]] w fun e w' => AnsH (faceF h tq (fun k q => doneF h k q id turn)) w e w' ∧ Below w.heap.size w w' := by
  have HV : Hid (SliceQ (Under w.heap.size) w v h.queues) := hv
  have HX : Hid (smallQ h.queues) := hsm
  obtain ⟨va, vc, rfl⟩ := hv.shp
  clear hv hsm
  have three : Hid (∀ o1 o2 o3 : Obj, Below w.heap.size w (((w.alloc o1).alloc o2).alloc o3)) := fun o1 o2 o3 => ((below_alloc _ _).alloc (by simp) _).alloc (by simp; omega) _
  go_enter Try.func140, Try.ntmps140
  go_wp2_with (go_at_call 131; refine (changed_face 156 [.pointer (some ⟨w.heap.size + 1, 0, none⟩)] _ tq h (fun k q => doneF h k q id turn) _ (HV.out.sub fun k hk => ⟨?_, (three.out _ _ _).block k hk⟩) HX.out (fun k hk hn => done_alters _ _ tn tq id turn ?_ h k hk hn HX.out)).mono ?_; (simp [Under] at hk ⊢; omega); (have := (Blk.new (w.alloc (.cells #[.slice va h.queues.length vc, .int .i64 h.next] 24)) [.int .i64 tn, .string tq, .int .i64 id, .int .i64 turn] 50).alloc (.cells #[.slice none 0 0, .int .i64 0] 24); simpa using this); rintro e w1 ⟨⟨va1, vc1, ea1, ec1, rfl, hQ1, hE1⟩, hb1⟩; obtain ⟨b0, b1, b2, b3⟩ := ((Blk.new ((w.alloc _).alloc _) _ 24).below hb1 (by simp)).b2; simp only [World.size_alloc] at b0 b1 b2 b3; have H1 : Hid _ := And.intro hQ1 (And.intro hE1 hb1); clear hQ1 hE1 hb1)
  refine bodyPost_ret (v := .tuple #[.agg #[.slice va1 (faceF h tq (fun k q => doneF h k q id turn)).1.queues.length vc1, .int .i64 (faceF h tq (fun k q => doneF h k q id turn)).1.next], .slice ea1 (faceF h tq (fun k q => doneF h k q id turn)).2.1.length ec1, .int .i64 (faceF h tq (fun k q => doneF h k q id turn)).2.2]) (by simp [results, Try.results140, go_sem, *]; done) rfl (face_end (three.out _ _ _) (by simp) H1.out.2.2 H1.out.1 H1.out.2.1 _ _)
end Go.Proofs.Ytkddkpdfeeikhaa

/-
  How the document's halls are answered: in blocks of a set, or in new ones.
-/
namespace Go.Proofs.Ytkddkpdfeeikhaa
open Go.RowKit
set_option linter.unusedVariables false
set_option linter.unusedSimpArgs false

attribute [local go_sem ↓] Go.wp_at_zero Go.wp_at_succ

theorem Blk.b4 {w : World} {b : Nat} {x0 x1 x2 x3 : Value} (h : Blk w b [x0, x1, x2, x3]) : w.cell? ⟨b, 0, none⟩ = some x0 ∧ w.cell? ⟨b, 1, none⟩ = some x1 ∧ w.cell? ⟨b, 2, none⟩ = some x2 ∧ w.cell? ⟨b, 3, none⟩ = some x3 ∧ (∀ o, w.frozen? ⟨b, o, none⟩ = false) ∧ b < w.heap.size := ⟨h.cell 0, h.cell 1, h.cell 2, h.cell 3, h.f, h.lt⟩

/-- S's blocks, or those that were made since w. -/
def SM (S : Nat → Prop) (w w' : World) : Nat → Prop := fun b => S b ∨ Made w.heap.size w'.heap.size b

/-- A hall, entries and an error are answered: their blocks are S's or made. -/
def AnsS (S : Nat → Prop) (r : HD × List ED × Int) (w : World) (e : Ending) (w' : World) : Prop :=
  ∃ va vc ea ec, e = .returned (.tuple #[.agg #[.slice va r.1.queues.length vc, .int .i64 r.1.next], .slice ea r.2.1.length ec, .int .i64 r.2.2]) ∧ SliceQ (SM S w w') w' (.slice va r.1.queues.length vc) r.1.queues ∧ SliceE (SM S w w') w' (.slice ea r.2.1.length ec) r.2.1
theorem AnsS.refuse (S : Nat → Prop) (en : Int) (w w' : World) : AnsS S (refuse en) w (.returned (.tuple #[.agg #[.slice none 0 0, .int .i64 0], .slice none 0 0, .int .i64 en])) w' :=
  ⟨none, 0, none, 0, rfl, SliceQ.nil _ _, SliceE.nil _ _⟩

/-- A queue in a box, behind a call from W. -/
structure QB (S : Nat → Prop) (W : World) (q : QD) (va : Option Addr) (vc : Nat) (qb : Nat) (w1 : World) : Prop where
  bel : Below W.heap.size W w1
  qblk : Blk w1 qb [.string q.name, .int .i64 q.limit, .slice va q.items.length vc]
  ql : W.heap.size ≤ qb
  items : SliceI (fun b => S b ∨ (Made W.heap.size w1.heap.size b ∧ b ≠ qb)) w1 (.slice va q.items.length vc) q.items
theorem QB.new {S : Nat → Prop} {W w1 : World} {q : QD} {va : Option Addr} {vc : Nat} (hS : ∀ b, S b → b < W.heap.size) (h1 : Below W.heap.size W w1) (hI : SliceI (fun b => S b ∨ Made W.heap.size w1.heap.size b) w1 (.slice va q.items.length vc) q.items) :
    QB S W q va vc w1.heap.size (w1.alloc (.cells #[.string q.name, .int .i64 q.limit, .slice va q.items.length vc] 76)) := by
  have hz := h1.size
  refine ⟨h1.alloc h1.size _, Blk.new _ _ _, h1.size, hI.sub fun b hb => ?_⟩
  have hb' : b < w1.heap.size := by
    rcases hb with h | h
    · have := hS b h; omega
    · exact h.2
  refine ⟨hb.imp (fun h => h) (fun h => ⟨⟨h.1, by have := h.2; simp; omega⟩, by have := h.2; omega⟩), Below.heap_alloc _ _ _ hb'⟩
theorem QB.here {S : Nat → Prop} {W w1 : World} {q : QD} {va : Option Addr} {vc : Nat} (hS : ∀ b, S b → b < W.heap.size) (h1 : Below W.heap.size W w1) (hq : Blk w1 W.heap.size [.string ⟨#[]⟩, .int .i64 0, .slice none 0 0]) (hI : SliceI (fun b => S b ∨ Made (W.heap.size + 1) w1.heap.size b) w1 (.slice va q.items.length vc) q.items) :
    QB S W q va vc W.heap.size (((w1.setCell ⟨W.heap.size, 0, none⟩ (.string q.name)).setCell ⟨W.heap.size, 1, none⟩ (.int .i64 q.limit)).setCell ⟨W.heap.size, 2, none⟩ (.slice va q.items.length vc)) := by
  refine ⟨((h1.setCell (by simp) _).setCell (by simp) _).setCell (by simp) _, ((hq.set 0 _).set 1 _).set 2 _, Nat.le_refl _, hI.sub fun b hb => ?_⟩
  have hne : b ≠ W.heap.size := by
    rcases hb with h | h
    · have := hS b h; omega
    · have := h.1; omega
  refine ⟨hb.imp (fun h => h) (fun h => ⟨⟨by have := h.1; omega, by have := h.2; simpa using this⟩, hne⟩), ?_⟩
  rw [Below.heap_setCell _ _ _ _ hne, Below.heap_setCell _ _ _ _ hne, Below.heap_setCell _ _ _ _ hne]

theorem QB.set {S : Nat → Prop} {W : World} {q : QD} {va : Option Addr} {vc : Nat} {qb : Nat} {w1 : World} (h : QB S W q va vc qb w1) : (∀ b, (S b ∨ (Made W.heap.size w1.heap.size b ∧ b ≠ qb)) → S b ∨ Made W.heap.size w1.heap.size b) := fun b hb => hb.imp id And.left

/-- A row of one entry. -/
theorem entry_row {w : World} {b : Nat} {cs : List Value} (h : Blk w b cs) : SliceV (fun c => c = b) w (.slice (some ⟨b, 0, none⟩) 1 1) 1 cs := by
  refine ⟨_, _, rfl, Nat.le_refl _, by simp [maxLen], fun h => by simp at h, fun i hi => ⟨b, 0, rfl, rfl, ?_⟩⟩
  have := h.cell (0 + i)
  rw [Nat.zero_add, List.getElem?_eq_getElem hi] at this
  rw [Nat.zero_add]
  exact this
theorem entry_one {T : Nat → Prop} {w : World} {b : Nat} (e : ED) (p : Value × Value) (h : Blk w b (e.cells p)) (hb : T b) (hn : NoteIs T w p e.note) : SliceE T w (.slice (some ⟨b, 0, none⟩) 1 1) [e] := by
  refine ⟨[(e, p)], rfl, ?_, fun x hx => ?_⟩
  · have : cellsE [(e, p)] = e.cells p := by simp [cellsE]
    rw [this]
    exact (entry_row h).sub fun c hc => ⟨by have : c = b := hc; subst this; exact hb, rfl⟩
  · rw [List.mem_singleton] at hx
    subst hx
    exact hn

theorem SliceI.nil (S : Nat → Prop) (w : World) : SliceI S w (.slice none 0 0) [] := ⟨[], rfl, SliceV.nil _ _, by simp⟩

/-- A cell that a call leaves. -/
theorem bel_c {W w2 : World} (h : Below W.heap.size W w2) {b o : Nat} {x : Value} (hb : b < W.heap.size) (hx : W.cell? ⟨b, o, none⟩ = some x) : w2.cell? ⟨b, o, none⟩ = some x := (h.cell (p := ⟨b, o, none⟩) hb).trans hx

/-- A queue and an error are answered. -/
def AnsQS (S : Nat → Prop) (q : QD) (en : Int) (w : World) (e : Ending) (w' : World) : Prop :=
  ∃ ra rc, e = .returned (.tuple #[.agg #[.string q.name, .int .i64 q.limit, .slice ra q.items.length rc], .int .i64 en]) ∧ SliceI (fun b => S b ∨ Made w.heap.size w'.heap.size b) w' (.slice ra q.items.length rc) q.items ∧ Below w.heap.size w w'

def zQ : QD := ⟨⟨#[]⟩, 0, []⟩

/-- tgref1.Done, in one form. -/
theorem done_one (h : HD) (k : Nat) (q : QD) (id turn : Int) (hs : smallI q.items) : ∃ (q' : QD) (en : Int), ((en = 6 ∧ failF (doneF h k q id turn) = refuse 6) ∨ (en = 0 ∧ failF (doneF h k q id turn) = (h.setQ k q', [goneE q.name id], 0))) ∧
    ∀ (S : Nat → Prop) (v : Value) (w : World), (∀ b, S b → b < w.heap.size) → SliceI S w v q.items → Calls Try.prog 62 #[.agg #[.string q.name, .int .i64 q.limit, v], .int .i64 id, .int .i64 turn] w (AnsQS S q' en w) := by
  rcases idxI_cases (givenB id turn) q.items with hi | ⟨i, hil, hi, hgi, hbf⟩
  · have hno : ∀ x ∈ q.items, givenB id turn x = false := by
      have := idxI_none' hi
      rwa [List.findIdx?_eq_none_iff] at this
    refine ⟨zQ, 6, .inl ⟨rfl, by rw [doneF_none hi]; simp [failF, refuse]⟩, fun S v w hS hv => ?_⟩
    refine (refDone_none v q.name q.limit id turn q.items hs.1 hno w (hv.sub fun b hb => ⟨hS b hb, rfl⟩)).mono ?_
    rintro e w' ⟨rfl, hb⟩
    exact ⟨none, 0, rfl, SliceI.nil _ _, hb⟩
  · refine ⟨⟨q.name, q.limit, q.items.eraseIdx i⟩, 0, .inr ⟨rfl, by rw [doneF_some hi]; simp [failF]⟩, fun S v w hS hv => ?_⟩
    refine (refDone_okS S v q.name q.limit id turn q.items hs.1 i hil hgi hbf w hS hv).mono ?_
    rintro e w' ⟨v', rfl, hv', hb⟩
    obtain ⟨a, c, rfl⟩ := hv'.shp
    exact ⟨a, c, rfl, hv', hb⟩

/-- tgref1.Put, in one form. -/
theorem put_one (h : HD) (k : Nat) (q : QD) (n : ND) (hs : smallI q.items) : ∃ (q' : QD) (en : Int), ((en = 8 ∧ failF (putF h k q n) = refuse 8) ∨ (en = 0 ∧ failF (putF h k q n) = (⟨h.queues.set k q', h.next + 1⟩, [putE q.name h.next n], 0))) ∧
    ∀ (S : Nat → Prop) (v pv bv : Value) (w : World), (∀ b, S b → b < w.heap.size) → SliceI S w v q.items → NoteIs S w (pv, bv) n → Calls Try.prog 61 #[.agg #[.string q.name, .int .i64 q.limit, v], .int .i64 h.next, .agg #[pv, bv]] w (AnsQS S q' en w) := by
  by_cases hf : q.limit ≤ (q.items.length : Int)
  · refine ⟨zQ, 8, .inl ⟨rfl, by simp [putF, hf, failF, refuse]⟩, fun S v pv bv w hS hv hn => ?_⟩
    obtain ⟨pa, pc, rfl, -⟩ := SliceV.shape hn.1
    obtain ⟨ba, bc, rfl, -⟩ := SliceV.shape hn.2
    refine (refPut_full v _ _ q.name q.limit h.next q.items w (hv.sub fun b hb => ⟨hS b hb, rfl⟩) hf ⟨_, _, _, rfl⟩ ⟨_, _, _, rfl⟩).mono ?_
    rintro e w' ⟨rfl, hb⟩
    exact ⟨none, 0, rfl, SliceI.nil _ _, hb⟩
  · refine ⟨⟨q.name, q.limit, q.items ++ [newI h.next n]⟩, 0, .inr ⟨rfl, by simp [putF, hf, failF]⟩, fun S v pv bv w hS hv hn => ?_⟩
    refine (refPut_okS S v pv bv q.name q.limit h.next q.items hs.1 n w hS hv hn hf).mono ?_
    rintro e w' ⟨v', rfl, hv', hb⟩
    obtain ⟨a, c, rfl⟩ := hv'.shp
    exact ⟨a, c, rfl, hv', hb⟩
/-- The end of a face: its answer lies in its box; all else of w3 is as it was. -/
structure Fn (w3 wF : World) (rb : Nat) (x y : Value) : Prop where
  box : Blk wF rb [x, y]
  keep : ∀ b, b < w3.heap.size → b ≠ rb → wF.heap[b]? = w3.heap[b]?
  size : w3.heap.size ≤ wF.heap.size
  os : wF.os = w3.os
  tape : wF.tape = w3.tape
  output : wF.output = w3.output
theorem Fn.A {w3 : World} {rb : Nat} {x0 y0 : Value} (h : Blk w3 rb [x0, y0]) (x y : Value) (o : Obj) : Fn w3 (((w3.setCell ⟨rb, 0, none⟩ x).setCell ⟨rb, 1, none⟩ y).alloc o) rb x y := by
  refine ⟨((h.set 0 x).set 1 y).alloc o, fun b h1 h2 => ?_, by simp, rfl, rfl, rfl⟩
  rw [Below.heap_alloc _ _ _ (by simpa using h1), Below.heap_setCell _ _ _ _ h2, Below.heap_setCell _ _ _ _ h2]
theorem Fn.B {w3 : World} {rb : Nat} {x0 y0 : Value} (h : Blk w3 rb [x0, y0]) (x y : Value) : Fn w3 ((w3.setCell ⟨rb, 0, none⟩ x).setCell ⟨rb, 1, none⟩ y) rb x y := by
  refine ⟨(h.set 0 x).set 1 y, fun b h1 h2 => ?_, by simp, rfl, rfl, rfl⟩
  rw [Below.heap_setCell _ _ _ _ h2, Below.heap_setCell _ _ _ _ h2]
theorem Fn.below {w w3 wF : World} {rb : Nat} {x y : Value} (F : Fn w3 wF rb x y) (hrb : w.heap.size ≤ rb) (hB : Below w.heap.size w w3) : Below w.heap.size w wF :=
  ⟨F.os.trans hB.os, F.tape.trans hB.tape, F.output.trans hB.output, Nat.le_trans hB.size F.size, fun b hb => (F.keep b (Nat.lt_of_lt_of_le hb hB.size) (by omega)).trans (hB.block b hb)⟩
theorem Fn.ans {S T : Nat → Prop} {w w3 wF : World} {rb : Nat} {hd : HD} {es : List ED} {sa : Option Addr} {n sc : Nat} {ev : Value} (F : Fn w3 wF rb (.slice sa n sc) (.int .i64 hd.next)) (hrb : w.heap.size ≤ rb) (hB : Below w.heap.size w w3) (hQ : SliceQ T w3 (.slice sa n sc) hd.queues)
    (hT : ∀ b, T b → (S b ∨ w.heap.size ≤ b) ∧ b < w3.heap.size ∧ b ≠ rb) (hE : SliceE (SM S w wF) wF ev es) :
    AnsS S (hd, es, 0) w (.returned (.tuple #[.agg #[.slice sa n sc, .int .i64 hd.next], ev, .int .i64 0])) wF ∧ Below w.heap.size w wF := by
  obtain ⟨a', c', e⟩ := hQ.shp
  simp only [Value.slice.injEq] at e
  obtain ⟨rfl, rfl, rfl⟩ := e
  obtain ⟨ea, ec, rfl⟩ := hE.shp
  have hz := F.size
  exact ⟨⟨sa, sc, ea, ec, rfl, hQ.sub fun b hb => ⟨(hT b hb).1.imp (fun h => h) (fun h => ⟨h, by have := (hT b hb).2.1; omega⟩), F.keep b (hT b hb).2.1 (hT b hb).2.2⟩, hE⟩, F.below hrb hB⟩
end Go.Proofs.Ytkddkpdfeeikhaa
