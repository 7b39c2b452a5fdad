/-
  SsDo; SsRefF; TickF; LateIn: texts laid together.
-/
import Derived.Test.YtkddkpdfeeikhaaSsTake2
import Derived.Test.YtkddkpdfeeikhaaSsPart
import Derived.Test.YtkddkpdfeeikhaaSsTagProofM09
import Derived.Deep.LoopGhost
/-
  answer, and Do: what is asked is done, and said.
-/
namespace Go.Proofs.Ytkddkpdfeeikhaa
open Go.RowKit
set_option linter.unusedVariables false
set_option linter.unusedSimpArgs false

attribute [local go_sem ↓] Go.wp_at_zero Go.wp_at_succ

/-- What an ask comes to. -/
def DK.answer (d : DK) (a : AD) (now : Int) : DK × SayD × Int :=
  if a.wrong = 0 then
    (if a.kind = 1 then (d, saySay 0, 0) else if a.kind = 5 ∨ a.kind = 6 then d.take a.kind a.queue now
      else if a.kind = 7 ∨ a.kind = 8 then ((d.part a.kind a.n).1, saySay (d.part a.kind a.n).2, 0)
      else ((d.write (changeF d.h a)).1, saySay (d.write (changeF d.h a)).2, 0))
  else (d, saySay a.wrong, 0)

/-- A desk that may be asked. -/
structure DK.okD (d : DK) (a : AD) (now : Int) : Prop where
  h : d.h.okH
  l : d.l.length ≤ 140737488355328
  ts : d.ts.length ≤ 3518437208832
  nx : 0 ≤ d.nx ∧ d.nx ≤ 1000000000
  now : 0 ≤ now ∧ now ≤ 1000000000
  tags : ∀ t ∈ d.ts, (tagF d.h a.kind t).2.2 = 0 → (∀ e ∈ (tagF d.h a.kind t).2.1, e.right) ∧ (tagF d.h a.kind t).2.1.length ≤ 4194304
  change : a.wrong = 0 → (changeF d.h a).2.2 = 0 → (∀ e ∈ (changeF d.h a).2.1, e.right) ∧ (changeF d.h a).2.1.length ≤ 4194304

/-- What stands in the midst of the answer. -/
structure AW (N : Nat → Prop) (D lo : Nat) (d : DK) (tv0 : Value) (w A W : World) : Prop where
  desk : ∃ hv lv tv, DeskIn (fun b => N b ∨ (w.heap.size ≤ b ∧ b < A.heap.size)) D lo d hv lv tv W
  bel : Below lo w W
  keep : ∀ b, b < w.heap.size → b ≠ D → tv0.ownBlock ≠ some b → W.heap[b]? = w.heap[b]?
  say : Blk W (w.heap.size + 1) [.int .i64 0, .int .i64 0, .int .i64 0, .int .i64 0, .slice none 0 0, .slice none 0 0]

theorem AW.on {N : Nat → Prop} {D lo : Nat} {d : DK} {tv0 : Value} {w A W W' : World} (H : AW N D lo d tv0 w A W) (hlo : lo ≤ w.heap.size) (hb : Below W.heap.size W W') : AW N D lo d tv0 w A W' := by
  obtain ⟨⟨hv, lv, tv, h1⟩, h2, h3, h4⟩ := H
  have hz := h2.size
  exact ⟨⟨hv, lv, tv, h1.on hb⟩, h2.trans (hb.mono (by omega)), fun b a1 a2 a3 => (hb.block b (by omega)).trans (h3 b a1 a2 a3), h4.below hb h4.lt⟩

theorem AW.fin {N : Nat → Prop} {D lo : Nat} {d : DK} {tv0 : Value} {w A W : World} (H : AW N D lo d tv0 w A W) (hlo : lo ≤ w.heap.size) (hA : w.heap.size + 1 < A.heap.size) (x0 x1 x2 x3 x4 x5 : Value) (k n m e er : Int) (nt : ND) (pa ba : Option Addr) (pc bc : Nat) (hn : NoteIs (fun b => b < W.heap.size ∧ b ≠ w.heap.size + 1 ∧ ¬ N b) W (.slice pa nt.props.length pc, .slice ba nt.body.length bc) nt) :
    SayAns N D lo tv0 (d, ⟨k, n, m, e, nt⟩, er) w (.returned (.tuple #[.agg #[.int .i64 k, .int .i64 n, .int .i64 m, .int .i64 e, .slice pa nt.props.length pc, .slice ba nt.body.length bc], .int .i64 er])) ((((((W.setCell ⟨w.heap.size + 1, 0, none⟩ x0).setCell ⟨w.heap.size + 1, 1, none⟩ x1).setCell ⟨w.heap.size + 1, 2, none⟩ x2).setCell ⟨w.heap.size + 1, 3, none⟩ x3).setCell ⟨w.heap.size + 1, 4, none⟩ x4).setCell ⟨w.heap.size + 1, 5, none⟩ x5) := by
  obtain ⟨⟨hv, lv, tv, h1⟩, h2, h3, h4⟩ := H
  exact ⟨pa, pc, ba, bc, rfl, say_end (n := nt) x0 x1 x2 x3 x4 x5 h1 ⟨by omega, hA⟩ hlo h2 tv0 h3 hn⟩

set_option maxRecDepth 100000 in
set_option maxHeartbeats 6400000 in
theorem answer_any (N : Nat → Prop) (D lo : Nat) (d : DK) (hv lv tv : Value) (a : AD) (pv bv : Value) (now : Int) (w : World) (H : DeskIn N D lo d hv lv tv w) (ok : d.okD a now) (hn : NoteIs (Under w.heap.size) w (pv, bv) a.note) (hq : a.queue.size ≤ maxLen) (hf : a.note.fitN) :
    Calls Try.prog 70 #[.pointer (some ⟨D, 0, none⟩), .agg #[.int .i64 a.kind, .string a.queue, .int .i64 a.n, pv, bv], .int .i64 now] w (SayAns N D lo tv (d.answer a now) w) := by
  obtain ⟨pa, pc, rfl, -⟩ := SliceV.shape hn.1
  obtain ⟨ba, bc, rfl, -⟩ := SliceV.shape hn.2
  obtain ⟨A, hA⟩ : ∃ A, A = (w.alloc (.cells #[.int .i64 a.kind, .string a.queue, .int .i64 a.n, .slice pa a.note.props.length pc, .slice ba a.note.body.length bc] 66)).alloc (.cells #[.int .i64 0, .int .i64 0, .int .i64 0, .int .i64 0, .slice none 0 0, .slice none 0 0] 69) := ⟨_, rfl⟩
  have hAz : w.heap.size + 2 = A.heap.size := by rw [hA]; simp
  have hAb : Below w.heap.size w A := by rw [hA]; exact (below_alloc _ _).alloc (by simp) _
  have HA0 : Hid (Blk A w.heap.size [.int .i64 a.kind, .string a.queue, .int .i64 a.n, .slice pa a.note.props.length pc, .slice ba a.note.body.length bc]) := by rw [hA]; exact (Blk.new _ _ _).alloc _
  have HA1 : Hid (Blk A (w.heap.size + 1) [.int .i64 0, .int .i64 0, .int .i64 0, .int .i64 0, .slice none 0 0, .slice none 0 0]) := by
    show Blk _ _ _
    rw [hA]
    have := Blk.new (w.alloc (.cells #[.int .i64 a.kind, .string a.queue, .int .i64 a.n, .slice pa a.note.props.length pc, .slice ba a.note.body.length bc] 66)) [.int .i64 0, .int .i64 0, .int .i64 0, .int .i64 0, .slice none 0 0, .slice none 0 0] 69
    simpa using this
  have hlo := Nat.le_trans H.lo (Nat.le_of_lt H.box.lt)
  have hDl := H.box.lt
  have HG : Hid (DeskIn (fun b => N b ∨ (w.heap.size ≤ b ∧ b < A.heap.size)) D lo d hv lv tv A ∧ lo ≤ w.heap.size ∧ w.heap.size + 1 < A.heap.size) := ⟨H.grow hAb, hlo, by omega⟩
  have HW0 : Hid (AW N D lo d tv w A A) := ⟨⟨_, _, _, HG.out.1⟩, hAb.mono hlo, fun b h _ _ => hAb.block b h, HA1.out⟩
  have HN : Hid (∀ W, Below A.heap.size A W → Blk W w.heap.size [.int .i64 a.kind, .string a.queue, .int .i64 a.n, .slice pa a.note.props.length pc, .slice ba a.note.body.length bc] ∧ NoteIs (Under W.heap.size) W (.slice pa a.note.props.length pc, .slice ba a.note.body.length bc) a.note) := by
    show ∀ W, Below A.heap.size A W → _
    intro W hW
    have h2 := hAb.trans (hW.mono (by omega))
    exact ⟨HA0.out.below hW HA0.out.lt, hn.sub fun b h => ⟨Nat.lt_of_lt_of_le h h2.size, h2.block b h⟩⟩
  have P67 : Hid (∀ W, Below A.heap.size A W → Calls Try.prog 67 #[.agg #[.int .i64 a.kind, .string a.queue, .int .i64 a.n, .slice pa a.note.props.length pc, .slice ba a.note.body.length bc]] W fun r w' => r = .returned (.int .i64 a.wrong) ∧ Below W.heap.size W w') := fun W hW => swrong_any a _ _ W hq (HN.out W hW).2 hf
  have PTK : Hid (∀ W, Below A.heap.size A W → Calls Try.prog 99 #[.pointer (some ⟨D, 0, none⟩), .agg #[.int .i64 a.kind, .string a.queue, .int .i64 a.n, .slice pa a.note.props.length pc, .slice ba a.note.body.length bc], .int .i64 now] W (SayAns (fun b => N b ∨ (w.heap.size ≤ b ∧ b < A.heap.size)) D lo tv (d.take a.kind a.queue now) W)) :=
    fun W hW => sstake_any (fun b => N b ∨ (w.heap.size ≤ b ∧ b < A.heap.size)) D lo d hv lv tv a.kind a.queue a.n _ _ now W (HG.out.1.on hW) ok.h ok.nx ok.now ok.ts
  have PPT : Hid (∀ W, Below A.heap.size A W → Calls Try.prog 100 #[.pointer (some ⟨D, 0, none⟩), .agg #[.int .i64 a.kind, .string a.queue, .int .i64 a.n, .slice pa a.note.props.length pc, .slice ba a.note.body.length bc]] W fun e w' => e = .returned (.int .i64 (d.part a.kind a.n).2) ∧ (∃ hv' lv' tv', DeskIn (fun b => N b ∨ (w.heap.size ≤ b ∧ b < A.heap.size)) D lo (d.part a.kind a.n).1 hv' lv' tv' w') ∧ Below lo W w' ∧ ∀ b, b < W.heap.size → b ≠ D → tv.ownBlock ≠ some b → w'.heap[b]? = W.heap[b]?) :=
    fun W hW => part_any (fun b => N b ∨ (w.heap.size ≤ b ∧ b < A.heap.size)) D lo d hv lv tv a.kind a.queue a.n _ _ W (HG.out.1.on hW) ok.l ok.h ok.ts ok.tags
  have PWR : Hid (a.wrong = 0 → ∀ W g, Below A.heap.size A W → Blk W g [.int .i64 a.kind, .string a.queue, .int .i64 a.n, .slice pa a.note.props.length pc, .slice ba a.note.body.length bc] → Calls Try.prog 92 #[.pointer (some ⟨D, 0, none⟩), .func (.func 122) #[] #[.pointer (some ⟨g, 0, none⟩)]] W fun e w' => e = .returned (.int .i64 (d.write (changeF d.h a)).2) ∧ (∃ hv' lv', DeskIn (fun b => N b ∨ (w.heap.size ≤ b ∧ b < A.heap.size)) D lo (d.write (changeF d.h a)).1 hv' lv' tv w') ∧ Below lo W w' ∧ ∀ b, b < W.heap.size → b ≠ D → w'.heap[b]? = W.heap[b]?) := by
    show a.wrong = 0 → _
    intro hw0 W g hW hg
    exact sswrite_any (fun b => N b ∨ (w.heap.size ≤ b ∧ b < A.heap.size)) D lo 122 [.pointer (some ⟨g, 0, none⟩)] d hv lv tv (changeF d.h a) W (HG.out.1.on hW) (change_does W.heap.size g a _ _ W d.h hg hg.lt (HN.out W hW).2 (Nat.le_refl _) ok.h hq hf) (ok.change hw0) ok.l
  have hDA : D < A.heap.size := HG.out.1.box.lt
  have HTB : Hid (∀ b, tv.ownBlock = some b → b < w.heap.size) := fun b h => (H.t.lt b h).2
  obtain ⟨ta, tc, e, -⟩ := own_shape H.t
  obtain ⟨RR, hRR⟩ : ∃ RR, RR = d.answer a now := ⟨_, rfl⟩
  have HRR : Hid (RR = d.answer a now) := hRR
  rw [← hRR]
  obtain ⟨kd, hkd⟩ : ∃ kd, kd = a.kind := ⟨_, rfl⟩
  have HKD : Hid (kd = a.kind) := hkd
  obtain ⟨wr, hwr⟩ : ∃ wr, wr = a.wrong := ⟨_, rfl⟩
  have HWRN : Hid (wr = a.wrong) := hwr
  rw [← hwr] at P67 PWR
  rw [← hkd] at HN HA0 P67 PTK PPT PWR
  rw [← hkd]
  rw [← hkd] at hA
  clear H ok hn hq hf hAb hAz hRR hkd hwr e
  obtain ⟨a0, a1, a2, a3, a4, a5, a6⟩ := (HN.out A (Below.refl _ _)).1.b5
  go_enter Try.func70, Try.ntmps70
  go_upto_region 1 with fail
  rw [← hA]
  clear hA
  go_upto_region 2 with (first
    | (go_at_call 67; refine (P67.out _ (Below.refl _ _)).mono ?_; rintro e w1 ⟨rfl, hb1⟩; have H1 : Hid (Below A.heap.size A w1) := hb1; clear hb1 a0 a1 a2 a3 a4 a5 a6; obtain ⟨a0, a1, a2, a3, a4, a5, a6⟩ := (HN.out w1 H1.out).1.b5)
    | fail)
  have HW1 : Hid (AW N D lo d tv w A w1) := HW0.out.on HG.out.2.1 H1.out
  by_cases hw0 : wr = 0
  case neg =>
    have eR : Hid (RR = (d, saySay wr, 0)) := by show RR = _; rw [HRR.out, DK.answer, if_neg (by rw [← HWRN.out]; exact hw0), ← HWRN.out]
    clear HRR PTK PPT PWR HKD HWRN
    go_wp2_with (first
      | (go_at_call 98; refine (sayOf_any wr _).mono ?_; rintro e w5 ⟨rfl, hb5⟩; have H5 : Hid (AW N D lo d tv w A w5) := HW1.out.on HG.out.2.1 hb5; obtain ⟨z0, z1, z2, z3, z4, z5, z6, z7⟩ := H5.out.say.b6; clear hb5)
      | fail)
    refine bodyPost_ret (v := .tuple #[.agg #[.int .i64 (sayE wr).1, .int .i64 0, .int .i64 0, .int .i64 (sayE wr).2, .slice none 0 0, .slice none 0 0], .int .i64 0]) (by simp [results, Try.results70, go_sem, *]; done) rfl ?_
    rw [eR.out]
    exact H5.out.fin HG.out.2.1 HG.out.2.2 _ _ _ _ _ _ _ _ _ _ _ noteN none none 0 0 (NoteIs.nil _ _)
  subst hw0
  have HRK : Hid (RR = if kd = 1 then (d, saySay 0, 0) else if kd = 5 ∨ kd = 6 then d.take kd a.queue now else if kd = 7 ∨ kd = 8 then ((d.part kd a.n).1, saySay (d.part kd a.n).2, 0) else ((d.write (changeF d.h a)).1, saySay (d.write (changeF d.h a)).2, 0)) := by
    show RR = _; rw [HRR.out, DK.answer, if_pos HWRN.out.symm, ← HKD.out]
  have PWR' := PWR.out rfl
  have PW : Hid (∀ W g, Below A.heap.size A W → Blk W g [.int .i64 kd, .string a.queue, .int .i64 a.n, .slice pa a.note.props.length pc, .slice ba a.note.body.length bc] → Calls Try.prog 92 #[.pointer (some ⟨D, 0, none⟩), .func (.func 122) #[] #[.pointer (some ⟨g, 0, none⟩)]] W fun e w' => e = .returned (.int .i64 (d.write (changeF d.h a)).2) ∧ (∃ hv' lv', DeskIn (fun b => N b ∨ (w.heap.size ≤ b ∧ b < A.heap.size)) D lo (d.write (changeF d.h a)).1 hv' lv' tv w') ∧ Below lo W w' ∧ ∀ b, b < W.heap.size → b ≠ D → w'.heap[b]? = W.heap[b]?) := PWR'
  clear HRR PWR PWR' HKD HWRN
  have m2 : w.heap.size + 1 ≠ D := by omega
  have HTS : Hid (tv.ownBlock ≠ some (w.heap.size + 1)) := fun e => by have := HTB.out _ e; omega
  by_cases k1 : kd = 1
  · have eR : Hid (RR = (d, saySay 0, 0)) := by show RR = _; rw [HRK.out, if_pos k1]
    clear HRK PTK PPT PW
    subst k1
    go_wp2_with (first
      | (go_at_call 98; refine (sayOf_any 0 _).mono ?_; rintro e w5 ⟨rfl, hb5⟩; have H5 : Hid (AW N D lo d tv w A w5) := HW1.out.on HG.out.2.1 hb5; obtain ⟨z0, z1, z2, z3, z4, z5, z6, z7⟩ := H5.out.say.b6; clear hb5)
      | fail)
    refine bodyPost_ret (v := .tuple #[.agg #[.int .i64 1, .int .i64 0, .int .i64 0, .int .i64 0, .slice none 0 0, .slice none 0 0], .int .i64 0]) (by simp [results, Try.results70, go_sem, sayE, *]; done) rfl ?_
    rw [eR.out]
    exact H5.out.fin HG.out.2.1 HG.out.2.2 _ _ _ _ _ _ _ _ _ _ _ noteN none none 0 0 (NoteIs.nil _ _)
  by_cases k56 : kd = 5 ∨ kd = 6
  · obtain ⟨T, hT⟩ : ∃ T, T = d.take kd a.queue now := ⟨_, rfl⟩
    have eR : Hid (RR = T) := by show RR = _; rw [HRK.out, if_neg k1, if_pos k56, hT]
    rw [← hT] at PTK
    clear HRK PPT PW hT
    obtain ⟨T1, ⟨sk, sn, sm, se, snt⟩, Te⟩ := T
    have PT : Hid (∀ W, Below A.heap.size A W → Calls Try.prog 99 #[.pointer (some ⟨D, 0, none⟩), .agg #[.int .i64 kd, .string a.queue, .int .i64 a.n, .slice pa a.note.props.length pc, .slice ba a.note.body.length bc], .int .i64 now] W (SayAns (fun b => N b ∨ (w.heap.size ≤ b ∧ b < A.heap.size)) D lo tv (T1, ⟨sk, sn, sm, se, snt⟩, Te) W)) := PTK.out
    clear PTK
    rcases k56 with k5 | k6
    · subst k5
      go_wp2_with (first
        | (go_at_call 99; refine (PT.out _ H1.out).mono ?_; rintro e w2 ⟨pa2, pc2, ba2, bc2, rfl, ⟨hv2, lv2, tv2, hd2, hn2⟩, hb2, hk2⟩; have H2 : Hid (AW N D lo T1 tv w A w2 ∧ NoteIs (fun b => b < w2.heap.size ∧ b ≠ w.heap.size + 1 ∧ ¬ N b) w2 (.slice pa2 snt.props.length pc2, .slice ba2 snt.body.length bc2) snt) := ⟨⟨⟨_, _, _, hd2⟩, HW1.out.bel.trans hb2, (fun b a1 a2 a3 => (hk2 b (Nat.lt_of_lt_of_le a1 HW1.out.bel.size) a2 a3).trans (HW1.out.keep b a1 a2 a3)), HW1.out.say.same (hk2 _ HW1.out.say.lt m2 HTS.out)⟩, hn2.sub fun b h => ⟨⟨h.1, (fun e => h.2 (.inr ⟨by omega, by have := HG.out.2.2; omega⟩)), fun e => h.2 (.inl e)⟩, rfl⟩⟩; obtain ⟨z0, z1, z2, z3, z4, z5, z6, z7⟩ := H2.out.1.say.b6; clear hd2 hn2 hb2 hk2; simp only)
        | fail)
      refine bodyPost_ret (v := .tuple #[.agg #[.int .i64 sk, .int .i64 sn, .int .i64 sm, .int .i64 se, .slice pa2 snt.props.length pc2, .slice ba2 snt.body.length bc2], .int .i64 Te]) (by simp [results, Try.results70, go_sem, *]; done) rfl ?_
      rw [eR.out]
      exact H2.out.1.fin HG.out.2.1 HG.out.2.2 _ _ _ _ _ _ _ _ _ _ _ snt pa2 ba2 pc2 bc2 H2.out.2
    · subst k6
      go_wp2_with (first
        | (go_at_call 99; refine (PT.out _ H1.out).mono ?_; rintro e w2 ⟨pa2, pc2, ba2, bc2, rfl, ⟨hv2, lv2, tv2, hd2, hn2⟩, hb2, hk2⟩; have H2 : Hid (AW N D lo T1 tv w A w2 ∧ NoteIs (fun b => b < w2.heap.size ∧ b ≠ w.heap.size + 1 ∧ ¬ N b) w2 (.slice pa2 snt.props.length pc2, .slice ba2 snt.body.length bc2) snt) := ⟨⟨⟨_, _, _, hd2⟩, HW1.out.bel.trans hb2, (fun b a1 a2 a3 => (hk2 b (Nat.lt_of_lt_of_le a1 HW1.out.bel.size) a2 a3).trans (HW1.out.keep b a1 a2 a3)), HW1.out.say.same (hk2 _ HW1.out.say.lt m2 HTS.out)⟩, hn2.sub fun b h => ⟨⟨h.1, (fun e => h.2 (.inr ⟨by omega, by have := HG.out.2.2; omega⟩)), fun e => h.2 (.inl e)⟩, rfl⟩⟩; obtain ⟨z0, z1, z2, z3, z4, z5, z6, z7⟩ := H2.out.1.say.b6; clear hd2 hn2 hb2 hk2; simp only)
        | fail)
      refine bodyPost_ret (v := .tuple #[.agg #[.int .i64 sk, .int .i64 sn, .int .i64 sm, .int .i64 se, .slice pa2 snt.props.length pc2, .slice ba2 snt.body.length bc2], .int .i64 Te]) (by simp [results, Try.results70, go_sem, *]; done) rfl ?_
      rw [eR.out]
      exact H2.out.1.fin HG.out.2.1 HG.out.2.2 _ _ _ _ _ _ _ _ _ _ _ snt pa2 ba2 pc2 bc2 H2.out.2
  have n5 : ¬ kd = 5 := fun e => k56 (.inl e)
  have n6 : ¬ kd = 6 := fun e => k56 (.inr e)
  by_cases k78 : kd = 7 ∨ kd = 8
  · obtain ⟨T, hT⟩ : ∃ T, T = d.part kd a.n := ⟨_, rfl⟩
    have eR : Hid (RR = (T.1, saySay T.2, 0)) := by show RR = _; rw [HRK.out, if_neg k1, if_neg k56, if_pos k78, hT]
    rw [← hT] at PPT
    clear HRK PTK PW hT
    rcases k78 with k7 | k8
    · subst k7
      go_wp2_with (first
        | (go_at_call 100; refine (PPT.out _ H1.out).mono ?_; rintro e w2 ⟨rfl, ⟨hv2, lv2, tv2, hd2⟩, hb2, hk2⟩; have H2 : Hid (AW N D lo T.1 tv w A w2) := ⟨⟨_, _, _, hd2⟩, HW1.out.bel.trans hb2, (fun b a1 a2 a3 => (hk2 b (Nat.lt_of_lt_of_le a1 HW1.out.bel.size) a2 a3).trans (HW1.out.keep b a1 a2 a3)), HW1.out.say.same (hk2 _ HW1.out.say.lt m2 HTS.out)⟩; clear hd2 hb2 hk2)
        | (go_at_call 98; refine (sayOf_any T.2 _).mono ?_; rintro e w5 ⟨rfl, hb5⟩; have H5 : Hid (AW N D lo T.1 tv w A w5) := H2.out.on HG.out.2.1 hb5; obtain ⟨z0, z1, z2, z3, z4, z5, z6, z7⟩ := H5.out.say.b6; clear hb5)
        | fail)
      refine bodyPost_ret (v := .tuple #[.agg #[.int .i64 (sayE T.2).1, .int .i64 0, .int .i64 0, .int .i64 (sayE T.2).2, .slice none 0 0, .slice none 0 0], .int .i64 0]) (by simp [results, Try.results70, go_sem, *]; done) rfl ?_
      rw [eR.out]
      exact H5.out.fin HG.out.2.1 HG.out.2.2 _ _ _ _ _ _ _ _ _ _ _ noteN none none 0 0 (NoteIs.nil _ _)
    · subst k8
      go_wp2_with (first
        | (go_at_call 100; refine (PPT.out _ H1.out).mono ?_; rintro e w2 ⟨rfl, ⟨hv2, lv2, tv2, hd2⟩, hb2, hk2⟩; have H2 : Hid (AW N D lo T.1 tv w A w2) := ⟨⟨_, _, _, hd2⟩, HW1.out.bel.trans hb2, (fun b a1 a2 a3 => (hk2 b (Nat.lt_of_lt_of_le a1 HW1.out.bel.size) a2 a3).trans (HW1.out.keep b a1 a2 a3)), HW1.out.say.same (hk2 _ HW1.out.say.lt m2 HTS.out)⟩; clear hd2 hb2 hk2)
        | (go_at_call 98; refine (sayOf_any T.2 _).mono ?_; rintro e w5 ⟨rfl, hb5⟩; have H5 : Hid (AW N D lo T.1 tv w A w5) := H2.out.on HG.out.2.1 hb5; obtain ⟨z0, z1, z2, z3, z4, z5, z6, z7⟩ := H5.out.say.b6; clear hb5)
        | fail)
      refine bodyPost_ret (v := .tuple #[.agg #[.int .i64 (sayE T.2).1, .int .i64 0, .int .i64 0, .int .i64 (sayE T.2).2, .slice none 0 0, .slice none 0 0], .int .i64 0]) (by simp [results, Try.results70, go_sem, *]; done) rfl ?_
      rw [eR.out]
      exact H5.out.fin HG.out.2.1 HG.out.2.2 _ _ _ _ _ _ _ _ _ _ _ noteN none none 0 0 (NoteIs.nil _ _)
  have n7 : ¬ kd = 7 := fun e => k78 (.inl e)
  have n8 : ¬ kd = 8 := fun e => k78 (.inr e)
  obtain ⟨T, hT⟩ : ∃ T, T = d.write (changeF d.h a) := ⟨_, rfl⟩
  have eR : Hid (RR = (T.1, saySay T.2, 0)) := by show RR = _; rw [HRK.out, if_neg k1, if_neg k56, if_neg k78, hT]
  rw [← hT] at PW
  clear HRK PTK PPT hT k56 k78
  go_wp2_with (first
    | (go_at_call 101; refine (changeOf_any _ _ _ _ _ _).mono ?_; rintro e w2 ⟨rfl, hw2⟩; have H2 : Hid (Below A.heap.size A w2 ∧ Blk w2 w1.heap.size [.int .i64 kd, .string a.queue, .int .i64 a.n, .slice pa a.note.props.length pc, .slice ba a.note.body.length bc] ∧ AW N D lo d tv w A w2) := (by rw [hw2]; exact ⟨H1.out.trans ((below_alloc _ _).mono H1.out.size), Blk.new _ _ _, HW1.out.on HG.out.2.1 (below_alloc _ _)⟩); clear hw2)
    | (go_at_call 92; refine (PW.out _ _ H2.out.1 H2.out.2.1).mono ?_; rintro e w3 ⟨rfl, ⟨hv3, lv3, hd3⟩, hb3, hk3⟩; have H3 : Hid (AW N D lo T.1 tv w A w3) := ⟨⟨_, _, _, hd3⟩, H2.out.2.2.bel.trans hb3, (fun b a1 a2 a3 => (hk3 b (Nat.lt_of_lt_of_le a1 H2.out.2.2.bel.size) a2).trans (H2.out.2.2.keep b a1 a2 a3)), H2.out.2.2.say.same (hk3 _ H2.out.2.2.say.lt m2)⟩; clear hd3 hb3 hk3)
    | (go_at_call 98; refine (sayOf_any T.2 _).mono ?_; rintro e w5 ⟨rfl, hb5⟩; have H5 : Hid (AW N D lo T.1 tv w A w5) := H3.out.on HG.out.2.1 hb5; obtain ⟨z0, z1, z2, z3, z4, z5, z6, z7⟩ := H5.out.say.b6; clear hb5)
    | fail)
  refine bodyPost_ret (v := .tuple #[.agg #[.int .i64 (sayE T.2).1, .int .i64 0, .int .i64 0, .int .i64 (sayE T.2).2, .slice none 0 0, .slice none 0 0], .int .i64 0]) (by simp [results, Try.results70, go_sem, *]; done) rfl ?_
  rw [eR.out]
  exact H5.out.fin HG.out.2.1 HG.out.2.2 _ _ _ _ _ _ _ _ _ _ _ noteN none none 0 0 (NoteIs.nil _ _)
end Go.Proofs.Ytkddkpdfeeikhaa

/-
  What is refused changes nothing: plainly.
-/
namespace Go.Proofs.Ytkddkpdfeeikhaa
set_option linter.unusedVariables false
set_option linter.unusedSimpArgs false

end Go.Proofs.Ytkddkpdfeeikhaa

/-
  What Tick does, in plain terms; halls that are good stay so.
-/
namespace Go.Proofs.Ytkddkpdfeeikhaa
open Go.RowKit
set_option linter.unusedVariables false
set_option linter.unusedSimpArgs false

def IT.good (i : IT) : Prop := i.note.small ∧ i.fits ∧ i.tries ≤ 2
def QD.good (q : QD) : Prop := q.limit ≤ 8 ∧ q.items.length ≤ 8 ∧ ∀ i ∈ q.items, i.good
def HD.good (M : Int) (h : HD) : Prop := h.queues.length ≤ 4 ∧ (0 ≤ h.next ∧ h.next ≤ M) ∧ ∀ q ∈ h.queues, q.good

theorem QD.good.small {q : QD} (h : q.good) : smallI q.items := ⟨by have := h.2.1; omega, fun i hi => (h.2.2 i hi).1⟩
theorem HD.good.small {M : Int} {h : HD} (g : h.good M) : smallQ h.queues := ⟨by have := g.1; omega, fun q hq => (g.2.2 q hq).small⟩
theorem HD.good.fits {M : Int} {h : HD} (g : h.good M) : ∀ q ∈ h.queues, ∀ i ∈ q.items, i.fits := fun q hq i hi => ((g.2.2 q hq).2.2 i hi).2.1
theorem HD.good.mono {M M' : Int} {h : HD} (g : h.good M) (hM : M ≤ M') : h.good M' := ⟨g.1, ⟨g.2.1.1, by have := g.2.1.2; omega⟩, g.2.2⟩

theorem good_setQ {M : Int} {h : HD} (g : h.good M) (k : Nat) {q : QD} (hq : q.good) : (h.setQ k q).good M := by
  refine ⟨by simpa [HD.setQ] using g.1, g.2.1, fun x hx => ?_⟩
  rcases List.mem_or_eq_of_mem_set hx with hx | rfl
  · exact g.2.2 x hx
  · exact hq

theorem good_aside {M : Int} {h : HD} (g : h.good M) (k : Nat) {n : ND} (hn : n.small) : (asideF h k n).1.good (M + 1) := by
  unfold asideF
  split
  · exact g.mono (by omega)
  · split
    · exact g.mono (by omega)
    · split
      · exact g.mono (by omega)
      · rename_i j hj hne _ q hq
        have hmem : q ∈ h.queues := List.mem_of_getElem? hq
        have gq := g.2.2 q hmem
        unfold putF
        split
        · exact g.mono (by omega)
        · rename_i hl
          have := good_setQ (q := ⟨q.name, q.limit, q.items ++ [newI h.next n]⟩) g j ⟨gq.1, by have h1 := gq.1; simp; omega, fun i hi => by
            rw [List.mem_append, List.mem_singleton] at hi
            rcases hi with hi | rfl
            · exact gq.2.2 i hi
            · exact ⟨hn, ⟨by simp [newI], by simp [newI]⟩, by simp [newI]⟩⟩
          exact ⟨this.1, ⟨by have := g.2.1.1; simp; omega, by have := g.2.1.2; simp; omega⟩, this.2.2⟩

theorem good_back {M : Int} {h : HD} (g : h.good M) (k : Nat) {q : QD} (hq : q ∈ h.queues) (id turn : Int) : (backF h k q id turn).1.good (M + 1) := by
  have gq := g.2.2 q hq
  unfold backF
  split
  · exact g.mono (by omega)
  · split
    · exact g.mono (by omega)
    · rename_i i hi _ it hit
      have hmem : it ∈ q.items := List.mem_of_getElem? hit
      have gi := gq.2.2 it hmem
      have hil : i < q.items.length := (List.getElem?_eq_some_iff.1 hit).1
      split
      · rename_i ht
        refine (good_setQ (q := ⟨q.name, q.limit, q.items.set i (backI it)⟩) g k ⟨gq.1, by simpa using gq.2.1, fun x hx => ?_⟩).mono (by omega)
        rcases List.mem_or_eq_of_mem_set hx with hx | rfl
        · exact gq.2.2 x hx
        · refine ⟨gi.1, ⟨gi.2.1.1, ?_⟩, by have : (backI it).tries < 3 := ht; omega⟩
          have h1 := gi.2.1.2
          simp [backI] at ht ⊢
          omega
      · refine good_aside (good_setQ (q := ⟨q.name, q.limit, q.items.eraseIdx i⟩) g k ⟨gq.1, ?_, fun x hx => gq.2.2 x (List.mem_of_mem_eraseIdx hx)⟩) k gi.1
        have := List.length_eraseIdx_le q.items i
        exact Nat.le_trans this gq.2.1

/-- How many items of a queue are given. -/
def outs (h : HD) (k : Nat) : Nat := match h.queues[k]? with
  | none => 0
  | some q => (q.items.filter IT.out).length

theorem aside_at (h : HD) (k : Nat) (n : ND) : (asideF h k n).1.queues[k]? = h.queues[k]? ∧ (asideF h k n).1.queues.length = h.queues.length := by
  unfold asideF
  split
  · exact ⟨rfl, rfl⟩
  · split
    · exact ⟨rfl, rfl⟩
    · split
      · exact ⟨rfl, rfl⟩
      · unfold putF
        split
        · exact ⟨rfl, rfl⟩
        · rename_i hne _ _ _ _
          exact ⟨by simp [List.getElem?_set, hne], by simp⟩

theorem back_len (h : HD) (k : Nat) (q : QD) (id turn : Int) : (backF h k q id turn).1.queues.length = h.queues.length := by
  unfold backF
  split
  · rfl
  · split
    · rfl
    · split
      · simp [HD.setQ]
      · simp only [(aside_at _ _ _).2]; simp [HD.setQ]

theorem outs_erase {its : List IT} {i : Nat} (hi : i < its.length) (ho : its[i].out = true) : ((its.eraseIdx i).filter IT.out).length + 1 = (its.filter IT.out).length := by
  have e : its = its.take i ++ its[i] :: its.drop (i + 1) := by rw [List.getElem_cons_drop, List.take_append_drop]
  have e2 : its.eraseIdx i = its.take i ++ its.drop (i + 1) := List.eraseIdx_eq_take_drop_succ _ _
  rw [e2]
  conv => rhs; rw [e]
  simp only [List.filter_append, List.length_append, List.filter_cons, ho, if_true, List.length_cons]
  omega
theorem outs_set {its : List IT} {i : Nat} (hi : i < its.length) (ho : its[i].out = true) {x : IT} (hx : x.out = false) : ((its.set i x).filter IT.out).length + 1 = (its.filter IT.out).length := by
  have e : its = its.take i ++ its[i] :: its.drop (i + 1) := by rw [List.getElem_cons_drop, List.take_append_drop]
  have e2 : its.set i x = its.take i ++ x :: its.drop (i + 1) := by rw [List.set_eq_take_append_cons_drop, if_pos hi]
  rw [e2]
  conv => rhs; rw [e]
  simp only [List.filter_append, List.length_append, List.filter_cons, ho, hx, if_true, List.length_cons]
  simp
  omega

theorem given_isOut {id turn : Int} {x : IT} (h : givenB id turn x = true) : x.out = true := by
  unfold givenB at h
  simp at h
  exact h.1.1

theorem outs_back {h : HD} {k : Nat} {q : QD} (hq : h.queues[k]? = some q) {id turn : Int} {i : Nat} (hi : q.items.findIdx? (givenB id turn) = some i) : outs (backF h k q id turn).1 k + 1 = outs h k := by
  have hk : k < h.queues.length := (List.getElem?_eq_some_iff.1 hq).1
  obtain ⟨hil, hg, -⟩ := List.findIdx?_eq_some_iff_getElem.1 hi
  have ho := given_isOut hg
  have e1 : outs h k = (q.items.filter IT.out).length := by simp [outs, hq]
  have e0 : q.items[i]? = some q.items[i] := List.getElem?_eq_getElem hil
  rw [e1]
  unfold backF
  rw [hi]
  simp only [e0]
  split
  · rw [← outs_set hil ho (x := backI q.items[i]) rfl]
    simp [outs, HD.setQ, hk]
  · rw [← outs_erase hil ho]
    simp only [outs, (aside_at _ _ _).1]
    simp [HD.setQ, hk]

/-- All late items of a queue come back. -/
def lateF (now : Int) (k : Nat) : Nat → HD → HD × List ED
  | 0, h => (h, [])
  | n + 1, h => match h.queues[k]? with
    | none => (h, [])
    | some q => match q.items.findIdx? (lateB now) with
      | none => (h, [])
      | some i => match q.items[i]? with
        | none => (h, [])
        | some it => ((lateF now k n (backF h k q it.id it.turn).1).1, (backF h k q it.id it.turn).2.1 ++ (lateF now k n (backF h k q it.id it.turn).1).2)

theorem lateF_none {now : Int} {k n : Nat} {h : HD} {q : QD} (hq : h.queues[k]? = some q) (hi : idxI (lateB now) q.items = -1) : lateF now k n h = (h, []) := by
  cases n with
  | zero => rfl
  | succ n => simp [lateF, hq, idxI_none' hi]
theorem lateF_some {now : Int} {k n : Nat} {h : HD} {q : QD} {i : Nat} (hq : h.queues[k]? = some q) (hi : idxI (lateB now) q.items = (i : Int)) (hil : i < q.items.length) : lateF now k (n + 1) h = ((lateF now k n (backF h k q q.items[i].id q.items[i].turn).1).1, (backF h k q q.items[i].id q.items[i].turn).2.1 ++ (lateF now k n (backF h k q q.items[i].id q.items[i].turn).1).2) := by
  simp [lateF, hq, idxI_some hi, hil]

theorem late_given {now : Int} {q : QD} {i : Nat} (hi : idxI (lateB now) q.items = (i : Int)) (hil : i < q.items.length) : ∃ j, q.items.findIdx? (givenB q.items[i].id q.items[i].turn) = some j := by
  obtain ⟨_, hl, -⟩ := List.findIdx?_eq_some_iff_getElem.1 (idxI_some hi)
  cases hf : q.items.findIdx? (givenB q.items[i].id q.items[i].turn) with
  | some j => exact ⟨j, rfl⟩
  | none =>
    rw [List.findIdx?_eq_none_iff] at hf
    have := hf _ (List.getElem_mem hil)
    have ho : q.items[i].out = true := by simp [lateB] at hl; exact hl.1
    simp [givenB, ho] at this

theorem late_outs {now : Int} {h : HD} {k : Nat} {q : QD} {i : Nat} (hq : h.queues[k]? = some q) (hi : idxI (lateB now) q.items = (i : Int)) (hil : i < q.items.length) : outs (backF h k q q.items[i].id q.items[i].turn).1 k + 1 = outs h k := by
  obtain ⟨j, hj⟩ := late_given hi hil
  exact outs_back hq hj

end Go.Proofs.Ytkddkpdfeeikhaa

/-
  hall.lateIn has all late items of a queue come back.
-/
namespace Go.Proofs.Ytkddkpdfeeikhaa
open Go.RowKit
set_option linter.unusedVariables false
set_option linter.unusedSimpArgs false

attribute [local go_sem ↓] Go.wp_at_zero Go.wp_at_succ

theorem backF_es (h : HD) (k : Nat) (q : QD) (id turn : Int) : (backF h k q id turn).2.1.length ≤ 2 := by
  unfold backF
  split
  · simp
  · split
    · simp
    · split
      · simp
      · simp only [List.length_cons]
        exact Nat.succ_le_succ (asideF_len _ _ _)

/-- What holds in the loop of 'lateIn'. -/
structure LI (P0 : Nat → Prop) (hb : Nat) (w : World) (v : Value) (now : Int) (k N : Nat) (M : Int) (h0 : HD) (n : Nat) (h : HD) (L : QuL) (P T : Nat → Prop) (es : List ED) (tv : Value) (wr : World) : Prop where
  hall : HallIn P hb wr v L h.next
  map : L.map Prod.fst = h.queues
  up : ∀ b, P0 b → P b
  dn : ∀ b, P b → P0 b ∨ Made w.heap.size wr.heap.size b
  told : OwnT T wr tv es
  tm : ∀ b, T b → Made w.heap.size wr.heap.size b
  tp : ∀ b, T b → ¬ P b
  tb : ¬ T hb
  keep : Keep (fun b => b < w.heap.size ∧ v.ownBlock ≠ some b ∧ b ≠ hb) w wr
  nN : n ≤ N
  good : h.good (M + ((N - n : Nat) : Int))
  len : h.queues.length = h0.queues.length
  outs : outs h k ≤ n
  eq1 : (lateF now k n h).1 = (lateF now k N h0).1
  eq2 : es ++ (lateF now k n h).2 = (lateF now k N h0).2
  esl : es.length ≤ 2 * (N - n)

section
variable {P0 : Nat → Prop} {hb : Nat} {w : World} {v : Value} {now : Int} {k N : Nat} {M : Int} {h0 : HD} {n : Nat} {h : HD} {L : QuL} {P T : Nat → Prop} {es : List ED} {tv : Value} {wr : World}

theorem LI.below (H : LI P0 hb w v now k N M h0 n h L P T es tv wr) {W : World} (hB : Below wr.heap.size wr W) : LI P0 hb w v now k N M h0 n h L P T es tv W := by
  have hz := hB.size
  have hkz := H.keep.size
  exact ⟨H.hall.below hB, H.map, H.up, fun b hb' => (H.dn b hb').imp id (fun h => ⟨h.1, by have := h.2; omega⟩), H.told.on hz (fun b hb' => hB.block b (H.tm b hb').2), fun b hb' => ⟨(H.tm b hb').1, by have := (H.tm b hb').2; omega⟩, H.tp, H.tb, ⟨hB.os.trans H.keep.os, hB.tape.trans H.keep.tape, hB.output.trans H.keep.output, by omega, fun b hb' => (hB.block b (by omega)).trans (H.keep.block b hb')⟩, H.nN, H.good, H.len, H.outs, H.eq1, H.eq2, H.esl⟩

theorem LI.done (H : LI P0 hb w v now k N M h0 n h L P T es tv wr) {q : QD} (hq : h.queues[k]? = some q) (hi : idxI (lateB now) q.items = -1) : InAns P0 hb w v (lateF now k N h0).1 (lateF now k N h0).2 tv wr := by
  have e1 := H.eq1
  have e2 := H.eq2
  rw [lateF_none hq hi] at e1 e2
  simp only [List.append_nil] at e2
  rw [← e1, ← e2]
  exact ⟨L, P, H.map, H.up, H.dn, H.hall, H.told.slice.sub fun b hb' => ⟨⟨H.tm b hb', H.tp b hb'⟩, rfl⟩, H.keep⟩
theorem LI.step (H : LI P0 hb w v now k N M h0 (n + 1) h L P T es tv wr) {q : QD} {i : Nat} (hq : h.queues[k]? = some q) (hi : idxI (lateB now) q.items = (i : Int)) (hil : i < q.items.length) {it : IT} (hit : it = q.items[i]) {L2 : QuL} {P2 T2 : Nat → Prop} {tv2 : Value} {w2 w3 : World}
    (e2 : L2.map Prod.fst = (backF h k q it.id it.turn).1.queues) (h12 : ∀ b, P b → P2 b) (h2 : ∀ b, P2 b → P b ∨ Made wr.heap.size w2.heap.size b) (hw : w2.heap.size ≤ w3.heap.size) (hH : HallIn P2 hb w3 v L2 (backF h k q it.id it.turn).1.next) (hT : OwnT T2 w3 tv2 (es ++ (backF h k q it.id it.turn).2.1)) (hTs : ∀ b, T2 b → T b ∨ Made wr.heap.size w3.heap.size b) (hTP : ∀ b, T2 b → ¬ P2 b) (hTb : ¬ T2 hb) (hK : Keep (fun b => b < wr.heap.size ∧ v.ownBlock ≠ some b ∧ b ≠ hb ∧ ¬ T b) wr w3) :
    LI P0 hb w v now k N M h0 n (backF h k q it.id it.turn).1 L2 P2 T2 (es ++ (backF h k q it.id it.turn).2.1) tv2 w3 := by
  have hz := H.keep.size
  have hz3 := hK.size
  have hn := H.nN
  have ho := late_outs hq hi hil
  rw [← hit] at ho
  have hl := lateF_some (n := n) hq hi hil
  rw [← hit] at hl
  have e1 := H.eq1
  have e3 := H.eq2
  rw [hl] at e1 e3
  have hou := H.outs
  have hb2 := backF_es h k q it.id it.turn
  have hel := H.esl
  refine ⟨hH, e2, fun b hb' => h12 b (H.up b hb'), fun b hb' => ?_, hT, fun b hb' => ?_, hTP, hTb, ⟨hK.os.trans H.keep.os, hK.tape.trans H.keep.tape, hK.output.trans H.keep.output, by omega, fun b hb' => (hK.block b ⟨by omega, hb'.2.1, hb'.2.2, fun t => by have := (H.tm b t).1; omega⟩).trans (H.keep.block b hb')⟩, by omega, ?_, (back_len _ _ _ _ _).trans H.len, by omega, e1, by rw [List.append_assoc]; exact e3, by rw [List.length_append]; omega⟩
  · rcases h2 b hb' with h | h
    · rcases H.dn b h with h | h
      · exact .inl h
      · exact .inr ⟨h.1, by have := h.2; omega⟩
    · exact .inr ⟨by have := h.1; omega, by have := h.2; omega⟩
  · rcases hTs b hb' with h | h
    · have := H.tm b h
      exact ⟨this.1, by have := this.2; omega⟩
    · exact ⟨by have := h.1; omega, h.2⟩
  · exact (good_back H.good k (List.mem_of_getElem? hq) it.id it.turn).mono (by omega)
end

end Go.Proofs.Ytkddkpdfeeikhaa
