/-
  JFollowLaw; Open: texts laid together.
-/
import Derived.Test.YtkddkpdfeeikhaaJFollowsProofM42
import Derived.Test.YtkddkpdfeeikhaaJFollowsProofM43
import Derived.Test.YtkddkpdfeeikhaaJFollowsProofM44
import Derived.Test.YtkddkpdfeeikhaaRefHBack
import Derived.Test.YtkddkpdfeeikhaaJFollowsProofM49
import Derived.Test.YtkddkpdfeeikhaaRefHTick
import Derived.Test.YtkddkpdfeeikhaaJFollowsProofM37
import Derived.Test.YtkddkpdfeeikhaaJFollowsProofM21
import Derived.ProofKit
import Derived.Deep.Slices
import Derived.OpenShut
import Derived.Lib.SmallJoins
/-
  The law JournalFollows, of a hall, a note and a tag in memory, wherever tglaw5.alive tells true.
-/
namespace Go.Proofs.Ytkddkpdfeeikhaa
open Go.RowKit Go.WideMaps Go.Maps
set_option linter.unusedVariables false
set_option linter.unusedSimpArgs false

attribute [local go_sem ↓] Go.wp_at_zero Go.wp_at_succ

/-- A world behind some of the law's steps: all below okb is as it was, the bool is true. -/
structure RB (okb : Nat) (B W : World) : Prop where
  bel : Below okb B W
  ok : Blk W okb [.bool true]
  size : B.heap.size ≤ W.heap.size
theorem RB.call {okb : Nat} {B W W' : World} (H : RB okb B W) (hb : Below W.heap.size W W') : RB okb B W' :=
  ⟨H.bel.trans (hb.mono (Nat.le_of_lt H.ok.lt)), H.ok.below hb H.ok.lt, Nat.le_trans H.size hb.size⟩
theorem RB.fol {okb : Nat} {B W W' : World} (H : RB okb B W) (hb : Below okb W W') (ho : Blk W' okb [.bool true]) : RB okb B W' :=
  ⟨H.bel.trans hb, ho, Nat.le_trans H.size hb.size⟩

theorem sound_small2 {h : HD} (s : h.sound) : smallQ h.queues := s.good.small

theorem follows_any (S : Nat → Prop) (hb okb : Nat) (hv : Value) (h : HD) (xv : Value) (x : HD) (ev : Value) (es : List ED) (err : Int) (W0 w : World) (hH : Blk w hb [hv, .int .i64 h.next]) (hO : Blk w okb [.bool true]) (hS : ∀ b, S b → b < w.heap.size)
    (hQ : SliceQ S w hv h.queues) (hX : SliceQ (SM S W0 w) w xv x.queues) (hE : SliceE (SM S W0 w) w ev es) (hf : err = 0 → FolOk h x es) :
    Calls Try.prog 26 #[.agg #[xv, .int .i64 x.next], ev, .int .i64 err, .pointer (some ⟨hb, 0, none⟩), .pointer (some ⟨okb, 0, none⟩)] w fun e w' => e = .returned (.tuple #[]) ∧ Below okb w w' ∧ Blk w' okb [.bool true] := by
  have hu : ∀ b, SM S W0 w b → Under w.heap.size b := fun b hb => hb.elim (hS b) (·.2)
  by_cases he : err = 0
  · subst he
    have H := hf rfl
    exact follows_done hb okb hv h xv x ev es w hH hO (hQ.sub fun b hb => ⟨hS b hb, rfl⟩) (hX.sub fun b hb => ⟨hu b hb, rfl⟩) (hE.sub fun b hb => ⟨hu b hb, rfl⟩) H.small H
  · obtain ⟨a, c, rfl⟩ := hE.shp
    exact (follows_skip hb okb xv x.next _ es.length err w he).mono fun e w' ⟨h1, h2⟩ => ⟨h1, h2.mono (Nat.le_of_lt hO.lt), hO.below h2 hO.lt⟩

set_option maxRecDepth 100000 in
set_option maxHeartbeats 6400000 in
theorem jfollows_any (hal : ∀ W, Calls Try.prog 25 #[] W fun e w' => e = .returned (.bool true) ∧ Below W.heap.size W w') (v : Value) (h : HD) (name : ByteArray) (lim : Int) (pv bv : Value) (nt : ND) (tn : Int) (tq : ByteArray) (tid tturn now : Int) (w : World)
    (hv : SliceQ (Under w.heap.size) w v h.queues) (hname : ∀ q ∈ h.queues, q.name.size ≤ maxLen) (hfit : ∀ q ∈ h.queues, ∀ i ∈ q.items, i.note.fitN) (hs : name.size ≤ maxLen) (hnt : NoteIs (Under w.heap.size) w (pv, bv) nt) (hnf : nt.fitN) (htq : tq.size ≤ maxLen) :
    Calls Try.prog 4 #[.agg #[v, .int .i64 h.next], .string name, .int .i64 lim, .agg #[pv, bv], .agg #[.int .i64 tn, .string tq, .int .i64 tid, .int .i64 tturn], .int .i64 now] w fun e w' => e = .returned (.bool true) ∧ Below w.heap.size w w' := by
  have HV : Hid (SliceQ (Under w.heap.size) w v h.queues) := hv
  have HAL : Hid (∀ W, Calls Try.prog 25 #[] W fun e w' => e = .returned (.bool true) ∧ Below W.heap.size W w') := hal
  have HNF : Hid ((∀ q ∈ h.queues, q.name.size ≤ maxLen) ∧ (∀ q ∈ h.queues, ∀ i ∈ q.items, i.note.fitN) ∧ name.size ≤ maxLen ∧ nt.fitN ∧ tq.size ≤ maxLen) := ⟨hname, hfit, hs, hnf, htq⟩
  have HNT : Hid (NoteIs (Under w.heap.size) w (pv, bv) nt) := hnt
  obtain ⟨va, vc, rfl⟩ := hv.shp
  obtain ⟨pa, pc, rfl, -⟩ := SliceV.shape hnt.1
  obtain ⟨ba, bc, rfl, -⟩ := SliceV.shape hnt.2
  obtain ⟨n, hn⟩ : ∃ n, n = h.queues.length := ⟨_, rfl⟩
  obtain ⟨pn, hpn⟩ : ∃ pn, pn = nt.props.length := ⟨_, rfl⟩
  obtain ⟨bn, hbn⟩ : ∃ bn, bn = nt.body.length := ⟨_, rfl⟩
  rw [← hn] at HV
  rw [← hpn, ← hbn] at HNT
  rw [← hn, ← hpn, ← hbn]
  have HQN : Hid (n = h.queues.length) := hn
  clear hv hal hname hfit hs hnt hnf htq hn hpn hbn
  obtain ⟨A, hA⟩ : ∃ A, A = ((w.alloc (.cells #[.slice va n vc, .int .i64 h.next] 24)).alloc (.cells #[.slice pa pn pc, .slice ba bn bc] 28)).alloc (.cells #[.int .i64 tn, .string tq, .int .i64 tid, .int .i64 tturn] 50) := ⟨_, rfl⟩
  have hAz : A.heap.size = w.heap.size + 3 := by rw [hA]; simp
  have hAB : Below w.heap.size w A := by rw [hA]; exact ((below_alloc _ _).alloc (by simp) _).alloc (by simp; omega) _
  have hA0 : Blk A w.heap.size [.slice va n vc, .int .i64 h.next] := by rw [hA]; exact ((Blk.new _ _ _).alloc _).alloc _
  have hA1 : Blk A (w.heap.size + 1) [.slice pa pn pc, .slice ba bn bc] := by
    rw [hA]
    have := (Blk.new (w.alloc (.cells #[.slice va n vc, .int .i64 h.next] 24)) [.slice pa pn pc, .slice ba bn bc] 28).alloc (.cells #[.int .i64 tn, .string tq, .int .i64 tid, .int .i64 tturn] 50)
    simpa using this
  have hA2 : Blk A (w.heap.size + 2) [.int .i64 tn, .string tq, .int .i64 tid, .int .i64 tturn] := by
    rw [hA]
    have := Blk.new ((w.alloc (.cells #[.slice va n vc, .int .i64 h.next] 24)).alloc (.cells #[.slice pa pn pc, .slice ba bn bc] 28)) [.int .i64 tn, .string tq, .int .i64 tid, .int .i64 tturn] 50
    simpa using this
  have K : Hid (∀ c W, w.heap.size + 3 ≤ c → Below c A W → Below w.heap.size w W ∧ Blk W w.heap.size [.slice va n vc, .int .i64 h.next] ∧ Blk W (w.heap.size + 1) [.slice pa pn pc, .slice ba bn bc] ∧ Blk W (w.heap.size + 2) [.int .i64 tn, .string tq, .int .i64 tid, .int .i64 tturn] ∧ SliceQ (Under w.heap.size) W (.slice va n vc) h.queues ∧ NoteIs (Under w.heap.size) W (.slice pa pn pc, .slice ba bn bc) nt ∧ w.heap.size + 3 ≤ W.heap.size) := by
    show ∀ c W, _ → _ → _
    intro c W hc hW
    have hz := hW.size
    have hB : Below w.heap.size w W := hAB.trans (hW.mono (by omega))
    exact ⟨hB, hA0.below hW (by omega), hA1.below hW (by omega), hA2.below hW (by omega), HV.out.sub fun b hb => ⟨hb, hB.block b hb⟩, HNT.out.sub fun b hb => ⟨hb, hB.block b hb⟩, by omega⟩
  have K0 : Hid (Below w.heap.size w A) := hAB
  clear hA1 hA2 hA0 hAB
  by_cases hnow : 0 ≤ now ∧ now ≤ 1000000
  case neg =>
    go_enter Try.func4, Try.ntmps4
    go_upto_region 1 with fail
    rw [← hA]
    clear hA
    go_upto_region 3 with (go_at_call 25; refine (HAL.out A).mono ?_; rintro r w1 ⟨rfl, hb1⟩; have HB1 : Hid (Below A.heap.size A w1) := hb1; obtain ⟨c0, c1, c2, c3⟩ := (K.out _ w1 (by omega) hb1).2.1.b2; clear hb1)
    go_wp2_with ((go_at_call 19; refine (rightH_any _ h _ ((K.out _ w1 (by omega) HB1.out).2.2.2.2.1.sub fun b hb => ⟨by have := (K.out _ w1 (by omega) HB1.out).2.2.2.2.2.2; have : b < w.heap.size := hb; show b < _; omega, rfl⟩) HNF.out.1 HNF.out.2.1).mono ?_; rintro r w2 ⟨rb, rfl, hrt, hb2⟩; have HB2 : Hid (Below A.heap.size A w2) := HB1.out.trans (hb2.mono HB1.out.size); clear hb2 hrt))
    all_goals first
      | (go_ret; exact ⟨rfl, (K.out _ w2 (by omega) HB2.out).1⟩)
      | (exfalso; simp_all; omega)
  obtain ⟨hn0, hn1⟩ := hnow
  have hn2 : ¬ now < 0 := by omega
  have hn3 : ¬ 1000000 < now := by omega
  go_enter Try.func4, Try.ntmps4
  go_upto_region 1 with fail
  rw [← hA]
  clear hA
  go_upto_region 3 with (go_at_call 25; refine (HAL.out A).mono ?_; rintro r w1 ⟨rfl, hb1⟩; have HB1 : Hid (Below A.heap.size A w1) := hb1; obtain ⟨c0, c1, c2, c3⟩ := (K.out _ w1 (by omega) hb1).2.1.b2; clear hb1)
  go_wp2_with ((go_at_call 19; refine (rightH_any _ h _ ((K.out _ w1 (by omega) HB1.out).2.2.2.2.1.sub fun b hb => ⟨by have := (K.out _ w1 (by omega) HB1.out).2.2.2.2.2.2; have : b < w.heap.size := hb; show b < _; omega, rfl⟩) HNF.out.1 HNF.out.2.1).mono ?_; rintro r w2 ⟨rb, rfl, hrt, hb2⟩; have HB2 : Hid (Below A.heap.size A w2) := HB1.out.trans (hb2.mono HB1.out.size); have HRT : Hid (rb = true → h.sound) := hrt; obtain ⟨d0, d1, d2, d3⟩ := (K.out _ w2 (by omega) HB2.out).2.1.b2; clear hb2 hrt))
  · have HS : Hid h.sound := HRT.out (by first | assumption | simp_all)
    obtain ⟨okb, hokb⟩ : ∃ okb, okb = w2.heap.size := ⟨_, rfl⟩
    obtain ⟨B, hB⟩ : ∃ B, B = w2.alloc (.cells #[.bool true] 4) := ⟨_, rfl⟩
    have HB0 : Hid (RB okb B B ∧ Below A.heap.size A B ∧ w.heap.size + 3 ≤ okb) := by
      have hz := HB2.out.size
      refine ⟨⟨Below.refl _ _, by rw [hB, hokb]; exact Blk.new _ _ _, Nat.le_refl _⟩, ?_, by omega⟩
      rw [hB]
      exact HB2.out.alloc HB2.out.size _
    rw [← hB, ← hokb]
    clear hB hokb d0 d1 d2 d3 c0 c1 c2 c3
    have HK : Hid (∀ W, RB okb B W → Below w.heap.size w W ∧ Blk W w.heap.size [.slice va n vc, .int .i64 h.next] ∧ Blk W (w.heap.size + 1) [.slice pa pn pc, .slice ba bn bc] ∧ Blk W (w.heap.size + 2) [.int .i64 tn, .string tq, .int .i64 tid, .int .i64 tturn] ∧ SliceQ (Under w.heap.size) W (.slice va n vc) h.queues ∧ NoteIs (Under w.heap.size) W (.slice pa pn pc, .slice ba bn bc) nt ∧ w.heap.size + 3 ≤ W.heap.size ∧ (∀ b, Under w.heap.size b → b < W.heap.size)) := by
      show ∀ W, RB okb B W → _
      intro W hW
      obtain ⟨h1, h2, h3, h4, h5, h6, h7⟩ := K.out A.heap.size W (by omega) (HB0.out.2.1.trans (hW.bel.mono (by have := HB0.out.2.2; omega)))
      exact ⟨h1, h2, h3, h4, h5, h6, h7, fun b hb => by have : b < w.heap.size := hb; omega⟩
    have HFOL : Hid (∀ (W0 W : World) (xv : Value) (x : HD) (ev : Value) (es : List ED) (err : Int), RB okb B W → SliceQ (SM (Under w.heap.size) W0 W) W xv x.queues → SliceE (SM (Under w.heap.size) W0 W) W ev es → (err = 0 → FolOk h x es) → Calls Try.prog 26 #[.agg #[xv, .int .i64 x.next], ev, .int .i64 err, .pointer (some ⟨w.heap.size, 0, none⟩), .pointer (some ⟨okb, 0, none⟩)] W fun e w' => e = .returned (.tuple #[]) ∧ RB okb B w') := by
      show ∀ (W0 W : World) (xv : Value) (x : HD) (ev : Value) (es : List ED) (err : Int), RB okb B W → _
      intro W0 W xv x ev es err hW hq he hf
      have hk := HK.out W hW
      exact (follows_any _ _ okb _ h xv x ev es err W0 W hk.2.1 hW.ok hk.2.2.2.2.2.2.2 hk.2.2.2.2.1 hq he hf).mono fun e w' ⟨h1, h2, h3⟩ => ⟨h1, hW.fol h2 h3⟩
    obtain ⟨r1, hr1⟩ : ∃ r1, r1 = makeF h name lim := ⟨_, rfl⟩
    have HF1 : Hid (r1.2.2 = 0 → FolOk h r1.1 r1.2.1) := by
      show r1.2.2 = 0 → _
      rw [hr1]
      exact fol_make HS.out name lim HNF.out.2.2.1
    have HC1 : Hid (∀ W, RB okb B W → Calls Try.prog 28 #[.agg #[.slice va n vc, .int .i64 h.next], .string name, .int .i64 lim] W fun e w' => AnsS (Under w.heap.size) r1 W e w' ∧ RB okb B w') := by
      show ∀ W, RB okb B W → _
      intro W hW
      have hk := HK.out W hW
      have hsm := sound_small2 HS.out
      have hnx : 0 ≤ h.next ∧ h.next ≤ 1000000000 := ⟨HS.out.2.1.1, by have := HS.out.2.1.2; omega⟩
      rw [hr1]
      exact (refMake_any _ _ h name lim W hk.2.2.2.2.2.2.2 hk.2.2.2.2.1 hsm.1 HNF.out.2.2.1).mono fun e w' ⟨h1, h2⟩ => ⟨h1, hW.call h2⟩
    clear hr1
    obtain ⟨r2, hr2⟩ : ∃ r2, r2 = faceF h name (fun k q => dropF h k q) := ⟨_, rfl⟩
    have HF2 : Hid (r2.2.2 = 0 → FolOk h r2.1 r2.2.1) := by
      show r2.2.2 = 0 → _
      rw [hr2]
      exact fol_drop HS.out name
    have HC2 : Hid (∀ W, RB okb B W → Calls Try.prog 29 #[.agg #[.slice va n vc, .int .i64 h.next], .string name] W fun e w' => AnsS (Under w.heap.size) r2 W e w' ∧ RB okb B w') := by
      show ∀ W, RB okb B W → _
      intro W hW
      have hk := HK.out W hW
      have hsm := sound_small2 HS.out
      have hnx : 0 ≤ h.next ∧ h.next ≤ 1000000000 := ⟨HS.out.2.1.1, by have := HS.out.2.1.2; omega⟩
      rw [hr2]
      exact (refDrop_any _ _ h name W hk.2.2.2.2.2.2.2 hk.2.2.2.2.1 hsm.1).mono fun e w' ⟨h1, h2⟩ => ⟨h1, hW.call h2⟩
    clear hr2
    obtain ⟨r3, hr3⟩ : ∃ r3, r3 = hallPutF h name nt := ⟨_, rfl⟩
    have HF3 : Hid (r3.2.2 = 0 → FolOk h r3.1 r3.2.1) := by
      show r3.2.2 = 0 → _
      rw [hr3]
      exact fol_hput HS.out name nt
    have HC3 : Hid (∀ W, RB okb B W → Calls Try.prog 30 #[.agg #[.slice va n vc, .int .i64 h.next], .string name, .agg #[.slice pa pn pc, .slice ba bn bc]] W fun e w' => AnsS (Under w.heap.size) r3 W e w' ∧ RB okb B w') := by
      show ∀ W, RB okb B W → _
      intro W hW
      have hk := HK.out W hW
      have hsm := sound_small2 HS.out
      have hnx : 0 ≤ h.next ∧ h.next ≤ 1000000000 := ⟨HS.out.2.1.1, by have := HS.out.2.1.2; omega⟩
      rw [hr3]
      exact (refHallPut_any _ _ h name _ _ nt W hk.2.2.2.2.2.2.2 hk.2.2.2.2.1 hsm hnx hk.2.2.2.2.2.1 HNF.out.2.2.2.1).mono fun e w' ⟨h1, h2⟩ => ⟨h1, hW.call h2⟩
    clear hr3
    obtain ⟨r4, hr4⟩ : ∃ r4, r4 = faceF h tq (fun k q => doneF h k q tid tturn) := ⟨_, rfl⟩
    have HF4 : Hid (r4.2.2 = 0 → FolOk h r4.1 r4.2.1) := by
      show r4.2.2 = 0 → _
      rw [hr4]
      exact fol_done HS.out tq tid tturn
    have HC4 : Hid (∀ W, RB okb B W → Calls Try.prog 31 #[.agg #[.slice va n vc, .int .i64 h.next], .agg #[.int .i64 tn, .string tq, .int .i64 tid, .int .i64 tturn]] W fun e w' => AnsS (Under w.heap.size) r4 W e w' ∧ RB okb B w') := by
      show ∀ W, RB okb B W → _
      intro W hW
      have hk := HK.out W hW
      have hsm := sound_small2 HS.out
      have hnx : 0 ≤ h.next ∧ h.next ≤ 1000000000 := ⟨HS.out.2.1.1, by have := HS.out.2.1.2; omega⟩
      rw [hr4]
      exact (refHallDone_any _ _ h tn tq tid tturn W hk.2.2.2.2.2.2.2 hk.2.2.2.2.1 hsm).mono fun e w' ⟨h1, h2⟩ => ⟨h1, hW.call h2⟩
    clear hr4
    obtain ⟨r5, hr5⟩ : ∃ r5, r5 = faceF h tq (fun k q => backF h k q tid tturn) := ⟨_, rfl⟩
    have HF5 : Hid (r5.2.2 = 0 → FolOk h r5.1 r5.2.1) := by
      show r5.2.2 = 0 → _
      rw [hr5]
      exact fol_hback HS.out tq tid tturn
    have HC5 : Hid (∀ W, RB okb B W → Calls Try.prog 32 #[.agg #[.slice va n vc, .int .i64 h.next], .agg #[.int .i64 tn, .string tq, .int .i64 tid, .int .i64 tturn]] W fun e w' => AnsS (Under w.heap.size) r5 W e w' ∧ RB okb B w') := by
      show ∀ W, RB okb B W → _
      intro W hW
      have hk := HK.out W hW
      have hsm := sound_small2 HS.out
      have hnx : 0 ≤ h.next ∧ h.next ≤ 1000000000 := ⟨HS.out.2.1.1, by have := HS.out.2.1.2; omega⟩
      rw [hr5]
      exact (refHallBack_any _ _ h tn tq tid tturn W hk.2.2.2.2.2.2.2 hk.2.2.2.2.1 hsm HS.out.good.fits hnx (fun q hq i hi => ⟨(sound_tok HS.out).right q hq i hi, ND.wrong_fit ((sound_tok HS.out).right q hq i hi)⟩)).mono fun e w' ⟨h1, h2⟩ => ⟨h1, hW.call h2⟩
    clear hr5
    obtain ⟨r6, hr6⟩ : ∃ r6, r6 = faceF h name (fun k q => purgeF h k q) := ⟨_, rfl⟩
    have HF6 : Hid (r6.2.2 = 0 → FolOk h r6.1 r6.2.1) := by
      show r6.2.2 = 0 → _
      rw [hr6]
      exact fol_purge HS.out name
    have HC6 : Hid (∀ W, RB okb B W → Calls Try.prog 33 #[.agg #[.slice va n vc, .int .i64 h.next], .string name] W fun e w' => AnsS (Under w.heap.size) r6 W e w' ∧ RB okb B w') := by
      show ∀ W, RB okb B W → _
      intro W hW
      have hk := HK.out W hW
      have hsm := sound_small2 HS.out
      have hnx : 0 ≤ h.next ∧ h.next ≤ 1000000000 := ⟨HS.out.2.1.1, by have := HS.out.2.1.2; omega⟩
      rw [hr6]
      exact (refHallPurge_any _ _ h name W hk.2.2.2.2.2.2.2 hk.2.2.2.2.1 hsm).mono fun e w' ⟨h1, h2⟩ => ⟨h1, hW.call h2⟩
    clear hr6
    obtain ⟨r7, hr7⟩ : ∃ r7, r7 = tickF now h.queues.length 0 h := ⟨_, rfl⟩
    have HF7 : Hid (FolOk h r7.1 r7.2) := by
      rw [hr7]
      exact fol_tick HS.out now
    have HC7 : Hid (∀ W, RB okb B W → Calls Try.prog 34 #[.agg #[.slice va n vc, .int .i64 h.next], .int .i64 now] W fun e w' => AnsSE (Under w.heap.size) r7 W e w' ∧ RB okb B w') := by
      show ∀ W, RB okb B W → _
      intro W hW
      have hk := HK.out W hW
      rw [hr7]
      exact (refHallTick_any _ _ h now 1000000 (by omega) _ (sound_tok HS.out) (fun k hk => (HS.out.2.2 k hk).2) W hk.2.2.2.2.2.2.2 hk.2.2.2.2.1).mono fun e w' ⟨h1, h2⟩ => ⟨h1, hW.call h2⟩
    clear hr7
    clear HNF HNT HV HB1 HB2 HAL HRT K K0 HQN HS
    have HR0 : Hid (RB okb B B) := HB0.out.1
    refine (HC1.out B HR0.out).mono ?_
    rintro e V1 ⟨⟨xa1, xc1, ea1, ec1, rfl, hq, he⟩, hR⟩
    have HX1 : Hid (SliceQ (SM (Under w.heap.size) B V1) V1 (.slice xa1 r1.1.queues.length xc1) r1.1.queues ∧ SliceE (SM (Under w.heap.size) B V1) V1 (.slice ea1 r1.2.1.length ec1) r1.2.1 ∧ RB okb B V1) := ⟨hq, he, hR⟩
    clear hq he hR
    go_upto_region 8 with (go_at_call 26; refine (HFOL.out B V1 _ r1.1 _ r1.2.1 _ HX1.out.2.2 HX1.out.1 HX1.out.2.1 HF1.out).mono ?_; rintro e W1 ⟨rfl, hR⟩; have HR1 : Hid (RB okb B W1) := hR; obtain ⟨c0, c1, c2, c3⟩ := (HK.out _ hR).2.1.b2; obtain ⟨m0, m1, m2, m3⟩ := (HK.out _ hR).2.2.1.b2; obtain ⟨t0, t1, t2, t3, t4, t5⟩ := (HK.out _ hR).2.2.2.1.b4; clear hR)
    clear HC1 HF1 HX1
    clear c0 c1 c2 c3 m0 m1 m2 m3 t0 t1 t2 t3 t4 t5
    obtain ⟨c0, c1, c2, c3⟩ := (HK.out _ HR1.out).2.1.b2; obtain ⟨m0, m1, m2, m3⟩ := (HK.out _ HR1.out).2.2.1.b2; obtain ⟨t0, t1, t2, t3, t4, t5⟩ := (HK.out _ HR1.out).2.2.2.1.b4
    go_upto_region 9 with (first
      | (go_at_call 29; refine (HC2.out _ HR1.out).mono ?_; rintro e V2 ⟨⟨xa2, xc2, ea2, ec2, rfl, hq, he⟩, hR⟩; have HX2 : Hid (SliceQ (SM (Under w.heap.size) W1 V2) V2 (.slice xa2 r2.1.queues.length xc2) r2.1.queues ∧ SliceE (SM (Under w.heap.size) W1 V2) V2 (.slice ea2 r2.2.1.length ec2) r2.2.1 ∧ RB okb B V2) := ⟨hq, he, hR⟩; clear hq he hR)
      | (go_at_call 26; refine (HFOL.out W1 V2 _ r2.1 _ r2.2.1 _ HX2.out.2.2 HX2.out.1 HX2.out.2.1 HF2.out).mono ?_; rintro e W2 ⟨rfl, hR⟩; have HR2 : Hid (RB okb B W2) := hR; obtain ⟨c0, c1, c2, c3⟩ := (HK.out _ hR).2.1.b2; obtain ⟨m0, m1, m2, m3⟩ := (HK.out _ hR).2.2.1.b2; obtain ⟨t0, t1, t2, t3, t4, t5⟩ := (HK.out _ hR).2.2.2.1.b4; clear hR)
      | fail)
    clear HC2 HF2 HX2
    clear c0 c1 c2 c3 m0 m1 m2 m3 t0 t1 t2 t3 t4 t5
    obtain ⟨c0, c1, c2, c3⟩ := (HK.out _ HR2.out).2.1.b2; obtain ⟨m0, m1, m2, m3⟩ := (HK.out _ HR2.out).2.2.1.b2; obtain ⟨t0, t1, t2, t3, t4, t5⟩ := (HK.out _ HR2.out).2.2.2.1.b4
    go_upto_region 10 with (first
      | (go_at_call 30; refine (HC3.out _ HR2.out).mono ?_; rintro e V3 ⟨⟨xa3, xc3, ea3, ec3, rfl, hq, he⟩, hR⟩; have HX3 : Hid (SliceQ (SM (Under w.heap.size) W2 V3) V3 (.slice xa3 r3.1.queues.length xc3) r3.1.queues ∧ SliceE (SM (Under w.heap.size) W2 V3) V3 (.slice ea3 r3.2.1.length ec3) r3.2.1 ∧ RB okb B V3) := ⟨hq, he, hR⟩; clear hq he hR)
      | (go_at_call 26; refine (HFOL.out W2 V3 _ r3.1 _ r3.2.1 _ HX3.out.2.2 HX3.out.1 HX3.out.2.1 HF3.out).mono ?_; rintro e W3 ⟨rfl, hR⟩; have HR3 : Hid (RB okb B W3) := hR; obtain ⟨c0, c1, c2, c3⟩ := (HK.out _ hR).2.1.b2; obtain ⟨m0, m1, m2, m3⟩ := (HK.out _ hR).2.2.1.b2; obtain ⟨t0, t1, t2, t3, t4, t5⟩ := (HK.out _ hR).2.2.2.1.b4; clear hR)
      | fail)
    clear HC3 HF3 HX3
    clear c0 c1 c2 c3 m0 m1 m2 m3 t0 t1 t2 t3 t4 t5
    obtain ⟨c0, c1, c2, c3⟩ := (HK.out _ HR3.out).2.1.b2; obtain ⟨m0, m1, m2, m3⟩ := (HK.out _ HR3.out).2.2.1.b2; obtain ⟨t0, t1, t2, t3, t4, t5⟩ := (HK.out _ HR3.out).2.2.2.1.b4
    go_upto_region 11 with (first
      | (go_at_call 31; refine (HC4.out _ HR3.out).mono ?_; rintro e V4 ⟨⟨xa4, xc4, ea4, ec4, rfl, hq, he⟩, hR⟩; have HX4 : Hid (SliceQ (SM (Under w.heap.size) W3 V4) V4 (.slice xa4 r4.1.queues.length xc4) r4.1.queues ∧ SliceE (SM (Under w.heap.size) W3 V4) V4 (.slice ea4 r4.2.1.length ec4) r4.2.1 ∧ RB okb B V4) := ⟨hq, he, hR⟩; clear hq he hR)
      | (go_at_call 26; refine (HFOL.out W3 V4 _ r4.1 _ r4.2.1 _ HX4.out.2.2 HX4.out.1 HX4.out.2.1 HF4.out).mono ?_; rintro e W4 ⟨rfl, hR⟩; have HR4 : Hid (RB okb B W4) := hR; obtain ⟨c0, c1, c2, c3⟩ := (HK.out _ hR).2.1.b2; obtain ⟨m0, m1, m2, m3⟩ := (HK.out _ hR).2.2.1.b2; obtain ⟨t0, t1, t2, t3, t4, t5⟩ := (HK.out _ hR).2.2.2.1.b4; clear hR)
      | fail)
    clear HC4 HF4 HX4
    clear c0 c1 c2 c3 m0 m1 m2 m3 t0 t1 t2 t3 t4 t5
    obtain ⟨c0, c1, c2, c3⟩ := (HK.out _ HR4.out).2.1.b2; obtain ⟨m0, m1, m2, m3⟩ := (HK.out _ HR4.out).2.2.1.b2; obtain ⟨t0, t1, t2, t3, t4, t5⟩ := (HK.out _ HR4.out).2.2.2.1.b4
    go_upto_region 12 with (first
      | (go_at_call 32; refine (HC5.out _ HR4.out).mono ?_; rintro e V5 ⟨⟨xa5, xc5, ea5, ec5, rfl, hq, he⟩, hR⟩; have HX5 : Hid (SliceQ (SM (Under w.heap.size) W4 V5) V5 (.slice xa5 r5.1.queues.length xc5) r5.1.queues ∧ SliceE (SM (Under w.heap.size) W4 V5) V5 (.slice ea5 r5.2.1.length ec5) r5.2.1 ∧ RB okb B V5) := ⟨hq, he, hR⟩; clear hq he hR)
      | (go_at_call 26; refine (HFOL.out W4 V5 _ r5.1 _ r5.2.1 _ HX5.out.2.2 HX5.out.1 HX5.out.2.1 HF5.out).mono ?_; rintro e W5 ⟨rfl, hR⟩; have HR5 : Hid (RB okb B W5) := hR; obtain ⟨c0, c1, c2, c3⟩ := (HK.out _ hR).2.1.b2; obtain ⟨m0, m1, m2, m3⟩ := (HK.out _ hR).2.2.1.b2; obtain ⟨t0, t1, t2, t3, t4, t5⟩ := (HK.out _ hR).2.2.2.1.b4; clear hR)
      | fail)
    clear HC5 HF5 HX5
    clear c0 c1 c2 c3 m0 m1 m2 m3 t0 t1 t2 t3 t4 t5
    obtain ⟨c0, c1, c2, c3⟩ := (HK.out _ HR5.out).2.1.b2; obtain ⟨m0, m1, m2, m3⟩ := (HK.out _ HR5.out).2.2.1.b2; obtain ⟨t0, t1, t2, t3, t4, t5⟩ := (HK.out _ HR5.out).2.2.2.1.b4
    go_upto_region 13 with (first
      | (go_at_call 33; refine (HC6.out _ HR5.out).mono ?_; rintro e V6 ⟨⟨xa6, xc6, ea6, ec6, rfl, hq, he⟩, hR⟩; have HX6 : Hid (SliceQ (SM (Under w.heap.size) W5 V6) V6 (.slice xa6 r6.1.queues.length xc6) r6.1.queues ∧ SliceE (SM (Under w.heap.size) W5 V6) V6 (.slice ea6 r6.2.1.length ec6) r6.2.1 ∧ RB okb B V6) := ⟨hq, he, hR⟩; clear hq he hR)
      | (go_at_call 26; refine (HFOL.out W5 V6 _ r6.1 _ r6.2.1 _ HX6.out.2.2 HX6.out.1 HX6.out.2.1 HF6.out).mono ?_; rintro e W6 ⟨rfl, hR⟩; have HR6 : Hid (RB okb B W6) := hR; obtain ⟨c0, c1, c2, c3⟩ := (HK.out _ hR).2.1.b2; obtain ⟨m0, m1, m2, m3⟩ := (HK.out _ hR).2.2.1.b2; obtain ⟨t0, t1, t2, t3, t4, t5⟩ := (HK.out _ hR).2.2.2.1.b4; clear hR)
      | fail)
    clear HC6 HF6 HX6
    go_upto_region 14 with (go_at_call 34; refine (HC7.out _ HR6.out).mono ?_; rintro e V7 ⟨⟨xa7, xc7, ea7, ec7, rfl, hq, he⟩, hR⟩; have HX7 : Hid (SliceQ (SM (Under w.heap.size) W6 V7) V7 (.slice xa7 r7.1.queues.length xc7) r7.1.queues ∧ SliceE (SM (Under w.heap.size) W6 V7) V7 (.slice ea7 r7.2.length ec7) r7.2 ∧ RB okb B V7) := ⟨hq, he, hR⟩; clear hq he hR)
    have HX8 : Hid (∀ o, RB okb B (V7.alloc o) ∧ SliceQ (SM (Under w.heap.size) W6 (V7.alloc o)) (V7.alloc o) (.slice xa7 r7.1.queues.length xc7) r7.1.queues ∧ SliceE (SM (Under w.heap.size) W6 (V7.alloc o)) (V7.alloc o) (.slice ea7 r7.2.length ec7) r7.2) := by
      show ∀ o, _
      intro o
      have hb := below_alloc V7 o
      have hlt : ∀ b, SM (Under w.heap.size) W6 V7 b → SM (Under w.heap.size) W6 (V7.alloc o) b ∧ (V7.alloc o).heap[b]? = V7.heap[b]? := fun b hx => by
        have hx2 : b < V7.heap.size := hx.elim ((HK.out _ HX7.out.2.2).2.2.2.2.2.2.2 b) (·.2)
        exact ⟨hx.imp (fun h => h) (fun h => ⟨h.1, by simp; omega⟩), Below.heap_alloc _ _ _ hx2⟩
      exact ⟨HX7.out.2.2.call hb, HX7.out.1.sub hlt, HX7.out.2.1.sub hlt⟩
    go_wp2_with (go_at_call 26; refine (HFOL.out W6 _ _ r7.1 _ r7.2 0 (HX8.out _).1 (HX8.out _).2.1 (HX8.out _).2.2 (fun _ => HF7.out)).mono ?_; rintro e W7 ⟨rfl, hR⟩; have HR7 : Hid (RB okb B W7) := hR; obtain ⟨o0, o1, o2⟩ := hR.ok.b1; clear hR)
    go_ret
    exact ⟨rfl, (HK.out _ HR7.out).1⟩
  · go_ret
    exact ⟨rfl, (K.out _ w2 (by omega) HB2.out).1⟩
end Go.Proofs.Ytkddkpdfeeikhaa

/-
  What the form's reading of a note, and of a queue, says of memory.
-/
namespace Go.Proofs.Ytkddkpdfeeikhaa
open Go.ChangeShapes Go.WideShapes Go.ChangeAt Go.RowKit Go.Deep Go.Joins
set_option linter.unusedVariables false
set_option linter.unusedSimpArgs false

section
variable {H : Type} {enc : TypeId × Value → H} {W : World} {sp : Nat → Bool} {held : Bool}

theorem spot_of {w : World} {a : Addr} {v : Value} (h : w.cell? a = some v) : ∃ b off, a = ⟨b, off, none⟩ := by
  obtain ⟨b, off, spot⟩ := a
  have : spot = none := World.cell?_spot h
  subst this
  exact ⟨b, off, rfl⟩

theorem open_body (v : Value) (fuel : Nat) (x : DataW H × List MemPlace) (h : DataW.trod enc Try.prog W 0 sp held fuel 26 [v] = some x) :
    ∃ bs : List UInt8, SliceB (Under W.heap.size) W v bs := by
  rcases open_ints Try.underlying26 Try.underlying5 (by kernel_rfl) h with ⟨hcs, _⟩ | ⟨a, len, cap, zs, hcs, _, hl, hm, hz, hx, hcell, hwz⟩
  · simp only [List.cons.injEq, and_true] at hcs
    subst hcs
    exact ⟨[], SliceV.nil _ _⟩
  · simp only [List.cons.injEq, and_true] at hcs
    subst hcs
    have hlz : len ≤ zs.length := by rw [hz]; split <;> omega
    have hlen : ((zs.take len).map fun n => UInt8.ofNat n.toNat).length = len := by simp; omega
    refine ⟨(zs.take len).map fun n => UInt8.ofNat n.toNat, ⟨some a, cap, by rw [hlen], by rw [hlen]; exact hl, hm, fun h => by simp at h, fun i hi => ?_⟩⟩
    rw [u8s_len, hlen] at hi
    have h0 := hcell 0 (by omega)
    have e0 : a.add 0 = a := by cases a; simp [Addr.add]
    rw [e0] at h0
    obtain ⟨b, off, rfl⟩ := spot_of h0
    have hc := hcell i (by omega)
    rw [add_none] at hc
    refine ⟨b, off, rfl, World.block_lt_of_cell? W _ hc, ?_⟩
    rw [hc]
    have hbd := bounds_u8 (hwz zs[i] (List.getElem_mem _))
    have e1 : zs.getD i 0 = zs[i] := by simp [List.getD, List.getElem?_eq_getElem (show i < zs.length by omega)]
    rw [e1]
    simp [u8s]
    omega

theorem cells68 : Try.prog.cellsOf 98 = 4 := by kernel_rfl
theorem cells9 : Try.prog.cellsOf 9 = 1 := by kernel_rfl
theorem cells3 : Try.prog.cellsOf 3 = 1 := by kernel_rfl
theorem cells4 : Try.prog.cellsOf 4 = 1 := by kernel_rfl
theorem cells25 : Try.prog.cellsOf 76 = 3 := by kernel_rfl
theorem cells29 : Try.prog.cellsOf 26 = 1 := by kernel_rfl
theorem cells30 : Try.prog.cellsOf 25 = 1 := by kernel_rfl
theorem cells32 : Try.prog.cellsOf 28 = 2 := by kernel_rfl
theorem cells34 : Try.prog.cellsOf 78 = 7 := by kernel_rfl

set_option maxRecDepth 100000 in
theorem open_prop (fuel : Nat) (cs : List Value) (x : DataW H × List MemPlace) (h : DataW.trod enc Try.prog W 0 sp held fuel 98 cs = some x) :
    ∃ p : PD, cs = p.cells ∧ p.fits := by
  obtain ⟨xs, n, _, _, hlen, hxl, hfld⟩ := DataW.trod_struct Try.underlying98 h
  rw [cells68] at hlen
  have h0 := hfld 0 _ rfl
  have h1 := hfld 1 _ rfl
  have h2 := hfld 2 _ rfl
  have h3 := hfld 3 _ rfl
  clear hfld
  match cs, hlen, xs, hxl with
  | [v0, v1, v2, v3], _, [y0, y1, y2, y3], _ =>
    have g0 : DataW.trod enc Try.prog W 0 sp held n 9 [v0] = some y0 := by simpa [cells9] using h0
    have g1 : DataW.trod enc Try.prog W 0 sp held n 3 [v1] = some y1 := by simpa [cells3] using h1
    have g2 : DataW.trod enc Try.prog W 0 sp held n 3 [v2] = some y2 := by simpa [cells3] using h2
    have g3 : DataW.trod enc Try.prog W 0 sp held n 9 [v3] = some y3 := by simpa [cells9] using h3
    obtain ⟨k, e0, _, f0⟩ := DataW.trod_string Try.underlying9 g0
    obtain ⟨kd, e1, _, _⟩ := DataW.trod_int Try.underlying3 g1
    obtain ⟨nn, e2, _, _⟩ := DataW.trod_int Try.underlying3 g2
    obtain ⟨t, e3, _, f3⟩ := DataW.trod_string Try.underlying9 g3
    simp only [List.cons.injEq, and_true] at e0 e1 e2 e3
    subst e0 e1 e2 e3
    exact ⟨⟨k, kd, nn, t⟩, rfl, f0, f3⟩

/-- The cells of rows of one size, one behind the other. -/
theorem row_of {w : World} {a : Addr} {size len : Nat} (hs : 0 < size) (hl : 0 < len) (f : Nat → List Value) (hf : ∀ i, i < len → (f i).length = size ∧ ∀ j, j < size → w.cell? ((a.add (i * size)).add j) = (f i)[j]?) :
    RowAt (Under w.heap.size) w (some a) ((List.range len).flatMap f) := by
  have h0 := (hf 0 hl).2 0 hs
  obtain ⟨y, hy⟩ : ∃ y, (f 0)[0]? = some y := ⟨(f 0)[0]'(by rw [(hf 0 hl).1]; exact hs), List.getElem?_eq_getElem (by rw [(hf 0 hl).1]; exact hs)⟩
  rw [hy] at h0
  have ea : (a.add (0 * size)).add 0 = a := by cases a; simp [Addr.add]
  rw [ea] at h0
  obtain ⟨b, off, rfl⟩ := spot_of h0
  have key : ∀ m, m ≤ len → ∀ i (h : i < ((List.range m).flatMap f).length), w.cell? ⟨b, off + i, none⟩ = some ((List.range m).flatMap f)[i] ∧ ((List.range m).flatMap f).length = m * size := by
    intro m
    induction m with
    | zero => intro _ i h; simp at h
    | succ m ih =>
      intro hm i h
      have hlm : ((List.range m).flatMap f).length = m * size := by
        by_cases h0 : m = 0
        · subst h0; simp
        · have : 0 < ((List.range m).flatMap f).length := by
            obtain ⟨k, rfl⟩ : ∃ k, m = k + 1 := ⟨m - 1, by omega⟩
            rw [List.range_succ, List.flatMap_append]
            simp [(hf k (by omega)).1]; omega
          exact (ih (by omega) 0 this).2
      have e : (List.range (m + 1)).flatMap f = (List.range m).flatMap f ++ f m := by rw [List.range_succ, List.flatMap_append]; simp
      have hl2 : ((List.range (m + 1)).flatMap f).length = (m + 1) * size := by rw [e, List.length_append, hlm, (hf m (by omega)).1, Nat.add_mul]; simp
      refine ⟨?_, hl2⟩
      by_cases hi : i < m * size
      · have := (ih (by omega) i (by rw [hlm]; exact hi)).1
        rw [this]
        congr 1
        simp only [e]
        rw [List.getElem_append_left (by rw [hlm]; exact hi)]
      · have hi2 : i < m * size + size := by rw [hl2, Nat.add_mul] at h; omega
        have := (hf m (by omega)).2 (i - m * size) (by omega)
        rw [add_none, add_none, show off + m * size + (i - m * size) = off + i by omega] at this
        rw [this]
        simp only [e]
        rw [List.getElem_append_right (by rw [hlm]; omega), List.getElem?_eq_getElem (by rw [(hf m (by omega)).1]; omega)]
        simp only [hlm]
  intro i hi
  have := (key len (Nat.le_refl _) i hi).1
  exact ⟨b, off, rfl, World.block_lt_of_cell? w _ this, this⟩

theorem open_props (v : Value) (fuel : Nat) (x : DataW H × List MemPlace) (h : DataW.trod enc Try.prog W 0 sp held fuel 25 [v] = some x) :
    ∃ ps : List PD, SliceP (Under W.heap.size) W v ps ∧ (∀ p ∈ ps, p.fits) := by
  rcases open_slice Try.underlying25 h with ⟨hcs, _⟩ | ⟨a, len, cap, m, n, D, Pl, hcs, _, hl, hm, hmm, hx, hel⟩
  · simp only [List.cons.injEq, and_true] at hcs
    subst hcs
    exact ⟨[], SliceV.nil _ _, fun p hp => by simp at hp⟩
  · simp only [List.cons.injEq, and_true] at hcs
    subst hcs
    have hlm : len ≤ m := by rw [hmm]; split <;> omega
    rw [cells68] at hel
    have each : ∀ i, i < len → ∃ p : PD, (∀ j, j < 4 → W.cell? ((a.add (i * 4)).add j) = (p.cells)[j]?) ∧ p.fits := by
      intro i hi
      obtain ⟨c, g, t⟩ := hel i (by omega)
      obtain ⟨_, l, k⟩ := World.cells?_some g
      obtain ⟨p, rfl, hf⟩ := open_prop n c _ t
      exact ⟨p, k, hf⟩
    haveI : Inhabited PD := ⟨⟨ByteArray.empty, 0, 0, ByteArray.empty⟩⟩
    obtain ⟨f, hf⟩ := choose_lt each
    have hlen : ((List.range len).map f).length = len := by simp
    refine ⟨(List.range len).map f, ⟨some a, cap, by rw [hlen], by rw [hlen]; exact hl, hm, fun h => by simp at h, ?_⟩, ?_⟩
    · by_cases h0 : len = 0
      · subst h0; intro i hi; simp [cellsL] at hi
      · have e : cellsL ((List.range len).map f) = (List.range len).flatMap (fun i => (f i).cells) := by simp [cellsL, List.flatMap_map]
        rw [e]
        exact row_of (by omega) (by omega) _ fun i hi => ⟨rfl, (hf i hi).1⟩
    · intro p hp
      simp only [List.mem_map, List.mem_range] at hp
      obtain ⟨i, hi, rfl⟩ := hp
      exact (hf i hi).2

set_option maxRecDepth 100000 in
theorem open_item (fuel : Nat) (cs : List Value) (x : DataW H × List MemPlace) (h : DataW.trod enc Try.prog W 0 sp held fuel 78 cs = some x) :
    ∃ y : IT × (Value × Value), cs = y.1.cells y.2 ∧ NoteIs (Under W.heap.size) W y.2 y.1.note ∧ y.1.note.fits := by
  obtain ⟨xs, n, _, _, hlen, hxl, hfld⟩ := DataW.trod_struct Try.underlying78 h
  rw [cells34] at hlen
  have h0 := hfld 0 _ rfl
  have h1 := hfld 1 _ rfl
  have h2 := hfld 2 _ rfl
  have h3 := hfld 3 _ rfl
  have h4 := hfld 4 _ rfl
  have h5 := hfld 5 _ rfl
  clear hfld
  match cs, hlen, xs, hxl with
  | [v0, v1, v2, v3, v4, v5, v6], _, [y0, y1, y2, y3, y4, y5], _ =>
    have g0 : DataW.trod enc Try.prog W 0 sp held n 3 [v0] = some y0 := by simpa [cells3] using h0
    have g1 : DataW.trod enc Try.prog W 0 sp held n 3 [v1] = some y1 := by simpa [cells3] using h1
    have g2 : DataW.trod enc Try.prog W 0 sp held n 3 [v2] = some y2 := by simpa [cells3] using h2
    have g3 : DataW.trod enc Try.prog W 0 sp held n 4 [v3] = some y3 := by simpa [cells4] using h3
    have g4 : DataW.trod enc Try.prog W 0 sp held n 3 [v4] = some y4 := by simpa [cells3] using h4
    have g5 : DataW.trod enc Try.prog W 0 sp held n 28 [v5, v6] = some y5 := by simpa [cells32] using h5
    obtain ⟨i0, e0, _, _⟩ := DataW.trod_int Try.underlying3 g0
    obtain ⟨i1, e1, _, _⟩ := DataW.trod_int Try.underlying3 g1
    obtain ⟨i2, e2, _, _⟩ := DataW.trod_int Try.underlying3 g2
    obtain ⟨i3, e3, _⟩ := DataW.trod_bool Try.underlying4 g3
    obtain ⟨i4, e4, _, _⟩ := DataW.trod_int Try.underlying3 g4
    simp only [List.cons.injEq, and_true] at e0 e1 e2 e3 e4
    subst e0 e1 e2 e3 e4
    obtain ⟨z0, z1, m, _, _, t0, t1⟩ := trod_struct2 Try.underlying28 g5
    have u0 : DataW.trod enc Try.prog W 0 sp held m 25 [v5] = some z0 := by simpa [cells30] using t0
    have u1 : DataW.trod enc Try.prog W 0 sp held m 26 [v6] = some z1 := by simpa [cells29] using t1
    obtain ⟨ps, hps, hf⟩ := open_props v5 m z0 u0
    obtain ⟨bs, hbs⟩ := open_body v6 m z1 u1
    exact ⟨(⟨i0, i1, i2, i3, i4, ⟨ps, bs⟩⟩, (v5, v6)), rfl, ⟨hps, hbs⟩, hf⟩

theorem open_items (v : Value) (fuel : Nat) (x : DataW H × List MemPlace) (h : DataW.trod enc Try.prog W 0 sp held fuel 74 [v] = some x) :
    ∃ its : List IT, SliceI (Under W.heap.size) W v its ∧ (∀ i ∈ its, i.note.fits) := by
  rcases open_slice Try.underlying74 h with ⟨hcs, _⟩ | ⟨a, len, cap, m, n, D, Pl, hcs, _, hl, hm, hmm, hx, hel⟩
  · simp only [List.cons.injEq, and_true] at hcs
    subst hcs
    exact ⟨[], ⟨[], rfl, SliceV.nil _ _, by simp⟩, fun p hp => by simp at hp⟩
  · simp only [List.cons.injEq, and_true] at hcs
    subst hcs
    have hlm : len ≤ m := by rw [hmm]; split <;> omega
    rw [cells34] at hel
    have each : ∀ i, i < len → ∃ y : IT × (Value × Value), (∀ j, j < 7 → W.cell? ((a.add (i * 7)).add j) = (y.1.cells y.2)[j]?) ∧ NoteIs (Under W.heap.size) W y.2 y.1.note ∧ y.1.note.fits := by
      intro i hi
      obtain ⟨c, g, t⟩ := hel i (by omega)
      obtain ⟨_, l, k⟩ := World.cells?_some g
      obtain ⟨y, rfl, hf⟩ := open_item n c _ t
      exact ⟨y, k, hf⟩
    haveI : Inhabited (IT × (Value × Value)) := ⟨(⟨0, 0, 0, false, 0, ⟨[], []⟩⟩, (.bool false, .bool false))⟩
    obtain ⟨f, hf⟩ := choose_lt each
    have hlen : ((List.range len).map f).length = len := by simp
    refine ⟨((List.range len).map f).map Prod.fst, ⟨(List.range len).map f, rfl, ⟨some a, cap, by rw [hlen], by rw [hlen]; exact hl, hm, fun h => by simp at h, ?_⟩, ?_⟩, ?_⟩
    · by_cases h0 : len = 0
      · subst h0; intro i hi; simp [cellsI] at hi
      · have e : cellsI ((List.range len).map f) = (List.range len).flatMap (fun i => (f i).1.cells (f i).2) := by simp [cellsI, List.flatMap_map]
        rw [e]
        exact row_of (by omega) (by omega) _ fun i hi => ⟨rfl, (hf i hi).1⟩
    · intro y hy
      simp only [List.mem_map, List.mem_range] at hy
      obtain ⟨i, hi, rfl⟩ := hy
      exact (hf i hi).2.1
    · intro y hy
      simp only [List.mem_map, List.mem_range] at hy
      obtain ⟨z, ⟨i, hi, rfl⟩, rfl⟩ := hy
      exact (hf i hi).2.2
end
end Go.Proofs.Ytkddkpdfeeikhaa
