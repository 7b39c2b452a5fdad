/-
  RefReplay; RefEntB: texts laid together.
-/
import Derived.Test.YtkddkpdfeeikhaaJTellsProofM33
import Derived.Test.YtkddkpdfeeikhaaJTellsProofM41
import Derived.Test.YtkddkpdfeeikhaaJTellsProofM42
import Derived.Test.YtkddkpdfeeikhaaJTellsProofM46
import Derived.Test.YtkddkpdfeeikhaaJTellsProofM47
import Derived.Test.YtkddkpdfeeikhaaJTellsProofM29
import Derived.Test.YtkddkpdfeeikhaaJTellsProofM38
import Derived.Deep.RegionHeld3
import Derived.Deep.RegionLaw
import Derived.Deep.DeepCutAuto
/-
  tgref1.Replay.
-/
namespace Go.Proofs.Ytkddkpdfeeikhaa
open Go.RowKit
set_option linter.unusedVariables false
set_option linter.unusedSimpArgs false

attribute [local go_sem ↓] Go.wp_at_zero Go.wp_at_succ

/-- No note lies in a hall's box. -/
theorem note_off {w : World} {v u : Value} {PS : List NT.PD} {BS : List UInt8} {g1 g2 : Nat} {a1 a2 : Option Addr} {l1 l2 m1 m2 : Nat} {c1 c2 : Int} (hp : NT.SliceP w.heap.size w v PS) (hq : NT.SliceB w.heap.size w u BS) (h1 : Blk w g1 [.slice a1 l1 m1, .int .i64 c1]) (h2 : Blk w g2 [.slice a2 l2 m2, .int .i64 c2]) :
    NoteIs (fun b => b < w.heap.size ∧ b ≠ g1 ∧ b ≠ g2) w (v, u) ⟨PS.map upPD, BS⟩ := by
  have key : ∀ (g : Nat) (a : Option Addr) (l m : Nat) (c : Int), Blk w g [.slice a l m, .int .i64 c] → ∀ i : Nat, (∀ x : ByteArray, w.cell? ⟨g, i, none⟩ ≠ some (.string x)) ∧ (∀ x : Int, w.cell? ⟨g, i, none⟩ ≠ some (.int .u8 x)) := by
    intro g a l m c h i
    rw [h.cell i]
    have hi : i = 0 ∨ i = 1 ∨ 2 ≤ i := by omega
    rcases hi with rfl | rfl | hi
    · exact ⟨fun x h1 => by simp at h1, fun x h1 => by simp at h1⟩
    · exact ⟨fun x h1 => by simp at h1, fun x h1 => by simp at h1⟩
    · rw [List.getElem?_eq_none (by simpa using hi)]; exact ⟨fun x h1 => (by cases h1), fun x h1 => (by cases h1)⟩
  constructor
  · have hP := nt_props hp
    obtain ⟨a, cap, rfl, k1, k2, k3, k4⟩ := hp
    obtain ⟨a', cap', e, q1, q2, q3, q4⟩ := hP
    refine ⟨a', cap', e, q1, q2, q3, fun i hi => ?_⟩
    obtain ⟨b, off, e1, hlt, hc⟩ := q4 i hi
    refine ⟨b, off, e1, ?_, hc⟩
    have hl := cellsL_len (PS.map upPD)
    rw [List.length_map] at hl
    have hi2 : i < (cellsL (PS.map upPD)).length := hi
    have hd : 0 < PS.length := by omega
    obtain ⟨b2, off2, e2, hlt2, hx⟩ := k4 0 hd
    simp only [Value.slice.injEq] at e
    obtain ⟨rfl, -, -⟩ := e
    rw [e1] at e2
    simp only [Option.some.injEq, Addr.mk.injEq] at e2
    obtain ⟨rfl, rfl, -⟩ := e2
    exact ⟨hlt, fun e => by subst e; exact (key _ _ _ _ _ h1 _).1 _ hx.1, fun e => by subst e; exact (key _ _ _ _ _ h2 _).1 _ hx.1⟩
  · have hP := nt_bytes hq
    obtain ⟨a', cap', e, q1, q2, q3, q4⟩ := hP
    refine ⟨a', cap', e, q1, q2, q3, fun i hi => ?_⟩
    obtain ⟨b, off, e1, hlt, hc⟩ := q4 i hi
    refine ⟨b, off, e1, ⟨hlt, ?_⟩, hc⟩
    have hc2 := hc
    have hi' : i < BS.length := by simpa [u8s] using hi
    have hu : (u8s BS)[i] = .int .u8 BS[i].toNat := by simp [u8s]
    rw [hu] at hc2
    exact ⟨fun e => by subst e; exact (key _ _ _ _ _ h1 _).2 _ hc2, fun e => by subst e; exact (key _ _ _ _ _ h2 _).2 _ hc2⟩

/-- The next hall is stored. -/
theorem FI.next2 {w : World} {xv : Value} {x p p' : HD} {pb : Nat} {wr W : World} (H : FI w xv x p pb wr) (hb : Below wr.heap.size wr W) {va : Option Addr} {vc : Nat} (hq : SliceQ (fun b => b < W.heap.size ∧ b ≠ pb ∧ b ≠ w.heap.size) W (.slice va p'.queues.length vc) p'.queues) :
    FI w xv x p' pb ((W.setCell ⟨pb, 0, none⟩ (.slice va p'.queues.length vc)).setCell ⟨pb, 1, none⟩ (.int .i64 p'.next)) := by
  have h := H.on hb
  obtain ⟨h1, h2, h3, va', vc', h4, h5⟩ := h
  have far : ∀ b, b ≠ pb → ((W.setCell ⟨pb, 0, none⟩ (.slice va p'.queues.length vc)).setCell ⟨pb, 1, none⟩ (.int .i64 p'.next)).heap[b]? = W.heap[b]? := fun b hb => by
    rw [Below.heap_setCell _ _ _ _ hb, Below.heap_setCell _ _ _ _ hb]
  refine ⟨(h1.setCell (show w.heap.size ≤ pb by omega) _).setCell (show w.heap.size ≤ pb by omega) _, h2.same (far _ (by omega)), h3, va, vc, (h4.set 0 _).set 1 _, hq.sub fun b hb' => ⟨⟨by simpa using hb'.1, hb'.2⟩, far b hb'.2.1⟩⟩

theorem le_sizeR {r : List UInt8} : ∀ {rs : List (List UInt8)}, r ∈ rs → r.length ≤ SR.sizeR rs := by
  intro rs
  induction rs with
  | nil => intro h; simp at h
  | cons x rs ih =>
    intro h
    rw [SR.sizeR_cons]
    rcases List.mem_cons.1 h with rfl | h
    · omega
    · have := ih h; omega

theorem replayL_cap : ∀ (rs : List (List UInt8)) {h : HD} {c : Nat}, h.cap c → (replayL h rs).cap (c + rs.length) := by
  intro rs
  induction rs with
  | nil => intro h c H; exact H
  | cons r rs ih =>
    intro h c H
    have h1 : (stepF h r).cap (c + 1) := by
      unfold stepF
      split
      · exact H.apply (readE_fits r).1
      · exact H.mono (by omega)
    have h2 := ih h1
    rw [List.length_cons, Nat.add_comm rs.length 1, ← Nat.add_assoc]
    exact h2

/-- What stands in the round behind k records. -/
structure RR (w W2 : World) (rs : List (List UInt8)) (k : Nat) (wr : World) : Prop where
  fi : FI w (.slice none 0 0) ⟨[], 0⟩ (replayL ⟨[], 0⟩ (rs.take k)) (w.heap.size + 1) wr
  far : ∀ b, b < W2.heap.size → b ≠ w.heap.size + 1 → wr.heap[b]? = W2.heap[b]?
  start : k = 0 → wr = W2
  size : W2.heap.size ≤ wr.heap.size

/-- A record, wherever the loop is. -/
theorem RR.at {w W2 wr : World} {rs : List (List UInt8)} {k : Nat} {a : Option Addr} {n cap : Nat} (H : RR w W2 rs k wr) (h2 : Blk W2 (w.heap.size + 1) [.slice none 0 0, .int .i64 0]) (hs : SR.SliceS W2.heap.size W2 (.slice a n cap) rs) (hk : k < rs.length) :
    ∃ (b off : Nat) (ua : Option Addr) (uc : Nat), a = some ⟨b, off, none⟩ ∧ wr.cell? ⟨b, off + k, none⟩ = some (.slice ua rs[k].length uc) ∧ NT.SliceB wr.heap.size wr (.slice ua rs[k].length uc) rs[k] ∧ b < wr.heap.size := by
  obtain ⟨b, off, ua, uc, e, hc, hb, hlt, -⟩ := hs.at k hk
  refine ⟨b, off, ua, uc, e, ?_, ?_, Nat.lt_of_lt_of_le hlt H.size⟩
  · by_cases hk0 : k = 0
    · rw [H.start hk0]; exact hc
    · have hne : b ≠ w.heap.size + 1 := fun e2 => by
        obtain ⟨b', off', ua', uc', e', hc', -⟩ := hs.at 0 (by omega)
        rw [e] at e'
        simp only [Option.some.injEq, Addr.mk.injEq] at e'
        obtain ⟨rfl, rfl, -⟩ := e'
        subst e2
        rw [h2.cell (off + k)] at hc
        have hi : off + k = 0 ∨ off + k = 1 ∨ 2 ≤ off + k := by omega
        rcases hi with hi | hi | hi
        · omega
        · rw [hi] at hc; simp at hc
        · rw [List.getElem?_eq_none (by simpa using hi)] at hc; cases hc
      exact (World.cell?_of_block (H.far b hlt hne)).trans hc
  · have hn := sr_bytes hb
    obtain ⟨a', cap', e', k1, k2, k3, k4⟩ := bytes_nt hn
    refine ⟨a', cap', e', k1, k2, k3, fun i hi => ?_⟩
    obtain ⟨b2, off2, e3, hlt2, hx⟩ := k4 i hi
    refine ⟨b2, off2, e3, Nat.lt_of_lt_of_le hlt2 H.size, ?_⟩
    have hne : b2 ≠ w.heap.size + 1 := fun e2 => by
      subst e2
      rw [h2.cell (off2 + i)] at hx
      have hj : off2 + i = 0 ∨ off2 + i = 1 ∨ 2 ≤ off2 + i := by omega
      rcases hj with hj | hj | hj
      · rw [hj] at hx; simp at hx
      · rw [hj] at hx; simp at hx
      · rw [List.getElem?_eq_none (by simpa using hj)] at hx; cases hx
    exact (World.cell?_of_block (H.far b2 hlt2 hne)).trans hx

set_option maxRecDepth 100000 in
set_option maxHeartbeats 3200000 in
theorem refReplay_any (v : Value) (b : List UInt8) (w : World) (hv : SliceB (Under w.heap.size) w v b) (hl : b.length ≤ 4194303) :
    Calls Try.prog 13 #[v] w fun r w' => ∃ vi, r = .returned (.agg #[vi, .int .i64 (replayL ⟨[], 0⟩ (SR.recsF b)).next]) ∧ SliceQ (Under w'.heap.size) w' vi (replayL ⟨[], 0⟩ (SR.recsF b)).queues ∧ Below w.heap.size w w' := by
  have HV : Hid (SliceB (Under w.heap.size) w v b) := hv
  obtain ⟨va, vc, rfl, -⟩ := SliceV.shape hv
  clear hv
  obtain ⟨A, hA⟩ : ∃ A, A = (w.alloc (.cells #[.slice none 0 0, .int .i64 0] 24)).alloc (.cells #[.slice none 0 0, .int .i64 0] 24) := ⟨_, rfl⟩
  have hAz : A.heap.size = w.heap.size + 2 := by rw [hA]; simp
  have HAB : Hid (Below w.heap.size w A ∧ Blk A w.heap.size [.slice none 0 0, .int .i64 0] ∧ Blk A (w.heap.size + 1) [.slice none 0 0, .int .i64 0]) := by
    rw [hA]
    refine ⟨(below_alloc _ _).alloc (by simp) _, (Blk.new _ _ _).alloc _, ?_⟩
    have := Blk.new (w.alloc (.cells #[.slice none 0 0, .int .i64 0] 24)) [.slice none 0 0, .int .i64 0] 24
    simpa using this
  go_enter Try.func13, Try.ntmps13
  go_upto_region 2 with fail
  rw [← hA]
  clear hA
  go_upto_region 3 with (go_at_call 48; refine (SR.refRecords_any _ b _ (bytes_sr (SliceV.sub HV.out fun k hk => ⟨by have : k < w.heap.size := hk; show k < A.heap.size; omega, HAB.out.1.block k hk⟩)) (by omega)).mono ?_; rintro r w2 ⟨ra, rc, rfl, hs2, hb2⟩; have HS2 : Hid (SR.SliceS w2.heap.size w2 (.slice ra (SR.recsF b).length rc) (SR.recsF b) ∧ Below A.heap.size A w2) := ⟨hs2, hb2⟩; have hz2 := hb2.size; clear hs2 hb2)
  obtain ⟨rs, hrs⟩ : ∃ rs, rs = SR.recsF b := ⟨_, rfl⟩
  have HRS : Hid (rs = SR.recsF b ∧ ∀ r ∈ rs, r.length ≤ 4194304) := by
    refine ⟨hrs, fun r hr => ?_⟩
    have h1 := le_sizeR hr
    have h2 := SR.recsF_size b
    rw [← hrs] at h2
    omega
  have hrl : rs.length ≤ 1048576 := by
    have h1 := SR.sizeR_len4 rs
    have h2 := SR.recsF_size b
    rw [← hrs] at h2
    omega
  rw [← hrs] at HS2
  rw [← hrs]
  clear hrs
  have H0 : Hid (RR w w2 rs 0 w2 ∧ Blk w2 (w.heap.size + 1) [.slice none 0 0, .int .i64 0]) := by
    have hb2 := HS2.out.2
    have h1 := HAB.out.2.2.below hb2 (by omega)
    refine ⟨⟨⟨HAB.out.1.trans (hb2.mono (by omega)), HAB.out.2.1.below hb2 (by omega), by omega, none, 0, h1, SliceQ.nil _ _⟩, fun _ _ _ => rfl, fun _ => rfl, Nat.le_refl _⟩, h1⟩
  go_wp2_with fail
  go_loopw [18] (fun i wr => ∃ k : Nat, k ≤ rs.length ∧ i = .int .i64 k ∧ RR w w2 rs k wr) (fun i _ => rs.length - (intOf i).toNat)
  case atStart => exact ⟨0, Nat.zero_le _, rfl, H0.out.1⟩
  case round =>
    obtain ⟨k, hk, rfl, hI⟩ := hrel
    have HI : Hid (RR w w2 rs k wr) := hI
    by_cases hlt : k < rs.length
    · obtain ⟨b', off, ua, uc, rfl, c0, hub, hbl⟩ := hI.at H0.out.2 HS2.out.1 hlt
      obtain ⟨r, hr⟩ : ∃ r, r = rs[k] := ⟨_, rfl⟩
      rw [← hr] at c0 hub
      have HRK : Hid (r = rs[k] ∧ r.length ≤ 4194304) := ⟨hr, HRS.out.2 r (by rw [hr]; exact List.getElem_mem hlt)⟩
      have HPA : Hid (Calls Try.prog 9 #[.slice ua r.length uc] wr (EAns (jparseF r) wr)) := refEnt_any ua uc r wr hub HRK.out.2
      have hfit := readE_fits r
      have HSTEP : Hid (replayL ⟨[], 0⟩ (rs.take (k + 1)) = if readOk r then applyF (replayL ⟨[], 0⟩ (rs.take k)) (readE r) else replayL ⟨[], 0⟩ (rs.take k)) := by
        show replayL ⟨[], 0⟩ (rs.take (k + 1)) = _
        rw [replayL_take rs k hlt, HRK.out.1]
        rfl
      have hfitH : (replayL ⟨[], 0⟩ (rs.take k)).cap 4194000 := by
        have h1 := replayL_cap (rs.take k) (h := ⟨[], 0⟩) (c := 0) ⟨by simp, by simp⟩
        refine h1.mono ?_
        rw [List.length_take]
        omega
      obtain ⟨p, hp⟩ : ∃ p, p = replayL ⟨[], 0⟩ (rs.take k) := ⟨_, rfl⟩
      have hnote : (readE r).note = ⟨(jparseF r).2.2.2.2.1.map upPD, (jparseF r).2.2.2.2.2.1⟩ := rfl
      have hok : readOk r = ((jparseF r).2.2.2.2.2.2 == 0) := rfl
      obtain ⟨e, he⟩ : ∃ e, e = readE r := ⟨_, rfl⟩
      have HJ : Hid (e.kind = (jparseF r).1 ∧ e.queue = (jparseF r).2.1 ∧ e.n = (jparseF r).2.2.1 ∧ e.id = (jparseF r).2.2.2.1) := by rw [he]; exact ⟨rfl, rfl, rfl, rfl⟩
      have HPB : Hid (Calls Try.prog 9 #[.slice ua r.length uc] wr fun x w' => ∃ v u, x = .returned (.tuple #[.agg #[.int .i64 e.kind, .string e.queue, .int .i64 e.n, .int .i64 e.id, v, u], .int .i64 (jparseF r).2.2.2.2.2.2]) ∧ NT.SliceP w'.heap.size w' v (jparseF r).2.2.2.2.1 ∧ NT.SliceB w'.heap.size w' u (jparseF r).2.2.2.2.2.1 ∧ Below wr.heap.size wr w') := by
        obtain ⟨j1, j2, j3, j4⟩ := HJ.out
        rw [j1, j2, j3, j4]
        exact HPA.out
      rw [← he] at HSTEP hnote hfit
      obtain ⟨en, hen⟩ : ∃ en, en = (jparseF r).2.2.2.2.2.2 := ⟨_, rfl⟩
      obtain ⟨ps, hps⟩ : ∃ ps, ps = (jparseF r).2.2.2.2.1 := ⟨_, rfl⟩
      obtain ⟨bs, hbs⟩ : ∃ bs, bs = (jparseF r).2.2.2.2.2.1 := ⟨_, rfl⟩
      rw [← hen, ← hps, ← hbs] at HPB
      rw [← hps, ← hbs] at hnote
      rw [← hen] at hok
      rw [hok] at HSTEP
      rw [← hp] at HSTEP hfitH
      have HFI : Hid (FI w (.slice none 0 0) ⟨[], 0⟩ p (w.heap.size + 1) wr) := by rw [hp]; exact hI.fi
      have HX : Hid (p.cap 4194000 ∧ e.fits ∧ e.note = ⟨ps.map upPD, bs⟩) := ⟨hfitH, hfit.1, hnote⟩
      obtain ⟨pa, pc, hpb, hpq⟩ := HFI.out.box
      obtain ⟨b0, b1, b2, b3⟩ := hpb.b2
      have HPBX : Hid (Blk wr (w.heap.size + 1) [.slice pa p.queues.length pc, .int .i64 p.next]) := hpb
      have HPQ : Hid (SliceQ (fun b => b < wr.heap.size ∧ b ≠ w.heap.size + 1 ∧ b ≠ w.heap.size) wr (.slice pa p.queues.length pc) p.queues) := hpq
      obtain ⟨p', hp'⟩ : ∃ p', p' = applyF p e := ⟨_, rfl⟩
      have HP' : Hid (p' = applyF p e) := hp'
      rw [← hp'] at HSTEP
      have hzw := hI.size
      clear hI hub hr HPA hfit hfitH hp hok he hen hps hbs hnote hpb hpq hp'
      obtain ⟨kd, qu, nn, eid, nt⟩ := e
      simp only at HPB HX
      go_upto_region 7 with (go_at_call 9; refine HPB.out.mono ?_; rintro x w3 ⟨v1, u1, rfl, hv3, hu3, hb3⟩; have H3 : Hid (NT.SliceP w3.heap.size w3 v1 ps ∧ NT.SliceB w3.heap.size w3 u1 bs ∧ Below wr.heap.size wr w3) := ⟨hv3, hu3, hb3⟩; obtain ⟨na, nc, rfl, -⟩ := id hv3; obtain ⟨ma, mc, rfl, -⟩ := id hu3; clear hv3 hu3 hb3)
      obtain ⟨W4, hW4⟩ : ∃ W4, W4 = w3.alloc (.cells #[.int .i64 kd, .string qu, .int .i64 nn, .int .i64 eid, .slice na ps.length nc, .slice ma bs.length mc] 30) := ⟨_, rfl⟩
      have H4 : Hid (Below wr.heap.size wr W4 ∧ Blk W4 w3.heap.size [.int .i64 kd, .string qu, .int .i64 nn, .int .i64 eid, .slice na ps.length nc, .slice ma bs.length mc] ∧ Below w3.heap.size w3 W4) := by
        rw [hW4]
        exact ⟨H3.out.2.2.alloc H3.out.2.2.size _, Blk.new _ _ _, below_alloc _ _⟩
      rw [← hW4]
      clear hW4 b0 b1 b2 c0
      have hz4 := H4.out.1.size
      by_cases h0 : en = 0
      · subst h0
        obtain ⟨b0, b1, b2, b3'⟩ := (HPBX.out.below H4.out.1 b3).b2
        obtain ⟨g0, g1, g2, g3, g4, g5, g6, g7⟩ := H4.out.2.1.b6
        have HAP : Hid (Calls Try.prog 18 #[.agg #[.slice pa p.queues.length pc, .int .i64 p.next], .agg #[.int .i64 kd, .string qu, .int .i64 nn, .int .i64 eid, .slice na ps.length nc, .slice ma bs.length mc]] W4 (ApAns (fun b => b < W4.heap.size ∧ b ≠ w.heap.size + 1 ∧ b ≠ w.heap.size) p' W4)) := by
          have hn3 := note_off H3.out.1 H3.out.2.1 (HPBX.out.below H3.out.2.2 b3) (HFI.out.xbox.below H3.out.2.2 HFI.out.xbox.lt)
          rw [HP'.out]
          have h34 := H4.out.2.2.size
          refine refApply_any _ _ p ⟨kd, qu, nn, eid, nt⟩ _ _ W4 (fun b hb => hb.1) (HPQ.out.sub fun b hb => ⟨⟨by omega, hb.2⟩, H4.out.1.block b hb.1⟩) (HX.out.1.plain' (by omega)).1 HX.out.2.1 ?_
          simp only
          rw [HX.out.2.2]
          exact hn3.sub fun b hb => ⟨⟨by omega, hb.2⟩, H4.out.2.2.block b hb.1⟩
        go_wp2_with (go_at_call 18; refine HAP.out.mono ?_; rintro x w5 ⟨xa, xc, rfl, hq5, hb5⟩; have H5 : Hid (SliceQ (SM (fun b => b < W4.heap.size ∧ b ≠ w.heap.size + 1 ∧ b ≠ w.heap.size) W4 w5) w5 (.slice xa p'.queues.length xc) p'.queues ∧ Below W4.heap.size W4 w5) := ⟨hq5, hb5⟩; obtain ⟨s0, s1, s2, s3⟩ := ((HPBX.out.below H4.out.1 b3).below hb5 (by omega)).b2; clear hq5 hb5)
        have hb5 : Below wr.heap.size wr w5 := H4.out.1.trans (H5.out.2.mono hz4)
        have hnx := HFI.out.next2 (p' := p') hb5 (va := xa) (vc := xc) (H5.out.1.sub fun b hb => ⟨by
          have hz5 := H5.out.2.size
          rcases hb with hb | hb
          · exact ⟨by omega, hb.2⟩
          · have := hb.1
            have := hb.2
            have h1 := HFI.out.xbox.lt
            exact ⟨hb.2, by omega, by omega⟩, rfl⟩)
        go_roundw
        case rel =>
          refine ⟨k + 1, by omega, by go_num, ⟨?_, fun b hb hne => ?_, fun h => by omega, ?_⟩⟩
          · rw [HSTEP.out]
            exact hnx
          · rw [Below.heap_setCell _ _ _ _ hne, Below.heap_setCell _ _ _ _ hne, hb5.block b (by omega)]
            exact HI.out.far b hb hne
          · simp; have := hb5.size; omega
        case measure => simp [intOf]; omega
      · have h0' : (en == 0) = false := by simpa using h0
        go_wp2_with fail
        go_roundw
        case rel =>
          have hp0 : replayL ⟨[], 0⟩ (rs.take (k + 1)) = p := by
            rw [HSTEP.out]
            simp [h0]
          refine ⟨k + 1, by omega, by go_num, ⟨?_, fun b hb hne => ?_, fun h => by omega, by omega⟩⟩
          · rw [hp0]
            exact HFI.out.on H4.out.1
          · rw [H4.out.1.block b (by omega)]
            exact HI.out.far b hb hne
        case measure => simp [intOf]; omega
    · obtain rfl : k = rs.length := by omega
      have hf := hI.fi
      rw [List.take_length] at hf
      obtain ⟨p, hp⟩ : ∃ p, p = replayL ⟨[], 0⟩ rs := ⟨_, rfl⟩
      rw [← hp] at hf
      have HPE : Hid (p = replayL ⟨[], 0⟩ rs) := hp
      have HF : Hid (FI w (.slice none 0 0) ⟨[], 0⟩ p (w.heap.size + 1) wr) := hf
      obtain ⟨pa, pc, hpb, hpq⟩ := hf.box
      have HPQ : Hid (SliceQ (fun b => b < wr.heap.size ∧ b ≠ w.heap.size + 1 ∧ b ≠ w.heap.size) wr (.slice pa p.queues.length pc) p.queues) := hpq
      obtain ⟨b0, b1, b2, b3⟩ := hpb.b2
      obtain ⟨r0, r1, r2, r3⟩ := hf.xbox.b2
      have n1 : w.heap.size ≠ w.heap.size + 1 := by omega
      clear hI hf hpb hpq hp
      go_wp2_with fail
      refine bodyPost_ret (v := .agg #[.slice pa p.queues.length pc, .int .i64 p.next]) (by simp [results, Try.results13, go_sem, *]; done) rfl ?_
      rw [← HRS.out.1, ← HPE.out]
      refine ⟨_, rfl, HPQ.out.sub fun b hb => ⟨?_, ?_⟩, ?_⟩
      · show b < _
        simpa using hb.1
      · rw [Below.heap_setCell _ _ _ _ hb.2.2, Below.heap_setCell _ _ _ _ hb.2.2]
      · iterate 2 refine Below.setCell ?_ (show w.heap.size ≤ w.heap.size from Nat.le_refl _) _
        exact HF.out.bel
end Go.Proofs.Ytkddkpdfeeikhaa

/-
  tgref1.EntryBytes writes what entryB says.
-/
namespace Go.Proofs.Ytkddkpdfeeikhaa.NT
open Go.RowKit
set_option linter.unusedVariables false
set_option linter.unusedSimpArgs false

attribute [local go_sem ↓] Go.wp_at_zero Go.wp_at_succ

theorem own_bl {w1 w2 : World} {base : Nat} {v : Value} {n : Nat} {xs : List Value} (h : w1.ownsRow base 5 1 v n xs) (hb : Below w1.heap.size w1 w2) : w2.ownsRow base 5 1 v n xs := h.kept (grownBy_of_below (row := none) hb) (by cases v.ownBlock <;> simp)
theorem new_own1 (w : World) (o : Obj) (bs : List UInt8) (cs : Array Value) (hl : bs.length ≤ maxLen) (h : cs.toList = u8s bs) : ((w.alloc o).alloc (.cells cs 5)).ownsRow (w.heap.size + 1) 5 1 (.slice (some ⟨w.heap.size + 1, 0, none⟩) bs.length bs.length) bs.length (u8s bs) := by
  have := new_own (w.alloc o) (w.heap.size + 1) bs cs hl h (by simp)
  simpa using this
theorem app_zs {w : World} {base : Nat} {v : Value} {ys bs : List UInt8} (h : w.ownsRow base 5 1 v (ys.length + bs.length) (u8s ys ++ u8s bs)) :
    w.ownsRow base 5 1 v (ys ++ bs).length (u8s (ys ++ bs)) := by
  rw [u8s_append, List.length_append]; exact h

/-- The kind's row, made ahead of a call; where it is made behind it, nothing is said. -/
theorem kind_row {w w1 : World} {o : Obj} {cs : Array Value} {c : UInt8} (hb : Below ((w.alloc o).alloc (.cells cs 5)).drew.heap.size ((w.alloc o).alloc (.cells cs 5)).drew w1) (h : cs.toList = u8s [c]) : w1.ownsRow (w.heap.size + 1) 5 1 (.slice (some ⟨w.heap.size + 1, 0, none⟩) 1 1) 1 (u8s [c]) :=
  own_bl (new_own1 w o [c] cs (by simp [maxLen]) h).drew hb
theorem ebox_blk {w w1 : World} {cs : List Value} {o2 : Obj} {t : TypeId} (hb : Below ((w.alloc (.cells cs.toArray t)).alloc o2).drew.heap.size ((w.alloc (.cells cs.toArray t)).alloc o2).drew w1) : Blk w1 w.heap.size cs :=
  ((Blk.new w cs t).alloc o2).drew.below hb (by simp; omega)
theorem ebox_below {w w1 : World} {o o2 : Obj} (hb : Below ((w.alloc o).alloc o2).drew.heap.size ((w.alloc o).alloc o2).drew w1) : Below w.heap.size w w1 :=
  (((below_alloc w _).alloc (by simp) _).drew).trans (hb.mono (by simp; omega))
theorem ebox_blk' {w w1 : World} {cs : List Value} {t : TypeId} (hb : Below (w.alloc (.cells cs.toArray t)).drew.heap.size (w.alloc (.cells cs.toArray t)).drew w1) : Blk w1 w.heap.size cs :=
  (Blk.new w cs t).drew.below hb (by simp)
theorem ebox_below' {w w1 : World} {o : Obj} (hb : Below (w.alloc o).drew.heap.size (w.alloc o).drew w1) : Below w.heap.size w w1 :=
  ((below_alloc w _).drew).trans (hb.mono (by simp))

theorem num_id (n : Int) (h0 : 0 ≤ n) (h1 : n ≤ 4294967295) : num4 n = id4 n := by
  unfold num4 id4
  rw [Int.emod_eq_of_lt h0 (by omega)]

set_option maxRecDepth 100000 in
set_option maxHeartbeats 8000000 in
theorem refEntryB_any (e : ED) (hr : e.right) (pv bv : Value) (w : World) (hn : NoteIs (Under w.heap.size) w (pv, bv) e.note) :
    Calls Try.prog 16 #[.agg #[.int .i64 e.kind, .string e.queue, .int .i64 e.n, .int .i64 e.id, pv, bv]] w fun r w' => ∃ v, r = .returned v ∧ w'.ownsRow w.heap.size 5 1 v (entryB e).length (u8s (entryB e)) ∧ Below w.heap.size w w' := by
  obtain ⟨kind, queue, n, id, note⟩ := e
  obtain ⟨⟨k1, k2⟩, hq, ⟨n1, n2⟩, ⟨i1, i2⟩, hw⟩ := hr
  simp only at hq n1 n2 i1 i2 hw hn k1 k2 ⊢
  obtain ⟨pa, pc, rfl, -⟩ := SliceV.shape hn.1
  obtain ⟨ba, bc, rfl, -⟩ := SliceV.shape hn.2
  have HN : Hid (NoteIs (Under w.heap.size) w (.slice pa note.props.length pc, .slice ba note.body.length bc) note) := hn
  have HW : Hid (note.props.length ≤ 4 ∧ note.body.length ≤ 40 ∧ ∀ p ∈ note.props, p.wrong = 0) := note_len hw
  clear hn hw
  have hkb : Hid (((UInt8.ofNat kind.toNat).toNat : Int) = kind) := byteI _ (by omega) (by omega)
  have hnb : Hid (((UInt8.ofNat n.toNat).toNat : Int) = n) := byteI _ (by omega) (by omega)
  have hke : kind = 1 ∨ kind = 2 ∨ kind = 3 ∨ kind = 4 := by omega
  have HBL : Hid (note.bytes.length ≤ 4194304) := by
    have h := HW.out
    have h1 : note.bytes.length = 2 + (NT.propsB (note.props.map PD.nt)).length + note.body.length := by
      simp [ND.bytes, NT.bytesF]; omega
    have h2 : (NT.propsB (note.props.map PD.nt)).length ≤ (note.props.map PD.nt).length * 40 := NT.propsB_len _ (fun p hp => by
      simp only [List.mem_map] at hp
      obtain ⟨q, hq, rfl⟩ := hp
      exact small_nt (h.2.2 q hq))
    rw [List.length_map] at h2
    have h3 : note.bytes.length ≤ 4194304 := by have := h.1; have := h.2.1; omega
    exact h3
  have HA : Hid (∀ W, Below w.heap.size w W → Calls Try.prog 54 #[.agg #[.slice pa note.props.length pc, .slice ba note.body.length bc]] W fun e w' => ∃ ao cap, e = .returned (.slice ao note.bytes.length cap) ∧ w'.ownsRow W.heap.size 5 1 (.slice ao note.bytes.length cap) note.bytes.length (u8s note.bytes) ∧ Below W.heap.size W w') := by
    show ∀ W, Below w.heap.size w W → _
    intro W hW
    have hn2 : NoteIs (Under W.heap.size) W (.slice pa note.props.length pc, .slice ba note.body.length bc) note := HN.out.sub fun b hb => ⟨Nat.lt_of_lt_of_le hb hW.size, hW.block b hb⟩
    have h := refBytes_any pa pc (note.props.map PD.nt) ba bc note.body W (props_nt hn2.1) (bytes_nt hn2.2) (by simpa using HW.out.1) (by have := HW.out.2.1; omega) (fun p hp => by
      simp only [List.mem_map] at hp
      obtain ⟨q, hq, rfl⟩ := hp
      exact small_nt (HW.out.2.2 q hq))
    rw [List.length_map] at h
    refine h.mono ?_
    rintro e w' ⟨v', rfl, ho, hb⟩
    obtain ⟨ao, cap, rfl, _⟩ := own_shape ho
    exact ⟨ao, cap, rfl, ho, hb⟩
  have htl := txt_len queue
  have HT : ∀ W, Calls Try.prog 52 #[.string queue] W fun e w' => ∃ ao cap, e = .returned (.slice ao (txt queue).length cap) ∧ w'.ownsRow W.heap.size 5 1 (.slice ao (txt queue).length cap) (txt queue).length (u8s (txt queue)) ∧ Below W.heap.size W w' := fun W => refText_any queue W (by omega)
  have HM : ∀ W, Calls Try.prog 53 #[.int .i64 id] W fun e w' => ∃ ao cap, e = .returned (.slice ao (id4 id).length cap) ∧ w'.ownsRow W.heap.size 5 1 (.slice ao (id4 id).length cap) (id4 id).length (u8s (id4 id)) ∧ Below W.heap.size W w' := fun W => by
    have h := refNum_any id W
    rw [num_id id i1 (by omega)] at h
    exact h
  have HC : ∀ x : Int, x = kind → (#[Value.int IntKind.u8 x] : Array Value).toList = u8s [UInt8.ofNat kind.toNat] := by
    intro x hx
    subst hx
    simp only [u8s, List.map_cons, List.map_nil, hkb.out]
  have HCN : (#[Value.int IntKind.u8 n] : Array Value).toList = u8s [UInt8.ofNat n.toNat] := by
    simp only [u8s, List.map_cons, List.map_nil, hnb.out]
  obtain ⟨T, hT⟩ : ∃ T, T = txt queue := ⟨_, rfl⟩
  obtain ⟨M, hM⟩ : ∃ M, M = id4 id := ⟨_, rfl⟩
  obtain ⟨nb, hnbb⟩ : ∃ nb, nb = note.bytes := ⟨_, rfl⟩
  have hml : M.length ≤ 4 := by rw [hM]; exact Nat.le_refl 4
  rw [← hnbb] at HA HBL
  rw [← hT] at HT htl
  rw [← hM] at HM
  have htl' : T.length ≤ 101 := by omega
  have hI : entryB ⟨kind, queue, n, id, note⟩ = UInt8.ofNat kind.toNat :: T ++ (if kind = 1 then [UInt8.ofNat n.toNat] else if kind = 3 then M ++ nb else if kind = 4 then M else []) := by rw [hnbb, hT, hM]; rfl
  obtain ⟨E, hE⟩ : ∃ E, E = entryB ⟨kind, queue, n, id, note⟩ := ⟨_, rfl⟩
  rw [← hE] at hI ⊢
  have HI : Hid (E = UInt8.ofNat kind.toNat :: T ++ (if kind = 1 then [UInt8.ofNat n.toNat] else if kind = 3 then M ++ nb else if kind = 4 then M else [])) := hI
  clear hI hnbb hT hM htl hE HN HW
  obtain ⟨XS, hXS⟩ : ∃ XS, XS = UInt8.ofNat kind.toNat :: T := ⟨_, rfl⟩
  have hwr : IntKind.u8.wrap kind = kind := by simp [IntKind.wrap, IntKind.bits, IntKind.signed]; omega
  have hwn : IntKind.u8.wrap n = n := by simp [IntKind.wrap, IntKind.bits, IntKind.signed]; omega
  have hmk : kind % 256 = kind := by omega
  have hmn : n % 256 = n := by omega
  go_enter Try.func16, Try.ntmps16
  go_upto_region 1 with fail
  go_cut [3] (fun v wx => ∃ ao cap, v = .slice ao (1 + T.length) cap ∧ wx.ownsRow (w.heap.size + 1) 5 1 (.slice ao (1 + T.length) cap) XS.length (u8s XS) ∧ Below w.heap.size w wx ∧ Blk wx w.heap.size [.int .i64 kind, .string queue, .int .i64 n, .int .i64 id, .slice pa note.props.length pc, .slice ba note.body.length bc])
  case first =>
    have g0 : ∀ o, w.heap.size < (w.alloc o).heap.size := fun o => by simp
    go_region_law (first
      | (go_simp; go_at_call 52; refine (HT _).mono ?_; rintro e w1 ⟨ao1, cap1, rfl, hown1, hb1⟩; have hka := kind_row hb1 (HC _ rfl); have R1 := ebox_blk (cs := [.int .i64 kind, .string queue, .int .i64 n, .int .i64 id, .slice pa note.props.length pc, .slice ba note.body.length bc]) hb1; obtain ⟨a0, a1, a2, a3, a4, a5, fa, fl⟩ := R1.b6; have hz1 := hb1.size; simp at hz1; have lt1 : w.heap.size < w1.heap.size := (by omega); have b1 := ebox_below hb1)
      | (go_simp; go_at_call 52; refine (HT _).mono ?_; rintro e w1 ⟨ao1, cap1, rfl, hown1, hb1⟩; have R1 := ebox_blk' (cs := [.int .i64 kind, .string queue, .int .i64 n, .int .i64 id, .slice pa note.props.length pc, .slice ba note.body.length bc]) hb1; obtain ⟨a0, a1, a2, a3, a4, a5, fa, fl⟩ := R1.b6; have hz1 := hb1.size; simp at hz1; have lt1 : w.heap.size < w1.heap.size := (by omega); have b1 := ebox_below' hb1)
      | (have hkax := hka; (refine step_appM (by rfl) (.tmp 7) (.tmp 10) (by rfl) (w.heap.size + 1) (.slice (some ⟨w.heap.size + 1, 0, none⟩) 1 1) 1 (u8s [UInt8.ofNat kind.toNat]) (by rfl) hka w1.heap.size (.slice ao1 T.length cap1) T (by rfl) (own_slice hown1) (by omega) (by omega) ?_); intro ao2 cap2 w2 hown2 hg2 hm2; obtain ⟨hc2, hf2⟩ := own_far hg2 w.heap.size lt1 (by simp [Value.ownBlock]))
      | (have hkax := hown1; (refine step_appM (by rfl) (.tmp 7) (.tmp 10) (by rfl) (w.heap.size + 1) (.slice (some ⟨w1.heap.size, 0, none⟩) 1 1) 1 (u8s [UInt8.ofNat kind.toNat]) (by rfl) (new_own w1 (w.heap.size + 1) [UInt8.ofNat kind.toNat] _ (by simp [maxLen]) (HC _ rfl) (by omega)) w1.heap.size (.slice ao1 T.length cap1) T (by rfl) ((own_slice hown1).same (fun j hj => Below.heap_alloc _ _ _ hj)) (by omega) (by simp; omega) ?_); intro ao2 cap2 w2 hown2 hg2 hm2; obtain ⟨hc2, hf2⟩ := own_far hg2 w.heap.size (by simp; omega) (by simp [Value.ownBlock]; omega))
      | fail)
    all_goals
      have hXS' : w2.ownsRow (w.heap.size + 1) 5 1 (.slice ao2 (1 + T.length) cap2) XS.length (u8s XS) := by
        have e : XS.length = 1 + T.length := by rw [hXS]; simp; omega
        have e2 : u8s XS = u8s [UInt8.ofNat kind.toNat] ++ u8s T := by rw [hXS, ← u8s_append]; rfl
        rw [e, e2]; exact hown2
      have R2 : Blk w2 w.heap.size [.int .i64 kind, .string queue, .int .i64 n, .int .i64 id, .slice pa note.props.length pc, .slice ba note.body.length bc] := by
        first
          | exact R1.same (hg2.block _ lt1 (by simp [Value.ownBlock]))
          | exact R1.same ((hg2.block _ (by simp; omega) (by simp [Value.ownBlock]; omega)).trans (Below.heap_alloc _ _ _ lt1))
      have b2 : Below w.heap.size w w2 := by
        first
          | exact b1.grown hg2 (by omega) (fun k hk => by simp [Value.ownBlock] at hk; omega)
          | exact (b1.alloc (by omega) _).grown hg2 (by simp; omega) (fun k hk => by simp [Value.ownBlock] at hk; omega)
      go_wp2_with fail
      go_meet
      exact ⟨ao2, cap2, rfl, hXS', b2, R2⟩
  case rest =>
    obtain ⟨ao1, cap1, rfl, hown1, b1, R1⟩ := hcut
    have HX : Hid (XS = UInt8.ofNat kind.toNat :: T) := hXS
    have hxl : XS.length ≤ 102 := by rw [hXS]; simp; omega
    have hx1 : 1 + T.length = XS.length := by rw [hXS]; simp; omega
    rw [hx1] at hown1 ⊢
    clear hXS hx1
    have hz1 := b1.size
    have lt1 : w.heap.size < wc.heap.size := R1.lt
    obtain ⟨a0, a1, a2, a3, a4, a5, fa, fl⟩ := R1.b6
    have hbl := HBL.out
    rcases hke with rfl | rfl | rfl | rfl
    · go_wp2_with (at_builtin; refine wpList_app rfl (.tmp 15) (.tmp 19) rfl (w.heap.size + 1) (.slice ao1 XS.length cap1) XS.length (u8s XS) rfl (own_bl hown1 (below_alloc _ _)) (wc.heap.size + 1) _ [UInt8.ofNat n.toNat] rfl (new_bytes wc [UInt8.ofNat n.toNat] _ (by simp [maxLen]) HCN) (by simp; omega) (by simp; omega) ?_; intro ao2 cap2 w2 hown2 hg2 hm2)
      go_ret
      have e : XS ++ [UInt8.ofNat n.toNat] = E := by rw [HX.out, HI.out]; simp
      have h := app_zs hown2
      rw [e] at h
      have e2 : XS.length + 1 = E.length := by rw [← e]; simp
      refine ⟨_, rfl, own_mono (base' := w.heap.size) (by rw [← e2] at h ⊢; exact h) (by omega), ?_⟩
      exact (b1.alloc hz1 _).grown hg2 (by simp; omega) (fun k hk => (by have := (hown1.lt k hk).1; omega))
    · go_wp2_with fail
      go_ret
      have e : XS = E := by rw [HX.out, HI.out]; simp
      rw [e] at hown1 ⊢
      exact ⟨_, rfl, own_mono hown1 (by omega), b1⟩
    · go_wp2_with (first
        | (go_at_call 53; refine (HM _).mono ?_; rintro e w2 ⟨ao2, cap2, rfl, hown2, hb2⟩; have hz2 := hb2.size; have b2 : Below w.heap.size w w2 := b1.trans (hb2.mono hz1); have R2 := R1.below hb2 lt1; have hownx := own_bl hown1 hb2)
        | (at_builtin; (refine wpList_app rfl (.tmp 25) (.tmp 28) rfl (w.heap.size + 1) (.slice ao1 XS.length cap1) XS.length (u8s XS) rfl hownx w2.heap.size _ M rfl (own_slice hown2) (by omega) (by omega) ?_); intro ao3 cap3 w3 hown3 hg3 hm3; have R3 := R2.same (hg3.block _ (by omega) (fun e => (by have := (hownx.lt _ e.symm).1; omega))); obtain ⟨a0, a1, a2, a3, a4, a5, fa, fl⟩ := R3.b6; have hz3 := hg3.size; have b3 : Below w.heap.size w w3 := b2.grown hg3 (by omega) (fun k hk => (by have := (hownx.lt k hk).1; omega)); have hown3' := app_zs hown3; obtain ⟨ZS, hZS⟩ : ∃ ZS, ZS = XS ++ M := ⟨_, rfl⟩; have HZ : Hid (ZS = XS ++ M) := hZS; rw [← hZS] at hown3'; have hzl : ZS.length ≤ 106 := (by rw [hZS, List.length_append]; omega); clear hZS)
        | (go_at_call 54; (refine (HA.out _ b3).mono ?_); rintro e w4 ⟨ao4, cap4, rfl, hown4, hb4⟩; have hz4 := hb4.size; have b4 : Below w.heap.size w w4 := b3.trans (hb4.mono (by omega)))
        | (at_builtin; (refine wpList_app rfl (.tmp 33) (.tmp 36) rfl (w.heap.size + 1) (.slice ao3 (XS.length + M.length) cap3) ZS.length (u8s ZS) rfl (own_bl hown3' hb4) w4.heap.size _ nb rfl (own_slice hown4) (by omega) (by omega) ?_); intro ao5 cap5 w5 hown5 hg5 hm5; have hown5' := app_zs hown5; have b5 : Below w.heap.size w w5 := b4.grown hg5 (by omega) (fun k hk => (by have := ((own_bl hown3' hb4).lt k hk).1; omega))))
      go_ret
      have e : ZS ++ nb = E := by rw [HZ.out, HX.out, HI.out]; simp
      have e2 : ZS.length + nb.length = E.length := by rw [← e]; simp
      rw [e] at hown5'
      exact ⟨_, rfl, own_mono (base' := w.heap.size) (by rw [← e2] at hown5' ⊢; exact hown5') (by omega), b5⟩
    · go_wp2_with (first
        | (go_at_call 53; refine (HM _).mono ?_; rintro e w2 ⟨ao2, cap2, rfl, hown2, hb2⟩; have hz2 := hb2.size; have b2 : Below w.heap.size w w2 := b1.trans (hb2.mono hz1); have R2 := R1.below hb2 lt1; have hownx := own_bl hown1 hb2)
        | (at_builtin; (refine wpList_app rfl (.tmp 25) (.tmp 28) rfl (w.heap.size + 1) (.slice ao1 XS.length cap1) XS.length (u8s XS) rfl hownx w2.heap.size _ M rfl (own_slice hown2) (by omega) (by omega) ?_); intro ao3 cap3 w3 hown3 hg3 hm3; have R3 := R2.same (hg3.block _ (by omega) (fun e => (by have := (hownx.lt _ e.symm).1; omega))); obtain ⟨a0, a1, a2, a3, a4, a5, fa, fl⟩ := R3.b6; have hz3 := hg3.size; have b3 : Below w.heap.size w w3 := b2.grown hg3 (by omega) (fun k hk => (by have := (hownx.lt k hk).1; omega)); have hown3' := app_zs hown3))
      go_ret
      have e : XS ++ M = E := by rw [HX.out, HI.out]; simp
      have e2 : XS.length + M.length = E.length := by rw [← e]; simp
      rw [e] at hown3'
      exact ⟨_, rfl, own_mono (base' := w.heap.size) (by rw [← e2] at hown3' ⊢; exact hown3') (by omega), b3⟩
end Go.Proofs.Ytkddkpdfeeikhaa.NT
