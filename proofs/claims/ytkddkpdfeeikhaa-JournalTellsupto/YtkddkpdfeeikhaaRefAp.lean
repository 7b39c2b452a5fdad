/-
  tgref1.Apply does what applyF says.
-/
import Derived.Test.YtkddkpdfeeikhaaJTellsProofM16
import Derived.Test.YtkddkpdfeeikhaaJTellsProofM17
import Derived.Test.YtkddkpdfeeikhaaJTellsProofM21
import Derived.Test.YtkddkpdfeeikhaaJTellsProofM22
import Derived.Test.YtkddkpdfeeikhaaJTellsProofM29
import Derived.Deep.RegionHeld3
import Derived.Deep.RegionLaw
namespace Go.Proofs.Ytkddkpdfeeikhaa
open Go.RowKit
set_option linter.unusedVariables false
set_option linter.unusedSimpArgs false

attribute [local go_sem ↓] Go.wp_at_zero Go.wp_at_succ

/-- A hall is answered, its blocks are S's or made. -/
def ApAns (S : Nat → Prop) (h' : HD) (w : World) (r : Ending) (w' : World) : Prop :=
  ∃ va vc, r = .returned (.agg #[.slice va h'.queues.length vc, .int .i64 h'.next]) ∧ SliceQ (SM S w w') w' (.slice va h'.queues.length vc) h'.queues ∧ Below w.heap.size w w'

/-- A hall in its box, behind some of the steps from w. -/
structure AP (S : Nat → Prop) (w W : World) (va : Option Addr) (vc : Nat) (h' : HD) : Prop where
  bel : Below w.heap.size w W
  hbox : Blk W w.heap.size [.slice va h'.queues.length vc, .int .i64 h'.next]
  res : Blk W (w.heap.size + 2) [.slice none 0 0, .int .i64 0]
  qs : SliceQ (fun b => S b ∨ (w.heap.size + 3 ≤ b ∧ b < W.heap.size)) W (.slice va h'.queues.length vc) h'.queues

theorem AP.ans {S : Nat → Prop} {w W : World} {va : Option Addr} {vc : Nat} {h' : HD} (H : AP S w W va vc h') (hS : ∀ b, S b → b < w.heap.size) :
    ApAns S h' w (.returned (.agg #[.slice va h'.queues.length vc, .int .i64 h'.next])) ((W.setCell ⟨w.heap.size + 2, 0, none⟩ (.slice va h'.queues.length vc)).setCell ⟨w.heap.size + 2, 1, none⟩ (.int .i64 h'.next)) := by
  have far : ∀ b, b ≠ w.heap.size + 2 → ((W.setCell ⟨w.heap.size + 2, 0, none⟩ (.slice va h'.queues.length vc)).setCell ⟨w.heap.size + 2, 1, none⟩ (.int .i64 h'.next)).heap[b]? = W.heap[b]? := fun b hb => by
    rw [Below.heap_setCell _ _ _ _ hb, Below.heap_setCell _ _ _ _ hb]
  refine ⟨va, vc, rfl, H.qs.sub fun b hb => ⟨?_, far b ?_⟩, (H.bel.setCell (show w.heap.size ≤ w.heap.size + 2 by omega) _).setCell (show w.heap.size ≤ w.heap.size + 2 by omega) _⟩
  · rcases hb with hb | hb
    · exact .inl hb
    · exact .inr ⟨by omega, by simpa using hb.2⟩
  · rcases hb with hb | hb
    · have := hS b hb; omega
    · omega

/-- The hall's box is another hall's. -/
theorem AP.store {S : Nat → Prop} {w W : World} {va : Option Addr} {vc : Nat} {qs : List QD} {x y : Value} (hS : ∀ b, S b → b < w.heap.size) (hB : Below w.heap.size w W) (hb : Blk W w.heap.size [x, y]) (hr : Blk W (w.heap.size + 2) [.slice none 0 0, .int .i64 0]) (hq : SliceQ (fun b => S b ∨ (w.heap.size + 3 ≤ b ∧ b < W.heap.size)) W (.slice va qs.length vc) qs) (nx : Int) :
    AP S w ((W.setCell ⟨w.heap.size, 0, none⟩ (.slice va qs.length vc)).setCell ⟨w.heap.size, 1, none⟩ (.int .i64 nx)) va vc ⟨qs, nx⟩ := by
  have far : ∀ b, b ≠ w.heap.size → ((W.setCell ⟨w.heap.size, 0, none⟩ (.slice va qs.length vc)).setCell ⟨w.heap.size, 1, none⟩ (.int .i64 nx)).heap[b]? = W.heap[b]? := fun b hb => by
    rw [Below.heap_setCell _ _ _ _ hb, Below.heap_setCell _ _ _ _ hb]
  refine ⟨(hB.setCell (Nat.le_refl _) _).setCell (Nat.le_refl _) _, (hb.set 0 _).set 1 _, hr.same (far _ (by omega)), hq.sub fun b hb => ⟨hb.imp (fun h => h) (fun h => ⟨h.1, by simpa using h.2⟩), far b ?_⟩⟩
  rcases hb with hb | hb
  · have := hS b hb; omega
  · omega
theorem AP.next {S : Nat → Prop} {w W : World} {va : Option Addr} {vc : Nat} {qs : List QD} {nx : Int} (hS : ∀ b, S b → b < w.heap.size) (H : AP S w W va vc ⟨qs, nx⟩) (nx' : Int) : AP S w (W.setCell ⟨w.heap.size, 1, none⟩ (.int .i64 nx')) va vc ⟨qs, nx'⟩ := by
  have far : ∀ b, b ≠ w.heap.size → (W.setCell ⟨w.heap.size, 1, none⟩ (.int .i64 nx')).heap[b]? = W.heap[b]? := fun b hb => Below.heap_setCell _ _ _ _ hb
  refine ⟨H.bel.setCell (Nat.le_refl _) _, H.hbox.set 1 _, H.res.same (far _ (by omega)), H.qs.sub fun b hb => ⟨hb.imp (fun h => h) (fun h => ⟨h.1, by simpa using h.2⟩), far b ?_⟩⟩
  rcases hb with hb | hb
  · have := hS b hb; omega
  · omega

set_option maxRecDepth 100000 in
set_option maxHeartbeats 6400000 in
theorem refApply_none (S : Nat → Prop) (v : Value) (h : HD) (kind : Int) (queue : ByteArray) (en id : Int) (nt : ND) (pv bv : Value) (w : World) (hS : ∀ b, S b → b < w.heap.size) (hv : SliceQ S w v h.queues) (hsm : smallQ h.queues) (hnt : NoteIs S w (pv, bv) nt) (hix : idxQ queue h.queues = -1) (hkd : kind ≠ 1) :
    Calls Try.prog 18 #[.agg #[v, .int .i64 h.next], .agg #[.int .i64 kind, .string queue, .int .i64 en, .int .i64 id, pv, bv]] w (ApAns S ⟨h.queues, h.next⟩ w) := by
  have HV : Hid (SliceQ S w v h.queues) := hv
  have HSS : Hid (∀ b, S b → b < w.heap.size) := hS
  have HM : Hid (smallQ h.queues) := hsm
  have HNT : Hid (NoteIs S w (pv, bv) nt) := hnt
  obtain ⟨va, vc, rfl, hv1, hv2, -⟩ := hv.shape
  obtain ⟨pa, pc, rfl, -⟩ := SliceV.shape hnt.1
  obtain ⟨ba, bc, rfl, -⟩ := SliceV.shape hnt.2
  unfold maxLen at hv2
  clear hv hS hnt
  obtain ⟨n, hn⟩ : ∃ n, n = h.queues.length := ⟨_, rfl⟩
  have HN : Hid (n = h.queues.length) := hn
  have hnl : n ≤ 4194304 := by rw [hn]; exact hsm.1
  rw [← hn] at HV hv1
  rw [← hn]
  obtain ⟨pn, hpn⟩ : ∃ pn, pn = nt.props.length := ⟨_, rfl⟩
  obtain ⟨bn, hbn⟩ : ∃ bn, bn = nt.body.length := ⟨_, rfl⟩
  rw [← hpn, ← hbn] at HNT
  have HNT2 : Hid (NoteIs S w (.slice pa pn pc, .slice ba bn bc) nt) := HNT
  rw [← hpn, ← hbn]
  obtain ⟨A, hA⟩ : ∃ A, A = ((w.alloc (.cells #[.slice va n vc, .int .i64 h.next] 24)).alloc (.cells #[.int .i64 kind, .string queue, .int .i64 en, .int .i64 id, .slice pa pn pc, .slice ba bn bc] 30)).alloc (.cells #[.slice none 0 0, .int .i64 0] 24) := ⟨_, rfl⟩
  have hAz : A.heap.size = w.heap.size + 3 := by rw [hA]; simp
  have KA : Hid (∀ W, Below A.heap.size A W → Below w.heap.size w W ∧ Blk W w.heap.size [.slice va n vc, .int .i64 h.next] ∧ Blk W (w.heap.size + 1) [.int .i64 kind, .string queue, .int .i64 en, .int .i64 id, .slice pa pn pc, .slice ba bn bc] ∧ Blk W (w.heap.size + 2) [.slice none 0 0, .int .i64 0] ∧ SliceQ S W (.slice va n vc) h.queues ∧ NoteIs S W (.slice pa pn pc, .slice ba bn bc) nt ∧ w.heap.size + 3 ≤ W.heap.size ∧ ∀ b, S b → b < W.heap.size) := by
    have hAB : Below w.heap.size w A := by rw [hA]; exact ((below_alloc _ _).alloc (by simp) _).alloc (by simp; omega) _
    have hA0 : Blk A w.heap.size [.slice va n vc, .int .i64 h.next] := by rw [hA]; exact ((Blk.new _ _ _).alloc _).alloc _
    have hA1 : Blk A (w.heap.size + 1) [.int .i64 kind, .string queue, .int .i64 en, .int .i64 id, .slice pa pn pc, .slice ba bn bc] := by
      rw [hA]
      have := (Blk.new (w.alloc (.cells #[.slice va n vc, .int .i64 h.next] 24)) [.int .i64 kind, .string queue, .int .i64 en, .int .i64 id, .slice pa pn pc, .slice ba bn bc] 30).alloc (.cells #[.slice none 0 0, .int .i64 0] 24)
      simpa using this
    have hA2 : Blk A (w.heap.size + 2) [.slice none 0 0, .int .i64 0] := by
      rw [hA]
      have := Blk.new ((w.alloc (.cells #[.slice va n vc, .int .i64 h.next] 24)).alloc (.cells #[.int .i64 kind, .string queue, .int .i64 en, .int .i64 id, .slice pa pn pc, .slice ba bn bc] 30)) [.slice none 0 0, .int .i64 0] 24
      simpa using this
    show ∀ W, Below A.heap.size A W → _
    intro W hW
    have hz := hW.size
    have hB : Below w.heap.size w W := hAB.trans (hW.mono (by omega))
    exact ⟨hB, hA0.below hW (by omega), hA1.below hW (by omega), hA2.below hW (by omega), HV.out.sub fun b hb => ⟨hb, hB.block b (HSS.out b hb)⟩, HNT.out.sub fun b hb => ⟨hb, hB.block b (HSS.out b hb)⟩, by omega, fun b hb => by have := HSS.out b hb; omega⟩
  clear hn hpn hbn
  have ny : Hid True := trivial
  obtain ⟨a0, a1, a2, a3⟩ := (KA.out A (Below.refl _ _)).2.1.b2
  obtain ⟨e0, e1, e2, e3, e4, e5, e6, e7⟩ := (KA.out A (Below.refl _ _)).2.2.1.b6
  have HI : Hid (idxQ queue h.queues = -1) := hix
  have hk1 : (kind == 1) = false := by simp [hkd]
  go_enter Try.func18, Try.ntmps18
  go_upto_region 1 with fail
  rw [← hA]
  clear hA
  go_upto_region 2 with (go_at_call 56; refine (refFind_any queue _ h.next h.queues A ((KA.out A (Below.refl _ _)).2.2.2.2.1.sub fun b hb => ⟨(KA.out A (Below.refl _ _)).2.2.2.2.2.2.2 b hb, rfl⟩)).mono ?_; rw [HI.out]; rintro r w1 ⟨rfl, hb1⟩; have HB1 : Hid (Below A.heap.size A w1) := hb1; obtain ⟨c0, c1, c2, c3⟩ := (KA.out w1 hb1).2.1.b2; obtain ⟨f0, f1, f2, f3, f4, f5, f6, f7⟩ := (KA.out w1 hb1).2.2.1.b6; obtain ⟨r0, r1, r2, r3⟩ := (KA.out w1 hb1).2.2.2.1.b2; have hz1 := (KA.out w1 hb1).2.2.2.2.2.2.1; clear hb1)
  clear a0 a1 a2 a3 e0 e1 e2 e3 e4 e5 e6 e7
  have HEND := AP.ans (S := S) (w := w) (W := w1) (va := va) (vc := vc) (h' := ⟨h.queues, h.next⟩) ⟨(KA.out w1 HB1.out).1, by have h := (KA.out w1 HB1.out).2.1; rw [HN.out] at h; exact h, (KA.out w1 HB1.out).2.2.2.1, by have h := (KA.out w1 HB1.out).2.2.2.2.1; rw [HN.out] at h; exact h.sub fun b hb => ⟨.inl hb, rfl⟩⟩ HSS.out
  simp only [← HN.out] at HEND
  have n1 : w.heap.size + 2 ≠ w.heap.size := by omega
  go_wp2_with fail
  exact bodyPost_ret (v := .agg #[.slice va n vc, .int .i64 h.next]) (by simp [results, Try.results18, go_sem, *]; done) rfl HEND

set_option maxRecDepth 100000 in
set_option maxHeartbeats 6400000 in
theorem refApply_other (S : Nat → Prop) (v : Value) (h : HD) (kind : Int) (queue : ByteArray) (en id : Int) (nt : ND) (pv bv : Value) (w : World) (hS : ∀ b, S b → b < w.heap.size) (hv : SliceQ S w v h.queues) (hsm : smallQ h.queues) (hnt : NoteIs S w (pv, bv) nt) (k : Nat) (hk : k < h.queues.length) (hix : idxQ queue h.queues = (k : Int)) (hkd : kind ≠ 1 ∧ kind ≠ 2 ∧ kind ≠ 3 ∧ kind ≠ 4) :
    Calls Try.prog 18 #[.agg #[v, .int .i64 h.next], .agg #[.int .i64 kind, .string queue, .int .i64 en, .int .i64 id, pv, bv]] w (ApAns S ⟨h.queues, h.next⟩ w) := by
  have HV : Hid (SliceQ S w v h.queues) := hv
  have HSS : Hid (∀ b, S b → b < w.heap.size) := hS
  have HM : Hid (smallQ h.queues) := hsm
  have HNT : Hid (NoteIs S w (pv, bv) nt) := hnt
  obtain ⟨va, vc, rfl, hv1, hv2, -⟩ := hv.shape
  obtain ⟨pa, pc, rfl, -⟩ := SliceV.shape hnt.1
  obtain ⟨ba, bc, rfl, -⟩ := SliceV.shape hnt.2
  unfold maxLen at hv2
  clear hv hS hnt
  obtain ⟨n, hn⟩ : ∃ n, n = h.queues.length := ⟨_, rfl⟩
  have HN : Hid (n = h.queues.length) := hn
  have hnl : n ≤ 4194304 := by rw [hn]; exact hsm.1
  rw [← hn] at HV hv1
  rw [← hn]
  obtain ⟨pn, hpn⟩ : ∃ pn, pn = nt.props.length := ⟨_, rfl⟩
  obtain ⟨bn, hbn⟩ : ∃ bn, bn = nt.body.length := ⟨_, rfl⟩
  rw [← hpn, ← hbn] at HNT
  have HNT2 : Hid (NoteIs S w (.slice pa pn pc, .slice ba bn bc) nt) := HNT
  rw [← hpn, ← hbn]
  obtain ⟨A, hA⟩ : ∃ A, A = ((w.alloc (.cells #[.slice va n vc, .int .i64 h.next] 24)).alloc (.cells #[.int .i64 kind, .string queue, .int .i64 en, .int .i64 id, .slice pa pn pc, .slice ba bn bc] 30)).alloc (.cells #[.slice none 0 0, .int .i64 0] 24) := ⟨_, rfl⟩
  have hAz : A.heap.size = w.heap.size + 3 := by rw [hA]; simp
  have KA : Hid (∀ W, Below A.heap.size A W → Below w.heap.size w W ∧ Blk W w.heap.size [.slice va n vc, .int .i64 h.next] ∧ Blk W (w.heap.size + 1) [.int .i64 kind, .string queue, .int .i64 en, .int .i64 id, .slice pa pn pc, .slice ba bn bc] ∧ Blk W (w.heap.size + 2) [.slice none 0 0, .int .i64 0] ∧ SliceQ S W (.slice va n vc) h.queues ∧ NoteIs S W (.slice pa pn pc, .slice ba bn bc) nt ∧ w.heap.size + 3 ≤ W.heap.size ∧ ∀ b, S b → b < W.heap.size) := by
    have hAB : Below w.heap.size w A := by rw [hA]; exact ((below_alloc _ _).alloc (by simp) _).alloc (by simp; omega) _
    have hA0 : Blk A w.heap.size [.slice va n vc, .int .i64 h.next] := by rw [hA]; exact ((Blk.new _ _ _).alloc _).alloc _
    have hA1 : Blk A (w.heap.size + 1) [.int .i64 kind, .string queue, .int .i64 en, .int .i64 id, .slice pa pn pc, .slice ba bn bc] := by
      rw [hA]
      have := (Blk.new (w.alloc (.cells #[.slice va n vc, .int .i64 h.next] 24)) [.int .i64 kind, .string queue, .int .i64 en, .int .i64 id, .slice pa pn pc, .slice ba bn bc] 30).alloc (.cells #[.slice none 0 0, .int .i64 0] 24)
      simpa using this
    have hA2 : Blk A (w.heap.size + 2) [.slice none 0 0, .int .i64 0] := by
      rw [hA]
      have := Blk.new ((w.alloc (.cells #[.slice va n vc, .int .i64 h.next] 24)).alloc (.cells #[.int .i64 kind, .string queue, .int .i64 en, .int .i64 id, .slice pa pn pc, .slice ba bn bc] 30)) [.slice none 0 0, .int .i64 0] 24
      simpa using this
    show ∀ W, Below A.heap.size A W → _
    intro W hW
    have hz := hW.size
    have hB : Below w.heap.size w W := hAB.trans (hW.mono (by omega))
    exact ⟨hB, hA0.below hW (by omega), hA1.below hW (by omega), hA2.below hW (by omega), HV.out.sub fun b hb => ⟨hb, hB.block b (HSS.out b hb)⟩, HNT.out.sub fun b hb => ⟨hb, hB.block b (HSS.out b hb)⟩, by omega, fun b hb => by have := HSS.out b hb; omega⟩
  clear hn hpn hbn
  have ny : Hid True := trivial
  obtain ⟨a0, a1, a2, a3⟩ := (KA.out A (Below.refl _ _)).2.1.b2
  obtain ⟨e0, e1, e2, e3, e4, e5, e6, e7⟩ := (KA.out A (Below.refl _ _)).2.2.1.b6
  have HI : Hid (idxQ queue h.queues = (k : Int)) := hix
  have hkn : k < n := by rw [HN.out]; exact hk
  have hki : (k : Int) < (n : Int) := by omega
  have hk0 : ¬ (k : Int) < 0 := by omega
  obtain ⟨bq, oq, ia, ic, rfl, hSb, hq, y0, y1, y2⟩ := HV.out.at k hk
  obtain ⟨q, hqe⟩ : ∃ q, q = h.queues[k] := ⟨_, rfl⟩
  obtain ⟨m, hm⟩ : ∃ m, m = q.items.length := ⟨_, rfl⟩
  rw [← hqe] at hq y0 y1 y2
  rw [← hm] at hq y2
  have hsmq : smallI q.items := by rw [hqe]; exact HM.out.2 _ (List.getElem_mem hk)
  have HQ : Hid (q = h.queues[k] ∧ m = q.items.length ∧ SliceI S w (.slice ia m ic) q.items ∧ smallI q.items) := ⟨hqe, hm, hq, hsmq⟩
  have hml : m ≤ 4194304 := by rw [hm]; exact hsmq.1
  have hbw : bq < w.heap.size := HSS.out bq hSb
  have HY : Hid (∀ W, Below A.heap.size A W → W.cell? ⟨bq, oq + k * 3, none⟩ = some (.string q.name) ∧ W.cell? ⟨bq, oq + k * 3 + 1, none⟩ = some (.int .i64 q.limit) ∧ W.cell? ⟨bq, oq + k * 3 + 2, none⟩ = some (.slice ia m ic) ∧ SliceI S W (.slice ia m ic) q.items) := by
    show ∀ W, Below A.heap.size A W → _
    intro W hW
    have hB := (KA.out W hW).1
    exact ⟨bel_c hB hbw y0, bel_c hB hbw y1, bel_c hB hbw y2, HQ.out.2.2.1.sub fun b hb => ⟨hb, hB.block b (HSS.out b hb)⟩⟩
  clear y0 y1 y2 hq hqe hm hsmq hSb
  have hk1 : (kind == 1) = false := by simp [hkd.1]
  have hk2 : (kind == 2) = false := by simp [hkd.2.1]
  have hk3 : (kind == 3) = false := by simp [hkd.2.2.1]
  have hk4 : (kind == 4) = false := by simp [hkd.2.2.2]
  go_enter Try.func18, Try.ntmps18
  go_upto_region 1 with fail
  rw [← hA]
  clear hA
  go_upto_region 2 with (go_at_call 56; refine (refFind_any queue _ h.next h.queues A ((KA.out A (Below.refl _ _)).2.2.2.2.1.sub fun b hb => ⟨(KA.out A (Below.refl _ _)).2.2.2.2.2.2.2 b hb, rfl⟩)).mono ?_; rw [HI.out]; rintro r w1 ⟨rfl, hb1⟩; have HB1 : Hid (Below A.heap.size A w1) := hb1; obtain ⟨c0, c1, c2, c3⟩ := (KA.out w1 hb1).2.1.b2; obtain ⟨f0, f1, f2, f3, f4, f5, f6, f7⟩ := (KA.out w1 hb1).2.2.1.b6; obtain ⟨r0, r1, r2, r3⟩ := (KA.out w1 hb1).2.2.2.1.b2; have hz1 := (KA.out w1 hb1).2.2.2.2.2.2.1; clear hb1)
  clear a0 a1 a2 a3 e0 e1 e2 e3 e4 e5 e6 e7
  have HE : Hid (∀ W, Below A.heap.size A W → ApAns S ⟨h.queues, h.next⟩ w (.returned (.agg #[.slice (some ⟨bq, oq, none⟩) n vc, .int .i64 h.next])) ((W.setCell ⟨w.heap.size + 2, 0, none⟩ (.slice (some ⟨bq, oq, none⟩) n vc)).setCell ⟨w.heap.size + 2, 1, none⟩ (.int .i64 h.next))) := by
    show ∀ W, Below A.heap.size A W → _
    intro W hW
    have hk := KA.out W hW
    have h := AP.ans (S := S) (w := w) (W := W) (va := some ⟨bq, oq, none⟩) (vc := vc) (h' := ⟨h.queues, h.next⟩) ⟨hk.1, by have h := hk.2.1; rw [HN.out] at h; exact h, hk.2.2.2.1, by have h := hk.2.2.2.2.1; rw [HN.out] at h; exact h.sub fun b hb => ⟨.inl hb, rfl⟩⟩ HSS.out
    simp only [← HN.out] at h
    exact h
  obtain ⟨y0, y1, y2, -⟩ := HY.out w1 HB1.out
  have n1 : w.heap.size + 2 ≠ w.heap.size := by omega
  obtain ⟨C, hC⟩ : ∃ C, C = w1.alloc (.cells #[.string q.name, .int .i64 q.limit, .slice ia m ic] 76) := ⟨_, rfl⟩
  have HC : Hid (Below A.heap.size A C) := by rw [hC]; exact HB1.out.alloc HB1.out.size _
  have HFF : Hid (ApAns S ⟨h.queues, h.next⟩ w (.returned (.agg #[.slice (some ⟨bq, oq, none⟩) n vc, .int .i64 h.next])) _) := HE.out C HC.out
  go_upto_region 26 with fail
  rw [← hC]
  clear hC c0 c1 c2 c3 f0 f1 f2 f3 f4 f5 f6 f7 r0 r1 r2 r3 y0 y1 y2
  obtain ⟨c0, c1, c2, c3⟩ := (KA.out C HC.out).2.1.b2
  obtain ⟨r0, r1, r2, r3⟩ := (KA.out C HC.out).2.2.2.1.b2
  go_wp2_with fail
  exact bodyPost_ret (v := .agg #[.slice (some ⟨bq, oq, none⟩) n vc, .int .i64 h.next]) (by simp [results, Try.results18, go_sem, *]; done) rfl HFF.out

set_option maxRecDepth 100000 in
set_option maxHeartbeats 6400000 in
theorem refApply_made (S : Nat → Prop) (v : Value) (h : HD) (kind : Int) (queue : ByteArray) (en id : Int) (nt : ND) (pv bv : Value) (w : World) (hS : ∀ b, S b → b < w.heap.size) (hv : SliceQ S w v h.queues) (hsm : smallQ h.queues) (hnt : NoteIs S w (pv, bv) nt) (k : Nat) (hk : k < h.queues.length) (hix : idxQ queue h.queues = (k : Int)) (hkd : kind = 1) :
    Calls Try.prog 18 #[.agg #[v, .int .i64 h.next], .agg #[.int .i64 kind, .string queue, .int .i64 en, .int .i64 id, pv, bv]] w (ApAns S ⟨h.queues, h.next⟩ w) := by
  have HV : Hid (SliceQ S w v h.queues) := hv
  have HSS : Hid (∀ b, S b → b < w.heap.size) := hS
  have HM : Hid (smallQ h.queues) := hsm
  have HNT : Hid (NoteIs S w (pv, bv) nt) := hnt
  obtain ⟨va, vc, rfl, hv1, hv2, -⟩ := hv.shape
  obtain ⟨pa, pc, rfl, -⟩ := SliceV.shape hnt.1
  obtain ⟨ba, bc, rfl, -⟩ := SliceV.shape hnt.2
  unfold maxLen at hv2
  clear hv hS hnt
  obtain ⟨n, hn⟩ : ∃ n, n = h.queues.length := ⟨_, rfl⟩
  have HN : Hid (n = h.queues.length) := hn
  have hnl : n ≤ 4194304 := by rw [hn]; exact hsm.1
  rw [← hn] at HV hv1
  rw [← hn]
  obtain ⟨pn, hpn⟩ : ∃ pn, pn = nt.props.length := ⟨_, rfl⟩
  obtain ⟨bn, hbn⟩ : ∃ bn, bn = nt.body.length := ⟨_, rfl⟩
  rw [← hpn, ← hbn] at HNT
  have HNT2 : Hid (NoteIs S w (.slice pa pn pc, .slice ba bn bc) nt) := HNT
  rw [← hpn, ← hbn]
  obtain ⟨A, hA⟩ : ∃ A, A = ((w.alloc (.cells #[.slice va n vc, .int .i64 h.next] 24)).alloc (.cells #[.int .i64 kind, .string queue, .int .i64 en, .int .i64 id, .slice pa pn pc, .slice ba bn bc] 30)).alloc (.cells #[.slice none 0 0, .int .i64 0] 24) := ⟨_, rfl⟩
  have hAz : A.heap.size = w.heap.size + 3 := by rw [hA]; simp
  have KA : Hid (∀ W, Below A.heap.size A W → Below w.heap.size w W ∧ Blk W w.heap.size [.slice va n vc, .int .i64 h.next] ∧ Blk W (w.heap.size + 1) [.int .i64 kind, .string queue, .int .i64 en, .int .i64 id, .slice pa pn pc, .slice ba bn bc] ∧ Blk W (w.heap.size + 2) [.slice none 0 0, .int .i64 0] ∧ SliceQ S W (.slice va n vc) h.queues ∧ NoteIs S W (.slice pa pn pc, .slice ba bn bc) nt ∧ w.heap.size + 3 ≤ W.heap.size ∧ ∀ b, S b → b < W.heap.size) := by
    have hAB : Below w.heap.size w A := by rw [hA]; exact ((below_alloc _ _).alloc (by simp) _).alloc (by simp; omega) _
    have hA0 : Blk A w.heap.size [.slice va n vc, .int .i64 h.next] := by rw [hA]; exact ((Blk.new _ _ _).alloc _).alloc _
    have hA1 : Blk A (w.heap.size + 1) [.int .i64 kind, .string queue, .int .i64 en, .int .i64 id, .slice pa pn pc, .slice ba bn bc] := by
      rw [hA]
      have := (Blk.new (w.alloc (.cells #[.slice va n vc, .int .i64 h.next] 24)) [.int .i64 kind, .string queue, .int .i64 en, .int .i64 id, .slice pa pn pc, .slice ba bn bc] 30).alloc (.cells #[.slice none 0 0, .int .i64 0] 24)
      simpa using this
    have hA2 : Blk A (w.heap.size + 2) [.slice none 0 0, .int .i64 0] := by
      rw [hA]
      have := Blk.new ((w.alloc (.cells #[.slice va n vc, .int .i64 h.next] 24)).alloc (.cells #[.int .i64 kind, .string queue, .int .i64 en, .int .i64 id, .slice pa pn pc, .slice ba bn bc] 30)) [.slice none 0 0, .int .i64 0] 24
      simpa using this
    show ∀ W, Below A.heap.size A W → _
    intro W hW
    have hz := hW.size
    have hB : Below w.heap.size w W := hAB.trans (hW.mono (by omega))
    exact ⟨hB, hA0.below hW (by omega), hA1.below hW (by omega), hA2.below hW (by omega), HV.out.sub fun b hb => ⟨hb, hB.block b (HSS.out b hb)⟩, HNT.out.sub fun b hb => ⟨hb, hB.block b (HSS.out b hb)⟩, by omega, fun b hb => by have := HSS.out b hb; omega⟩
  clear hn hpn hbn
  have ny : Hid True := trivial
  obtain ⟨a0, a1, a2, a3⟩ := (KA.out A (Below.refl _ _)).2.1.b2
  obtain ⟨e0, e1, e2, e3, e4, e5, e6, e7⟩ := (KA.out A (Below.refl _ _)).2.2.1.b6
  subst hkd
  have HI : Hid (idxQ queue h.queues = (k : Int)) := hix
  have hkn : k < n := by rw [HN.out]; exact hk
  have hki : (k : Int) < (n : Int) := by omega
  have hk0 : ¬ (k : Int) < 0 := by omega
  obtain ⟨bq, oq, ia, ic, rfl, hSb, hq, y0, y1, y2⟩ := HV.out.at k hk
  obtain ⟨q, hqe⟩ : ∃ q, q = h.queues[k] := ⟨_, rfl⟩
  obtain ⟨m, hm⟩ : ∃ m, m = q.items.length := ⟨_, rfl⟩
  rw [← hqe] at hq y0 y1 y2
  rw [← hm] at hq y2
  have hsmq : smallI q.items := by rw [hqe]; exact HM.out.2 _ (List.getElem_mem hk)
  have HQ : Hid (q = h.queues[k] ∧ m = q.items.length ∧ SliceI S w (.slice ia m ic) q.items ∧ smallI q.items) := ⟨hqe, hm, hq, hsmq⟩
  have hml : m ≤ 4194304 := by rw [hm]; exact hsmq.1
  have hbw : bq < w.heap.size := HSS.out bq hSb
  have HY : Hid (∀ W, Below A.heap.size A W → W.cell? ⟨bq, oq + k * 3, none⟩ = some (.string q.name) ∧ W.cell? ⟨bq, oq + k * 3 + 1, none⟩ = some (.int .i64 q.limit) ∧ W.cell? ⟨bq, oq + k * 3 + 2, none⟩ = some (.slice ia m ic) ∧ SliceI S W (.slice ia m ic) q.items) := by
    show ∀ W, Below A.heap.size A W → _
    intro W hW
    have hB := (KA.out W hW).1
    exact ⟨bel_c hB hbw y0, bel_c hB hbw y1, bel_c hB hbw y2, HQ.out.2.2.1.sub fun b hb => ⟨hb, hB.block b (HSS.out b hb)⟩⟩
  clear y0 y1 y2 hq hqe hm hsmq hSb
  go_enter Try.func18, Try.ntmps18
  go_upto_region 1 with fail
  rw [← hA]
  clear hA
  go_upto_region 2 with (go_at_call 56; refine (refFind_any queue _ h.next h.queues A ((KA.out A (Below.refl _ _)).2.2.2.2.1.sub fun b hb => ⟨(KA.out A (Below.refl _ _)).2.2.2.2.2.2.2 b hb, rfl⟩)).mono ?_; rw [HI.out]; rintro r w1 ⟨rfl, hb1⟩; have HB1 : Hid (Below A.heap.size A w1) := hb1; obtain ⟨c0, c1, c2, c3⟩ := (KA.out w1 hb1).2.1.b2; obtain ⟨f0, f1, f2, f3, f4, f5, f6, f7⟩ := (KA.out w1 hb1).2.2.1.b6; obtain ⟨r0, r1, r2, r3⟩ := (KA.out w1 hb1).2.2.2.1.b2; have hz1 := (KA.out w1 hb1).2.2.2.2.2.2.1; clear hb1)
  clear a0 a1 a2 a3 e0 e1 e2 e3 e4 e5 e6 e7
  have HE : Hid (∀ W, Below A.heap.size A W → ApAns S ⟨h.queues, h.next⟩ w (.returned (.agg #[.slice (some ⟨bq, oq, none⟩) n vc, .int .i64 h.next])) ((W.setCell ⟨w.heap.size + 2, 0, none⟩ (.slice (some ⟨bq, oq, none⟩) n vc)).setCell ⟨w.heap.size + 2, 1, none⟩ (.int .i64 h.next))) := by
    show ∀ W, Below A.heap.size A W → _
    intro W hW
    have hk := KA.out W hW
    have h := AP.ans (S := S) (w := w) (W := W) (va := some ⟨bq, oq, none⟩) (vc := vc) (h' := ⟨h.queues, h.next⟩) ⟨hk.1, by have h := hk.2.1; rw [HN.out] at h; exact h, hk.2.2.2.1, by have h := hk.2.2.2.2.1; rw [HN.out] at h; exact h.sub fun b hb => ⟨.inl hb, rfl⟩⟩ HSS.out
    simp only [← HN.out] at h
    exact h
  obtain ⟨y0, y1, y2, -⟩ := HY.out w1 HB1.out
  have n1 : w.heap.size + 2 ≠ w.heap.size := by omega
  obtain ⟨C, hC⟩ : ∃ C, C = w1.alloc (.cells #[.string q.name, .int .i64 q.limit, .slice ia m ic] 76) := ⟨_, rfl⟩
  have HC : Hid (Below A.heap.size A C) := by rw [hC]; exact HB1.out.alloc HB1.out.size _
  have HFF : Hid (ApAns S ⟨h.queues, h.next⟩ w (.returned (.agg #[.slice (some ⟨bq, oq, none⟩) n vc, .int .i64 h.next])) _) := HE.out C HC.out
  go_upto_region 26 with fail
  rw [← hC]
  clear hC c0 c1 c2 c3 f0 f1 f2 f3 f4 f5 f6 f7 r0 r1 r2 r3 y0 y1 y2
  obtain ⟨c0, c1, c2, c3⟩ := (KA.out C HC.out).2.1.b2
  obtain ⟨r0, r1, r2, r3⟩ := (KA.out C HC.out).2.2.2.1.b2
  go_wp2_with fail
  exact bodyPost_ret (v := .agg #[.slice (some ⟨bq, oq, none⟩) n vc, .int .i64 h.next]) (by simp [results, Try.results18, go_sem, *]; done) rfl HFF.out

set_option maxRecDepth 100000 in
set_option maxHeartbeats 6400000 in
theorem refApply_drop (S : Nat → Prop) (v : Value) (h : HD) (kind : Int) (queue : ByteArray) (en id : Int) (nt : ND) (pv bv : Value) (w : World) (hS : ∀ b, S b → b < w.heap.size) (hv : SliceQ S w v h.queues) (hsm : smallQ h.queues) (hnt : NoteIs S w (pv, bv) nt) (k : Nat) (hk : k < h.queues.length) (hix : idxQ queue h.queues = (k : Int)) (hkd : kind = 2) :
    Calls Try.prog 18 #[.agg #[v, .int .i64 h.next], .agg #[.int .i64 kind, .string queue, .int .i64 en, .int .i64 id, pv, bv]] w (ApAns S ⟨h.queues.eraseIdx k, h.next⟩ w) := by
  have HV : Hid (SliceQ S w v h.queues) := hv
  have HSS : Hid (∀ b, S b → b < w.heap.size) := hS
  have HM : Hid (smallQ h.queues) := hsm
  have HNT : Hid (NoteIs S w (pv, bv) nt) := hnt
  obtain ⟨va, vc, rfl, hv1, hv2, -⟩ := hv.shape
  obtain ⟨pa, pc, rfl, -⟩ := SliceV.shape hnt.1
  obtain ⟨ba, bc, rfl, -⟩ := SliceV.shape hnt.2
  unfold maxLen at hv2
  clear hv hS hnt
  obtain ⟨n, hn⟩ : ∃ n, n = h.queues.length := ⟨_, rfl⟩
  have HN : Hid (n = h.queues.length) := hn
  have hnl : n ≤ 4194304 := by rw [hn]; exact hsm.1
  rw [← hn] at HV hv1
  rw [← hn]
  obtain ⟨pn, hpn⟩ : ∃ pn, pn = nt.props.length := ⟨_, rfl⟩
  obtain ⟨bn, hbn⟩ : ∃ bn, bn = nt.body.length := ⟨_, rfl⟩
  rw [← hpn, ← hbn] at HNT
  have HNT2 : Hid (NoteIs S w (.slice pa pn pc, .slice ba bn bc) nt) := HNT
  rw [← hpn, ← hbn]
  obtain ⟨A, hA⟩ : ∃ A, A = ((w.alloc (.cells #[.slice va n vc, .int .i64 h.next] 24)).alloc (.cells #[.int .i64 kind, .string queue, .int .i64 en, .int .i64 id, .slice pa pn pc, .slice ba bn bc] 30)).alloc (.cells #[.slice none 0 0, .int .i64 0] 24) := ⟨_, rfl⟩
  have hAz : A.heap.size = w.heap.size + 3 := by rw [hA]; simp
  have KA : Hid (∀ W, Below A.heap.size A W → Below w.heap.size w W ∧ Blk W w.heap.size [.slice va n vc, .int .i64 h.next] ∧ Blk W (w.heap.size + 1) [.int .i64 kind, .string queue, .int .i64 en, .int .i64 id, .slice pa pn pc, .slice ba bn bc] ∧ Blk W (w.heap.size + 2) [.slice none 0 0, .int .i64 0] ∧ SliceQ S W (.slice va n vc) h.queues ∧ NoteIs S W (.slice pa pn pc, .slice ba bn bc) nt ∧ w.heap.size + 3 ≤ W.heap.size ∧ ∀ b, S b → b < W.heap.size) := by
    have hAB : Below w.heap.size w A := by rw [hA]; exact ((below_alloc _ _).alloc (by simp) _).alloc (by simp; omega) _
    have hA0 : Blk A w.heap.size [.slice va n vc, .int .i64 h.next] := by rw [hA]; exact ((Blk.new _ _ _).alloc _).alloc _
    have hA1 : Blk A (w.heap.size + 1) [.int .i64 kind, .string queue, .int .i64 en, .int .i64 id, .slice pa pn pc, .slice ba bn bc] := by
      rw [hA]
      have := (Blk.new (w.alloc (.cells #[.slice va n vc, .int .i64 h.next] 24)) [.int .i64 kind, .string queue, .int .i64 en, .int .i64 id, .slice pa pn pc, .slice ba bn bc] 30).alloc (.cells #[.slice none 0 0, .int .i64 0] 24)
      simpa using this
    have hA2 : Blk A (w.heap.size + 2) [.slice none 0 0, .int .i64 0] := by
      rw [hA]
      have := Blk.new ((w.alloc (.cells #[.slice va n vc, .int .i64 h.next] 24)).alloc (.cells #[.int .i64 kind, .string queue, .int .i64 en, .int .i64 id, .slice pa pn pc, .slice ba bn bc] 30)) [.slice none 0 0, .int .i64 0] 24
      simpa using this
    show ∀ W, Below A.heap.size A W → _
    intro W hW
    have hz := hW.size
    have hB : Below w.heap.size w W := hAB.trans (hW.mono (by omega))
    exact ⟨hB, hA0.below hW (by omega), hA1.below hW (by omega), hA2.below hW (by omega), HV.out.sub fun b hb => ⟨hb, hB.block b (HSS.out b hb)⟩, HNT.out.sub fun b hb => ⟨hb, hB.block b (HSS.out b hb)⟩, by omega, fun b hb => by have := HSS.out b hb; omega⟩
  clear hn hpn hbn
  have ny : Hid True := trivial
  obtain ⟨a0, a1, a2, a3⟩ := (KA.out A (Below.refl _ _)).2.1.b2
  obtain ⟨e0, e1, e2, e3, e4, e5, e6, e7⟩ := (KA.out A (Below.refl _ _)).2.2.1.b6
  subst hkd
  have HI : Hid (idxQ queue h.queues = (k : Int)) := hix
  have hkn : k < n := by rw [HN.out]; exact hk
  have hki : (k : Int) < (n : Int) := by omega
  have hk0 : ¬ (k : Int) < 0 := by omega
  obtain ⟨bq, oq, ia, ic, rfl, hSb, hq, y0, y1, y2⟩ := HV.out.at k hk
  obtain ⟨q, hqe⟩ : ∃ q, q = h.queues[k] := ⟨_, rfl⟩
  obtain ⟨m, hm⟩ : ∃ m, m = q.items.length := ⟨_, rfl⟩
  rw [← hqe] at hq y0 y1 y2
  rw [← hm] at hq y2
  have hsmq : smallI q.items := by rw [hqe]; exact HM.out.2 _ (List.getElem_mem hk)
  have HQ : Hid (q = h.queues[k] ∧ m = q.items.length ∧ SliceI S w (.slice ia m ic) q.items ∧ smallI q.items) := ⟨hqe, hm, hq, hsmq⟩
  have hml : m ≤ 4194304 := by rw [hm]; exact hsmq.1
  have hbw : bq < w.heap.size := HSS.out bq hSb
  have HY : Hid (∀ W, Below A.heap.size A W → W.cell? ⟨bq, oq + k * 3, none⟩ = some (.string q.name) ∧ W.cell? ⟨bq, oq + k * 3 + 1, none⟩ = some (.int .i64 q.limit) ∧ W.cell? ⟨bq, oq + k * 3 + 2, none⟩ = some (.slice ia m ic) ∧ SliceI S W (.slice ia m ic) q.items) := by
    show ∀ W, Below A.heap.size A W → _
    intro W hW
    have hB := (KA.out W hW).1
    exact ⟨bel_c hB hbw y0, bel_c hB hbw y1, bel_c hB hbw y2, HQ.out.2.2.1.sub fun b hb => ⟨hb, hB.block b (HSS.out b hb)⟩⟩
  clear y0 y1 y2 hq hqe hm hsmq hSb
  obtain ⟨qs', hqs'⟩ : ∃ qs', qs' = h.queues.eraseIdx k := ⟨_, rfl⟩
  have HF0 : faceF h queue (fun k q => dropF h k q) = (⟨qs', h.next⟩, [⟨2, h.queues[k].name, 0, 0, nN⟩], 0) := by
    rw [faceF_some HI.out hk, hqs']
    simp [failF, dropF]
  have HF : Hid (faceF h queue (fun k q => dropF h k q) = (⟨qs', h.next⟩, [⟨2, h.queues[k].name, 0, 0, nN⟩], 0)) := HF0
  clear HF0
  rw [← hqs']
  clear hqs'
  go_enter Try.func18, Try.ntmps18
  go_upto_region 1 with fail
  rw [← hA]
  clear hA
  go_upto_region 2 with (go_at_call 56; refine (refFind_any queue _ h.next h.queues A ((KA.out A (Below.refl _ _)).2.2.2.2.1.sub fun b hb => ⟨(KA.out A (Below.refl _ _)).2.2.2.2.2.2.2 b hb, rfl⟩)).mono ?_; rw [HI.out]; rintro r w1 ⟨rfl, hb1⟩; have HB1 : Hid (Below A.heap.size A w1) := hb1; obtain ⟨c0, c1, c2, c3⟩ := (KA.out w1 hb1).2.1.b2; obtain ⟨f0, f1, f2, f3, f4, f5, f6, f7⟩ := (KA.out w1 hb1).2.2.1.b6; obtain ⟨r0, r1, r2, r3⟩ := (KA.out w1 hb1).2.2.2.1.b2; have hz1 := (KA.out w1 hb1).2.2.2.2.2.2.1; clear hb1)
  clear a0 a1 a2 a3 e0 e1 e2 e3 e4 e5 e6 e7
  obtain ⟨y0, y1, y2, -⟩ := HY.out w1 HB1.out
  have n1 : w.heap.size + 2 ≠ w.heap.size := by omega
  obtain ⟨C, hC⟩ : ∃ C, C = w1.alloc (.cells #[.string q.name, .int .i64 q.limit, .slice ia m ic] 76) := ⟨_, rfl⟩
  have HC : Hid (Below A.heap.size A C) := by rw [hC]; exact HB1.out.alloc HB1.out.size _
  go_upto_region 10 with fail
  rw [← hC]
  clear hC c0 c1 c2 c3 f0 f1 f2 f3 f4 f5 f6 f7 r0 r1 r2 r3 y0 y1 y2
  obtain ⟨c0, c1, c2, c3⟩ := (KA.out C HC.out).2.1.b2
  obtain ⟨f0, f1, f2, f3, f4, f5, f6, f7⟩ := (KA.out C HC.out).2.2.1.b6
  go_wp2_with (go_at_call 29; refine (refDrop_any S _ h queue C (KA.out C HC.out).2.2.2.2.2.2.2 (KA.out C HC.out).2.2.2.2.1 HM.out.1).mono ?_; rw [HF.out]; rintro r w3 ⟨⟨xa, xc, ea, ec, rfl, hq3, -⟩, hb3⟩; have H3 : Hid (SliceQ (SM S C w3) w3 (.slice xa qs'.length xc) qs' ∧ Below A.heap.size A w3 ∧ C.heap.size ≤ w3.heap.size) := ⟨hq3, HC.out.trans (hb3.mono HC.out.size), hb3.size⟩; obtain ⟨g0, g1, g2, g3⟩ := (KA.out w3 H3.out.2.1).2.1.b2; obtain ⟨r0, r1, r2, r3⟩ := (KA.out w3 H3.out.2.1).2.2.2.1.b2; clear hq3 hb3)
  have hk3 := KA.out w3 H3.out.2.1
  have hAP : AP S w ((w3.setCell ⟨w.heap.size, 0, none⟩ (.slice xa qs'.length xc)).setCell ⟨w.heap.size, 1, none⟩ (.int .i64 h.next)) xa xc ⟨qs', h.next⟩ := by
    have far : ∀ b, b ≠ w.heap.size → ((w3.setCell ⟨w.heap.size, 0, none⟩ (.slice xa qs'.length xc)).setCell ⟨w.heap.size, 1, none⟩ (.int .i64 h.next)).heap[b]? = w3.heap[b]? := fun b hb => by
      rw [Below.heap_setCell _ _ _ _ hb, Below.heap_setCell _ _ _ _ hb]
    have hzC := HC.out.size
    refine ⟨(hk3.1.setCell (Nat.le_refl _) _).setCell (Nat.le_refl _) _, (hk3.2.1.set 0 _).set 1 _, hk3.2.2.2.1.same (far _ (by omega)), H3.out.1.sub fun b hb => ⟨?_, far b ?_⟩⟩
    · rcases hb with hb | hb
      · exact .inl hb
      · exact .inr ⟨by have := hb.1; omega, by simpa using hb.2⟩
    · rcases hb with hb | hb
      · have := HSS.out b hb; omega
      · have := hb.1; omega
  exact bodyPost_ret (v := .agg #[.slice xa qs'.length xc, .int .i64 h.next]) (by simp [results, Try.results18, go_sem, *]; done) rfl (hAP.ans HSS.out)
end Go.Proofs.Ytkddkpdfeeikhaa
