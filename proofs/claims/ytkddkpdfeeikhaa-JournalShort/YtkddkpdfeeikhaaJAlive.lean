/-
  tglaw5.alive.
-/
import Derived.Test.YtkddkpdfeeikhaaJShortProofM42
import Derived.Test.YtkddkpdfeeikhaaJShortProofM46
import Derived.Test.YtkddkpdfeeikhaaJShortProofM47
import Derived.Deep.RegionHeld3
import Derived.Lib.SmallJoins
import Derived.Lib.SlBytesConst
namespace Go.Proofs.Ytkddkpdfeeikhaa
open Go.RowKit Go.WideMaps Go.Maps
set_option linter.unusedVariables false
set_option linter.unusedSimpArgs false

attribute [local go_sem ↓] Go.wp_at_zero Go.wp_at_succ

def sA : ByteArray := ⟨#[97]⟩
def nX : ND := ⟨[], [120]⟩
def eA : ED := ⟨3, sA, 0, 7, nX⟩
def mA : ED := ⟨1, sA, 2, 0, nN⟩
def hA1 : HD := ⟨[⟨sA, 2, []⟩], 0⟩
def hA2 : HD := ⟨[⟨sA, 2, [⟨7, 0, 0, false, 0, nX⟩]⟩], 8⟩

theorem eA_right : eA.right ∧ eA.tidy := ⟨⟨by simp [eA], by simp [eA, sA, ByteArray.size], by simp [eA], by simp [eA], rfl⟩, .inr (.inr (.inl ⟨rfl, rfl⟩))⟩
theorem apA2 : applyF hA1 eA = hA2 := by
  have : (hA1.queues.findIdx? (nameB eA.queue)) = some 0 := find_last (pre := []) (by simp) ⟨sA, 2, []⟩ rfl
  rw [applyF_some (k := 0) (by simp [hA1]) this]
  simp [eA, hA1, hA2, ED.item]
  omega
theorem fitA0 : (⟨[], 0⟩ : HD).fits 4194304 := ⟨by simp, by simp, by simp⟩
theorem sA_size : sA.size = 1 := rfl
theorem sA_max : sA.size ≤ maxLen := by rw [sA_size]; unfold maxLen; omega
theorem keyA : keyB sA = true := by decide
theorem fitA1 : hA1.fits 4194304 := ⟨by simp [hA1], by simp [hA1], fun q hq => by
  simp only [hA1, List.mem_singleton] at hq
  subst hq
  exact sA_max⟩
theorem fitE : eA.fits ∧ mA.fits := ⟨⟨sA_max, by simp [eA], by simp [eA, nX, ND.small]⟩, ⟨sA_max, by simp [mA], by simp [mA, nN, ND.small]⟩⟩
theorem hA2_sound : hA2.sound := by
  refine ⟨by simp [hA2], by simp [hA2], fun k hk => ?_⟩
  have : k = 0 := by simp [hA2] at hk; omega
  subst this
  refine ⟨⟨keyA, by simp [hA2], by simp [hA2], fun i hi => ?_, by simp [hA2]⟩, idxQ_yes _ _ 0 (by simp [hA2]) (by simp) (nameB_self _)⟩
  simp [hA2] at hi
  subst hi
  exact ⟨rfl, by simp [hA2], by simp, by simp, by simp⟩
theorem backA : SR.appE [] ((shortF hA2.queues).map entryB) = 0 ∧ (SR.appB [] ((shortF hA2.queues).map entryB)).length ≤ 6000 ∧ replayL ⟨[], 0⟩ (SR.recsF (SR.appB [] ((shortF hA2.queues).map entryB))) = ⟨hA2.queues.map plainQ, 8⟩ := by
  obtain ⟨h1, h2, h3, h4, -⟩ := short_back hA2_sound
  exact ⟨h1, h2, h4⟩
theorem parseA : jparseF (entryB eA) = (3, sA, 0, 7, [], [120], 0) := by
  obtain ⟨h1, h2⟩ := read_entry eA eA_right.1 eA_right.2
  unfold readOk at h1
  unfold readE at h2
  revert h1 h2
  generalize jparseF (entryB eA) = X
  intro h1 h2
  obtain ⟨x1, x2, x3, x4, x5, x6, x7⟩ := X
  simp only [eA, ED.mk.injEq, nX, ND.mk.injEq, List.map_eq_nil_iff] at h2
  simp at h1
  obtain ⟨rfl, rfl, rfl, rfl, rfl, rfl⟩ := h2
  rw [h1]

/-- Behind the stores into an elder box. -/
theorem box_end {B w4 : World} {g lo : Nat} {v x0 x1 : Value} {n : Int} {qs : List QD} (h : Blk w4 g [x0, x1]) (hv : SliceQ (Made lo w4.heap.size) w4 v qs) (hg : g < lo) (hb : Below B.heap.size B w4) (hB : B.heap.size ≤ g) :
    Blk ((w4.setCell ⟨g, 0, none⟩ v).setCell ⟨g, 1, none⟩ (.int .i64 n)) g [v, .int .i64 n] ∧ SliceQ (Under ((w4.setCell ⟨g, 0, none⟩ v).setCell ⟨g, 1, none⟩ (.int .i64 n)).heap.size) ((w4.setCell ⟨g, 0, none⟩ v).setCell ⟨g, 1, none⟩ (.int .i64 n)) v qs ∧ Below B.heap.size B ((w4.setCell ⟨g, 0, none⟩ v).setCell ⟨g, 1, none⟩ (.int .i64 n)) := by
  refine ⟨(h.set 0 v).set 1 _, hv.sub fun b hm => ⟨by have := hm.2; simpa [Under] using this, ?_⟩, (hb.setCell hB _).setCell hB _⟩
  have h1 := hm.1
  rw [Below.heap_setCell _ _ _ _ (by show b ≠ g; omega), Below.heap_setCell _ _ _ _ (by show b ≠ g; omega)]

set_option maxRecDepth 100000 in
set_option maxHeartbeats 3200000 in
theorem alive5_any (w : World) : Calls Try.prog 25 #[] w fun e w' => e = .returned (.bool true) ∧ Below w.heap.size w w' := by
  obtain ⟨A, hA⟩ : ∃ A, A = (w.alloc (.cells #[.int .u8 120] 5 (1, 2))).alloc (.cells #[.int .i64 3, .string ⟨#[97]⟩, .int .i64 0, .int .i64 7, .slice none 0 0, .slice (some ⟨w.heap.size, 0, none⟩) 1 1] 30) := ⟨_, rfl⟩
  have hAz : A.heap.size = w.heap.size + 2 := by rw [hA]; simp
  have hAB : Below w.heap.size w A := by rw [hA]; exact (below_alloc _ _).alloc (by simp) _
  have hA0 : A.cell? ⟨w.heap.size, 0, none⟩ = some (.int .u8 120) := by
    have h1 : A.heap[w.heap.size]? = some (.cells #[.int .u8 120] 5 (1, 2)) := by
      rw [hA, Below.heap_alloc _ _ _ (by simp)]
      exact heap_alloc_new w _
    rw [cell_of_row A w.heap.size 0 _ 5 (1, 2) h1]
    rfl
  have hA1 : Blk A (w.heap.size + 1) [.int .i64 3, .string ⟨#[97]⟩, .int .i64 0, .int .i64 7, .slice none 0 0, .slice (some ⟨w.heap.size, 0, none⟩) 1 1] := by
    rw [hA]
    have := Blk.new (w.alloc (.cells #[.int .u8 120] 5 (1, 2))) [.int .i64 3, .string ⟨#[97]⟩, .int .i64 0, .int .i64 7, .slice none 0 0, .slice (some ⟨w.heap.size, 0, none⟩) 1 1] 30
    simpa using this
  have HNT : Hid (∀ W, Below A.heap.size A W → NoteIs (Under W.heap.size) W (.slice none 0 0, .slice (some ⟨w.heap.size, 0, none⟩) 1 1) nX) := by
    show ∀ W, Below A.heap.size A W → _
    intro W hW
    refine ⟨SliceV.nil _ _, some ⟨w.heap.size, 0, none⟩, 1, rfl, Nat.le_refl _, by unfold maxLen; omega, fun h => by simp at h, fun i hi => ?_⟩
    have hi0 : i = 0 := by simp [u8s, nX] at hi; omega
    subst hi0
    exact ⟨w.heap.size, 0, rfl, by show w.heap.size < W.heap.size; have := hW.size; omega, (hW.cell (p := ⟨w.heap.size, 0, none⟩) (show w.heap.size < A.heap.size by omega)).trans hA0⟩
  have HAB : Hid (Below w.heap.size w A ∧ Blk A (w.heap.size + 1) [.int .i64 3, .string ⟨#[97]⟩, .int .i64 0, .int .i64 7, .slice none 0 0, .slice (some ⟨w.heap.size, 0, none⟩) 1 1]) := ⟨hAB, hA1⟩
  have a0 : A.cell? ⟨w.heap.size + 1, 0, none⟩ = some (.int .i64 3) := hA1.cell 0
  have a1 : A.cell? ⟨w.heap.size + 1, 1, none⟩ = some (.string ⟨#[97]⟩) := hA1.cell 1
  have a2 : A.cell? ⟨w.heap.size + 1, 2, none⟩ = some (.int .i64 0) := hA1.cell 2
  have a3 : A.cell? ⟨w.heap.size + 1, 3, none⟩ = some (.int .i64 7) := hA1.cell 3
  have a4 : A.cell? ⟨w.heap.size + 1, 4, none⟩ = some (.slice none 0 0) := hA1.cell 4
  have a5 : A.cell? ⟨w.heap.size + 1, 5, none⟩ = some (.slice (some ⟨w.heap.size, 0, none⟩) 1 1) := hA1.cell 5
  have HBY : Hid (Calls Try.prog 15 #[.agg #[.int .i64 3, .string ⟨#[97]⟩, .int .i64 0, .int .i64 7, .slice none 0 0, .slice (some ⟨w.heap.size, 0, none⟩) 1 1]] A fun r w' => ∃ v, r = .returned v ∧ w'.ownsRow A.heap.size 5 1 v (entryB eA).length (u8s (entryB eA)) ∧ Below A.heap.size A w') := jbytes_any eA eA_right.1 _ _ A (HNT.out A (Below.refl _ _))
  clear hAB hA0 hA1
  have kc := Joins.run_convert_bytes_const_at (P := Try.prog) w 26 5 #[.int .u8 120] 1 1 w.heap.size rfl Try.underlying26 Try.underlying5
  go_enter Try.func25, Try.ntmps25
  go_upto_region 2 with fail
  rw [← hA]
  clear hA
  go_upto_region 3 with (first
    | (go_at_call 15; refine HBY.out.mono ?_; rintro r w1 ⟨x, rfl, hx1, hb1⟩; obtain ⟨xa, xc, rfl, -⟩ := own_shape hx1; have hz1 := hb1.size; have HX1 : Hid (w1.ownsRow A.heap.size 5 1 (.slice xa (entryB eA).length xc) (entryB eA).length (u8s (entryB eA)) ∧ Below A.heap.size A w1) := ⟨hx1, hb1⟩; clear hx1 hb1)
    | (go_at_call 8; refine (jparse_any xa xc (entryB eA) _ (bytes_nt ((own_slice HX1.out.1).sub fun b hb => ⟨(HX1.out.1.lt b hb).2, rfl⟩))).mono ?_; rw [parseA]; rintro r w2 ⟨pa, pc, qa, qc, rfl, -, -, hb2, -, -⟩; have hz2 := hb2.size; have HB2 : Hid (Below A.heap.size A w2) := HX1.out.2.trans (hb2.mono hz1); clear hb2))
  obtain ⟨B, hB⟩ : ∃ B, B = w2.alloc (.cells #[.int .i64 3, .string sA, .int .i64 0, .int .i64 7, .slice pa 0 pc, .slice qa 1 qc] 30) := ⟨_, rfl⟩
  have hBz : B.heap.size = w2.heap.size + 1 := by rw [hB]; simp
  have HBB : Hid (Below A.heap.size A B ∧ Blk B w2.heap.size [.int .i64 3, .string sA, .int .i64 0, .int .i64 7, .slice pa 0 pc, .slice qa 1 qc]) := by
    rw [hB]; exact ⟨HB2.out.alloc HB2.out.size _, Blk.new _ _ _⟩
  rw [← hB]
  clear hB HBY HX1 HB2 a0 a1 a2 a3 a4 a5 kc
  have hE := HAB.out.2.below HBB.out.1 (by omega)
  have a0 : B.cell? ⟨w.heap.size + 1, 0, none⟩ = some (.int .i64 3) := hE.cell 0
  have a1 : B.cell? ⟨w.heap.size + 1, 1, none⟩ = some (.string ⟨#[97]⟩) := hE.cell 1
  have a2 : B.cell? ⟨w.heap.size + 1, 2, none⟩ = some (.int .i64 0) := hE.cell 2
  have a3 : B.cell? ⟨w.heap.size + 1, 3, none⟩ = some (.int .i64 7) := hE.cell 3
  have a4 : B.cell? ⟨w.heap.size + 1, 4, none⟩ = some (.slice none 0 0) := hE.cell 4
  have a5 : B.cell? ⟨w.heap.size + 1, 5, none⟩ = some (.slice (some ⟨w.heap.size, 0, none⟩) 1 1) := hE.cell 5
  have hzB : A.heap.size ≤ B.heap.size := HBB.out.1.size
  have hw2B : w2.heap.size < B.heap.size := by omega
  have HBZ : Hid (B.heap.size = w2.heap.size + 1) := hBz
  clear hBz
  have HC1 : Hid (∀ W, Calls Try.prog 17 #[.agg #[.slice none 0 0, .int .i64 0], .agg #[.int .i64 1, .string ⟨#[97]⟩, .int .i64 2, .int .i64 0, .slice none 0 0, .slice none 0 0]] W fun r w' => ∃ vi, r = .returned (.agg #[vi, .int .i64 0]) ∧ SliceQ (Under w'.heap.size) w' vi hA1.queues ∧ Below W.heap.size W w') := fun W => applyJ_any (.slice none 0 0) ⟨[], 0⟩ mA _ _ W (SliceQ.nil _ _) ⟨by simp, by simp⟩ fitA0 fitE.2 (NoteIs.nil _ _)
  have HC2 : Hid (∀ W, Below A.heap.size A W → ∀ vi, SliceQ (Under W.heap.size) W vi hA1.queues → Calls Try.prog 17 #[.agg #[vi, .int .i64 0], .agg #[.int .i64 3, .string ⟨#[97]⟩, .int .i64 0, .int .i64 7, .slice none 0 0, .slice (some ⟨w.heap.size, 0, none⟩) 1 1]] W fun r w' => ∃ vi, r = .returned (.agg #[vi, .int .i64 8]) ∧ SliceQ (Made W.heap.size w'.heap.size) w' vi hA2.queues ∧ Below W.heap.size W w') := by
    show ∀ W, Below A.heap.size A W → _
    intro W hW vi hv
    have h := applyM_any vi hA1 eA (.slice none 0 0) (.slice (some ⟨w.heap.size, 0, none⟩) 1 1) W hv ⟨by simp [hA1], by simp [hA1, smallI]⟩ fitA1 fitE.1 (HNT.out W hW)
    rw [apA2] at h
    exact h
  clear hE
  have n1 : w.heap.size + 1 ≠ B.heap.size := by omega
  have n2 : B.heap.size ≠ w.heap.size + 1 := by omega
  go_cut [4] (fun q wx => ∃ tb va vc, q = .pointer (some ⟨tb, 0, none⟩) ∧ Blk wx tb [.slice va 1 vc, .int .i64 8] ∧ SliceQ (Under wx.heap.size) wx (.slice va 1 vc) hA2.queues ∧ Below B.heap.size B wx)
  case first =>
    refine wp_region_noPanic ?_
    refine wp_region_held_drew (S := (fun w' => w'.cell? ⟨w.heap.size + 1, 0, none⟩ = some (.int .i64 3) ∧ w'.cell? ⟨w.heap.size + 1, 1, none⟩ = some (.string ⟨#[97]⟩) ∧ w'.cell? ⟨w.heap.size + 1, 2, none⟩ = some (.int .i64 0) ∧ w'.cell? ⟨w.heap.size + 1, 3, none⟩ = some (.int .i64 7) ∧ w'.cell? ⟨w.heap.size + 1, 4, none⟩ = some (.slice none 0 0) ∧ w'.cell? ⟨w.heap.size + 1, 5, none⟩ = some (.slice (some ⟨w.heap.size, 0, none⟩) 1 1))) (by kernel_rfl) ?_ (fun hHeld => ?_)
    · (try dsimp only); go_keep
    refine wpAnyH_take (i := 0) (oi := _) (v := ?_) rfl (by kernel_rfl) (by kernel_rfl) (by kernel_rfl) (fun _ _ _ h => h) (Or.inl ⟨by rfl, ?_⟩) (by assumption) ?_
    rotate_left
    · (intro w' hSw; (try dsimp only at hSw); go_simp <;> (try with_reducible rfl))
    try simp only [Act.put, List.setIfInBounds_toArray, List.set_cons_zero, List.set_cons_succ]
    refine wpAnyH_take (i := 1) (oi := _) (v := ?_) rfl (by kernel_rfl) (by kernel_rfl) (by kernel_rfl) (fun _ _ _ h => h) (Or.inl ⟨by rfl, ?_⟩) (by assumption) ?_
    rotate_left
    · (intro w' hSw; (try dsimp only at hSw); go_simp <;> (try with_reducible rfl))
    try simp only [Act.put, List.setIfInBounds_toArray, List.set_cons_zero, List.set_cons_succ]
    refine wpAnyH_take (i := 3) (oi := _) (v := ?_) rfl (by kernel_rfl) (by kernel_rfl) (by kernel_rfl) (fun _ _ _ h => h) (Or.inl ⟨by rfl, ?_⟩) (by assumption) ?_
    rotate_left
    · (intro w' hSw; (try dsimp only at hSw); go_simp <;> (try with_reducible rfl))
    try simp only [Act.put, List.setIfInBounds_toArray, List.set_cons_zero, List.set_cons_succ]
    refine wpAnyH_ready (rs := [2, 5]) (by kernel_rfl) (by simp) ?_
    refine AllReadyH.cons (o := _) rfl (fun K hK => ?_) (AllReadyH.cons (o := _) rfl (fun K hK => ?_) AllReadyH.nil)
    · (go_simp; go_at_call 17; refine (HC1.out _).mono ?_; rintro r w3 ⟨v3, rfl, hv3, hb3⟩; obtain ⟨va3, vc3, rfl⟩ := hv3.shp; have HV3 : Hid (SliceQ (Under w3.heap.size) w3 (.slice va3 hA1.queues.length vc3) hA1.queues) := hv3; have HB3 : Hid (Below B.heap.size B w3) := ⟨hb3.os, hb3.tape, hb3.output, hb3.size, hb3.block⟩; have hz3 := HB3.out.size; have nn3 : w3.heap.size ≠ w.heap.size + 1 := (by omega); have nn4 : w.heap.size + 1 ≠ w3.heap.size := (by omega); have hEc := HAB.out.2.below (HBB.out.1.trans (Below.mono HB3.out hzB)) (by omega); have c0 : w3.cell? ⟨w.heap.size + 1, 0, none⟩ = some (.int .i64 3) := hEc.cell 0; have c1 : w3.cell? ⟨w.heap.size + 1, 1, none⟩ = some (.string ⟨#[97]⟩) := hEc.cell 1; have c2 : w3.cell? ⟨w.heap.size + 1, 2, none⟩ = some (.int .i64 0) := hEc.cell 2; have c3 : w3.cell? ⟨w.heap.size + 1, 3, none⟩ = some (.int .i64 7) := hEc.cell 3; have c4 : w3.cell? ⟨w.heap.size + 1, 4, none⟩ = some (.slice none 0 0) := hEc.cell 4; have c5 : w3.cell? ⟨w.heap.size + 1, 5, none⟩ = some (.slice (some ⟨w.heap.size, 0, none⟩) 1 1) := hEc.cell 5; clear hEc; clear hv3 hb3; try go_wp2_with fail)
      refine hK.out _ _ ?_ (fun hHeld => ?_)
      · (try dsimp only); go_keep
      clear hK K
      try simp only [Act.put, List.setIfInBounds_toArray, List.set_cons_zero, List.set_cons_succ]
      refine wpAnyH_ready (rs := [4, 5]) (by kernel_rfl) (by simp) ?_
      refine AllReadyH.cons (o := _) rfl (fun K hK => ?_) (AllReadyH.cons (o := _) rfl (fun K hK => ?_) AllReadyH.nil)
      · (go_simp; go_at_call 17; refine (HC2.out w3 (HBB.out.1.trans (Below.mono HB3.out hzB)) _ HV3.out).mono ?_; rintro r w4 ⟨v4, rfl, hv4, hb4⟩; obtain ⟨va4, vc4, rfl⟩ := hv4.shp; have HB34 : Hid (Below w3.heap.size w3 w4) := hb4; have HB4 : Hid (Below B.heap.size B w4) := HB3.out.trans (HB34.out.mono hz3); have hz4 := HB34.out.size; have HV4 : Hid (SliceQ (Made w3.heap.size w4.heap.size) w4 (.slice va4 hA2.queues.length vc4) hA2.queues) := hv4; have hEd := HAB.out.2.below (HBB.out.1.trans (Below.mono HB4.out hzB)) (by omega); have d0 : w4.cell? ⟨w.heap.size + 1, 0, none⟩ = some (.int .i64 3) := hEd.cell 0; have d1 : w4.cell? ⟨w.heap.size + 1, 1, none⟩ = some (.string ⟨#[97]⟩) := hEd.cell 1; have d2 : w4.cell? ⟨w.heap.size + 1, 2, none⟩ = some (.int .i64 0) := hEd.cell 2; have d3 : w4.cell? ⟨w.heap.size + 1, 3, none⟩ = some (.int .i64 7) := hEd.cell 3; have d4 : w4.cell? ⟨w.heap.size + 1, 4, none⟩ = some (.slice none 0 0) := hEd.cell 4; have d5 : w4.cell? ⟨w.heap.size + 1, 5, none⟩ = some (.slice (some ⟨w.heap.size, 0, none⟩) 1 1) := hEd.cell 5; clear hEd; clear hv4 hb4; try go_wp2_with fail)
        refine hK.out _ _ ?_ (fun hHeld => ?_)
        · (try dsimp only); go_keep
        clear hK K
        try simp only [Act.put, List.setIfInBounds_toArray, List.set_cons_zero, List.set_cons_succ]
        refine wpAnyH_ready (rs := [5]) (by kernel_rfl) (by simp) ?_
        refine AllReadyH.cons (o := _) rfl (fun K hK => ?_) AllReadyH.nil
        go_simp
        refine hK.out _ _ ?_ (fun hHeld => ?_)
        · (try dsimp only); go_keep
        clear hK K
        try simp only [Act.put, List.setIfInBounds_toArray, List.set_cons_zero, List.set_cons_succ]
        refine wpAnyH_ready (rs := [6]) (by kernel_rfl) (by simp) ?_
        refine AllReadyH.cons (o := _) rfl (fun K hK => ?_) AllReadyH.nil
        go_simp
        refine hK.out _ _ ?_ (fun hHeld => ?_)
        · (try dsimp only); go_keep
        clear hK K
        try simp only [Act.put, List.setIfInBounds_toArray, List.set_cons_zero, List.set_cons_succ]
        refine wpAnyH_done (by kernel_rfl) ?_ _
        refine NoPanic.normal ?_
        go_wp2_with fail
        go_meet
        exact ⟨w4.heap.size, va4, vc4, rfl, Blk.new _ _ _, HV4.out.sub fun b hb => ⟨by have := hb.2; simp [Under]; omega, Below.heap_alloc _ _ _ hb.2⟩, HB4.out.alloc HB4.out.size _⟩

      · go_simp
        refine hK.out _ _ ?_ (fun hHeld => ?_)
        · (try dsimp only); go_keep
        clear hK K
        try simp only [Act.put, List.setIfInBounds_toArray, List.set_cons_zero, List.set_cons_succ]
        refine wpAnyH_ready (rs := [4]) (by kernel_rfl) (by simp) ?_
        refine AllReadyH.cons (o := _) rfl (fun K hK => ?_) AllReadyH.nil
        (go_simp; go_at_call 17; refine (HC2.out (w3.alloc (.cells #[.slice none 0 0, .int .i64 0] 24)) (HBB.out.1.trans (Below.mono (HB3.out.alloc HB3.out.size _) hzB)) _ (HV3.out.sub fun b hb => ⟨by have : b < w3.heap.size := hb; simp [Under]; omega, Below.heap_alloc _ _ _ hb⟩)).mono ?_; rintro r w4 ⟨v4, rfl, hv4, hb4⟩; obtain ⟨va4, vc4, rfl⟩ := hv4.shp; have HB34 : Hid (Below w3.heap.size w3 w4) := ⟨hb4.os, hb4.tape, hb4.output, by have := hb4.size; simp at this; omega, fun b hb => (hb4.block b (by simp; omega)).trans (Below.heap_alloc w3 (.cells #[.slice none 0 0, .int .i64 0] 24) _ hb)⟩; have HB4 : Hid (Below B.heap.size B w4) := HB3.out.trans (HB34.out.mono hz3); have hz4 := HB34.out.size; have HV4 : Hid (SliceQ (Made (w3.heap.size + 1) w4.heap.size) w4 (.slice va4 hA2.queues.length vc4) hA2.queues) := (show SliceQ (Made (w3.heap.size + 1) w4.heap.size) w4 (.slice va4 hA2.queues.length vc4) hA2.queues from by simpa using hv4); have HX4 : Hid (Blk w4 w3.heap.size [.slice none 0 0, .int .i64 0]) := ((Blk.new w3 [.slice none 0 0, .int .i64 0] 24).same (hb4.block _ (by simp))); obtain ⟨y0, y1, y2, y3⟩ := HX4.out.b2; have hEd := HAB.out.2.below (HBB.out.1.trans (Below.mono HB4.out hzB)) (by omega); have d0 : w4.cell? ⟨w.heap.size + 1, 0, none⟩ = some (.int .i64 3) := hEd.cell 0; have d1 : w4.cell? ⟨w.heap.size + 1, 1, none⟩ = some (.string ⟨#[97]⟩) := hEd.cell 1; have d2 : w4.cell? ⟨w.heap.size + 1, 2, none⟩ = some (.int .i64 0) := hEd.cell 2; have d3 : w4.cell? ⟨w.heap.size + 1, 3, none⟩ = some (.int .i64 7) := hEd.cell 3; have d4 : w4.cell? ⟨w.heap.size + 1, 4, none⟩ = some (.slice none 0 0) := hEd.cell 4; have d5 : w4.cell? ⟨w.heap.size + 1, 5, none⟩ = some (.slice (some ⟨w.heap.size, 0, none⟩) 1 1) := hEd.cell 5; clear hEd; clear hv4 hb4; try go_wp2_with fail)
        refine hK.out _ _ ?_ (fun hHeld => ?_)
        · (try dsimp only); go_keep
        clear hK K
        try simp only [Act.put, List.setIfInBounds_toArray, List.set_cons_zero, List.set_cons_succ]
        refine wpAnyH_ready (rs := [6]) (by kernel_rfl) (by simp) ?_
        refine AllReadyH.cons (o := _) rfl (fun K hK => ?_) AllReadyH.nil
        go_simp
        refine hK.out _ _ ?_ (fun hHeld => ?_)
        · (try dsimp only); go_keep
        clear hK K
        try simp only [Act.put, List.setIfInBounds_toArray, List.set_cons_zero, List.set_cons_succ]
        refine wpAnyH_done (by kernel_rfl) ?_ _
        refine NoPanic.normal ?_
        go_wp2_with fail
        go_meet
        exact ⟨w3.heap.size, va4, vc4, rfl, box_end HX4.out HV4.out (by omega) HB4.out hz3⟩


    · go_simp
      refine hK.out _ _ ?_ (fun hHeld => ?_)
      · (try dsimp only); go_keep
      clear hK K
      try simp only [Act.put, List.setIfInBounds_toArray, List.set_cons_zero, List.set_cons_succ]
      refine wpAnyH_ready (rs := [2]) (by kernel_rfl) (by simp) ?_
      refine AllReadyH.cons (o := _) rfl (fun K hK => ?_) AllReadyH.nil
      (go_simp; go_at_call 17; refine (HC1.out _).mono ?_; rintro r w3 ⟨v3, rfl, hv3, hb3⟩; obtain ⟨va3, vc3, rfl⟩ := hv3.shp; have HV3 : Hid (SliceQ (Under w3.heap.size) w3 (.slice va3 hA1.queues.length vc3) hA1.queues) := hv3; have HB3 : Hid (Below B.heap.size B w3) := ⟨hb3.os, hb3.tape, hb3.output, by have := hb3.size; simp at this; omega, fun b hb => (hb3.block b (by simp; omega)).trans (Below.heap_alloc B (.cells #[.slice none 0 0, .int .i64 0] 24) _ hb)⟩; have hz3 := HB3.out.size; have nn3 : w3.heap.size ≠ w.heap.size + 1 := (by omega); have nn4 : w.heap.size + 1 ≠ w3.heap.size := (by omega); have HX3 : Hid (Blk w3 B.heap.size [.slice none 0 0, .int .i64 0]) := ((Blk.new B [.slice none 0 0, .int .i64 0] 24).same (w' := w3) (hb3.block _ (by simp))); obtain ⟨x0, x1, x2, x3⟩ := HX3.out.b2; have hEc := HAB.out.2.below (HBB.out.1.trans (Below.mono HB3.out hzB)) (by omega); have c0 : w3.cell? ⟨w.heap.size + 1, 0, none⟩ = some (.int .i64 3) := hEc.cell 0; have c1 : w3.cell? ⟨w.heap.size + 1, 1, none⟩ = some (.string ⟨#[97]⟩) := hEc.cell 1; have c2 : w3.cell? ⟨w.heap.size + 1, 2, none⟩ = some (.int .i64 0) := hEc.cell 2; have c3 : w3.cell? ⟨w.heap.size + 1, 3, none⟩ = some (.int .i64 7) := hEc.cell 3; have c4 : w3.cell? ⟨w.heap.size + 1, 4, none⟩ = some (.slice none 0 0) := hEc.cell 4; have c5 : w3.cell? ⟨w.heap.size + 1, 5, none⟩ = some (.slice (some ⟨w.heap.size, 0, none⟩) 1 1) := hEc.cell 5; clear hEc; clear hv3 hb3; try go_wp2_with fail)
      refine hK.out _ _ ?_ (fun hHeld => ?_)
      · (try dsimp only); go_keep
      clear hK K
      try simp only [Act.put, List.setIfInBounds_toArray, List.set_cons_zero, List.set_cons_succ]
      refine wpAnyH_ready (rs := [4]) (by kernel_rfl) (by simp) ?_
      refine AllReadyH.cons (o := _) rfl (fun K hK => ?_) AllReadyH.nil
      (go_simp; go_at_call 17; refine (HC2.out w3 (HBB.out.1.trans (Below.mono HB3.out hzB)) _ HV3.out).mono ?_; rintro r w4 ⟨v4, rfl, hv4, hb4⟩; obtain ⟨va4, vc4, rfl⟩ := hv4.shp; have HB34 : Hid (Below w3.heap.size w3 w4) := hb4; have HB4 : Hid (Below B.heap.size B w4) := HB3.out.trans (HB34.out.mono hz3); have hz4 := HB34.out.size; have HV4 : Hid (SliceQ (Made w3.heap.size w4.heap.size) w4 (.slice va4 hA2.queues.length vc4) hA2.queues) := hv4; have HX4 : Hid (Blk w4 B.heap.size [.slice none 0 0, .int .i64 0]) := HX3.out.below HB34.out x3; obtain ⟨y0, y1, y2, y3⟩ := HX4.out.b2; have hEd := HAB.out.2.below (HBB.out.1.trans (Below.mono HB4.out hzB)) (by omega); have d0 : w4.cell? ⟨w.heap.size + 1, 0, none⟩ = some (.int .i64 3) := hEd.cell 0; have d1 : w4.cell? ⟨w.heap.size + 1, 1, none⟩ = some (.string ⟨#[97]⟩) := hEd.cell 1; have d2 : w4.cell? ⟨w.heap.size + 1, 2, none⟩ = some (.int .i64 0) := hEd.cell 2; have d3 : w4.cell? ⟨w.heap.size + 1, 3, none⟩ = some (.int .i64 7) := hEd.cell 3; have d4 : w4.cell? ⟨w.heap.size + 1, 4, none⟩ = some (.slice none 0 0) := hEd.cell 4; have d5 : w4.cell? ⟨w.heap.size + 1, 5, none⟩ = some (.slice (some ⟨w.heap.size, 0, none⟩) 1 1) := hEd.cell 5; clear hEd; clear hv4 hb4; try go_wp2_with fail)
      refine hK.out _ _ ?_ (fun hHeld => ?_)
      · (try dsimp only); go_keep
      clear hK K
      try simp only [Act.put, List.setIfInBounds_toArray, List.set_cons_zero, List.set_cons_succ]
      refine wpAnyH_ready (rs := [6]) (by kernel_rfl) (by simp) ?_
      refine AllReadyH.cons (o := _) rfl (fun K hK => ?_) AllReadyH.nil
      go_simp
      refine hK.out _ _ ?_ (fun hHeld => ?_)
      · (try dsimp only); go_keep
      clear hK K
      try simp only [Act.put, List.setIfInBounds_toArray, List.set_cons_zero, List.set_cons_succ]
      refine wpAnyH_done (by kernel_rfl) ?_ _
      refine NoPanic.normal ?_
      go_wp2_with fail
      go_meet
      exact ⟨B.heap.size, va4, vc4, rfl, box_end HX4.out HV4.out HX3.out.lt HB4.out (Nat.le_refl _)⟩

  case rest =>
    obtain ⟨tb, va, vc, rfl, hT, hQ, hBw⟩ := hcut
    obtain ⟨p1, p2, p3⟩ := backA
    obtain ⟨s1, s2, s3, s4, s5, s6⟩ := short_back hA2_sound
    clear s4 s5 s6
    obtain ⟨bs, hbs⟩ : ∃ bs, bs = SR.appB [] ((shortF hA2.queues).map entryB) := ⟨_, rfl⟩
    rw [← hbs] at p2 p3 s2
    have HWR : Hid (∀ (W : World) (ev : Value), SliceE (Under W.heap.size) W ev (shortF hA2.queues) → Calls Try.prog 20 #[.agg #[.slice none 0 0, .int .i64 0], ev] W fun r w' => SR.LogIs W w' r bs 0 0) := by
      show ∀ (W : World) (ev : Value), SliceE (Under W.heap.size) W ev (shortF hA2.queues) → _
      intro W ev he
      have hr := short_right hA2_sound.2.1.2 hA2.queues (sound_each hA2_sound)
      have h1 := write_any (.slice none 0 0) ev 0 [] (shortF hA2.queues) W (SliceV.nil _ _) he (fun e he => (hr e he).1.1) (by omega) (by simp)
      rw [s1, ← hbs] at h1
      exact h1
    have HRP : Hid (∀ (W : World) (v : Value), SR.SliceB W.heap.size W v bs → Calls Try.prog 12 #[v] W fun r w' => ∃ vi, r = .returned (.agg #[vi, .int .i64 8]) ∧ SliceQ (Under w'.heap.size) w' vi (hA2.queues.map plainQ) ∧ Below W.heap.size W w') := by
      show ∀ (W : World) (v : Value), SR.SliceB W.heap.size W v bs → _
      intro W v hv
      have h1 := replay_any v bs W (sr_bytes hv) (by omega)
      rw [p3] at h1
      exact h1
    have HSH : Hid (∀ W, SliceQ (Under W.heap.size) W (.slice va 1 vc) hA2.queues → Calls Try.prog 23 #[.agg #[.slice va 1 vc, .int .i64 8]] W fun r w' => ∃ vi, r = .returned vi ∧ OwnE W.heap.size w' vi (shortF hA2.queues) ∧ Below W.heap.size W w') := by
      show ∀ W, _ → _
      intro W hW
      exact short_any (.slice va 1 vc) hA2 W hW (sound_small hA2_sound) (by omega)
    clear p1 p2 p3 s1 s2 s3 hbs
    have HT : Hid (Blk wc tb [.slice va 1 vc, .int .i64 8]) := hT
    obtain ⟨t0, t1, t2, t3⟩ := hT.b2
    have HAB0 : Hid (Below w.heap.size w A) := HAB.out.1
    clear hT HC1 HC2 HNT HAB
    have HF := HBB.out.2
    go_upto_region 6 with (first
      | (go_at_call 23; refine (HSH.out _ hQ).mono ?_; rintro r w5 ⟨x3, rfl, ho3, hb3⟩; obtain ⟨ya, yc, rfl⟩ := ho3.shp; have HE5 : Hid (SliceE (Under w5.heap.size) w5 (.slice ya (shortF hA2.queues).length yc) (shortF hA2.queues)) := ho3.slice.under; have HB5 : Hid (Below wc.heap.size wc w5) := hb3; clear ho3 hb3)
      | (go_at_call 20; refine (HWR.out _ _ HE5.out).mono ?_; rintro r w6 ⟨za, zc, rfl, hs6, hb6⟩; have HS6 : Hid (SR.SliceB w6.heap.size w6 (.slice za bs.length zc) bs) := hs6; have HB6 : Hid (Below wc.heap.size wc w6) := HB5.out.trans (hb6.mono HB5.out.size); clear hs6 hb6)
      | (go_at_call 12; refine (HRP.out _ _ (HS6.out.below (below_alloc _ _))).mono ?_; rintro r w7 ⟨z, rfl, hz7, hb7⟩; obtain ⟨ua, uc, rfl⟩ := hz7.shp; have HB7 : Hid (Below wc.heap.size wc w7) := HB6.out.trans (((below_alloc w6 _).trans (hb7.mono (by simp))).mono HB6.out.size); clear hz7 hb7))
    obtain ⟨D, hD⟩ : ∃ D, D = w7.alloc (.cells #[.slice ua hA2.queues.length uc, .int .i64 8] 24) := ⟨_, rfl⟩
    have hDB : Below wc.heap.size wc D := by rw [hD]; exact HB7.out.alloc HB7.out.size _
    have hD7 : Blk D w7.heap.size [.slice ua 1 uc, .int .i64 8] := by rw [hD]; exact Blk.new _ _ _
    have hz7 := HB7.out.size
    have hzw := hBw.size
    have hzq := HBZ.out
    have hDT : Blk D tb [.slice va 1 vc, .int .i64 8] := HT.out.below hDB t3
    have hDF := (HF.below hBw (by omega)).below hDB (by omega)
    obtain ⟨b0, off, ia, ic, rfl, hb0, -, -, -, hit⟩ := hQ.at 0 (by simp [hA2])
    have hDI := (hDB.cell (p := ⟨b0, off + 0 * 3 + 2, none⟩) hb0).trans hit
    have hDZ : Below w.heap.size w D := HAB0.out.trans ((HBB.out.1.trans ((hBw.trans (hDB.mono hzw)).mono hzB)).mono (by omega))
    rw [← hD]
    clear hD HWR HRP HSH t0 t1 t2 t3 hQ hit
    obtain ⟨f0, f1, ff, fl⟩ := hD7.b2
    obtain ⟨g0, g1, gf, gl⟩ := hDT.b2
    have e3 : D.cell? ⟨w2.heap.size, 3, none⟩ = some (.int .i64 7) := hDF.cell 3
    have e5 : D.cell? ⟨w2.heap.size, 5, none⟩ = some (.slice qa 1 qc) := hDF.cell 5
    have e6 : D.cell? ⟨b0, off + 2, none⟩ = some (.slice ia 1 ic) := by
      have h := hDI
      rw [show off + 0 * 3 + 2 = off + 2 by omega] at h
      exact h
    clear hDI hDF hD7 hDT
    go_wp2
    refine bodyPost_ret (v := .bool true) (by simp [results, Try.results25, go_sem, *]) rfl ⟨rfl, hDZ⟩
end Go.Proofs.Ytkddkpdfeeikhaa
