/-
  tglaw7.alive answers true.
-/
import Derived.Test.YtnfmidbbelgldaaFTellS
import Derived.Test.YtnfmidbbelgldaaFBytes
import Derived.Test.YtnfmidbbelgldaaFSame
import Derived.Deep.RegionHeld
import Derived.Lib.SlBytesConst
import Derived.Lib.SmallJoins
namespace Go.Proofs.Ytnfmidbbelgldaa
open Go.RowKit
set_option linter.unusedVariables false
set_option linter.unusedSimpArgs false

attribute [local go_sem ↓] Go.wp_at_zero Go.wp_at_succ

def pA : PD := ⟨⟨#[107]⟩, 2, 0, ⟨#[97, 32, 98]⟩⟩
def aA : AD := ⟨4, ⟨#[113]⟩, 0, [pA], [120]⟩
def sA : SD := ⟨2, 3, 1, 0, [pA], [120]⟩
theorem aA_right : aA.wrong = 0 := by decide +kernel
theorem sA_right : sA.wrong = 0 := by decide +kernel
theorem aA_len : (frameB aA.inB).length = 19 := by decide +kernel
theorem sA_len : (frameB sA.inB).length = 19 := by decide +kernel

theorem mark_row (w : World) (c : Array Value) (t : TypeId) (fr : Nat × Nat) (b : Nat) (hb : b = w.heap.size) : (w.alloc (.cells c t fr)).heap[b]? = some (.cells c t fr) := by subst hb; exact heap_alloc_new w _

set_option maxRecDepth 100000 in
set_option maxHeartbeats 4000000 in
theorem alive_any (w : World) : Calls Try.prog 19 #[] w fun e w' => e = .returned (.bool true) ∧ Below w.heap.size w w' := by
  have kc := Joins.run_convert_bytes_const_at (P := Try.prog) (w.alloc (.cells #[.string ⟨#[107]⟩, .int .i64 2, .int .i64 0, .string ⟨#[97, 32, 98]⟩] 65)) 23 5 #[.int .u8 120] 1 1 (w.heap.size + 1) (by simp) Try.underlying23 Try.underlying5
  obtain ⟨Y, hY⟩ : ∃ Y, Y = (((w.alloc (.cells #[.string ⟨#[107]⟩, .int .i64 2, .int .i64 0, .string ⟨#[97, 32, 98]⟩] 65)).alloc (.cells #[.int .u8 120] 5 (1, 2))).alloc (.cells #[.int .i64 4, .string ⟨#[113]⟩, .int .i64 0, .slice (some ⟨w.heap.size, 0, none⟩) 1 1, .slice (some ⟨w.heap.size + 1, 0, none⟩) 1 1] 27)).alloc (.cells #[.int .i64 2, .int .i64 3, .int .i64 1, .int .i64 0, .slice (some ⟨w.heap.size, 0, none⟩) 1 1, .slice (some ⟨w.heap.size + 1, 0, none⟩) 1 1] 30) := ⟨_, rfl⟩
  have YB : Below w.heap.size w Y := by rw [hY]; exact (((below_alloc w _).alloc (by simp) _).alloc (by simp <;> omega) _).alloc (by simp <;> omega) _
  have YZ : Y.heap.size = w.heap.size + 4 := by rw [hY]; simp
  have RS : Y.heap[w.heap.size + 1 + 1 + 1]? = some (.cells #[.int .i64 2, .int .i64 3, .int .i64 1, .int .i64 0, .slice (some ⟨w.heap.size, 0, none⟩) 1 1, .slice (some ⟨w.heap.size + 1, 0, none⟩) 1 1] 30 (0, 0)) := by
    rw [hY]; exact mark_row _ _ _ _ _ (by simp)
  have RA : Y.heap[w.heap.size + 1 + 1]? = some (.cells #[.int .i64 4, .string ⟨#[113]⟩, .int .i64 0, .slice (some ⟨w.heap.size, 0, none⟩) 1 1, .slice (some ⟨w.heap.size + 1, 0, none⟩) 1 1] 27 (0, 0)) := by
    rw [hY, Below.heap_alloc _ _ _ (by simp)]; exact mark_row _ _ _ _ _ (by simp)
  have RB : Y.heap[w.heap.size + 1]? = some (.cells #[.int .u8 120] 5 (1, 2)) := by
    rw [hY, Below.heap_alloc _ _ _ (by simp), Below.heap_alloc _ _ _ (by simp)]; exact mark_row _ _ _ _ _ (by simp)
  have RP : Y.heap[w.heap.size]? = some (.cells #[.string ⟨#[107]⟩, .int .i64 2, .int .i64 0, .string ⟨#[97, 32, 98]⟩] 65 (0, 0)) := by
    rw [hY, Below.heap_alloc _ _ _ (by simp; omega), Below.heap_alloc _ _ _ (by simp; omega), Below.heap_alloc _ _ _ (by simp)]; exact mark_row _ _ _ _ _ rfl
  have NA : Hid (∀ W, Below Y.heap.size Y W → SliceP W.heap.size W (.slice (some ⟨w.heap.size, 0, none⟩) 1 1) [pA] ∧ SliceB W.heap.size W (.slice (some ⟨w.heap.size + 1, 0, none⟩) 1 1) [120]) := by
    show ∀ W, Below Y.heap.size Y W → _
    intro W hW
    have hz := hW.size
    have P := (hW.block w.heap.size (by omega)).trans RP
    have B := (hW.block (w.heap.size + 1) (by omega)).trans RB
    refine ⟨⟨_, _, rfl, Nat.le_refl _, by simp [maxLen], fun h => by simp at h, fun i hi => ?_⟩, ⟨_, _, rfl, Nat.le_refl _, by simp [maxLen], fun h => by simp at h, fun i hi => ?_⟩⟩
    · have : i = 0 := by simpa using hi
      subst this
      exact ⟨_, 0, rfl, by omega, row_c P 0, row_c P 1, row_c P 2, row_c P 3⟩
    · have : i = 0 := by simpa using hi
      subst this
      exact ⟨_, 0, rfl, by omega, cell_of_row W _ 0 _ 5 (1, 2) B⟩
  have HA9 : Hid (∀ W, Below Y.heap.size Y W → Calls Try.prog 9 #[.agg #[.int .i64 4, .string ⟨#[113]⟩, .int .i64 0, .slice (some ⟨w.heap.size, 0, none⟩) 1 1, .slice (some ⟨w.heap.size + 1, 0, none⟩) 1 1]] W fun e w' => ∃ ao cap, e = .returned (.slice ao 19 cap) ∧ SliceB w'.heap.size w' (.slice ao 19 cap) (frameB aA.inB) ∧ Below W.heap.size W w') := by
    show ∀ W, Below Y.heap.size Y W → _
    intro W hW
    refine (askBytes_any aA _ _ W aA_right (NA.out W hW).1 (NA.out W hW).2).mono ?_
    rintro e w' ⟨ao, cap, rfl, ho, hb⟩
    have := own_slice ho
    rw [aA_len] at this ⊢
    exact ⟨ao, cap, rfl, this, hb⟩
  have HA11 : Hid (∀ W, Below Y.heap.size Y W → Calls Try.prog 11 #[.agg #[.int .i64 2, .int .i64 3, .int .i64 1, .int .i64 0, .slice (some ⟨w.heap.size, 0, none⟩) 1 1, .slice (some ⟨w.heap.size + 1, 0, none⟩) 1 1]] W fun e w' => ∃ ao cap, e = .returned (.slice ao 19 cap) ∧ SliceB w'.heap.size w' (.slice ao 19 cap) (frameB sA.inB) ∧ Below W.heap.size W w') := by
    show ∀ W, Below Y.heap.size Y W → _
    intro W hW
    refine (sayBytes_any sA _ _ W sA_right (NA.out W hW).1 (NA.out W hW).2).mono ?_
    rintro e w' ⟨ao, cap, rfl, ho, hb⟩
    have := own_slice ho
    rw [sA_len] at this ⊢
    exact ⟨ao, cap, rfl, this, hb⟩
  clear RB RP
  go_enter Try.func19, Try.ntmps19
  go_upto_region 3 with fail
  rw [← hY]
  clear hY kc
  go_cut [3, 4] (fun b c wx => ∃ ba bc ca cc, b = .slice ba 19 bc ∧ c = .slice ca 19 cc ∧ SliceB wx.heap.size wx (.slice ba 19 bc) (frameB aA.inB) ∧ SliceB wx.heap.size wx (.slice ca 19 cc) (frameB sA.inB) ∧ Below Y.heap.size Y wx)
  case first =>
    obtain ⟨a0, a1, a2, a3, a4, fa⟩ := box5 RA
    obtain ⟨s0, s1, s2, s3, s4, s5, fs⟩ := box6 RS
    have y1 : w.heap.size + 1 + 1 < Y.heap.size := by omega
    have y2 : w.heap.size + 1 + 1 + 1 < Y.heap.size := by omega
    have HRA : Hid (Y.heap[w.heap.size + 1 + 1]? = some (.cells #[.int .i64 4, .string ⟨#[113]⟩, .int .i64 0, .slice (some ⟨w.heap.size, 0, none⟩) 1 1, .slice (some ⟨w.heap.size + 1, 0, none⟩) 1 1] 27 (0, 0))) := RA
    have HRS : Hid (Y.heap[w.heap.size + 1 + 1 + 1]? = some (.cells #[.int .i64 2, .int .i64 3, .int .i64 1, .int .i64 0, .slice (some ⟨w.heap.size, 0, none⟩) 1 1, .slice (some ⟨w.heap.size + 1, 0, none⟩) 1 1] 30 (0, 0))) := RS
    clear RA RS
    refine wp_region_noPanic ?_
    go_region_held (fun w' => w'.cell? ⟨w.heap.size + 1 + 1, 0, none⟩ = some (.int .i64 4) ∧ w'.cell? ⟨w.heap.size + 1 + 1, 1, none⟩ = some (.string ⟨#[113]⟩) ∧ w'.cell? ⟨w.heap.size + 1 + 1, 2, none⟩ = some (.int .i64 0) ∧ w'.cell? ⟨w.heap.size + 1 + 1, 3, none⟩ = some (.slice (some ⟨w.heap.size, 0, none⟩) 1 1) ∧ w'.cell? ⟨w.heap.size + 1 + 1, 4, none⟩ = some (.slice (some ⟨w.heap.size + 1, 0, none⟩) 1 1) ∧ w'.cell? ⟨w.heap.size + 1 + 1 + 1, 0, none⟩ = some (.int .i64 2) ∧ w'.cell? ⟨w.heap.size + 1 + 1 + 1, 1, none⟩ = some (.int .i64 3) ∧ w'.cell? ⟨w.heap.size + 1 + 1 + 1, 2, none⟩ = some (.int .i64 1) ∧ w'.cell? ⟨w.heap.size + 1 + 1 + 1, 3, none⟩ = some (.int .i64 0) ∧ w'.cell? ⟨w.heap.size + 1 + 1 + 1, 4, none⟩ = some (.slice (some ⟨w.heap.size, 0, none⟩) 1 1) ∧ w'.cell? ⟨w.heap.size + 1 + 1 + 1, 5, none⟩ = some (.slice (some ⟨w.heap.size + 1, 0, none⟩) 1 1)) (go_keep) (first
      | (go_at_call 9; (refine (HA9.out _ (by first | exact (Below.refl _ _).drew | exact bs)).mono ?_); rintro e w1 ⟨ba, bc, rfl, hsb, hb1⟩; have ba1 : Below Y.heap.size Y w1 := (by first | exact ⟨hb1.os, hb1.tape, hb1.output, hb1.size, hb1.block⟩ | exact bs.trans (hb1.mono bs.size)); obtain ⟨a0, a1, a2, a3, a4, fa⟩ := box5 ((ba1.block _ y1).trans HRA.out); obtain ⟨s0, s1, s2, s3, s4, s5, fs⟩ := box6 ((ba1.block _ y2).trans HRS.out))
      | (go_at_call 11; (refine (HA11.out _ (by first | exact (Below.refl _ _).drew | exact ba1)).mono ?_); rintro e w2 ⟨ca, cc, rfl, hsc, hb2⟩; have bs : Below Y.heap.size Y w2 := (by first | exact ⟨hb2.os, hb2.tape, hb2.output, hb2.size, hb2.block⟩ | exact ba1.trans (hb2.mono ba1.size)); obtain ⟨a0, a1, a2, a3, a4, fa⟩ := box5 ((bs.block _ y1).trans HRA.out); obtain ⟨s0, s1, s2, s3, s4, s5, fs⟩ := box6 ((bs.block _ y2).trans HRS.out)))
    refine NoPanic.normal ?_
    go_wp2_with fail
    go_meet
    exact ⟨ba, bc, ca, cc, rfl, rfl, hsb.below hb2, hsc, bs⟩
  case rest =>
    obtain ⟨ba, bc, ca, cc, rfl, rfl, hsb, hsc, b0⟩ := hcut
    have HX : Hid (∀ W, SliceB W.heap.size W (.slice ba 19 bc) (frameB aA.inB) → Calls Try.prog 13 #[.slice ba 19 bc] W fun e w' => ∃ va vc ua uc, e = .returned (.tuple #[.agg #[.int .i64 4, .string ⟨#[113]⟩, .int .i64 0, .slice va 1 vc, .slice ua 1 uc], .int .i64 19, .int .i64 0]) ∧
        SliceP w'.heap.size w' (.slice va 1 vc) [pA] ∧ SliceB w'.heap.size w' (.slice ua 1 uc) [120] ∧ Below W.heap.size W w') := by
      show ∀ W, _ → _
      intro W h
      have ht := ask_there aA [] aA_right
      rw [List.append_nil, aA_len] at ht
      have := ask_any _ _ W h
      rw [ht] at this
      refine this.mono ?_
      rintro e w' ⟨va, vc, ua, uc, rfl, h1, h2, h3, -⟩
      exact ⟨va, vc, ua, uc, rfl, h1, h2, h3⟩
    have HY : Hid (∀ W, SliceB W.heap.size W (.slice ca 19 cc) (frameB sA.inB) → Calls Try.prog 16 #[.slice ca 19 cc] W fun e w' => ∃ va vc ua uc, e = .returned (.tuple #[.agg #[.int .i64 2, .int .i64 3, .int .i64 1, .int .i64 0, .slice va 1 vc, .slice ua 1 uc], .int .i64 19, .int .i64 0]) ∧
        SliceP w'.heap.size w' (.slice va 1 vc) [pA] ∧ SliceB w'.heap.size w' (.slice ua 1 uc) [120] ∧ Below W.heap.size W w') := by
      show ∀ W, _ → _
      intro W h
      have ht := say_there sA [] sA_right
      rw [List.append_nil, sA_len] at ht
      have := say_any _ _ W h
      rw [ht] at this
      refine this.mono ?_
      rintro e w' ⟨va, vc, ua, uc, rfl, h1, h2, h3, -⟩
      exact ⟨va, vc, ua, uc, rfl, h1, h2, h3⟩
    have y1 : w.heap.size + 1 + 1 < Y.heap.size := by omega
    have y2 : w.heap.size + 1 + 1 + 1 < Y.heap.size := by omega
    have HRA : Hid (Y.heap[w.heap.size + 1 + 1]? = some (.cells #[.int .i64 4, .string ⟨#[113]⟩, .int .i64 0, .slice (some ⟨w.heap.size, 0, none⟩) 1 1, .slice (some ⟨w.heap.size + 1, 0, none⟩) 1 1] 27 (0, 0))) := RA
    have HRS : Hid (Y.heap[w.heap.size + 1 + 1 + 1]? = some (.cells #[.int .i64 2, .int .i64 3, .int .i64 1, .int .i64 0, .slice (some ⟨w.heap.size, 0, none⟩) 1 1, .slice (some ⟨w.heap.size + 1, 0, none⟩) 1 1] 30 (0, 0))) := RS
    have HC : Hid (SliceB wc.heap.size wc (.slice ca 19 cc) (frameB sA.inB)) := hsc
    clear RA RS HA9 HA11 hsc
    have hz0 := b0.size
    go_wp2_with (first
      | (go_at_call 13; refine (HX.out _ hsb).mono ?_; rintro e w3 ⟨va, vc, ua, uc, rfl, hv3, hu3, hb3⟩; have hz3 := hb3.size; have b3 : Below Y.heap.size Y w3 := b0.trans (hb3.mono b0.size); have HC3 : Hid (SliceB w3.heap.size w3 (.slice ca 19 cc) (frameB sA.inB)) := HC.out.below hb3)
      | (go_at_call 16; refine (HY.out _ (HC3.out.below (below_alloc _ _))).mono ?_; rintro e w4 ⟨va4, vc4, ua4, uc4, rfl, hv4, hu4, hb4⟩; have hz4 := hb4.size; simp at hz4; have hlt4 : w3.heap.size < w4.heap.size := (by omega); have y3 : w.heap.size + 1 + 1 < w4.heap.size := (by omega); have y4 : w.heap.size + 1 + 1 + 1 < w4.heap.size := (by omega); have b4 : Below Y.heap.size Y w4 := (b3.alloc (by omega) _).trans (hb4.mono (by simp; omega)); have R5 := (hb4.block w3.heap.size (by simp)).trans (heap_alloc_new w3 _); have hv5 := (hv3.below (below_alloc _ _)).below hb4; have hu5 := (hu3.below (below_alloc _ _)).below hb4; obtain ⟨a0, a1, a2, a3, a4, fa⟩ := box5 ((b4.block _ y1).trans HRA.out); obtain ⟨x0, x1, x2, x3, x4, fx⟩ := box5 R5)
      | (go_at_call 15; (refine (sameAsk_eq 4 0 ⟨#[113]⟩ _ _ _ _ [pA] [120] _ (hv5.below (below_alloc _ _)) (hu5.below (below_alloc _ _)) ((NA.out _ b4).1.below (below_alloc _ _)) ((NA.out _ b4).2.below (below_alloc _ _))).mono ?_); rintro e w5 ⟨rfl, hb5⟩; have hz5 := hb5.size; simp at hz5; have b5 : Below Y.heap.size Y w5 := (b4.alloc (by omega) _).trans (hb5.mono (by simp; omega)); have R8 := (hb5.block w4.heap.size (by simp)).trans (heap_alloc_new w4 _); have hv6 := (hv4.below (below_alloc _ _)).below hb5; have hu6 := (hu4.below (below_alloc _ _)).below hb5; obtain ⟨s0, s1, s2, s3, s4, s5, fs⟩ := box6 ((b5.block _ y2).trans HRS.out); obtain ⟨z0, z1, z2, z3, z4, z5, fz⟩ := box6 R8)
      | (go_at_call 18; (refine (sameSay_eq 2 3 1 0 _ _ _ _ [pA] [120] _ hv6 hu6 (NA.out _ b5).1 (NA.out _ b5).2).mono ?_); rintro e w6 ⟨rfl, hb6⟩))
    refine bodyPost_ret (v := .bool true) (by simp [results, Try.results19, go_sem, *]) rfl ?_
    exact ⟨rfl, (YB.trans (b5.mono (by omega))).trans (hb6.mono (by omega))⟩
end Go.Proofs.Ytnfmidbbelgldaa
