/-
  tglaw8.alive answers true.
-/
import Derived.Test.YtedhlbknbaggiaaGreatDoorLnRightF
import Derived.Test.YtedhlbknbaggiaaGreatDoorLnSay
import Derived.Test.YtedhlbknbaggiaaGreatDoorLnRightCardM08
import Derived.Deep.RegionHeld
import Derived.Deep.DeepCutAuto
import Derived.Lib.SlBytesConst
import Derived.Lib.SmallJoins
namespace Go.Proofs.YtedhlbknbaggiaaGreatDoor
open Go.RowKit
set_option linter.unusedVariables false
set_option linter.unusedSimpArgs false

attribute [local go_sem ↓] Go.wp_at_zero Go.wp_at_succ

theorem row_c {w : World} {b : Nat} {cs : Array Value} {t : TypeId} (h : w.heap[b]? = some (.cells cs t (0, 0))) (o : Nat) : w.cell? ⟨b, o, none⟩ = cs[o]? := cell_of_row w b o cs t (0, 0) h

theorem row_f {w : World} {b : Nat} {cs : Array Value} {t : TypeId} (h : w.heap[b]? = some (.cells cs t (0, 0))) (o : Nat) : w.frozen? ⟨b, o, none⟩ = false := by
  unfold World.frozen?
  simp [h]

theorem box5 {w : World} {b : Nat} {c0 c1 c2 c3 c4 : Value} {t : TypeId} (h : w.heap[b]? = some (.cells #[c0, c1, c2, c3, c4] t (0, 0))) :
    w.cell? ⟨b, 0, none⟩ = some c0 ∧ w.cell? ⟨b, 1, none⟩ = some c1 ∧ w.cell? ⟨b, 2, none⟩ = some c2 ∧ w.cell? ⟨b, 3, none⟩ = some c3 ∧ w.cell? ⟨b, 4, none⟩ = some c4 ∧ ∀ o, w.frozen? ⟨b, o, none⟩ = false :=
  ⟨row_c h 0, row_c h 1, row_c h 2, row_c h 3, row_c h 4, row_f h⟩

theorem box6 {w : World} {b : Nat} {c0 c1 c2 c3 c4 c5 : Value} {t : TypeId} (h : w.heap[b]? = some (.cells #[c0, c1, c2, c3, c4, c5] t (0, 0))) :
    w.cell? ⟨b, 0, none⟩ = some c0 ∧ w.cell? ⟨b, 1, none⟩ = some c1 ∧ w.cell? ⟨b, 2, none⟩ = some c2 ∧ w.cell? ⟨b, 3, none⟩ = some c3 ∧ w.cell? ⟨b, 4, none⟩ = some c4 ∧ w.cell? ⟨b, 5, none⟩ = some c5 ∧ ∀ o, w.frozen? ⟨b, o, none⟩ = false :=
  ⟨row_c h 0, row_c h 1, row_c h 2, row_c h 3, row_c h 4, row_c h 5, row_f h⟩


def ToldAsk2 (a : AD) (n err : Int) (w : World) (e : Ending) (w' : World) : Prop :=
  ∃ va vc ua uc, e = .returned (.tuple #[.agg #[.int .i64 a.kind, .string a.queue, .int .i64 a.n, .slice va a.ps.length vc, .slice ua a.body.length uc], .int .i64 n, .int .i64 err]) ∧
    SliceP w'.heap.size w' (.slice va a.ps.length vc) a.ps ∧ SliceB w'.heap.size w' (.slice ua a.body.length uc) a.body ∧ Below w.heap.size w w'
def ToldSay2 (a : SD) (n err : Int) (w : World) (e : Ending) (w' : World) : Prop :=
  ∃ va vc ua uc, e = .returned (.tuple #[.agg #[.int .i64 a.kind, .int .i64 a.n, .int .i64 a.m, .int .i64 a.err, .slice va a.ps.length vc, .slice ua a.body.length uc], .int .i64 n, .int .i64 err]) ∧
    SliceP w'.heap.size w' (.slice va a.ps.length vc) a.ps ∧ SliceB w'.heap.size w' (.slice ua a.body.length uc) a.body ∧ Below w.heap.size w w'
theorem ask_told (v : Value) (bs : List UInt8) (w : World) (hv : SliceB w.heap.size w v bs) (hV : Vars w) : Calls Tryz.prog 25 #[v] w (ToldAsk2 (readAskF bs).1 ((readAskF bs).2.1 : Int) (readAskF bs).2.2 w) := by
  refine (ask_any v bs w hv hV).mono ?_
  rintro e w' ⟨⟨v, u, rfl, h1, h2⟩, hb⟩
  obtain ⟨va, vc, rfl, -⟩ := own_shape h1
  obtain ⟨ua, uc, rfl, -⟩ := own_shape h2
  exact ⟨va, vc, ua, uc, rfl, own_props h1, own_bytes h2 rfl, hb⟩
theorem say_told (v : Value) (bs : List UInt8) (w : World) (hv : SliceB w.heap.size w v bs) (hV : Vars w) : Calls Tryz.prog 28 #[v] w (ToldSay2 (readSayF bs).1 ((readSayF bs).2.1 : Int) (readSayF bs).2.2 w) := by
  refine (say_any v bs w hv hV).mono ?_
  rintro e w' ⟨⟨v, u, rfl, h1, h2⟩, hb⟩
  obtain ⟨va, vc, rfl, -⟩ := own_shape h1
  obtain ⟨ua, uc, rfl, -⟩ := own_shape h2
  exact ⟨va, vc, ua, uc, rfl, own_props h1, own_bytes h2 rfl, hb⟩

def pA : PD := ⟨⟨#[107]⟩, 2, 0, ⟨#[97, 32, 98]⟩⟩
def aA : AD := ⟨4, ⟨#[113]⟩, 0, [pA], [120]⟩
def sA : SD := ⟨2, 3, 1, 0, [pA], [120]⟩
theorem aA_right : aA.wrong = 0 := by decide +kernel
theorem sA_right : sA.wrong = 0 := by decide +kernel
theorem aA_read : readAskF (askLineF aA) = (aA, 20, 0) := by kernel_rfl
theorem sA_read : readSayF (sayLineF sA) = (sA, 24, 0) := by kernel_rfl
theorem aA_len : (askLineF aA).length = 20 := by kernel_rfl
theorem sA_len : (sayLineF sA).length = 24 := by kernel_rfl

theorem aA_fits : ∀ p ∈ aA.ps, p.fitsW := by
  intro p hp
  rw [show aA.ps = [pA] from rfl, List.mem_singleton] at hp
  subst hp
  unfold PD.fitsW
  decide

theorem mark_row (w : World) (c : Array Value) (t : TypeId) (fr : Nat × Nat) (b : Nat) (hb : b = w.heap.size) : (w.alloc (.cells c t fr)).heap[b]? = some (.cells c t fr) := by subst hb; exact heap_alloc_new w _

set_option maxRecDepth 100000 in
set_option maxHeartbeats 2000000 in
theorem alive_any (w : World) (hV : Vars w) : Calls Tryz.prog 31 #[] w fun e w' => e = .returned (.bool true) ∧ Below w.heap.size w w' := by
  have kc := Joins.run_convert_bytes_const_at (P := Tryz.prog) (w.alloc (.cells #[.string ⟨#[107]⟩, .int .i64 2, .int .i64 0, .string ⟨#[97, 32, 98]⟩] 36)) 23 5 #[.int .u8 120] 1 1 (w.heap.size + 1) (by simp) Tryz.underlying23 Tryz.underlying5
  obtain ⟨Y, hY⟩ : ∃ Y, Y = (((w.alloc (.cells #[.string ⟨#[107]⟩, .int .i64 2, .int .i64 0, .string ⟨#[97, 32, 98]⟩] 36)).alloc (.cells #[.int .u8 120] 5 (1, 2))).alloc (.cells #[.int .i64 4, .string ⟨#[113]⟩, .int .i64 0, .slice (some ⟨w.heap.size, 0, none⟩) 1 1, .slice (some ⟨w.heap.size + 1, 0, none⟩) 1 1] 27)).alloc (.cells #[.int .i64 2, .int .i64 3, .int .i64 1, .int .i64 0, .slice (some ⟨w.heap.size, 0, none⟩) 1 1, .slice (some ⟨w.heap.size + 1, 0, none⟩) 1 1] 30) := ⟨_, rfl⟩
  have YB : Below w.heap.size w Y := by rw [hY]; exact (((below_alloc w _).alloc (by simp) _).alloc (by simp <;> omega) _).alloc (by simp <;> omega) _
  have YZ : Y.heap.size = w.heap.size + 4 := by rw [hY]; simp
  have RS : Y.heap[w.heap.size + 1 + 1 + 1]? = some (.cells #[.int .i64 2, .int .i64 3, .int .i64 1, .int .i64 0, .slice (some ⟨w.heap.size, 0, none⟩) 1 1, .slice (some ⟨w.heap.size + 1, 0, none⟩) 1 1] 30 (0, 0)) := by
    rw [hY]; exact mark_row _ _ _ _ _ (by simp)
  have RA : Y.heap[w.heap.size + 1 + 1]? = some (.cells #[.int .i64 4, .string ⟨#[113]⟩, .int .i64 0, .slice (some ⟨w.heap.size, 0, none⟩) 1 1, .slice (some ⟨w.heap.size + 1, 0, none⟩) 1 1] 27 (0, 0)) := by
    rw [hY, Below.heap_alloc _ _ _ (by simp)]; exact mark_row _ _ _ _ _ (by simp)
  have RB : Y.heap[w.heap.size + 1]? = some (.cells #[.int .u8 120] 5 (1, 2)) := by
    rw [hY, Below.heap_alloc _ _ _ (by simp), Below.heap_alloc _ _ _ (by simp)]; exact mark_row _ _ _ _ _ (by simp)
  have RP : Y.heap[w.heap.size]? = some (.cells #[.string ⟨#[107]⟩, .int .i64 2, .int .i64 0, .string ⟨#[97, 32, 98]⟩] 36 (0, 0)) := by
    rw [hY, Below.heap_alloc _ _ _ (by simp; omega), Below.heap_alloc _ _ _ (by simp; omega), Below.heap_alloc _ _ _ (by simp)]; exact mark_row _ _ _ _ _ rfl
  have NA : Hid (∀ W, Below Y.heap.size Y W → SliceP W.heap.size W (.slice (some ⟨w.heap.size, 0, none⟩) 1 1) [pA] ∧ SliceB W.heap.size W (.slice (some ⟨w.heap.size + 1, 0, none⟩) 1 1) [120]) := by
    show ∀ W, Below Y.heap.size Y W → _
    intro W hW
    have hz := hW.size
    have P := (hW.block w.heap.size (by omega)).trans RP
    have B := (hW.block (w.heap.size + 1) (by omega)).trans RB
    refine ⟨⟨_, _, rfl, Nat.le_refl _, by simp [maxLen], fun h => by simp at h, fun i hi => ?_⟩, ⟨_, _, rfl, Nat.le_refl _, by simp [maxLen], fun h => by simp at h, fun i hi => ?_⟩⟩
    · have : i = 0 := by simpa using hi
      subst this
      exact ⟨_, 0, rfl, by omega, row_c P 0, row_c P 1, row_c P 2, row_c P 3⟩
    · have : i = 0 := by simpa using hi
      subst this
      exact ⟨_, 0, rfl, by omega, cell_of_row W _ 0 _ 5 (1, 2) B⟩
  have HV : Hid (Vars w) := hV
  clear hV
  have HA9 : Hid (∀ W, Below Y.heap.size Y W → Calls Tryz.prog 20 #[.agg #[.int .i64 4, .string ⟨#[113]⟩, .int .i64 0, .slice (some ⟨w.heap.size, 0, none⟩) 1 1, .slice (some ⟨w.heap.size + 1, 0, none⟩) 1 1]] W fun e w' => ∃ ao cap, e = .returned (.slice ao 20 cap) ∧ SliceB w'.heap.size w' (.slice ao 20 cap) (askLineF aA) ∧ Below W.heap.size W w') := by
    show ∀ W, Below Y.heap.size Y W → _
    intro W hW
    refine (askBytes_any aA _ _ W (NA.out W hW).1 (NA.out W hW).2 (HV.out.on (YB.trans (hW.mono (by omega)))) (by decide) (by decide) aA_fits (by decide) (by decide) (by decide)).mono ?_
    rintro e w' ⟨⟨x, rfl, hx⟩, hb⟩
    obtain ⟨ao, cap, rfl, h1, h2, h3, h4⟩ := hx
    rw [aA_len] at h1 ⊢
    exact ⟨ao, cap, rfl, ⟨ao, cap, by rw [aA_len], by rw [aA_len]; exact h1, h2, h3, h4⟩, hb⟩
  have HA11 : Hid (∀ W, Below Y.heap.size Y W → Calls Tryz.prog 23 #[.agg #[.int .i64 2, .int .i64 3, .int .i64 1, .int .i64 0, .slice (some ⟨w.heap.size, 0, none⟩) 1 1, .slice (some ⟨w.heap.size + 1, 0, none⟩) 1 1]] W fun e w' => ∃ ao cap, e = .returned (.slice ao 24 cap) ∧ SliceB w'.heap.size w' (.slice ao 24 cap) (sayLineF sA) ∧ Below W.heap.size W w') := by
    show ∀ W, Below Y.heap.size Y W → _
    intro W hW
    refine (sayBytes_any sA _ _ W (NA.out W hW).1 (NA.out W hW).2 (HV.out.on (YB.trans (hW.mono (by omega)))) (by decide) (by decide) aA_fits (by decide) (by decide) (by decide) (by decide)).mono ?_
    rintro e w' ⟨⟨x, rfl, hx⟩, hb⟩
    obtain ⟨ao, cap, rfl, h1, h2, h3, h4⟩ := hx
    rw [sA_len] at h1 ⊢
    exact ⟨ao, cap, rfl, ⟨ao, cap, by rw [sA_len], by rw [sA_len]; exact h1, h2, h3, h4⟩, hb⟩
  clear RB RP
  go_enter Tryz.func31, Tryz.ntmps31
  go_upto_region 3 with fail
  rw [← hY]
  clear hY kc
  go_cut [3, 4] (fun b c wx => ∃ ba bc ca cc, b = .slice ba 20 bc ∧ c = .slice ca 24 cc ∧ SliceB wx.heap.size wx (.slice ba 20 bc) (askLineF aA) ∧ SliceB wx.heap.size wx (.slice ca 24 cc) (sayLineF sA) ∧ Below Y.heap.size Y wx)
  case first =>
    obtain ⟨a0, a1, a2, a3, a4, fa⟩ := box5 RA
    obtain ⟨s0, s1, s2, s3, s4, s5, fs⟩ := box6 RS
    have y1 : w.heap.size + 1 + 1 < Y.heap.size := by omega
    have y2 : w.heap.size + 1 + 1 + 1 < Y.heap.size := by omega
    have HRA : Hid (Y.heap[w.heap.size + 1 + 1]? = some (.cells #[.int .i64 4, .string ⟨#[113]⟩, .int .i64 0, .slice (some ⟨w.heap.size, 0, none⟩) 1 1, .slice (some ⟨w.heap.size + 1, 0, none⟩) 1 1] 27 (0, 0))) := RA
    have HRS : Hid (Y.heap[w.heap.size + 1 + 1 + 1]? = some (.cells #[.int .i64 2, .int .i64 3, .int .i64 1, .int .i64 0, .slice (some ⟨w.heap.size, 0, none⟩) 1 1, .slice (some ⟨w.heap.size + 1, 0, none⟩) 1 1] 30 (0, 0))) := RS
    clear RA RS
    refine wp_region_noPanic ?_
    go_region_held (fun w' => w'.cell? ⟨w.heap.size + 1 + 1, 0, none⟩ = some (.int .i64 4) ∧ w'.cell? ⟨w.heap.size + 1 + 1, 1, none⟩ = some (.string ⟨#[113]⟩) ∧ w'.cell? ⟨w.heap.size + 1 + 1, 2, none⟩ = some (.int .i64 0) ∧ w'.cell? ⟨w.heap.size + 1 + 1, 3, none⟩ = some (.slice (some ⟨w.heap.size, 0, none⟩) 1 1) ∧ w'.cell? ⟨w.heap.size + 1 + 1, 4, none⟩ = some (.slice (some ⟨w.heap.size + 1, 0, none⟩) 1 1) ∧ w'.cell? ⟨w.heap.size + 1 + 1 + 1, 0, none⟩ = some (.int .i64 2) ∧ w'.cell? ⟨w.heap.size + 1 + 1 + 1, 1, none⟩ = some (.int .i64 3) ∧ w'.cell? ⟨w.heap.size + 1 + 1 + 1, 2, none⟩ = some (.int .i64 1) ∧ w'.cell? ⟨w.heap.size + 1 + 1 + 1, 3, none⟩ = some (.int .i64 0) ∧ w'.cell? ⟨w.heap.size + 1 + 1 + 1, 4, none⟩ = some (.slice (some ⟨w.heap.size, 0, none⟩) 1 1) ∧ w'.cell? ⟨w.heap.size + 1 + 1 + 1, 5, none⟩ = some (.slice (some ⟨w.heap.size + 1, 0, none⟩) 1 1)) (go_keep) (first
      | (go_at_call 20; (refine (HA9.out _ (by first | exact (Below.refl _ _).drew | exact bs)).mono ?_); rintro e w1 ⟨ba, bc, rfl, hsb, hb1⟩; have ba1 : Below Y.heap.size Y w1 := (by first | exact ⟨hb1.os, hb1.tape, hb1.output, hb1.size, hb1.block⟩ | exact bs.trans (hb1.mono bs.size)); obtain ⟨a0, a1, a2, a3, a4, fa⟩ := box5 ((ba1.block _ y1).trans HRA.out); obtain ⟨s0, s1, s2, s3, s4, s5, fs⟩ := box6 ((ba1.block _ y2).trans HRS.out))
      | (go_at_call 23; (refine (HA11.out _ (by first | exact (Below.refl _ _).drew | exact ba1)).mono ?_); rintro e w2 ⟨ca, cc, rfl, hsc, hb2⟩; have bs : Below Y.heap.size Y w2 := (by first | exact ⟨hb2.os, hb2.tape, hb2.output, hb2.size, hb2.block⟩ | exact ba1.trans (hb2.mono ba1.size)); obtain ⟨a0, a1, a2, a3, a4, fa⟩ := box5 ((bs.block _ y1).trans HRA.out); obtain ⟨s0, s1, s2, s3, s4, s5, fs⟩ := box6 ((bs.block _ y2).trans HRS.out)))
    refine NoPanic.normal ?_
    go_wp2_with fail
    go_meet
    exact ⟨ba, bc, ca, cc, rfl, rfl, hsb.below hb2, hsc, bs⟩
  case rest =>
    obtain ⟨ba, bc, ca, cc, rfl, rfl, hsb, hsc, b0⟩ := hcut
    have HX : Hid (∀ W, Vars W → SliceB W.heap.size W (.slice ba 20 bc) (askLineF aA) → Calls Tryz.prog 25 #[.slice ba 20 bc] W fun e w' => ∃ va vc ua uc, e = .returned (.tuple #[.agg #[.int .i64 4, .string ⟨#[113]⟩, .int .i64 0, .slice va 1 vc, .slice ua 1 uc], .int .i64 20, .int .i64 0]) ∧
        SliceP w'.heap.size w' (.slice va 1 vc) [pA] ∧ SliceB w'.heap.size w' (.slice ua 1 uc) [120] ∧ Below W.heap.size W w') := by
      show ∀ W, _ → _ → _
      intro W hVW h
      have := ask_told _ _ W h hVW
      rw [aA_read] at this
      refine this.mono ?_
      rintro e w' ⟨va, vc, ua, uc, rfl, h1, h2, h3⟩
      exact ⟨va, vc, ua, uc, rfl, h1, h2, h3⟩
    have HY : Hid (∀ W, Vars W → SliceB W.heap.size W (.slice ca 24 cc) (sayLineF sA) → Calls Tryz.prog 28 #[.slice ca 24 cc] W fun e w' => ∃ va vc ua uc, e = .returned (.tuple #[.agg #[.int .i64 2, .int .i64 3, .int .i64 1, .int .i64 0, .slice va 1 vc, .slice ua 1 uc], .int .i64 24, .int .i64 0]) ∧
        SliceP w'.heap.size w' (.slice va 1 vc) [pA] ∧ SliceB w'.heap.size w' (.slice ua 1 uc) [120] ∧ Below W.heap.size W w') := by
      show ∀ W, _ → _ → _
      intro W hVW h
      have := say_told _ _ W h hVW
      rw [sA_read] at this
      refine this.mono ?_
      rintro e w' ⟨va, vc, ua, uc, rfl, h1, h2, h3⟩
      exact ⟨va, vc, ua, uc, rfl, h1, h2, h3⟩
    have y1 : w.heap.size + 1 + 1 < Y.heap.size := by omega
    have y2 : w.heap.size + 1 + 1 + 1 < Y.heap.size := by omega
    have HRA : Hid (Y.heap[w.heap.size + 1 + 1]? = some (.cells #[.int .i64 4, .string ⟨#[113]⟩, .int .i64 0, .slice (some ⟨w.heap.size, 0, none⟩) 1 1, .slice (some ⟨w.heap.size + 1, 0, none⟩) 1 1] 27 (0, 0))) := RA
    have HRS : Hid (Y.heap[w.heap.size + 1 + 1 + 1]? = some (.cells #[.int .i64 2, .int .i64 3, .int .i64 1, .int .i64 0, .slice (some ⟨w.heap.size, 0, none⟩) 1 1, .slice (some ⟨w.heap.size + 1, 0, none⟩) 1 1] 30 (0, 0))) := RS
    have HC : Hid (SliceB wc.heap.size wc (.slice ca 24 cc) (sayLineF sA)) := hsc
    clear RA RS HA9 HA11 hsc
    have hz0 := b0.size
    go_wp2_with (first
      | (go_at_call 25; refine (HX.out _ (HV.out.on (YB.trans (b0.mono (by omega)))) hsb).mono ?_; rintro e w3 ⟨va, vc, ua, uc, rfl, hv3, hu3, hb3⟩; have hz3 := hb3.size; have b3 : Below Y.heap.size Y w3 := b0.trans (hb3.mono b0.size); have HC3 : Hid (SliceB w3.heap.size w3 (.slice ca 24 cc) (sayLineF sA)) := HC.out.below hb3)
      | (go_at_call 28; refine (HY.out _ ((HV.out.on (YB.trans (b3.mono (by omega)))).on (below_alloc _ _)) (HC3.out.below (below_alloc _ _))).mono ?_; rintro e w4 ⟨va4, vc4, ua4, uc4, rfl, hv4, hu4, hb4⟩; have hz4 := hb4.size; simp at hz4; have hlt4 : w3.heap.size < w4.heap.size := (by omega); have y3 : w.heap.size + 1 + 1 < w4.heap.size := (by omega); have y4 : w.heap.size + 1 + 1 + 1 < w4.heap.size := (by omega); have b4 : Below Y.heap.size Y w4 := (b3.alloc (by omega) _).trans (hb4.mono (by simp; omega)); have R5 := (hb4.block w3.heap.size (by simp)).trans (heap_alloc_new w3 _); have hv5 := (hv3.below (below_alloc _ _)).below hb4; have hu5 := (hu3.below (below_alloc _ _)).below hb4; obtain ⟨a0, a1, a2, a3, a4, fa⟩ := box5 ((b4.block _ y1).trans HRA.out); obtain ⟨x0, x1, x2, x3, x4, fx⟩ := box5 R5)
      | (go_at_call 27; (refine (sameAsk_eq 4 0 ⟨#[113]⟩ _ _ _ _ [pA] [120] _ (hv5.below (below_alloc _ _)) (hu5.below (below_alloc _ _)) ((NA.out _ b4).1.below (below_alloc _ _)) ((NA.out _ b4).2.below (below_alloc _ _))).mono ?_); rintro e w5 ⟨rfl, hb5⟩; have hz5 := hb5.size; simp at hz5; have b5 : Below Y.heap.size Y w5 := (b4.alloc (by omega) _).trans (hb5.mono (by simp; omega)); have R8 := (hb5.block w4.heap.size (by simp)).trans (heap_alloc_new w4 _); have hv6 := (hv4.below (below_alloc _ _)).below hb5; have hu6 := (hu4.below (below_alloc _ _)).below hb5; obtain ⟨s0, s1, s2, s3, s4, s5, fs⟩ := box6 ((b5.block _ y2).trans HRS.out); obtain ⟨z0, z1, z2, z3, z4, z5, fz⟩ := box6 R8)
      | (go_at_call 30; (refine (sameSay_eq 2 3 1 0 _ _ _ _ [pA] [120] _ hv6 hu6 (NA.out _ b5).1 (NA.out _ b5).2).mono ?_); rintro e w6 ⟨rfl, hb6⟩))
    refine bodyPost_ret (v := .bool true) (by simp [results, Tryz.results31, go_sem, *]) rfl ?_
    exact ⟨rfl, (YB.trans (b5.mono (by omega))).trans (hb6.mono (by omega))⟩
end Go.Proofs.YtedhlbknbaggiaaGreatDoor
