/-
  tglaw8.LinesRight answers true for all bytes.
-/
import Derived.Test.YtedhlbknbaggiaaGreatDoorLnAlive
import Derived.Test.YtedhlbknbaggiaaGreatDoorFRefA
namespace Go.Proofs.YtedhlbknbaggiaaGreatDoor
open Go.RowKit
set_option linter.unusedVariables false
set_option linter.unusedSimpArgs false

attribute [local go_sem ↓] Go.wp_at_zero Go.wp_at_succ

theorem right_fits (ps : List PD) (n : Nat) (h : wrongN ps n = 0) : ∀ p ∈ ps, p.fits := by
  obtain ⟨h1, h2, h3⟩ := wrongN_zero ps n h
  intro p hp
  obtain ⟨⟨g1, g2, g3, g4⟩, g5⟩ := right_prop p (h2 p hp)
  unfold PD.fits maxLen
  refine ⟨by omega, ?_⟩
  rcases g5 with ⟨k, _⟩ | ⟨_, t, _⟩
  · have := g4 k; omega
  · rw [t]; simp
theorem wrongAsk_right (A : AD) (h : A.wrong = 0) (v u : Value) (w : World) (hv : SliceP w.heap.size w v A.ps) (hu : SliceB w.heap.size w u A.body) :
    Calls Tryz.prog 19 #[.agg #[.int .i64 A.kind, .string A.queue, .int .i64 A.n, v, u]] w fun r w' => r = .returned (.int .i64 0) ∧ Below w.heap.size w w' := by
  obtain ⟨g1, g2, g3, g4, g5, g6, g7⟩ := A.right h
  obtain ⟨h1, h2, h3⟩ := wrongN_zero _ _ g6
  have := refWrongAsk_any A.kind A.n A.queue v u A.ps A.body w (by unfold maxLen; omega) hv hu (right_fits _ _ g6) (by omega) (by omega)
  have e : AD.wrong ⟨A.kind, A.queue, A.n, A.ps, A.body⟩ = 0 := h
  rw [e] at this
  exact this
theorem wrongSay_right (A : SD) (h : A.wrong = 0) (v u : Value) (w : World) (hv : SliceP w.heap.size w v A.ps) (hu : SliceB w.heap.size w u A.body) :
    Calls Tryz.prog 22 #[.agg #[.int .i64 A.kind, .int .i64 A.n, .int .i64 A.m, .int .i64 A.err, v, u]] w fun r w' => r = .returned (.int .i64 0) ∧ Below w.heap.size w w' := by
  obtain ⟨g1, g2, g3, g4, g5, g6, g7, g8, g9, g10⟩ := A.right h
  obtain ⟨h1, h2, h3⟩ := wrongN_zero _ _ g9
  have := refWrongSay_any A.kind A.n A.m A.err v u A.ps A.body w hv hu (right_fits _ _ g9) (by omega) (by omega)
  have e : SD.wrong ⟨A.kind, A.n, A.m, A.err, A.ps, A.body⟩ = 0 := h
  rw [e] at this
  exact this

set_option maxRecDepth 100000 in
set_option maxHeartbeats 4000000 in
theorem right_any (bv : Value) (b : List UInt8) (w : World) (hb : SliceB w.heap.size w bv b) (hbl : b.length ≤ 140737488351232) (hV : Vars w) :
    Calls Tryz.prog 5 #[bv] w fun e w' => e = .returned (.bool true) ∧ Below w.heap.size w w' := by
  have HA : ∀ W, Vars W → SliceB W.heap.size W bv b → Calls Tryz.prog 25 #[bv] W (ToldAsk2 (readAskF b).1 ((readAskF b).2.1 : Int) (readAskF b).2.2 W) := fun W hVW h => ask_told bv b W h hVW
  have HS : ∀ W, Vars W → SliceB W.heap.size W bv b → Calls Tryz.prog 28 #[bv] W (ToldSay2 (readSayF b).1 ((readSayF b).2.1 : Int) (readSayF b).2.2 W) := fun W hVW h => say_told bv b W h hVW
  have ra := readAsk_right b
  have rs := readSay_right b
  have HV : Hid (Vars w) := hV
  clear hV
  have HB : Hid (SliceB w.heap.size w bv b) := hb
  obtain ⟨ba, bc, rfl, -⟩ := hb
  have HAl : Hid (Calls Tryz.prog 31 #[] w fun e w' => e = .returned (.bool true) ∧ Below w.heap.size w w') := alive_any w HV.out
  obtain ⟨J, hJ⟩ : ∃ J, J = readAskF b := ⟨_, rfl⟩
  obtain ⟨K, hK⟩ : ∃ K, K = readSayF b := ⟨_, rfl⟩
  rw [← hJ] at HA ra
  rw [← hK] at HS rs
  clear hJ hK
  obtain ⟨A, na, ea⟩ := J
  obtain ⟨S, ns, es⟩ := K
  simp only at HA HS ra rs
  have hA8 : A.wrong = 0 → ∀ W v u, SliceP W.heap.size W v A.ps → SliceB W.heap.size W u A.body → _ := fun h W v u h1 h2 => wrongAsk_right A h v u W h1 h2
  have hS7 : S.wrong = 0 → ∀ W v u, SliceP W.heap.size W v S.ps → SliceB W.heap.size W u S.body → _ := fun h W v u h1 h2 => wrongSay_right S h v u W h1 h2
  obtain ⟨k, q, n, ps, body⟩ := A
  obtain ⟨k2, n2, m2, e2, ps2, body2⟩ := S
  unfold ToldAsk2 at HA
  unfold ToldSay2 at HS
  simp only at HA HS hA8 hS7
  have HA' : Hid _ := HA
  have HS' : Hid _ := HS
  clear HA HS
  rcases ra with ⟨rfl, wa, na1, na2, na3⟩ | ⟨hea, zn, zA⟩
  · rcases rs with ⟨rfl, ws, ns1, ns2, ns3⟩ | ⟨hes, zn2, zS⟩
    · have hA9 : Hid _ := hA8 wa
      have t1 : ¬ (na : Int) < 1 := by omega
      have t2 : ¬ (b.length : Int) < (na : Int) := by omega
      have t3 : ¬ (400 : Int) < (na : Int) := by omega
      have hS9 : Hid _ := hS7 ws
      have t4 : (1 : Int) ≤ (ns : Int) := by omega
      have t5 : (ns : Int) ≤ (b.length : Int) := by omega
      have t6 : (ns : Int) ≤ (400 : Int) := by omega
      clear hA8 hS7 wa ws
      go_enter Tryz.func5, Tryz.ntmps5
      go_wp2_with (first
        | (go_at_call 31; refine HAl.out.mono ?_; rintro e w1 ⟨rfl, hb1⟩; have hz1 := hb1.size; have HB1 : Hid (SliceB w1.heap.size w1 _ b) := HB.out.below hb1)
        | (go_at_call 25; refine (HA'.out _ (HV.out.on hb1) HB1.out).mono ?_; rintro e w2 ⟨va, vc, ua, uc, rfl, hv2, hu2, hb2⟩; have hz2 := hb2.size; have HB2 : Hid (SliceB w2.heap.size w2 _ b) := HB1.out.below hb2; have b2 : Below w.heap.size w w2 := hb1.trans (hb2.mono hz1))
        | (go_at_call 28; refine (HS'.out _ ((HV.out.on b2).on (below_alloc _ _)) (HB2.out.below (below_alloc _ _))).mono ?_; rintro e w3 ⟨va3, vc3, ua3, uc3, rfl, hv3, hu3, hb3⟩; have hz3 := hb3.size; simp at hz3; have R2 := (hb3.block w2.heap.size (by simp)).trans (heap_alloc_new w2 _); obtain ⟨a0, a1, a2, a3, a4, fa⟩ := box5 R2; have lt3 : w2.heap.size < w3.heap.size := (by omega); have b3 : Below w.heap.size w w3 := (b2.alloc (by omega) _).trans (hb3.mono (by simp; omega)))
        | (go_at_call 19; refine (hA9.out _ _ _ (((hv2.below (below_alloc _ _)).below hb3).below (below_alloc _ _)) (((hu2.below (below_alloc _ _)).below hb3).below (below_alloc _ _))).mono ?_; rintro e w4 ⟨rfl, hb4⟩; have hz4 := hb4.size; simp at hz4; have R3 := (hb4.block w3.heap.size (by simp)).trans (heap_alloc_new w3 _); obtain ⟨s0, s1, s2, s3, s4, s5, fs⟩ := box6 R3; have b4 : Below w.heap.size w w4 := (b3.alloc (by omega) _).trans (hb4.mono (by simp; omega)))
        | (go_at_call 22; refine (hS9.out _ _ _ ((hv3.below (below_alloc _ _)).below hb4) ((hu3.below (below_alloc _ _)).below hb4)).mono ?_; rintro e w5 ⟨rfl, hb5⟩))
      refine bodyPost_ret (v := .bool true) (by simp [results, Tryz.results5, go_sem, *]) rfl ⟨rfl, b4.trans (hb5.mono b4.size)⟩
    · have hA9 : Hid _ := hA8 wa
      have t1 : ¬ (na : Int) < 1 := by omega
      have t2 : ¬ (b.length : Int) < (na : Int) := by omega
      have t3 : ¬ (400 : Int) < (na : Int) := by omega
      clear hA8 hS7 wa
      have u1 : (es != 0) = true := by simpa using hes
      have u2 : (es == 0) = false := by simpa using hes
      simp only [SD.zero, SD.mk.injEq] at zS
      obtain ⟨rfl, rfl, rfl, rfl, rfl, rfl⟩ := zS
      subst zn2
      go_enter Tryz.func5, Tryz.ntmps5
      go_wp2_with (first
        | (go_at_call 31; refine HAl.out.mono ?_; rintro e w1 ⟨rfl, hb1⟩; have hz1 := hb1.size; have HB1 : Hid (SliceB w1.heap.size w1 _ b) := HB.out.below hb1)
        | (go_at_call 25; refine (HA'.out _ (HV.out.on hb1) HB1.out).mono ?_; rintro e w2 ⟨va, vc, ua, uc, rfl, hv2, hu2, hb2⟩; have hz2 := hb2.size; have HB2 : Hid (SliceB w2.heap.size w2 _ b) := HB1.out.below hb2; have b2 : Below w.heap.size w w2 := hb1.trans (hb2.mono hz1))
        | (go_at_call 28; refine (HS'.out _ ((HV.out.on b2).on (below_alloc _ _)) (HB2.out.below (below_alloc _ _))).mono ?_; rintro e w3 ⟨va3, vc3, ua3, uc3, rfl, hv3, hu3, hb3⟩; have hz3 := hb3.size; simp at hz3; have R2 := (hb3.block w2.heap.size (by simp)).trans (heap_alloc_new w2 _); obtain ⟨a0, a1, a2, a3, a4, fa⟩ := box5 R2; have lt3 : w2.heap.size < w3.heap.size := (by omega); have b3 : Below w.heap.size w w3 := (b2.alloc (by omega) _).trans (hb3.mono (by simp; omega)))
        | (go_at_call 19; refine (hA9.out _ _ _ (((hv2.below (below_alloc _ _)).below hb3).below (below_alloc _ _)) (((hu2.below (below_alloc _ _)).below hb3).below (below_alloc _ _))).mono ?_; rintro e w4 ⟨rfl, hb4⟩; have hz4 := hb4.size; simp at hz4; have R3 := (hb4.block w3.heap.size (by simp)).trans (heap_alloc_new w3 _); obtain ⟨s0, s1, s2, s3, s4, s5, fs⟩ := box6 R3; have b4 : Below w.heap.size w w4 := (b3.alloc (by omega) _).trans (hb4.mono (by simp; omega))))
      refine bodyPost_ret (v := .bool true) (by simp [results, Tryz.results5, go_sem, *]) rfl ⟨rfl, b4⟩
  · rcases rs with ⟨rfl, ws, ns1, ns2, ns3⟩ | ⟨hes, zn2, zS⟩
    · have v1 : (ea != 0) = true := by simpa using hea
      have v2 : (ea == 0) = false := by simpa using hea
      simp only [AD.zero, AD.mk.injEq] at zA
      obtain ⟨rfl, rfl, rfl, rfl, rfl⟩ := zA
      subst zn
      have hS9 : Hid _ := hS7 ws
      have t4 : (1 : Int) ≤ (ns : Int) := by omega
      have t5 : (ns : Int) ≤ (b.length : Int) := by omega
      have t6 : (ns : Int) ≤ (400 : Int) := by omega
      clear hA8 hS7 ws
      go_enter Tryz.func5, Tryz.ntmps5
      go_wp2_with (first
        | (go_at_call 31; refine HAl.out.mono ?_; rintro e w1 ⟨rfl, hb1⟩; have hz1 := hb1.size; have HB1 : Hid (SliceB w1.heap.size w1 _ b) := HB.out.below hb1)
        | (go_at_call 25; refine (HA'.out _ (HV.out.on hb1) HB1.out).mono ?_; rintro e w2 ⟨va, vc, ua, uc, rfl, hv2, hu2, hb2⟩; have hz2 := hb2.size; have HB2 : Hid (SliceB w2.heap.size w2 _ b) := HB1.out.below hb2; have b2 : Below w.heap.size w w2 := hb1.trans (hb2.mono hz1))
        | (go_at_call 28; refine (HS'.out _ ((HV.out.on b2).on (below_alloc _ _)) (HB2.out.below (below_alloc _ _))).mono ?_; rintro e w3 ⟨va3, vc3, ua3, uc3, rfl, hv3, hu3, hb3⟩; have hz3 := hb3.size; simp at hz3; have R2 := (hb3.block w2.heap.size (by simp)).trans (heap_alloc_new w2 _); obtain ⟨a0, a1, a2, a3, a4, fa⟩ := box5 R2; have lt3 : w2.heap.size < w3.heap.size := (by omega); have b3 : Below w.heap.size w w3 := (b2.alloc (by omega) _).trans (hb3.mono (by simp; omega)))
        | (go_at_call 22; refine (hS9.out _ _ _ (hv3.below (below_alloc _ _)) (hu3.below (below_alloc _ _))).mono ?_; rintro e w5 ⟨rfl, hb5⟩; have hz5 := hb5.size; simp at hz5))
      refine bodyPost_ret (v := .bool true) (by simp [results, Tryz.results5, go_sem, *]) rfl ⟨rfl, (b3.alloc (by omega) _).trans (hb5.mono (by simp; omega))⟩
    · have v1 : (ea != 0) = true := by simpa using hea
      have v2 : (ea == 0) = false := by simpa using hea
      simp only [AD.zero, AD.mk.injEq] at zA
      obtain ⟨rfl, rfl, rfl, rfl, rfl⟩ := zA
      subst zn
      have u1 : (es != 0) = true := by simpa using hes
      have u2 : (es == 0) = false := by simpa using hes
      simp only [SD.zero, SD.mk.injEq] at zS
      obtain ⟨rfl, rfl, rfl, rfl, rfl, rfl⟩ := zS
      subst zn2
      clear hA8 hS7
      go_enter Tryz.func5, Tryz.ntmps5
      go_wp2_with (first
        | (go_at_call 31; refine HAl.out.mono ?_; rintro e w1 ⟨rfl, hb1⟩; have hz1 := hb1.size; have HB1 : Hid (SliceB w1.heap.size w1 _ b) := HB.out.below hb1)
        | (go_at_call 25; refine (HA'.out _ (HV.out.on hb1) HB1.out).mono ?_; rintro e w2 ⟨va, vc, ua, uc, rfl, hv2, hu2, hb2⟩; have hz2 := hb2.size; have HB2 : Hid (SliceB w2.heap.size w2 _ b) := HB1.out.below hb2; have b2 : Below w.heap.size w w2 := hb1.trans (hb2.mono hz1))
        | (go_at_call 28; refine (HS'.out _ ((HV.out.on b2).on (below_alloc _ _)) (HB2.out.below (below_alloc _ _))).mono ?_; rintro e w3 ⟨va3, vc3, ua3, uc3, rfl, hv3, hu3, hb3⟩; have hz3 := hb3.size; simp at hz3; have R2 := (hb3.block w2.heap.size (by simp)).trans (heap_alloc_new w2 _); obtain ⟨a0, a1, a2, a3, a4, fa⟩ := box5 R2; have lt3 : w2.heap.size < w3.heap.size := (by omega); have b3 : Below w.heap.size w w3 := (b2.alloc (by omega) _).trans (hb3.mono (by simp; omega))))
      refine bodyPost_ret (v := .bool true) (by simp [results, Tryz.results5, go_sem, *]) rfl ⟨rfl, b3.alloc (by omega) _⟩
end Go.Proofs.YtedhlbknbaggiaaGreatDoor
