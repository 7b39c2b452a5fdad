/-
  frames.Wrong and session.Wrong answer what SD.wrong and AD.wrong say.
-/
import Derived.Test.YtedhlbknbaggiaaGreatDoorFWrong
namespace Go.Proofs.YtedhlbknbaggiaaGreatDoor
open Go.RowKit
set_option linter.unusedVariables false
set_option linter.unusedSimpArgs false

attribute [local go_sem ↓] Go.wp_at_zero Go.wp_at_succ

set_option maxHeartbeats 1000000 in
theorem fwrong_any (k n m e : Int) (v u : Value) (ps : List PD) (body : List UInt8) (w : World) (hv : SliceP w.heap.size w v ps) (hu : SliceB w.heap.size w u body) (hf : ∀ p ∈ ps, p.fits) :
    Calls Tryz.prog 63 #[.agg #[.int .i64 k, .int .i64 n, .int .i64 m, .int .i64 e, v, u]] w fun r w' => r = .returned (.int .i64 (SD.wrong ⟨k, n, m, e, ps, body⟩)) ∧ Below w.heap.size w w' := by
  have HV := hv
  have HU := hu
  obtain ⟨va, vc, rfl, v1, v2, v3, v4⟩ := hv
  obtain ⟨ua, uc, rfl, u1, u2, u3, u4⟩ := hu
  have W0 : Hid (SliceP w.heap.size w (.slice va ps.length vc) ps ∧ SliceB w.heap.size w (.slice ua body.length uc) body) := ⟨HV, HU⟩
  clear HV HU v1 v2 v3 v4 u1 u2 u3 u4
  by_cases h1 : k < 1
  · go_enter Tryz.func63, Tryz.ntmps63
    go_wp2
    go_ret
    exact ⟨ret_i64 (by simp [SD.wrong, h1]), (Below.refl _ _).alloc (Nat.le_refl _) _⟩
  by_cases h2 : 4 < k
  · go_enter Tryz.func63, Tryz.ntmps63
    go_wp2
    go_ret
    exact ⟨ret_i64 (by simp [SD.wrong, h1, h2]), (Below.refl _ _).alloc (Nat.le_refl _) _⟩
  cases h3 : numsB k n m with
  | false =>
    go_enter Tryz.func63, Tryz.ntmps63
    go_wp2_with (go_at_call 98; refine (rightNumbers_any _ _ _ _ _ _ _).mono ?_; rintro r w1 ⟨rfl, hb1⟩)
    go_ret
    exact ⟨ret_i64 (by simp [SD.wrong, h1, h2, h3]), ((below_alloc w _).trans (hb1.mono (by simp)))⟩
  | true =>
    cases h4 : errB k e with
    | false =>
      go_enter Tryz.func63, Tryz.ntmps63
      go_wp2_with (first
        | (go_at_call 98; refine (rightNumbers_any _ _ _ _ _ _ _).mono ?_; rintro r w1 ⟨rfl, hb1⟩; obtain ⟨hc1, hf1⟩ := bcell hb1; have hz1 := hb1.size)
        | (go_at_call 99; refine (rightErr_any _ _ _ _ _ _ _).mono ?_; rintro r w2 ⟨rfl, hb2⟩))
      go_ret
      exact ⟨ret_i64 (by simp [SD.wrong, h1, h2, h3, h4]), ((below_alloc w _).trans (hb1.mono (by simp))).trans (hb2.mono (by simp at hz1; omega))⟩
    | true =>
      by_cases h5 : k = 2
      · subst h5
        go_enter Tryz.func63, Tryz.ntmps63
        go_wp2_with (first
          | (go_at_call 98; refine (rightNumbers_any _ _ _ _ _ _ _).mono ?_; rintro r w1 ⟨rfl, hb1⟩; obtain ⟨hc1, hf1⟩ := bcell hb1; have hz1 := hb1.size)
          | (go_at_call 99; refine (rightErr_any _ _ _ _ _ _ _).mono ?_; rintro r w2 ⟨rfl, hb2⟩; obtain ⟨hc2, hf2⟩ := bcell hb2; have hz2 := hb2.size; simp at hz1; have hz0 : w.heap.size < w1.heap.size := (by omega))
          | (go_at_call 93; refine (wrong_v _ _ ps body _ ?_ ?_ hf).mono ?_; (exact ((W0.out.1.below (below_alloc _ _)).below hb1).below hb2); (exact ((W0.out.2.below (below_alloc _ _)).below hb1).below hb2); rintro r w3 ⟨rfl, hb3⟩))
        go_ret
        exact ⟨ret_i64 (by simp [SD.wrong, h3, h4]), (((below_alloc w _).trans (hb1.mono (by simp))).trans (hb2.mono (by omega))).trans (hb3.mono (by omega))⟩
      · have h5' : (k == 2) = false := by simpa using h5
        by_cases h6 : 0 < ps.length + body.length
        · have h7 : (decide (0 < ps.length + body.length)) = true := by simpa using h6
          go_enter Tryz.func63, Tryz.ntmps63
          go_wp2_with (first
            | (go_at_call 98; refine (rightNumbers_any _ _ _ _ _ _ _).mono ?_; rintro r w1 ⟨rfl, hb1⟩; obtain ⟨hc1, hf1⟩ := bcell hb1; have hz1 := hb1.size)
            | (go_at_call 99; refine (rightErr_any _ _ _ _ _ _ _).mono ?_; rintro r w2 ⟨rfl, hb2⟩; obtain ⟨hc2, hf2⟩ := bcell hb2; have hz2 := hb2.size; simp at hz1; have hz0 : w.heap.size < w1.heap.size := (by omega))
            | (go_at_call 100; refine (sayHas_any _ _ _ _ _ _ _ _ _ _ _).mono ?_; rintro r w3 ⟨rfl, hb3⟩; rw [h7]))
          go_ret
          exact ⟨ret_i64 (by symm; unfold SD.wrong; rw [if_neg (by show ¬ (k < 1 ∨ 4 < k); omega), if_neg (by simp [h3, h4]), if_pos ⟨h5, h6⟩]), (((below_alloc w _).trans (hb1.mono (by simp))).trans (hb2.mono (by omega))).trans (hb3.mono (by omega))⟩
        · have h7 : (decide (0 < ps.length + body.length)) = false := by simpa using h6
          have h8 : SD.wrong ⟨k, n, m, e, ps, body⟩ = wrongN ps body.length := by
            unfold SD.wrong
            rw [if_neg (by show ¬ (k < 1 ∨ 4 < k); omega), if_neg (by simp [h3, h4]), if_neg (fun h => h6 h.2)]
          have H8 : Hid (SD.wrong ⟨k, n, m, e, ps, body⟩ = wrongN ps body.length) := h8
          clear h8 h6
          go_enter Tryz.func63, Tryz.ntmps63
          go_wp2_with (first
            | (go_at_call 98; refine (rightNumbers_any _ _ _ _ _ _ _).mono ?_; rintro r w1 ⟨rfl, hb1⟩; obtain ⟨hc1, hf1⟩ := bcell hb1; have hz1 := hb1.size)
            | (go_at_call 99; refine (rightErr_any _ _ _ _ _ _ _).mono ?_; rintro r w2 ⟨rfl, hb2⟩; obtain ⟨hc2, hf2⟩ := bcell hb2; have hz2 := hb2.size; simp at hz1; have hz0 : w.heap.size < w1.heap.size := (by omega))
            | (go_at_call 100; refine (sayHas_any _ _ _ _ _ _ _ _ _ _ _).mono ?_; rintro r w3 ⟨rfl, hb3⟩; obtain ⟨hc3, hf3⟩ := bcell hb3; have hz3 := hb3.size; have hz4 : w.heap.size < w2.heap.size := (by omega); rw [h7])
            | (go_at_call 93; refine (wrong_v _ _ ps body _ ?_ ?_ hf).mono ?_; (exact (((W0.out.1.below (below_alloc _ _)).below hb1).below hb2).below hb3); (exact (((W0.out.2.below (below_alloc _ _)).below hb1).below hb2).below hb3); rintro r w4 ⟨rfl, hb4⟩))
          go_ret
          exact ⟨ret_i64 H8.out.symm, ((((below_alloc w _).trans (hb1.mono (by simp))).trans (hb2.mono (by omega))).trans (hb3.mono (by omega))).trans (hb4.mono (by omega))⟩

set_option maxHeartbeats 1000000 in
theorem swrong_any (k n : Int) (q : ByteArray) (v u : Value) (ps : List PD) (body : List UInt8) (w : World) (hq : q.size ≤ maxLen) (hv : SliceP w.heap.size w v ps) (hu : SliceB w.heap.size w u body) (hf : ∀ p ∈ ps, p.fits) :
    Calls Tryz.prog 56 #[.agg #[.int .i64 k, .string q, .int .i64 n, v, u]] w fun r w' => r = .returned (.int .i64 (AD.wrong ⟨k, q, n, ps, body⟩)) ∧ Below w.heap.size w w' := by
  have HV := hv
  have HU := hu
  obtain ⟨va, vc, rfl, v1, v2, v3, v4⟩ := hv
  obtain ⟨ua, uc, rfl, u1, u2, u3, u4⟩ := hu
  have W0 : Hid (SliceP w.heap.size w (.slice va ps.length vc) ps ∧ SliceB w.heap.size w (.slice ua body.length uc) body) := ⟨HV, HU⟩
  clear HV HU v1 v2 v3 v4 u1 u2 u3 u4
  by_cases h1 : k < 1
  · go_enter Tryz.func56, Tryz.ntmps56
    go_wp2
    go_ret
    exact ⟨ret_i64 (by simp [AD.wrong, h1]), (Below.refl _ _).alloc (Nat.le_refl _) _⟩
  by_cases h2 : 9 < k
  · go_enter Tryz.func56, Tryz.ntmps56
    go_wp2
    go_ret
    exact ⟨ret_i64 (by simp [AD.wrong, h1, h2]), (Below.refl _ _).alloc (Nat.le_refl _) _⟩
  cases h3 : queueB k q with
  | false =>
    go_enter Tryz.func56, Tryz.ntmps56
    go_wp2_with (go_at_call 90; refine (rightQueue_any _ _ _ _ _ _ hq).mono ?_; rintro r w1 ⟨rfl, hb1⟩)
    go_ret
    exact ⟨ret_i64 (by simp [AD.wrong, h1, h2, h3]), ((below_alloc w _).trans (hb1.mono (by simp)))⟩
  | true =>
    cases h4 : numB k n with
    | false =>
      go_enter Tryz.func56, Tryz.ntmps56
      go_wp2_with (first
        | (go_at_call 90; refine (rightQueue_any _ _ _ _ _ _ hq).mono ?_; rintro r w1 ⟨rfl, hb1⟩; obtain ⟨hc1, hf1⟩ := bcell hb1; have hz1 := hb1.size)
        | (go_at_call 91; refine (rightNumber_any _ _ _ _ _ _).mono ?_; rintro r w2 ⟨rfl, hb2⟩))
      go_ret
      exact ⟨ret_i64 (by simp [AD.wrong, h1, h2, h3, h4]), ((below_alloc w _).trans (hb1.mono (by simp))).trans (hb2.mono (by simp at hz1; omega))⟩
    | true =>
      by_cases h5 : k = 4
      · subst h5
        go_enter Tryz.func56, Tryz.ntmps56
        go_wp2_with (first
          | (go_at_call 90; refine (rightQueue_any _ _ _ _ _ _ hq).mono ?_; rintro r w1 ⟨rfl, hb1⟩; obtain ⟨hc1, hf1⟩ := bcell hb1; have hz1 := hb1.size)
          | (go_at_call 91; refine (rightNumber_any _ _ _ _ _ _).mono ?_; rintro r w2 ⟨rfl, hb2⟩; obtain ⟨hc2, hf2⟩ := bcell hb2; have hz2 := hb2.size; simp at hz1; have hz0 : w.heap.size < w1.heap.size := (by omega))
          | (go_at_call 93; refine (wrong_v _ _ ps body _ ?_ ?_ hf).mono ?_; (exact ((W0.out.1.below (below_alloc _ _)).below hb1).below hb2); (exact ((W0.out.2.below (below_alloc _ _)).below hb1).below hb2); rintro r w3 ⟨rfl, hb3⟩))
        go_ret
        exact ⟨ret_i64 (by simp [AD.wrong, h3, h4]), (((below_alloc w _).trans (hb1.mono (by simp))).trans (hb2.mono (by omega))).trans (hb3.mono (by omega))⟩
      · have h5' : (k == 4) = false := by simpa using h5
        by_cases h6 : 0 < ps.length + body.length
        · have h7 : (decide (0 < ps.length + body.length)) = true := by simpa using h6
          go_enter Tryz.func56, Tryz.ntmps56
          go_wp2_with (first
            | (go_at_call 90; refine (rightQueue_any _ _ _ _ _ _ hq).mono ?_; rintro r w1 ⟨rfl, hb1⟩; obtain ⟨hc1, hf1⟩ := bcell hb1; have hz1 := hb1.size)
            | (go_at_call 91; refine (rightNumber_any _ _ _ _ _ _).mono ?_; rintro r w2 ⟨rfl, hb2⟩; obtain ⟨hc2, hf2⟩ := bcell hb2; have hz2 := hb2.size; simp at hz1; have hz0 : w.heap.size < w1.heap.size := (by omega))
            | (go_at_call 92; refine (askHas_any _ _ _ _ _ _ _ _ _ _).mono ?_; rintro r w3 ⟨rfl, hb3⟩; rw [h7]))
          go_ret
          exact ⟨ret_i64 (by symm; unfold AD.wrong; rw [if_neg (by show ¬ (k < 1 ∨ 9 < k); omega), if_neg (by simp [h3]), if_neg (by simp [h4]), if_pos ⟨h5, h6⟩]), (((below_alloc w _).trans (hb1.mono (by simp))).trans (hb2.mono (by omega))).trans (hb3.mono (by omega))⟩
        · have h7 : (decide (0 < ps.length + body.length)) = false := by simpa using h6
          have h8 : AD.wrong ⟨k, q, n, ps, body⟩ = wrongN ps body.length := by
            unfold AD.wrong
            rw [if_neg (by show ¬ (k < 1 ∨ 9 < k); omega), if_neg (by simp [h3]), if_neg (by simp [h4]), if_neg (fun h => h6 h.2)]
          have H8 : Hid (AD.wrong ⟨k, q, n, ps, body⟩ = wrongN ps body.length) := h8
          clear h8 h6
          go_enter Tryz.func56, Tryz.ntmps56
          go_wp2_with (first
            | (go_at_call 90; refine (rightQueue_any _ _ _ _ _ _ hq).mono ?_; rintro r w1 ⟨rfl, hb1⟩; obtain ⟨hc1, hf1⟩ := bcell hb1; have hz1 := hb1.size)
            | (go_at_call 91; refine (rightNumber_any _ _ _ _ _ _).mono ?_; rintro r w2 ⟨rfl, hb2⟩; obtain ⟨hc2, hf2⟩ := bcell hb2; have hz2 := hb2.size; simp at hz1; have hz0 : w.heap.size < w1.heap.size := (by omega))
            | (go_at_call 92; refine (askHas_any _ _ _ _ _ _ _ _ _ _).mono ?_; rintro r w3 ⟨rfl, hb3⟩; obtain ⟨hc3, hf3⟩ := bcell hb3; have hz3 := hb3.size; have hz4 : w.heap.size < w2.heap.size := (by omega); rw [h7])
            | (go_at_call 93; refine (wrong_v _ _ ps body _ ?_ ?_ hf).mono ?_; (exact (((W0.out.1.below (below_alloc _ _)).below hb1).below hb2).below hb3); (exact (((W0.out.2.below (below_alloc _ _)).below hb1).below hb2).below hb3); rintro r w4 ⟨rfl, hb4⟩))
          go_ret
          exact ⟨ret_i64 H8.out.symm, ((((below_alloc w _).trans (hb1.mono (by simp))).trans (hb2.mono (by omega))).trans (hb3.mono (by omega))).trans (hb4.mono (by omega))⟩
end Go.Proofs.YtedhlbknbaggiaaGreatDoor
