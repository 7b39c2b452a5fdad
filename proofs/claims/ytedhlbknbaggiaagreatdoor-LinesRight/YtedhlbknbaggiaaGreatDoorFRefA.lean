/-
  tgref6.WrongAsk tells what AD.wrong says.
-/
import Derived.Test.YtedhlbknbaggiaaGreatDoorFRefW
namespace Go.Proofs.YtedhlbknbaggiaaGreatDoor
open Go.RowKit
set_option linter.unusedVariables false
set_option linter.unusedSimpArgs false

attribute [local go_sem ↓] Go.wp_at_zero Go.wp_at_succ

/-- What WrongAsk asks of a number. -/
def fromB (k : Int) : Int := if k == 6 || k == 7 || k == 8 then 1 else 0
def toB (k : Int) : Int := if k == 2 || k == 7 || k == 8 then 1073741824 else if k == 6 then 9 else 0
theorem num_from (k n : Int) : numB k n = decide (fromB k ≤ n ∧ n ≤ toB k) := by
  unfold numB fromB toB
  by_cases h2 : k = 2
  · subst h2; simp
  by_cases h6 : k = 6
  · subst h6; simp
  by_cases h7 : k = 7
  · subst h7; simp
  by_cases h8 : k = 8
  · subst h8; simp
  simp [h2, h6, h7, h8]
  rw [Bool.eq_iff_iff]
  simp
  omega

set_option maxHeartbeats 4000000 in
theorem refWrongAsk_k (k n : Int) (q : ByteArray) (v u : Value) (ps : List PD) (body : List UInt8) (w : World) (hk : k = 1 ∨ k = 2 ∨ k = 3 ∨ k = 4 ∨ k = 5 ∨ k = 6 ∨ k = 7 ∨ k = 8 ∨ k = 9) (hq : q.size ≤ maxLen) (hv : SliceP w.heap.size w v ps) (hu : SliceB w.heap.size w u body) (hf : ∀ p ∈ ps, p.fits) (hl1 : ps.length ≤ 140737488355328) (hl2 : body.length ≤ 140737488355328) :
    Calls Tryz.prog 19 #[.agg #[.int .i64 k, .string q, .int .i64 n, v, u]] w fun r w' => r = .returned (.int .i64 (AD.wrong ⟨k, q, n, ps, body⟩)) ∧ Below w.heap.size w w' := by
  have hw0 : wrap64 ((ps.length : Int) + body.length) = (ps.length : Int) + body.length := by unfold wrap64; omega
  have HR : ∀ W, SliceP W.heap.size W v ps → SliceB W.heap.size W u body → Calls Tryz.prog 48 #[.agg #[v, u]] W fun e w' => e = .returned (.int .i64 (wrongN ps body.length)) ∧ Below W.heap.size W w' := fun W h1 h2 => refWrong_v v u ps body W h1 h2 hf
  have W0 : Hid (SliceP w.heap.size w v ps ∧ SliceB w.heap.size w u body) := ⟨hv, hu⟩
  obtain ⟨va, vc, rfl, -⟩ := hv
  obtain ⟨ua, uc, rfl, -⟩ := hu
  obtain ⟨X, hX⟩ : ∃ X, X = AD.wrong ⟨k, q, n, ps, body⟩ := ⟨_, rfl⟩
  have HX : Hid (X = AD.wrong ⟨k, q, n, ps, body⟩) := hX
  rw [← hX]
  clear hX
  have hk1 : ¬ k < 1 := by omega
  have hk9 : ¬ 9 < k := by omega
  have hmm := @run_makeMap Tryz.prog
  have u0 : ∀ o, (Instr.mapUpdate 67 (.map (some (w.heap.size + 1))) (.int .i64 2) (.bool true)).run Tryz.prog ((w.alloc o).alloc (.map #[] 0)) = .ok () ((w.alloc o).alloc (.map (namA 1) 1)) := fun o => by have := nam_up0 (w.alloc o); rwa [World.size_alloc] at this
  have u1 : ∀ o, (Instr.mapUpdate 67 (.map (some (w.heap.size + 1))) (.int .i64 3) (.bool true)).run Tryz.prog ((w.alloc o).alloc (.map (namA 1) 1)) = .ok () ((w.alloc o).alloc (.map (namA 2) 2)) := fun o => by have := nam_up1 (w.alloc o); rwa [World.size_alloc] at this
  have u2 : ∀ o, (Instr.mapUpdate 67 (.map (some (w.heap.size + 1))) (.int .i64 4) (.bool true)).run Tryz.prog ((w.alloc o).alloc (.map (namA 2) 2)) = .ok () ((w.alloc o).alloc (.map (namA 3) 3)) := fun o => by have := nam_up2 (w.alloc o); rwa [World.size_alloc] at this
  have u3 : ∀ o, (Instr.mapUpdate 67 (.map (some (w.heap.size + 1))) (.int .i64 5) (.bool true)).run Tryz.prog ((w.alloc o).alloc (.map (namA 3) 3)) = .ok () ((w.alloc o).alloc (.map (namA 4) 4)) := fun o => by have := nam_up3 (w.alloc o); rwa [World.size_alloc] at this
  have u4 : ∀ o, (Instr.mapUpdate 67 (.map (some (w.heap.size + 1))) (.int .i64 6) (.bool true)).run Tryz.prog ((w.alloc o).alloc (.map (namA 4) 4)) = .ok () ((w.alloc o).alloc (.map (namA 5) 5)) := fun o => by have := nam_up4 (w.alloc o); rwa [World.size_alloc] at this
  have u5 : ∀ o, (Instr.mapUpdate 67 (.map (some (w.heap.size + 1))) (.int .i64 9) (.bool true)).run Tryz.prog ((w.alloc o).alloc (.map (namA 5) 5)) = .ok () ((w.alloc o).alloc (.map (namA 6) 6)) := fun o => by have := nam_up5 (w.alloc o); rwa [World.size_alloc] at this
  have uk : ∀ o, (Instr.lookup 67 (.map (some (w.heap.size + 1))) (.int .i64 k) false).run Tryz.prog ((w.alloc o).alloc (.map (namA 6) 6)) = .ok (.bool (namedB k)) ((w.alloc o).alloc (.map (namA 6) 6)) := fun o => by have := nam_look (w.alloc o) k; rwa [World.size_alloc] at this
  have HK : Hid (∀ W, Calls Tryz.prog 47 #[.string q] W fun e w' => e = .returned (.bool (keyB q)) ∧ Below W.heap.size W w') := fun W => refKey_any q W hq
  cases hqb : queueB k q with
  | false =>
    have e1 : X = 7 := by
      rw [HX.out]; unfold AD.wrong
      rw [if_neg (by show ¬ (k < 1 ∨ 9 < k); omega), if_pos hqb]
    have E1 : Hid (X = 7) := e1
    clear e1
    cases hn : namedB k with
    | true =>
      rw [hn] at uk
      have hkq : keyB q = false := by simpa [queueB, hn] using hqb
      clear hqb hk
      go_enter Tryz.func19, Tryz.ntmps19
      go_wp2_with (go_at_call 47; refine (HK.out _).mono ?_; rw [hkq]; rintro r w1 ⟨rfl, hb1⟩; obtain ⟨hc1, hf1⟩ := bcell hb1; have hz1 := hb1.size; simp at hz1; have b1 : Below w.heap.size w w1 := ((below_alloc w _).alloc (by simp) _).trans (hb1.mono (by simp; omega)))
      go_ret
      exact ⟨ret_i64 E1.out.symm, b1⟩
    | false =>
      rw [hn] at uk
      have hq0 : q.toList.isEmpty = false := by simpa [queueB, hn] using hqb
      clear hqb hk
      go_enter Tryz.func19, Tryz.ntmps19
      go_wp2
      go_ret
      exact ⟨ret_i64 E1.out.symm, (below_alloc w _).alloc (by simp) _⟩
  | true =>
    cases hnb : numB k n with
    | false =>
      have e1 : X = 3 := by
        rw [HX.out]; unfold AD.wrong
        rw [if_neg (by show ¬ (k < 1 ∨ 9 < k); omega), if_neg (by simp [hqb]), if_pos hnb]
      have E1 : Hid (X = 3) := e1
      clear e1
      rw [num_from] at hnb
      have g : ¬ (fromB k ≤ n ∧ n ≤ toB k) := by simpa using hnb
      clear hnb HX
      cases hn : namedB k with
      | true =>
        rw [hn] at uk
        have hkq : keyB q = true := by simpa [queueB, hn] using hqb
        clear hqb
        rcases hk with rfl | rfl | rfl | rfl | rfl | rfl | rfl | rfl | rfl
        all_goals first | (exfalso; revert hn; decide) | skip
        all_goals
          clear hn hk1 hk9
          simp only [fromB, toB] at g
          simp at g
          go_enter Tryz.func19, Tryz.ntmps19
          go_wp2_with (go_at_call 47; refine (HK.out _).mono ?_; rw [hkq]; rintro r w1 ⟨rfl, hb1⟩; obtain ⟨hc1, hf1⟩ := bcell hb1; have hz1 := hb1.size; simp at hz1; have b1 : Below w.heap.size w w1 := ((below_alloc w _).alloc (by simp) _).trans (hb1.mono (by simp; omega)))
          all_goals first | (exfalso; omega) | (go_ret; exact ⟨ret_i64 E1.out.symm, b1⟩)
      | false =>
        rw [hn] at uk
        have hq0 : q.toList.isEmpty = true := by simpa [queueB, hn] using hqb
        clear hqb
        rcases hk with rfl | rfl | rfl | rfl | rfl | rfl | rfl | rfl | rfl
        all_goals first | (exfalso; revert hn; decide) | skip
        all_goals
          clear hn hk1 hk9
          simp only [fromB, toB] at g
          simp at g
          go_enter Tryz.func19, Tryz.ntmps19
          go_wp2
          all_goals first | (exfalso; omega) | (go_ret; exact ⟨ret_i64 E1.out.symm, (below_alloc w _).alloc (by simp) _⟩)
    | true =>
      have e1 : X = if k = 4 then wrongN ps body.length else if 0 < ps.length + body.length then 2 else wrongN ps body.length := by
        rw [HX.out]; unfold AD.wrong
        rw [if_neg (by show ¬ (k < 1 ∨ 9 < k); omega), if_neg (by simp [hqb]), if_neg (by simp [hnb])]
        by_cases h4 : k = 4
        · rw [if_neg (fun h => h.1 h4), if_pos h4]
        · rw [if_neg h4]
          by_cases h : 0 < ps.length + body.length
          · rw [if_pos ⟨h4, h⟩, if_pos h]
          · rw [if_neg (fun h' => h h'.2), if_neg h]
      have E1 : Hid (X = if k = 4 then wrongN ps body.length else if 0 < ps.length + body.length then 2 else wrongN ps body.length) := e1
      clear e1
      rw [num_from] at hnb
      have g : fromB k ≤ n ∧ n ≤ toB k := by simpa using hnb
      clear hnb HX
      cases hn : namedB k with
      | true =>
        rw [hn] at uk
        have hkq : keyB q = true := by simpa [queueB, hn] using hqb
        clear hqb
        rcases hk with rfl | rfl | rfl | rfl | rfl | rfl | rfl | rfl | rfl
        all_goals first | (exfalso; revert hn; decide) | skip
        all_goals
          clear hn hk1 hk9
          simp only [fromB, toB] at g
          simp at g
          go_enter Tryz.func19, Tryz.ntmps19
          go_wp2_with (first
            | (go_at_call 47; refine (HK.out _).mono ?_; rw [hkq]; rintro r w1 ⟨rfl, hb1⟩; obtain ⟨hc1, hf1⟩ := bcell hb1; have hz1 := hb1.size; simp at hz1; have b1 : Below w.heap.size w w1 := ((below_alloc w _).alloc (by simp) _).trans (hb1.mono (by simp; omega)))
            | (go_at_call 48; refine (HR _ (W0.out.1.below b1) (W0.out.2.below b1)).mono ?_; rintro r w2 ⟨rfl, hb2⟩))
          all_goals first
            | (exfalso; omega)
            | (go_ret; exact ⟨ret_i64 (by rw [E1.out]; simp <;> omega), b1.trans (hb2.mono b1.size)⟩)
            | (go_ret; exact ⟨ret_i64 (by rw [E1.out, if_neg (by omega), if_pos (by omega)]), b1⟩)
            | (go_ret; exact ⟨ret_i64 (by rw [E1.out, if_neg (by omega), if_neg (by omega)]), b1.trans (hb2.mono b1.size)⟩)
      | false =>
        rw [hn] at uk
        have hq0 : q.toList.isEmpty = true := by simpa [queueB, hn] using hqb
        clear hqb
        rcases hk with rfl | rfl | rfl | rfl | rfl | rfl | rfl | rfl | rfl
        all_goals first | (exfalso; revert hn; decide) | skip
        all_goals
          clear hn hk1 hk9
          simp only [fromB, toB] at g
          simp at g
          go_enter Tryz.func19, Tryz.ntmps19
          go_wp2_with (go_at_call 48; refine (HR _ (W0.out.1.below ((below_alloc w _).alloc (by simp) _)) (W0.out.2.below ((below_alloc w _).alloc (by simp) _))).mono ?_; rintro r w2 ⟨rfl, hb2⟩)
          all_goals first
            | (exfalso; omega)
            | (go_ret; exact ⟨ret_i64 (by rw [E1.out, if_neg (by omega), if_pos (by omega)]), (below_alloc w _).alloc (by simp) _⟩)
            | (go_ret; exact ⟨ret_i64 (by rw [E1.out, if_neg (by omega), if_neg (by omega)]), ((below_alloc w _).alloc (by simp) _).trans (hb2.mono (by simp; omega))⟩)

set_option maxHeartbeats 1000000 in
theorem refWrongAsk_any (k n : Int) (q : ByteArray) (v u : Value) (ps : List PD) (body : List UInt8) (w : World) (hq : q.size ≤ maxLen) (hv : SliceP w.heap.size w v ps) (hu : SliceB w.heap.size w u body) (hf : ∀ p ∈ ps, p.fits) (hl1 : ps.length ≤ 140737488355328) (hl2 : body.length ≤ 140737488355328) :
    Calls Tryz.prog 19 #[.agg #[.int .i64 k, .string q, .int .i64 n, v, u]] w fun r w' => r = .returned (.int .i64 (AD.wrong ⟨k, q, n, ps, body⟩)) ∧ Below w.heap.size w w' := by
  by_cases hk : k = 1 ∨ k = 2 ∨ k = 3 ∨ k = 4 ∨ k = 5 ∨ k = 6 ∨ k = 7 ∨ k = 8 ∨ k = 9
  · exact refWrongAsk_k k n q v u ps body w hk hq hv hu hf hl1 hl2
  obtain ⟨va, vc, rfl, -⟩ := hv
  obtain ⟨ua, uc, rfl, -⟩ := hu
  have e1 : AD.wrong ⟨k, q, n, ps, body⟩ = 1 := by
    unfold AD.wrong
    rw [if_pos (by show k < 1 ∨ 9 < k; omega)]
  rw [e1]
  have h9 : k < 1 ∨ 9 < k := by omega
  clear hk e1
  rcases h9 with h1 | h9
  · go_enter Tryz.func19, Tryz.ntmps19
    go_wp2
    go_ret
    exact ⟨rfl, below_alloc _ _⟩
  · have h1 : ¬ k < 1 := by omega
    go_enter Tryz.func19, Tryz.ntmps19
    go_wp2
    go_ret
    exact ⟨rfl, below_alloc _ _⟩
end Go.Proofs.YtedhlbknbaggiaaGreatDoor
