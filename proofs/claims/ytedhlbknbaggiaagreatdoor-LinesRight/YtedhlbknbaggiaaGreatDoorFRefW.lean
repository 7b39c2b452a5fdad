/-
  tgref6.WrongSay and WrongAsk tell what SD.wrong and AD.wrong say.
-/
import Derived.Test.YtedhlbknbaggiaaGreatDoorFMath
import Derived.Test.YtedhlbknbaggiaaGreatDoorLnRightCardM08
import Derived.Test.YtedhlbknbaggiaaGreatDoorRefWrong
namespace Go.Proofs.YtedhlbknbaggiaaGreatDoor
open Go.RowKit
set_option linter.unusedVariables false
set_option linter.unusedSimpArgs false

attribute [local go_sem ↓] Go.wp_at_zero Go.wp_at_succ

theorem refWrong_v (v u : Value) (ps : List PD) (body : List UInt8) (w : World) (hv : SliceP w.heap.size w v ps) (hu : SliceB w.heap.size w u body) (hf : ∀ p ∈ ps, p.fits) :
    Calls Tryz.prog 48 #[.agg #[v, u]] w fun e w' => e = .returned (.int .i64 (wrongN ps body.length)) ∧ Below w.heap.size w w' := by
  obtain ⟨va, vc, rfl, v1, v2, v3, v4⟩ := hv
  obtain ⟨ua, uc, rfl, u1, u2, u3, u4⟩ := hu
  exact refWrong_any va vc ps ua body.length uc w v4 hf (by omega) (by omega)

set_option maxHeartbeats 2000000 in
theorem refWrongSay_any (k n m e : Int) (v u : Value) (ps : List PD) (body : List UInt8) (w : World) (hv : SliceP w.heap.size w v ps) (hu : SliceB w.heap.size w u body) (hf : ∀ p ∈ ps, p.fits) (hl1 : ps.length ≤ 140737488355328) (hl2 : body.length ≤ 140737488355328) :
    Calls Tryz.prog 22 #[.agg #[.int .i64 k, .int .i64 n, .int .i64 m, .int .i64 e, v, u]] w fun r w' => r = .returned (.int .i64 (SD.wrong ⟨k, n, m, e, ps, body⟩)) ∧ Below w.heap.size w w' := by
  have hw0 : wrap64 ((ps.length : Int) + body.length) = (ps.length : Int) + body.length := by unfold wrap64; omega
  have HR : ∀ W, SliceP W.heap.size W v ps → SliceB W.heap.size W u body → Calls Tryz.prog 48 #[.agg #[v, u]] W fun e w' => e = .returned (.int .i64 (wrongN ps body.length)) ∧ Below W.heap.size W w' := fun W h1 h2 => refWrong_v v u ps body W h1 h2 hf
  have W0 : Hid (SliceP w.heap.size w v ps ∧ SliceB w.heap.size w u body) := ⟨hv, hu⟩
  obtain ⟨va, vc, rfl, -⟩ := hv
  obtain ⟨ua, uc, rfl, -⟩ := hu
  obtain ⟨X, hX⟩ : ∃ X, X = SD.wrong ⟨k, n, m, e, ps, body⟩ := ⟨_, rfl⟩
  have HX : Hid (X = SD.wrong ⟨k, n, m, e, ps, body⟩) := hX
  rw [← hX]
  clear hX
  by_cases h1 : k < 1
  · go_enter Tryz.func22, Tryz.ntmps22
    go_wp2
    go_ret
    exact ⟨ret_i64 (by rw [HX.out]; simp [SD.wrong, h1]), (below_alloc _ _)⟩
  by_cases h2 : 4 < k
  · go_enter Tryz.func22, Tryz.ntmps22
    go_wp2
    go_ret
    exact ⟨ret_i64 (by rw [HX.out]; simp [SD.wrong, h1, h2]), (below_alloc _ _)⟩
  by_cases h5 : k = 2
  · subst h5
    by_cases g : (1 ≤ n ∧ n ≤ 1073741824 ∧ 0 ≤ m ∧ m ≤ 3) ∧ e = 0
    · have e1 : X = wrongN ps body.length := by
        rw [HX.out]; unfold SD.wrong
        rw [if_neg (by show ¬ ((2 : Int) < 1 ∨ (4 : Int) < 2); omega), if_neg (by simp [numsB, errB, g.1, g.2]), if_neg (by simp)]
      obtain ⟨⟨g1, g2, g3, g4⟩, g5⟩ := g
      subst g5
      have E1 : Hid (X = wrongN ps body.length) := e1
      clear e1
      go_enter Tryz.func22, Tryz.ntmps22
      go_wp2_with (go_at_call 48; refine (HR _ (W0.out.1.below (below_alloc _ _)) (W0.out.2.below (below_alloc _ _))).mono ?_; rintro r w1 ⟨rfl, hb1⟩)
      go_ret
      exact ⟨ret_i64 E1.out.symm, (below_alloc _ _).trans (hb1.mono (by simp))⟩
    · have e1 : X = 3 := by
        rw [HX.out]; unfold SD.wrong
        rw [if_neg (by show ¬ ((2 : Int) < 1 ∨ (4 : Int) < 2); omega), if_pos ?_]
        by_cases ge : e = 0
        · left
          have : ¬ (1 ≤ n ∧ n ≤ 1073741824 ∧ 0 ≤ m ∧ m ≤ 3) := fun h => g ⟨h, ge⟩
          simp only [numsB]
          simpa using this
        · right; simpa [errB] using ge
      have E1 : Hid (X = 3) := e1
      clear e1
      go_enter Tryz.func22, Tryz.ntmps22
      go_wp2_with (go_at_call 48; refine (HR _ (W0.out.1.below (below_alloc _ _)) (W0.out.2.below (below_alloc _ _))).mono ?_; rintro r w1 ⟨rfl, hb1⟩)
      all_goals first
        | (exfalso; rename_i h; have h5 : e = 0 := by simpa using h.2
           exact g ⟨by omega, h5⟩)
        | (go_ret; exact ⟨ret_i64 E1.out.symm, below_alloc _ _⟩)
  · have h5' : (k == 2) = false := by simpa using h5
    by_cases g : (n = 0 ∧ m = 0) ∧ errB k e = true
    · obtain ⟨⟨rfl, rfl⟩, g3⟩ := g
      have e0 : X = if 0 < ps.length + body.length then 2 else wrongN ps body.length := by
        rw [HX.out]; unfold SD.wrong
        rw [if_neg (by show ¬ (k < 1 ∨ 4 < k); omega), if_neg (by simp [numsB, h5', g3])]
        by_cases h : 0 < ps.length + body.length
        · rw [if_pos ⟨h5, h⟩, if_pos h]
        · rw [if_neg (fun h' => h h'.2), if_neg h]
      have e1 : X = if 0 < ps.length + body.length then 2 else 0 := by
        rw [e0]
        by_cases h : 0 < ps.length + body.length
        · rw [if_pos h, if_pos h]
        · rw [if_neg h, if_neg h]
          have h1 : ps = [] := List.length_eq_zero_iff.1 (by omega)
          have h2 : body.length = 0 := by omega
          rw [h1, h2]; rfl
      have E1 : Hid (X = if 0 < ps.length + body.length then 2 else 0) := e1
      have hg : (k = 4 ∧ 0 < e ∧ e ≤ 10) ∨ (¬ k = 4 ∧ e = 0) := by
        unfold errB at g3
        by_cases h4 : k = 4
        · left; subst h4; simpa using g3
        · right; have : (k == 4) = false := by simpa using h4
          rw [this] at g3; exact ⟨h4, by simpa using g3⟩
      clear e0 e1 g3
      rcases hg with ⟨rfl, g1, g2⟩ | ⟨g1, rfl⟩
      · go_enter Tryz.func22, Tryz.ntmps22
        go_wp2
        all_goals (go_ret; refine ⟨ret_i64 ?_, below_alloc _ _⟩; rw [E1.out])
        all_goals first | rw [if_pos (by omega)] | rw [if_neg (by omega)]
      · have g1' : (k == 4) = false := by simpa using g1
        go_enter Tryz.func22, Tryz.ntmps22
        go_wp2
        all_goals (go_ret; refine ⟨ret_i64 ?_, below_alloc _ _⟩; rw [E1.out])
        all_goals first | rw [if_pos (by omega)] | rw [if_neg (by omega)]
    · have e1 : X = 3 := by
        rw [HX.out]; unfold SD.wrong
        rw [if_neg (by show ¬ (k < 1 ∨ 4 < k); omega), if_pos ?_]
        by_cases gn : n = 0 ∧ m = 0
        · right
          have : ¬ errB k e = true := fun h => g ⟨gn, h⟩
          simpa using this
        · left
          simp only [numsB, h5']
          simpa using gn
      have E1 : Hid (X = 3) := e1
      have hg : ¬ n = 0 ∨ ¬ m = 0 ∨ (k = 4 ∧ (e ≤ 0 ∨ 10 < e)) ∨ (¬ k = 4 ∧ ¬ e = 0) := by
        by_cases gn : n = 0
        · by_cases gm : m = 0
          · right; right
            have g3 : ¬ errB k e = true := fun h => g ⟨⟨gn, gm⟩, h⟩
            unfold errB at g3
            by_cases h4 : k = 4
            · left; subst h4
              have g4 : ¬ (0 < e ∧ e ≤ 10) := by simpa using g3
              exact ⟨rfl, by omega⟩
            · right; have : (k == 4) = false := by simpa using h4
              rw [this] at g3; exact ⟨h4, by simpa using g3⟩
          · exact Or.inr (Or.inl gm)
        · exact Or.inl gn
      clear e1 g
      go_enter Tryz.func22, Tryz.ntmps22
      go_wp2
      all_goals first
        | (exfalso; have h : (k != 4) = false ∨ (e != 0) = false := by assumption
           rcases h with h | h
           · have : k = 4 := by simpa using h
             omega
           · have : e = 0 := by simpa using h
             omega)
        | (go_ret; exact ⟨ret_i64 E1.out.symm, below_alloc _ _⟩)

theorem upd_newb (w : World) (es : Array MapEntry) (clock : Nat) (k : Int) (v : Value) (hf : Instr.findNow (.int .i64) (.int .i64 k) es.toList 0 = some none) :
    (Instr.mapUpdate 67 (.map (some w.heap.size)) (.int .i64 k) v).run Tryz.prog (w.alloc (.map es clock)) = .ok () (w.alloc (.map (es.push { key := .int .i64 k, val := v, born := clock }) (clock + 1))) := by
  have hg : (w.alloc (.map es clock)).heap[w.heap.size]? = some (.map es clock) := heap_alloc_new w _
  unfold Instr.mapUpdate
  simp only [Sem.run_bind, run_underlying Tryz.underlying67, Result.andThen_ok, MapKept.run_getObj_map hg, run_checkInt, MapKept.run_findKey Tryz.underlying3 hf, MapKept.run_setObj_map _ hg]
  congr 1
  show ({ w.alloc (.map es clock) with heap := (w.heap.push (.map es clock)).setIfInBounds w.heap.size _ } : World) = _
  have : ∀ o, (w.heap.push (.map es clock)).setIfInBounds w.heap.size o = w.heap.push o := by
    intro o
    apply Array.ext_getElem?
    intro i
    rw [Array.getElem?_setIfInBounds, Array.getElem?_push, Array.getElem?_push]
    by_cases h : w.heap.size = i
    · subst h; simp
    · rw [if_neg h]; simp [Ne.symm h]
  rw [this]
  rfl
theorem look_yesb (w : World) (es : Array MapEntry) (clock i : Nat) (k : Int) (v : Value) (hf : Instr.findNow (.int .i64) (.int .i64 k) es.toList 0 = some (some (i, v))) :
    (Instr.lookup 67 (.map (some w.heap.size)) (.int .i64 k) false).run Tryz.prog (w.alloc (.map es clock)) = .ok v (w.alloc (.map es clock)) := by
  have hg : (w.alloc (.map es clock)).heap[w.heap.size]? = some (.map es clock) := heap_alloc_new w _
  unfold Instr.lookup
  simp only [Sem.run_bind, run_underlying Tryz.underlying67, Result.andThen_ok, MapKept.run_getObj_map hg, run_checkInt, MapKept.run_findKey Tryz.underlying3 hf, Sem.run_pure]
  rfl
theorem zero4 (w : World) : (zeroValue 4).run Tryz.prog w = .ok (.bool false) w := by kernel_rfl
theorem look_nob (w : World) (es : Array MapEntry) (clock : Nat) (k : Int) (hf : Instr.findNow (.int .i64) (.int .i64 k) es.toList 0 = some none) :
    (Instr.lookup 67 (.map (some w.heap.size)) (.int .i64 k) false).run Tryz.prog (w.alloc (.map es clock)) = .ok (.bool false) (w.alloc (.map es clock)) := by
  have hg : (w.alloc (.map es clock)).heap[w.heap.size]? = some (.map es clock) := heap_alloc_new w _
  unfold Instr.lookup
  simp only [Sem.run_bind, run_underlying Tryz.underlying67, Result.andThen_ok, MapKept.run_getObj_map hg, run_checkInt, MapKept.run_findKey Tryz.underlying3 hf, Sem.run_pure, zero4]
  rfl

/-- The map that tgref6.WrongAsk makes, as far as n entries. -/
def namE : List MapEntry := [{ key := .int .i64 2, val := .bool true, born := 0 }, { key := .int .i64 3, val := .bool true, born := 1 }, { key := .int .i64 4, val := .bool true, born := 2 }, { key := .int .i64 5, val := .bool true, born := 3 }, { key := .int .i64 6, val := .bool true, born := 4 }, { key := .int .i64 9, val := .bool true, born := 5 }]
def namA (n : Nat) : Array MapEntry := (namE.take n).toArray
theorem nam_up (w : World) (n : Nat) (k : Int) (h : n < 6) (hk : namE[n]'h = { key := .int .i64 k, val := .bool true, born := n }) (hf : Instr.findNow (.int .i64) (.int .i64 k) (namA n).toList 0 = some none) :
    (Instr.mapUpdate 67 (.map (some w.heap.size)) (.int .i64 k) (.bool true)).run Tryz.prog (w.alloc (.map (namA n) n)) = .ok () (w.alloc (.map (namA (n + 1)) (n + 1))) := by
  rw [upd_newb w (namA n) n k (.bool true) hf]
  congr 3
  unfold namA
  rw [List.take_succ_eq_append_getElem h, hk]
  simp
theorem nam_up0 (w : World) : (Instr.mapUpdate 67 (.map (some w.heap.size)) (.int .i64 2) (.bool true)).run Tryz.prog (w.alloc (.map #[] 0)) = .ok () (w.alloc (.map (namA 1) 1)) := nam_up w 0 2 (by decide) rfl rfl
theorem nam_up1 (w : World) : (Instr.mapUpdate 67 (.map (some w.heap.size)) (.int .i64 3) (.bool true)).run Tryz.prog (w.alloc (.map (namA 1) 1)) = .ok () (w.alloc (.map (namA 2) 2)) := nam_up w 1 3 (by decide) rfl rfl
theorem nam_up2 (w : World) : (Instr.mapUpdate 67 (.map (some w.heap.size)) (.int .i64 4) (.bool true)).run Tryz.prog (w.alloc (.map (namA 2) 2)) = .ok () (w.alloc (.map (namA 3) 3)) := nam_up w 2 4 (by decide) rfl rfl
theorem nam_up3 (w : World) : (Instr.mapUpdate 67 (.map (some w.heap.size)) (.int .i64 5) (.bool true)).run Tryz.prog (w.alloc (.map (namA 3) 3)) = .ok () (w.alloc (.map (namA 4) 4)) := nam_up w 3 5 (by decide) rfl rfl
theorem nam_up4 (w : World) : (Instr.mapUpdate 67 (.map (some w.heap.size)) (.int .i64 6) (.bool true)).run Tryz.prog (w.alloc (.map (namA 4) 4)) = .ok () (w.alloc (.map (namA 5) 5)) := nam_up w 4 6 (by decide) rfl rfl
theorem nam_up5 (w : World) : (Instr.mapUpdate 67 (.map (some w.heap.size)) (.int .i64 9) (.bool true)).run Tryz.prog (w.alloc (.map (namA 5) 5)) = .ok () (w.alloc (.map (namA 6) 6)) := nam_up w 5 9 (by decide) rfl rfl
theorem nam_look (w : World) (k : Int) : (Instr.lookup 67 (.map (some w.heap.size)) (.int .i64 k) false).run Tryz.prog (w.alloc (.map (namA 6) 6)) = .ok (.bool (namedB k)) (w.alloc (.map (namA 6) 6)) := by
  by_cases h2 : k = 2
  · subst h2; exact look_yesb w _ 6 0 2 _ rfl
  by_cases h3 : k = 3
  · subst h3; exact look_yesb w _ 6 1 3 _ rfl
  by_cases h4 : k = 4
  · subst h4; exact look_yesb w _ 6 2 4 _ rfl
  by_cases h5 : k = 5
  · subst h5; exact look_yesb w _ 6 3 5 _ rfl
  by_cases h6 : k = 6
  · subst h6; exact look_yesb w _ 6 4 6 _ rfl
  by_cases h9 : k = 9
  · subst h9; exact look_yesb w _ 6 5 9 _ rfl
  have e : namedB k = false := by simp [namedB, h2, h3, h4, h5, h6, h9]
  rw [e]
  refine look_nob w _ 6 k ?_
  have b2 : (k == 2) = false := by simpa using h2
  have b3 : (k == 3) = false := by simpa using h3
  have b4 : (k == 4) = false := by simpa using h4
  have b5 : (k == 5) = false := by simpa using h5
  have b6 : (k == 6) = false := by simpa using h6
  have b9 : (k == 9) = false := by simpa using h9
  simp only [namA, namE, List.take_succ_cons, List.take_zero, Instr.findNow, Instr.sameNow, b2, b3, b4, b5, b6, b9, if_true]
end Go.Proofs.YtedhlbknbaggiaaGreatDoor
