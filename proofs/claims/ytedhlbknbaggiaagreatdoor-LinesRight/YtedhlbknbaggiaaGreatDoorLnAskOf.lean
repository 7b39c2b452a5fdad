/-
  The reader of lines: askOf.
-/
import Derived.Test.YtedhlbknbaggiaaGreatDoorLnShape
import Derived.Test.YtedhlbknbaggiaaGreatDoorLnAsk2
namespace Go.Proofs.YtedhlbknbaggiaaGreatDoor
open Go.RowKit
set_option linter.unusedVariables false
set_option linter.unusedSimpArgs false

attribute [local go_sem ↓] Go.wp_at_zero Go.wp_at_succ

def AD.zero : AD := ⟨0, ⟨#[]⟩, 0, [], []⟩
/-- What the words of an ask say: the ask, whether its first word is of a kind that there is, and what is left. -/
def askOfR (ws : List (List UInt8)) (b : Bool) : AD × Bool × List (List UInt8) × Bool :=
  match shapesL.find? (fun s => decide (s.word = bstr (wordR ws b).1)) with
  | some s => ((askR s (wordR ws b).2.1 (wordR ws b).2.2).1, true, (askR s (wordR ws b).2.1 (wordR ws b).2.2).2)
  | none => (AD.zero, false, (wordR ws b).2)
theorem askOf_some {ws : List (List UInt8)} {b : Bool} (k : Nat) (h : k < 9) (he : (shapesL[k]'h).word = bstr (wordR ws b).1) (hno : ∀ j (hj : j < 9), j < k → (shapesL[j]'hj).word ≠ bstr (wordR ws b).1) :
    askOfR ws b = ((askR (shapesL[k]'h) (wordR ws b).2.1 (wordR ws b).2.2).1, true, (askR (shapesL[k]'h) (wordR ws b).2.1 (wordR ws b).2.2).2) := by
  have hf : shapesL.find? (fun s => decide (s.word = bstr (wordR ws b).1)) = some (shapesL[k]'h) := by
    rw [List.find?_eq_some_iff_getElem]
    exact ⟨by simpa using he, k, h, rfl, fun j hj => congrArg Bool.not (decide_eq_false (hno j (Nat.lt_trans hj h) hj))⟩
  unfold askOfR
  rw [hf]
theorem askOf_none {ws : List (List UInt8)} {b : Bool} (hno : ∀ j (hj : j < 9), (shapesL[j]'hj).word ≠ bstr (wordR ws b).1) : askOfR ws b = (AD.zero, false, (wordR ws b).2) := by
  have hf : shapesL.find? (fun s => decide (s.word = bstr (wordR ws b).1)) = none := by
    rw [List.find?_eq_none]
    intro s hs
    obtain ⟨j, hj, rfl⟩ := List.getElem_of_mem hs
    simpa using hno j hj
  unfold askOfR
  rw [hf]

def AskOfAns (w : World) (rb : Nat) (q : AD × Bool × List (List UInt8) × Bool) (e : Ending) (w' : World) : Prop :=
  (∃ v u, e = .returned (.tuple #[.agg #[.int .i64 q.1.kind, .string q.1.queue, .int .i64 q.1.n, v, u], .bool q.2.1]) ∧ w'.ownsRow w.heap.size 36 4 v q.1.ps.length (cellsL q.1.ps) ∧ w'.ownsRow w.heap.size 5 1 u q.1.body.length (u8s q.1.body)) ∧ RD w' rb q.2.2.1 q.2.2.2 ∧ w.grownBy w' (some rb)

theorem askOf_fin {w W1 w2 : World} {rb : Nat} {q : AD × List (List UInt8) × Bool} {e : Ending} (h : AskAns W1 rb q e w2) (h1 : w.grownBy W1 (some rb)) (h2 : w.heap.size < W1.heap.size) (hr : rb < w.heap.size) (hb : Blk W1 w.heap.size [.int .i64 0, .string ⟨#[]⟩, .int .i64 0, .slice none 0 0, .slice none 0 0]) :
    ∃ va vc ua uc, e = .returned (.agg #[.int .i64 q.1.kind, .string q.1.queue, .int .i64 q.1.n, .slice va q.1.ps.length vc, .slice ua q.1.body.length uc]) ∧ Blk w2 w.heap.size [.int .i64 0, .string ⟨#[]⟩, .int .i64 0, .slice none 0 0, .slice none 0 0] ∧
      AskOfAns w rb (q.1, true, q.2) (.returned (.tuple #[.agg #[.int .i64 q.1.kind, .string q.1.queue, .int .i64 q.1.n, .slice va q.1.ps.length vc, .slice ua q.1.body.length uc], .bool true]))
        (((((w2.setCell ⟨w.heap.size, 0, none⟩ (.int .i64 q.1.kind)).setCell ⟨w.heap.size, 1, none⟩ (.string q.1.queue)).setCell ⟨w.heap.size, 2, none⟩ (.int .i64 q.1.n)).setCell ⟨w.heap.size, 3, none⟩ (.slice va q.1.ps.length vc)).setCell ⟨w.heap.size, 4, none⟩ (.slice ua q.1.body.length uc)) := by
  obtain ⟨⟨v, u, rfl, g1, g2⟩, g3, g4⟩ := h
  obtain ⟨va, vc, rfl, -⟩ := own_shape g1
  obtain ⟨ua, uc, rfl, -⟩ := own_shape g2
  refine ⟨va, vc, ua, uc, rfl, kp_blk hb g4 (by omega), ⟨_, _, rfl, own_mono ?_ (Nat.le_of_lt h2), own_mono ?_ (Nat.le_of_lt h2)⟩, rd_past hr g3 (kp_trans h1 g4) ?_⟩
  · exact own_set (own_set (own_set (own_set (own_set g1 h2) h2) h2) h2) h2
  · exact own_set (own_set (own_set (own_set (own_set g2 h2) h2) h2) h2) h2
  · exact (((((Below.refl w.heap.size w2).setCell (Nat.le_refl _) _).setCell (Nat.le_refl _) _).setCell (Nat.le_refl _) _).setCell (Nat.le_refl _) _).setCell (Nat.le_refl _) _

set_option maxRecDepth 100000 in
set_option maxHeartbeats 600000 in
theorem askOf_any (rb : Nat) (bad : Bool) (ws : List (List UInt8)) (w : World) (hl : Small ws) (hr6 : 6 ≤ rb) (hv : Vars w) (h : RD w rb ws bad) :
    Calls Tryz.prog 55 #[.pointer (some ⟨rb, 0, none⟩)] w (AskOfAns w rb (askOfR ws bad)) := by
  have HR : Hid (RD w rb ws bad ∧ rb < w.heap.size) := ⟨h, by obtain ⟨v, h1, _⟩ := h; exact h1.lt⟩
  have HV : Hid (Vars w) := hv
  obtain ⟨q, hq⟩ : ∃ q, q = askOfR ws bad := ⟨_, rfl⟩
  have HQ : Hid (q = askOfR ws bad) := hq
  rw [← hq]
  have PW : Hid (∀ W, RD W rb ws bad → Calls Tryz.prog 88 #[.pointer (some ⟨rb, 0, none⟩)] W fun e w' => e = .returned (.string (bstr (wordR ws bad).1)) ∧ RD w' rb (wordR ws bad).2.1 (wordR ws bad).2.2 ∧ W.grownBy w' (some rb)) := fun W hR => word_any rb bad ws W hR
  have HS : Hid (Small (wordR ws bad).2.1) := small_word hl bad
  obtain ⟨x, hx⟩ : ∃ x, x = wordR ws bad := ⟨_, rfl⟩
  have HX : Hid (x = wordR ws bad) := hx
  rw [← hx] at PW HS
  obtain ⟨SC, hSC⟩ : ∃ SC : Array Value, SC = shapesC.toArray := ⟨_, rfl⟩
  have HROW : Hid (∀ W, w.grownBy W (some rb) → ∃ t f, W.heap[0]? = some (.cells SC t f)) := fun W hW => by
    obtain ⟨t, f, hh⟩ := (hv.kp hW hr6).shapes
    exact ⟨t, f, by rw [hh, hSC]⟩
  have HSC : Hid (SC = shapesC.toArray) := hSC
  have hsz72 : (Tryz.prog.info? 72).map (·.size) = some SC.size := by rw [hSC]; kernel_rfl
  clear hSC hv h hl hx hq
  have nl : Hid True := trivial
  go_enter Tryz.func55, Tryz.ntmps55
  go_upto_region 3 with (first
    | (clear nl; refine wpList_load_row rfl 72 (.global 0) rfl 0 rfl rt SC rf _ hro Tryz.underlying72 rfl hsz72 ?_)
    | (go_at_call 88; refine (PW.out _ (HR.out.1.on (below_alloc _ _))).mono ?_; rintro e w1 ⟨rfl, hr, hg⟩; have H1 : Hid (RD w1 rb x.2.1 x.2.2 ∧ w.grownBy w1 (some rb) ∧ Blk w1 w.heap.size [.int .i64 0, .string ⟨#[]⟩, .int .i64 0, .slice none 0 0, .slice none 0 0]) := ⟨hr, kp_trans (kp_below (below_alloc _ _)) hg, kp_blk (Blk.new w [.int .i64 0, .string ⟨#[]⟩, .int .i64 0, .slice none 0 0, .slice none 0 0] 27) hg (by have := HR.out.2; omega)⟩; obtain ⟨rt, rf, hro⟩ := HROW.out w1 H1.out.2.1; clear hr hg)
    | fail)
  go_loopw [10] (fun i wr => ∃ k : Nat, k ≤ 9 ∧ i = .int .i64 (k : Int) ∧ Below w1.heap.size w1 wr ∧ ∀ j (hj : j < 9), j < k → (shapesL[j]'hj).word ≠ bstr x.1) (fun i _ => 9 - (intOf i).toNat)
  case atStart => exact ⟨0, by omega, rfl, Below.refl _ _, fun j _ h => by omega⟩
  case round =>
    obtain ⟨k, hk9, rfl, hbel, hno⟩ := hrel
    have HB : Hid (RD wr rb x.2.1 x.2.2 ∧ w.grownBy wr (some rb) ∧ Blk wr w.heap.size [.int .i64 0, .string ⟨#[]⟩, .int .i64 0, .slice none 0 0, .slice none 0 0] ∧ Below w1.heap.size w1 wr) := ⟨H1.out.1.on hbel, kp_trans H1.out.2.1 (kp_below hbel), H1.out.2.2.below hbel H1.out.2.2.lt, hbel⟩
    have HNO : Hid (∀ j (hj : j < 9), j < k → (shapesL[j]'hj).word ≠ bstr x.1) := hno
    obtain ⟨⟨d0, d1, d2, d3, d4⟩, df, dz⟩ := HB.out.2.2.1.b5
    by_cases hlt : k < 9
    · have hix := idx_shape k hlt wr
      rw [← HSC.out] at hix
      obtain ⟨s, hs⟩ : ∃ s, s = shapesL[k]'hlt := ⟨_, rfl⟩
      rw [← hs] at hix
      have HSS : Hid (s = shapesL[k]'hlt) := hs
      clear hbel hno hs
      by_cases he : s.word = bstr x.1
      · have HK : Hid (s.word = bstr x.1) := he
        have heb : (s.word.toList == (bstr x.1).toList) = true := by rw [he]; exact beq_self_eq_true _
        clear he
        have HQ2 : Hid (q = ((askR s x.2.1 x.2.2).1, true, (askR s x.2.1 x.2.2).2)) := by
          rw [HQ.out, HSS.out, HX.out]
          exact askOf_some k hlt (by rw [← HSS.out, ← HX.out]; exact HK.out) (by rw [← HX.out]; exact HNO.out)
        have P : Hid (∀ W, w.grownBy W (some rb) → RD W rb x.2.1 x.2.2 → Calls Tryz.prog 89 #[.agg #[.int .i64 s.kind, .string s.word, .bool s.queue, .bool s.number, .bool s.note], .pointer (some ⟨rb, 0, none⟩)] W (AskAns W rb (askR s x.2.1 x.2.2))) := fun W hW hRD => shapeAsk_any s (by rw [HSS.out]; exact List.getElem_mem _) rb _ _ W HS.out hr6 (HV.out.kp hW hr6) hRD
        have HWF : Hid (Below wr.heap.size wr (wr.alloc (.cells #[.int .i64 s.kind, .string s.word, .bool s.queue, .bool s.number, .bool s.note] 71))) := below_alloc _ _
        go_wp2_with (first
          | (go_at_call 89; refine (P.out _ (kp_trans HB.out.2.1 (kp_below HWF.out)) (HB.out.1.on HWF.out)).mono ?_; rintro e w2 hans; obtain ⟨va, vc, ua, uc, rfl, hb, hf⟩ := askOf_fin hans (kp_trans HB.out.2.1 (kp_below HWF.out)) (Nat.lt_of_lt_of_le HB.out.2.2.1.lt HWF.out.size) HR.out.2 (HB.out.2.2.1.below HWF.out HB.out.2.2.1.lt); clear d0 d1 d2 d3 d4 df dz; obtain ⟨⟨d0, d1, d2, d3, d4⟩, df, dz⟩ := hb.b5; have HF := hid hf; clear hf hans hb)
          | fail)
        obtain ⟨r, hr⟩ : ∃ r, r = askR s x.2.1 x.2.2 := ⟨_, rfl⟩
        rw [← hr] at HF HQ2 ⊢
        refine bodyPost_ret (v := .tuple #[.agg #[.int .i64 r.1.kind, .string r.1.queue, .int .i64 r.1.n, .slice va r.1.ps.length vc, .slice ua r.1.body.length uc], .bool true]) (by simp [results, Tryz.results55, go_sem, *]; done) rfl ?_
        rw [HQ2.out]
        exact HF.out
      · have HK : Hid (s.word ≠ bstr x.1) := he
        have heb : (s.word.toList == (bstr x.1).toList) = false := by
          rw [beq_eq_false_iff_ne]
          intro e
          rw [ByteArray.toList_eq, ByteArray.toList_eq] at e
          exact he (ByteArray.ext (Array.toList_inj.1 e))
        clear he
        go_wp2
        go_roundw
        case rel =>
          refine ⟨k + 1, by omega, by go_num, HB.out.2.2.2.trans ((below_alloc _ _).mono HB.out.2.2.2.size), fun j hj hjk => ?_⟩
          by_cases e : j = k
          · subst e; rw [← HSS.out]; exact HK.out
          · exact HNO.out j hj (by omega)
        case measure => simp [intOf]; omega
    · have HQ2 : Hid (q = (AD.zero, false, x.2)) := by
        rw [HQ.out, HX.out]
        exact askOf_none (fun j hj => by rw [← HX.out]; exact HNO.out j hj (by omega))
      clear hbel hno
      go_wp2
      refine bodyPost_ret (v := .tuple #[.agg #[.int .i64 0, .string ⟨#[]⟩, .int .i64 0, .slice none 0 0, .slice none 0 0], .bool false]) (by simp [results, Tryz.results55, go_sem, *]; done) rfl ?_
      rw [HQ2.out]
      refine ⟨⟨.slice none 0 0, .slice none 0 0, rfl, World.ownsRow_nil _ _ _ _, World.ownsRow_nil _ _ _ _⟩, rd_past HR.out.2 HB.out.1 HB.out.2.1 ?_⟩
      exact (((((Below.refl w.heap.size wr).setCell (Nat.le_refl _) _).setCell (Nat.le_refl _) _).setCell (Nat.le_refl _) _).setCell (Nat.le_refl _) _).setCell (Nat.le_refl _) _
end Go.Proofs.YtedhlbknbaggiaaGreatDoor
