/-
  The reader of lines: sayOf.
-/
import Derived.Test.YtedhlbknbaggiaaGreatDoorLnAskOf
namespace Go.Proofs.YtedhlbknbaggiaaGreatDoor
open Go.RowKit
set_option linter.unusedVariables false
set_option linter.unusedSimpArgs false

attribute [local go_sem ↓] Go.wp_at_zero Go.wp_at_succ

def SD.zero : SD := ⟨0, 0, 0, 0, [], []⟩
/-- What the words of an answer say: the answer, whether its first word is of a kind that there is, and what is left. -/
def sayOfR (ws : List (List UInt8)) (b : Bool) : SD × Bool × List (List UInt8) × Bool :=
  let x := wordR ws b
  if x.1 = [43, 111, 107] then (⟨1, 0, 0, 0, [], []⟩, true, x.2)
  else if x.1 = [43, 105, 116, 101, 109] then
    let n := numberR x.2.1 x.2.2
    let m := numberR n.2.1 n.2.2
    let t := noteR m.2.1 m.2.2
    (⟨2, n.1, m.1, 0, t.1, t.2.1⟩, true, t.2.2)
  else if x.1 = [43, 110, 111, 110, 101] then (⟨3, 0, 0, 0, [], []⟩, true, x.2)
  else if Go.Lib.hasPrefix x.1 [45] then (⟨4, 0, 0, (numV (x.1.drop 1)).getD 0, [], []⟩, true, x.2.1, x.2.2 || !(numV (x.1.drop 1)).isSome)
  else (SD.zero, false, x.2)

def SayOfAns (w : World) (rb : Nat) (q : SD × Bool × List (List UInt8) × Bool) (e : Ending) (w' : World) : Prop :=
  (∃ v u, e = .returned (.tuple #[.agg #[.int .i64 q.1.kind, .int .i64 q.1.n, .int .i64 q.1.m, .int .i64 q.1.err, v, u], .bool q.2.1]) ∧ w'.ownsRow w.heap.size 36 4 v q.1.ps.length (cellsL q.1.ps) ∧ w'.ownsRow w.heap.size 5 1 u q.1.body.length (u8s q.1.body)) ∧ RD w' rb q.2.2.1 q.2.2.2 ∧ w.grownBy w' (some rb)

theorem Blk.c6 {w : World} {b : Nat} {x0 x1 x2 x3 x4 x5 : Value} (h : Blk w b [x0, x1, x2, x3, x4, x5]) : (w.cell? ⟨b, 0, none⟩ = some x0 ∧ w.cell? ⟨b, 1, none⟩ = some x1 ∧ w.cell? ⟨b, 2, none⟩ = some x2 ∧ w.cell? ⟨b, 3, none⟩ = some x3 ∧ w.cell? ⟨b, 4, none⟩ = some x4 ∧ w.cell? ⟨b, 5, none⟩ = some x5) ∧ (∀ o, w.frozen? ⟨b, o, none⟩ = false) ∧ b < w.heap.size := ⟨⟨h.cell 0, h.cell 1, h.cell 2, h.cell 3, h.cell 4, h.cell 5⟩, h.f, h.lt⟩

/-- The answer's box, and the reader. -/
structure SB (w : World) (rb : Nat) (W : World) (ws : List (List UInt8)) (b : Bool) : Prop where
  rd : RD W rb ws b
  kp : w.grownBy W (some rb)
  lt : rb < w.heap.size
  br : Blk W w.heap.size [.int .i64 0, .int .i64 0, .int .i64 0, .int .i64 0, .slice none 0 0, .slice none 0 0]
theorem SB.start {w : World} {rb : Nat} {ws : List (List UInt8)} {b : Bool} (h : RD w rb ws b) (hr : rb < w.heap.size) : SB w rb (w.alloc (.cells #[.int .i64 0, .int .i64 0, .int .i64 0, .int .i64 0, .slice none 0 0, .slice none 0 0] 30)) ws b :=
  ⟨h.on (below_alloc _ _), kp_below (below_alloc _ _), hr, Blk.new w [.int .i64 0, .int .i64 0, .int .i64 0, .int .i64 0, .slice none 0 0, .slice none 0 0] 30⟩
theorem SB.call {w W w1 : World} {rb : Nat} {ws ws' : List (List UInt8)} {b b' : Bool} (h : SB w rb W ws b) (hr : RD w1 rb ws' b') (hg : W.grownBy w1 (some rb)) : SB w rb w1 ws' b' :=
  ⟨hr, kp_trans h.kp hg, h.lt, kp_blk h.br hg (by have := h.lt; omega)⟩
theorem SB.fin {w W : World} {rb : Nat} {ws : List (List UInt8)} {b ok : Bool} {q : SD} {v u : Value} (h : SB w rb W ws b)
    (h1 : W.ownsRow (w.heap.size + 1) 36 4 v q.ps.length (cellsL q.ps)) (h2 : W.ownsRow (w.heap.size + 1) 5 1 u q.body.length (u8s q.body)) :
    SayOfAns w rb (q, ok, ws, b) (.returned (.tuple #[.agg #[.int .i64 q.kind, .int .i64 q.n, .int .i64 q.m, .int .i64 q.err, v, u], .bool ok]))
      ((((((W.setCell ⟨w.heap.size, 0, none⟩ (.int .i64 q.kind)).setCell ⟨w.heap.size, 1, none⟩ (.int .i64 q.n)).setCell ⟨w.heap.size, 2, none⟩ (.int .i64 q.m)).setCell ⟨w.heap.size, 3, none⟩ (.int .i64 q.err)).setCell ⟨w.heap.size, 4, none⟩ v).setCell ⟨w.heap.size, 5, none⟩ u) := by
  refine ⟨⟨v, u, rfl, own_mono ?_ (Nat.le_succ _), own_mono ?_ (Nat.le_succ _)⟩, rd_past h.lt h.rd h.kp ?_⟩
  · exact own_set (own_set (own_set (own_set (own_set (own_set h1 (Nat.lt_succ_self _)) (Nat.lt_succ_self _)) (Nat.lt_succ_self _)) (Nat.lt_succ_self _)) (Nat.lt_succ_self _)) (Nat.lt_succ_self _)
  · exact own_set (own_set (own_set (own_set (own_set (own_set h2 (Nat.lt_succ_self _)) (Nat.lt_succ_self _)) (Nat.lt_succ_self _)) (Nat.lt_succ_self _)) (Nat.lt_succ_self _)) (Nat.lt_succ_self _)
  · exact ((((((Below.refl w.heap.size W).setCell (Nat.le_refl _) _).setCell (Nat.le_refl _) _).setCell (Nat.le_refl _) _).setCell (Nat.le_refl _) _).setCell (Nat.le_refl _) _).setCell (Nat.le_refl _) _

theorem str_ne {a b : List UInt8} (h : a ≠ b) : ((bstr a).toList == b) = false := by
  rw [beq_eq_false_iff_ne]
  intro e
  rw [ByteArray.toList_eq, bstr_data] at e
  exact h e
theorem str_eq {a b : List UInt8} (h : a = b) : ((bstr a).toList == b) = true := by
  rw [ByteArray.toList_eq, bstr_data, h]; exact beq_self_eq_true _

set_option maxRecDepth 100000 in
set_option maxHeartbeats 600000 in
theorem sayOf_any (rb : Nat) (bad : Bool) (ws : List (List UInt8)) (w : World) (hl : Small ws) (hr6 : 6 ≤ rb) (hv : Vars w) (h : RD w rb ws bad) :
    Calls Tryz.prog 62 #[.pointer (some ⟨rb, 0, none⟩)] w (SayOfAns w rb (sayOfR ws bad)) := by
  have S : Hid (SB w rb _ ws bad) := SB.start h (by obtain ⟨v, h1, _⟩ := h; exact h1.lt)
  have HV : Hid (Vars w) := hv
  have PW : Hid (∀ W, RD W rb ws bad → Calls Tryz.prog 88 #[.pointer (some ⟨rb, 0, none⟩)] W fun e w' => e = .returned (.string (bstr (wordR ws bad).1)) ∧ RD w' rb (wordR ws bad).2.1 (wordR ws bad).2.2 ∧ W.grownBy w' (some rb)) := fun W hR => word_any rb bad ws W hR
  have hl1 := small_word hl bad
  have hll := wordR_len (bad := bad) hl.1
  unfold sayOfR
  generalize wordR ws bad = x at PW hl1 hll ⊢
  have HS : Hid (Small x.2.1 ∧ x.1.length ≤ 1000000) := ⟨hl1, hll⟩
  clear hv h hl hl1 hll
  obtain ⟨sx, hsx⟩ : ∃ sx, sx = bstr x.1 := ⟨_, rfl⟩
  dsimp only
  by_cases h1 : x.1 = [43, 111, 107]
  · rw [if_pos h1]
    have hb1 : (sx.toList == [43, 111, 107]) = true := by rw [hsx]; exact str_eq h1
    rw [← hsx] at PW
    clear hsx h1
    go_enter Tryz.func62, Tryz.ntmps62
    go_wp2_with (first
      | (go_at_call 88; refine (PW.out _ S.out.rd).mono ?_; rintro e w1 ⟨rfl, hr, hg⟩; replace S := hid (S.out.call hr hg); clear hr hg; obtain ⟨⟨c0, c1, c2, c3, c4, c5⟩, cf, cz⟩ := S.out.br.c6)
      | fail)
    refine bodyPost_ret (v := .tuple #[.agg #[.int .i64 1, .int .i64 0, .int .i64 0, .int .i64 0, .slice none 0 0, .slice none 0 0], .bool true]) (by simp [results, Tryz.results62, go_sem, *]; done) rfl ?_
    exact SB.fin (q := ⟨1, 0, 0, 0, [], []⟩) S.out (World.ownsRow_nil _ _ _ _) (World.ownsRow_nil _ _ _ _)
  rw [if_neg h1]
  have hb1 : (sx.toList == [43, 111, 107]) = false := by rw [hsx]; exact str_ne h1
  clear h1
  by_cases h2 : x.1 = [43, 105, 116, 101, 109]
  · rw [if_pos h2]
    have hb2 : (sx.toList == [43, 105, 116, 101, 109]) = true := by rw [hsx]; exact str_eq h2
    rw [← hsx] at PW
    clear hsx h2
    have PN : Hid (∀ W, w.grownBy W (some rb) → RD W rb x.2.1 x.2.2 → Calls Tryz.prog 95 #[.pointer (some ⟨rb, 0, none⟩)] W fun e w' => e = .returned (.int .i64 (numberR x.2.1 x.2.2).1) ∧ RD w' rb (numberR x.2.1 x.2.2).2.1 (numberR x.2.1 x.2.2).2.2 ∧ W.grownBy w' (some rb)) := fun W hW hR => number_of rb _ _ W HS.out.1.1 hr6 (HV.out.kp hW hr6) hR
    have hl2 := small_num HS.out.1 x.2.2
    generalize numberR x.2.1 x.2.2 = y at PN hl2 ⊢
    have PM : Hid (∀ W, w.grownBy W (some rb) → RD W rb y.2.1 y.2.2 → Calls Tryz.prog 95 #[.pointer (some ⟨rb, 0, none⟩)] W fun e w' => e = .returned (.int .i64 (numberR y.2.1 y.2.2).1) ∧ RD w' rb (numberR y.2.1 y.2.2).2.1 (numberR y.2.1 y.2.2).2.2 ∧ W.grownBy w' (some rb)) := fun W hW hR => number_of rb _ _ W hl2.1 hr6 (HV.out.kp hW hr6) hR
    have hl3 := small_num hl2 y.2.2
    generalize numberR y.2.1 y.2.2 = m at PM hl3 ⊢
    have PT : Hid (∀ W, w.grownBy W (some rb) → RD W rb m.2.1 m.2.2 → Calls Tryz.prog 96 #[.pointer (some ⟨rb, 0, none⟩)] W (NoteAns W rb (noteR m.2.1 m.2.2))) := fun W hW hR => note_any rb _ _ W hl3.1 hl3.2 hr6 (HV.out.kp hW hr6) hR
    generalize noteR m.2.1 m.2.2 = z at PT ⊢
    unfold NoteAns at PT
    clear hl2 hl3
    have n1 : Hid True := trivial
    go_enter Tryz.func62, Tryz.ntmps62
    go_wp2_with (first
      | (go_at_call 88; refine (PW.out _ S.out.rd).mono ?_; rintro e w1 ⟨rfl, hr, hg⟩; replace S := hid (S.out.call hr hg); clear hr hg; obtain ⟨⟨c0, c1, c2, c3, c4, c5⟩, cf, cz⟩ := S.out.br.c6)
      | (clear n1; go_at_call 95; refine (PN.out _ S.out.kp S.out.rd).mono ?_; rintro e w2 ⟨rfl, hr, hg⟩; replace S := hid (S.out.call hr hg); clear hr hg; clear c0 c1 c2 c3 c4 c5 cf cz; obtain ⟨⟨c0, c1, c2, c3, c4, c5⟩, cf, cz⟩ := S.out.br.c6)
      | (go_at_call 95; refine (PM.out _ S.out.kp S.out.rd).mono ?_; rintro e w3 ⟨rfl, hr, hg⟩; replace S := hid (S.out.call hr hg); clear hr hg; clear c0 c1 c2 c3 c4 c5 cf cz; obtain ⟨⟨c0, c1, c2, c3, c4, c5⟩, cf, cz⟩ := S.out.br.c6)
      | (go_at_call 96; refine (PT.out _ S.out.kp S.out.rd).mono ?_; rintro e w4 ⟨⟨v, u, rfl, hv1, hu1⟩, hr, hg⟩; obtain ⟨va, vc, rfl, g1, g2, g3⟩ := own_shape hv1; obtain ⟨ua, uc, rfl, g4, g5, g6⟩ := own_shape hu1; have HN := hid (And.intro (own_mono hv1 S.out.br.lt) (own_mono hu1 S.out.br.lt)); replace S := hid (S.out.call hr hg); clear hr hg hv1 hu1 g1 g2 g3 g4 g5 g6; clear c0 c1 c2 c3 c4 c5 cf cz; obtain ⟨⟨c0, c1, c2, c3, c4, c5⟩, cf, cz⟩ := S.out.br.c6)
      | fail)
    refine bodyPost_ret (v := .tuple #[.agg #[.int .i64 2, .int .i64 y.1, .int .i64 m.1, .int .i64 0, .slice va z.1.length vc, .slice ua z.2.1.length uc], .bool true]) (by simp [results, Tryz.results62, go_sem, *]; done) rfl ?_
    exact SB.fin (q := ⟨2, y.1, m.1, 0, z.1, z.2.1⟩) S.out HN.out.1 HN.out.2
  rw [if_neg h2]
  have hb2 : (sx.toList == [43, 105, 116, 101, 109]) = false := by rw [hsx]; exact str_ne h2
  clear h2
  by_cases h3 : x.1 = [43, 110, 111, 110, 101]
  · rw [if_pos h3]
    have hb3 : (sx.toList == [43, 110, 111, 110, 101]) = true := by rw [hsx]; exact str_eq h3
    rw [← hsx] at PW
    clear hsx h3
    go_enter Tryz.func62, Tryz.ntmps62
    go_wp2_with (first
      | (go_at_call 88; refine (PW.out _ S.out.rd).mono ?_; rintro e w1 ⟨rfl, hr, hg⟩; replace S := hid (S.out.call hr hg); clear hr hg; obtain ⟨⟨c0, c1, c2, c3, c4, c5⟩, cf, cz⟩ := S.out.br.c6)
      | fail)
    refine bodyPost_ret (v := .tuple #[.agg #[.int .i64 3, .int .i64 0, .int .i64 0, .int .i64 0, .slice none 0 0, .slice none 0 0], .bool true]) (by simp [results, Tryz.results62, go_sem, *]; done) rfl ?_
    exact SB.fin (q := ⟨3, 0, 0, 0, [], []⟩) S.out (World.ownsRow_nil _ _ _ _) (World.ownsRow_nil _ _ _ _)
  rw [if_neg h3]
  have hb3 : (sx.toList == [43, 110, 111, 110, 101]) = false := by rw [hsx]; exact str_ne h3
  clear h3
  have C := fun W => cutOne (bstr x.1) 45 W
  rw [bstr_data] at C
  cases hp : Go.Lib.hasPrefix x.1 [45] with
  | false =>
    rw [hp] at C
    rw [if_neg (by simp)]
    have PC : Hid (∀ W, Calls Tryz.prog 44 #[.string (bstr x.1), .string ⟨#[45]⟩] W fun e w' => e = .returned (.tuple #[.string (bstr x.1), .bool false]) ∧ w' = W) := C
    rw [← hsx] at PW PC
    clear hsx hp C
    go_enter Tryz.func62, Tryz.ntmps62
    go_wp2_with (first
      | (go_at_call 88; refine (PW.out _ S.out.rd).mono ?_; rintro e w1 ⟨rfl, hr, hg⟩; replace S := hid (S.out.call hr hg); clear hr hg; obtain ⟨⟨c0, c1, c2, c3, c4, c5⟩, cf, cz⟩ := S.out.br.c6)
      | (go_at_call 44; refine (PC.out _).mono ?_; rintro e w' ⟨rfl, hw⟩; rw [hw]; clear hw w')
      | fail)
    refine bodyPost_ret (v := .tuple #[.agg #[.int .i64 0, .int .i64 0, .int .i64 0, .int .i64 0, .slice none 0 0, .slice none 0 0], .bool false]) (by simp [results, Tryz.results62, go_sem, *]; done) rfl ?_
    exact SB.fin (q := SD.zero) S.out (World.ownsRow_nil _ _ _ _) (World.ownsRow_nil _ _ _ _)
  | true =>
    rw [hp] at C
    rw [if_pos rfl]
    have PC : Hid (∀ W, Calls Tryz.prog 44 #[.string (bstr x.1), .string ⟨#[45]⟩] W fun e w' => e = .returned (.tuple #[.string (bstr (x.1.drop 1)), .bool true]) ∧ w' = W) := C
    have PI : Hid (∀ W, w.grownBy W (some rb) → RD W rb x.2.1 x.2.2 → Calls Tryz.prog 97 #[.pointer (some ⟨rb, 0, none⟩), .string (bstr (x.1.drop 1))] W fun e w' => e = .returned (.int .i64 ((numV (x.1.drop 1)).getD 0)) ∧ RD w' rb x.2.1 (x.2.2 || !(numV (x.1.drop 1)).isSome) ∧ W.grownBy w' (some rb)) := fun W hW hR => by
      have := numberIn_any rb (bstr (x.1.drop 1)) x.2.2 x.2.1 W (by rw [bstr_size, List.length_drop]; have := HS.out.2; omega) (HV.out.kp hW hr6) hR
      rw [bstr_data] at this
      exact this
    generalize numV (x.1.drop 1) = o at PI ⊢
    generalize bstr (x.1.drop 1) = y at PC PI
    rw [← hsx] at PW PC
    clear hsx hp C
    go_enter Tryz.func62, Tryz.ntmps62
    go_wp2_with (first
      | (go_at_call 88; refine (PW.out _ S.out.rd).mono ?_; rintro e w1 ⟨rfl, hr, hg⟩; replace S := hid (S.out.call hr hg); clear hr hg; obtain ⟨⟨c0, c1, c2, c3, c4, c5⟩, cf, cz⟩ := S.out.br.c6)
      | (go_at_call 44; refine (PC.out _).mono ?_; rintro e w' ⟨rfl, hw⟩; rw [hw]; clear hw w')
      | (go_at_call 97; refine (PI.out _ S.out.kp S.out.rd).mono ?_; rintro e w2 ⟨rfl, hr, hg⟩; replace S := hid (S.out.call hr hg); clear hr hg; clear c0 c1 c2 c3 c4 c5 cf cz; obtain ⟨⟨c0, c1, c2, c3, c4, c5⟩, cf, cz⟩ := S.out.br.c6)
      | fail)
    refine bodyPost_ret (v := .tuple #[.agg #[.int .i64 4, .int .i64 0, .int .i64 0, .int .i64 (o.getD 0), .slice none 0 0, .slice none 0 0], .bool true]) (by simp [results, Tryz.results62, go_sem, *]; done) rfl ?_
    exact SB.fin (q := ⟨4, 0, 0, o.getD 0, [], []⟩) S.out (World.ownsRow_nil _ _ _ _) (World.ownsRow_nil _ _ _ _)
end Go.Proofs.YtedhlbknbaggiaaGreatDoor
