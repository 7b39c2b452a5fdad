/-
  The reader of lines: just, and what a shape reads.
-/
import Derived.Test.YtedhlbknbaggiaaGreatDoorLnNote
import Derived.Test.YtedhlbknbaggiaaGreatDoorLnAsk
namespace Go.Proofs.YtedhlbknbaggiaaGreatDoor
open Go.RowKit
set_option linter.unusedVariables false
set_option linter.unusedSimpArgs false

attribute [local go_sem ↓] Go.wp_at_zero Go.wp_at_succ

set_option maxRecDepth 100000 in
set_option maxHeartbeats 400000 in
theorem just_any (rb : Nat) (bad : Bool) (ws : List (List UInt8)) (w : World) (h : RD w rb ws bad) :
    Calls Tryz.prog 87 #[.pointer (some ⟨rb, 0, none⟩)] w fun e w' => e = .returned (.bool (!bad && ws.isEmpty)) ∧ w' = w := by
  obtain ⟨v, h1, h2⟩ := h
  obtain ⟨va, vc, rfl, l1, l2, l3⟩ := SliceV.shape h2
  obtain ⟨c0, c1, cf, cz⟩ := h1.b2
  clear h1 h2 l1 l2 l3
  cases bad <;> cases ws
  all_goals
    go_enter Tryz.func87, Tryz.ntmps87
    go_wp2
    go_ret
    refine ⟨?_, rfl⟩
    first | rfl | (simp; done) | (simp; omega)

def qR (c : Bool) (ws : List (List UInt8)) (b : Bool) : List UInt8 × List (List UInt8) × Bool := if c then wordR ws b else ([], ws, b)
def nR (c : Bool) (ws : List (List UInt8)) (b : Bool) : Int × List (List UInt8) × Bool := if c then numberR ws b else (0, ws, b)
def tR (c : Bool) (ws : List (List UInt8)) (b : Bool) : List PD × List UInt8 × List (List UInt8) × Bool := if c then noteR ws b else ([], [], ws, b)
/-- What a shape reads, and what is left. -/
def askR (s : ShD) (ws : List (List UInt8)) (b : Bool) : AD × List (List UInt8) × Bool :=
  let q := qR s.queue ws b
  let n := nR s.number q.2.1 q.2.2
  let t := tR s.note n.2.1 n.2.2
  (⟨s.kind, bstr q.1, n.1, t.1, t.2.1⟩, t.2.2.1, t.2.2.2)

def AskAns (w : World) (rb : Nat) (q : AD × List (List UInt8) × Bool) (e : Ending) (w' : World) : Prop :=
  (∃ v u, e = .returned (.agg #[.int .i64 q.1.kind, .string q.1.queue, .int .i64 q.1.n, v, u]) ∧ w'.ownsRow w.heap.size 36 4 v q.1.ps.length (cellsL q.1.ps) ∧ w'.ownsRow w.heap.size 5 1 u q.1.body.length (u8s q.1.body)) ∧ RD w' rb q.2.1 q.2.2 ∧ w.grownBy w' (some rb)

/-- The three boxes of shape.ask, and the reader. -/
structure SA (w : World) (rb : Nat) (sc : List Value) (W : World) (cs : List Value) (ws : List (List UInt8)) (b : Bool) : Prop where
  rd : RD W rb ws b
  kp : w.grownBy W (some rb)
  lt : rb < w.heap.size
  bs : Blk W w.heap.size sc
  br : Blk W (w.heap.size + 1) [.int .i64 0, .string ⟨#[]⟩, .int .i64 0, .slice none 0 0, .slice none 0 0]
  ba : Blk W (w.heap.size + 1 + 1) cs
theorem SA.call {w W w1 : World} {rb : Nat} {sc : List Value} {cs : List Value} {ws ws' : List (List UInt8)} {b b' : Bool} (h : SA w rb sc W cs ws b) (hr : RD w1 rb ws' b') (hg : W.grownBy w1 (some rb)) : SA w rb sc w1 cs ws' b' :=
  ⟨hr, kp_trans h.kp hg, h.lt, kp_blk h.bs hg (by have := h.lt; omega), kp_blk h.br hg (by have := h.lt; omega), kp_blk h.ba hg (by have := h.lt; omega)⟩
theorem SA.set {w W : World} {rb : Nat} {sc : List Value} {cs : List Value} {ws : List (List UInt8)} {b : Bool} (h : SA w rb sc W cs ws b) (i : Nat) (x : Value) : SA w rb sc (W.setCell ⟨w.heap.size + 1 + 1, i, none⟩ x) (cs.set i x) ws b := by
  have hp := rd_past h.lt h.rd h.kp ((Below.refl w.heap.size W).setCell (p := ⟨w.heap.size + 1 + 1, i, none⟩) (by show w.heap.size ≤ w.heap.size + 1 + 1; omega) x)
  exact ⟨hp.1, hp.2, h.lt, h.bs.far (a := ⟨w.heap.size + 1 + 1, i, none⟩) (by simp; omega) _, h.br.far (a := ⟨w.heap.size + 1 + 1, i, none⟩) (by simp) _, h.ba.set i x⟩
theorem SA.start {w : World} {rb : Nat} {ws : List (List UInt8)} {b : Bool} (h : RD w rb ws b) (hr : rb < w.heap.size) (x0 x1 x2 x3 x4 k : Value) :
    SA w rb [x0, x1, x2, x3, x4] (((w.alloc (.cells #[x0, x1, x2, x3, x4] 71)).alloc (.cells #[.int .i64 0, .string ⟨#[]⟩, .int .i64 0, .slice none 0 0, .slice none 0 0] 27)).alloc (.cells #[k, .string ⟨#[]⟩, .int .i64 0, .slice none 0 0, .slice none 0 0] 27)) [k, .string ⟨#[]⟩, .int .i64 0, .slice none 0 0, .slice none 0 0] ws b := by
  have b2 := Blk.new (w.alloc (.cells #[x0, x1, x2, x3, x4] 71)) [.int .i64 0, .string ⟨#[]⟩, .int .i64 0, .slice none 0 0, .slice none 0 0] 27
  have b3 := Blk.new ((w.alloc (.cells #[x0, x1, x2, x3, x4] 71)).alloc (.cells #[.int .i64 0, .string ⟨#[]⟩, .int .i64 0, .slice none 0 0, .slice none 0 0] 27)) [k, .string ⟨#[]⟩, .int .i64 0, .slice none 0 0, .slice none 0 0] 27
  rw [World.size_alloc] at b2
  rw [World.size_alloc, World.size_alloc] at b3
  exact ⟨((h.on (below_alloc _ _)).on (below_alloc _ _)).on (below_alloc _ _), kp_trans (kp_trans (kp_below (below_alloc _ _)) (kp_below (below_alloc _ _))) (kp_below (below_alloc _ _)), hr, ((Blk.new w [x0, x1, x2, x3, x4] 71).alloc _).alloc _, b2.alloc _, b3⟩
theorem SA.fin {w W : World} {rb : Nat} {sc : List Value} {ws : List (List UInt8)} {b : Bool} {k n : Int} {q : ByteArray} {ps : List PD} {body : List UInt8} {v u : Value} (h : SA w rb sc W [.int .i64 k, .string q, .int .i64 n, v, u] ws b)
    (h1 : W.ownsRow (w.heap.size + 2) 36 4 v ps.length (cellsL ps)) (h2 : W.ownsRow (w.heap.size + 2) 5 1 u body.length (u8s body)) :
    AskAns w rb (⟨k, q, n, ps, body⟩, ws, b) (.returned (.agg #[.int .i64 k, .string q, .int .i64 n, v, u]))
      (((((W.setCell ⟨w.heap.size + 1, 0, none⟩ (.int .i64 k)).setCell ⟨w.heap.size + 1, 1, none⟩ (.string q)).setCell ⟨w.heap.size + 1, 2, none⟩ (.int .i64 n)).setCell ⟨w.heap.size + 1, 3, none⟩ v).setCell ⟨w.heap.size + 1, 4, none⟩ u) := by
  have hb : Below w.heap.size W (((((W.setCell ⟨w.heap.size + 1, 0, none⟩ (.int .i64 k)).setCell ⟨w.heap.size + 1, 1, none⟩ (.string q)).setCell ⟨w.heap.size + 1, 2, none⟩ (.int .i64 n)).setCell ⟨w.heap.size + 1, 3, none⟩ v).setCell ⟨w.heap.size + 1, 4, none⟩ u) :=
    (((((Below.refl w.heap.size W).setCell (Nat.le_succ _) _).setCell (Nat.le_succ _) _).setCell (Nat.le_succ _) _).setCell (Nat.le_succ _) _).setCell (Nat.le_succ _) _
  refine ⟨⟨v, u, rfl, own_mono ?_ (Nat.le_add_right _ 2), own_mono ?_ (Nat.le_add_right _ 2)⟩, rd_past h.lt h.rd h.kp hb⟩
  · exact own_set (own_set (own_set (own_set (own_set h1 (by omega)) (by omega)) (by omega)) (by omega)) (by omega)
  · exact own_set (own_set (own_set (own_set (own_set h2 (by omega)) (by omega)) (by omega)) (by omega)) (by omega)

theorem hid {p : Prop} (h : p) : Hid p := h
def Small (ws : List (List UInt8)) : Prop := (∀ x ∈ ws, x.length ≤ 1000000) ∧ ws.length ≤ 1000
theorem small_word {ws : List (List UInt8)} (h : Small ws) (b : Bool) : Small (wordR ws b).2.1 := by
  refine ⟨fun x hx => h.1 x (wordR_mem hx), ?_⟩
  have := h.2
  cases ws with
  | nil => cases b <;> simp [wordR]
  | cons x r => cases b <;> simp [wordR] at this ⊢ <;> omega
theorem small_num {ws : List (List UInt8)} (h : Small ws) (b : Bool) : Small (numberR ws b).2.1 := small_word h b

set_option maxRecDepth 100000 in
set_option maxHeartbeats 600000 in
theorem shapeAsk_000 (k : Int) (word : ByteArray) (rb : Nat) (bad : Bool) (ws : List (List UInt8)) (w : World) (hl : Small ws) (hr6 : 6 ≤ rb) (hv : Vars w) (h : RD w rb ws bad) :
    Calls Tryz.prog 89 #[.agg #[.int .i64 k, .string word, .bool false, .bool false, .bool false], .pointer (some ⟨rb, 0, none⟩)] w (AskAns w rb (askR ⟨k, word, false, false, false⟩ ws bad)) := by
  have HR : Hid (RD w rb ws bad) := h
  have hlt : rb < w.heap.size := by obtain ⟨v, h1, _⟩ := h; exact h1.lt
  have S : Hid (SA w rb [.int .i64 k, .string word, .bool false, .bool false, .bool false] _ [.int .i64 k, .string ⟨#[]⟩, .int .i64 0, .slice none 0 0, .slice none 0 0] ws bad) := SA.start h hlt _ _ _ _ _ _
  have E : Hid (Small ws) := hl
  obtain ⟨q, hq⟩ : ∃ q, q = askR ⟨k, word, false, false, false⟩ ws bad := ⟨_, rfl⟩
  rw [← hq]
  unfold askR qR nR tR at hq
  have HE : Hid (q = (⟨k, bstr [], 0, [], []⟩, ws, bad)) := by
    rw [hq]
    rfl
  clear hq hl E h hv 
  go_enter Tryz.func89, Tryz.ntmps89
  go_wp2
  refine bodyPost_ret (v := .agg #[.int .i64 k, .string ⟨#[]⟩, .int .i64 0, .slice none 0 0, .slice none 0 0]) (by simp [results, Tryz.results89, go_sem, *]; done) rfl ?_
  rw [HE.out]
  exact ⟨⟨_, _, rfl, World.ownsRow_nil _ _ _ _, World.ownsRow_nil _ _ _ _⟩, ((HR.out.on (below_alloc _ _)).on (below_alloc _ _)).on (below_alloc _ _), kp_trans (kp_trans (kp_below (below_alloc _ _)) (kp_below (below_alloc _ _))) (kp_below (below_alloc _ _))⟩

set_option maxRecDepth 100000 in
set_option maxHeartbeats 600000 in
theorem shapeAsk_110 (k : Int) (word : ByteArray) (rb : Nat) (bad : Bool) (ws : List (List UInt8)) (w : World) (hl : Small ws) (hr6 : 6 ≤ rb) (hv : Vars w) (h : RD w rb ws bad) :
    Calls Tryz.prog 89 #[.agg #[.int .i64 k, .string word, .bool true, .bool true, .bool false], .pointer (some ⟨rb, 0, none⟩)] w (AskAns w rb (askR ⟨k, word, true, true, false⟩ ws bad)) := by
  have hlt : rb < w.heap.size := by obtain ⟨v, h1, _⟩ := h; exact h1.lt
  have S : Hid (SA w rb [.int .i64 k, .string word, .bool true, .bool true, .bool false] _ [.int .i64 k, .string ⟨#[]⟩, .int .i64 0, .slice none 0 0, .slice none 0 0] ws bad) := SA.start h hlt _ _ _ _ _ _
  have PW : Hid (∀ W, RD W rb ws bad → Calls Tryz.prog 88 #[.pointer (some ⟨rb, 0, none⟩)] W fun e w' => e = .returned (.string (bstr (wordR ws bad).1)) ∧ RD w' rb (wordR ws bad).2.1 (wordR ws bad).2.2 ∧ W.grownBy w' (some rb)) := fun W hR => word_any rb bad ws W hR
  have hl1 := small_word hl bad
  have E : Hid (Small (wordR ws bad).2.1) := hl1
  obtain ⟨q, hq⟩ : ∃ q, q = askR ⟨k, word, true, true, false⟩ ws bad := ⟨_, rfl⟩
  rw [← hq]
  unfold askR qR nR tR at hq
  simp only [if_true] at hq
  generalize wordR ws bad = x at hq PW E hl1
  have PN : Hid (∀ W, w.grownBy W (some rb) → RD W rb x.2.1 x.2.2 → Calls Tryz.prog 95 #[.pointer (some ⟨rb, 0, none⟩)] W fun e w' => e = .returned (.int .i64 (numberR x.2.1 x.2.2).1) ∧ RD w' rb (numberR x.2.1 x.2.2).2.1 (numberR x.2.1 x.2.2).2.2 ∧ W.grownBy w' (some rb)) := fun W hW hR => number_of rb _ _ W hl1.1 hr6 (hv.kp hW hr6) hR
  have hl2 := small_num hl1 x.2.2
  obtain ⟨y, hy⟩ : ∃ y, y = numberR x.2.1 x.2.2 := ⟨_, rfl⟩
  rw [← hy] at PN hl2
  have HE : Hid (q = (⟨k, bstr x.1, y.1, [], []⟩, y.2.1, y.2.2)) := by
    rw [hq]
    rw [hy]
    rfl
  clear hq hl E h hv hl1 hl2 hy 
  go_enter Tryz.func89, Tryz.ntmps89
  go_wp2_with (first
    | (go_at_call 88; refine (PW.out _ S.out.rd).mono ?_; rintro e w1 ⟨rfl, hr, hg⟩; replace S := hid (S.out.call hr hg); clear hr hg; obtain ⟨⟨s0, s1, s2, s3, s4⟩, sf, sz⟩ := S.out.bs.b5; obtain ⟨⟨r0, r1, r2, r3, r4⟩, rf, rz⟩ := S.out.br.b5; obtain ⟨⟨a0, a1, a2, a3, a4⟩, af, az⟩ := S.out.ba.b5; replace S := hid (S.out.set 1 (.string (bstr x.1))))
    | (go_at_call 95; refine (PN.out _ S.out.kp S.out.rd).mono ?_; rintro e w2 ⟨rfl, hr, hg⟩; replace S := hid (S.out.call hr hg); clear hr hg; clear s0 s1 s2 s3 s4 sf sz r0 r1 r2 r3 r4 rf rz a0 a1 a2 a3 a4 af az; obtain ⟨⟨s0, s1, s2, s3, s4⟩, sf, sz⟩ := S.out.bs.b5; obtain ⟨⟨r0, r1, r2, r3, r4⟩, rf, rz⟩ := S.out.br.b5; obtain ⟨⟨a0, a1, a2, a3, a4⟩, af, az⟩ := S.out.ba.b5; replace S := hid (S.out.set 2 (.int .i64 y.1)))
    | fail)
  refine bodyPost_ret (v := .agg #[.int .i64 k, .string (bstr x.1), .int .i64 y.1, .slice none 0 0, .slice none 0 0]) (by simp [results, Tryz.results89, go_sem, *]; done) rfl ?_
  rw [HE.out]
  exact SA.fin S.out (World.ownsRow_nil _ _ _ _) (World.ownsRow_nil _ _ _ _)

set_option maxRecDepth 100000 in
set_option maxHeartbeats 600000 in
theorem shapeAsk_100 (k : Int) (word : ByteArray) (rb : Nat) (bad : Bool) (ws : List (List UInt8)) (w : World) (hl : Small ws) (hr6 : 6 ≤ rb) (hv : Vars w) (h : RD w rb ws bad) :
    Calls Tryz.prog 89 #[.agg #[.int .i64 k, .string word, .bool true, .bool false, .bool false], .pointer (some ⟨rb, 0, none⟩)] w (AskAns w rb (askR ⟨k, word, true, false, false⟩ ws bad)) := by
  have hlt : rb < w.heap.size := by obtain ⟨v, h1, _⟩ := h; exact h1.lt
  have S : Hid (SA w rb [.int .i64 k, .string word, .bool true, .bool false, .bool false] _ [.int .i64 k, .string ⟨#[]⟩, .int .i64 0, .slice none 0 0, .slice none 0 0] ws bad) := SA.start h hlt _ _ _ _ _ _
  have PW : Hid (∀ W, RD W rb ws bad → Calls Tryz.prog 88 #[.pointer (some ⟨rb, 0, none⟩)] W fun e w' => e = .returned (.string (bstr (wordR ws bad).1)) ∧ RD w' rb (wordR ws bad).2.1 (wordR ws bad).2.2 ∧ W.grownBy w' (some rb)) := fun W hR => word_any rb bad ws W hR
  have hl1 := small_word hl bad
  have E : Hid (Small (wordR ws bad).2.1) := hl1
  obtain ⟨q, hq⟩ : ∃ q, q = askR ⟨k, word, true, false, false⟩ ws bad := ⟨_, rfl⟩
  rw [← hq]
  unfold askR qR nR tR at hq
  simp only [if_true] at hq
  generalize wordR ws bad = x at hq PW E hl1
  have HE : Hid (q = (⟨k, bstr x.1, 0, [], []⟩, x.2.1, x.2.2)) := by
    rw [hq]
    rfl
  clear hq hl E h hv hl1 
  go_enter Tryz.func89, Tryz.ntmps89
  go_wp2_with (first
    | (go_at_call 88; refine (PW.out _ S.out.rd).mono ?_; rintro e w1 ⟨rfl, hr, hg⟩; replace S := hid (S.out.call hr hg); clear hr hg; obtain ⟨⟨s0, s1, s2, s3, s4⟩, sf, sz⟩ := S.out.bs.b5; obtain ⟨⟨r0, r1, r2, r3, r4⟩, rf, rz⟩ := S.out.br.b5; obtain ⟨⟨a0, a1, a2, a3, a4⟩, af, az⟩ := S.out.ba.b5; replace S := hid (S.out.set 1 (.string (bstr x.1))))
    | fail)
  refine bodyPost_ret (v := .agg #[.int .i64 k, .string (bstr x.1), .int .i64 0, .slice none 0 0, .slice none 0 0]) (by simp [results, Tryz.results89, go_sem, *]; done) rfl ?_
  rw [HE.out]
  exact SA.fin S.out (World.ownsRow_nil _ _ _ _) (World.ownsRow_nil _ _ _ _)

set_option maxRecDepth 100000 in
set_option maxHeartbeats 600000 in
theorem shapeAsk_101 (k : Int) (word : ByteArray) (rb : Nat) (bad : Bool) (ws : List (List UInt8)) (w : World) (hl : Small ws) (hr6 : 6 ≤ rb) (hv : Vars w) (h : RD w rb ws bad) :
    Calls Tryz.prog 89 #[.agg #[.int .i64 k, .string word, .bool true, .bool false, .bool true], .pointer (some ⟨rb, 0, none⟩)] w (AskAns w rb (askR ⟨k, word, true, false, true⟩ ws bad)) := by
  have hlt : rb < w.heap.size := by obtain ⟨v, h1, _⟩ := h; exact h1.lt
  have S : Hid (SA w rb [.int .i64 k, .string word, .bool true, .bool false, .bool true] _ [.int .i64 k, .string ⟨#[]⟩, .int .i64 0, .slice none 0 0, .slice none 0 0] ws bad) := SA.start h hlt _ _ _ _ _ _
  have PW : Hid (∀ W, RD W rb ws bad → Calls Tryz.prog 88 #[.pointer (some ⟨rb, 0, none⟩)] W fun e w' => e = .returned (.string (bstr (wordR ws bad).1)) ∧ RD w' rb (wordR ws bad).2.1 (wordR ws bad).2.2 ∧ W.grownBy w' (some rb)) := fun W hR => word_any rb bad ws W hR
  have hl1 := small_word hl bad
  have E : Hid (Small (wordR ws bad).2.1) := hl1
  obtain ⟨q, hq⟩ : ∃ q, q = askR ⟨k, word, true, false, true⟩ ws bad := ⟨_, rfl⟩
  rw [← hq]
  unfold askR qR nR tR at hq
  simp only [if_true] at hq
  generalize wordR ws bad = x at hq PW E hl1
  have PT : Hid (∀ W, w.grownBy W (some rb) → RD W rb x.2.1 x.2.2 → Calls Tryz.prog 96 #[.pointer (some ⟨rb, 0, none⟩)] W (NoteAns W rb (noteR x.2.1 x.2.2))) := fun W hW hR => note_any rb _ _ W hl1.1 hl1.2 hr6 (hv.kp hW hr6) hR
  obtain ⟨z, hz⟩ : ∃ z, z = noteR x.2.1 x.2.2 := ⟨_, rfl⟩
  rw [← hz] at PT
  unfold NoteAns at PT
  have HE : Hid (q = (⟨k, bstr x.1, 0, z.1, z.2.1⟩, z.2.2.1, z.2.2.2)) := by
    rw [hq]
    rw [hz]
    rfl
  clear hq hl E h hv hl1 hz
  go_enter Tryz.func89, Tryz.ntmps89
  go_wp2_with (first
    | (go_at_call 88; refine (PW.out _ S.out.rd).mono ?_; rintro e w1 ⟨rfl, hr, hg⟩; replace S := hid (S.out.call hr hg); clear hr hg; obtain ⟨⟨s0, s1, s2, s3, s4⟩, sf, sz⟩ := S.out.bs.b5; obtain ⟨⟨r0, r1, r2, r3, r4⟩, rf, rz⟩ := S.out.br.b5; obtain ⟨⟨a0, a1, a2, a3, a4⟩, af, az⟩ := S.out.ba.b5; replace S := hid (S.out.set 1 (.string (bstr x.1))))
    | (go_at_call 96; refine (PT.out _ S.out.kp S.out.rd).mono ?_; rintro e w3 ⟨⟨v, u, rfl, hv1, hu1⟩, hr, hg⟩; obtain ⟨va, vc, rfl, g1, g2, g3⟩ := own_shape hv1; obtain ⟨ua, uc, rfl, g4, g5, g6⟩ := own_shape hu1; have HN := hid (And.intro (own_mono hv1 S.out.ba.lt) (own_mono hu1 S.out.ba.lt)); replace S := hid (S.out.call hr hg); clear hr hg hv1 hu1 g1 g2 g3 g4 g5 g6; clear s0 s1 s2 s3 s4 sf sz r0 r1 r2 r3 r4 rf rz a0 a1 a2 a3 a4 af az; obtain ⟨⟨s0, s1, s2, s3, s4⟩, sf, sz⟩ := S.out.bs.b5; obtain ⟨⟨r0, r1, r2, r3, r4⟩, rf, rz⟩ := S.out.br.b5; obtain ⟨⟨a0, a1, a2, a3, a4⟩, af, az⟩ := S.out.ba.b5; replace S := hid ((S.out.set 3 (.slice va z.1.length vc)).set 4 (.slice ua z.2.1.length uc)))
    | fail)
  refine bodyPost_ret (v := .agg #[.int .i64 k, .string (bstr x.1), .int .i64 0, .slice va z.1.length vc, .slice ua z.2.1.length uc]) (by simp [results, Tryz.results89, go_sem, *]; done) rfl ?_
  rw [HE.out]
  have hb := S.out.lt
  exact SA.fin S.out (own_mono (own_set (own_set HN.out.1 (by omega)) (by omega)) (Nat.le_succ _)) (own_mono (own_set (own_set HN.out.2 (by omega)) (by omega)) (Nat.le_succ _))

set_option maxRecDepth 100000 in
set_option maxHeartbeats 600000 in
theorem shapeAsk_010 (k : Int) (word : ByteArray) (rb : Nat) (bad : Bool) (ws : List (List UInt8)) (w : World) (hl : Small ws) (hr6 : 6 ≤ rb) (hv : Vars w) (h : RD w rb ws bad) :
    Calls Tryz.prog 89 #[.agg #[.int .i64 k, .string word, .bool false, .bool true, .bool false], .pointer (some ⟨rb, 0, none⟩)] w (AskAns w rb (askR ⟨k, word, false, true, false⟩ ws bad)) := by
  have hlt : rb < w.heap.size := by obtain ⟨v, h1, _⟩ := h; exact h1.lt
  have S : Hid (SA w rb [.int .i64 k, .string word, .bool false, .bool true, .bool false] _ [.int .i64 k, .string ⟨#[]⟩, .int .i64 0, .slice none 0 0, .slice none 0 0] ws bad) := SA.start h hlt _ _ _ _ _ _
  have E : Hid (Small ws) := hl
  obtain ⟨q, hq⟩ : ∃ q, q = askR ⟨k, word, false, true, false⟩ ws bad := ⟨_, rfl⟩
  rw [← hq]
  unfold askR qR nR tR at hq
  have PN : Hid (∀ W, w.grownBy W (some rb) → RD W rb ws bad → Calls Tryz.prog 95 #[.pointer (some ⟨rb, 0, none⟩)] W fun e w' => e = .returned (.int .i64 (numberR ws bad).1) ∧ RD w' rb (numberR ws bad).2.1 (numberR ws bad).2.2 ∧ W.grownBy w' (some rb)) := fun W hW hR => number_of rb _ _ W hl.1 hr6 (hv.kp hW hr6) hR
  have hl2 := small_num hl bad
  obtain ⟨y, hy⟩ : ∃ y, y = numberR ws bad := ⟨_, rfl⟩
  rw [← hy] at PN hl2
  have HE : Hid (q = (⟨k, bstr [], y.1, [], []⟩, y.2.1, y.2.2)) := by
    rw [hq]
    rw [hy]
    rfl
  clear hq hl E h hv hl2 hy 
  go_enter Tryz.func89, Tryz.ntmps89
  go_wp2_with (first
    | (go_at_call 95; refine (PN.out _ S.out.kp S.out.rd).mono ?_; rintro e w2 ⟨rfl, hr, hg⟩; replace S := hid (S.out.call hr hg); clear hr hg; obtain ⟨⟨s0, s1, s2, s3, s4⟩, sf, sz⟩ := S.out.bs.b5; obtain ⟨⟨r0, r1, r2, r3, r4⟩, rf, rz⟩ := S.out.br.b5; obtain ⟨⟨a0, a1, a2, a3, a4⟩, af, az⟩ := S.out.ba.b5; replace S := hid (S.out.set 2 (.int .i64 y.1)))
    | fail)
  refine bodyPost_ret (v := .agg #[.int .i64 k, .string ⟨#[]⟩, .int .i64 y.1, .slice none 0 0, .slice none 0 0]) (by simp [results, Tryz.results89, go_sem, *]; done) rfl ?_
  rw [HE.out]
  exact SA.fin S.out (World.ownsRow_nil _ _ _ _) (World.ownsRow_nil _ _ _ _)

/-- What any shape of the table reads. -/
theorem shapeAsk_any (s : ShD) (hs : s ∈ shapesL) (rb : Nat) (bad : Bool) (ws : List (List UInt8)) (w : World) (hl : Small ws) (hr6 : 6 ≤ rb) (hv : Vars w) (h : RD w rb ws bad) :
    Calls Tryz.prog 89 #[.agg s.cells.toArray, .pointer (some ⟨rb, 0, none⟩)] w (AskAns w rb (askR s ws bad)) := by
  unfold shapesL at hs
  simp only [List.mem_cons, List.not_mem_nil, or_false] at hs
  rcases hs with rfl | rfl | rfl | rfl | rfl | rfl | rfl | rfl | rfl
  · exact shapeAsk_000 _ _ rb bad ws w hl hr6 hv h
  · exact shapeAsk_110 _ _ rb bad ws w hl hr6 hv h
  · exact shapeAsk_100 _ _ rb bad ws w hl hr6 hv h
  · exact shapeAsk_101 _ _ rb bad ws w hl hr6 hv h
  · exact shapeAsk_100 _ _ rb bad ws w hl hr6 hv h
  · exact shapeAsk_110 _ _ rb bad ws w hl hr6 hv h
  · exact shapeAsk_010 _ _ rb bad ws w hl hr6 hv h
  · exact shapeAsk_010 _ _ rb bad ws w hl hr6 hv h
  · exact shapeAsk_100 _ _ rb bad ws w hl hr6 hv h
end Go.Proofs.YtedhlbknbaggiaaGreatDoor
