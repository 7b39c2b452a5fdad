/-
  The reader of lines: (*reader).must, word, numberIn, number.
-/
import Derived.Test.YtedhlbknbaggiaaGreatDoorLnSay
namespace Go.Proofs.YtedhlbknbaggiaaGreatDoor
open Go.RowKit
set_option linter.unusedVariables false
set_option linter.unusedSimpArgs false

attribute [local go_sem ↓] Go.wp_at_zero Go.wp_at_succ

/-- The reader in its box rb: the words that are left, and whether one was not as it must be. -/
def RD (W : World) (rb : Nat) (ws : List (List UInt8)) (bad : Bool) : Prop := ∃ v, Blk W rb [v, .bool bad] ∧ SliceV (fun b => b < rb) W v ws.length (strs ws)
theorem RD.on {W W' : World} {rb : Nat} {ws : List (List UInt8)} {bad : Bool} (h : RD W rb ws bad) (hb : Below W.heap.size W W') : RD W' rb ws bad := by
  obtain ⟨v, h1, h2⟩ := h
  exact ⟨v, h1.below hb h1.lt, SliceV.sub h2 fun b hb' => ⟨hb', hb.block b (Nat.lt_trans hb' h1.lt)⟩⟩
theorem kp_below {rb : Nat} {W W' : World} (h : Below W.heap.size W W') : W.grownBy W' (some rb) := grownBy_of_below h
theorem kp_trans {rb : Nat} {a b c : World} (h : a.grownBy b (some rb)) (k : b.grownBy c (some rb)) : a.grownBy c (some rb) := grownBy_trans h k
theorem kp_blk {rb b : Nat} {W W' : World} {cs : List Value} (h : Blk W b cs) (k : W.grownBy W' (some rb)) (hne : b ≠ rb) : Blk W' b cs := h.same (k.block b h.lt (fun e => hne (by injection e)))
theorem Vars.kp {W W' : World} {rb : Nat} (h : Vars W) (hb : W.grownBy W' (some rb)) (hr : 6 ≤ rb) : Vars W' := by
  have hblk : ∀ b, b < 6 → W'.heap[b]? = W.heap[b]? := fun b hlt => by
    rcases Nat.lt_or_ge b W.heap.size with h' | h'
    · exact hb.block b h' (fun e => by injection e with e; omega)
    · exfalso
      obtain ⟨t, _⟩ := h.shapes
      have : Go.Lib.TabIs Tryz.prog W "internal/strconv.uint64pow10" .u64 Go.Lib.pow10Tab := h.tab
      unfold Go.Lib.TabIs World.var? at this
      have hg : Tryz.prog.globalNamed "internal/strconv.uint64pow10" = some 5 := by kernel_rfl
      rw [hg] at this
      simp only [Option.bind_some] at this
      have h5 : W.heap[5]? = none := Array.getElem?_eq_none (by omega)
      rw [h5] at this
      cases this
  obtain ⟨⟨a, b, h1⟩, ⟨c, d, h2⟩, ⟨m, h3⟩, h4, ⟨t, f, h5⟩⟩ := h
  have hc : ∀ b o, b < 6 → W'.cell? ⟨b, o, none⟩ = W.cell? ⟨b, o, none⟩ := fun b o hlt => World.cell?_of_block (a := ⟨b, o, none⟩) (hblk b hlt)
  refine ⟨⟨a, b, (hc 2 0 (by omega)).trans h1⟩, ⟨c, d, (hc 3 0 (by omega)).trans h2⟩, ⟨m, (hc 4 0 (by omega)).trans h3⟩, ?_, t, f, (hblk 0 (by omega)).trans h5⟩
  unfold Go.Lib.TabIs World.var? at h4 ⊢
  have hg : Tryz.prog.globalNamed "internal/strconv.uint64pow10" = some 5 := by kernel_rfl
  rw [hg] at h4 ⊢
  simp only [Option.bind_some] at h4 ⊢
  rw [hblk 5 (by omega)]
  exact h4

theorem rd_set {w : World} {rb : Nat} {v : Value} {bad : Bool} {ws : List (List UInt8)} (h1 : Blk w rb [v, .bool bad]) (h2 : SliceV (fun b => b < rb) w v ws.length (strs ws)) (c : Bool) :
    RD (w.setCell ⟨rb, 1, none⟩ (.bool c)) rb ws c ∧ w.grownBy (w.setCell ⟨rb, 1, none⟩ (.bool c)) (some rb) := by
  have hz : (w.setCell ⟨rb, 1, none⟩ (.bool c)).heap.size = w.heap.size := by simp
  have hk : ∀ b, b ≠ rb → (w.setCell ⟨rb, 1, none⟩ (.bool c)).heap[b]? = w.heap[b]? := fun b hb => Below.heap_setCell _ _ _ _ hb
  refine ⟨⟨v, h1.set 1 (.bool c), SliceV.sub h2 fun b hb => ⟨hb, hk b (by omega)⟩⟩, ⟨rfl, rfl, rfl, Nat.le_of_eq hz.symm, fun b _ hb => hk b (fun e => hb (by rw [e]))⟩⟩

set_option maxRecDepth 100000 in
set_option maxHeartbeats 400000 in
theorem must_any (rb : Nat) (g bad : Bool) (ws : List (List UInt8)) (w : World) (h : RD w rb ws bad) :
    Calls Tryz.prog 120 #[.pointer (some ⟨rb, 0, none⟩), .bool g] w fun e w' => e = .returned (.tuple #[]) ∧ RD w' rb ws (bad || !g) ∧ w.grownBy w' (some rb) := by
  obtain ⟨v, h1, h2⟩ := h
  have H : Hid (Blk w rb [v, .bool bad] ∧ SliceV (fun b => b < rb) w v ws.length (strs ws)) := ⟨h1, h2⟩
  obtain ⟨c0, c1, cf, cz⟩ := h1.b2
  clear h1 h2
  cases bad <;> cases g
  all_goals
    go_enter Tryz.func120, Tryz.ntmps120
    go_wp2
    refine bodyPost_end (v := .tuple #[]) (by simp [results, Tryz.results120, go_sem, *]; done) rfl ⟨rfl, ?_⟩
    exact rd_set H.out.1 H.out.2 _

theorem words_cons {S : Nat → Prop} {w : World} {v : Value} {x : List UInt8} {r : List (List UInt8)} (h : SliceV S w v (x :: r).length (strs (x :: r))) :
    ∃ b off cap, v = .slice (some ⟨b, off, none⟩) (x :: r).length cap ∧ S b ∧ w.cell? ⟨b, off, none⟩ = some (.string (bstr x)) ∧ RowAt S w (some ⟨b, off + 1, none⟩) (strs r) ∧ r.length + 1 ≤ cap ∧ cap ≤ maxLen := by
  obtain ⟨a, cap, rfl, h1, h2, hn, h3⟩ := h
  obtain ⟨b, off, rfl, hs, hc⟩ := h3 0 (by simp [strs])
  refine ⟨b, off, cap, rfl, hs, hc, fun i hi => ?_, h1, h2⟩
  obtain ⟨b', off', e, hs', hc'⟩ := h3 (i + 1) (by simp [strs] at hi ⊢; exact hi)
  simp only [Option.some.injEq, Addr.mk.injEq, and_true] at e
  obtain ⟨rfl, rfl⟩ := e
  refine ⟨b, off + 1, rfl, hs, ?_⟩
  rw [show off + 1 + i = off + (i + 1) by omega, hc']
  simp [strs]

theorem rd_word {w : World} {rb : Nat} {v0 v' : Value} {r : List (List UInt8)} (h1 : Blk w rb [v0, .bool false]) (hr : SliceV (fun b => b < rb) w v' r.length (strs r)) :
    RD (w.setCell ⟨rb, 0, none⟩ v') rb r false ∧ w.grownBy (w.setCell ⟨rb, 0, none⟩ v') (some rb) := by
  have hz : (w.setCell ⟨rb, 0, none⟩ v').heap.size = w.heap.size := by simp
  have hk : ∀ b, b ≠ rb → (w.setCell ⟨rb, 0, none⟩ v').heap[b]? = w.heap[b]? := fun b hb => Below.heap_setCell _ _ _ _ hb
  exact ⟨⟨v', h1.set 0 v', SliceV.sub hr fun b hb => ⟨hb, hk b (by omega)⟩⟩, ⟨rfl, rfl, rfl, Nat.le_of_eq hz.symm, fun b _ hb => hk b (fun e => hb (by rw [e]))⟩⟩

/-- A word taken off: the word, and what is left. -/
def wordR (ws : List (List UInt8)) (bad : Bool) : List UInt8 × List (List UInt8) × Bool :=
  match ws, bad with
  | x :: r, false => (x, r, false)
  | ws, _ => ([], ws, true)

set_option maxRecDepth 100000 in
set_option maxHeartbeats 400000 in
theorem word_any (rb : Nat) (bad : Bool) (ws : List (List UInt8)) (w : World) (h : RD w rb ws bad) :
    Calls Tryz.prog 88 #[.pointer (some ⟨rb, 0, none⟩)] w fun e w' => e = .returned (.string (bstr (wordR ws bad).1)) ∧ RD w' rb (wordR ws bad).2.1 (wordR ws bad).2.2 ∧ w.grownBy w' (some rb) := by
  have H : Hid (RD w rb ws bad) := h
  obtain ⟨v, h1, h2⟩ := h
  obtain ⟨va, vc, rfl, l1, l2, l3⟩ := SliceV.shape h2
  unfold maxLen at l2
  obtain ⟨c0, c1, cf, cz⟩ := h1.b2
  clear h1 h2
  cases bad with
  | true =>
    have e : wordR ws true = ([], ws, true) := by cases ws <;> rfl
    rw [e]
    by_cases hw : (0 : Int) < (ws.length : Int)
    all_goals
      go_enter Tryz.func88, Tryz.ntmps88
      go_wp2_with (first
        | (go_at_call 120; refine (must_any rb _ true ws w H.out).mono ?_; rintro e w2 ⟨rfl, hr, hg⟩; simp only [Bool.true_or] at hr; have H2 : Hid (RD w2 rb ws true ∧ w.grownBy w2 (some rb)) := ⟨hr, hg⟩; obtain ⟨v2, h21, h22⟩ := hr; clear c0 c1 cf cz hg h22; obtain ⟨c0, c1, cf, cz⟩ := h21.b2)
        | fail)
      go_ret
      exact ⟨rfl, H2.out⟩
  | false =>
    cases ws with
    | nil =>
      go_enter Tryz.func88, Tryz.ntmps88
      go_wp2_with (first
        | (go_at_call 120; refine (must_any rb false false [] w H.out).mono ?_; rintro e w2 ⟨rfl, hr, hg⟩; have H2 : Hid (RD w2 rb [] true ∧ w.grownBy w2 (some rb)) := ⟨hr, hg⟩; obtain ⟨v2, h21, h22⟩ := hr; clear c0 c1 cf cz hg h22; obtain ⟨c0, c1, cf, cz⟩ := h21.b2)
        | fail)
      go_ret
      exact ⟨rfl, H2.out⟩
    | cons x r =>
      go_enter Tryz.func88, Tryz.ntmps88
      go_wp2_with (first
        | (go_at_call 120; refine (must_any rb true false (x :: r) w H.out).mono ?_; rintro e w2 ⟨rfl, hr, hg⟩; have H2 : Hid (RD w2 rb (x :: r) false ∧ w.grownBy w2 (some rb)) := ⟨hr, hg⟩; obtain ⟨v2, h21, h22⟩ := hr; obtain ⟨wb, wo, vc2, rfl, ws, wc, wr, k1, k2⟩ := words_cons h22; unfold maxLen at k2; clear c0 c1 cf cz hg h22; obtain ⟨c0, c1, cf, cz⟩ := h21.b2)
        | fail)
      · obtain rfl : r = [] := List.eq_nil_of_length_eq_zero (by omega)
        go_ret
        have := rd_word (v' := .slice (some ⟨wb, wo, none⟩) 0 0) (r := []) h21 ⟨_, 0, rfl, Nat.le_refl _, by simp [maxLen], fun _ => rfl, fun i hi => by simp [strs] at hi⟩
        exact ⟨rfl, this.1, kp_trans H2.out.2 this.2⟩
      · go_ret
        have := rd_word (v' := .slice (some ⟨wb, wo + 1, none⟩) r.length (vc2 - 1)) (r := r) h21 ⟨_, _, rfl, by omega, by unfold maxLen; omega, (fun e => by cases e), wr⟩
        exact ⟨rfl, this.1, kp_trans H2.out.2 this.2⟩
end Go.Proofs.YtedhlbknbaggiaaGreatDoor
