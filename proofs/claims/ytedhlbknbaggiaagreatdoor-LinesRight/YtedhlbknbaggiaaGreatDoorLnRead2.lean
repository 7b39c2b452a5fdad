/-
  The reader of lines: numberIn, number, propIn.
-/
import Derived.Test.YtedhlbknbaggiaaGreatDoorLnRead
namespace Go.Proofs.YtedhlbknbaggiaaGreatDoor
open Go.RowKit
set_option linter.unusedVariables false
set_option linter.unusedSimpArgs false

attribute [local go_sem ↓] Go.wp_at_zero Go.wp_at_succ

set_option maxRecDepth 100000 in
set_option maxHeartbeats 400000 in
theorem numberIn_any (rb : Nat) (s : ByteArray) (bad : Bool) (ws : List (List UInt8)) (w : World) (hl : s.size ≤ 281474976710656) (hv : Vars w) (h : RD w rb ws bad) :
    Calls Tryz.prog 97 #[.pointer (some ⟨rb, 0, none⟩), .string s] w fun e w' => e = .returned (.int .i64 ((numV s.data.toList).getD 0)) ∧ RD w' rb ws (bad || !(numV s.data.toList).isSome) ∧ w.grownBy w' (some rb) := by
  obtain ⟨o, ho⟩ : ∃ o, o = numV s.data.toList := ⟨_, rfl⟩
  have P : Hid (Calls Tryz.prog 9 #[.string s] w (NumAns o w)) := by
    rw [ho]
    exact number_any s w hl hv
  have H : Hid (∀ W, Below w.heap.size w W → Calls Tryz.prog 120 #[.pointer (some ⟨rb, 0, none⟩), .bool o.isSome] W fun e w' => e = .returned (.tuple #[]) ∧ RD w' rb ws (bad || !o.isSome) ∧ W.grownBy w' (some rb)) := fun W hW => must_any rb _ bad ws W (h.on hW)
  rw [← ho]
  clear ho hv h hl
  unfold NumAns at P
  go_enter Tryz.func97, Tryz.ntmps97
  go_wp2_with (first
    | (go_at_call 9; refine P.out.mono ?_; rintro e w1 ⟨rfl, hb1⟩; have H1 : Hid (Below w.heap.size w w1) := hb1; clear hb1)
    | (go_at_call 120; refine (H.out _ H1.out).mono ?_; rintro e w2 ⟨rfl, hr, hg⟩; have H2 : Hid (RD w2 rb ws (bad || !o.isSome) ∧ w.grownBy w2 (some rb)) := ⟨hr, kp_trans (kp_below H1.out) hg⟩; clear hr hg)
    | fail)
  go_ret
  exact ⟨rfl, H2.out⟩

/-- A number taken off. -/
def numberR (ws : List (List UInt8)) (bad : Bool) : Int × List (List UInt8) × Bool :=
  ((numV (wordR ws bad).1).getD 0, (wordR ws bad).2.1, (wordR ws bad).2.2 || !(numV (wordR ws bad).1).isSome)

theorem wordR_mem {ws : List (List UInt8)} {bad : Bool} {x : List UInt8} (h : x ∈ (wordR ws bad).2.1) : x ∈ ws := by
  cases ws with
  | nil => cases bad <;> exact h
  | cons a r => cases bad with
    | true => exact h
    | false => exact List.mem_cons_of_mem _ h
theorem wordR_len {ws : List (List UInt8)} {bad : Bool} {N : Nat} (h : ∀ x ∈ ws, x.length ≤ N) : (wordR ws bad).1.length ≤ N := by
  cases ws with
  | nil => cases bad <;> exact Nat.zero_le _
  | cons a r => cases bad with
    | true => exact Nat.zero_le _
    | false => exact h a (List.mem_cons_self ..)

set_option maxRecDepth 100000 in
set_option maxHeartbeats 400000 in
theorem number_of (rb : Nat) (bad : Bool) (ws : List (List UInt8)) (w : World) (hl : ∀ x ∈ ws, x.length ≤ 1000000) (hr6 : 6 ≤ rb) (hv : Vars w) (h : RD w rb ws bad) :
    Calls Tryz.prog 95 #[.pointer (some ⟨rb, 0, none⟩)] w fun e w' => e = .returned (.int .i64 (numberR ws bad).1) ∧ RD w' rb (numberR ws bad).2.1 (numberR ws bad).2.2 ∧ w.grownBy w' (some rb) := by
  have P : Hid (Calls Tryz.prog 88 #[.pointer (some ⟨rb, 0, none⟩)] w fun e w' => e = .returned (.string (bstr (wordR ws bad).1)) ∧ RD w' rb (wordR ws bad).2.1 (wordR ws bad).2.2 ∧ w.grownBy w' (some rb)) := word_any rb bad ws w h
  have H : Hid (∀ W, w.grownBy W (some rb) → RD W rb (wordR ws bad).2.1 (wordR ws bad).2.2 → Calls Tryz.prog 97 #[.pointer (some ⟨rb, 0, none⟩), .string (bstr (wordR ws bad).1)] W fun e w' => e = .returned (.int .i64 (numberR ws bad).1) ∧ RD w' rb (numberR ws bad).2.1 (numberR ws bad).2.2 ∧ W.grownBy w' (some rb)) := fun W hW hR => by
    have := numberIn_any rb (bstr (wordR ws bad).1) (wordR ws bad).2.2 (wordR ws bad).2.1 W (by rw [bstr_size]; have := wordR_len (bad := bad) hl; omega) (hv.kp hW hr6) hR
    rw [bstr_data] at this
    exact this
  clear hv h hl
  generalize wordR ws bad = p at P H
  generalize numberR ws bad = q at H ⊢
  go_enter Tryz.func95, Tryz.ntmps95
  go_wp2_with (first
    | (go_at_call 88; refine P.out.mono ?_; rintro e w1 ⟨rfl, hr, hg⟩; have H1 : Hid (RD w1 rb p.2.1 p.2.2 ∧ w.grownBy w1 (some rb)) := ⟨hr, hg⟩; clear hr hg)
    | (go_at_call 97; refine (H.out _ H1.out.2 H1.out.1).mono ?_; rintro e w2 ⟨rfl, hr, hg⟩; have H2 : Hid (RD w2 rb q.2.1 q.2.2 ∧ w.grownBy w2 (some rb)) := ⟨hr, kp_trans H1.out.2 hg⟩; clear hr hg)
    | fail)
  go_ret
  exact ⟨rfl, H2.out⟩

theorem box4 (w : World) (y0 y1 y2 y3 : Value) (t : TypeId) : Hid (Below w.heap.size w (w.alloc (.cells #[y0, y1, y2, y3] t)) ∧ Blk (w.alloc (.cells #[y0, y1, y2, y3] t)) w.heap.size [y0, y1, y2, y3]) :=
  ⟨below_alloc w _, Blk.new w [y0, y1, y2, y3] t⟩

/-- Stores behind the reader: it stays. -/
theorem rd_past {w w3 W : World} {rb : Nat} {ws : List (List UInt8)} {bad : Bool} (hr : rb < w.heap.size) (h : RD w3 rb ws bad) (hg : w.grownBy w3 (some rb)) (hb : Below w.heap.size w3 W) : RD W rb ws bad ∧ w.grownBy W (some rb) := by
  obtain ⟨v, h1, h2⟩ := h
  exact ⟨⟨v, h1.below hb hr, SliceV.sub h2 fun b hb' => ⟨hb', hb.block b (Nat.lt_trans hb' hr)⟩⟩, ⟨hb.os.trans hg.os, hb.tape.trans hg.tape, hb.output.trans hg.output, Nat.le_trans hg.size hb.size, fun b hl hn => (hb.block b hl).trans (hg.block b hl hn)⟩⟩

def propInF (x : List UInt8) : Option PD := propV (bstr (Go.Lib.cut x [61]).1) (Go.Lib.cut x [61]).2.1
theorem cut_len (x p : List UInt8) : (Go.Lib.cut x p).2.1.length ≤ x.length := by
  unfold Go.Lib.cut
  split
  · simp only [List.length_drop]; omega
  · exact Nat.zero_le _

set_option maxRecDepth 100000 in
set_option maxHeartbeats 400000 in
theorem propIn_any (rb : Nat) (x : List UInt8) (bad : Bool) (ws : List (List UInt8)) (w : World) (hl : x.length ≤ 1000000) (hr6 : 6 ≤ rb) (hv : Vars w) (h : RD w rb ws bad) :
    Calls Tryz.prog 123 #[.pointer (some ⟨rb, 0, none⟩), .string (bstr x)] w fun e w' => e = .returned ((propInF x).getD PD.zero).val ∧ RD w' rb ws (bad || !(propInF x).isSome) ∧ w.grownBy w' (some rb) := by
  obtain ⟨m, hm⟩ := hv.maxl
  have C : Hid (∀ W, Below w.heap.size w W → Calls Tryz.prog 146 #[.string (bstr x), .string ⟨#[61]⟩] W fun e w' => e = .returned (.tuple #[.string (bstr (Go.Lib.cut x [61]).1), .string (bstr (Go.Lib.cut x [61]).2.1), .bool (Go.Lib.cut x [61]).2.2]) ∧ Below W.heap.size W w') := fun W hW => by
    have := Sh.strings_Cut (bstr x) ⟨#[61]⟩ m W (by rw [bstr_size]; omega) ((hW.cell (Go.Lib.lt_of_cell hm)).trans hm)
    rw [bstr_data] at this
    exact this.mono fun e w' ⟨he, n, hn⟩ => ⟨he, by rw [hn]; exact below_drewN (Below.refl _ _) n⟩
  have P : Hid (∀ W, Below w.heap.size w W → Calls Tryz.prog 13 #[.string (bstr (Go.Lib.cut x [61]).1), .string (bstr (Go.Lib.cut x [61]).2.1)] W (PropAns (propInF x) W)) := fun W hW => by
    have := prop_any (bstr (Go.Lib.cut x [61]).1) (bstr (Go.Lib.cut x [61]).2.1) W (by rw [bstr_size]; have := cut_len x [61]; omega) (hv.on hW)
    rw [bstr_data] at this
    exact this
  generalize propInF x = o at P ⊢
  generalize Go.Lib.cut x [61] = p at P C
  obtain ⟨p1, p2, p3⟩ := p
  have H : Hid (∀ W, Below w.heap.size w W → Calls Tryz.prog 120 #[.pointer (some ⟨rb, 0, none⟩), .bool o.isSome] W fun e w' => e = .returned (.tuple #[]) ∧ RD w' rb ws (bad || !o.isSome) ∧ W.grownBy w' (some rb)) := fun W hW => must_any rb _ bad ws W (h.on hW)
  have HR : Hid (rb < w.heap.size) := by
    obtain ⟨v, h1, _⟩ := h
    exact h1.lt
  have hne : Hid (w.heap.size ≠ rb) := fun e => by have := HR.out; omega
  obtain ⟨⟨y0, y1, y2, y3⟩, hy⟩ : ∃ y, y = o.getD PD.zero := ⟨_, rfl⟩
  clear hv h hl hm
  unfold PropAns at P
  rw [← hy] at P ⊢
  unfold PD.val at P ⊢
  clear hy
  go_enter Tryz.func123, Tryz.ntmps123
  go_wp2_with (first
    | (go_at_call 146; refine (C.out _ (below_alloc _ _)).mono ?_; rintro e w1 ⟨rfl, hb1⟩; have H1 : Hid (Below w.heap.size w w1 ∧ Blk w1 w.heap.size [.string ⟨#[]⟩, .int .i64 0, .int .i64 0, .string ⟨#[]⟩]) := ⟨(below_alloc _ _).trans (hb1.mono (by simp)), (Blk.new w [.string ⟨#[]⟩, .int .i64 0, .int .i64 0, .string ⟨#[]⟩] 36).below hb1 (by simp)⟩; clear hb1)
    | (go_at_call 13; refine (P.out _ H1.out.1).mono ?_; rintro e w2 ⟨rfl, hb2⟩; have H2 : Hid (Below w.heap.size w w2 ∧ Blk w2 w.heap.size [.string ⟨#[]⟩, .int .i64 0, .int .i64 0, .string ⟨#[]⟩]) := ⟨H1.out.1.trans (hb2.mono H1.out.1.size), H1.out.2.below hb2 H1.out.2.lt⟩; clear hb2; obtain ⟨⟨c0, c1, c2, c3⟩, cf, cz⟩ := H2.out.2.b4; have HN := box4 w2 (.string y0) (.int .i64 y1) (.int .i64 y2) (.string y3) 36)
    | (go_at_call 120; refine (H.out _ (H2.out.1.trans (HN.out.1.mono H2.out.1.size))).mono ?_; rintro e w3 ⟨rfl, hr, hg⟩; have H3 : Hid (RD w3 rb ws (bad || !o.isSome) ∧ w.grownBy w3 (some rb)) := ⟨hr, kp_trans (kp_below (H2.out.1.trans (HN.out.1.mono H2.out.1.size))) hg⟩; clear c0 c1 c2 c3 cf cz; obtain ⟨⟨c0, c1, c2, c3⟩, cf, cz⟩ := (kp_blk (H2.out.2.below HN.out.1 H2.out.2.lt) hg hne.out).b4; obtain ⟨⟨d0, d1, d2, d3⟩, df, dz⟩ := (kp_blk HN.out.2 hg (fun e => by have := HR.out; have := H2.out.1.size; omega)).b4; clear hr hg)
    | fail)
  refine bodyPost_ret (v := .agg #[.string y0, .int .i64 y1, .int .i64 y2, .string y3]) (by simp [results, Tryz.results123, go_sem, *]; done) rfl ⟨rfl, rd_past HR.out H3.out.1 H3.out.2 ?_⟩
  exact ((((Below.refl w.heap.size w3).setCell (Nat.le_refl _) _).setCell (Nat.le_refl _) _).setCell (Nat.le_refl _) _).setCell (Nat.le_refl _) _
end Go.Proofs.YtedhlbknbaggiaaGreatDoor
