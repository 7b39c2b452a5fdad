/-
  tglaw4.alive answers true.
-/
import Derived.Test.YthdaccmjipomdabAliveF
import Derived.Test.YthdaccmjipomdabSame
import Derived.Lib.SmallJoins
namespace Go.Proofs.Ythdaccmjipomdab
open Go.RowKit
set_option linter.unusedVariables false
set_option linter.unusedSimpArgs false

attribute [local go_sem ↓] Go.wp_at_zero Go.wp_at_succ

theorem SliceQ.up {w w' : World} {v : Value} {qs : List QD} (h : SliceQ (Under w.heap.size) w v qs) (hb : Below w.heap.size w w') : SliceQ (Under w'.heap.size) w' v qs :=
  h.sub fun k hk => ⟨Nat.lt_of_lt_of_le hk hb.size, hb.block k hk⟩

theorem blk4 {w : World} {b : Nat} {x0 x1 x2 x3 : Value} (h : Blk w b [x0, x1, x2, x3]) : w.cell? ⟨b, 0, none⟩ = some x0 ∧ w.cell? ⟨b, 1, none⟩ = some x1 ∧ w.cell? ⟨b, 2, none⟩ = some x2 ∧ w.cell? ⟨b, 3, none⟩ = some x3 ∧ b < w.heap.size := ⟨h.cell 0, h.cell 1, h.cell 2, h.cell 3, h.lt⟩
theorem body_x (w : World) (m : Nat × Nat) : SliceB (Under (w.alloc (.cells #[.int .u8 120] 5 m)).heap.size) (w.alloc (.cells #[.int .u8 120] 5 m)) (.slice (some ⟨w.heap.size, 0, none⟩) 1 1) [120] := by
  refine ⟨_, _, rfl, Nat.le_refl _, by simp [maxLen], fun h => by simp at h, fun i hi => ⟨w.heap.size, 0, rfl, by show _ < _; simp, ?_⟩⟩
  have : i = 0 := by simpa [u8s] using hi
  subst this
  rw [World.cell?_alloc_mark]
  rfl

/-- The first of items. -/
theorem iAt {S : Nat → Prop} {w : World} {a : Option Addr} {n cap : Nat} {it : IT} (h : SliceI S w (.slice a n cap) [it]) :
    ∃ b off pa pc qa qc, a = some ⟨b, off, none⟩ ∧ S b ∧ NoteIs S w (.slice pa it.note.props.length pc, .slice qa it.note.body.length qc) it.note ∧ (w.cell? ⟨b, off, none⟩ = some (.int .i64 it.id) ∧ w.cell? ⟨b, off + 1, none⟩ = some (.int .i64 it.turn) ∧ w.cell? ⟨b, off + 2, none⟩ = some (.int .i64 it.tries) ∧ w.cell? ⟨b, off + 3, none⟩ = some (.bool it.out)) ∧
      (w.cell? ⟨b, off + 4, none⟩ = some (.int .i64 it.due) ∧ w.cell? ⟨b, off + 5, none⟩ = some (.slice pa it.note.props.length pc) ∧ w.cell? ⟨b, off + 6, none⟩ = some (.slice qa it.note.body.length qc)) := by
  have := h.at 0 (by simp)
  simpa using this

theorem run_field0 (a : Option Addr) (k c : Nat) (n : Int) (w : World) : (Instr.field 43 (.agg #[.slice a k c, .int .i64 n]) 0).run Try.prog w = .ok (.slice a k c) w := by
  unfold Instr.field
  simp [go_sem, Sem.run_bind, asAgg]

theorem a1 (w : World) : Calls Try.prog 23 #[.agg #[.slice none 0 0, .int .i64 0], .string nA, .int .i64 3] w fun e w' => ∃ va vc ea ec, e = .returned (.tuple #[.agg #[.slice va 1 vc, .int .i64 0], .slice ea 1 ec, .int .i64 0]) ∧ SliceQ (Under w'.heap.size) w' (.slice va 1 vc) (hA [] 0).queues ∧ Below w.heap.size w w' :=
  (hallMake_any (.slice none 0 0) ⟨[], 0⟩ nA 3 w (SliceQ.nil _ _) ⟨by simp, by simp⟩ (by show 1 ≤ maxLen; unfold maxLen; omega)).mono fun e w' h => by
    rw [al1] at h
    obtain ⟨⟨va, vc, ea, ec, e, h1, -⟩, h3⟩ := h
    exact ⟨va, vc, ea, ec, e, h1.under, h3⟩

theorem a2 (v pv bv : Value) (w : World) (hv : SliceQ (Under w.heap.size) w v (hA [] 0).queues) (hn : NoteIs (Under w.heap.size) w (pv, bv) nx) : Calls Try.prog 27 #[.agg #[v, .int .i64 0], .string nA, .agg #[pv, bv]] w fun e w' => ∃ va vc ea ec, e = .returned (.tuple #[.agg #[.slice va 1 vc, .int .i64 1], .slice ea 1 ec, .int .i64 0]) ∧ SliceQ (Under w'.heap.size) w' (.slice va 1 vc) (hA [iX] 1).queues ∧ Below w.heap.size w w' :=
  (hallPut_any v (hA [] 0) nA pv bv nx w hv (good_hA (.inl rfl) (.inl rfl)).small ⟨by simp [hA], by simp [hA]⟩ hn (by intro p hp; simp [nx] at hp)).mono fun e w' h => by
    rw [al2] at h
    obtain ⟨⟨va, vc, ea, ec, e, h1, -⟩, h3⟩ := h
    exact ⟨va, vc, ea, ec, e, h1.under, h3⟩

theorem a3 (v : Value) (w : World) (hv : SliceQ (Under w.heap.size) w v (hA [iX] 1).queues) : Calls Try.prog 37 #[.agg #[v, .int .i64 1], .string nA, .int .i64 2] w fun e w' => ∃ va vc pa pc qa qc, e = .returned (.tuple #[.agg #[.slice va 1 vc, .int .i64 1], .agg #[.int .i64 0, .int .i64 1, .int .i64 0, .bool true, .int .i64 7, .slice pa 0 pc, .slice qa 1 qc], .int .i64 0]) ∧ SliceQ (Under w'.heap.size) w' (.slice va 1 vc) (hA [iY] 1).queues ∧ Below w.heap.size w w' :=
  (hallTake_any v (hA [iX] 1) nA 2 ⟨by omega, by omega⟩ w hv (good_hA (.inr (.inl rfl)) (.inr rfl)).small (good_hA (.inr (.inl rfl)) (.inr rfl)).fits).mono fun e w' h => by
    rw [al3.1, al3.2] at h
    obtain ⟨⟨va, vc, pa, pc, qa, qc, e, h1, -⟩, h3⟩ := h
    exact ⟨va, vc, pa, pc, qa, qc, e, h1.under, h3⟩

theorem a4 (v : Value) (w : World) (hv : SliceQ (Under w.heap.size) w v (hA [iY] 1).queues) : Calls Try.prog 29 #[.agg #[v, .int .i64 1], .agg #[.int .i64 0, .string nA, .int .i64 0, .int .i64 1]] w fun e w' => ∃ va vc ea ec, e = .returned (.tuple #[.agg #[.slice va 1 vc, .int .i64 1], .slice ea 1 ec, .int .i64 0]) ∧ SliceQ (Under w'.heap.size) w' (.slice va 1 vc) (hA [] 1).queues ∧ Below w.heap.size w w' :=
  (hallDone_any v (hA [iY] 1) 0 nA 0 1 w hv (good_hA (.inr (.inr rfl)) (.inr rfl)).small).mono fun e w' h => by
    rw [al4] at h
    obtain ⟨⟨va, vc, ea, ec, e, h1, -⟩, h3⟩ := h
    exact ⟨va, vc, ea, ec, e, h1.under, h3⟩

theorem a5 (v : Value) (w : World) (hv : SliceQ (Under w.heap.size) w v (hA [iY] 1).queues) : Calls Try.prog 31 #[.agg #[v, .int .i64 1], .agg #[.int .i64 0, .string nA, .int .i64 0, .int .i64 1]] w fun e w' => ∃ va vc ea ec, e = .returned (.tuple #[.agg #[.slice va 1 vc, .int .i64 1], .slice ea 0 ec, .int .i64 0]) ∧ SliceQ (Under w'.heap.size) w' (.slice va 1 vc) (hA [iB] 1).queues ∧ Below w.heap.size w w' :=
  (hallBack_any v (hA [iY] 1) 0 nA 0 1 w hv (good_hA (.inr (.inr rfl)) (.inr rfl)).small (good_hA (.inr (.inr rfl)) (.inr rfl)).fits ⟨by simp [hA], by simp [hA]⟩).mono fun e w' h => by
    rw [al5] at h
    obtain ⟨⟨va, vc, ea, ec, e, h1, -⟩, h3⟩ := h
    exact ⟨va, vc, ea, ec, e, h1.under, h3⟩

theorem a7 (v : Value) (w : World) (hv : SliceQ (Under w.heap.size) w v (hA [iX] 1).queues) : Calls Try.prog 25 #[.agg #[v, .int .i64 1], .string nA] w fun e w' => ∃ va vc ea ec, e = .returned (.tuple #[.agg #[.slice va 0 vc, .int .i64 1], .slice ea 1 ec, .int .i64 0]) ∧ SliceQ (Under w'.heap.size) w' (.slice va 0 vc) (⟨[], 1⟩ : HD).queues ∧ Below w.heap.size w w' :=
  (hallDrop_any v (hA [iX] 1) nA w hv (good_hA (.inr (.inl rfl)) (.inr rfl)).small).mono fun e w' h => by
    rw [al7] at h
    obtain ⟨⟨va, vc, ea, ec, e, h1, -⟩, h3⟩ := h
    exact ⟨va, vc, ea, ec, e, h1.under, h3⟩

theorem a8 (v : Value) (w : World) (hv : SliceQ (Under w.heap.size) w v (hA [iX] 1).queues) : Calls Try.prog 33 #[.agg #[v, .int .i64 1], .string nA] w fun e w' => ∃ va vc ea ec, e = .returned (.tuple #[.agg #[.slice va 1 vc, .int .i64 1], .slice ea 1 ec, .int .i64 0]) ∧ SliceQ (Under w'.heap.size) w' (.slice va 1 vc) (hA [] 1).queues ∧ Below w.heap.size w w' :=
  (hallPurge_any v (hA [iX] 1) nA w hv (good_hA (.inr (.inl rfl)) (.inr rfl)).small).mono fun e w' h => by
    rw [al8] at h
    obtain ⟨⟨va, vc, ea, ec, e, h1, -⟩, h3⟩ := h
    exact ⟨va, vc, ea, ec, e, h1.under, h3⟩

theorem a6 (v : Value) (w : World) (hv : SliceQ (Under w.heap.size) w v (hA [iY] 1).queues) : Calls Try.prog 35 #[.agg #[v, .int .i64 1], .int .i64 7] w fun e w' => ∃ va vc ea ec, e = .returned (.tuple #[.agg #[.slice va 1 vc, .int .i64 1], .slice ea 0 ec]) ∧ SliceQ (Under w'.heap.size) w' (.slice va 1 vc) (hA [iB] 1).queues ∧ Below w.heap.size w w' :=
  (hallTick_any v (hA [iY] 1) 7 10 (by omega) (good_hA (.inr (.inr rfl)) (.inr rfl)) w hv).mono fun e w' h => by
    have e0 : (hA [iY] 1).queues.length = 1 := rfl
    rw [e0, al6] at h
    obtain ⟨⟨va, vc, ea, ec, e, h1, -⟩, h3⟩ := h
    exact ⟨va, vc, ea, ec, e, h1.under, h3⟩
theorem a9 (v : Value) (w : World) (hv : SliceQ (Under w.heap.size) w v (hA [] 0).queues) : Calls Try.prog 16 #[.agg #[v, .int .i64 0], .string nA] w fun e w' => e = .returned (.int .i64 0) ∧ Below w.heap.size w w' :=
  (find_hall nA v 0 _ w hv).mono fun e w' h => by
    rw [hA_idx] at h
    exact h
theorem a10 (v : Value) (w : World) (hv : SliceQ (Under w.heap.size) w v (hA [iY] 1).queues) : Calls Try.prog 18 #[.agg #[v, .int .i64 1]] w fun e w' => ∃ va vc, e = .returned (.agg #[.slice va 1 vc, .int .i64 1]) ∧ SliceQ (Under w'.heap.size) w' (.slice va 1 vc) [⟨nA, 3, [plainI iY]⟩] ∧ Below w.heap.size w w' :=
  (hallPlain_any v (hA [iY] 1) w hv (good_hA (.inr (.inr rfl)) (.inr rfl)).small).mono fun e w' h => by
    obtain ⟨vi, e, h1, h3⟩ := h
    obtain ⟨va, vc, rfl⟩ := h1.slice.shp
    exact ⟨va, vc, e, h1.slice.under, h3⟩
theorem a11 (v : Value) (w : World) (hv : SliceQ (Under w.heap.size) w v (hA [iX] 1).queues) : Calls Try.prog 15 #[.agg #[v, .int .i64 1]] w fun e w' => ∃ va vc, e = .returned (.agg #[.slice va 1 vc, .int .i64 1]) ∧ Below w.heap.size w w' :=
  (hallOwn_any v (hA [iX] 1) w hv (good_hA (.inr (.inl rfl)) (.inr rfl)).small).mono fun e w' h => by
    obtain ⟨vi, e, h1, h3⟩ := h
    obtain ⟨va, vc, rfl⟩ := h1.slice.shp
    exact ⟨va, vc, e, h3⟩

set_option maxRecDepth 100000 in
set_option maxHeartbeats 4000000 in
theorem alive_any (w : World) : Calls Try.prog 40 #[] w fun e w' => e = .returned (.bool true) ∧ Below w.heap.size w w' := by
  go_enter Try.func40, Try.ntmps40
  go_upto_region 2 with (go_at_call 23; refine (a1 _).mono ?_; rintro e w1 ⟨va1, vc1, ea1, ec1, rfl, q1, hb1⟩)
  obtain ⟨W1, hW1⟩ : ∃ W1, W1 = (w1.alloc (.cells #[.slice va1 1 vc1, .int .i64 0] 43)) := ⟨_, rfl⟩
  have HB1 : Hid (Below w.heap.size w W1) := by rw [hW1]; exact ((hb1).alloc (by have := (hb1).size; first | omega | (simp; omega)) _)
  have hBh : Blk W1 w1.heap.size [.slice va1 1 vc1, .int .i64 0] := by rw [hW1]; have := Blk.new w1 [.slice va1 1 vc1, .int .i64 0] 43; simpa using this
  have Bh : Hid (Blk W1 w1.heap.size [.slice va1 1 vc1, .int .i64 0]) := hBh
  clear hBh
  have Qh : Hid (SliceQ (Under W1.heap.size) W1 (.slice va1 1 vc1) (hA [] 0).queues) := by rw [hW1]; exact (q1.up (below_alloc _ _))
  rw [← hW1]
  clear hW1  
  have kc := Joins.run_convert_bytes_const_at (P := Try.prog) W1 29 5 #[.int .u8 120] 1 1 W1.heap.size rfl Try.underlying29 Try.underlying5
  obtain ⟨h0, h1, h2, h3⟩ := Bh.out.b2
  go_upto_region 3 with (go_at_call 27; clear kc; refine (a2 _ _ _ _ ?_ ?_).mono ?_; (exact Qh.out.up (below_alloc _ _)); (exact ⟨SliceV.nil _ _, body_x _ _⟩); rintro e w2 ⟨va2, vc2, ea2, ec2, rfl, q2, hb2⟩)
  obtain ⟨W2, hW2⟩ : ∃ W2, W2 = (w2.alloc (.cells #[.slice va2 1 vc2, .int .i64 1] 43)) := ⟨_, rfl⟩
  have HB2 : Hid (Below W1.heap.size W1 W2) := by rw [hW2]; exact (((below_alloc W1 (.cells #[.int .u8 120] 5 (1, 2))).trans (hb2.mono (by simp))).alloc (by have := ((below_alloc W1 (.cells #[.int .u8 120] 5 (1, 2))).trans (hb2.mono (by simp))).size; first | omega | (simp; omega)) _)
  replace Bh : Hid (Blk W2 w1.heap.size [.slice va1 1 vc1, .int .i64 0]) := Bh.out.below HB2.out Bh.out.lt
  replace Qh : Hid (SliceQ (Under W2.heap.size) W2 (.slice va1 1 vc1) (hA [] 0).queues) := Qh.out.up HB2.out
  have hBx : Blk W2 w2.heap.size [.slice va2 1 vc2, .int .i64 1] := by rw [hW2]; have := Blk.new w2 [.slice va2 1 vc2, .int .i64 1] 43; simpa using this
  have Bx : Hid (Blk W2 w2.heap.size [.slice va2 1 vc2, .int .i64 1]) := hBx
  clear hBx
  have Qx : Hid (SliceQ (Under W2.heap.size) W2 (.slice va2 1 vc2) (hA [iX] 1).queues) := by rw [hW2]; exact (q2.up (below_alloc _ _))
  rw [← hW2]
  clear hW2 h0 h1 h2 h3 
  obtain ⟨x0, x1, x2, x3⟩ := Bx.out.b2
  go_upto_region 4 with (go_at_call 37; refine (a3 _ _ Qx.out).mono ?_; rintro e w3 ⟨va3, vc3, pa3, pc3, qa3, qc3, rfl, q3, hb3⟩)
  obtain ⟨W3, hW3⟩ : ∃ W3, W3 = ((w3.alloc (.cells #[.slice va3 1 vc3, .int .i64 1] 43)).alloc (.cells #[.int .i64 0, .int .i64 1, .int .i64 0, .bool true, .int .i64 7, .slice pa3 0 pc3, .slice qa3 1 qc3] 34)) := ⟨_, rfl⟩
  have HB3 : Hid (Below W2.heap.size W2 W3) := by rw [hW3]; exact ((((hb3).alloc (by have := (hb3).size; first | omega | (simp; omega)) _)).alloc (by have := (hb3).size; first | omega | (simp; omega)) _)
  replace Bh : Hid (Blk W3 w1.heap.size [.slice va1 1 vc1, .int .i64 0]) := Bh.out.below HB3.out Bh.out.lt
  replace Bx : Hid (Blk W3 w2.heap.size [.slice va2 1 vc2, .int .i64 1]) := Bx.out.below HB3.out Bx.out.lt
  replace Qh : Hid (SliceQ (Under W3.heap.size) W3 (.slice va1 1 vc1) (hA [] 0).queues) := Qh.out.up HB3.out
  replace Qx : Hid (SliceQ (Under W3.heap.size) W3 (.slice va2 1 vc2) (hA [iX] 1).queues) := Qx.out.up HB3.out
  have hBy : Blk W3 w3.heap.size [.slice va3 1 vc3, .int .i64 1] := by rw [hW3]; have := (Blk.new w3 [.slice va3 1 vc3, .int .i64 1] 43).alloc (.cells #[.int .i64 0, .int .i64 1, .int .i64 0, .bool true, .int .i64 7, .slice pa3 0 pc3, .slice qa3 1 qc3] 34); simpa using this
  have By : Hid (Blk W3 w3.heap.size [.slice va3 1 vc3, .int .i64 1]) := hBy
  clear hBy
  have hBi : Blk W3 (w3.heap.size + 1) [.int .i64 0, .int .i64 1, .int .i64 0, .bool true, .int .i64 7, .slice pa3 0 pc3, .slice qa3 1 qc3] := by rw [hW3]; have := Blk.new (w3.alloc (.cells #[.slice va3 1 vc3, .int .i64 1] 43)) [.int .i64 0, .int .i64 1, .int .i64 0, .bool true, .int .i64 7, .slice pa3 0 pc3, .slice qa3 1 qc3] 34; simpa using this
  have Bi : Hid (Blk W3 (w3.heap.size + 1) [.int .i64 0, .int .i64 1, .int .i64 0, .bool true, .int .i64 7, .slice pa3 0 pc3, .slice qa3 1 qc3]) := hBi
  clear hBi
  have Qy : Hid (SliceQ (Under W3.heap.size) W3 (.slice va3 1 vc3) (hA [iY] 1).queues) := by rw [hW3]; exact ((q3.up (below_alloc _ _)).up (below_alloc _ _))
  rw [← hW3]
  clear hW3 x0 x1 x2 x3 
  obtain ⟨⟨i0, i1, i2, i3⟩, ⟨i4, i5, i6⟩, i7, i8⟩ := Bi.out.b7
  go_upto_region 5 with (fail)
  obtain ⟨W4, hW4⟩ : ∃ W4, W4 = (W3.alloc (.cells #[.int .i64 0, .string nA, .int .i64 0, .int .i64 1] 47)) := ⟨_, rfl⟩
  have HB4 : Hid (Below W3.heap.size W3 W4) := by rw [hW4]; exact ((Below.refl W3.heap.size W3).alloc (by have := (Below.refl W3.heap.size W3).size; first | omega | (simp; omega)) _)
  replace Bh : Hid (Blk W4 w1.heap.size [.slice va1 1 vc1, .int .i64 0]) := Bh.out.below HB4.out Bh.out.lt
  replace Bx : Hid (Blk W4 w2.heap.size [.slice va2 1 vc2, .int .i64 1]) := Bx.out.below HB4.out Bx.out.lt
  replace By : Hid (Blk W4 w3.heap.size [.slice va3 1 vc3, .int .i64 1]) := By.out.below HB4.out By.out.lt
  replace Bi : Hid (Blk W4 (w3.heap.size + 1) [.int .i64 0, .int .i64 1, .int .i64 0, .bool true, .int .i64 7, .slice pa3 0 pc3, .slice qa3 1 qc3]) := Bi.out.below HB4.out Bi.out.lt
  replace Qh : Hid (SliceQ (Under W4.heap.size) W4 (.slice va1 1 vc1) (hA [] 0).queues) := Qh.out.up HB4.out
  replace Qx : Hid (SliceQ (Under W4.heap.size) W4 (.slice va2 1 vc2) (hA [iX] 1).queues) := Qx.out.up HB4.out
  replace Qy : Hid (SliceQ (Under W4.heap.size) W4 (.slice va3 1 vc3) (hA [iY] 1).queues) := Qy.out.up HB4.out
  have hBt : Blk W4 W3.heap.size [.int .i64 0, .string nA, .int .i64 0, .int .i64 1] := by rw [hW4]; have := Blk.new W3 [.int .i64 0, .string nA, .int .i64 0, .int .i64 1] 47; simpa using this
  have Bt : Hid (Blk W4 W3.heap.size [.int .i64 0, .string nA, .int .i64 0, .int .i64 1]) := hBt
  clear hBt
  rw [← hW4]
  clear hW4 i0 i1 i2 i3 i4 i5 i6 i7 i8 
  obtain ⟨y0, y1, y2, y3⟩ := By.out.b2
  obtain ⟨t0, t1, t2, t3, t4⟩ := blk4 Bt.out
  go_upto_region 6 with (go_at_call 29; refine (a4 _ _ Qy.out).mono ?_; rintro e w5 ⟨va5, vc5, ea5, ec5, rfl, q5, hb5⟩)
  obtain ⟨W5, hW5⟩ : ∃ W5, W5 = (w5.alloc (.cells #[.slice va5 1 vc5, .int .i64 1] 43)) := ⟨_, rfl⟩
  have HB5 : Hid (Below W4.heap.size W4 W5) := by rw [hW5]; exact ((hb5).alloc (by have := (hb5).size; first | omega | (simp; omega)) _)
  replace Bh : Hid (Blk W5 w1.heap.size [.slice va1 1 vc1, .int .i64 0]) := Bh.out.below HB5.out Bh.out.lt
  replace Bx : Hid (Blk W5 w2.heap.size [.slice va2 1 vc2, .int .i64 1]) := Bx.out.below HB5.out Bx.out.lt
  replace By : Hid (Blk W5 w3.heap.size [.slice va3 1 vc3, .int .i64 1]) := By.out.below HB5.out By.out.lt
  replace Bi : Hid (Blk W5 (w3.heap.size + 1) [.int .i64 0, .int .i64 1, .int .i64 0, .bool true, .int .i64 7, .slice pa3 0 pc3, .slice qa3 1 qc3]) := Bi.out.below HB5.out Bi.out.lt
  replace Bt : Hid (Blk W5 W3.heap.size [.int .i64 0, .string nA, .int .i64 0, .int .i64 1]) := Bt.out.below HB5.out Bt.out.lt
  replace Qh : Hid (SliceQ (Under W5.heap.size) W5 (.slice va1 1 vc1) (hA [] 0).queues) := Qh.out.up HB5.out
  replace Qx : Hid (SliceQ (Under W5.heap.size) W5 (.slice va2 1 vc2) (hA [iX] 1).queues) := Qx.out.up HB5.out
  replace Qy : Hid (SliceQ (Under W5.heap.size) W5 (.slice va3 1 vc3) (hA [iY] 1).queues) := Qy.out.up HB5.out
  have hBz : Blk W5 w5.heap.size [.slice va5 1 vc5, .int .i64 1] := by rw [hW5]; have := Blk.new w5 [.slice va5 1 vc5, .int .i64 1] 43; simpa using this
  have Bz : Hid (Blk W5 w5.heap.size [.slice va5 1 vc5, .int .i64 1]) := hBz
  clear hBz
  have Qz : Hid (SliceQ (Under W5.heap.size) W5 (.slice va5 1 vc5) (hA [] 1).queues) := by rw [hW5]; exact (q5.up (below_alloc _ _))
  rw [← hW5]
  clear hW5 y0 y1 y2 y3 t0 t1 t2 t3 t4 
  obtain ⟨y0, y1, y2, y3⟩ := By.out.b2
  obtain ⟨t0, t1, t2, t3, t4⟩ := blk4 Bt.out
  go_upto_region 7 with (go_at_call 31; refine (a5 _ _ Qy.out).mono ?_; rintro e w6 ⟨va6, vc6, ea6, ec6, rfl, q6, hb6⟩)
  obtain ⟨W6, hW6⟩ : ∃ W6, W6 = (w6.alloc (.cells #[.slice va6 1 vc6, .int .i64 1] 43)) := ⟨_, rfl⟩
  have HB6 : Hid (Below W5.heap.size W5 W6) := by rw [hW6]; exact ((hb6).alloc (by have := (hb6).size; first | omega | (simp; omega)) _)
  replace Bh : Hid (Blk W6 w1.heap.size [.slice va1 1 vc1, .int .i64 0]) := Bh.out.below HB6.out Bh.out.lt
  replace Bx : Hid (Blk W6 w2.heap.size [.slice va2 1 vc2, .int .i64 1]) := Bx.out.below HB6.out Bx.out.lt
  replace By : Hid (Blk W6 w3.heap.size [.slice va3 1 vc3, .int .i64 1]) := By.out.below HB6.out By.out.lt
  replace Bi : Hid (Blk W6 (w3.heap.size + 1) [.int .i64 0, .int .i64 1, .int .i64 0, .bool true, .int .i64 7, .slice pa3 0 pc3, .slice qa3 1 qc3]) := Bi.out.below HB6.out Bi.out.lt
  replace Bt : Hid (Blk W6 W3.heap.size [.int .i64 0, .string nA, .int .i64 0, .int .i64 1]) := Bt.out.below HB6.out Bt.out.lt
  replace Bz : Hid (Blk W6 w5.heap.size [.slice va5 1 vc5, .int .i64 1]) := Bz.out.below HB6.out Bz.out.lt
  replace Qh : Hid (SliceQ (Under W6.heap.size) W6 (.slice va1 1 vc1) (hA [] 0).queues) := Qh.out.up HB6.out
  replace Qx : Hid (SliceQ (Under W6.heap.size) W6 (.slice va2 1 vc2) (hA [iX] 1).queues) := Qx.out.up HB6.out
  replace Qy : Hid (SliceQ (Under W6.heap.size) W6 (.slice va3 1 vc3) (hA [iY] 1).queues) := Qy.out.up HB6.out
  replace Qz : Hid (SliceQ (Under W6.heap.size) W6 (.slice va5 1 vc5) (hA [] 1).queues) := Qz.out.up HB6.out
  have hBb : Blk W6 w6.heap.size [.slice va6 1 vc6, .int .i64 1] := by rw [hW6]; have := Blk.new w6 [.slice va6 1 vc6, .int .i64 1] 43; simpa using this
  have Bb : Hid (Blk W6 w6.heap.size [.slice va6 1 vc6, .int .i64 1]) := hBb
  clear hBb
  have Qb : Hid (SliceQ (Under W6.heap.size) W6 (.slice va6 1 vc6) (hA [iB] 1).queues) := by rw [hW6]; exact (q6.up (below_alloc _ _))
  rw [← hW6]
  clear hW6 y0 y1 y2 y3 t0 t1 t2 t3 t4 
  obtain ⟨y0, y1, y2, y3⟩ := By.out.b2
  go_upto_region 8 with (go_at_call 35; refine (a6 _ _ Qy.out).mono ?_; rintro e w7 ⟨va7, vc7, ea7, ec7, rfl, q7, hb7⟩)
  obtain ⟨W7, hW7⟩ : ∃ W7, W7 = (w7.alloc (.cells #[.slice va7 1 vc7, .int .i64 1] 43)) := ⟨_, rfl⟩
  have HB7 : Hid (Below W6.heap.size W6 W7) := by rw [hW7]; exact ((hb7).alloc (by have := (hb7).size; first | omega | (simp; omega)) _)
  replace Bh : Hid (Blk W7 w1.heap.size [.slice va1 1 vc1, .int .i64 0]) := Bh.out.below HB7.out Bh.out.lt
  replace Bx : Hid (Blk W7 w2.heap.size [.slice va2 1 vc2, .int .i64 1]) := Bx.out.below HB7.out Bx.out.lt
  replace By : Hid (Blk W7 w3.heap.size [.slice va3 1 vc3, .int .i64 1]) := By.out.below HB7.out By.out.lt
  replace Bi : Hid (Blk W7 (w3.heap.size + 1) [.int .i64 0, .int .i64 1, .int .i64 0, .bool true, .int .i64 7, .slice pa3 0 pc3, .slice qa3 1 qc3]) := Bi.out.below HB7.out Bi.out.lt
  replace Bt : Hid (Blk W7 W3.heap.size [.int .i64 0, .string nA, .int .i64 0, .int .i64 1]) := Bt.out.below HB7.out Bt.out.lt
  replace Bz : Hid (Blk W7 w5.heap.size [.slice va5 1 vc5, .int .i64 1]) := Bz.out.below HB7.out Bz.out.lt
  replace Bb : Hid (Blk W7 w6.heap.size [.slice va6 1 vc6, .int .i64 1]) := Bb.out.below HB7.out Bb.out.lt
  replace Qh : Hid (SliceQ (Under W7.heap.size) W7 (.slice va1 1 vc1) (hA [] 0).queues) := Qh.out.up HB7.out
  replace Qx : Hid (SliceQ (Under W7.heap.size) W7 (.slice va2 1 vc2) (hA [iX] 1).queues) := Qx.out.up HB7.out
  replace Qy : Hid (SliceQ (Under W7.heap.size) W7 (.slice va3 1 vc3) (hA [iY] 1).queues) := Qy.out.up HB7.out
  replace Qz : Hid (SliceQ (Under W7.heap.size) W7 (.slice va5 1 vc5) (hA [] 1).queues) := Qz.out.up HB7.out
  replace Qb : Hid (SliceQ (Under W7.heap.size) W7 (.slice va6 1 vc6) (hA [iB] 1).queues) := Qb.out.up HB7.out
  have hBl : Blk W7 w7.heap.size [.slice va7 1 vc7, .int .i64 1] := by rw [hW7]; have := Blk.new w7 [.slice va7 1 vc7, .int .i64 1] 43; simpa using this
  have Bl : Hid (Blk W7 w7.heap.size [.slice va7 1 vc7, .int .i64 1]) := hBl
  clear hBl
  have Ql : Hid (SliceQ (Under W7.heap.size) W7 (.slice va7 1 vc7) (hA [iB] 1).queues) := by rw [hW7]; exact (q7.up (below_alloc _ _))
  rw [← hW7]
  clear hW7 y0 y1 y2 y3 
  obtain ⟨x0, x1, x2, x3⟩ := Bx.out.b2
  go_upto_region 9 with (go_at_call 25; refine (a7 _ _ Qx.out).mono ?_; rintro e w8 ⟨va8, vc8, ea8, ec8, rfl, q8, hb8⟩)
  obtain ⟨W8, hW8⟩ : ∃ W8, W8 = (w8.alloc (.cells #[.slice va8 0 vc8, .int .i64 1] 43)) := ⟨_, rfl⟩
  have HB8 : Hid (Below W7.heap.size W7 W8) := by rw [hW8]; exact ((hb8).alloc (by have := (hb8).size; first | omega | (simp; omega)) _)
  replace Bh : Hid (Blk W8 w1.heap.size [.slice va1 1 vc1, .int .i64 0]) := Bh.out.below HB8.out Bh.out.lt
  replace Bx : Hid (Blk W8 w2.heap.size [.slice va2 1 vc2, .int .i64 1]) := Bx.out.below HB8.out Bx.out.lt
  replace By : Hid (Blk W8 w3.heap.size [.slice va3 1 vc3, .int .i64 1]) := By.out.below HB8.out By.out.lt
  replace Bi : Hid (Blk W8 (w3.heap.size + 1) [.int .i64 0, .int .i64 1, .int .i64 0, .bool true, .int .i64 7, .slice pa3 0 pc3, .slice qa3 1 qc3]) := Bi.out.below HB8.out Bi.out.lt
  replace Bt : Hid (Blk W8 W3.heap.size [.int .i64 0, .string nA, .int .i64 0, .int .i64 1]) := Bt.out.below HB8.out Bt.out.lt
  replace Bz : Hid (Blk W8 w5.heap.size [.slice va5 1 vc5, .int .i64 1]) := Bz.out.below HB8.out Bz.out.lt
  replace Bb : Hid (Blk W8 w6.heap.size [.slice va6 1 vc6, .int .i64 1]) := Bb.out.below HB8.out Bb.out.lt
  replace Bl : Hid (Blk W8 w7.heap.size [.slice va7 1 vc7, .int .i64 1]) := Bl.out.below HB8.out Bl.out.lt
  replace Qh : Hid (SliceQ (Under W8.heap.size) W8 (.slice va1 1 vc1) (hA [] 0).queues) := Qh.out.up HB8.out
  replace Qx : Hid (SliceQ (Under W8.heap.size) W8 (.slice va2 1 vc2) (hA [iX] 1).queues) := Qx.out.up HB8.out
  replace Qy : Hid (SliceQ (Under W8.heap.size) W8 (.slice va3 1 vc3) (hA [iY] 1).queues) := Qy.out.up HB8.out
  replace Qz : Hid (SliceQ (Under W8.heap.size) W8 (.slice va5 1 vc5) (hA [] 1).queues) := Qz.out.up HB8.out
  replace Qb : Hid (SliceQ (Under W8.heap.size) W8 (.slice va6 1 vc6) (hA [iB] 1).queues) := Qb.out.up HB8.out
  replace Ql : Hid (SliceQ (Under W8.heap.size) W8 (.slice va7 1 vc7) (hA [iB] 1).queues) := Ql.out.up HB8.out
  have hBd : Blk W8 w8.heap.size [.slice va8 0 vc8, .int .i64 1] := by rw [hW8]; have := Blk.new w8 [.slice va8 0 vc8, .int .i64 1] 43; simpa using this
  have Bd : Hid (Blk W8 w8.heap.size [.slice va8 0 vc8, .int .i64 1]) := hBd
  clear hBd
  rw [← hW8]
  clear hW8 x0 x1 x2 x3 
  obtain ⟨x0, x1, x2, x3⟩ := Bx.out.b2
  go_upto_region 10 with (go_at_call 33; refine (a8 _ _ Qx.out).mono ?_; rintro e w9 ⟨va9, vc9, ea9, ec9, rfl, q9, hb9⟩)
  obtain ⟨W9, hW9⟩ : ∃ W9, W9 = (w9.alloc (.cells #[.slice va9 1 vc9, .int .i64 1] 43)) := ⟨_, rfl⟩
  have HB9 : Hid (Below W8.heap.size W8 W9) := by rw [hW9]; exact ((hb9).alloc (by have := (hb9).size; first | omega | (simp; omega)) _)
  replace Bh : Hid (Blk W9 w1.heap.size [.slice va1 1 vc1, .int .i64 0]) := Bh.out.below HB9.out Bh.out.lt
  replace Bx : Hid (Blk W9 w2.heap.size [.slice va2 1 vc2, .int .i64 1]) := Bx.out.below HB9.out Bx.out.lt
  replace By : Hid (Blk W9 w3.heap.size [.slice va3 1 vc3, .int .i64 1]) := By.out.below HB9.out By.out.lt
  replace Bi : Hid (Blk W9 (w3.heap.size + 1) [.int .i64 0, .int .i64 1, .int .i64 0, .bool true, .int .i64 7, .slice pa3 0 pc3, .slice qa3 1 qc3]) := Bi.out.below HB9.out Bi.out.lt
  replace Bt : Hid (Blk W9 W3.heap.size [.int .i64 0, .string nA, .int .i64 0, .int .i64 1]) := Bt.out.below HB9.out Bt.out.lt
  replace Bz : Hid (Blk W9 w5.heap.size [.slice va5 1 vc5, .int .i64 1]) := Bz.out.below HB9.out Bz.out.lt
  replace Bb : Hid (Blk W9 w6.heap.size [.slice va6 1 vc6, .int .i64 1]) := Bb.out.below HB9.out Bb.out.lt
  replace Bl : Hid (Blk W9 w7.heap.size [.slice va7 1 vc7, .int .i64 1]) := Bl.out.below HB9.out Bl.out.lt
  replace Bd : Hid (Blk W9 w8.heap.size [.slice va8 0 vc8, .int .i64 1]) := Bd.out.below HB9.out Bd.out.lt
  replace Qh : Hid (SliceQ (Under W9.heap.size) W9 (.slice va1 1 vc1) (hA [] 0).queues) := Qh.out.up HB9.out
  replace Qx : Hid (SliceQ (Under W9.heap.size) W9 (.slice va2 1 vc2) (hA [iX] 1).queues) := Qx.out.up HB9.out
  replace Qy : Hid (SliceQ (Under W9.heap.size) W9 (.slice va3 1 vc3) (hA [iY] 1).queues) := Qy.out.up HB9.out
  replace Qz : Hid (SliceQ (Under W9.heap.size) W9 (.slice va5 1 vc5) (hA [] 1).queues) := Qz.out.up HB9.out
  replace Qb : Hid (SliceQ (Under W9.heap.size) W9 (.slice va6 1 vc6) (hA [iB] 1).queues) := Qb.out.up HB9.out
  replace Ql : Hid (SliceQ (Under W9.heap.size) W9 (.slice va7 1 vc7) (hA [iB] 1).queues) := Ql.out.up HB9.out
  have hBp : Blk W9 w9.heap.size [.slice va9 1 vc9, .int .i64 1] := by rw [hW9]; have := Blk.new w9 [.slice va9 1 vc9, .int .i64 1] 43; simpa using this
  have Bp : Hid (Blk W9 w9.heap.size [.slice va9 1 vc9, .int .i64 1]) := hBp
  clear hBp
  have Qp : Hid (SliceQ (Under W9.heap.size) W9 (.slice va9 1 vc9) (hA [] 1).queues) := by rw [hW9]; exact (q9.up (below_alloc _ _))
  rw [← hW9]
  clear hW9 x0 x1 x2 x3 
  obtain ⟨h0, h1, h2, h3⟩ := Bh.out.b2
  obtain ⟨x0, x1, x2, x3⟩ := Bx.out.b2
  obtain ⟨y0, y1, y2, y3⟩ := By.out.b2
  obtain ⟨z0, z1, z2, z3⟩ := Bz.out.b2
  obtain ⟨b0, b1, b2, b3⟩ := Bb.out.b2
  obtain ⟨l0, l1, l2, l3⟩ := Bl.out.b2
  obtain ⟨d0, d1, d2, d3⟩ := Bd.out.b2
  obtain ⟨p0, p1, p2, p3⟩ := Bp.out.b2
  obtain ⟨rz, oz, iaz, icz, ez, sz, Iz, -, -, cz⟩ := Qz.out.at 0 (by simp [hA])
  subst ez
  simp only [Nat.zero_mul, Nat.add_zero] at cz
  have cz' : W9.cell? ⟨rz, oz + 2, none⟩ = some (.slice iaz 0 icz) := cz
  clear cz
  have sz' : rz < W9.heap.size := sz
  clear Iz sz
  obtain ⟨rb, ob, iab, icb, eb, sb, Ib, -, -, cb⟩ := Qb.out.at 0 (by simp [hA])
  subst eb
  simp only [Nat.zero_mul, Nat.add_zero] at cb
  have cb' : W9.cell? ⟨rb, ob + 2, none⟩ = some (.slice iab 1 icb) := cb
  clear cb
  obtain ⟨tb, ub, -, -, -, -, fb, gb, -, ⟨-, -, kb, -⟩, -⟩ := iAt Ib
  subst fb
  have sb' : rb < W9.heap.size := sb
  clear Ib sb
  obtain ⟨rl, ol, ial, icl, el, sl, Il, -, -, cl⟩ := Ql.out.at 0 (by simp [hA])
  subst el
  simp only [Nat.zero_mul, Nat.add_zero] at cl
  have cl' : W9.cell? ⟨rl, ol + 2, none⟩ = some (.slice ial 1 icl) := cl
  clear cl
  obtain ⟨tl, ul, -, -, -, -, fl, gl, -, ⟨-, -, kl, -⟩, -⟩ := iAt Il
  subst fl
  have sl' : rl < W9.heap.size := sl
  clear Il sl
  obtain ⟨rp, op, iap, icp, ep, sp, Ip, -, -, cp⟩ := Qp.out.at 0 (by simp [hA])
  subst ep
  simp only [Nat.zero_mul, Nat.add_zero] at cp
  have cp' : W9.cell? ⟨rp, op + 2, none⟩ = some (.slice iap 0 icp) := cp
  clear cp
  have sp' : rp < W9.heap.size := sp
  clear Ip sp
  have hfl := run_field0
  go_wp2_with (first
    | (go_at_call 16; refine (a9 _ _ Qh.out).mono ?_; rintro e w10 ⟨rfl, hb10⟩; have C10 : Hid (Below W9.heap.size W9 w10) := hb10; clear h0 h1 h2 x0 x1 x2 y0 y1 y2 z0 z1 z2 b0 b1 b2 l0 l1 l2 d0 d1 d2 p0 p1 p2; obtain ⟨y0, y1, y2, y3⟩ := (By.out.below hb10 By.out.lt).b2; clear hb10)
    | (go_at_call 18; refine (a10 _ _ (Qy.out.up C10.out)).mono ?_; rintro e w11 ⟨va11, vc11, rfl, q11, hb11⟩; have C11 : Hid (Below W9.heap.size W9 w11) := C10.out.trans (hb11.mono C10.out.size); obtain ⟨rb, ro, ia, ic, er, sr, ir, -, -, cr⟩ := q11.at 0 (by simp); subst er; simp only [Nat.zero_mul, Nat.add_zero] at cr; have cr' : w11.cell? ⟨rb, ro + 2, none⟩ = some (.slice ia 1 ic) := cr; obtain ⟨tq, uq, -, -, -, -, fq, gq, -, ⟨-, kq, -, -⟩, -⟩ := iAt ir; subst fq; clear cr ir; obtain ⟨x0, x1, x2, x3⟩ := (Bx.out.below C11.out Bx.out.lt).b2; clear hb11)
    | (go_at_call 15; refine (a11 _ _ (Qx.out.up C11.out)).mono ?_; rintro e w12 ⟨va12, vc12, rfl, hb12⟩; have C12 : Hid (Below W9.heap.size W9 w12) := C11.out.trans (hb12.mono C11.out.size); clear hb12))
  go_ret
  exact ⟨rfl, HB1.out.trans ((HB2.out.trans ((HB3.out.trans ((HB4.out.trans ((HB5.out.trans ((HB6.out.trans ((HB7.out.trans ((HB8.out.trans ((HB9.out.trans ((C12.out).mono HB9.out.size)).mono HB8.out.size)).mono HB7.out.size)).mono HB6.out.size)).mono HB5.out.size)).mono HB4.out.size)).mono HB3.out.size)).mono HB2.out.size)).mono HB1.out.size)⟩
end Go.Proofs.Ythdaccmjipomdab
