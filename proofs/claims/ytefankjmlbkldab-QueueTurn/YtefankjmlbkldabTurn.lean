/-
  tglaw3.QueueTurn answers true.
-/
import Derived.Test.YtefankjmlbkldabTurnCalls
import Derived.Test.YtefankjmlbkldabRight
namespace Go.Proofs.Ytefankjmlbkldab
open Go.RowKit
set_option linter.unusedVariables false
set_option linter.unusedSimpArgs false

attribute [local go_sem ↓] Go.wp_at_zero Go.wp_at_succ

set_option maxRecDepth 100000 in
set_option maxHeartbeats 3200000 in
theorem turn_out (v : Value) (name : ByteArray) (limit now : Int) (its : List IT) (w : World) (hv : SliceI (Under w.heap.size) w v its) (hnow : now < 0 ∨ 1000 < now) :
    Calls Try.prog 4 #[.agg #[.string name, .int .i64 limit, v], .int .i64 now] w fun e w' => e = .returned (.bool true) ∧ Below w.heap.size w w' := by
  obtain ⟨va, vc, rfl⟩ := hv.shp
  clear hv
  rcases hnow with h | h
  · go_enter Try.func4, Try.ntmps4
    go_wp2_with (go_at_call 5; refine (alive_any _).mono ?_; rintro e w1 ⟨rfl, hb1⟩; have HB1 : Hid (Below w.heap.size w w1) := (below_alloc _ _).trans (hb1.mono (by simp)); have hk1 := (Blk.new w _ 25).below hb1 (by simp); have HK1 : Hid (Blk w1 w.heap.size [.string name, .int .i64 limit, .slice va its.length vc]) := hk1; obtain ⟨a0, a1, a2, a3, a4⟩ := hk1.b3; clear hb1 hk1)
    go_ret
    exact ⟨rfl, HB1.out⟩
  · have h0 : ¬ now < 0 := by omega
    go_enter Try.func4, Try.ntmps4
    go_wp2_with (go_at_call 5; refine (alive_any _).mono ?_; rintro e w1 ⟨rfl, hb1⟩; have HB1 : Hid (Below w.heap.size w w1) := (below_alloc _ _).trans (hb1.mono (by simp)); have hk1 := (Blk.new w _ 25).below hb1 (by simp); have HK1 : Hid (Blk w1 w.heap.size [.string name, .int .i64 limit, .slice va its.length vc]) := hk1; obtain ⟨a0, a1, a2, a3, a4⟩ := hk1.b3; clear hb1 hk1)
    go_ret
    exact ⟨rfl, HB1.out⟩

set_option maxRecDepth 100000 in
set_option maxHeartbeats 6400000 in
theorem turn_in (v : Value) (name : ByteArray) (limit now : Int) (its : List IT) (w : World) (hv : SliceI (Under w.heap.size) w v its) (hname : name.size ≤ maxLen) (hfit : ∀ i ∈ its, i.note.fits) (hn0 : ¬ now < 0) (hn1 : ¬ 1000 < now) :
    Calls Try.prog 4 #[.agg #[.string name, .int .i64 limit, v], .int .i64 now] w fun e w' => e = .returned (.bool true) ∧ Below w.heap.size w w' := by
  have HV : Hid (SliceI (Under w.heap.size) w v its) := hv
  have HF : Hid (∀ i ∈ its, i.note.fits) := hfit
  obtain ⟨va, vc, rfl, h1, h2⟩ := hv.shape'
  unfold maxLen at h2
  clear hv hfit
  go_enter Try.func4, Try.ntmps4
  go_wp2_with (first
    | (go_at_call 5; refine (alive_any _).mono ?_; rintro e w1 ⟨rfl, hb1⟩; have HB1 : Hid (Below w.heap.size w w1) := (below_alloc _ _).trans (hb1.mono (by simp)); have hk1 := (Blk.new w _ 25).below hb1 (by simp); have HK1 : Hid (Blk w1 w.heap.size [.string name, .int .i64 limit, .slice va its.length vc]) := hk1; obtain ⟨a0, a1, a2, a3, a4⟩ := hk1.b3; clear hb1 hk1)
    | (go_at_call 9; refine (right_any w1.heap.size name limit _ its _ (Blk.new w1 _ 25) ((HV.out.up HB1.out).up (below_alloc _ _)) hname HF.out).mono ?_; rintro e w2 ⟨rb, rfl, hP, hb2⟩; have HP : Hid (rb = true → RightI its) := hP; have HB12 : Hid (Below w1.heap.size w1 w2) := (below_alloc _ _).trans (hb2.mono (by simp)); have HB2 : Hid (Below w.heap.size w w2) := HB1.out.trans (HB12.out.mono HB1.out.size); have hk2 := HK1.out.below HB12.out a4; have HK2 : Hid (Blk w2 w.heap.size [.string name, .int .i64 limit, .slice va its.length vc]) := hk2; obtain ⟨b0, b1, b2, b3, b4⟩ := hk2.b3; clear hP hb2 hk2 a0 a1 a2 a3; cases rb))
  · go_ret
    exact ⟨rfl, HB2.out⟩
  have hR : Hid (RightI its) := HP.out (by simp)
  have hz2 := HB2.out.size
  have hlen8 : its.length ≤ 8 := hR.out.1
  clear HP
  go_loopw [39] (fun i wr => ∃ k : Nat, k ≤ its.length ∧ i = .int .i64 k ∧ (∀ x ∈ its.take k, x.turn ≤ 900) ∧ Below w2.heap.size w2 wr)
    (fun i _ => its.length - (intOf i).toNat)
  case atStart => exact ⟨0, Nat.zero_le _, rfl, by simp, Below.refl _ _⟩
  case round =>
    obtain ⟨k, hk, rfl, hlow, hbr⟩ := hrel
    have HLOW : Hid (∀ x ∈ its.take k, x.turn ≤ 900) := hlow
    clear hlow
    have hzr := hbr.size
    have HBR : Hid (∀ W, Below wr.heap.size wr W → Below w.heap.size w W) := fun W hW => HB2.out.trans ((hbr.trans (hW.mono hzr)).mono hz2)
    by_cases hlt : k < its.length
    · obtain ⟨b, off, pa, pc, qa, qc, rfl, hS, hn, ⟨c0, c1, c2, c3⟩, c4, c5, c6⟩ := ((HV.out.up HB2.out).up hbr).at' k hlt
      clear hn
      by_cases d1 : 900 < its[k].turn
      · go_wp2
        go_ret
        exact ⟨rfl, HBR.out _ (below_alloc _ _)⟩
      · go_wp2
        go_roundw
        case rel =>
          refine ⟨k + 1, by omega, by go_num, fun x hx => ?_, hbr.trans ((below_alloc _ _).mono hzr)⟩
          rw [List.take_succ_eq_append_getElem hlt, List.mem_append, List.mem_singleton] at hx
          rcases hx with hx | rfl
          · exact HLOW.out x hx
          · omega
        case measure => simp [intOf]; omega
    · obtain rfl : k = its.length := by omega
      have HLOW' : Hid (∀ x ∈ its, x.turn ≤ 900) := by
        have h := HLOW.out
        rw [List.take_of_length_le (Nat.le_refl _)] at h
        exact h
      have hsm : Hid (smallI its) := ⟨by omega, fun i hi => (hR.out.2.1 i hi).1⟩
      have HV3 : Hid (SliceI (Under wr.heap.size) wr (.slice va its.length vc) its) := (HV.out.up HB2.out).up hbr
      have HK3 : Hid (Blk wr w.heap.size [.string name, .int .i64 limit, .slice va its.length vc]) := HK2.out.below hbr b4
      obtain ⟨q0, q1, q2, q3, q4⟩ := HK3.out.b3
      clear b0 b1 b2 b3 HLOW hlt
      rcases idxI_cases isInB its with hno | ⟨i, hil, hix, hin, hbf⟩
      · go_wp2_with (go_at_call 7; refine (take_none _ _ _ _ its _ HV3.out hno).mono ?_; rintro e w3 ⟨rfl, hb3⟩)
        go_ret
        exact ⟨rfl, (((HBR.out _ hb3).alloc (HBR.out _ hb3).size _).alloc (by simp; have := (HBR.out _ hb3).size; omega) _)⟩
      · obtain ⟨it, hit⟩ : ∃ it, its[i] = it := ⟨_, rfl⟩
        have hmem : it ∈ its := by rw [← hit]; exact List.getElem_mem hil
        have hri := hR.out.2.1 it hmem
        have hlo := HLOW'.out it hmem
        have hOK : Hid (TurnOk its i it) := ⟨hil, hit, hsm.out, hR.out.2.2, ⟨⟨hri.2.1.1, by have := hri.2.1.2; omega⟩, hri.2.2.1.1, by have := hri.2.2.1.2; omega⟩, ⟨hlo, hri.2.2.1.2⟩, by rw [← hit]; simpa [isInB] using hin, hbf⟩
        have hf0 := hri.2.1.1
        have ny : Hid True := trivial
        have nz : Hid True := trivial
        have nw : Hid True := trivial
        clear hit hmem hri hin hbf hix HLOW'
        by_cases hdd : it.tries + 1 < 3
        · go_wp2_with (first
            | (go_at_call 7; clear ny; refine (turn_take hOK.out ⟨by omega, by omega⟩ HV3.out).mono ?_; rintro e w3 ⟨va3, vc3, pa3, pn3, pc3, qa3, qn3, qc3, rfl, hs3, hb3⟩; have HS3 : Hid (SliceI (Under w3.heap.size) w3 (.slice va3 its.length vc3) (its.set i (tk1 now it))) := hs3; have C3 : Hid (Below wr.heap.size wr w3) := hb3; have KQ3 : Hid (Blk w3 w.heap.size [.string name, .int .i64 limit, .slice va its.length vc]) := HK3.out.below hb3 q4; clear hs3 hb3 q0 q1 q2 q3)
            | (go_at_call 8; refine (turn_back hOK.out ((HS3.out.up (below_alloc _ _)).up (below_alloc _ _)) hdd).mono ?_; rintro e w4 ⟨va4, vc4, rfl, hs4, hb4⟩; have HS4 : Hid (SliceI (Under w4.heap.size) w4 (.slice va4 its.length vc4) (its.set i (bk1 now it))) := hs4; have C4 : Hid (Below w3.heap.size w3 w4) := ((below_alloc _ _).alloc (by simp) _).trans (hb4.mono (by simp; omega)); have ki4 := (Blk.new (w3.alloc _) _ 34).below hb4 (by simp <;> omega); simp only [World.size_alloc] at ki4; have KI4 : Hid (Blk w4 (w3.heap.size + 1) [.int .i64 it.id, .int .i64 (it.turn + 1), .int .i64 it.tries, .bool true, .int .i64 (now + 5), .slice pa3 pn3 pc3, .slice qa3 qn3 qc3]) := ki4; obtain ⟨i0, i1, i2, i3, i4, i5, i6, i7⟩ := ki4.c7; have KQ4 : Hid (Blk w4 w.heap.size [.string name, .int .i64 limit, .slice va its.length vc]) := KQ3.out.below C4.out KQ3.out.lt; clear hs4 hb4 ki4)
            | (go_at_call 10; clear nz; refine (turn_late hOK.out ((HS4.out.up (below_alloc _ _)).up (below_alloc _ _))).mono ?_; rintro e w5 ⟨rfl, hb5⟩; have C5 : Hid (Below w4.heap.size w4 w5) := ((below_alloc _ _).alloc (by simp) _).trans (hb5.mono (by simp; omega)); have ky5 := ((Blk.new w4 _ 25).alloc _).below hb5 (by simp <;> omega); obtain ⟨y0, y1, y2, y3, y4⟩ := ky5.b3; have KI5 : Hid (Blk w5 (w3.heap.size + 1) [.int .i64 it.id, .int .i64 (it.turn + 1), .int .i64 it.tries, .bool true, .int .i64 (now + 5), .slice pa3 pn3 pc3, .slice qa3 qn3 qc3]) := KI4.out.below C5.out KI4.out.lt; have KQ5 : Hid (Blk w5 w.heap.size [.string name, .int .i64 limit, .slice va its.length vc]) := KQ4.out.below C5.out KQ4.out.lt; have HS5 : Hid (SliceI (Under w5.heap.size) w5 (.slice va4 its.length vc4) (its.set i (bk1 now it))) := HS4.out.up C5.out; clear hb5 ky5 i0 i1 i2 i3 i4 i5 i6 i7)
            | (go_at_call 7; refine (turn_again hOK.out ⟨by omega, by omega⟩ (HS5.out.up (below_alloc _ _))).mono ?_; rintro e w6 ⟨va6, vc6, pa6, pn6, pc6, qa6, qn6, qc6, rfl, hs6, hb6⟩; have HS6 : Hid (SliceI (Under w6.heap.size) w6 (.slice va6 its.length vc6) (its.set i (tk2 now it))) := hs6; have C6 : Hid (Below w5.heap.size w5 w6) := (below_alloc _ _).trans (hb6.mono (by simp)); have KI6 : Hid (Blk w6 (w3.heap.size + 1) [.int .i64 it.id, .int .i64 (it.turn + 1), .int .i64 it.tries, .bool true, .int .i64 (now + 5), .slice pa3 pn3 pc3, .slice qa3 qn3 qc3]) := KI5.out.below C6.out KI5.out.lt; have KQ6 : Hid (Blk w6 w.heap.size [.string name, .int .i64 limit, .slice va its.length vc]) := KQ5.out.below C6.out KQ5.out.lt; obtain ⟨j0, j1, j2, j3, j4, j5, j6, j7⟩ := KI6.out.c7; clear hs6 hb6 y0 y1 y2 y3)
            | (go_at_call 10; clear nw; refine (turn_old hOK.out ((HS6.out.up (below_alloc _ _)).up (below_alloc _ _))).mono ?_; rintro e w7 ⟨rfl, hb7⟩; have C7 : Hid (Below w6.heap.size w6 w7) := ((below_alloc _ _).alloc (by simp) _).trans (hb7.mono (by simp; omega)); have kz7 := ((Blk.new w6 _ 25).alloc _).below hb7 (by simp <;> omega); have kj7 := (Blk.new (w6.alloc _) _ 34).below hb7 (by simp <;> omega); simp only [World.size_alloc] at kj7; obtain ⟨z0, z1, z2, z3, z4⟩ := kz7.b3; obtain ⟨⟨m0, m1, m2, m3⟩, ⟨m4, m5, m6⟩, m7, m8⟩ := kj7.b7; have KQ7 : Hid (Blk w7 w.heap.size [.string name, .int .i64 limit, .slice va its.length vc]) := KQ6.out.below C7.out KQ6.out.lt; have HS7 : Hid (SliceI (Under w7.heap.size) w7 (.slice va6 its.length vc6) (its.set i (tk2 now it))) := HS6.out.up C7.out; clear hb7 kz7 kj7 j0 j1 j2 j3 j4 j5 j6 j7)
            | (go_at_call 10; refine (turn_new hOK.out (HS7.out.up (below_alloc _ _))).mono ?_; rintro e w8 ⟨va8, vc8, m8', rfl, hm8, hb8⟩; have HM8 : Hid (its.length = m8' + 1) := hm8; have C8 : Hid (Below w7.heap.size w7 w8) := (below_alloc _ _).trans (hb8.mono (by simp)); obtain ⟨o0, o1, o2, o3, o4⟩ := (KQ7.out.below C8.out KQ7.out.lt).b3; clear hb8 hm8))
          go_ret
          have e8 := HM8.out
          have D3 := HBR.out _ C3.out
          have D4 := D3.trans (C4.out.mono D3.size)
          have D5 := D4.trans (C5.out.mono D4.size)
          have D6 := D5.trans (C6.out.mono D5.size)
          have D7 := D6.trans (C7.out.mono D6.size)
          have D8 := D7.trans (C8.out.mono D7.size)
          exact ⟨ret_bool (by rw [beq_iff_eq]; omega), D8.alloc D8.size _⟩
        · go_wp2_with (first
            | (go_at_call 7; clear ny; refine (turn_take hOK.out ⟨by omega, by omega⟩ HV3.out).mono ?_; rintro e w3 ⟨va3, vc3, pa3, pn3, pc3, qa3, qn3, qc3, rfl, hs3, hb3⟩; have HS3 : Hid (SliceI (Under w3.heap.size) w3 (.slice va3 its.length vc3) (its.set i (tk1 now it))) := hs3; have C3 : Hid (Below wr.heap.size wr w3) := hb3; have KQ3 : Hid (Blk w3 w.heap.size [.string name, .int .i64 limit, .slice va its.length vc]) := HK3.out.below hb3 q4; clear hs3 hb3 q0 q1 q2 q3)
            | (go_at_call 8; refine (turn_dead hOK.out ((HS3.out.up (below_alloc _ _)).up (below_alloc _ _)) (by omega)).mono ?_; rintro e w4 ⟨va4, vc4, m4', xa, xb, xc, xd, xf, pa4, pn4, pc4, qa4, qn4, qc4, rfl, hs4, hb4⟩; have HS4 : Hid (SliceI (Under w4.heap.size) w4 (.slice va4 m4' vc4) (its.eraseIdx i)) := hs4; have C4 : Hid (Below w3.heap.size w3 w4) := ((below_alloc _ _).alloc (by simp) _).trans (hb4.mono (by simp; omega)); have ki4 := (Blk.new (w3.alloc _) _ 34).below hb4 (by simp <;> omega); simp only [World.size_alloc] at ki4; obtain ⟨i0, i1, i2, i3, i4, i5, i6, i7⟩ := ki4.c7; clear hs4 hb4 ki4)
            | (go_at_call 10; refine (turn_gone hOK.out ((HS4.out.up (below_alloc _ _)).up (below_alloc _ _))).mono ?_; rintro e w5 ⟨rfl, hb5⟩; have C5 : Hid (Below w4.heap.size w4 w5) := ((below_alloc _ _).alloc (by simp) _).trans (hb5.mono (by simp; omega)); clear hb5))
          go_ret
          have D3 := HBR.out _ C3.out
          have D4 := D3.trans (C4.out.mono D3.size)
          have D5 := D4.trans (C5.out.mono D4.size)
          exact ⟨rfl, D5.alloc D5.size _⟩

theorem turn_any (v : Value) (name : ByteArray) (limit now : Int) (its : List IT) (w : World) (hv : SliceI (Under w.heap.size) w v its) (hname : name.size ≤ maxLen) (hfit : ∀ i ∈ its, i.note.fits) :
    Calls Try.prog 4 #[.agg #[.string name, .int .i64 limit, v], .int .i64 now] w fun e w' => e = .returned (.bool true) ∧ Below w.heap.size w w' := by
  by_cases h : now < 0 ∨ 1000 < now
  · exact turn_out v name limit now its w hv h
  · exact turn_in v name limit now its w hv hname hfit (by omega) (by omega)
end Go.Proofs.Ytefankjmlbkldab
