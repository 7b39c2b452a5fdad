/-
  tglaw3.alive answers true.
-/
import Derived.Test.YtefankjmlbkldabBack
import Derived.Test.YtefankjmlbkldabLate
import Derived.Test.YtefankjmlbkldabPut
import Derived.Lib.SmallJoins
namespace Go.Proofs.Ytefankjmlbkldab
open Go.RowKit
set_option linter.unusedVariables false
set_option linter.unusedSimpArgs false

attribute [local go_sem ↓] Go.wp_at_zero Go.wp_at_succ

def nd0 : ND := ⟨[], [120]⟩
def it0 : IT := newI 5 nd0
def it1 : IT := ⟨5, 1, 0, true, 8, nd0⟩
theorem nd0_small : nd0.small := by simp [ND.small, nd0]
theorem it0_small : smallI [it0] := ⟨by simp, by simp [it0, newI]; exact nd0_small⟩
theorem it1_small : smallI [it1] := ⟨by simp, by simp [it1]; exact nd0_small⟩
theorem it0_in : idxI isInB [it0] = 0 := by decide
theorem it0_take : takeI 3 it0 = it1 := rfl
theorem it1_given : idxI (givenB 5 1) [it1] = 0 := by decide
theorem it1_late : idxI (lateB 8) [it1] = 0 := by decide
theorem it0_fits : it0.fits := by simp [it0, newI, IT.fits]
theorem it1_fits : it1.fits := by simp [it1, IT.fits]

theorem SliceI.nil (S : Nat → Prop) (w : World) : SliceI S w (.slice none 0 0) [] := ⟨[], rfl, SliceV.nil _ _, by simp⟩

theorem SliceI.up {w w' : World} {v : Value} {its : List IT} (h : SliceI (Under w.heap.size) w v its) (hb : Below w.heap.size w w') : SliceI (Under w'.heap.size) w' v its :=
  h.sub fun k hk => ⟨Nat.lt_of_lt_of_le hk hb.size, hb.block k hk⟩
theorem NoteIs.up {w w' : World} {v : Value × Value} {n : ND} (h : NoteIs (Under w.heap.size) w v n) (hb : Below w.heap.size w w') : NoteIs (Under w'.heap.size) w' v n :=
  h.sub fun k hk => ⟨Nat.lt_of_lt_of_le hk hb.size, hb.block k hk⟩

theorem alive_note (w : World) (fr : Nat × Nat) : NoteIs (Under (w.alloc (.cells #[.int .u8 120] 5 fr)).heap.size) (w.alloc (.cells #[.int .u8 120] 5 fr)) (.slice none 0 0, .slice (some ⟨w.heap.size, 0, none⟩) 1 1) nd0 := by
  refine ⟨SliceV.nil _ _, ⟨_, _, rfl, Nat.le_refl _, by simp [maxLen], fun h => by simp at h, fun i hi => ⟨w.heap.size, 0, rfl, by simp [Under], ?_⟩⟩⟩
  have : i = 0 := by simpa [nd0, u8s] using hi
  subst this
  have := Joins.cell_alloc_mark_at w #[.int .u8 120] 5 fr w.heap.size 0 rfl
  simpa [nd0, u8s] using this

theorem run_field2 (n : ByteArray) (l : Int) (a : Option Addr) (k c : Nat) (w : World) : (Instr.field 25 (.agg #[.string n, .int .i64 l, .slice a k c]) 2).run Try.prog w = .ok (.slice a k c) w := by
  unfold Instr.field
  simp [go_sem, Sem.run_bind, asAgg]

theorem SliceV.shp {S : Nat → Prop} {w : World} {v : Value} {n : Nat} {xs : List Value} (h : SliceV S w v n xs) : ∃ a c, v = .slice a n c := by
  obtain ⟨a, c, e, -⟩ := h.shape
  exact ⟨a, c, e⟩

set_option maxRecDepth 100000 in
set_option maxHeartbeats 6400000 in
theorem alive_any (w : World) :
    Calls Try.prog 5 #[] w fun e w' => e = .returned (.bool true) ∧ Below w.heap.size w w' := by
  have kc := Joins.run_convert_bytes_const_at (P := Try.prog) w 29 5 #[.int .u8 120] 1 1 w.heap.size rfl Try.underlying29 Try.underlying5
  have hfl := run_field2
  go_enter Try.func5, Try.ntmps5
  have ny : Hid True := trivial
  go_wp2_with (first
    | (go_at_call 6; clear ny; refine (put_ok _ _ _ _ 1 5 [] nd0 _ (SliceI.nil _ _) ⟨by simp, by simp⟩ (alive_note _ _) nd0_small (by simp)).mono ?_; rintro e w1 ⟨v1, rfl, hs1, hb1⟩; obtain ⟨va1, vc1, e1⟩ := hs1.shp; have e1' : v1 = .slice va1 1 vc1 := e1; subst e1'; have C1 : Hid (Below w.heap.size w w1) := (below_alloc _ _).trans (hb1.mono (by simp)); have HS1 : Hid (SliceI (Under w1.heap.size) w1 (.slice va1 1 vc1) [it0]) := hs1; clear hs1 hb1 e1 kc)
    | (go_at_call 6; refine (put_full _ _ _ _ 1 6 [it0] _ (HS1.out.up (below_alloc _ _)) (by simp) ⟨_, _, _, rfl⟩ ⟨_, _, _, rfl⟩).mono ?_; rintro e w2 ⟨rfl, hb2⟩; have KA2 : Hid (Blk w2 w1.heap.size [.string ⟨#[97]⟩, .int .i64 1, .slice va1 1 vc1]) := (Blk.new w1 _ 25).below hb2 (by simp); obtain ⟨a20, a21, a22, a23, a24⟩ := KA2.out.b3; have C2 : Hid (Below w1.heap.size w1 w2) := (below_alloc _ _).trans (hb2.mono (by simp)); have HS2 : Hid (SliceI (Under w2.heap.size) w2 (.slice va1 1 vc1) [it0]) := HS1.out.up C2.out; clear hb2)
    | (go_at_call 7; refine (take_ok _ _ 1 3 (by omega) [it0] 0 (by simp) _ (HS2.out.up (below_alloc _ _)) it0_small it0_in it0_fits).mono ?_; rintro e w3 ⟨v3, ⟨q31, q32⟩, rfl, hs3, hn3, hb3⟩; obtain ⟨va3, vc3, e3⟩ := hs3.shp; have e3' : v3 = .slice va3 1 vc3 := e3; subst e3'; obtain ⟨xa3, xc3, f3⟩ := SliceV.shp hn3.1; obtain ⟨ya3, yc3, g3⟩ := SliceV.shp hn3.2; have f3' : q31 = .slice xa3 0 xc3 := f3; have g3' : q32 = .slice ya3 1 yc3 := g3; subst f3' g3'; have ev3 : (takeI 3 [it0][0]).val (.slice xa3 0 xc3, .slice ya3 1 yc3) = .agg #[.int .i64 5, .int .i64 1, .int .i64 0, .bool true, .int .i64 8, .slice xa3 0 xc3, .slice ya3 1 yc3] := rfl; rw [ev3]; have HS3 : Hid (SliceI (Under w3.heap.size) w3 (.slice va3 1 vc3) [it1]) := hs3; have C3 : Hid (Below w2.heap.size w2 w3) := (below_alloc _ _).trans (hb3.mono (by simp)); have KA3 : Hid (Blk w3 w1.heap.size [.string ⟨#[97]⟩, .int .i64 1, .slice va1 1 vc1]) := KA2.out.below C3.out a24; obtain ⟨a30, a31, a32, a33, a34⟩ := KA3.out.b3; clear hs3 hn3 hb3 e3 f3 g3 ev3 a20 a21 a22 a23)
    | (go_at_call 8; refine (back_wait _ _ 1 5 1 [it1] 0 (by simp) _ ((HS3.out.up (below_alloc _ _)).up (below_alloc _ _)) it1_small it1_given it1_fits (by decide)).mono ?_; rintro e w4 ⟨v4, rfl, hs4, hb4⟩; obtain ⟨va4, vc4, e4⟩ := hs4.shp; have e4' : v4 = .slice va4 1 vc4 := e4; subst e4'; obtain ⟨rb, ro, pa4, pc4, qa4, qc4, hra, hrS, -, ⟨-, -, r42, -⟩, -⟩ := hs4.at 0 (by simp); subst hra; have hR4 : Hid (rb < w4.heap.size ∧ w4.cell? ⟨rb, ro + 2, none⟩ = some (.int .i64 1)) := ⟨hrS, by rw [Nat.zero_mul, Nat.add_zero] at r42; exact r42⟩; have C4 : Hid (Below w3.heap.size w3 w4) := ((below_alloc _ _).alloc (by simp) _).trans (hb4.mono (by simp; omega)); have KA4 : Hid (Blk w4 w1.heap.size [.string ⟨#[97]⟩, .int .i64 1, .slice va1 1 vc1]) := KA3.out.below C4.out a34; have KT4 : Hid (Blk w4 w3.heap.size [.string ⟨#[97]⟩, .int .i64 1, .slice va3 1 vc3]) := ((Blk.new w3 _ 25).alloc _).below hb4 (by simp <;> omega); have ki4 := (Blk.new (w3.alloc _) _ 34).below hb4 (by simp <;> omega); simp only [World.size_alloc] at ki4; have KI4 : Hid (Blk w4 (w3.heap.size + 1) [.int .i64 5, .int .i64 1, .int .i64 0, .bool true, .int .i64 8, .slice xa3 0 xc3, .slice ya3 1 yc3]) := ki4; clear ki4; have HS4 : Hid (SliceI (Under w4.heap.size) w4 (.slice va3 1 vc3) [it1]) := HS3.out.up C4.out; obtain ⟨t40, t41, t42, t43⟩ := KT4.out.c3; clear hs4 hb4 e4 r42 hrS a30 a31 a32 a33)
    | (go_at_call 10; refine (done_ok _ _ 1 5 1 [it1] 0 (by simp) _ ((HS4.out.up (below_alloc _ _)).up (below_alloc _ _)) it1_small it1_given).mono ?_; rintro e w5 ⟨v5, rfl, hs5, hb5⟩; obtain ⟨va5, vc5, e5⟩ := hs5.shp; have e5' : v5 = .slice va5 0 vc5 := e5; subst e5'; have C5 : Hid (Below w4.heap.size w4 w5) := ((below_alloc _ _).alloc (by simp) _).trans (hb5.mono (by simp; omega)); have KB5 : Hid (Blk w5 w4.heap.size [.string ⟨#[97]⟩, .int .i64 1, .slice (some ⟨rb, ro, none⟩) 1 vc4]) := ((Blk.new w4 _ 25).alloc _).below hb5 (by simp <;> omega); have KT5 : Hid (Blk w5 w3.heap.size [.string ⟨#[97]⟩, .int .i64 1, .slice va3 1 vc3]) := KT4.out.below C5.out KT4.out.lt; have HS5 : Hid (SliceI (Under w5.heap.size) w5 (.slice va3 1 vc3) [it1]) := HS4.out.up C5.out; obtain ⟨t50, t51, t52, t53, t54⟩ := KT5.out.b3; clear hs5 hb5 e5 t40 t41 t42 t43)
    | (go_at_call 11; refine (late_ok _ _ 1 8 [it1] 0 (by simp) _ (HS5.out.up (below_alloc _ _)) it1_small it1_late).mono ?_; rintro e w6 ⟨⟨q61, q62⟩, rfl, hn6, hb6⟩; obtain ⟨xa6, xc6, f6⟩ := SliceV.shp hn6.1; obtain ⟨ya6, yc6, g6⟩ := SliceV.shp hn6.2; have f6' : q61 = .slice xa6 0 xc6 := f6; have g6' : q62 = .slice ya6 1 yc6 := g6; subst f6' g6'; have ev6 : ([it1][0]).val (.slice xa6 0 xc6, .slice ya6 1 yc6) = .agg #[.int .i64 5, .int .i64 1, .int .i64 0, .bool true, .int .i64 8, .slice xa6 0 xc6, .slice ya6 1 yc6] := rfl; rw [ev6]; have C6 : Hid (Below w5.heap.size w5 w6) := (below_alloc _ _).trans (hb6.mono (by simp)); have KD6 : Hid (Blk w6 w5.heap.size [.string ⟨#[97]⟩, .int .i64 1, .slice va5 0 vc5]) := (Blk.new w5 _ 25).below hb6 (by simp <;> omega); have KA6 : Hid (Blk w6 w1.heap.size [.string ⟨#[97]⟩, .int .i64 1, .slice va1 1 vc1]) := (KA4.out.below C5.out KA4.out.lt).below C6.out (KA4.out.below C5.out KA4.out.lt).lt; obtain ⟨a60, a61, a62, a63, a64⟩ := KA6.out.b3; have HS6 : Hid (SliceI (Under w6.heap.size) w6 (.slice va1 1 vc1) [it0]) := (((HS2.out.up C3.out).up C4.out).up C5.out).up C6.out; clear hn6 hb6 f6 g6 ev6 t50 t51 t52 t53)
    | (go_at_call 12; refine (purge_any _ _ 1 [it0] _ (HS6.out.up (below_alloc _ _)) it0_small).mono ?_; rintro e w7 ⟨v7, u7, rfl, hs7, hu7, hb7⟩; obtain ⟨va7, vc7, e7⟩ := hs7.shp; have e7' : v7 = .slice va7 0 vc7 := e7; subst e7'; obtain ⟨ua7, uc7, f7⟩ := SliceV.shp hu7; have f7' : u7 = .slice ua7 1 uc7 := f7; subst f7'; have C7 : Hid (Below w6.heap.size w6 w7) := (below_alloc _ _).trans (hb7.mono (by simp)); have KL7 : Hid (Blk w7 w6.heap.size [.int .i64 5, .int .i64 1, .int .i64 0, .bool true, .int .i64 8, .slice xa6 0 xc6, .slice ya6 1 yc6]) := (Blk.new w6 _ 34).below hb7 (by simp <;> omega); clear hs7 hu7 hb7 e7 f7 a60 a61 a62 a63; have KA7 : Hid (Blk w7 w1.heap.size [.string ⟨#[97]⟩, .int .i64 1, .slice va1 1 vc1]) := KA6.out.below C7.out KA6.out.lt; obtain ⟨a70, a71, a72, a73, a74⟩ := KA7.out.b3; have HS7 : Hid (SliceI (Under w7.heap.size) w7 (.slice va1 1 vc1) [it0]) := HS6.out.up C7.out; have D4 : Hid (Below w4.heap.size w4 w7) := C5.out.trans ((C6.out.trans (C7.out.mono C6.out.size)).mono C5.out.size); obtain ⟨⟨i70, i71, i72, i73⟩, ⟨i74, i75, i76⟩, i77, i78⟩ := (KI4.out.below D4.out KI4.out.lt).b7; obtain ⟨bb0, bb1, bb2, bb3, bb4⟩ := (KB5.out.below (C6.out.trans (C7.out.mono C6.out.size)) KB5.out.lt).b3; have rr7 : w7.cell? ⟨rb, ro + 2, none⟩ = some (.int .i64 1) := (D4.out.cell hR4.out.1).trans hR4.out.2; have rl7 : rb < w7.heap.size := Nat.lt_of_lt_of_le hR4.out.1 D4.out.size; obtain ⟨dd0, dd1, dd2, dd3, dd4⟩ := (KD6.out.below C7.out KD6.out.lt).b3; obtain ⟨⟨l70, l71, l72, l73⟩, ⟨l74, l75, l76⟩, l77, l78⟩ := KL7.out.b7)
    | (go_at_call 13; refine (own_any _ _ 1 [it0] _ (HS7.out.up (below_alloc _ _)) it0_small).mono ?_; rintro e w8 ⟨v8, rfl, ho8, hb8⟩; obtain ⟨va8, vc8, e8⟩ := ho8.slice.shp; have e8' : v8 = .slice va8 1 vc8 := e8; subst e8'; have C8 : Hid (Below w7.heap.size w7 w8) := (below_alloc _ _).trans (hb8.mono (by simp)); clear ho8 hb8 e8))
  go_ret
  refine ⟨ret_bool (by simp), ?_⟩
  exact C1.out.trans ((C2.out.trans ((C3.out.trans ((C4.out.trans ((C5.out.trans ((C6.out.trans ((C7.out.trans (C8.out.mono C7.out.size)).mono C6.out.size)).mono C5.out.size)).mono C4.out.size)).mono C3.out.size)).mono C2.out.size)).mono C1.out.size)
end Go.Proofs.Ytefankjmlbkldab
