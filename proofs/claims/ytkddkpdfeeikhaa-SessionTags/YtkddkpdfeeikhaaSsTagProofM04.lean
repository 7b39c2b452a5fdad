/-
  Done; Back: texts laid together.
-/
import Derived.Test.YtkddkpdfeeikhaaSsTagProofM03
/-
  queue.Done.
-/
namespace Go.Proofs.Ytkddkpdfeeikhaa
open Go.RowKit
set_option linter.unusedVariables false
set_option linter.unusedSimpArgs false

attribute [local go_sem ↓] Go.wp_at_zero Go.wp_at_succ

def givenB (id turn : Int) (i : IT) : Bool := i.out && (i.id == id) && (i.turn == turn)

theorem given_tells' (B : Nat) (w0 : World) (g h : Nat) (id turn : Int) (hg : Blk w0 g [.int .i64 id]) (hl : g < B) (hh : Blk w0 h [.int .i64 turn]) (hm : h < B) : Tells B w0 167 [.pointer (some ⟨g, 0, none⟩), .pointer (some ⟨h, 0, none⟩)] (givenB id turn) := given_tells B w0 g h id turn hg hl hh hm

set_option maxRecDepth 100000 in
set_option maxHeartbeats 3200000 in
theorem done_none (v : Value) (name : ByteArray) (limit id turn : Int) (its : List IT) (w : World) (hv : SliceI (Under w.heap.size) w v its) (hi : idxI (givenB id turn) its = -1) :
    Calls Try.prog 157 #[.agg #[.string name, .int .i64 limit, v], .int .i64 id, .int .i64 turn] w fun e w' => e = .returned (.tuple #[.agg #[.string ⟨#[]⟩, .int .i64 0, .slice none 0 0], .int .i64 6]) ∧ Below w.heap.size w w' := by
  have HV : Hid (SliceI (Under w.heap.size) w v its) := hv
  obtain ⟨va, vc, rfl⟩ := hv.shp
  clear hv
  have two : Hid (∀ o1 o2 : Obj, Below w.heap.size w ((w.alloc o1).alloc o2)) := fun o1 o2 => (below_alloc _ _).alloc (by simp) _
  have HI : Hid (idxI (givenB id turn) its = -1) := hi
  clear hi
  obtain ⟨W0, hW0⟩ : ∃ W0, W0 = (w.alloc (.cells #[.string name, .int .i64 limit, .slice va its.length vc] 76)).alloc (.cells #[.string ⟨#[]⟩, .int .i64 0, .slice none 0 0] 76) := ⟨_, rfl⟩
  have hz0 : W0.heap.size = w.heap.size + 2 := by rw [hW0]; simp
  have hb0 : Below w.heap.size w W0 := by rw [hW0]; exact two.out _ _
  have hk0 : Blk W0 w.heap.size [.string name, .int .i64 limit, .slice va its.length vc] := by rw [hW0]; exact (Blk.new _ _ _).alloc _
  have hk1 : Blk W0 (w.heap.size + 1) [.string ⟨#[]⟩, .int .i64 0, .slice none 0 0] := by
    rw [hW0]
    have := Blk.new (w.alloc (.cells #[.string name, .int .i64 limit, .slice va its.length vc] 76)) [.string ⟨#[]⟩, .int .i64 0, .slice none 0 0] 76
    simpa using this
  obtain ⟨a0, a1, a2, a3, a4⟩ := hk0.b3
  obtain ⟨b0, b1, b2, b3, b4⟩ := hk1.b3
  have HK0 : Hid (Blk W0 w.heap.size [.string name, .int .i64 limit, .slice va its.length vc]) := hk0
  have HK : Hid (Below w.heap.size w W0 ∧ Blk W0 (w.heap.size + 1) [.string ⟨#[]⟩, .int .i64 0, .slice none 0 0]) := ⟨hb0, hk1⟩
  clear hb0 hk0 hk1
  go_enter Try.func157, Try.ntmps157
  go_wp2_with fail
  rw [← hW0]
  clear hW0
  go_region_law (first
    | (go_simp; go_at_call 164; refine (givenAs_any id turn _).mono ?_; rintro e w1 ⟨rfl, hg1, hg2, hb1⟩; have hb1' : Below W0.heap.size W0 w1 := ⟨hb1.os, hb1.tape, hb1.output, hb1.size, hb1.block⟩; have hg1' : Blk w1 W0.heap.size [.int .i64 id] := hg1; have hg2' : Blk w1 (W0.heap.size + 1) [.int .i64 turn] := hg2; rw [hz0] at hg1' hg2'; have hz1 := hg2'.lt; obtain ⟨a0', a1', a2', a3', a4'⟩ := (HK0.out.below hb1' (by omega)).b3; clear hg1 hg2 hb1)
    | (go_simp; go_at_call 129; refine (indexI_any 167 [.pointer (some ⟨w.heap.size + 2, 0, none⟩), .pointer (some ⟨w.heap.size + 2 + 1, 0, none⟩)] (givenB id turn) _ its _ (HV.out.sub fun k hk => ⟨Nat.lt_of_lt_of_le hk (by omega), (hb1'.block k (Nat.lt_of_lt_of_le hk (by omega))).trans (HK.out.1.block k hk)⟩) (given_tells' _ _ _ _ id turn hg1' (by omega) hg2' hz1)).mono ?_; rw [HI.out]; rintro e w2 ⟨rfl, hb2⟩; have hb2' : Below W0.heap.size W0 w2 := hb1'.trans (hb2.mono hb1'.size); clear hb2))
  all_goals
    have hz2 := hb2'.size
    obtain ⟨c0, c1, c2, c3, c4⟩ := (HK.out.2.below hb2' (by omega)).b3
    clear b0 b1 b2 b3
    go_wp2
    refine bodyPost_ret (v := .tuple #[.agg #[.string ⟨#[]⟩, .int .i64 0, .slice none 0 0], .int .i64 6]) (by simp [results, Try.results157, go_sem, *]; done) rfl ⟨rfl, ?_⟩
    iterate 3 refine Below.setCell ?_ (by simp <;> omega) _
    exact HK.out.1.trans (hb2'.mono (by omega))

set_option maxRecDepth 100000 in
set_option maxHeartbeats 3200000 in
theorem done_new (v : Value) (name : ByteArray) (limit id turn : Int) (its : List IT) (i : Nat) (hil : i < its.length) (w : World) (hv : SliceI (Under w.heap.size) w v its) (hs : smallI its) (hi : idxI (givenB id turn) its = i) :
    Calls Try.prog 157 #[.agg #[.string name, .int .i64 limit, v], .int .i64 id, .int .i64 turn] w fun e w' => ∃ v', e = .returned (.tuple #[.agg #[.string name, .int .i64 limit, v'], .int .i64 0]) ∧ SliceI (Made w.heap.size w'.heap.size) w' v' (its.eraseIdx i) ∧ Below w.heap.size w w' := by
  have HV : Hid (SliceI (Under w.heap.size) w v its) := hv
  have HS : Hid (smallI its) := hs
  have hlen := hs.1
  obtain ⟨va, vc, rfl⟩ := hv.shp
  clear hv hs
  have two : Hid (∀ o1 o2 : Obj, Below w.heap.size w ((w.alloc o1).alloc o2)) := fun o1 o2 => (below_alloc _ _).alloc (by simp) _
  have HI : Hid (idxI (givenB id turn) its = i) := hi
  clear hi
  obtain ⟨W0, hW0⟩ : ∃ W0, W0 = (w.alloc (.cells #[.string name, .int .i64 limit, .slice va its.length vc] 76)).alloc (.cells #[.string ⟨#[]⟩, .int .i64 0, .slice none 0 0] 76) := ⟨_, rfl⟩
  have hz0 : W0.heap.size = w.heap.size + 2 := by rw [hW0]; simp
  have hb0 : Below w.heap.size w W0 := by rw [hW0]; exact two.out _ _
  have hk0 : Blk W0 w.heap.size [.string name, .int .i64 limit, .slice va its.length vc] := by rw [hW0]; exact (Blk.new _ _ _).alloc _
  have hk1 : Blk W0 (w.heap.size + 1) [.string ⟨#[]⟩, .int .i64 0, .slice none 0 0] := by
    rw [hW0]
    have := Blk.new (w.alloc (.cells #[.string name, .int .i64 limit, .slice va its.length vc] 76)) [.string ⟨#[]⟩, .int .i64 0, .slice none 0 0] 76
    simpa using this
  obtain ⟨a0, a1, a2, a3, a4⟩ := hk0.b3
  obtain ⟨b0, b1, b2, b3, b4⟩ := hk1.b3
  have HK0 : Hid (Blk W0 w.heap.size [.string name, .int .i64 limit, .slice va its.length vc]) := hk0
  have HK : Hid (Below w.heap.size w W0 ∧ Blk W0 (w.heap.size + 1) [.string ⟨#[]⟩, .int .i64 0, .slice none 0 0]) := ⟨hb0, hk1⟩
  clear hb0 hk0 hk1
  go_enter Try.func157, Try.ntmps157
  go_wp2_with fail
  rw [← hW0]
  clear hW0
  go_region_law (first
    | (go_simp; go_at_call 164; refine (givenAs_any id turn _).mono ?_; rintro e w1 ⟨rfl, hg1, hg2, hb1⟩; have hb1' : Below W0.heap.size W0 w1 := ⟨hb1.os, hb1.tape, hb1.output, hb1.size, hb1.block⟩; have hg1' : Blk w1 W0.heap.size [.int .i64 id] := hg1; have hg2' : Blk w1 (W0.heap.size + 1) [.int .i64 turn] := hg2; rw [hz0] at hg1' hg2'; have hz1 := hg2'.lt; obtain ⟨a0', a1', a2', a3', a4'⟩ := (HK0.out.below hb1' (by omega)).b3; clear hg1 hg2 hb1)
    | (go_simp; go_at_call 129; refine (indexI_any 167 [.pointer (some ⟨w.heap.size + 2, 0, none⟩), .pointer (some ⟨w.heap.size + 2 + 1, 0, none⟩)] (givenB id turn) _ its _ (HV.out.sub fun k hk => ⟨Nat.lt_of_lt_of_le hk (by omega), (hb1'.block k (Nat.lt_of_lt_of_le hk (by omega))).trans (HK.out.1.block k hk)⟩) (given_tells' _ _ _ _ id turn hg1' (by omega) hg2' hz1)).mono ?_; rw [HI.out]; rintro e w2 ⟨rfl, hb2⟩; have hb2' : Below W0.heap.size W0 w2 := hb1'.trans (hb2.mono hb1'.size); clear hb2))
  all_goals
    have hz2 := hb2'.size
    obtain ⟨c0, c1, c2, c3, c4⟩ := (HK.out.2.below hb2' (by omega)).b3
    obtain ⟨d0, d1, d2, d3, d4⟩ := (HK0.out.below hb2' (by omega)).b3
    have HV2 : Hid (SliceI (Under w2.heap.size) w2 (.slice va its.length vc) its) := HV.out.sub fun k hk => ⟨Nat.lt_of_lt_of_le hk (by omega), (hb2'.block k (Nat.lt_of_lt_of_le hk (by omega))).trans (HK.out.1.block k hk)⟩
    clear b0 b1 b2 b3 a0 a1 a2 a3 hg1' hg2' a0' a1' a2' a3'
    go_wp2_with (first
      | (go_at_call 87; refine (own_any _ name limit its _ HV2.out HS.out).mono ?_; rintro e w3 ⟨vi, rfl, ho3, hb3⟩; obtain ⟨xa, xc, rfl⟩ := ho3.slice.shp; have hz3 := hb3.size; obtain ⟨e0, e1, e2, e3, e4⟩ := ((HK.out.2.below hb2' (by omega)).below hb3 (by omega)).b3)
      | (go_at_call 166; refine (without_any w2.heap.size _ name limit its i _ ho3 hil hlen).mono ?_; rintro e w4 ⟨v4, rfl, ho4, hg4⟩; obtain ⟨ya, yc, rfl⟩ := ho4.slice.shp; have hz4 := hg4.size; have hbk : ∀ b, b < w2.heap.size → w4.heap[b]? = w3.heap[b]? := (fun b hb => hg4.block b (by omega) (fun e => by obtain ⟨L, -, ho, -⟩ := ho3; have := (ho.lt b e.symm).1; omega)); obtain ⟨f0, f1, f2, f3, f4⟩ := (((HK.out.2.below hb2' (by omega)).below hb3 (by omega)).same (hbk _ (by omega))).b3))
    refine bodyPost_ret (v := .tuple #[.agg #[.string name, .int .i64 limit, .slice ya (its.eraseIdx i).length yc], .int .i64 0]) (by simp [results, Try.results157, go_sem, *]; done) rfl ⟨_, rfl, ?_, ?_⟩
    · refine ho4.made.sub fun k hk => ?_
      obtain ⟨h1, h2⟩ := hk
      refine ⟨⟨by omega, by simpa using h2⟩, ?_⟩
      iterate 3 rw [Below.heap_setCell _ _ _ _ (by simp; omega)]
    · iterate 3 refine Below.setCell ?_ (by simp <;> omega) _
      refine HK.out.1.trans ((hb2'.mono (by omega)).trans ((hb3.mono (by omega)).trans ⟨hg4.os, hg4.tape, hg4.output, hg4.size, fun b hb => hbk b (by omega)⟩))

end Go.Proofs.Ytkddkpdfeeikhaa

/-
  queue.Back.
-/
namespace Go.Proofs.Ytkddkpdfeeikhaa
open Go.RowKit
set_option linter.unusedVariables false
set_option linter.unusedSimpArgs false

attribute [local go_sem ↓] Go.wp_at_zero Go.wp_at_succ

/-- The cells of a block, two new ones behind it. -/
theorem Blk.c3 {w : World} {b : Nat} {x0 x1 x2 : Value} (h : Blk w b [x0, x1, x2]) : (∀ o1 o2, ((w.alloc o1).alloc o2).cell? ⟨b, 0, none⟩ = some x0) ∧ (∀ o1 o2, ((w.alloc o1).alloc o2).cell? ⟨b, 1, none⟩ = some x1) ∧ (∀ o1 o2, ((w.alloc o1).alloc o2).cell? ⟨b, 2, none⟩ = some x2) ∧ (∀ o1 o2 o, ((w.alloc o1).alloc o2).frozen? ⟨b, o, none⟩ = false) :=
  ⟨fun o1 o2 => ((h.alloc o1).alloc o2).cell 0, fun o1 o2 => ((h.alloc o1).alloc o2).cell 1, fun o1 o2 => ((h.alloc o1).alloc o2).cell 2, fun o1 o2 o => ((h.alloc o1).alloc o2).f o⟩
theorem Blk.c7 {w : World} {b : Nat} {x0 x1 x2 x3 x4 x5 x6 : Value} (h : Blk w b [x0, x1, x2, x3, x4, x5, x6]) : (∀ o1 o2, ((w.alloc o1).alloc o2).cell? ⟨b, 0, none⟩ = some x0) ∧ (∀ o1 o2, ((w.alloc o1).alloc o2).cell? ⟨b, 1, none⟩ = some x1) ∧ (∀ o1 o2, ((w.alloc o1).alloc o2).cell? ⟨b, 2, none⟩ = some x2) ∧ (∀ o1 o2, ((w.alloc o1).alloc o2).cell? ⟨b, 3, none⟩ = some x3) ∧ (∀ o1 o2, ((w.alloc o1).alloc o2).cell? ⟨b, 4, none⟩ = some x4) ∧ (∀ o1 o2, ((w.alloc o1).alloc o2).cell? ⟨b, 5, none⟩ = some x5) ∧ (∀ o1 o2, ((w.alloc o1).alloc o2).cell? ⟨b, 6, none⟩ = some x6) ∧ (∀ o1 o2 o, ((w.alloc o1).alloc o2).frozen? ⟨b, o, none⟩ = false) :=
  ⟨fun o1 o2 => ((h.alloc o1).alloc o2).cell 0, fun o1 o2 => ((h.alloc o1).alloc o2).cell 1, fun o1 o2 => ((h.alloc o1).alloc o2).cell 2, fun o1 o2 => ((h.alloc o1).alloc o2).cell 3, fun o1 o2 => ((h.alloc o1).alloc o2).cell 4, fun o1 o2 => ((h.alloc o1).alloc o2).cell 5, fun o1 o2 => ((h.alloc o1).alloc o2).cell 6, fun o1 o2 o => ((h.alloc o1).alloc o2).f o⟩

set_option maxRecDepth 100000 in
set_option maxHeartbeats 3200000 in
theorem back_none (v : Value) (name : ByteArray) (limit id turn : Int) (its : List IT) (w : World) (hv : SliceI (Under w.heap.size) w v its) (hi : idxI (givenB id turn) its = -1) :
    Calls Try.prog 151 #[.agg #[.string name, .int .i64 limit, v], .int .i64 id, .int .i64 turn] w fun e w' => e = .returned (.tuple #[.agg #[.string ⟨#[]⟩, .int .i64 0, .slice none 0 0], .agg #[.int .i64 0, .int .i64 0, .int .i64 0, .bool false, .int .i64 0, .slice none 0 0, .slice none 0 0], .bool false, .int .i64 6]) ∧ Below w.heap.size w w' := by
  have HV : Hid (SliceI (Under w.heap.size) w v its) := hv
  obtain ⟨va, vc, rfl⟩ := hv.shp
  clear hv
  have three : Hid (∀ o1 o2 o3 : Obj, Below w.heap.size w (((w.alloc o1).alloc o2).alloc o3)) := fun o1 o2 o3 => ((below_alloc _ _).alloc (by simp) _).alloc (by simp; omega) _
  have HI : Hid (idxI (givenB id turn) its = -1) := hi
  clear hi
  obtain ⟨W0, hW0⟩ : ∃ W0, W0 = ((w.alloc (.cells #[.string name, .int .i64 limit, .slice va its.length vc] 76)).alloc (.cells #[.string ⟨#[]⟩, .int .i64 0, .slice none 0 0] 76)).alloc (.cells #[.int .i64 0, .int .i64 0, .int .i64 0, .bool false, .int .i64 0, .slice none 0 0, .slice none 0 0] 78) := ⟨_, rfl⟩
  have hz0 : W0.heap.size = w.heap.size + 3 := by rw [hW0]; simp
  have hb0 : Below w.heap.size w W0 := by rw [hW0]; exact three.out _ _ _
  have hk0 : Blk W0 w.heap.size [.string name, .int .i64 limit, .slice va its.length vc] := by rw [hW0]; exact ((Blk.new _ _ _).alloc _).alloc _
  have hk1 : Blk W0 (w.heap.size + 1) [.string ⟨#[]⟩, .int .i64 0, .slice none 0 0] := by
    rw [hW0]
    have := (Blk.new (w.alloc (.cells #[.string name, .int .i64 limit, .slice va its.length vc] 76)) [.string ⟨#[]⟩, .int .i64 0, .slice none 0 0] 76).alloc (.cells #[.int .i64 0, .int .i64 0, .int .i64 0, .bool false, .int .i64 0, .slice none 0 0, .slice none 0 0] 78)
    simpa using this
  have hk2 : Blk W0 (w.heap.size + 1 + 1) [.int .i64 0, .int .i64 0, .int .i64 0, .bool false, .int .i64 0, .slice none 0 0, .slice none 0 0] := by
    rw [hW0]
    have := Blk.new ((w.alloc (.cells #[.string name, .int .i64 limit, .slice va its.length vc] 76)).alloc (.cells #[.string ⟨#[]⟩, .int .i64 0, .slice none 0 0] 76)) [.int .i64 0, .int .i64 0, .int .i64 0, .bool false, .int .i64 0, .slice none 0 0, .slice none 0 0] 78
    simpa using this
  obtain ⟨a0, a1, a2, a3, a4⟩ := hk0.b3
  have HK0 : Hid (Blk W0 w.heap.size [.string name, .int .i64 limit, .slice va its.length vc]) := hk0
  have HK : Hid (Below w.heap.size w W0 ∧ Blk W0 (w.heap.size + 1) [.string ⟨#[]⟩, .int .i64 0, .slice none 0 0] ∧ Blk W0 (w.heap.size + 1 + 1) [.int .i64 0, .int .i64 0, .int .i64 0, .bool false, .int .i64 0, .slice none 0 0, .slice none 0 0]) := ⟨hb0, hk1, hk2⟩
  clear hb0 hk0 hk1 hk2
  go_enter Try.func151, Try.ntmps151
  go_wp2_with fail
  rw [← hW0]
  clear hW0
  go_region_law (first
    | (go_simp; go_at_call 164; refine (givenAs_any id turn _).mono ?_; rintro e w1 ⟨rfl, hg1, hg2, hb1⟩; have hb1' : Below W0.heap.size W0 w1 := ⟨hb1.os, hb1.tape, hb1.output, hb1.size, hb1.block⟩; have hg1' : Blk w1 W0.heap.size [.int .i64 id] := hg1; have hg2' : Blk w1 (W0.heap.size + 1) [.int .i64 turn] := hg2; rw [hz0] at hg1' hg2'; have hz1 := hg2'.lt; obtain ⟨a0', a1', a2', a3', a4'⟩ := (HK0.out.below hb1' (by omega)).b3; clear hg1 hg2 hb1)
    | (go_simp; go_at_call 129; refine (indexI_any 167 [.pointer (some ⟨w.heap.size + 3, 0, none⟩), .pointer (some ⟨w.heap.size + 3 + 1, 0, none⟩)] (givenB id turn) _ its _ (HV.out.sub fun k hk => ⟨Nat.lt_of_lt_of_le hk (by omega), (hb1'.block k (Nat.lt_of_lt_of_le hk (by omega))).trans (HK.out.1.block k hk)⟩) (given_tells' _ _ _ _ id turn hg1' (by omega) hg2' hz1)).mono ?_; rw [HI.out]; rintro e w2 ⟨rfl, hb2⟩; have hb2' : Below W0.heap.size W0 w2 := hb1'.trans (hb2.mono hb1'.size); clear hb2))
  all_goals
    have hz2 := hb2'.size
    obtain ⟨c0, c1, c2, c3, c4⟩ := (HK.out.2.1.below hb2' (by omega)).b3
    obtain ⟨⟨y0, y1, y2, y3⟩, ⟨y4, y5, y6⟩, y7, y8⟩ := (HK.out.2.2.below hb2' (by omega)).b7
    obtain ⟨d0, d1, d2, d3, d4⟩ := (HK0.out.below hb2' (by omega)).b3
    have HV2 : Hid (SliceI (Under w2.heap.size) w2 (.slice va its.length vc) its) := HV.out.sub fun k hk => ⟨Nat.lt_of_lt_of_le hk (by omega), (hb2'.block k (Nat.lt_of_lt_of_le hk (by omega))).trans (HK.out.1.block k hk)⟩
    clear a0 a1 a2 a3 hg1' hg2' a0' a1' a2' a3'
    go_wp2
    refine bodyPost_ret (v := .tuple #[.agg #[.string ⟨#[]⟩, .int .i64 0, .slice none 0 0], .agg #[.int .i64 0, .int .i64 0, .int .i64 0, .bool false, .int .i64 0, .slice none 0 0, .slice none 0 0], .bool false, .int .i64 6]) (by simp [results, Try.results151, go_sem, *]; done) rfl ⟨rfl, ?_⟩
    iterate 10 refine Below.setCell ?_ (by simp <;> omega) _
    exact HK.out.1.trans (hb2'.mono (by omega))

set_option maxRecDepth 100000 in
set_option maxHeartbeats 3200000 in
theorem back_new (v : Value) (name : ByteArray) (limit id turn : Int) (its : List IT) (i : Nat) (hil : i < its.length) (w : World) (hv : SliceI (Under w.heap.size) w v its) (hs : smallI its) (hi : idxI (givenB id turn) its = i) (hfit : (its[i]).fits) (htr : (backI its[i]).tries < 3) :
    Calls Try.prog 151 #[.agg #[.string name, .int .i64 limit, v], .int .i64 id, .int .i64 turn] w fun e w' => ∃ v', e = .returned (.tuple #[.agg #[.string name, .int .i64 limit, v'], .agg #[.int .i64 0, .int .i64 0, .int .i64 0, .bool false, .int .i64 0, .slice none 0 0, .slice none 0 0], .bool false, .int .i64 0]) ∧ SliceI (Made w.heap.size w'.heap.size) w' v' (its.set i (backI its[i])) ∧ Below w.heap.size w w' := by
  have HV : Hid (SliceI (Under w.heap.size) w v its) := hv
  obtain ⟨va, vc, rfl⟩ := hv.shp
  have HS : Hid (smallI its) := hs
  have hlen := hs.1
  clear hv hs
  have hFT : Hid (its[i].fits) := hfit
  obtain ⟨it2, hit2⟩ : ∃ it2, it2 = backI its[i] := ⟨_, rfl⟩
  have HIT2 : Hid (it2 = backI its[i]) := hit2
  have htr' : it2.tries < 3 := by rw [hit2]; exact htr
  clear hit2 hfit htr
  have three : Hid (∀ o1 o2 o3 : Obj, Below w.heap.size w (((w.alloc o1).alloc o2).alloc o3)) := fun o1 o2 o3 => ((below_alloc _ _).alloc (by simp) _).alloc (by simp; omega) _
  have HI : Hid (idxI (givenB id turn) its = i) := hi
  clear hi
  obtain ⟨W0, hW0⟩ : ∃ W0, W0 = ((w.alloc (.cells #[.string name, .int .i64 limit, .slice va its.length vc] 76)).alloc (.cells #[.string ⟨#[]⟩, .int .i64 0, .slice none 0 0] 76)).alloc (.cells #[.int .i64 0, .int .i64 0, .int .i64 0, .bool false, .int .i64 0, .slice none 0 0, .slice none 0 0] 78) := ⟨_, rfl⟩
  have hz0 : W0.heap.size = w.heap.size + 3 := by rw [hW0]; simp
  have hb0 : Below w.heap.size w W0 := by rw [hW0]; exact three.out _ _ _
  have hk0 : Blk W0 w.heap.size [.string name, .int .i64 limit, .slice va its.length vc] := by rw [hW0]; exact ((Blk.new _ _ _).alloc _).alloc _
  have hk1 : Blk W0 (w.heap.size + 1) [.string ⟨#[]⟩, .int .i64 0, .slice none 0 0] := by
    rw [hW0]
    have := (Blk.new (w.alloc (.cells #[.string name, .int .i64 limit, .slice va its.length vc] 76)) [.string ⟨#[]⟩, .int .i64 0, .slice none 0 0] 76).alloc (.cells #[.int .i64 0, .int .i64 0, .int .i64 0, .bool false, .int .i64 0, .slice none 0 0, .slice none 0 0] 78)
    simpa using this
  have hk2 : Blk W0 (w.heap.size + 1 + 1) [.int .i64 0, .int .i64 0, .int .i64 0, .bool false, .int .i64 0, .slice none 0 0, .slice none 0 0] := by
    rw [hW0]
    have := Blk.new ((w.alloc (.cells #[.string name, .int .i64 limit, .slice va its.length vc] 76)).alloc (.cells #[.string ⟨#[]⟩, .int .i64 0, .slice none 0 0] 76)) [.int .i64 0, .int .i64 0, .int .i64 0, .bool false, .int .i64 0, .slice none 0 0, .slice none 0 0] 78
    simpa using this
  obtain ⟨a0, a1, a2, a3, a4⟩ := hk0.b3
  have HK0 : Hid (Blk W0 w.heap.size [.string name, .int .i64 limit, .slice va its.length vc]) := hk0
  have HK : Hid (Below w.heap.size w W0 ∧ Blk W0 (w.heap.size + 1) [.string ⟨#[]⟩, .int .i64 0, .slice none 0 0] ∧ Blk W0 (w.heap.size + 1 + 1) [.int .i64 0, .int .i64 0, .int .i64 0, .bool false, .int .i64 0, .slice none 0 0, .slice none 0 0]) := ⟨hb0, hk1, hk2⟩
  clear hb0 hk0 hk1 hk2
  go_enter Try.func151, Try.ntmps151
  go_wp2_with fail
  rw [← hW0]
  clear hW0
  go_region_law (first
    | (go_simp; go_at_call 164; refine (givenAs_any id turn _).mono ?_; rintro e w1 ⟨rfl, hg1, hg2, hb1⟩; have hb1' : Below W0.heap.size W0 w1 := ⟨hb1.os, hb1.tape, hb1.output, hb1.size, hb1.block⟩; have hg1' : Blk w1 W0.heap.size [.int .i64 id] := hg1; have hg2' : Blk w1 (W0.heap.size + 1) [.int .i64 turn] := hg2; rw [hz0] at hg1' hg2'; have hz1 := hg2'.lt; obtain ⟨a0', a1', a2', a3', a4'⟩ := (HK0.out.below hb1' (by omega)).b3; clear hg1 hg2 hb1)
    | (go_simp; go_at_call 129; refine (indexI_any 167 [.pointer (some ⟨w.heap.size + 3, 0, none⟩), .pointer (some ⟨w.heap.size + 3 + 1, 0, none⟩)] (givenB id turn) _ its _ (HV.out.sub fun k hk => ⟨Nat.lt_of_lt_of_le hk (by omega), (hb1'.block k (Nat.lt_of_lt_of_le hk (by omega))).trans (HK.out.1.block k hk)⟩) (given_tells' _ _ _ _ id turn hg1' (by omega) hg2' hz1)).mono ?_; rw [HI.out]; rintro e w2 ⟨rfl, hb2⟩; have hb2' : Below W0.heap.size W0 w2 := hb1'.trans (hb2.mono hb1'.size); clear hb2))
  all_goals
    have hz2 := hb2'.size
    obtain ⟨c0, c1, c2, c3, c4⟩ := (HK.out.2.1.below hb2' (by omega)).b3
    obtain ⟨⟨y0, y1, y2, y3⟩, ⟨y4, y5, y6⟩, y7, y8⟩ := (HK.out.2.2.below hb2' (by omega)).b7
    obtain ⟨d0, d1, d2, d3, d4⟩ := (HK0.out.below hb2' (by omega)).b3
    have HV2 : Hid (SliceI (Under w2.heap.size) w2 (.slice va its.length vc) its) := HV.out.sub fun k hk => ⟨Nat.lt_of_lt_of_le hk (by omega), (hb2'.block k (Nat.lt_of_lt_of_le hk (by omega))).trans (HK.out.1.block k hk)⟩
    clear a0 a1 a2 a3 hg1' hg2' a0' a1' a2' a3'
    go_wp2_with (first
      | (go_at_call 154; refine (changed_any 165 [] backI _ name limit its i hil _ HV2.out HS.out hFT.out rfl (back_changes _ _)).mono ?_; rintro e w3 ⟨vi, q, rfl, ho3, hn3, hb3⟩; obtain ⟨q1, q2⟩ := q; obtain ⟨xa, xc, rfl⟩ := ho3.slice.shp; obtain ⟨ya, yc, rfl, -⟩ := SliceV.shape hn3.1; obtain ⟨za, zc, rfl, -⟩ := SliceV.shape hn3.2; rw [← HIT2.out]; have hz3 := hb3.size; obtain ⟨e0, e1, e2, e3⟩ := ((HK.out.2.1.below hb2' (by omega)).below hb3 (by omega)).c3; obtain ⟨f0, f1, f2, f3, f4, f5, f6, f7⟩ := ((HK.out.2.2.below hb2' (by omega)).below hb3 (by omega)).c7; clear c0 c1 c2 c3 y0 y1 y2 y3 y4 y5 y6 y7 d0 d1 d2 d3; simp only [IT.val])
      | fail)
    have hlw : (its.set i (backI its[i])).length = its.length := by simp
    have ho3' := ho3.made
    rw [hlw] at ho3'
    refine bodyPost_ret (v := .tuple #[.agg #[.string name, .int .i64 limit, .slice xa its.length xc], .agg #[.int .i64 0, .int .i64 0, .int .i64 0, .bool false, .int .i64 0, .slice none 0 0, .slice none 0 0], .bool false, .int .i64 0]) (by simp [results, Try.results151, go_sem, *]; done) rfl ⟨.slice xa its.length xc, rfl, ?_, ?_⟩
    · refine ho3'.sub fun k hk => ?_
      obtain ⟨h1, h2⟩ := hk
      refine ⟨⟨by omega, by simp; omega⟩, ?_⟩
      iterate 10 rw [Below.heap_setCell _ _ _ _ (by simp; omega)]
      exact ((below_alloc _ _).alloc (by simp) _).block k h2
    · iterate 10 refine Below.setCell ?_ (by simp <;> omega) _
      exact HK.out.1.trans ((hb2'.mono (by omega)).trans ((hb3.mono (by omega)).trans (((below_alloc _ _).alloc (by simp) _).mono (by omega))))

set_option maxRecDepth 100000 in
set_option maxHeartbeats 3200000 in
theorem back_deadN (v : Value) (name : ByteArray) (limit id turn : Int) (its : List IT) (i : Nat) (hil : i < its.length) (w : World) (hv : SliceI (Under w.heap.size) w v its) (hs : smallI its) (hi : idxI (givenB id turn) its = i) (hfit : (its[i]).fits) (htr : ¬ (backI its[i]).tries < 3) :
    Calls Try.prog 151 #[.agg #[.string name, .int .i64 limit, v], .int .i64 id, .int .i64 turn] w fun e w' => ∃ v' q, e = .returned (.tuple #[.agg #[.string name, .int .i64 limit, v'], (backI its[i]).val q, .bool true, .int .i64 0]) ∧ SliceI (Made w.heap.size w'.heap.size) w' v' (its.eraseIdx i) ∧ NoteIs (Made w.heap.size w'.heap.size) w' q its[i].note ∧ Below w.heap.size w w' := by
  have HV : Hid (SliceI (Under w.heap.size) w v its) := hv
  obtain ⟨va, vc, rfl⟩ := hv.shp
  have HS : Hid (smallI its) := hs
  have hlen := hs.1
  clear hv hs
  have hFT : Hid (its[i].fits) := hfit
  obtain ⟨it2, hit2⟩ : ∃ it2, it2 = backI its[i] := ⟨_, rfl⟩
  have HIT2 : Hid (it2 = backI its[i]) := hit2
  have htr' : ¬ it2.tries < 3 := by rw [hit2]; exact htr
  clear hit2 hfit htr
  have three : Hid (∀ o1 o2 o3 : Obj, Below w.heap.size w (((w.alloc o1).alloc o2).alloc o3)) := fun o1 o2 o3 => ((below_alloc _ _).alloc (by simp) _).alloc (by simp; omega) _
  have HI : Hid (idxI (givenB id turn) its = i) := hi
  clear hi
  obtain ⟨W0, hW0⟩ : ∃ W0, W0 = ((w.alloc (.cells #[.string name, .int .i64 limit, .slice va its.length vc] 76)).alloc (.cells #[.string ⟨#[]⟩, .int .i64 0, .slice none 0 0] 76)).alloc (.cells #[.int .i64 0, .int .i64 0, .int .i64 0, .bool false, .int .i64 0, .slice none 0 0, .slice none 0 0] 78) := ⟨_, rfl⟩
  have hz0 : W0.heap.size = w.heap.size + 3 := by rw [hW0]; simp
  have hb0 : Below w.heap.size w W0 := by rw [hW0]; exact three.out _ _ _
  have hk0 : Blk W0 w.heap.size [.string name, .int .i64 limit, .slice va its.length vc] := by rw [hW0]; exact ((Blk.new _ _ _).alloc _).alloc _
  have hk1 : Blk W0 (w.heap.size + 1) [.string ⟨#[]⟩, .int .i64 0, .slice none 0 0] := by
    rw [hW0]
    have := (Blk.new (w.alloc (.cells #[.string name, .int .i64 limit, .slice va its.length vc] 76)) [.string ⟨#[]⟩, .int .i64 0, .slice none 0 0] 76).alloc (.cells #[.int .i64 0, .int .i64 0, .int .i64 0, .bool false, .int .i64 0, .slice none 0 0, .slice none 0 0] 78)
    simpa using this
  have hk2 : Blk W0 (w.heap.size + 1 + 1) [.int .i64 0, .int .i64 0, .int .i64 0, .bool false, .int .i64 0, .slice none 0 0, .slice none 0 0] := by
    rw [hW0]
    have := Blk.new ((w.alloc (.cells #[.string name, .int .i64 limit, .slice va its.length vc] 76)).alloc (.cells #[.string ⟨#[]⟩, .int .i64 0, .slice none 0 0] 76)) [.int .i64 0, .int .i64 0, .int .i64 0, .bool false, .int .i64 0, .slice none 0 0, .slice none 0 0] 78
    simpa using this
  obtain ⟨a0, a1, a2, a3, a4⟩ := hk0.b3
  have HK0 : Hid (Blk W0 w.heap.size [.string name, .int .i64 limit, .slice va its.length vc]) := hk0
  have HK : Hid (Below w.heap.size w W0 ∧ Blk W0 (w.heap.size + 1) [.string ⟨#[]⟩, .int .i64 0, .slice none 0 0] ∧ Blk W0 (w.heap.size + 1 + 1) [.int .i64 0, .int .i64 0, .int .i64 0, .bool false, .int .i64 0, .slice none 0 0, .slice none 0 0]) := ⟨hb0, hk1, hk2⟩
  clear hb0 hk0 hk1 hk2
  go_enter Try.func151, Try.ntmps151
  go_wp2_with fail
  rw [← hW0]
  clear hW0
  go_region_law (first
    | (go_simp; go_at_call 164; refine (givenAs_any id turn _).mono ?_; rintro e w1 ⟨rfl, hg1, hg2, hb1⟩; have hb1' : Below W0.heap.size W0 w1 := ⟨hb1.os, hb1.tape, hb1.output, hb1.size, hb1.block⟩; have hg1' : Blk w1 W0.heap.size [.int .i64 id] := hg1; have hg2' : Blk w1 (W0.heap.size + 1) [.int .i64 turn] := hg2; rw [hz0] at hg1' hg2'; have hz1 := hg2'.lt; obtain ⟨a0', a1', a2', a3', a4'⟩ := (HK0.out.below hb1' (by omega)).b3; clear hg1 hg2 hb1)
    | (go_simp; go_at_call 129; refine (indexI_any 167 [.pointer (some ⟨w.heap.size + 3, 0, none⟩), .pointer (some ⟨w.heap.size + 3 + 1, 0, none⟩)] (givenB id turn) _ its _ (HV.out.sub fun k hk => ⟨Nat.lt_of_lt_of_le hk (by omega), (hb1'.block k (Nat.lt_of_lt_of_le hk (by omega))).trans (HK.out.1.block k hk)⟩) (given_tells' _ _ _ _ id turn hg1' (by omega) hg2' hz1)).mono ?_; rw [HI.out]; rintro e w2 ⟨rfl, hb2⟩; have hb2' : Below W0.heap.size W0 w2 := hb1'.trans (hb2.mono hb1'.size); clear hb2))
  all_goals
    have hz2 := hb2'.size
    obtain ⟨c0, c1, c2, c3, c4⟩ := (HK.out.2.1.below hb2' (by omega)).b3
    obtain ⟨⟨y0, y1, y2, y3⟩, ⟨y4, y5, y6⟩, y7, y8⟩ := (HK.out.2.2.below hb2' (by omega)).b7
    obtain ⟨d0, d1, d2, d3, d4⟩ := (HK0.out.below hb2' (by omega)).b3
    have HV2 : Hid (SliceI (Under w2.heap.size) w2 (.slice va its.length vc) its) := HV.out.sub fun k hk => ⟨Nat.lt_of_lt_of_le hk (by omega), (hb2'.block k (Nat.lt_of_lt_of_le hk (by omega))).trans (HK.out.1.block k hk)⟩
    clear a0 a1 a2 a3 hg1' hg2' a0' a1' a2' a3'
    go_wp2_with (first
      | (go_at_call 154; refine (changed_any 165 [] backI _ name limit its i hil _ HV2.out HS.out hFT.out rfl (back_changes _ _)).mono ?_; rintro e w3 ⟨vi, q, rfl, ho3, hn3, hb3⟩; obtain ⟨q1, q2⟩ := q; obtain ⟨xa, xc, rfl⟩ := ho3.slice.shp; obtain ⟨ya, yc, rfl, -⟩ := SliceV.shape hn3.1; obtain ⟨za, zc, rfl, -⟩ := SliceV.shape hn3.2; rw [← HIT2.out]; have hz3 := hb3.size; obtain ⟨e0, e1, e2, e3⟩ := ((HK.out.2.1.below hb2' (by omega)).below hb3 (by omega)).c3; obtain ⟨f0, f1, f2, f3, f4, f5, f6, f7⟩ := ((HK.out.2.2.below hb2' (by omega)).below hb3 (by omega)).c7; clear c0 c1 c2 c3 y0 y1 y2 y3 y4 y5 y6 y7 d0 d1 d2 d3; simp only [IT.val])
      | fail)
    have hlw : (its.set i (backI its[i])).length = its.length := by simp
    have her : (its.set i (backI its[i])).eraseIdx i = its.eraseIdx i := by
      rw [List.eraseIdx_eq_take_drop_succ, List.eraseIdx_eq_take_drop_succ, List.take_set_of_le (Nat.le_refl _), List.drop_set_of_lt (by omega)]
    obtain ⟨W3, hW3⟩ : ∃ W3, W3 = (w3.alloc (.cells #[.string name, .int .i64 limit, .slice xa its.length xc] 76)).alloc (.cells #[.int .i64 it2.id, .int .i64 it2.turn, .int .i64 it2.tries, .bool it2.out, .int .i64 it2.due, .slice ya its[i].note.props.length yc, .slice za its[i].note.body.length zc] 78) := ⟨_, rfl⟩
    have hzW : W3.heap.size = w3.heap.size + 2 := by rw [hW3]; simp
    have hbW : Below w3.heap.size w3 W3 := by rw [hW3]; exact (below_alloc _ _).alloc (by simp) _
    have hq : Blk W3 w3.heap.size [.string name, .int .i64 limit, .slice xa its.length xc] := by rw [hW3]; exact (Blk.new _ _ _).alloc _
    have hr : Blk W3 (w3.heap.size + 1) [.int .i64 it2.id, .int .i64 it2.turn, .int .i64 it2.tries, .bool it2.out, .int .i64 it2.due, .slice ya its[i].note.props.length yc, .slice za its[i].note.body.length zc] := by
      rw [hW3]
      have := Blk.new (w3.alloc (.cells #[.string name, .int .i64 limit, .slice xa its.length xc] 76)) [.int .i64 it2.id, .int .i64 it2.turn, .int .i64 it2.tries, .bool it2.out, .int .i64 it2.due, .slice ya its[i].note.props.length yc, .slice za its[i].note.body.length zc] 78
      simpa using this
    rw [hlw] at ho3 hn3
    have HO3 : Hid (OwnI w2.heap.size W3 (.slice xa its.length xc) (its.set i (backI its[i]))) := ho3.kept hbW.size (fun k _ hk => hbW.block k hk)
    have HN3 : Hid (NoteIs (fun b => w2.heap.size ≤ b ∧ b < w3.heap.size ∧ (Value.slice xa its.length xc).ownBlock ≠ some b) W3 (.slice ya its[i].note.props.length yc, .slice za its[i].note.body.length zc) its[i].note) := NoteIs.sub hn3 (fun b hb => ⟨hb, hbW.block b hb.2.1⟩)
    have HOW : Hid (∀ b, (Value.slice xa its.length xc).ownBlock = some b → w2.heap.size ≤ b ∧ b < w3.heap.size) := fun b hb => by
      obtain ⟨L, -, ho, -⟩ := ho3
      exact ho.lt b hb
    have HB3 : Hid (Below w.heap.size w W3) := HK.out.1.trans ((hb2'.mono (by omega)).trans ((hb3.mono (by omega)).trans (hbW.mono (by omega))))
    have HZ : Hid (Blk W3 (w.heap.size + 1) [.string ⟨#[]⟩, .int .i64 0, .slice none 0 0] ∧ Blk W3 (w.heap.size + 1 + 1) [.int .i64 0, .int .i64 0, .int .i64 0, .bool false, .int .i64 0, .slice none 0 0, .slice none 0 0] ∧ Blk W3 w3.heap.size [.string name, .int .i64 limit, .slice xa its.length xc] ∧ Blk W3 (w3.heap.size + 1) [.int .i64 it2.id, .int .i64 it2.turn, .int .i64 it2.tries, .bool it2.out, .int .i64 it2.due, .slice ya its[i].note.props.length yc, .slice za its[i].note.body.length zc]) :=
      ⟨((HK.out.2.1.below hb2' (by omega)).below hb3 (by omega)).below hbW (by omega), ((HK.out.2.2.below hb2' (by omega)).below hb3 (by omega)).below hbW (by omega), hq, hr⟩
    obtain ⟨g0, g1, g2, g3, g4⟩ := hq.b3
    obtain ⟨⟨h0, h1, h2, h3⟩, ⟨h4, h5, h6⟩, h7, h8⟩ := hr.b7
    obtain ⟨k0, k1, k2, k3, k4⟩ := HZ.out.1.b3
    obtain ⟨⟨l0, l1, l2, l3⟩, ⟨l4, l5, l6⟩, l7, l8⟩ := HZ.out.2.1.b7
    rw [← hW3]
    clear hW3 hq hr hbW ho3 hn3 hb3 e0 e1 e2 e3 f0 f1 f2 f3 f4 f5 f6 f7 hlw HV HV2
    go_region_law (first
      | (go_simp; go_at_call 166; refine (without_any w2.heap.size _ name limit (its.set i (backI its[i])) i _ ?_ (by simpa using hil) (by simpa using hlen)).mono ?_; (exact HO3.out.kept (Nat.le_refl _) (fun _ _ _ => rfl)); rw [her]; rintro e w4 ⟨v4, rfl, ho4, hg4⟩; obtain ⟨ua, uc, rfl⟩ := ho4.slice.shp; have hg4' : W3.grownBy w4 (Value.slice xa its.length xc).ownBlock := ⟨hg4.os, hg4.tape, hg4.output, hg4.size, hg4.block⟩; have hz4 := hg4'.size; have hbk : ∀ b, b < W3.heap.size → (Value.slice xa its.length xc).ownBlock ≠ some b → w4.heap[b]? = W3.heap[b]? := (fun b hb hn => hg4'.block b hb (fun e => hn e.symm)); have hno : ∀ b, b < w2.heap.size ∨ w3.heap.size ≤ b → (Value.slice xa its.length xc).ownBlock ≠ some b := (fun b hb e => by have := HOW.out b e; omega); obtain ⟨m0, m1, m2, m3, m4⟩ := (HZ.out.1.same (hbk _ (by omega) (hno _ (by omega)))).b3; obtain ⟨⟨n0, n1, n2, n3⟩, ⟨n4, n5, n6⟩, n7, n8⟩ := (HZ.out.2.1.same (hbk _ (by omega) (hno _ (by omega)))).b7; obtain ⟨⟨r0, r1, r2, r3⟩, ⟨r4, r5, r6⟩, r7, r8⟩ := (HZ.out.2.2.2.same (hbk _ (by omega) (hno _ (by omega)))).b7; clear hg4))
    all_goals
      clear g0 g1 g2 g3 h0 h1 h2 h3 h4 h5 h6 h7 k0 k1 k2 k3 l0 l1 l2 l3 l4 l5 l6 l7
      go_wp2
      refine bodyPost_ret (v := .tuple #[.agg #[.string name, .int .i64 limit, .slice ua (its.eraseIdx i).length uc], .agg #[.int .i64 it2.id, .int .i64 it2.turn, .int .i64 it2.tries, .bool it2.out, .int .i64 it2.due, .slice ya its[i].note.props.length yc, .slice za its[i].note.body.length zc], .bool true, .int .i64 0]) (by simp [results, Try.results151, go_sem, *]; done) rfl ?_
      have e2 : (backI its[i]).val (.slice ya its[i].note.props.length yc, .slice za its[i].note.body.length zc) = .agg #[.int .i64 it2.id, .int .i64 it2.turn, .int .i64 it2.tries, .bool it2.out, .int .i64 it2.due, .slice ya its[i].note.props.length yc, .slice za its[i].note.body.length zc] := by rw [← HIT2.out]; rfl
      refine ⟨_, (.slice ya its[i].note.props.length yc, .slice za its[i].note.body.length zc), by rw [e2], ?_, ?_, ?_⟩
      · refine ho4.made.sub fun k hk => ?_
        obtain ⟨p1, p2⟩ := hk
        refine ⟨⟨by omega, by simpa using p2⟩, ?_⟩
        iterate 10 rw [Below.heap_setCell _ _ _ _ (by simp; omega)]
      · refine HN3.out.sub fun k hk => ?_
        obtain ⟨p1, p2, p3⟩ := hk
        refine ⟨⟨by omega, by simp; omega⟩, ?_⟩
        iterate 10 rw [Below.heap_setCell _ _ _ _ (by simp; omega)]
        exact hbk k (by omega) p3
      · iterate 10 refine Below.setCell ?_ (by simp <;> omega) _
        exact HB3.out.trans ⟨hg4'.os, hg4'.tape, hg4'.output, hg4'.size, fun b hb => hbk b (by omega) (hno b (by omega))⟩

end Go.Proofs.Ytkddkpdfeeikhaa
