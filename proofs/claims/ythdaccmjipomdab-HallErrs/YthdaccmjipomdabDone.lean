/-
  queue.Done.
-/
import Derived.Test.YthdaccmjipomdabTake
namespace Go.Proofs.Ythdaccmjipomdab
open Go.RowKit
set_option linter.unusedVariables false
set_option linter.unusedSimpArgs false

attribute [local go_sem ↓] Go.wp_at_zero Go.wp_at_succ

def givenB (id turn : Int) (i : IT) : Bool := i.out && (i.id == id) && (i.turn == turn)

theorem given_tells' (B : Nat) (w0 : World) (g h : Nat) (id turn : Int) (hg : Blk w0 g [.int .i64 id]) (hl : g < B) (hh : Blk w0 h [.int .i64 turn]) (hm : h < B) : Tells B w0 87 [.pointer (some ⟨g, 0, none⟩), .pointer (some ⟨h, 0, none⟩)] (givenB id turn) := given_tells B w0 g h id turn hg hl hh hm

set_option maxRecDepth 100000 in
set_option maxHeartbeats 3200000 in
theorem done_none (v : Value) (name : ByteArray) (limit id turn : Int) (its : List IT) (w : World) (hv : SliceI (Under w.heap.size) w v its) (hi : idxI (givenB id turn) its = -1) :
    Calls Try.prog 13 #[.agg #[.string name, .int .i64 limit, v], .int .i64 id, .int .i64 turn] w fun e w' => e = .returned (.tuple #[.agg #[.string ⟨#[]⟩, .int .i64 0, .slice none 0 0], .int .i64 6]) ∧ Below w.heap.size w w' := by
  have HV : Hid (SliceI (Under w.heap.size) w v its) := hv
  obtain ⟨va, vc, rfl⟩ := hv.shp
  clear hv
  have two : Hid (∀ o1 o2 : Obj, Below w.heap.size w ((w.alloc o1).alloc o2)) := fun o1 o2 => (below_alloc _ _).alloc (by simp) _
  have HI : Hid (idxI (givenB id turn) its = -1) := hi
  clear hi
  obtain ⟨W0, hW0⟩ : ∃ W0, W0 = (w.alloc (.cells #[.string name, .int .i64 limit, .slice va its.length vc] 25)).alloc (.cells #[.string ⟨#[]⟩, .int .i64 0, .slice none 0 0] 25) := ⟨_, rfl⟩
  have hz0 : W0.heap.size = w.heap.size + 2 := by rw [hW0]; simp
  have hb0 : Below w.heap.size w W0 := by rw [hW0]; exact two.out _ _
  have hk0 : Blk W0 w.heap.size [.string name, .int .i64 limit, .slice va its.length vc] := by rw [hW0]; exact (Blk.new _ _ _).alloc _
  have hk1 : Blk W0 (w.heap.size + 1) [.string ⟨#[]⟩, .int .i64 0, .slice none 0 0] := by
    rw [hW0]
    have := Blk.new (w.alloc (.cells #[.string name, .int .i64 limit, .slice va its.length vc] 25)) [.string ⟨#[]⟩, .int .i64 0, .slice none 0 0] 25
    simpa using this
  obtain ⟨a0, a1, a2, a3, a4⟩ := hk0.b3
  obtain ⟨b0, b1, b2, b3, b4⟩ := hk1.b3
  have HK0 : Hid (Blk W0 w.heap.size [.string name, .int .i64 limit, .slice va its.length vc]) := hk0
  have HK : Hid (Below w.heap.size w W0 ∧ Blk W0 (w.heap.size + 1) [.string ⟨#[]⟩, .int .i64 0, .slice none 0 0]) := ⟨hb0, hk1⟩
  clear hb0 hk0 hk1
  go_enter Try.func13, Try.ntmps13
  go_wp2_with fail
  rw [← hW0]
  clear hW0
  go_region_law (first
    | (go_simp; go_at_call 53; refine (givenAs_any id turn _).mono ?_; rintro e w1 ⟨rfl, hg1, hg2, hb1⟩; have hb1' : Below W0.heap.size W0 w1 := ⟨hb1.os, hb1.tape, hb1.output, hb1.size, hb1.block⟩; have hg1' : Blk w1 W0.heap.size [.int .i64 id] := hg1; have hg2' : Blk w1 (W0.heap.size + 1) [.int .i64 turn] := hg2; rw [hz0] at hg1' hg2'; have hz1 := hg2'.lt; obtain ⟨a0', a1', a2', a3', a4'⟩ := (HK0.out.below hb1' (by omega)).b3; clear hg1 hg2 hb1)
    | (go_simp; go_at_call 49; refine (indexI_any 87 [.pointer (some ⟨w.heap.size + 2, 0, none⟩), .pointer (some ⟨w.heap.size + 2 + 1, 0, none⟩)] (givenB id turn) _ its _ (HV.out.sub fun k hk => ⟨Nat.lt_of_lt_of_le hk (by omega), (hb1'.block k (Nat.lt_of_lt_of_le hk (by omega))).trans (HK.out.1.block k hk)⟩) (given_tells' _ _ _ _ id turn hg1' (by omega) hg2' hz1)).mono ?_; rw [HI.out]; rintro e w2 ⟨rfl, hb2⟩; have hb2' : Below W0.heap.size W0 w2 := hb1'.trans (hb2.mono hb1'.size); clear hb2))
  all_goals
    have hz2 := hb2'.size
    obtain ⟨c0, c1, c2, c3, c4⟩ := (HK.out.2.below hb2' (by omega)).b3
    clear b0 b1 b2 b3
    go_wp2
    refine bodyPost_ret (v := .tuple #[.agg #[.string ⟨#[]⟩, .int .i64 0, .slice none 0 0], .int .i64 6]) (by simp [results, Try.results13, go_sem, *]; done) rfl ⟨rfl, ?_⟩
    iterate 3 refine Below.setCell ?_ (by simp <;> omega) _
    exact HK.out.1.trans (hb2'.mono (by omega))

set_option maxRecDepth 100000 in
set_option maxHeartbeats 3200000 in
theorem done_new (v : Value) (name : ByteArray) (limit id turn : Int) (its : List IT) (i : Nat) (hil : i < its.length) (w : World) (hv : SliceI (Under w.heap.size) w v its) (hs : smallI its) (hi : idxI (givenB id turn) its = i) :
    Calls Try.prog 13 #[.agg #[.string name, .int .i64 limit, v], .int .i64 id, .int .i64 turn] w fun e w' => ∃ v', e = .returned (.tuple #[.agg #[.string name, .int .i64 limit, v'], .int .i64 0]) ∧ SliceI (Made w.heap.size w'.heap.size) w' v' (its.eraseIdx i) ∧ Below w.heap.size w w' := by
  have HV : Hid (SliceI (Under w.heap.size) w v its) := hv
  have HS : Hid (smallI its) := hs
  have hlen := hs.1
  obtain ⟨va, vc, rfl⟩ := hv.shp
  clear hv hs
  have two : Hid (∀ o1 o2 : Obj, Below w.heap.size w ((w.alloc o1).alloc o2)) := fun o1 o2 => (below_alloc _ _).alloc (by simp) _
  have HI : Hid (idxI (givenB id turn) its = i) := hi
  clear hi
  obtain ⟨W0, hW0⟩ : ∃ W0, W0 = (w.alloc (.cells #[.string name, .int .i64 limit, .slice va its.length vc] 25)).alloc (.cells #[.string ⟨#[]⟩, .int .i64 0, .slice none 0 0] 25) := ⟨_, rfl⟩
  have hz0 : W0.heap.size = w.heap.size + 2 := by rw [hW0]; simp
  have hb0 : Below w.heap.size w W0 := by rw [hW0]; exact two.out _ _
  have hk0 : Blk W0 w.heap.size [.string name, .int .i64 limit, .slice va its.length vc] := by rw [hW0]; exact (Blk.new _ _ _).alloc _
  have hk1 : Blk W0 (w.heap.size + 1) [.string ⟨#[]⟩, .int .i64 0, .slice none 0 0] := by
    rw [hW0]
    have := Blk.new (w.alloc (.cells #[.string name, .int .i64 limit, .slice va its.length vc] 25)) [.string ⟨#[]⟩, .int .i64 0, .slice none 0 0] 25
    simpa using this
  obtain ⟨a0, a1, a2, a3, a4⟩ := hk0.b3
  obtain ⟨b0, b1, b2, b3, b4⟩ := hk1.b3
  have HK0 : Hid (Blk W0 w.heap.size [.string name, .int .i64 limit, .slice va its.length vc]) := hk0
  have HK : Hid (Below w.heap.size w W0 ∧ Blk W0 (w.heap.size + 1) [.string ⟨#[]⟩, .int .i64 0, .slice none 0 0]) := ⟨hb0, hk1⟩
  clear hb0 hk0 hk1
  go_enter Try.func13, Try.ntmps13
  go_wp2_with fail
  rw [← hW0]
  clear hW0
  go_region_law (first
    | (go_simp; go_at_call 53; refine (givenAs_any id turn _).mono ?_; rintro e w1 ⟨rfl, hg1, hg2, hb1⟩; have hb1' : Below W0.heap.size W0 w1 := ⟨hb1.os, hb1.tape, hb1.output, hb1.size, hb1.block⟩; have hg1' : Blk w1 W0.heap.size [.int .i64 id] := hg1; have hg2' : Blk w1 (W0.heap.size + 1) [.int .i64 turn] := hg2; rw [hz0] at hg1' hg2'; have hz1 := hg2'.lt; obtain ⟨a0', a1', a2', a3', a4'⟩ := (HK0.out.below hb1' (by omega)).b3; clear hg1 hg2 hb1)
    | (go_simp; go_at_call 49; refine (indexI_any 87 [.pointer (some ⟨w.heap.size + 2, 0, none⟩), .pointer (some ⟨w.heap.size + 2 + 1, 0, none⟩)] (givenB id turn) _ its _ (HV.out.sub fun k hk => ⟨Nat.lt_of_lt_of_le hk (by omega), (hb1'.block k (Nat.lt_of_lt_of_le hk (by omega))).trans (HK.out.1.block k hk)⟩) (given_tells' _ _ _ _ id turn hg1' (by omega) hg2' hz1)).mono ?_; rw [HI.out]; rintro e w2 ⟨rfl, hb2⟩; have hb2' : Below W0.heap.size W0 w2 := hb1'.trans (hb2.mono hb1'.size); clear hb2))
  all_goals
    have hz2 := hb2'.size
    obtain ⟨c0, c1, c2, c3, c4⟩ := (HK.out.2.below hb2' (by omega)).b3
    obtain ⟨d0, d1, d2, d3, d4⟩ := (HK0.out.below hb2' (by omega)).b3
    have HV2 : Hid (SliceI (Under w2.heap.size) w2 (.slice va its.length vc) its) := HV.out.sub fun k hk => ⟨Nat.lt_of_lt_of_le hk (by omega), (hb2'.block k (Nat.lt_of_lt_of_le hk (by omega))).trans (HK.out.1.block k hk)⟩
    clear b0 b1 b2 b3 a0 a1 a2 a3 hg1' hg2' a0' a1' a2' a3'
    go_wp2_with (first
      | (go_at_call 47; refine (own_any _ name limit its _ HV2.out HS.out).mono ?_; rintro e w3 ⟨vi, rfl, ho3, hb3⟩; obtain ⟨xa, xc, rfl⟩ := ho3.slice.shp; have hz3 := hb3.size; obtain ⟨e0, e1, e2, e3, e4⟩ := ((HK.out.2.below hb2' (by omega)).below hb3 (by omega)).b3)
      | (go_at_call 55; refine (without_any w2.heap.size _ name limit its i _ ho3 hil hlen).mono ?_; rintro e w4 ⟨v4, rfl, ho4, hg4⟩; obtain ⟨ya, yc, rfl⟩ := ho4.slice.shp; have hz4 := hg4.size; have hbk : ∀ b, b < w2.heap.size → w4.heap[b]? = w3.heap[b]? := (fun b hb => hg4.block b (by omega) (fun e => by obtain ⟨L, -, ho, -⟩ := ho3; have := (ho.lt b e.symm).1; omega)); obtain ⟨f0, f1, f2, f3, f4⟩ := (((HK.out.2.below hb2' (by omega)).below hb3 (by omega)).same (hbk _ (by omega))).b3))
    refine bodyPost_ret (v := .tuple #[.agg #[.string name, .int .i64 limit, .slice ya (its.eraseIdx i).length yc], .int .i64 0]) (by simp [results, Try.results13, go_sem, *]; done) rfl ⟨_, rfl, ?_, ?_⟩
    · refine ho4.made.sub fun k hk => ?_
      obtain ⟨h1, h2⟩ := hk
      refine ⟨⟨by omega, by simpa using h2⟩, ?_⟩
      iterate 3 rw [Below.heap_setCell _ _ _ _ (by simp; omega)]
    · iterate 3 refine Below.setCell ?_ (by simp <;> omega) _
      refine HK.out.1.trans ((hb2'.mono (by omega)).trans ((hb3.mono (by omega)).trans ⟨hg4.os, hg4.tape, hg4.output, hg4.size, fun b hb => hbk b (by omega)⟩))

theorem done_ok (v : Value) (name : ByteArray) (limit id turn : Int) (its : List IT) (i : Nat) (hil : i < its.length) (w : World) (hv : SliceI (Under w.heap.size) w v its) (hs : smallI its) (hi : idxI (givenB id turn) its = i) :
    Calls Try.prog 13 #[.agg #[.string name, .int .i64 limit, v], .int .i64 id, .int .i64 turn] w fun e w' => ∃ v', e = .returned (.tuple #[.agg #[.string name, .int .i64 limit, v'], .int .i64 0]) ∧ SliceI (Under w'.heap.size) w' v' (its.eraseIdx i) ∧ Below w.heap.size w w' :=
  (done_new v name limit id turn its i hil w hv hs hi).mono fun e w' ⟨v', h1, h2, h3⟩ => ⟨v', h1, h2.sub fun k hk => ⟨hk.2, rfl⟩, h3⟩
end Go.Proofs.Ythdaccmjipomdab
