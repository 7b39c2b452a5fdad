/-
  Take; Done: texts laid together.
-/
import Derived.Test.YtkddkpdfeeikhaaJShortProofM04
/-
  queue.Take, queue.Late.
-/
namespace Go.Proofs.Ytkddkpdfeeikhaa
open Go.RowKit
set_option linter.unusedVariables false
set_option linter.unusedSimpArgs false

attribute [local go_sem ↓] Go.wp_at_zero Go.wp_at_succ

theorem indexI_any (F : Nat) (caps : List Value) (p : IT → Bool) (v : Value) (its : List IT) (w : World) (h : SliceI (Under w.heap.size) w v its) (hF : Tells w.heap.size w F caps p) :
    Calls Try.prog 129 #[v, .func (.func F) #[] caps.toArray] w fun e w' => e = .returned (.int .i64 (idxI p its)) ∧ Below w.heap.size w w' := by
  obtain ⟨L, rfl, h⟩ := h
  exact index_any F caps p v L w h hF

theorem SliceI.shp {S : Nat → Prop} {w : World} {v : Value} {its : List IT} (h : SliceI S w v its) : ∃ a cap, v = .slice a its.length cap := by
  obtain ⟨L, rfl, h, -⟩ := h
  obtain ⟨a, cap, rfl, h1, h2, h3⟩ := h.shape
  exact ⟨a, cap, by simp⟩

theorem OwnI.made {base : Nat} {w : World} {v : Value} {its : List IT} (h : OwnI base w v its) : SliceI (Made base w.heap.size) w v its := by
  obtain ⟨L, e, h1, h2⟩ := h
  exact ⟨L, e, (own_slice h1).sub fun k hk => ⟨h1.lt k hk, rfl⟩, fun x hx => (h2 x hx).sub fun b hb => ⟨⟨hb.1, hb.2.1⟩, rfl⟩⟩

theorem Keep.set {S : Nat → Prop} {a w : World} (h : Keep S a w) {p : Addr} (hp : ¬ S p.block) (u : Value) : Keep S a (w.setCell p u) :=
  h.trans (T := S) ⟨rfl, rfl, rfl, by simp, fun k hk => Below.heap_setCell _ _ _ _ (fun e => hp (e ▸ hk))⟩ (fun _ h => h)
theorem Keep.drew {S : Nat → Prop} {a w : World} (h : Keep S a w) : Keep S a w.drew := ⟨h.os, h.tape, h.output, h.size, h.block⟩

def isInB (i : IT) : Bool := !i.out
theorem isIn_tells' (B : Nat) (w0 : World) : Tells B w0 153 [] isInB := isIn_tells B w0

def zItem : Value := .agg #[.int .i64 0, .int .i64 0, .int .i64 0, .bool false, .int .i64 0, .slice none 0 0, .slice none 0 0]

set_option maxRecDepth 100000 in
set_option maxHeartbeats 3200000 in
theorem take_none (v : Value) (name : ByteArray) (limit now : Int) (its : List IT) (w : World) (hv : SliceI (Under w.heap.size) w v its) (hi : idxI isInB its = -1) :
    Calls Try.prog 138 #[.agg #[.string name, .int .i64 limit, v], .int .i64 now] w fun e w' => e = .returned (.tuple #[.agg #[.string ⟨#[]⟩, .int .i64 0, .slice none 0 0], .agg #[.int .i64 0, .int .i64 0, .int .i64 0, .bool false, .int .i64 0, .slice none 0 0, .slice none 0 0], .int .i64 6]) ∧ Below w.heap.size w w' := by
  have HV : Hid (SliceI (Under w.heap.size) w v its) := hv
  obtain ⟨va, vc, rfl⟩ := hv.shp
  clear hv
  have four : Hid (∀ o1 o2 o3 o4 : Obj, Below w.heap.size w ((((w.alloc o1).alloc o2).alloc o3).alloc o4)) := fun o1 o2 o3 o4 => (((below_alloc _ _).alloc (by simp) _).alloc (by simp; omega) _).alloc (by simp; omega) _
  have HI : Hid (idxI isInB its = -1) := hi
  clear hi
  go_enter Try.func138, Try.ntmps138
  go_wp2_with (go_at_call 129; refine (indexI_any 153 [] isInB _ its _ (HV.out.sub fun k hk => ⟨?_, (four.out _ _ _ _).block k hk⟩) (isIn_tells' _ _)).mono ?_; (simp [Under] at hk ⊢; omega); rw [HI.out]; rintro e w1 ⟨rfl, hb1⟩; obtain ⟨b0, b1, b2, b3, b4⟩ := (((Blk.new ((w.alloc _).alloc _) _ 76).alloc _).below hb1 (by simp <;> omega)).b3; obtain ⟨⟨c0, c1, c2, c3⟩, ⟨c4, c5, c6⟩, c7, c8⟩ := ((Blk.new (((w.alloc _).alloc _).alloc _) _ 78).below hb1 (by simp <;> omega)).b7; simp only [World.size_alloc] at b0 b1 b2 b3 b4 c0 c1 c2 c3 c4 c5 c6 c7 c8)
  refine bodyPost_ret (v := .tuple #[.agg #[.string ⟨#[]⟩, .int .i64 0, .slice none 0 0], .agg #[.int .i64 0, .int .i64 0, .int .i64 0, .bool false, .int .i64 0, .slice none 0 0, .slice none 0 0], .int .i64 6]) (by simp [results, Try.results138, go_sem, *]; done) rfl ⟨rfl, ?_⟩
  iterate 10 refine Below.setCell ?_ (by simp <;> omega) _
  exact (four.out _ _ _ _).trans (hb1.mono (by simp; omega))

set_option maxRecDepth 100000 in
set_option maxHeartbeats 3200000 in
theorem take_new (v : Value) (name : ByteArray) (limit now : Int) (hnow : 0 ≤ now ∧ now ≤ 1000000000) (its : List IT) (i : Nat) (hil : i < its.length) (w : World) (hv : SliceI (Under w.heap.size) w v its) (hs : smallI its) (hi : idxI isInB its = i) (hfit : (its[i]).fits) :
    Calls Try.prog 138 #[.agg #[.string name, .int .i64 limit, v], .int .i64 now] w fun e w' => ∃ v' q, e = .returned (.tuple #[.agg #[.string name, .int .i64 limit, v'], (takeI now its[i]).val q, .int .i64 0]) ∧ SliceI (Made w.heap.size w'.heap.size) w' v' (its.set i (takeI now its[i])) ∧ NoteIs (Made w.heap.size w'.heap.size) w' q its[i].note ∧ Below w.heap.size w w' := by
  have HV : Hid (SliceI (Under w.heap.size) w v its) := hv
  have HS : Hid (smallI its) := hs
  obtain ⟨va, vc, rfl⟩ := hv.shp
  have hlen := hs.1
  clear hv hs
  have four : Hid (∀ o1 o2 o3 o4 : Obj, Below w.heap.size w ((((w.alloc o1).alloc o2).alloc o3).alloc o4)) := fun o1 o2 o3 o4 => (((below_alloc _ _).alloc (by simp) _).alloc (by simp; omega) _).alloc (by simp; omega) _
  have HI : Hid (idxI isInB its = i) := hi
  have hFT : Hid (its[i].fits) := hfit
  clear hi hfit
  obtain ⟨it2, hit2⟩ : ∃ it2, it2 = takeI now its[i] := ⟨_, rfl⟩
  have HIT2 : Hid (it2 = takeI now its[i]) := hit2
  clear hit2
  go_enter Try.func138, Try.ntmps138
  go_wp2_with (first
    | (go_at_call 129; refine (indexI_any 153 [] isInB _ its _ (HV.out.sub fun k hk => ⟨?_, (four.out _ _ _ _).block k hk⟩) (isIn_tells' _ _)).mono ?_; (simp [Under] at hk ⊢; omega); rw [HI.out]; rintro e w1 ⟨rfl, hb1⟩; have hk0 := (((((Blk.new w _ 76).alloc _).alloc _).alloc _).below hb1 (by simp <;> omega)); have hk1 := ((((Blk.new (w.alloc _) _ 3).alloc _).alloc _).below hb1 (by simp <;> omega)); have hk2 := (((Blk.new ((w.alloc _).alloc _) _ 76).alloc _).below hb1 (by simp <;> omega)); have hk3 := ((Blk.new (((w.alloc _).alloc _).alloc _) _ 78).below hb1 (by simp <;> omega)); simp only [World.size_alloc] at hk0 hk1 hk2 hk3; have HB1 : Hid (Below w.heap.size w w1) := (four.out _ _ _ _).trans (hb1.mono (by simp; omega)); have hz1 := hb1.size; simp only [World.size_alloc] at hz1; obtain ⟨a0, a1, a2, a3, a4⟩ := hk0.b3; have HK : Hid _ := And.intro hk1 (And.intro hk2 hk3); clear hb1 hk0 hk1 hk2 hk3)
    | (go_at_call 154; refine (changed_any 155 [.pointer (some ⟨w.heap.size + 1, 0, none⟩)] (takeI now) _ name limit its i hil _ (HV.out.sub fun k hk => ⟨Nat.lt_of_lt_of_le hk (by omega), HB1.out.block k hk⟩) HS.out hFT.out rfl (take_changes _ _ _ now HK.out.1 (by omega) hnow)).mono ?_; rintro e w2 ⟨vi, q, rfl, ho2, hn2, hb2⟩; obtain ⟨q1, q2⟩ := q; obtain ⟨xa, xc, rfl⟩ := ho2.slice.shp; obtain ⟨ya, yc, rfl, -⟩ := SliceV.shape hn2.1; obtain ⟨za, zc, rfl, -⟩ := SliceV.shape hn2.2; rw [← HIT2.out]; have hk2 := HK.out.2.1.below hb2 (by omega); have hk3 := HK.out.2.2.below hb2 (by omega); obtain ⟨b0, b1, b2, b3, b4⟩ := hk2.b3; obtain ⟨⟨c0, c1, c2, c3⟩, ⟨c4, c5, c6⟩, c7, c8⟩ := hk3.b7; have HB2 : Hid (Below w.heap.size w w2) := HB1.out.trans (hb2.mono (by omega)); have HO2 : Hid (SliceI (Made w1.heap.size w2.heap.size) w2 (.slice xa (its.set i (takeI now its[i])).length xc) (its.set i (takeI now its[i]))) := ho2.made; have HN2 : Hid (NoteIs (Made w1.heap.size w2.heap.size) w2 (.slice ya its[i].note.props.length yc, .slice za its[i].note.body.length zc) its[i].note) := NoteIs.sub hn2 (fun b hb => ⟨⟨hb.1, hb.2.1⟩, rfl⟩); clear ho2 hn2 hk2 hk3; simp only [IT.val]))
  have hlw : (its.set i (takeI now its[i])).length = its.length := by simp
  rw [hlw] at HO2
  have HE : Hid (∀ W', Keep (fun b => b < w2.heap.size ∧ b ≠ w.heap.size + 1 + 1 ∧ b ≠ w.heap.size + 1 + 1 + 1) w2 W' → SliceI (Made w.heap.size W'.heap.size) W' (.slice xa its.length xc) (its.set i (takeI now its[i])) ∧ NoteIs (Made w.heap.size W'.heap.size) W' (.slice ya its[i].note.props.length yc, .slice za its[i].note.body.length zc) its[i].note ∧ Below w.heap.size w W') := fun W' hW =>
    ⟨HO2.out.sub fun k hk => ⟨⟨by have := hk.1; omega, Nat.lt_of_lt_of_le hk.2 hW.size⟩, hW.block k ⟨hk.2, by have := hk.1; omega, by have := hk.1; omega⟩⟩, HN2.out.sub fun k hk => ⟨⟨by have := hk.1; omega, Nat.lt_of_lt_of_le hk.2 hW.size⟩, hW.block k ⟨hk.2, by have := hk.1; omega, by have := hk.1; omega⟩⟩,
      HB2.out.trans ⟨hW.os, hW.tape, hW.output, hW.size, fun k hk => hW.block k ⟨by have := HB2.out.size; omega, by omega, by omega⟩⟩⟩
  have hz2 := hb2.size
  obtain ⟨W3, hW3⟩ : ∃ W3, W3 = (w2.alloc (.cells #[.string name, .int .i64 limit, .slice xa its.length xc] 76)).alloc (.cells #[.int .i64 it2.id, .int .i64 it2.turn, .int .i64 it2.tries, .bool it2.out, .int .i64 it2.due, .slice ya its[i].note.props.length yc, .slice za its[i].note.body.length zc] 78) := ⟨_, rfl⟩
  have hzW : W3.heap.size = w2.heap.size + 2 := by rw [hW3]; simp
  have hbW : Below w2.heap.size w2 W3 := by rw [hW3]; exact (below_alloc _ _).alloc (by simp) _
  have hq : Blk W3 w2.heap.size [.string name, .int .i64 limit, .slice xa its.length xc] := by rw [hW3]; exact (Blk.new _ _ _).alloc _
  have hr : Blk W3 (w2.heap.size + 1) [.int .i64 it2.id, .int .i64 it2.turn, .int .i64 it2.tries, .bool it2.out, .int .i64 it2.due, .slice ya its[i].note.props.length yc, .slice za its[i].note.body.length zc] := by
    rw [hW3]
    have := Blk.new (w2.alloc (.cells #[.string name, .int .i64 limit, .slice xa its.length xc] 76)) [.int .i64 it2.id, .int .i64 it2.turn, .int .i64 it2.tries, .bool it2.out, .int .i64 it2.due, .slice ya its[i].note.props.length yc, .slice za its[i].note.body.length zc] 78
    simpa using this
  rw [← hW3]
  have HBW : Hid (Below w2.heap.size w2 W3) := hbW
  obtain ⟨d0, d1, d2, d3, d4⟩ := ((HK.out.2.1.below hb2 (by omega)).below hbW (by omega)).b3
  obtain ⟨⟨e0, e1, e2, e3⟩, ⟨e4, e5, e6⟩, e7, e8⟩ := ((HK.out.2.2.below hb2 (by omega)).below hbW (by omega)).b7
  obtain ⟨f0, f1, f2, f3, f4⟩ := hq.b3
  obtain ⟨⟨g0, g1, g2, g3⟩, ⟨g4, g5, g6⟩, g7, g8⟩ := hr.b7
  clear HO2 HN2 HB1 HV hb2 hlw hW3 hbW hq hr b0 b1 b2 b3 c0 c1 c2 c3 c4 c5 c6 c7
  go_region_law (fail)
  all_goals go_wp2
  all_goals
    refine bodyPost_ret (v := .tuple #[.agg #[.string name, .int .i64 limit, .slice xa its.length xc], .agg #[.int .i64 it2.id, .int .i64 it2.turn, .int .i64 it2.tries, .bool it2.out, .int .i64 it2.due, .slice ya its[i].note.props.length yc, .slice za its[i].note.body.length zc], .int .i64 0]) (by simp [results, Try.results138, go_sem, *]; done) rfl ?_
    have e2 : (takeI now its[i]).val (.slice ya its[i].note.props.length yc, .slice za its[i].note.body.length zc) = .agg #[.int .i64 it2.id, .int .i64 it2.turn, .int .i64 it2.tries, .bool it2.out, .int .i64 it2.due, .slice ya its[i].note.props.length yc, .slice za its[i].note.body.length zc] := by rw [← HIT2.out]; rfl
    refine ⟨.slice xa its.length xc, (.slice ya its[i].note.props.length yc, .slice za its[i].note.body.length zc), by rw [e2], ?_⟩
    refine HE.out _ ?_
    refine Keep.drew ?_
    iterate 10 refine Keep.set ?_ (by simp) _
    exact Keep.of HBW.out (fun k h => h.1)

theorem take_ok (v : Value) (name : ByteArray) (limit now : Int) (hnow : 0 ≤ now ∧ now ≤ 1000000000) (its : List IT) (i : Nat) (hil : i < its.length) (w : World) (hv : SliceI (Under w.heap.size) w v its) (hs : smallI its) (hi : idxI isInB its = i) (hfit : (its[i]).fits) :
    Calls Try.prog 138 #[.agg #[.string name, .int .i64 limit, v], .int .i64 now] w fun e w' => ∃ v' q, e = .returned (.tuple #[.agg #[.string name, .int .i64 limit, v'], (takeI now its[i]).val q, .int .i64 0]) ∧ SliceI (Under w'.heap.size) w' v' (its.set i (takeI now its[i])) ∧ NoteIs (Under w'.heap.size) w' q its[i].note ∧ Below w.heap.size w w' :=
  (take_new v name limit now hnow its i hil w hv hs hi hfit).mono fun e w' ⟨v', q, h1, h2, h3, h4⟩ => ⟨v', q, h1, h2.sub fun k hk => ⟨hk.2, rfl⟩, h3.sub fun k hk => ⟨hk.2, rfl⟩, h4⟩
end Go.Proofs.Ytkddkpdfeeikhaa

/-
  queue.Done.
-/
namespace Go.Proofs.Ytkddkpdfeeikhaa
open Go.RowKit
set_option linter.unusedVariables false
set_option linter.unusedSimpArgs false

attribute [local go_sem ↓] Go.wp_at_zero Go.wp_at_succ

def givenB (id turn : Int) (i : IT) : Bool := i.out && (i.id == id) && (i.turn == turn)

theorem given_tells' (B : Nat) (w0 : World) (g h : Nat) (id turn : Int) (hg : Blk w0 g [.int .i64 id]) (hl : g < B) (hh : Blk w0 h [.int .i64 turn]) (hm : h < B) : Tells B w0 167 [.pointer (some ⟨g, 0, none⟩), .pointer (some ⟨h, 0, none⟩)] (givenB id turn) := given_tells B w0 g h id turn hg hl hh hm

set_option maxRecDepth 100000 in
set_option maxHeartbeats 3200000 in
theorem done_none (v : Value) (name : ByteArray) (limit id turn : Int) (its : List IT) (w : World) (hv : SliceI (Under w.heap.size) w v its) (hi : idxI (givenB id turn) its = -1) :
    Calls Try.prog 157 #[.agg #[.string name, .int .i64 limit, v], .int .i64 id, .int .i64 turn] w fun e w' => e = .returned (.tuple #[.agg #[.string ⟨#[]⟩, .int .i64 0, .slice none 0 0], .int .i64 6]) ∧ Below w.heap.size w w' := by
  have HV : Hid (SliceI (Under w.heap.size) w v its) := hv
  obtain ⟨va, vc, rfl⟩ := hv.shp
  clear hv
  have two : Hid (∀ o1 o2 : Obj, Below w.heap.size w ((w.alloc o1).alloc o2)) := fun o1 o2 => (below_alloc _ _).alloc (by simp) _
  have HI : Hid (idxI (givenB id turn) its = -1) := hi
  clear hi
  obtain ⟨W0, hW0⟩ : ∃ W0, W0 = (w.alloc (.cells #[.string name, .int .i64 limit, .slice va its.length vc] 76)).alloc (.cells #[.string ⟨#[]⟩, .int .i64 0, .slice none 0 0] 76) := ⟨_, rfl⟩
  have hz0 : W0.heap.size = w.heap.size + 2 := by rw [hW0]; simp
  have hb0 : Below w.heap.size w W0 := by rw [hW0]; exact two.out _ _
  have hk0 : Blk W0 w.heap.size [.string name, .int .i64 limit, .slice va its.length vc] := by rw [hW0]; exact (Blk.new _ _ _).alloc _
  have hk1 : Blk W0 (w.heap.size + 1) [.string ⟨#[]⟩, .int .i64 0, .slice none 0 0] := by
    rw [hW0]
    have := Blk.new (w.alloc (.cells #[.string name, .int .i64 limit, .slice va its.length vc] 76)) [.string ⟨#[]⟩, .int .i64 0, .slice none 0 0] 76
    simpa using this
  obtain ⟨a0, a1, a2, a3, a4⟩ := hk0.b3
  obtain ⟨b0, b1, b2, b3, b4⟩ := hk1.b3
  have HK0 : Hid (Blk W0 w.heap.size [.string name, .int .i64 limit, .slice va its.length vc]) := hk0
  have HK : Hid (Below w.heap.size w W0 ∧ Blk W0 (w.heap.size + 1) [.string ⟨#[]⟩, .int .i64 0, .slice none 0 0]) := ⟨hb0, hk1⟩
  clear hb0 hk0 hk1
  go_enter Try.func157, Try.ntmps157
  go_wp2_with fail
  rw [← hW0]
  clear hW0
  go_region_law (first
    | (go_simp; go_at_call 164; refine (givenAs_any id turn _).mono ?_; rintro e w1 ⟨rfl, hg1, hg2, hb1⟩; have hb1' : Below W0.heap.size W0 w1 := ⟨hb1.os, hb1.tape, hb1.output, hb1.size, hb1.block⟩; have hg1' : Blk w1 W0.heap.size [.int .i64 id] := hg1; have hg2' : Blk w1 (W0.heap.size + 1) [.int .i64 turn] := hg2; rw [hz0] at hg1' hg2'; have hz1 := hg2'.lt; obtain ⟨a0', a1', a2', a3', a4'⟩ := (HK0.out.below hb1' (by omega)).b3; clear hg1 hg2 hb1)
    | (go_simp; go_at_call 129; refine (indexI_any 167 [.pointer (some ⟨w.heap.size + 2, 0, none⟩), .pointer (some ⟨w.heap.size + 2 + 1, 0, none⟩)] (givenB id turn) _ its _ (HV.out.sub fun k hk => ⟨Nat.lt_of_lt_of_le hk (by omega), (hb1'.block k (Nat.lt_of_lt_of_le hk (by omega))).trans (HK.out.1.block k hk)⟩) (given_tells' _ _ _ _ id turn hg1' (by omega) hg2' hz1)).mono ?_; rw [HI.out]; rintro e w2 ⟨rfl, hb2⟩; have hb2' : Below W0.heap.size W0 w2 := hb1'.trans (hb2.mono hb1'.size); clear hb2))
  all_goals
    have hz2 := hb2'.size
    obtain ⟨c0, c1, c2, c3, c4⟩ := (HK.out.2.below hb2' (by omega)).b3
    clear b0 b1 b2 b3
    go_wp2
    refine bodyPost_ret (v := .tuple #[.agg #[.string ⟨#[]⟩, .int .i64 0, .slice none 0 0], .int .i64 6]) (by simp [results, Try.results157, go_sem, *]; done) rfl ⟨rfl, ?_⟩
    iterate 3 refine Below.setCell ?_ (by simp <;> omega) _
    exact HK.out.1.trans (hb2'.mono (by omega))

set_option maxRecDepth 100000 in
set_option maxHeartbeats 3200000 in
theorem done_new (v : Value) (name : ByteArray) (limit id turn : Int) (its : List IT) (i : Nat) (hil : i < its.length) (w : World) (hv : SliceI (Under w.heap.size) w v its) (hs : smallI its) (hi : idxI (givenB id turn) its = i) :
    Calls Try.prog 157 #[.agg #[.string name, .int .i64 limit, v], .int .i64 id, .int .i64 turn] w fun e w' => ∃ v', e = .returned (.tuple #[.agg #[.string name, .int .i64 limit, v'], .int .i64 0]) ∧ SliceI (Made w.heap.size w'.heap.size) w' v' (its.eraseIdx i) ∧ Below w.heap.size w w' := by
  have HV : Hid (SliceI (Under w.heap.size) w v its) := hv
  have HS : Hid (smallI its) := hs
  have hlen := hs.1
  obtain ⟨va, vc, rfl⟩ := hv.shp
  clear hv hs
  have two : Hid (∀ o1 o2 : Obj, Below w.heap.size w ((w.alloc o1).alloc o2)) := fun o1 o2 => (below_alloc _ _).alloc (by simp) _
  have HI : Hid (idxI (givenB id turn) its = i) := hi
  clear hi
  obtain ⟨W0, hW0⟩ : ∃ W0, W0 = (w.alloc (.cells #[.string name, .int .i64 limit, .slice va its.length vc] 76)).alloc (.cells #[.string ⟨#[]⟩, .int .i64 0, .slice none 0 0] 76) := ⟨_, rfl⟩
  have hz0 : W0.heap.size = w.heap.size + 2 := by rw [hW0]; simp
  have hb0 : Below w.heap.size w W0 := by rw [hW0]; exact two.out _ _
  have hk0 : Blk W0 w.heap.size [.string name, .int .i64 limit, .slice va its.length vc] := by rw [hW0]; exact (Blk.new _ _ _).alloc _
  have hk1 : Blk W0 (w.heap.size + 1) [.string ⟨#[]⟩, .int .i64 0, .slice none 0 0] := by
    rw [hW0]
    have := Blk.new (w.alloc (.cells #[.string name, .int .i64 limit, .slice va its.length vc] 76)) [.string ⟨#[]⟩, .int .i64 0, .slice none 0 0] 76
    simpa using this
  obtain ⟨a0, a1, a2, a3, a4⟩ := hk0.b3
  obtain ⟨b0, b1, b2, b3, b4⟩ := hk1.b3
  have HK0 : Hid (Blk W0 w.heap.size [.string name, .int .i64 limit, .slice va its.length vc]) := hk0
  have HK : Hid (Below w.heap.size w W0 ∧ Blk W0 (w.heap.size + 1) [.string ⟨#[]⟩, .int .i64 0, .slice none 0 0]) := ⟨hb0, hk1⟩
  clear hb0 hk0 hk1
  go_enter Try.func157, Try.ntmps157
  go_wp2_with fail
  rw [← hW0]
  clear hW0
  go_region_law (first
    | (go_simp; go_at_call 164; refine (givenAs_any id turn _).mono ?_; rintro e w1 ⟨rfl, hg1, hg2, hb1⟩; have hb1' : Below W0.heap.size W0 w1 := ⟨hb1.os, hb1.tape, hb1.output, hb1.size, hb1.block⟩; have hg1' : Blk w1 W0.heap.size [.int .i64 id] := hg1; have hg2' : Blk w1 (W0.heap.size + 1) [.int .i64 turn] := hg2; rw [hz0] at hg1' hg2'; have hz1 := hg2'.lt; obtain ⟨a0', a1', a2', a3', a4'⟩ := (HK0.out.below hb1' (by omega)).b3; clear hg1 hg2 hb1)
    | (go_simp; go_at_call 129; refine (indexI_any 167 [.pointer (some ⟨w.heap.size + 2, 0, none⟩), .pointer (some ⟨w.heap.size + 2 + 1, 0, none⟩)] (givenB id turn) _ its _ (HV.out.sub fun k hk => ⟨Nat.lt_of_lt_of_le hk (by omega), (hb1'.block k (Nat.lt_of_lt_of_le hk (by omega))).trans (HK.out.1.block k hk)⟩) (given_tells' _ _ _ _ id turn hg1' (by omega) hg2' hz1)).mono ?_; rw [HI.out]; rintro e w2 ⟨rfl, hb2⟩; have hb2' : Below W0.heap.size W0 w2 := hb1'.trans (hb2.mono hb1'.size); clear hb2))
  all_goals
    have hz2 := hb2'.size
    obtain ⟨c0, c1, c2, c3, c4⟩ := (HK.out.2.below hb2' (by omega)).b3
    obtain ⟨d0, d1, d2, d3, d4⟩ := (HK0.out.below hb2' (by omega)).b3
    have HV2 : Hid (SliceI (Under w2.heap.size) w2 (.slice va its.length vc) its) := HV.out.sub fun k hk => ⟨Nat.lt_of_lt_of_le hk (by omega), (hb2'.block k (Nat.lt_of_lt_of_le hk (by omega))).trans (HK.out.1.block k hk)⟩
    clear b0 b1 b2 b3 a0 a1 a2 a3 hg1' hg2' a0' a1' a2' a3'
    go_wp2_with (first
      | (go_at_call 87; refine (own_any _ name limit its _ HV2.out HS.out).mono ?_; rintro e w3 ⟨vi, rfl, ho3, hb3⟩; obtain ⟨xa, xc, rfl⟩ := ho3.slice.shp; have hz3 := hb3.size; obtain ⟨e0, e1, e2, e3, e4⟩ := ((HK.out.2.below hb2' (by omega)).below hb3 (by omega)).b3)
      | (go_at_call 166; refine (without_any w2.heap.size _ name limit its i _ ho3 hil hlen).mono ?_; rintro e w4 ⟨v4, rfl, ho4, hg4⟩; obtain ⟨ya, yc, rfl⟩ := ho4.slice.shp; have hz4 := hg4.size; have hbk : ∀ b, b < w2.heap.size → w4.heap[b]? = w3.heap[b]? := (fun b hb => hg4.block b (by omega) (fun e => by obtain ⟨L, -, ho, -⟩ := ho3; have := (ho.lt b e.symm).1; omega)); obtain ⟨f0, f1, f2, f3, f4⟩ := (((HK.out.2.below hb2' (by omega)).below hb3 (by omega)).same (hbk _ (by omega))).b3))
    refine bodyPost_ret (v := .tuple #[.agg #[.string name, .int .i64 limit, .slice ya (its.eraseIdx i).length yc], .int .i64 0]) (by simp [results, Try.results157, go_sem, *]; done) rfl ⟨_, rfl, ?_, ?_⟩
    · refine ho4.made.sub fun k hk => ?_
      obtain ⟨h1, h2⟩ := hk
      refine ⟨⟨by omega, by simpa using h2⟩, ?_⟩
      iterate 3 rw [Below.heap_setCell _ _ _ _ (by simp; omega)]
    · iterate 3 refine Below.setCell ?_ (by simp <;> omega) _
      refine HK.out.1.trans ((hb2'.mono (by omega)).trans ((hb3.mono (by omega)).trans ⟨hg4.os, hg4.tape, hg4.output, hg4.size, fun b hb => hbk b (by omega)⟩))

theorem done_ok (v : Value) (name : ByteArray) (limit id turn : Int) (its : List IT) (i : Nat) (hil : i < its.length) (w : World) (hv : SliceI (Under w.heap.size) w v its) (hs : smallI its) (hi : idxI (givenB id turn) its = i) :
    Calls Try.prog 157 #[.agg #[.string name, .int .i64 limit, v], .int .i64 id, .int .i64 turn] w fun e w' => ∃ v', e = .returned (.tuple #[.agg #[.string name, .int .i64 limit, v'], .int .i64 0]) ∧ SliceI (Under w'.heap.size) w' v' (its.eraseIdx i) ∧ Below w.heap.size w w' :=
  (done_new v name limit id turn its i hil w hv hs hi).mono fun e w' ⟨v', h1, h2, h3⟩ => ⟨v', h1, h2.sub fun k hk => ⟨hk.2, rfl⟩, h3⟩
end Go.Proofs.Ytkddkpdfeeikhaa
