/-
  Back's two answers, and where they lie.
-/
import Derived.Test.YtefankjmlbkldaaBackS
namespace Go.Proofs.Ytefankjmlbkldaa
open Go.RowKit
set_option linter.unusedVariables false
set_option linter.unusedSimpArgs false

attribute [local go_sem ↓] Go.wp_at_zero Go.wp_at_succ

set_option maxRecDepth 100000 in
set_option maxHeartbeats 3200000 in
theorem back_deadM (v : Value) (name : ByteArray) (limit id turn : Int) (its : List IT) (i : Nat) (hil : i < its.length) (w : World) (hv : SliceI (Under w.heap.size) w v its) (hs : smallI its) (hi : idxI (givenB id turn) its = i) (hfit : (its[i]).fits) (htr : ¬ (backI its[i]).tries < 3) :
    Calls Try.prog 45 #[.agg #[.string name, .int .i64 limit, v], .int .i64 id, .int .i64 turn] w fun e w' => ∃ v' q, e = .returned (.tuple #[.agg #[.string name, .int .i64 limit, v'], (backI its[i]).val q, .bool true, .int .i64 0]) ∧ SliceI (Made w.heap.size w'.heap.size) w' v' (its.eraseIdx i) ∧ NoteIs (Under w'.heap.size) w' q its[i].note ∧ Below w.heap.size w w' := by
  have HV : Hid (SliceI (Under w.heap.size) w v its) := hv
  obtain ⟨va, vc, rfl⟩ := hv.shp
  have HS : Hid (smallI its) := hs
  have hlen := hs.1
  clear hv hs
  have hFT : Hid (its[i].fits) := hfit
  obtain ⟨it2, hit2⟩ : ∃ it2, it2 = backI its[i] := ⟨_, rfl⟩
  have HIT2 : Hid (it2 = backI its[i]) := hit2
  have htr' : ¬ it2.tries < 3 := by rw [hit2]; exact htr
  clear hit2 hfit htr
  have three : Hid (∀ o1 o2 o3 : Obj, Below w.heap.size w (((w.alloc o1).alloc o2).alloc o3)) := fun o1 o2 o3 => ((below_alloc _ _).alloc (by simp) _).alloc (by simp; omega) _
  have HI : Hid (idxI (givenB id turn) its = i) := hi
  clear hi
  obtain ⟨W0, hW0⟩ : ∃ W0, W0 = ((w.alloc (.cells #[.string name, .int .i64 limit, .slice va its.length vc] 54)).alloc (.cells #[.string ⟨#[]⟩, .int .i64 0, .slice none 0 0] 54)).alloc (.cells #[.int .i64 0, .int .i64 0, .int .i64 0, .bool false, .int .i64 0, .slice none 0 0, .slice none 0 0] 64) := ⟨_, rfl⟩
  have hz0 : W0.heap.size = w.heap.size + 3 := by rw [hW0]; simp
  have hb0 : Below w.heap.size w W0 := by rw [hW0]; exact three.out _ _ _
  have hk0 : Blk W0 w.heap.size [.string name, .int .i64 limit, .slice va its.length vc] := by rw [hW0]; exact ((Blk.new _ _ _).alloc _).alloc _
  have hk1 : Blk W0 (w.heap.size + 1) [.string ⟨#[]⟩, .int .i64 0, .slice none 0 0] := by
    rw [hW0]
    have := (Blk.new (w.alloc (.cells #[.string name, .int .i64 limit, .slice va its.length vc] 54)) [.string ⟨#[]⟩, .int .i64 0, .slice none 0 0] 54).alloc (.cells #[.int .i64 0, .int .i64 0, .int .i64 0, .bool false, .int .i64 0, .slice none 0 0, .slice none 0 0] 64)
    simpa using this
  have hk2 : Blk W0 (w.heap.size + 1 + 1) [.int .i64 0, .int .i64 0, .int .i64 0, .bool false, .int .i64 0, .slice none 0 0, .slice none 0 0] := by
    rw [hW0]
    have := Blk.new ((w.alloc (.cells #[.string name, .int .i64 limit, .slice va its.length vc] 54)).alloc (.cells #[.string ⟨#[]⟩, .int .i64 0, .slice none 0 0] 54)) [.int .i64 0, .int .i64 0, .int .i64 0, .bool false, .int .i64 0, .slice none 0 0, .slice none 0 0] 64
    simpa using this
  obtain ⟨a0, a1, a2, a3, a4⟩ := hk0.b3
  have HK0 : Hid (Blk W0 w.heap.size [.string name, .int .i64 limit, .slice va its.length vc]) := hk0
  have HK : Hid (Below w.heap.size w W0 ∧ Blk W0 (w.heap.size + 1) [.string ⟨#[]⟩, .int .i64 0, .slice none 0 0] ∧ Blk W0 (w.heap.size + 1 + 1) [.int .i64 0, .int .i64 0, .int .i64 0, .bool false, .int .i64 0, .slice none 0 0, .slice none 0 0]) := ⟨hb0, hk1, hk2⟩
  clear hb0 hk0 hk1 hk2
  go_enter Try.func45, Try.ntmps45
  go_wp2_with fail
  rw [← hW0]
  clear hW0
  go_region_law (first
    | (go_simp; go_at_call 75; refine (givenAs_any id turn _).mono ?_; rintro e w1 ⟨rfl, hg1, hg2, hb1⟩; have hb1' : Below W0.heap.size W0 w1 := ⟨hb1.os, hb1.tape, hb1.output, hb1.size, hb1.block⟩; have hg1' : Blk w1 W0.heap.size [.int .i64 id] := hg1; have hg2' : Blk w1 (W0.heap.size + 1) [.int .i64 turn] := hg2; rw [hz0] at hg1' hg2'; have hz1 := hg2'.lt; obtain ⟨a0', a1', a2', a3', a4'⟩ := (HK0.out.below hb1' (by omega)).b3; clear hg1 hg2 hb1)
    | (go_simp; go_at_call 70; refine (indexI_any 90 [.pointer (some ⟨w.heap.size + 3, 0, none⟩), .pointer (some ⟨w.heap.size + 3 + 1, 0, none⟩)] (givenB id turn) _ its _ (HV.out.sub fun k hk => ⟨Nat.lt_of_lt_of_le hk (by omega), (hb1'.block k (Nat.lt_of_lt_of_le hk (by omega))).trans (HK.out.1.block k hk)⟩) (given_tells' _ _ _ _ id turn hg1' (by omega) hg2' hz1)).mono ?_; rw [HI.out]; rintro e w2 ⟨rfl, hb2⟩; have hb2' : Below W0.heap.size W0 w2 := hb1'.trans (hb2.mono hb1'.size); clear hb2))
  all_goals
    have hz2 := hb2'.size
    obtain ⟨c0, c1, c2, c3, c4⟩ := (HK.out.2.1.below hb2' (by omega)).b3
    obtain ⟨⟨y0, y1, y2, y3⟩, ⟨y4, y5, y6⟩, y7, y8⟩ := (HK.out.2.2.below hb2' (by omega)).b7
    obtain ⟨d0, d1, d2, d3, d4⟩ := (HK0.out.below hb2' (by omega)).b3
    have HV2 : Hid (SliceI (Under w2.heap.size) w2 (.slice va its.length vc) its) := HV.out.sub fun k hk => ⟨Nat.lt_of_lt_of_le hk (by omega), (hb2'.block k (Nat.lt_of_lt_of_le hk (by omega))).trans (HK.out.1.block k hk)⟩
    clear a0 a1 a2 a3 hg1' hg2' a0' a1' a2' a3'
    go_wp2_with (first
      | (go_at_call 72; refine (changed_any 77 [] backI _ name limit its i hil _ HV2.out HS.out hFT.out rfl (back_changes _ _)).mono ?_; rintro e w3 ⟨vi, q, rfl, ho3, hn3, hb3⟩; obtain ⟨q1, q2⟩ := q; obtain ⟨xa, xc, rfl⟩ := ho3.slice.shp; obtain ⟨ya, yc, rfl, -⟩ := SliceV.shape hn3.1; obtain ⟨za, zc, rfl, -⟩ := SliceV.shape hn3.2; rw [← HIT2.out]; have hz3 := hb3.size; obtain ⟨e0, e1, e2, e3⟩ := ((HK.out.2.1.below hb2' (by omega)).below hb3 (by omega)).c3; obtain ⟨f0, f1, f2, f3, f4, f5, f6, f7⟩ := ((HK.out.2.2.below hb2' (by omega)).below hb3 (by omega)).c7; clear c0 c1 c2 c3 y0 y1 y2 y3 y4 y5 y6 y7 d0 d1 d2 d3; simp only [IT.val])
      | fail)
    have hlw : (its.set i (backI its[i])).length = its.length := by simp
    have her : (its.set i (backI its[i])).eraseIdx i = its.eraseIdx i := by
      rw [List.eraseIdx_eq_take_drop_succ, List.eraseIdx_eq_take_drop_succ, List.take_set_of_le (Nat.le_refl _), List.drop_set_of_lt (by omega)]
    obtain ⟨W3, hW3⟩ : ∃ W3, W3 = (w3.alloc (.cells #[.string name, .int .i64 limit, .slice xa its.length xc] 54)).alloc (.cells #[.int .i64 it2.id, .int .i64 it2.turn, .int .i64 it2.tries, .bool it2.out, .int .i64 it2.due, .slice ya its[i].note.props.length yc, .slice za its[i].note.body.length zc] 64) := ⟨_, rfl⟩
    have hzW : W3.heap.size = w3.heap.size + 2 := by rw [hW3]; simp
    have hbW : Below w3.heap.size w3 W3 := by rw [hW3]; exact (below_alloc _ _).alloc (by simp) _
    have hq : Blk W3 w3.heap.size [.string name, .int .i64 limit, .slice xa its.length xc] := by rw [hW3]; exact (Blk.new _ _ _).alloc _
    have hr : Blk W3 (w3.heap.size + 1) [.int .i64 it2.id, .int .i64 it2.turn, .int .i64 it2.tries, .bool it2.out, .int .i64 it2.due, .slice ya its[i].note.props.length yc, .slice za its[i].note.body.length zc] := by
      rw [hW3]
      have := Blk.new (w3.alloc (.cells #[.string name, .int .i64 limit, .slice xa its.length xc] 54)) [.int .i64 it2.id, .int .i64 it2.turn, .int .i64 it2.tries, .bool it2.out, .int .i64 it2.due, .slice ya its[i].note.props.length yc, .slice za its[i].note.body.length zc] 64
      simpa using this
    rw [hlw] at ho3 hn3
    have HO3 : Hid (OwnI w2.heap.size W3 (.slice xa its.length xc) (its.set i (backI its[i]))) := ho3.kept hbW.size (fun k _ hk => hbW.block k hk)
    have HN3 : Hid (NoteIs (fun b => w2.heap.size ≤ b ∧ b < w3.heap.size ∧ (Value.slice xa its.length xc).ownBlock ≠ some b) W3 (.slice ya its[i].note.props.length yc, .slice za its[i].note.body.length zc) its[i].note) := NoteIs.sub hn3 (fun b hb => ⟨hb, hbW.block b hb.2.1⟩)
    have HOW : Hid (∀ b, (Value.slice xa its.length xc).ownBlock = some b → w2.heap.size ≤ b ∧ b < w3.heap.size) := fun b hb => by
      obtain ⟨L, -, ho, -⟩ := ho3
      exact ho.lt b hb
    have HB3 : Hid (Below w.heap.size w W3) := HK.out.1.trans ((hb2'.mono (by omega)).trans ((hb3.mono (by omega)).trans (hbW.mono (by omega))))
    have HZ : Hid (Blk W3 (w.heap.size + 1) [.string ⟨#[]⟩, .int .i64 0, .slice none 0 0] ∧ Blk W3 (w.heap.size + 1 + 1) [.int .i64 0, .int .i64 0, .int .i64 0, .bool false, .int .i64 0, .slice none 0 0, .slice none 0 0] ∧ Blk W3 w3.heap.size [.string name, .int .i64 limit, .slice xa its.length xc] ∧ Blk W3 (w3.heap.size + 1) [.int .i64 it2.id, .int .i64 it2.turn, .int .i64 it2.tries, .bool it2.out, .int .i64 it2.due, .slice ya its[i].note.props.length yc, .slice za its[i].note.body.length zc]) :=
      ⟨((HK.out.2.1.below hb2' (by omega)).below hb3 (by omega)).below hbW (by omega), ((HK.out.2.2.below hb2' (by omega)).below hb3 (by omega)).below hbW (by omega), hq, hr⟩
    obtain ⟨g0, g1, g2, g3, g4⟩ := hq.b3
    obtain ⟨⟨h0, h1, h2, h3⟩, ⟨h4, h5, h6⟩, h7, h8⟩ := hr.b7
    obtain ⟨k0, k1, k2, k3, k4⟩ := HZ.out.1.b3
    obtain ⟨⟨l0, l1, l2, l3⟩, ⟨l4, l5, l6⟩, l7, l8⟩ := HZ.out.2.1.b7
    rw [← hW3]
    clear hW3 hq hr hbW ho3 hn3 hb3 e0 e1 e2 e3 f0 f1 f2 f3 f4 f5 f6 f7 hlw HV HV2
    go_region_law (first
      | (go_simp; go_at_call 76; refine (without_any w2.heap.size _ name limit (its.set i (backI its[i])) i _ ?_ (by simpa using hil) (by simpa using hlen)).mono ?_; (exact HO3.out.kept (Nat.le_refl _) (fun _ _ _ => rfl)); rw [her]; rintro e w4 ⟨v4, rfl, ho4, hg4⟩; obtain ⟨ua, uc, rfl⟩ := ho4.slice.shp; have hg4' : W3.grownBy w4 (Value.slice xa its.length xc).ownBlock := ⟨hg4.os, hg4.tape, hg4.output, hg4.size, hg4.block⟩; have hz4 := hg4'.size; have hbk : ∀ b, b < W3.heap.size → (Value.slice xa its.length xc).ownBlock ≠ some b → w4.heap[b]? = W3.heap[b]? := (fun b hb hn => hg4'.block b hb (fun e => hn e.symm)); have hno : ∀ b, b < w2.heap.size ∨ w3.heap.size ≤ b → (Value.slice xa its.length xc).ownBlock ≠ some b := (fun b hb e => by have := HOW.out b e; omega); obtain ⟨m0, m1, m2, m3, m4⟩ := (HZ.out.1.same (hbk _ (by omega) (hno _ (by omega)))).b3; obtain ⟨⟨n0, n1, n2, n3⟩, ⟨n4, n5, n6⟩, n7, n8⟩ := (HZ.out.2.1.same (hbk _ (by omega) (hno _ (by omega)))).b7; obtain ⟨⟨r0, r1, r2, r3⟩, ⟨r4, r5, r6⟩, r7, r8⟩ := (HZ.out.2.2.2.same (hbk _ (by omega) (hno _ (by omega)))).b7; clear hg4))
    all_goals
      clear g0 g1 g2 g3 h0 h1 h2 h3 h4 h5 h6 h7 k0 k1 k2 k3 l0 l1 l2 l3 l4 l5 l6 l7
      go_wp2
      refine bodyPost_ret (v := .tuple #[.agg #[.string name, .int .i64 limit, .slice ua (its.eraseIdx i).length uc], .agg #[.int .i64 it2.id, .int .i64 it2.turn, .int .i64 it2.tries, .bool it2.out, .int .i64 it2.due, .slice ya its[i].note.props.length yc, .slice za its[i].note.body.length zc], .bool true, .int .i64 0]) (by simp [results, Try.results45, go_sem, *]; done) rfl ?_
      have e2 : (backI its[i]).val (.slice ya its[i].note.props.length yc, .slice za its[i].note.body.length zc) = .agg #[.int .i64 it2.id, .int .i64 it2.turn, .int .i64 it2.tries, .bool it2.out, .int .i64 it2.due, .slice ya its[i].note.props.length yc, .slice za its[i].note.body.length zc] := by rw [← HIT2.out]; rfl
      refine ⟨_, (.slice ya its[i].note.props.length yc, .slice za its[i].note.body.length zc), by rw [e2], ?_, ?_, ?_⟩
      · refine ho4.made.sub fun k hk => ?_
        obtain ⟨p1, p2⟩ := hk
        refine ⟨⟨by omega, by simpa using p2⟩, ?_⟩
        iterate 10 rw [Below.heap_setCell _ _ _ _ (by simp; omega)]
      · refine HN3.out.sub fun k hk => ?_
        obtain ⟨p1, p2, p3⟩ := hk
        refine ⟨by show k < _; simp; omega, ?_⟩
        iterate 10 rw [Below.heap_setCell _ _ _ _ (by simp; omega)]
        exact hbk k (by omega) p3
      · iterate 10 refine Below.setCell ?_ (by simp <;> omega) _
        exact HB3.out.trans ⟨hg4'.os, hg4'.tape, hg4'.output, hg4'.size, fun b hb => hbk b (by omega) (hno b (by omega))⟩


/-- A queue, whose blocks are S's or made, an item, a truth and an error. -/
def AnsKS (S : Nat → Prop) (qn : ByteArray) (ql : Int) (its : List IT) (it : IT) (d : Bool) (en : Int) (w : World) (e : Ending) (w' : World) : Prop :=
  ∃ va vc pa pc qa qc, e = .returned (.tuple #[.agg #[.string qn, .int .i64 ql, .slice va its.length vc], .agg #[.int .i64 it.id, .int .i64 it.turn, .int .i64 it.tries, .bool it.out, .int .i64 it.due, .slice pa it.note.props.length pc, .slice qa it.note.body.length qc], .bool d, .int .i64 en]) ∧ SliceI (fun k => S k ∨ Made w.heap.size w'.heap.size k) w' (.slice va its.length vc) its ∧ NoteIs (Under w'.heap.size) w' (.slice pa it.note.props.length pc, .slice qa it.note.body.length qc) it.note ∧ Below w.heap.size w w'

theorem pair_backS (its : List IT) (hR : RightI its) (name : ByteArray) (limit id turn : Int) :
    ∃ qn ql its' it d en, its'.length ≤ 1000 ∧ ∀ (S : Nat → Prop) (W : World) (v : Value), (∀ x, S x → x < W.heap.size) → SliceI S W v its →
      Calls Try.prog 45 #[.agg #[.string name, .int .i64 limit, v], .int .i64 id, .int .i64 turn] W (AnsKS S qn ql its' it d en W) ∧ Calls Try.prog 46 #[.agg #[.string name, .int .i64 limit, v], .int .i64 id, .int .i64 turn] W (AnsKS S qn ql its' it d en W) := by
  have hs := rightI_small hR
  rcases idxI_cases (givenB id turn) its with hno | ⟨i, hil, hix, hin, hbf⟩
  · refine ⟨⟨#[]⟩, 0, [], zI, false, 6, by simp, fun S W v hS hv => ?_⟩
    have hv' : SliceI (Under W.heap.size) W v its := hv.sub fun k hk => ⟨hS k hk, rfl⟩
    refine ⟨?_, ?_⟩
    · exact (back_none v name limit id turn its W hv' hno).mono fun e w' ⟨he, hb⟩ => ⟨none, 0, none, 0, none, 0, he, nilI _ _, NoteIs.nil _ _, hb⟩
    · exact (refBack_none v name limit id turn its hs.1 (all_not hno) W hv').mono fun e w' ⟨he, hb⟩ => ⟨none, 0, none, 0, none, 0, he, nilI _ _, NoteIs.nil _ _, hb⟩
  · have hft := rightI_fits hR (List.getElem_mem hil)
    by_cases ht : (backI its[i]).tries < 3
    · refine ⟨name, limit, its.set i (backI its[i]), zI, false, 0, by simpa using hs.1, fun S W v hS hv => ?_⟩
      have hv' : SliceI (Under W.heap.size) W v its := hv.sub fun k hk => ⟨hS k hk, rfl⟩
      refine ⟨?_, ?_⟩
      · refine (back_new v name limit id turn its i hil W hv' hs hix hft ht).mono fun e w' ⟨v', he, h2, hb⟩ => ?_
        obtain ⟨va, vc, rfl⟩ := h2.shp
        exact ⟨va, vc, none, 0, none, 0, he, h2.sub fun k hk => ⟨.inr hk, rfl⟩, NoteIs.nil _ _, hb⟩
      · refine (refBack_waitS v name limit id turn its hs.1 i hil hin hbf hft ht W S hS hv).mono fun e w' ⟨v', he, h2, hb⟩ => ?_
        obtain ⟨va, vc, rfl⟩ := h2.shp
        exact ⟨va, vc, none, 0, none, 0, he, h2, NoteIs.nil _ _, hb⟩
    · refine ⟨name, limit, its.eraseIdx i, backI its[i], true, 0, (small_erase hs i).1, fun S W v hS hv => ?_⟩
      have hv' : SliceI (Under W.heap.size) W v its := hv.sub fun k hk => ⟨hS k hk, rfl⟩
      refine ⟨?_, ?_⟩
      · refine (back_deadM v name limit id turn its i hil W hv' hs hix hft ht).mono fun e w' ⟨v', ⟨q1, q2⟩, he, h2, hn, hb⟩ => ?_
        obtain ⟨va, vc, rfl⟩ := h2.shp
        obtain ⟨pa, pc, e1, -⟩ := SliceV.shape hn.1
        obtain ⟨qa, qc, e2, -⟩ := SliceV.shape hn.2
        simp only at e1 e2
        subst e1 e2
        exact ⟨va, vc, pa, pc, qa, qc, he, h2.sub fun k hk => ⟨.inr hk, rfl⟩, hn, hb⟩
      · refine (refBack_deadS v name limit id turn its hs.1 i hil hin hbf hft ht W S hS hv).mono fun e w' ⟨v', ⟨q1, q2⟩, he, h2, hn, hb⟩ => ?_
        obtain ⟨va, vc, rfl⟩ := h2.shp
        obtain ⟨pa, pc, e1, -⟩ := SliceV.shape hn.1
        obtain ⟨qa, qc, e2, -⟩ := SliceV.shape hn.2
        simp only at e1 e2
        subst e1 e2
        exact ⟨va, vc, pa, pc, qa, qc, he, h2, hn, hb⟩
end Go.Proofs.Ytefankjmlbkldaa
