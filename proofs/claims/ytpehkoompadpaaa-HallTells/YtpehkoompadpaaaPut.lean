/-
  queue.Put.
-/
import Derived.Test.YtpehkoompadpaaaDelete
namespace Go.Proofs.Ytpehkoompadpaaa
open Go.RowKit
set_option linter.unusedVariables false
set_option linter.unusedSimpArgs false

attribute [local go_sem ↓] Go.wp_at_zero Go.wp_at_succ

def newI (id : Int) (n : ND) : IT := ⟨id, 0, 0, false, 0, n⟩

theorem SliceI.shape {S : Nat → Prop} {w : World} {v : Value} {its : List IT} (h : SliceI S w v its) : ∃ a cap, v = .slice a its.length cap ∧ its.length ≤ cap ∧ cap ≤ maxLen ∧ (a = none → cap = 0) := by
  obtain ⟨L, rfl, h, -⟩ := h
  obtain ⟨a, cap, rfl, h1, h2, h3⟩ := h.shape
  exact ⟨a, cap, by simp, by simpa using h1, h2, h3⟩

def zeroQ : Value := .agg #[.string ByteArray.empty, .int .i64 0, .slice none 0 0]

set_option maxRecDepth 100000 in
set_option maxHeartbeats 3200000 in
theorem put_full (v pv bv : Value) (name : ByteArray) (limit id : Int) (its : List IT) (w : World) (hv : SliceI (Under w.heap.size) w v its) (hf : limit ≤ its.length) (hsp : ∃ a n c, pv = .slice a n c) (hsb : ∃ a n c, bv = .slice a n c) :
    Calls Try.prog 102 #[.agg #[.string name, .int .i64 limit, v], .int .i64 id, .agg #[pv, bv]] w fun e w' => e = .returned (.tuple #[.agg #[.string ⟨#[]⟩, .int .i64 0, .slice none 0 0], .int .i64 8]) ∧ Below w.heap.size w w' := by
  obtain ⟨va, vc, rfl, h1, h2, -⟩ := hv.shape
  obtain ⟨pa, pn, pc, rfl⟩ := hsp
  obtain ⟨ba, bn, bc, rfl⟩ := hsb
  clear hv
  unfold maxLen at h2
  go_enter Try.func102, Try.ntmps102
  go_wp2
  refine bodyPost_ret (v := .tuple #[.agg #[.string ⟨#[]⟩, .int .i64 0, .slice none 0 0], .int .i64 8]) (by simp [results, Try.results102, go_sem, *]; done) rfl ⟨rfl, ?_⟩
  exact ((below_alloc _ _).alloc (by simp) _).alloc (by simp; omega) _

theorem put_end {w w1 W1 w2 w3 W' : World} {o : Obj} {v : Value} {L : ItL} {its : List IT} {id : Int} {n : ND} {q : Value × Value} {gg cap : Nat} (hB : Below w.heap.size w w1) (hz : w.heap.size + 3 ≤ w1.heap.size) (hL : L.map Prod.fst = its)
    (ho : w1.ownsRow (w.heap.size + 3) 48 7 v L.length (cellsI L)) (hn : ∀ x ∈ L, NoteIs (fun b => w.heap.size + 3 ≤ b ∧ b < w1.heap.size ∧ v.ownBlock ≠ some b) w1 x.2 x.1.note)
    (hb1 : Below w1.heap.size w1 W1) (hz1 : W1.heap.size = w1.heap.size + 1) (hb2 : Below W1.heap.size W1 w2) (hn2 : NoteIs (Made W1.heap.size w2.heap.size) w2 q n)
    (ho3 : w3.ownsRow (w.heap.size + 3) 48 7 (.slice (some ⟨gg, 0, none⟩) (L.length + 1) cap) (L.length + 1) (cellsI L ++ (newI id n).cells q)) (hg3 : (w2.alloc o).grownBy w3 v.ownBlock) (hat : v.ownBlock = some gg ∨ gg = w2.heap.size + 1)
    (hW : Keep (fun b => b ≠ w1.heap.size ∧ b ≠ w.heap.size + 1 + 1) w3 W') :
    SliceI (Made w.heap.size W'.heap.size) W' (.slice (some ⟨gg, 0, none⟩) (L.length + 1) cap) (its ++ [newI id n]) ∧ Below w.heap.size w W' := by
  have z2 := hb2.size
  have z3 : w2.heap.size + 1 ≤ w3.heap.size := by have := hg3.size; simpa using this
  have zW := hW.size
  have hown : ∀ b, v.ownBlock = some b → w.heap.size + 3 ≤ b ∧ b < w1.heap.size := fun b hb => ho.lt b hb
  have blk : ∀ b, b < w2.heap.size → v.ownBlock ≠ some b → w3.heap[b]? = w2.heap[b]? := fun b hb hn => (hg3.block b (by simp; omega) (fun e => hn e.symm)).trans (Below.heap_alloc _ _ _ hb)
  have blk1 : ∀ b, b < w1.heap.size → v.ownBlock ≠ some b → w3.heap[b]? = w1.heap[b]? := fun b hb hn => (blk b (by omega) hn).trans ((hb2.block b (by omega)).trans (hb1.block b hb))
  refine ⟨⟨L ++ [(newI id n, q)], by simp [hL], ?_, fun x hx => ?_⟩, ?_⟩
  · have h1 := own_slice ho3
    rw [List.length_append, cellsI_snoc]
    refine h1.sub fun k hk => ?_
    simp only [Value.ownBlock, Option.some.injEq] at hk
    subst hk
    have hk3 := ho3.lt gg rfl
    refine ⟨?_, hW.block gg ⟨?_, by omega⟩⟩
    · exact ⟨by omega, by omega⟩
    · rcases hat with h | h
      · have := (hown gg h).2; omega
      · omega
  · rw [List.mem_append, List.mem_singleton] at hx
    rcases hx with hx | rfl
    · refine (hn x hx).sub fun b hb => ⟨?_, (hW.block b ⟨by omega, by omega⟩).trans (blk1 b hb.2.1 hb.2.2)⟩
      exact ⟨by omega, by omega⟩
    · refine hn2.sub fun b hb => ?_
      obtain ⟨h1, h2⟩ := hb
      refine ⟨?_, (hW.block b ⟨by omega, by omega⟩).trans (blk b h2 (fun e => by have := (hown b e).2; omega))⟩
      exact ⟨by omega, by omega⟩
  · refine hB.trans ⟨?_, ?_, ?_, by omega, fun b hb => (hW.block b ⟨by omega, by omega⟩).trans (blk1 b (by omega) (fun e => by have := (hown b e).1; omega))⟩
    · exact hW.os.trans (hg3.os.trans (hb2.os.trans hb1.os))
    · exact hW.tape.trans (hg3.tape.trans (hb2.tape.trans hb1.tape))
    · exact hW.output.trans (hg3.output.trans (hb2.output.trans hb1.output))

set_option maxRecDepth 100000 in
set_option maxHeartbeats 3200000 in
theorem put_new (v pv bv : Value) (name : ByteArray) (limit id : Int) (its : List IT) (n : ND) (w : World) (hv : SliceI (Under w.heap.size) w v its) (hs : smallI its) (hn : NoteIs (Under w.heap.size) w (pv, bv) n) (hsm : n.small) (hf : ¬ limit ≤ (its.length : Int)) :
    Calls Try.prog 102 #[.agg #[.string name, .int .i64 limit, v], .int .i64 id, .agg #[pv, bv]] w fun e w' => ∃ v', e = .returned (.tuple #[.agg #[.string name, .int .i64 limit, v'], .int .i64 0]) ∧ SliceI (Made w.heap.size w'.heap.size) w' v' (its ++ [newI id n]) ∧ Below w.heap.size w w' := by
  obtain ⟨i0, hi0, hz0, hz1, hz2⟩ := info_parts info34
  have HV : Hid (SliceI (Under w.heap.size) w v its) := hv
  have HN : Hid (NoteIs (Under w.heap.size) w (pv, bv) n) := hn
  have HS : Hid (smallI its) := hs
  have HM : Hid n.small := hsm
  have hlen := hs.1
  obtain ⟨va, vc, rfl, h1, h2, -⟩ := hv.shape
  obtain ⟨pa, pc, rfl, -⟩ := SliceV.shape hn.1
  obtain ⟨ba, bc, rfl, -⟩ := SliceV.shape hn.2
  unfold maxLen at h2
  clear hv hn hs hsm
  have three : Hid (∀ o1 o2 o3 : Obj, Below w.heap.size w (((w.alloc o1).alloc o2).alloc o3)) := fun o1 o2 o3 => ((below_alloc _ _).alloc (by simp) _).alloc (by simp; omega) _
  go_enter Try.func102, Try.ntmps102
  go_wp2_with (first
    | (go_at_call 53; refine (own_any _ name limit its _ (HV.out.sub fun k hk => ⟨?_, (three.out _ _ _).block k hk⟩) HS.out).mono ?_; (simp [Under] at hk ⊢; omega); rintro e w1 ⟨vi, rfl, ho1, hb1⟩; obtain ⟨L, hL, how, hnw⟩ := ho1.mono (base' := w.heap.size + 3) (by simp); obtain ⟨xa, xc, rfl, -⟩ := own_shape how; have hz1' := hb1.size; simp only [World.size_alloc] at hz1'; have HB1 : Hid (Below w.heap.size w w1) := (three.out _ _ _).trans (hb1.mono (by simp; omega)); have hblk1 := (((Blk.new (w.alloc _) _ 28).alloc _).below hb1 (by simp)); have hblk2 := ((Blk.new ((w.alloc _).alloc _) _ 71).below hb1 (by simp)); simp only [World.size_alloc] at hblk1 hblk2; obtain ⟨b0, b1, b2, b3⟩ := hblk1.b2; obtain ⟨c0, c1, c2, c3, c4⟩ := hblk2.b3; have HL : Hid (L.map Prod.fst = its) := hL; have hLn : L.length ≤ 1000 := (by have := congrArg List.length hL; simp at this; omega); have HO : Hid (w1.ownsRow (w.heap.size + 3) 48 7 (.slice xa L.length xc) L.length (cellsI L)) := how; have HW : Hid (∀ x ∈ L, NoteIs (fun b => w.heap.size + 3 ≤ b ∧ b < w1.heap.size ∧ (Value.slice xa L.length xc).ownBlock ≠ some b) w1 x.2 x.1.note) := hnw; have HZ : Hid _ := And.intro hblk1 hblk2; have HN1 : Hid (NoteIs (Under w1.heap.size) w1 (.slice pa n.props.length pc, .slice ba n.body.length bc) n) := HN.out.sub (fun k hk => ⟨Nat.lt_of_lt_of_le hk (by omega), HB1.out.block k hk⟩); clear hL how hnw hblk1 hblk2 ho1 hb1))
  obtain ⟨W1, hW1⟩ : ∃ W1, W1 = (w1.alloc (.cells #[.string name, .int .i64 limit, .slice xa L.length xc] 71)) := ⟨_, rfl⟩
  have hzW : W1.heap.size = w1.heap.size + 1 := by rw [hW1]; simp
  have hbW : Below w1.heap.size w1 W1 := by rw [hW1]; exact below_alloc _ _
  have hoW : Blk W1 w1.heap.size [.string name, .int .i64 limit, .slice xa L.length xc] := by rw [hW1]; exact Blk.new _ _ _
  rw [← hW1]
  clear hW1
  obtain ⟨d0, d1, d2, d3⟩ := (HZ.out.1.below hbW b3).b2
  obtain ⟨f0, f1, f2, f3, f4⟩ := (HZ.out.2.below hbW c4).b3
  obtain ⟨g0, g1, g2, g3, g4⟩ := hoW.b3
  have HOW : Hid (w1.ownsRow (w.heap.size + 3) 48 7 (.slice xa L.length xc) L.length (cellsI L) ∧ Below w1.heap.size w1 W1 ∧ Blk W1 w1.heap.size [.string name, .int .i64 limit, .slice xa L.length xc]) := ⟨HO.out, hbW, hoW⟩
  clear hbW hoW b0 b1 b2 c0 c1 c2 c3
  go_region_law (first
    | (go_simp; go_at_call 97; refine (noteOwn_any _ _ n HM.out _ ?_).mono ?_; (exact HN1.out.sub fun b hb => ⟨Nat.lt_of_lt_of_le hb HOW.out.2.1.size, HOW.out.2.1.block b hb⟩); rintro e w2 ⟨⟨q1, q2⟩, rfl, hn2, hb2⟩; obtain ⟨ra, rc, rfl, -⟩ := SliceV.shape hn2.1; obtain ⟨sa, sc, rfl, -⟩ := SliceV.shape hn2.2; have hb2' : Below W1.heap.size W1 w2 := ⟨hb2.os, hb2.tape, hb2.output, hb2.size, hb2.block⟩; have hn2' : NoteIs (Made W1.heap.size w2.heap.size) w2 (.slice ra n.props.length rc, .slice sa n.body.length sc) n := hn2; have hz2' := hb2'.size; obtain ⟨k0, k1, k2, k3, k4⟩ := (HOW.out.2.2.below hb2' (by omega)).b3; have HO2 : Hid (w2.ownsRow (w.heap.size + 3) 48 7 (.slice xa L.length xc) L.length (cellsI L)) := own_below HOW.out.1 (HOW.out.2.1.trans (hb2'.mono (by omega))); clear hn2 hb2)
    | (refine step_append_lies _ (by rfl) _ _ _ (by rfl) (w.heap.size + 3) 48 i0 _ 7 88 Try.underlying69 hi0 hz0 hz1 hz2 rfl (by omega) (.slice xa L.length xc) L.length (cellsI L) (by rfl) (own_below HO2.out (below_alloc _ _)) ⟨w2.heap.size, 0, none⟩ 1 1 ((newI id n).cells (.slice ra n.props.length rc, .slice sa n.body.length sc)) (by rfl) (by rfl) (World.news_of_block (cs := #[.int .i64 id, .int .i64 0, .int .i64 0, .bool false, .int .i64 0, .slice ra n.props.length rc, .slice sa n.body.length sc]) (t := 48) (fr := (0, 0)) (heap_alloc_new w2 _)) (by simp [IT.cells, newI, Value.oneCell']) (by omega) (by unfold maxLen; omega) (by omega) (by simp; omega) (w2.heap.size + 1) (by simp) ?_; intro gg cap w3 hown3 hg3 hat3 hlt3; have hblk3 := (((HOW.out.2.2.below hb2' (by omega)).alloc (.cells #[.int .i64 id, .int .i64 0, .int .i64 0, .bool false, .int .i64 0, .slice ra n.props.length rc, .slice sa n.body.length sc] 48)).same (hg3.block _ (by simp; omega) (fun e => by have := (HO.out.lt _ e.symm).2; omega))); obtain ⟨t0, t1, t2, t3, t4⟩ := hblk3.b3; have hblk4 := ((((HZ.out.2.below HOW.out.2.1 c4).below hb2' (by omega)).alloc (.cells #[.int .i64 id, .int .i64 0, .int .i64 0, .bool false, .int .i64 0, .slice ra n.props.length rc, .slice sa n.body.length sc] 48)).same (hg3.block _ (by simp; omega) (fun e => by have := (HO.out.lt _ e.symm).1; omega))); obtain ⟨m0, m1, m2, m3, m4⟩ := hblk4.b3))
  all_goals
    clear d0 d1 d2 d3 f0 f1 f2 f3 g0 g1 g2 g3 hblk3 hblk4
    have HE : Hid (∀ W', Keep (fun b => b ≠ w1.heap.size ∧ b ≠ w.heap.size + 1 + 1) w3 W' → SliceI (Made w.heap.size W'.heap.size) W' (.slice (some ⟨gg, 0, none⟩) (L.length + 1) cap) (its ++ [newI id n]) ∧ Below w.heap.size w W') := fun W' hW => put_end HB1.out (by omega) HL.out HO.out HW.out HOW.out.2.1 hzW hb2' hn2' hown3 hg3 hat3 hW
    clear hown3 hg3 hat3 hb2' hn2' HO2 HOW HO HW HZ HN1 HN HB1
    go_wp2
    refine bodyPost_ret (v := .tuple #[.agg #[.string name, .int .i64 limit, .slice (some ⟨gg, 0, none⟩) (L.length + 1) cap], .int .i64 0]) (by simp [results, Try.results102, go_sem, *]; done) rfl ⟨_, rfl, HE.out _ ⟨rfl, rfl, rfl, by simp, fun b hb => ?_⟩⟩
    iterate 4 rw [Below.heap_setCell _ _ _ _ (by first | exact hb.1 | exact hb.2)]

theorem SliceI.under {lo hi : Nat} {w : World} {v : Value} {its : List IT} (h : SliceI (Made lo hi) w v its) : SliceI (Under hi) w v its := h.sub fun k hk => ⟨hk.2, rfl⟩

theorem put_ok (v pv bv : Value) (name : ByteArray) (limit id : Int) (its : List IT) (n : ND) (w : World) (hv : SliceI (Under w.heap.size) w v its) (hs : smallI its) (hn : NoteIs (Under w.heap.size) w (pv, bv) n) (hsm : n.small) (hf : ¬ limit ≤ (its.length : Int)) :
    Calls Try.prog 102 #[.agg #[.string name, .int .i64 limit, v], .int .i64 id, .agg #[pv, bv]] w fun e w' => ∃ v', e = .returned (.tuple #[.agg #[.string name, .int .i64 limit, v'], .int .i64 0]) ∧ SliceI (Under w'.heap.size) w' v' (its ++ [newI id n]) ∧ Below w.heap.size w w' :=
  (put_new v pv bv name limit id its n w hv hs hn hsm hf).mono fun e w' ⟨v', h1, h2, h3⟩ => ⟨v', h1, h2.under, h3⟩
end Go.Proofs.Ytpehkoompadpaaa
