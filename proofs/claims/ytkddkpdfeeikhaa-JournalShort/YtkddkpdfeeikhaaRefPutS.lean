/-
  tgref1.Put: the answer's blocks are the argument's, or made.
-/
import Derived.Test.YtkddkpdfeeikhaaJShortProofM24
namespace Go.Proofs.Ytkddkpdfeeikhaa
open Go.RowKit
set_option linter.unusedVariables false
set_option linter.unusedSimpArgs false

attribute [local go_sem ↓] Go.wp_at_zero Go.wp_at_succ

set_option maxRecDepth 100000 in
set_option maxHeartbeats 3200000 in
theorem refPut_okS (S : Nat → Prop) (v pv bv : Value) (name : ByteArray) (limit id : Int) (its : List IT) (hlen : its.length ≤ 4194304) (n : ND) (w : World) (hS : ∀ b, S b → b < w.heap.size) (hv : SliceI S w v its) (hn : NoteIs S w (pv, bv) n) (hf : ¬ limit ≤ (its.length : Int)) :
    Calls Try.prog 61 #[.agg #[.string name, .int .i64 limit, v], .int .i64 id, .agg #[pv, bv]] w fun e w' => ∃ v', e = .returned (.tuple #[.agg #[.string name, .int .i64 limit, v'], .int .i64 0]) ∧ SliceI (fun b => S b ∨ Made w.heap.size w'.heap.size b) w' v' (its ++ [newI id n]) ∧ Below w.heap.size w w' := by
  obtain ⟨i0, hi0, hz0, hz1, hz2⟩ := info_parts info34
  obtain ⟨L, rfl, hL, hN⟩ := hv
  have HL : Hid (SliceV S w v L.length (cellsI L)) := hL
  have HN : Hid (∀ x ∈ L, NoteIs S w x.2 x.1.note) := hN
  have HM : Hid (NoteIs S w (pv, bv) n) := hn
  have HO : Hid (∀ u ∈ cellsI L, u.oneCell' = true) := cellsI_one L hN
  obtain ⟨va, vc, rfl, h1, h2, -⟩ := hL.shape
  obtain ⟨pa, pc, rfl, -⟩ := SliceV.shape hn.1
  obtain ⟨ba, bc, rfl, -⟩ := SliceV.shape hn.2
  unfold maxLen at h2
  rw [List.length_map] at hlen hf
  clear hL hN hn
  obtain ⟨X, hX⟩ : ∃ X, X = ((w.alloc (.cells #[.string name, .int .i64 limit, .slice va L.length vc] 76)).alloc (.cells #[.slice pa n.props.length pc, .slice ba n.body.length bc] 28)).alloc (.cells #[.string ⟨#[]⟩, .int .i64 0, .slice none 0 0] 76) := ⟨_, rfl⟩
  have hxz : X.heap.size = w.heap.size + 3 := by rw [hX]; simp
  have HX : Hid (PutW w name limit va L.length vc (.slice pa n.props.length pc) (.slice ba n.body.length bc) X) := by
    subst hX
    refine ⟨((below_alloc _ _).alloc (by simp) _).alloc (by simp; omega) _, ((Blk.new _ _ _).alloc _).alloc _, ?_, ?_⟩
    · have := (Blk.new (w.alloc (.cells #[.string name, .int .i64 limit, .slice va L.length vc] 76)) [.slice pa n.props.length pc, .slice ba n.body.length bc] 28).alloc (.cells #[.string ⟨#[]⟩, .int .i64 0, .slice none 0 0] 76)
      simpa using this
    · have := Blk.new ((w.alloc (.cells #[.string name, .int .i64 limit, .slice va L.length vc] 76)).alloc (.cells #[.slice pa n.props.length pc, .slice ba n.body.length bc] 28)) [.string ⟨#[]⟩, .int .i64 0, .slice none 0 0] 76
      simpa using this
  obtain ⟨q0, q1, q2, q3, q4⟩ := HX.out.q.b3
  obtain ⟨r0, r1, r2, r3⟩ := HX.out.n.b2
  go_enter Try.func61, Try.ntmps61
  go_wp2_with fail
  rw [← hX]
  clear hX
  go_region_law (first
    | (refine step_appV (by rfl) (.tmp 15) (.tmp 17) 74 (by rfl) 78 i0 _ 7 88 Try.underlying74 hi0 hz0 hz1 hz2 rfl (by omega) (w.heap.size + 3) (.slice (some ⟨w.heap.size + 3, 0, none⟩) 0 0) 0 [] (by rfl) (empty_own X (w.heap.size + 3) _ hxz (by omega)).drew S (.slice va L.length vc) L.length (cellsI L) (by rfl) (SliceV.sub HL.out fun b hb => ⟨hb, (HX.out.alloc _).drew.bel.block b (hS b hb)⟩) (cellsI_len L) HO.out (by unfold maxLen; omega) (by omega) (by simp <;> omega) ?_; intro ao cap w1 ho1 hg1 hm1; have HW1 : Hid (PutW w name limit va L.length vc (.slice pa n.props.length pc) (.slice ba n.body.length bc) w1) := PutW.grown (HX.out.alloc _).drew hg1 (fun b hb => by simp only [Value.ownBlock, Option.some.injEq] at hb; omega); have HO1 : Hid (w1.ownsRow (w.heap.size + 3) 78 7 (.slice ao L.length cap) L.length (cellsI L)) := (by have h := ho1; rw [Nat.zero_add, List.nil_append] at h; exact h); obtain ⟨q0', q1', q2', q3', q4'⟩ := HW1.out.q.b3; obtain ⟨r0', r1', r2', r3'⟩ := HW1.out.n.b2; clear ho1 hg1 hm1)
    | (refine step_appV (by rfl) (.tmp 15) (.tmp 17) 74 (by rfl) 78 i0 _ 7 88 Try.underlying74 hi0 hz0 hz1 hz2 rfl (by omega) (w.heap.size + 3) (.slice (some ⟨w.heap.size + 3, 0, none⟩) 0 0) 0 [] (by rfl) ((empty_own X (w.heap.size + 3) _ hxz (by omega)).alloc _).drew S (.slice va L.length vc) L.length (cellsI L) (by rfl) (SliceV.sub HL.out fun b hb => ⟨hb, ((HX.out.alloc _).alloc _).drew.bel.block b (hS b hb)⟩) (cellsI_len L) HO.out (by unfold maxLen; omega) (by omega) (by simp <;> omega) ?_; intro ao cap w1 ho1 hg1 hm1; have HW1 : Hid (PutW w name limit va L.length vc (.slice pa n.props.length pc) (.slice ba n.body.length bc) w1) := PutW.grown ((HX.out.alloc _).alloc _).drew hg1 (fun b hb => by simp only [Value.ownBlock, Option.some.injEq] at hb; omega); have HO1 : Hid (w1.ownsRow (w.heap.size + 3) 78 7 (.slice ao L.length cap) L.length (cellsI L)) := (by have h := ho1; rw [Nat.zero_add, List.nil_append] at h; exact h); have HI1 : Hid (SliceV (fun _ => True) w1 (.slice (some ⟨w.heap.size + 3 + 1, 0, none⟩) 1 1) 1 ((newI id n).cells (.slice pa n.props.length pc, .slice ba n.body.length bc))) := SliceV.sub (row7_one (X.alloc (.cells #[] 78)) (newI id n) _ _ (w.heap.size + 3 + 1) (by simp [hxz])) (fun b hb => ⟨trivial, hg1.block b (by subst hb; simp <;> omega) (fun e => by simp only [Value.ownBlock, Option.some.injEq] at e; omega)⟩); obtain ⟨q0', q1', q2', q3', q4'⟩ := HW1.out.q.b3; obtain ⟨r0', r1', r2', r3'⟩ := HW1.out.n.b2; clear ho1 hg1 hm1)
    | (refine step_appV (by rfl) (.tmp 15) (.tmp 17) 74 (by rfl) 78 i0 _ 7 88 Try.underlying74 hi0 hz0 hz1 hz2 rfl (by omega) (w.heap.size + 3) (.slice (some ⟨w.heap.size + 3 + 1, 0, none⟩) 0 0) 0 [] (by rfl) (empty_own (X.alloc _) (w.heap.size + 3) _ (by simp [hxz]) (by omega)).drew S (.slice va L.length vc) L.length (cellsI L) (by rfl) (SliceV.sub HL.out fun b hb => ⟨hb, ((HX.out.alloc _).alloc _).drew.bel.block b (hS b hb)⟩) (cellsI_len L) HO.out (by unfold maxLen; omega) (by omega) (by simp <;> omega) ?_; intro ao cap w1 ho1 hg1 hm1; have HW1 : Hid (PutW w name limit va L.length vc (.slice pa n.props.length pc) (.slice ba n.body.length bc) w1) := PutW.grown ((HX.out.alloc _).alloc _).drew hg1 (fun b hb => by simp only [Value.ownBlock, Option.some.injEq] at hb; omega); have HO1 : Hid (w1.ownsRow (w.heap.size + 3) 78 7 (.slice ao L.length cap) L.length (cellsI L)) := (by have h := ho1; rw [Nat.zero_add, List.nil_append] at h; exact h); have HI1 : Hid (SliceV (fun _ => True) w1 (.slice (some ⟨w.heap.size + 3, 0, none⟩) 1 1) 1 ((newI id n).cells (.slice pa n.props.length pc, .slice ba n.body.length bc))) := SliceV.sub (row7_one X (newI id n) _ _ (w.heap.size + 3) hxz) (fun b hb => ⟨trivial, (hg1.block b (by subst hb; simp <;> omega) (fun e => by simp only [Value.ownBlock, Option.some.injEq] at e; omega)).trans (Below.heap_alloc _ _ _ (by subst hb; simp <;> omega))⟩); obtain ⟨q0', q1', q2', q3', q4'⟩ := HW1.out.q.b3; obtain ⟨r0', r1', r2', r3'⟩ := HW1.out.n.b2; clear ho1 hg1 hm1)
    | (refine step_appV (by rfl) (.tmp 18) (.tmp 22) 74 (by rfl) 78 i0 _ 7 88 Try.underlying74 hi0 hz0 hz1 hz2 rfl (by omega) (w.heap.size + 3) (.slice ao L.length cap) L.length (cellsI L) (by rfl) (HO1.out) (fun _ => True) (.slice (some ⟨w.heap.size + 3 + 1, 0, none⟩) 1 1) 1 ((newI id n).cells (.slice pa n.props.length pc, .slice ba n.body.length bc)) (by rfl) (HI1.out) rfl (by simp [IT.cells, newI, Value.oneCell']) (by unfold maxLen; omega) (by omega) (by have := HW1.out.res.lt; simp <;> omega) ?_; intro ao2 cap2 w2 ho2 hg2 hm2; have hlo := HO1.out.lt; have HW2 : Hid (PutW w name limit va L.length vc (.slice pa n.props.length pc) (.slice ba n.body.length bc) w2) := PutW.grown (HW1.out) hg2 (fun b hb => (hlo b hb).1); have HO2 : Hid (w2.ownsRow (w.heap.size + 3) 78 7 (.slice ao2 (L.length + 1) cap2) (L.length + 1) (cellsI L ++ ((newI id n).cells (.slice pa n.props.length pc, .slice ba n.body.length bc)))) := ho2; obtain ⟨s0, s1, s2, s3, s4⟩ := HW2.out.q.b3; obtain ⟨t0, t1, t2, t3, t4⟩ := HW2.out.res.b3; clear ho2 hg2 hm2)
    | (refine step_appV (by rfl) (.tmp 18) (.tmp 22) 74 (by rfl) 78 i0 _ 7 88 Try.underlying74 hi0 hz0 hz1 hz2 rfl (by omega) (w.heap.size + 3) (.slice ao L.length cap) L.length (cellsI L) (by rfl) (HO1.out) (fun _ => True) (.slice (some ⟨w.heap.size + 3, 0, none⟩) 1 1) 1 ((newI id n).cells (.slice pa n.props.length pc, .slice ba n.body.length bc)) (by rfl) (HI1.out) rfl (by simp [IT.cells, newI, Value.oneCell']) (by unfold maxLen; omega) (by omega) (by have := HW1.out.res.lt; simp <;> omega) ?_; intro ao2 cap2 w2 ho2 hg2 hm2; have hlo := HO1.out.lt; have HW2 : Hid (PutW w name limit va L.length vc (.slice pa n.props.length pc) (.slice ba n.body.length bc) w2) := PutW.grown (HW1.out) hg2 (fun b hb => (hlo b hb).1); have HO2 : Hid (w2.ownsRow (w.heap.size + 3) 78 7 (.slice ao2 (L.length + 1) cap2) (L.length + 1) (cellsI L ++ ((newI id n).cells (.slice pa n.props.length pc, .slice ba n.body.length bc)))) := ho2; obtain ⟨s0, s1, s2, s3, s4⟩ := HW2.out.q.b3; obtain ⟨t0, t1, t2, t3, t4⟩ := HW2.out.res.b3; clear ho2 hg2 hm2)
    | (refine step_appV (by rfl) (.tmp 18) (.tmp 22) 74 (by rfl) 78 i0 _ 7 88 Try.underlying74 hi0 hz0 hz1 hz2 rfl (by omega) (w.heap.size + 3) (.slice ao L.length cap) L.length (cellsI L) (by rfl) (own_below HO1.out (below_alloc _ _)) (fun _ => True) (.slice (some ⟨w1.heap.size, 0, none⟩) 1 1) 1 ((newI id n).cells (.slice pa n.props.length pc, .slice ba n.body.length bc)) (by rfl) (row7_slice w1 (newI id n) _ _) rfl (by simp [IT.cells, newI, Value.oneCell']) (by unfold maxLen; omega) (by omega) (by have := HW1.out.res.lt; simp <;> omega) ?_; intro ao2 cap2 w2 ho2 hg2 hm2; have hlo := HO1.out.lt; have HW2 : Hid (PutW w name limit va L.length vc (.slice pa n.props.length pc) (.slice ba n.body.length bc) w2) := PutW.grown (HW1.out.alloc _) hg2 (fun b hb => (hlo b hb).1); have HO2 : Hid (w2.ownsRow (w.heap.size + 3) 78 7 (.slice ao2 (L.length + 1) cap2) (L.length + 1) (cellsI L ++ ((newI id n).cells (.slice pa n.props.length pc, .slice ba n.body.length bc)))) := ho2; obtain ⟨s0, s1, s2, s3, s4⟩ := HW2.out.q.b3; obtain ⟨t0, t1, t2, t3, t4⟩ := HW2.out.res.b3; clear ho2 hg2 hm2))
  all_goals
    go_wp2
    refine bodyPost_ret (v := .tuple #[.agg #[.string name, .int .i64 limit, .slice ao2 (L.length + 1) cap2], .int .i64 0]) (by simp [results, Try.results61, go_sem, *]; done) rfl ⟨_, rfl, ⟨L ++ [(newI id n, (.slice pa n.props.length pc, .slice ba n.body.length bc))], by simp, ?_, fun x hx => ?_⟩, ?_⟩
    · rw [List.length_append, cellsI_snoc]
      refine (own_slice HO2.out).sub fun i hi => ?_
      have h1 := HO2.out.lt i hi
      refine ⟨.inr ⟨by omega, by simpa using h1.2⟩, ?_⟩
      iterate 4 rw [Below.heap_setCell _ _ _ _ (by simp; omega)]
    · have hnt : NoteIs S w x.2 x.1.note := by
        rcases List.mem_append.1 hx with h | h
        · exact HN.out x h
        · rw [List.mem_singleton] at h; subst h; exact HM.out
      refine hnt.sub fun i hi => ?_
      have hi' : i < w.heap.size := hS i hi
      have hz := HW2.out.bel.size
      refine ⟨.inl hi, ?_⟩
      iterate 4 rw [Below.heap_setCell _ _ _ _ (by simp; omega)]
      exact HW2.out.bel.block i hi'
    · iterate 4 refine Below.setCell ?_ (by simp <;> omega) _
      exact HW2.out.bel
end Go.Proofs.Ytkddkpdfeeikhaa
