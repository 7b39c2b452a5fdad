/-
  RefDoneS; RefPut; RefPutS: texts laid together.
-/
import Derived.Test.YtkddkpdfeeikhaaJFollowsProofM19
import Derived.Test.YtkddkpdfeeikhaaJFollowsProofM06
/-
  tgref1.Done: the answer's blocks are the argument's, or made.
-/
namespace Go.Proofs.Ytkddkpdfeeikhaa
open Go.RowKit
set_option linter.unusedVariables false
set_option linter.unusedSimpArgs false

attribute [local go_sem ↓] Go.wp_at_zero Go.wp_at_succ

set_option maxRecDepth 100000 in
set_option maxHeartbeats 3200000 in
theorem refDone_okS (S : Nat → Prop) (v : Value) (name : ByteArray) (limit id turn : Int) (its : List IT) (hlen : its.length ≤ 4194304) (i : Nat) (hil : i < its.length) (hin : givenB id turn its[i] = true) (hbf : ∀ j (hj : j < i), givenB id turn (its[j]'(by omega)) = false) (w : World) (hSS : ∀ b, S b → b < w.heap.size) (hv : SliceI S w v its) :
    Calls Try.prog 62 #[.agg #[.string name, .int .i64 limit, v], .int .i64 id, .int .i64 turn] w fun e w' => ∃ v', e = .returned (.tuple #[.agg #[.string name, .int .i64 limit, v'], .int .i64 0]) ∧ SliceI (fun b => S b ∨ Made w.heap.size w'.heap.size b) w' v' (its.eraseIdx i) ∧ Below w.heap.size w w' := by
  have HV : Hid (SliceI S w v its) := hv
  have HBF : Hid (∀ j (hj : j < i), givenB id turn (its[j]'(by omega)) = false) := hbf
  obtain ⟨g1, g2, g3⟩ := given_out hin
  obtain ⟨va, vc, rfl⟩ := hv.shp
  clear hv hbf hin
  obtain ⟨X, hX⟩ : ∃ X, X = (w.alloc (.cells #[.string name, .int .i64 limit, .slice va its.length vc] 76)).alloc (.cells #[.string ⟨#[]⟩, .int .i64 0, .slice none 0 0] 76) := ⟨_, rfl⟩
  have HX : Hid (X.heap.size = w.heap.size + 2 ∧ Below w.heap.size w X ∧ Blk X w.heap.size [.string name, .int .i64 limit, .slice va its.length vc] ∧ Blk X (w.heap.size + 1) [.string ⟨#[]⟩, .int .i64 0, .slice none 0 0]) := by
    subst hX
    refine ⟨by simp, (below_alloc _ _).alloc (by simp) _, (Blk.new _ _ _).alloc _, ?_⟩
    have := Blk.new (w.alloc (.cells #[.string name, .int .i64 limit, .slice va its.length vc] 76)) [.string ⟨#[]⟩, .int .i64 0, .slice none 0 0] 76
    simpa using this
  go_enter Try.func62, Try.ntmps62
  go_wp2
  go_loopw [13] (fun x wr => ∃ k : Nat, k ≤ i ∧ x = .int .i64 k ∧ Below X.heap.size X wr) (fun x _ => its.length - (intOf x).toNat)
  case atStart => exact ⟨0, Nat.zero_le _, rfl, by rw [hX]; exact Below.refl _ _⟩
  case round =>
    obtain ⟨k, hk, rfl, hbr⟩ := hrel
    have hzr := hbr.size
    have hzx := HX.out.1
    clear hX
    have HB : Hid (Below w.heap.size w wr) := HX.out.2.1.trans (hbr.mono (by omega))
    have hlt : k < its.length := by omega
    obtain ⟨b, off, pa, pc, qa, qc, rfl, hS, hn, ⟨c0, c1, c2, c3⟩, c4, c5, c6⟩ := (SliceI.sub (T := S) HV.out (fun x hx => ⟨hx, HB.out.block x (hSS x hx)⟩)).at k hlt
    by_cases hki : k < i
    · have ho := HBF.out k hki
      clear hn
      rcases given_not ho with e1 | ⟨e1, e2⟩ | ⟨e1, e2, e3⟩
      · go_wp2
        go_roundw
        case rel => exact ⟨k + 1, by omega, by go_num, hbr.trans ((below_alloc _ _).mono hzr)⟩
        case measure => simp [intOf]; omega
      · go_wp2
        go_roundw
        case rel => exact ⟨k + 1, by omega, by go_num, hbr.trans ((below_alloc _ _).mono hzr)⟩
        case measure => simp [intOf]; omega
      · rw [e3] at c3
        go_wp2
        go_roundw
        case rel => exact ⟨k + 1, by omega, by go_num, hbr.trans ((below_alloc _ _).mono hzr)⟩
        case measure => simp [intOf]; omega
    · obtain rfl : k = i := by omega
      rw [g3] at c3
      obtain ⟨a0, a1, a2, a3, a4⟩ := (HX.out.2.2.1.below hbr (by omega)).b3
      have HK : Hid (Blk wr (w.heap.size + 1) [.string ⟨#[]⟩, .int .i64 0, .slice none 0 0]) := HX.out.2.2.2.below hbr (by omega)
      have hkl := HK.out.lt
      have hzw := HB.out.size
      clear hn HX hbr
      go_wp2_with (go_at_call 91; refine (items_del _ name limit its k hil hlen _ S (fun x hx => Nat.lt_of_lt_of_le (hSS x hx) (by simp; omega)) (HV.out.sub fun x hx => ⟨hx, (Below.heap_alloc _ _ _ (Nat.lt_of_lt_of_le (hSS x hx) hzw)).trans (HB.out.block x (hSS x hx))⟩)).mono ?_; rintro e w1 ⟨v1, rfl, hs1, hb1⟩; obtain ⟨ra, rc, e1⟩ := hs1.shp; have e1' : v1 = .slice ra (its.eraseIdx k).length rc := e1; subst e1'; have hz1 := hb1.size; simp only [World.size_alloc] at hz1; obtain ⟨n0, n1, n2, n3, n4⟩ := ((HK.out.alloc _).below hb1 (by simp; omega)).b3; have HS1 : Hid (SliceI (fun x => S x ∨ Made (wr.heap.size + 1) w1.heap.size x) w1 (.slice ra (its.eraseIdx k).length rc) (its.eraseIdx k)) := (by have h := hs1; simp only [World.size_alloc] at h; exact h); have HB1 : Hid (Below w.heap.size w w1) := HB.out.trans (((below_alloc _ _).trans (hb1.mono (by simp))).mono hzw); clear hb1 hs1 e1)
      refine bodyPost_ret (v := .tuple #[.agg #[.string name, .int .i64 limit, .slice ra (its.eraseIdx k).length rc], .int .i64 0]) (by simp [results, Try.results62, go_sem, *]; done) rfl ⟨_, rfl, ?_, ?_⟩
      · refine HS1.out.sub fun x hx => ?_
        have hx0 : S x ∨ (wr.heap.size + 1 ≤ x ∧ x < w1.heap.size) := hx
        have hx' : x < w.heap.size ∨ (wr.heap.size + 1 ≤ x ∧ x < w1.heap.size) := hx0.imp (hSS x) (fun h => h)
        refine ⟨hx0.imp (fun h => h) (fun h => ⟨by have := h.1; omega, by have := h.2; simp; omega⟩), ?_⟩
        iterate 3 rw [Below.heap_setCell _ _ _ _ (by simp; omega)]
      · iterate 3 refine Below.setCell ?_ (by simp <;> omega) _
        exact HB1.out
end Go.Proofs.Ytkddkpdfeeikhaa

/-
  tgref1.Put.
-/
namespace Go.Proofs.Ytkddkpdfeeikhaa
open Go.RowKit
set_option linter.unusedVariables false
set_option linter.unusedSimpArgs false

attribute [local go_sem ↓] Go.wp_at_zero Go.wp_at_succ

set_option maxRecDepth 100000 in
set_option maxHeartbeats 3200000 in
theorem refPut_full (v pv bv : Value) (name : ByteArray) (limit id : Int) (its : List IT) (w : World) (hv : SliceI (Under w.heap.size) w v its) (hf : limit ≤ its.length) (hsp : ∃ a n c, pv = .slice a n c) (hsb : ∃ a n c, bv = .slice a n c) :
    Calls Try.prog 61 #[.agg #[.string name, .int .i64 limit, v], .int .i64 id, .agg #[pv, bv]] w fun e w' => e = .returned (.tuple #[.agg #[.string ⟨#[]⟩, .int .i64 0, .slice none 0 0], .int .i64 8]) ∧ Below w.heap.size w w' := by
  obtain ⟨va, vc, rfl, h1, h2, -⟩ := hv.shape
  obtain ⟨pa, pn, pc, rfl⟩ := hsp
  obtain ⟨ba, bn, bc, rfl⟩ := hsb
  clear hv
  unfold maxLen at h2
  go_enter Try.func61, Try.ntmps61
  go_wp2
  refine bodyPost_ret (v := .tuple #[.agg #[.string ⟨#[]⟩, .int .i64 0, .slice none 0 0], .int .i64 8]) (by simp [results, Try.results61, go_sem, *]; done) rfl ⟨rfl, ?_⟩
  exact ((below_alloc _ _).alloc (by simp) _).alloc (by simp; omega) _

/-- The world behind the first append, whatever was made ahead of it. -/
structure PutW (w : World) (name : ByteArray) (limit : Int) (va : Option Addr) (n vc : Nat) (pv bv : Value) (W : World) : Prop where
  bel : Below w.heap.size w W
  q : Blk W w.heap.size [.string name, .int .i64 limit, .slice va n vc]
  n : Blk W (w.heap.size + 1) [pv, bv]
  res : Blk W (w.heap.size + 1 + 1) [.string ⟨#[]⟩, .int .i64 0, .slice none 0 0]

theorem PutW.alloc {w : World} {name : ByteArray} {limit : Int} {va : Option Addr} {n vc : Nat} {pv bv : Value} {W : World} (h : PutW w name limit va n vc pv bv W) (o : Obj) : PutW w name limit va n vc pv bv (W.alloc o) :=
  ⟨h.bel.alloc h.bel.size o, h.q.alloc o, h.n.alloc o, h.res.alloc o⟩
theorem PutW.drew {w : World} {name : ByteArray} {limit : Int} {va : Option Addr} {n vc : Nat} {pv bv : Value} {W : World} (h : PutW w name limit va n vc pv bv W) : PutW w name limit va n vc pv bv W.drew :=
  ⟨h.bel.drew, h.q, h.n, h.res⟩
theorem PutW.grown {w : World} {name : ByteArray} {limit : Int} {va : Option Addr} {n vc : Nat} {pv bv : Value} {W W' : World} {row : Option Nat} (h : PutW w name limit va n vc pv bv W) (hg : W.grownBy W' row) (hr : ∀ b, row = some b → w.heap.size + 3 ≤ b) : PutW w name limit va n vc pv bv W' := by
  have nb : ∀ b, b < w.heap.size + 3 → W'.heap[b]? = W.heap[b]? := fun b hb => hg.block b (by have := h.res.lt; omega) (fun e => by have := hr b e.symm; omega)
  exact ⟨h.bel.trans ⟨hg.os, hg.tape, hg.output, hg.size, fun b hb => nb b (by omega)⟩, h.q.same (nb _ (by omega)), h.n.same (nb _ (by omega)), h.res.same (nb _ (by omega))⟩

/-- A new row of one item, in its block. -/
theorem row7_one (w : World) (it : IT) (v u : Value) (g : Nat) (hg : w.heap.size = g) : SliceV (fun b => b = g) (w.alloc (.cells #[.int .i64 it.id, .int .i64 it.turn, .int .i64 it.tries, .bool it.out, .int .i64 it.due, v, u] 78)) (.slice (some ⟨g, 0, none⟩) 1 1) 1 (it.cells (v, u)) := by
  subst hg
  refine ⟨_, _, rfl, Nat.le_refl _, by simp [maxLen], fun h => by simp at h, fun i hi => ⟨w.heap.size, 0, rfl, rfl, ?_⟩⟩
  have := (Blk.new w (it.cells (v, u)) 78).cell (0 + i)
  rw [Nat.zero_add, List.getElem?_eq_getElem hi] at this
  rw [Nat.zero_add]
  exact this

end Go.Proofs.Ytkddkpdfeeikhaa

/-
  tgref1.Put: the answer's blocks are the argument's, or made.
-/
namespace Go.Proofs.Ytkddkpdfeeikhaa
open Go.RowKit
set_option linter.unusedVariables false
set_option linter.unusedSimpArgs false

attribute [local go_sem ↓] Go.wp_at_zero Go.wp_at_succ

set_option maxRecDepth 100000 in
set_option maxHeartbeats 3200000 in
theorem refPut_okS (S : Nat → Prop) (v pv bv : Value) (name : ByteArray) (limit id : Int) (its : List IT) (hlen : its.length ≤ 4194304) (n : ND) (w : World) (hS : ∀ b, S b → b < w.heap.size) (hv : SliceI S w v its) (hn : NoteIs S w (pv, bv) n) (hf : ¬ limit ≤ (its.length : Int)) :
    Calls Try.prog 61 #[.agg #[.string name, .int .i64 limit, v], .int .i64 id, .agg #[pv, bv]] w fun e w' => ∃ v', e = .returned (.tuple #[.agg #[.string name, .int .i64 limit, v'], .int .i64 0]) ∧ SliceI (fun b => S b ∨ Made w.heap.size w'.heap.size b) w' v' (its ++ [newI id n]) ∧ Below w.heap.size w w' := by
  obtain ⟨i0, hi0, hz0, hz1, hz2⟩ := info_parts info34
  obtain ⟨L, rfl, hL, hN⟩ := hv
  have HL : Hid (SliceV S w v L.length (cellsI L)) := hL
  have HN : Hid (∀ x ∈ L, NoteIs S w x.2 x.1.note) := hN
  have HM : Hid (NoteIs S w (pv, bv) n) := hn
  have HO : Hid (∀ u ∈ cellsI L, u.oneCell' = true) := cellsI_one L hN
  obtain ⟨va, vc, rfl, h1, h2, -⟩ := hL.shape
  obtain ⟨pa, pc, rfl, -⟩ := SliceV.shape hn.1
  obtain ⟨ba, bc, rfl, -⟩ := SliceV.shape hn.2
  unfold maxLen at h2
  rw [List.length_map] at hlen hf
  clear hL hN hn
  obtain ⟨X, hX⟩ : ∃ X, X = ((w.alloc (.cells #[.string name, .int .i64 limit, .slice va L.length vc] 76)).alloc (.cells #[.slice pa n.props.length pc, .slice ba n.body.length bc] 28)).alloc (.cells #[.string ⟨#[]⟩, .int .i64 0, .slice none 0 0] 76) := ⟨_, rfl⟩
  have hxz : X.heap.size = w.heap.size + 3 := by rw [hX]; simp
  have HX : Hid (PutW w name limit va L.length vc (.slice pa n.props.length pc) (.slice ba n.body.length bc) X) := by
    subst hX
    refine ⟨((below_alloc _ _).alloc (by simp) _).alloc (by simp; omega) _, ((Blk.new _ _ _).alloc _).alloc _, ?_, ?_⟩
    · have := (Blk.new (w.alloc (.cells #[.string name, .int .i64 limit, .slice va L.length vc] 76)) [.slice pa n.props.length pc, .slice ba n.body.length bc] 28).alloc (.cells #[.string ⟨#[]⟩, .int .i64 0, .slice none 0 0] 76)
      simpa using this
    · have := Blk.new ((w.alloc (.cells #[.string name, .int .i64 limit, .slice va L.length vc] 76)).alloc (.cells #[.slice pa n.props.length pc, .slice ba n.body.length bc] 28)) [.string ⟨#[]⟩, .int .i64 0, .slice none 0 0] 76
      simpa using this
  obtain ⟨q0, q1, q2, q3, q4⟩ := HX.out.q.b3
  obtain ⟨r0, r1, r2, r3⟩ := HX.out.n.b2
  go_enter Try.func61, Try.ntmps61
  go_wp2_with fail
  rw [← hX]
  clear hX
  go_region_law (first
    | (refine step_appV (by rfl) (.tmp 15) (.tmp 17) 74 (by rfl) 78 i0 _ 7 88 Try.underlying74 hi0 hz0 hz1 hz2 rfl (by omega) (w.heap.size + 3) (.slice (some ⟨w.heap.size + 3, 0, none⟩) 0 0) 0 [] (by rfl) (empty_own X (w.heap.size + 3) _ hxz (by omega)).drew S (.slice va L.length vc) L.length (cellsI L) (by rfl) (SliceV.sub HL.out fun b hb => ⟨hb, (HX.out.alloc _).drew.bel.block b (hS b hb)⟩) (cellsI_len L) HO.out (by unfold maxLen; omega) (by omega) (by simp <;> omega) ?_; intro ao cap w1 ho1 hg1 hm1; have HW1 : Hid (PutW w name limit va L.length vc (.slice pa n.props.length pc) (.slice ba n.body.length bc) w1) := PutW.grown (HX.out.alloc _).drew hg1 (fun b hb => by simp only [Value.ownBlock, Option.some.injEq] at hb; omega); have HO1 : Hid (w1.ownsRow (w.heap.size + 3) 78 7 (.slice ao L.length cap) L.length (cellsI L)) := (by have h := ho1; rw [Nat.zero_add, List.nil_append] at h; exact h); obtain ⟨q0', q1', q2', q3', q4'⟩ := HW1.out.q.b3; obtain ⟨r0', r1', r2', r3'⟩ := HW1.out.n.b2; clear ho1 hg1 hm1)
    | (refine step_appV (by rfl) (.tmp 15) (.tmp 17) 74 (by rfl) 78 i0 _ 7 88 Try.underlying74 hi0 hz0 hz1 hz2 rfl (by omega) (w.heap.size + 3) (.slice (some ⟨w.heap.size + 3, 0, none⟩) 0 0) 0 [] (by rfl) ((empty_own X (w.heap.size + 3) _ hxz (by omega)).alloc _).drew S (.slice va L.length vc) L.length (cellsI L) (by rfl) (SliceV.sub HL.out fun b hb => ⟨hb, ((HX.out.alloc _).alloc _).drew.bel.block b (hS b hb)⟩) (cellsI_len L) HO.out (by unfold maxLen; omega) (by omega) (by simp <;> omega) ?_; intro ao cap w1 ho1 hg1 hm1; have HW1 : Hid (PutW w name limit va L.length vc (.slice pa n.props.length pc) (.slice ba n.body.length bc) w1) := PutW.grown ((HX.out.alloc _).alloc _).drew hg1 (fun b hb => by simp only [Value.ownBlock, Option.some.injEq] at hb; omega); have HO1 : Hid (w1.ownsRow (w.heap.size + 3) 78 7 (.slice ao L.length cap) L.length (cellsI L)) := (by have h := ho1; rw [Nat.zero_add, List.nil_append] at h; exact h); have HI1 : Hid (SliceV (fun _ => True) w1 (.slice (some ⟨w.heap.size + 3 + 1, 0, none⟩) 1 1) 1 ((newI id n).cells (.slice pa n.props.length pc, .slice ba n.body.length bc))) := SliceV.sub (row7_one (X.alloc (.cells #[] 78)) (newI id n) _ _ (w.heap.size + 3 + 1) (by simp [hxz])) (fun b hb => ⟨trivial, hg1.block b (by subst hb; simp <;> omega) (fun e => by simp only [Value.ownBlock, Option.some.injEq] at e; omega)⟩); obtain ⟨q0', q1', q2', q3', q4'⟩ := HW1.out.q.b3; obtain ⟨r0', r1', r2', r3'⟩ := HW1.out.n.b2; clear ho1 hg1 hm1)
    | (refine step_appV (by rfl) (.tmp 15) (.tmp 17) 74 (by rfl) 78 i0 _ 7 88 Try.underlying74 hi0 hz0 hz1 hz2 rfl (by omega) (w.heap.size + 3) (.slice (some ⟨w.heap.size + 3 + 1, 0, none⟩) 0 0) 0 [] (by rfl) (empty_own (X.alloc _) (w.heap.size + 3) _ (by simp [hxz]) (by omega)).drew S (.slice va L.length vc) L.length (cellsI L) (by rfl) (SliceV.sub HL.out fun b hb => ⟨hb, ((HX.out.alloc _).alloc _).drew.bel.block b (hS b hb)⟩) (cellsI_len L) HO.out (by unfold maxLen; omega) (by omega) (by simp <;> omega) ?_; intro ao cap w1 ho1 hg1 hm1; have HW1 : Hid (PutW w name limit va L.length vc (.slice pa n.props.length pc) (.slice ba n.body.length bc) w1) := PutW.grown ((HX.out.alloc _).alloc _).drew hg1 (fun b hb => by simp only [Value.ownBlock, Option.some.injEq] at hb; omega); have HO1 : Hid (w1.ownsRow (w.heap.size + 3) 78 7 (.slice ao L.length cap) L.length (cellsI L)) := (by have h := ho1; rw [Nat.zero_add, List.nil_append] at h; exact h); have HI1 : Hid (SliceV (fun _ => True) w1 (.slice (some ⟨w.heap.size + 3, 0, none⟩) 1 1) 1 ((newI id n).cells (.slice pa n.props.length pc, .slice ba n.body.length bc))) := SliceV.sub (row7_one X (newI id n) _ _ (w.heap.size + 3) hxz) (fun b hb => ⟨trivial, (hg1.block b (by subst hb; simp <;> omega) (fun e => by simp only [Value.ownBlock, Option.some.injEq] at e; omega)).trans (Below.heap_alloc _ _ _ (by subst hb; simp <;> omega))⟩); obtain ⟨q0', q1', q2', q3', q4'⟩ := HW1.out.q.b3; obtain ⟨r0', r1', r2', r3'⟩ := HW1.out.n.b2; clear ho1 hg1 hm1)
    | (refine step_appV (by rfl) (.tmp 18) (.tmp 22) 74 (by rfl) 78 i0 _ 7 88 Try.underlying74 hi0 hz0 hz1 hz2 rfl (by omega) (w.heap.size + 3) (.slice ao L.length cap) L.length (cellsI L) (by rfl) (HO1.out) (fun _ => True) (.slice (some ⟨w.heap.size + 3 + 1, 0, none⟩) 1 1) 1 ((newI id n).cells (.slice pa n.props.length pc, .slice ba n.body.length bc)) (by rfl) (HI1.out) rfl (by simp [IT.cells, newI, Value.oneCell']) (by unfold maxLen; omega) (by omega) (by have := HW1.out.res.lt; simp <;> omega) ?_; intro ao2 cap2 w2 ho2 hg2 hm2; have hlo := HO1.out.lt; have HW2 : Hid (PutW w name limit va L.length vc (.slice pa n.props.length pc) (.slice ba n.body.length bc) w2) := PutW.grown (HW1.out) hg2 (fun b hb => (hlo b hb).1); have HO2 : Hid (w2.ownsRow (w.heap.size + 3) 78 7 (.slice ao2 (L.length + 1) cap2) (L.length + 1) (cellsI L ++ ((newI id n).cells (.slice pa n.props.length pc, .slice ba n.body.length bc)))) := ho2; obtain ⟨s0, s1, s2, s3, s4⟩ := HW2.out.q.b3; obtain ⟨t0, t1, t2, t3, t4⟩ := HW2.out.res.b3; clear ho2 hg2 hm2)
    | (refine step_appV (by rfl) (.tmp 18) (.tmp 22) 74 (by rfl) 78 i0 _ 7 88 Try.underlying74 hi0 hz0 hz1 hz2 rfl (by omega) (w.heap.size + 3) (.slice ao L.length cap) L.length (cellsI L) (by rfl) (HO1.out) (fun _ => True) (.slice (some ⟨w.heap.size + 3, 0, none⟩) 1 1) 1 ((newI id n).cells (.slice pa n.props.length pc, .slice ba n.body.length bc)) (by rfl) (HI1.out) rfl (by simp [IT.cells, newI, Value.oneCell']) (by unfold maxLen; omega) (by omega) (by have := HW1.out.res.lt; simp <;> omega) ?_; intro ao2 cap2 w2 ho2 hg2 hm2; have hlo := HO1.out.lt; have HW2 : Hid (PutW w name limit va L.length vc (.slice pa n.props.length pc) (.slice ba n.body.length bc) w2) := PutW.grown (HW1.out) hg2 (fun b hb => (hlo b hb).1); have HO2 : Hid (w2.ownsRow (w.heap.size + 3) 78 7 (.slice ao2 (L.length + 1) cap2) (L.length + 1) (cellsI L ++ ((newI id n).cells (.slice pa n.props.length pc, .slice ba n.body.length bc)))) := ho2; obtain ⟨s0, s1, s2, s3, s4⟩ := HW2.out.q.b3; obtain ⟨t0, t1, t2, t3, t4⟩ := HW2.out.res.b3; clear ho2 hg2 hm2)
    | (refine step_appV (by rfl) (.tmp 18) (.tmp 22) 74 (by rfl) 78 i0 _ 7 88 Try.underlying74 hi0 hz0 hz1 hz2 rfl (by omega) (w.heap.size + 3) (.slice ao L.length cap) L.length (cellsI L) (by rfl) (own_below HO1.out (below_alloc _ _)) (fun _ => True) (.slice (some ⟨w1.heap.size, 0, none⟩) 1 1) 1 ((newI id n).cells (.slice pa n.props.length pc, .slice ba n.body.length bc)) (by rfl) (row7_slice w1 (newI id n) _ _) rfl (by simp [IT.cells, newI, Value.oneCell']) (by unfold maxLen; omega) (by omega) (by have := HW1.out.res.lt; simp <;> omega) ?_; intro ao2 cap2 w2 ho2 hg2 hm2; have hlo := HO1.out.lt; have HW2 : Hid (PutW w name limit va L.length vc (.slice pa n.props.length pc) (.slice ba n.body.length bc) w2) := PutW.grown (HW1.out.alloc _) hg2 (fun b hb => (hlo b hb).1); have HO2 : Hid (w2.ownsRow (w.heap.size + 3) 78 7 (.slice ao2 (L.length + 1) cap2) (L.length + 1) (cellsI L ++ ((newI id n).cells (.slice pa n.props.length pc, .slice ba n.body.length bc)))) := ho2; obtain ⟨s0, s1, s2, s3, s4⟩ := HW2.out.q.b3; obtain ⟨t0, t1, t2, t3, t4⟩ := HW2.out.res.b3; clear ho2 hg2 hm2))
  all_goals
    go_wp2
    refine bodyPost_ret (v := .tuple #[.agg #[.string name, .int .i64 limit, .slice ao2 (L.length + 1) cap2], .int .i64 0]) (by simp [results, Try.results61, go_sem, *]; done) rfl ⟨_, rfl, ⟨L ++ [(newI id n, (.slice pa n.props.length pc, .slice ba n.body.length bc))], by simp, ?_, fun x hx => ?_⟩, ?_⟩
    · rw [List.length_append, cellsI_snoc]
      refine (own_slice HO2.out).sub fun i hi => ?_
      have h1 := HO2.out.lt i hi
      refine ⟨.inr ⟨by omega, by simpa using h1.2⟩, ?_⟩
      iterate 4 rw [Below.heap_setCell _ _ _ _ (by simp; omega)]
    · have hnt : NoteIs S w x.2 x.1.note := by
        rcases List.mem_append.1 hx with h | h
        · exact HN.out x h
        · rw [List.mem_singleton] at h; subst h; exact HM.out
      refine hnt.sub fun i hi => ?_
      have hi' : i < w.heap.size := hS i hi
      have hz := HW2.out.bel.size
      refine ⟨.inl hi, ?_⟩
      iterate 4 rw [Below.heap_setCell _ _ _ _ (by simp; omega)]
      exact HW2.out.bel.block i hi'
    · iterate 4 refine Below.setCell ?_ (by simp <;> omega) _
      exact HW2.out.bel
end Go.Proofs.Ytkddkpdfeeikhaa
