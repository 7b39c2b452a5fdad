/-
  part: somebody is done with a tag, or gives it back.
-/
import Derived.Test.YtkddkpdfeeikhaaSsTagProofM27
namespace Go.Proofs.Ytkddkpdfeeikhaa
open Go.RowKit
set_option linter.unusedVariables false
set_option linter.unusedSimpArgs false

attribute [local go_sem ↓] Go.wp_at_zero Go.wp_at_succ

def tagF (h : HD) (k : Int) (t : TD) : HD × List ED × Int := if k = 8 then faceF h t.queue (fun k q => backF h k q t.id t.turn) else faceF h t.queue (fun k q => doneF h k q t.id t.turn)
/-- What a tag that is done with, or given back, comes to. -/
def DK.part (d : DK) (k n : Int) : DK × Int :=
  match d.ts.findIdx? (tagB n) with
  | none => (d, 6)
  | some i => match d.ts[i]? with
    | none => (d, 6)
    | some t => if (d.write (tagF d.h k t)).2 = 8 then d.write (tagF d.h k t) else (⟨(d.write (tagF d.h k t)).1.h, (d.write (tagF d.h k t)).1.l, (d.write (tagF d.h k t)).1.sure, d.ts.eraseIdx i, (d.write (tagF d.h k t)).1.nx⟩, (d.write (tagF d.h k t)).2)

theorem write_ts (d : DK) (r : HD × List ED × Int) : (d.write r).1.ts = d.ts ∧ (d.write r).1.nx = d.nx := by
  unfold DK.write
  split
  · split <;> exact ⟨rfl, rfl⟩
  · exact ⟨rfl, rfl⟩

theorem idxT_some {n : Int} {ts : List TD} {i : Nat} (h : ts.findIdx? (tagB n) = some i) : idxT n ts = (i : Int) := by simp [idxT, h]
theorem idxT_none {n : Int} {ts : List TD} (h : ts.findIdx? (tagB n) = none) : idxT n ts = -1 := by simp [idxT, h]

set_option maxRecDepth 100000 in
set_option maxHeartbeats 6400000 in
theorem part_any (N : Nat → Prop) (D lo : Nat) (d : DK) (hv lv tv : Value) (kd : Int) (q : ByteArray) (n : Int) (pv bv : Value) (w : World) (H : DeskIn N D lo d hv lv tv w) (hl : d.l.length ≤ 140737488355328) (ok : d.h.okH) (hts : d.ts.length ≤ 3518437208832)
    (hes : ∀ t ∈ d.ts, (tagF d.h kd t).2.2 = 0 → (∀ e ∈ (tagF d.h kd t).2.1, e.right) ∧ (tagF d.h kd t).2.1.length ≤ 4194304) :
    Calls Try.prog 100 #[.pointer (some ⟨D, 0, none⟩), .agg #[.int .i64 kd, .string q, .int .i64 n, pv, bv]] w fun e w' => e = .returned (.int .i64 (d.part kd n).2) ∧ (∃ hv' lv' tv', DeskIn N D lo (d.part kd n).1 hv' lv' tv' w') ∧ Below lo w w' ∧ ∀ b, b < w.heap.size → b ≠ D → tv.ownBlock ≠ some b → w'.heap[b]? = w.heap[b]? := by
  have H0 : Hid (DeskIn N D lo d hv lv tv w) := H
  obtain ⟨A, hA⟩ : ∃ A, A = w.alloc (.cells #[.int .i64 kd, .string q, .int .i64 n, pv, bv] 66) := ⟨_, rfl⟩
  have HA : Hid (Below w.heap.size w A ∧ Blk A w.heap.size [.int .i64 kd, .string q, .int .i64 n, pv, bv] ∧ A.heap.size = w.heap.size + 1) := by rw [hA]; exact ⟨below_alloc _ _, Blk.new _ _ _, by simp⟩
  have hlo := Nat.le_trans H.lo (Nat.le_of_lt H.box.lt)
  obtain ⟨a0, a1, a2, a3, a4, a5, a6, a7⟩ := (H.on HA.out.1).box.b6
  obtain ⟨ta, tc, e, htn, htm, -⟩ := own_shape H.t
  subst e
  cases hf : d.ts.findIdx? (tagB n) with
  | none =>
    have hp : d.part kd n = (d, 6) := by simp [DK.part, hf]
    have P118 : Hid (∀ W, Below A.heap.size A W → Calls Try.prog 118 #[.slice ta d.ts.length tc, .func (.func 119) #[] #[.pointer (some ⟨w.heap.size, 0, none⟩)]] W fun e w' => e = .returned (.int .i64 (-1)) ∧ Below W.heap.size W w') := by
      show ∀ W, Below A.heap.size A W → _
      intro W hW
      have := indexT_any w.heap.size kd q n pv bv (.slice ta d.ts.length tc) d.ts W (((H0.out.on HA.out.1).on hW).tU) (HA.out.2.1.below hW HA.out.2.1.lt)
      rw [idxT_none hf] at this
      exact this
    rw [hp]
    simp only
    clear H hp hf hes
    go_enter Try.func100, Try.ntmps100
    go_upto_region 1 with fail
    rw [← hA]
    clear hA
    go_wp2_with (first
      | (go_at_call 118; refine (P118.out _ (Below.refl _ _)).mono ?_; rintro e w1 ⟨rfl, hb1⟩; have H1 : Hid (Below w.heap.size w w1) := HA.out.1.trans (hb1.mono HA.out.1.size); clear hb1)
      | fail)
    go_ret
    exact ⟨rfl, ⟨_, _, _, H0.out.on H1.out⟩, H1.out.mono hlo, fun b h _ _ => H1.out.block b h⟩
  | some i =>
    obtain ⟨hi, hp0, -⟩ := List.findIdx?_eq_some_iff_getElem.1 hf
    obtain ⟨t, ht⟩ : ∃ t, t = d.ts[i] := ⟨_, rfl⟩
    have hte : d.ts[i]? = some t := by rw [ht]; exact List.getElem?_eq_getElem hi
    obtain ⟨r, hr⟩ : ∃ r, r = tagF d.h kd t := ⟨_, rfl⟩
    have hp : d.part kd n = if (d.write r).2 = 8 then d.write r else (⟨(d.write r).1.h, (d.write r).1.l, (d.write r).1.sure, d.ts.eraseIdx i, (d.write r).1.nx⟩, (d.write r).2) := by simp only [DK.part, hf, hte, hr]
    have hes' := hes t (by rw [ht]; exact List.getElem_mem hi)
    rw [← hr] at hes'
    obtain ⟨g, hg⟩ : ∃ g, ta = some ⟨g, 0, none⟩ := by
      rcases H.t.2 with ⟨e, h0⟩ | ⟨g, cap', cur, e, -⟩
      · omega
      · simp only [Value.slice.injEq] at e
        exact ⟨g, e.1⟩
    subst hg
    obtain ⟨m, hm⟩ : ∃ m, d.ts.length = i + m + 1 := ⟨d.ts.length - i - 1, by omega⟩
    have HM : Hid (d.ts.length = i + m + 1) := hm
    have P118 : Hid (∀ W, Below A.heap.size A W → Calls Try.prog 118 #[.slice (some ⟨g, 0, none⟩) (i + m + 1) tc, .func (.func 119) #[] #[.pointer (some ⟨w.heap.size, 0, none⟩)]] W fun e w' => e = .returned (.int .i64 i) ∧ Below W.heap.size W w') := by
      show ∀ W, Below A.heap.size A W → _
      intro W hW
      have := indexT_any w.heap.size kd q n pv bv (.slice (some ⟨g, 0, none⟩) d.ts.length tc) d.ts W (((H0.out.on HA.out.1).on hW).tU) (HA.out.2.1.below hW HA.out.2.1.lt)
      rw [idxT_some hf, hm] at this
      exact this
    have HC : Hid (∀ W, Below w.heap.size w W → W.cell? ⟨g, i * 4, none⟩ = some (.int .i64 t.n) ∧ W.cell? ⟨g, i * 4 + 1, none⟩ = some (.string t.queue) ∧ W.cell? ⟨g, i * 4 + 2, none⟩ = some (.int .i64 t.id) ∧ W.cell? ⟨g, i * 4 + 3, none⟩ = some (.int .i64 t.turn)) := by
      show ∀ W, Below w.heap.size w W → _
      intro W hW
      obtain ⟨b, off, e, hs, c⟩ := ((H0.out.on hW).tU).at i hi
      simp only [Option.some.injEq, Addr.mk.injEq, and_true] at e
      obtain ⟨rfl, rfl⟩ := e
      rw [← ht] at c
      simpa using c
    have HDN : Hid (kd ≠ 8 → ∀ W g', Blk W g' t.cells → g' < W.heap.size → Does W.heap.size W 139 [.pointer (some ⟨g', 0, none⟩)] d.h r) := by
      intro hk W g' hb hg'
      rw [hr, tagF, if_neg hk]
      exact done_does W.heap.size g' t W d.h hb hg' ok
    have HBK : Hid (kd = 8 → ∀ W g', Blk W g' t.cells → g' < W.heap.size → Does W.heap.size W 112 [.pointer (some ⟨g', 0, none⟩)] d.h r) := by
      intro hk W g' hb hg'
      rw [hr, tagF, if_pos hk]
      exact back_does W.heap.size g' t W d.h hb hg' ok
    have HW : Hid (∀ F caps W, DeskIn N D lo d hv lv (.slice (some ⟨g, 0, none⟩) d.ts.length tc) W → Does W.heap.size W F caps d.h r → Calls Try.prog 92 #[.pointer (some ⟨D, 0, none⟩), .func (.func F) #[] caps.toArray] W fun e w' => e = .returned (.int .i64 (d.write r).2) ∧ (∃ hv' lv', DeskIn N D lo (d.write r).1 hv' lv' (.slice (some ⟨g, 0, none⟩) d.ts.length tc) w') ∧ Below lo W w' ∧ ∀ b, b < W.heap.size → b ≠ D → w'.heap[b]? = W.heap[b]?) :=
      fun F caps W hd hF => sswrite_any N D lo F caps d hv lv _ r W hd hF hes' hl
    have hwts := write_ts d r
    obtain ⟨x, hx⟩ : ∃ x, x = d.write r := ⟨_, rfl⟩
    rw [← hx] at HW hp hwts
    rw [hp]
    have hwr : IntKind.i64.wrap ((i : Int) + 1) = (i : Int) + 1 := by simp [IntKind.wrap, IntKind.bits]; omega
    have htc : i + m + 1 ≤ tc := by omega
    have HWT : Hid (x.1.ts = d.ts) := hwts.1
    have HTS : Hid (i + m + 1 ≤ 3518437208883) := by show _ ≤ _; omega
    rw [hm] at a4
    unfold maxLen at htm
    clear H hp hf hes hes' hl ok hp0 ht hte hr hx hwts hm htn hts hi
    obtain ⟨d0, d1, d2, d3⟩ := HC.out A HA.out.1
    have hEnd : Hid (∀ (W w3 : World) (hv' lv' : Value), Below lo w w3 → DeskIn N D lo x.1 hv' lv' (.slice (some ⟨g, 0, none⟩) d.ts.length tc) w3 → ∃ xs, w3.ownsRow lo 50 4 (.slice (some ⟨g, 0, none⟩) (i + m + 1) tc) (i + m + 1) xs ∧ (∀ u ∈ xs, u.oneCell' = true) ∧ (w3.heap[D]? = w3.heap[D]?) ∧ ∀ w4, w4.ownsRow lo 50 4 (.slice (some ⟨g, 0, none⟩) (i + m) tc) (i + m) (xs.take (i * 4) ++ xs.drop ((i + 1) * 4)) → w3.grownBy w4 (some g) →
        (∀ o, w4.frozen? ⟨D, o, none⟩ = false) ∧ (D < w4.heap.size ∧ w4.cell? ⟨D, 4, none⟩ = some (.slice (some ⟨g, 0, none⟩) d.ts.length tc)) ∧ DeskIn N D lo ⟨x.1.h, x.1.l, x.1.sure, d.ts.eraseIdx i, x.1.nx⟩ hv' lv' (.slice (some ⟨g, 0, none⟩) (i + m) tc) (w4.setCell ⟨D, 4, none⟩ (.slice (some ⟨g, 0, none⟩) (i + m) tc)) ∧ Below lo w (w4.setCell ⟨D, 4, none⟩ (.slice (some ⟨g, 0, none⟩) (i + m) tc)) ∧ ∀ b, b < w3.heap.size → b ≠ D → (Value.slice (some ⟨g, 0, none⟩) d.ts.length tc).ownBlock ≠ some b → (w4.setCell ⟨D, 4, none⟩ (.slice (some ⟨g, 0, none⟩) (i + m) tc)).heap[b]? = w3.heap[b]?) := by
      intro W w3 hv' lv' hb3 H3
      have htD : g ≠ D := fun e => H3.tD (by rw [← e]; rfl)
      refine ⟨cellsT d.ts, ?_, cellsT_one _, rfl, fun w4 ho4 hg4 => ?_⟩
      · have := H3.t
        rw [HWT.out, HM.out] at this
        exact this
      · have kD : Blk w4 D [hv', .int .i64 x.1.h.next, lv', .int .i64 x.1.sure, .slice (some ⟨g, 0, none⟩) d.ts.length tc, .int .i64 x.1.nx] := H3.box.same (hg4.block D H3.box.lt (fun e => htD (by simpa using e.symm)))
        have far : ∀ b, b ≠ D → (w4.setCell ⟨D, 4, none⟩ (.slice (some ⟨g, 0, none⟩) (i + m) tc)).heap[b]? = w4.heap[b]? := fun b hb => Below.heap_setCell _ _ _ _ hb
        have hel : (d.ts.eraseIdx i).length = i + m := by rw [List.length_eraseIdx_of_lt (by rw [HM.out]; omega), HM.out]; omega
        have hto := H3.to (d.ts.eraseIdx i) x.1.nx (W := w4.setCell ⟨D, 4, none⟩ (.slice (some ⟨g, 0, none⟩) (i + m) tc)) (tv' := .slice (some ⟨g, 0, none⟩) (i + m) tc) (by have := hg4.size; simpa using this) (fun b h1 h2 h3 _ => (far b h2).trans (hg4.block b h1 (fun e => h3 (by rw [e]; rfl)))) (kD.set 4 _) (by rw [hel, ← cellsT_erase]; exact own_same ho4 fun b hb => far b (fun e => htD (by simp [Value.ownBlock] at hb; omega))) (fun k hk => .inl (by simpa [Value.ownBlock] using hk))
        refine ⟨kD.f, ⟨kD.lt, kD.cell 4⟩, hto.1, hb3.trans (Below.setCell (show Below lo w3 w4 from ⟨hg4.os, hg4.tape, hg4.output, hg4.size, fun b hb => hg4.block b (by have := H3.box.lt; have := H3.lo; omega) (fun e => by have := (H3.t.lt g rfl).1; simp at e; omega)⟩) H3.lo _), fun b h1 h2 h3 => (far b h2).trans (hg4.block b h1 (fun e => h3 (by rw [e]; rfl)))⟩
    have hDw := H0.out.box.lt
    by_cases he : x.2 = 8
    · rw [if_pos he]
      rw [he] at HW ⊢
      by_cases hk : kd = 8
      · have HBK2 : Hid (∀ W g', Blk W g' t.cells → g' < W.heap.size → Does W.heap.size W 112 [.pointer (some ⟨g', 0, none⟩)] d.h r) := HBK.out hk
        clear HBK HDN
        subst hk
        go_enter Try.func100, Try.ntmps100
        go_upto_region 1 with fail
        rw [← hA]
        clear hA
        go_upto_region 9 with (first
          | (go_at_call 118; refine (P118.out _ (Below.refl _ _)).mono ?_; rintro e w1 ⟨rfl, hb1⟩; have H1 : Hid (Below A.heap.size A w1) := hb1; have H1' : Hid (Below w.heap.size w w1) := HA.out.1.trans (hb1.mono HA.out.1.size); obtain ⟨c0, c1, c2, c3⟩ := HC.out w1 H1'.out; obtain ⟨f0, f1, f2, f3, f4, f5, f6⟩ := (HA.out.2.1.below hb1 HA.out.2.1.lt).b5; clear hb1 d0 d1 d2 d3 a0 a1 a2 a3 a4 a5 a6 a7)
          | (go_at_call 120; refine (doneOf_any t _).mono ?_; rintro e w2 ⟨rfl, hw2⟩; have hb2 : Below w1.heap.size w1 w2 := (by rw [hw2]; exact below_alloc _ _); have H2 : Hid (Below A.heap.size A w2) := H1.out.trans (hb2.mono H1.out.size); have H2' : Hid (Below w.heap.size w w2) := HA.out.1.trans (H2.out.mono HA.out.1.size); obtain ⟨c0', c1', c2', c3'⟩ := HC.out w2 H2'.out; obtain ⟨g0, g1, g2, g3, g4, g5, g6⟩ := (HA.out.2.1.below H2.out HA.out.2.1.lt).b5; clear hb2 hw2 c0 c1 c2 c3 f0 f1 f2 f3 f4 f5 f6)
          | (go_at_call 93; refine (backOf_any t _).mono ?_; rintro e w3 ⟨rfl, hw3⟩; have H3 : Hid (Below w.heap.size w w3 ∧ Blk w3 w2.heap.size t.cells) := (by rw [hw3]; exact ⟨H2'.out.trans ((below_alloc _ _).mono H2'.out.size), Blk.new _ _ _⟩); clear hw3 c0' c1' c2' c3')
          | (go_at_call 92; refine (HW.out 112 [.pointer (some ⟨w2.heap.size, 0, none⟩)] _ (H0.out.on H3.out.1) (HBK2.out _ _ H3.out.2 H3.out.2.lt)).mono ?_; rintro e w4 ⟨rfl, ⟨hv', lv', hd4⟩, hb4, hk4⟩; have H4 : Hid (DeskIn N D lo x.1 hv' lv' (.slice (some ⟨g, 0, none⟩) d.ts.length tc) w4 ∧ Below lo w w4) := ⟨hd4, (H3.out.1.mono hlo).trans hb4⟩; have HK4 : Hid (∀ b, b < w.heap.size → b ≠ D → w4.heap[b]? = w.heap[b]?) := (fun b h1 h2 => (hk4 b (Nat.lt_of_lt_of_le h1 H3.out.1.size) h2).trans (H3.out.1.block b h1)); clear hd4 hb4 hk4)
          | fail)
        go_wp2_with fail
        go_ret
        exact ⟨rfl, ⟨hv', lv', _, H4.out.1⟩, H4.out.2, fun b h1 h2 _ => HK4.out b h1 h2⟩
      · have hk8 : (kd == 8) = false := by simpa using hk
        go_enter Try.func100, Try.ntmps100
        go_upto_region 1 with fail
        rw [← hA]
        clear hA
        go_upto_region 9 with (first
          | (go_at_call 118; refine (P118.out _ (Below.refl _ _)).mono ?_; rintro e w1 ⟨rfl, hb1⟩; have H1 : Hid (Below A.heap.size A w1) := hb1; have H1' : Hid (Below w.heap.size w w1) := HA.out.1.trans (hb1.mono HA.out.1.size); obtain ⟨c0, c1, c2, c3⟩ := HC.out w1 H1'.out; obtain ⟨f0, f1, f2, f3, f4, f5, f6⟩ := (HA.out.2.1.below hb1 HA.out.2.1.lt).b5; clear hb1 d0 d1 d2 d3 a0 a1 a2 a3 a4 a5 a6 a7)
          | (go_at_call 120; refine (doneOf_any t _).mono ?_; rintro e w2 ⟨rfl, hw2⟩; have hb2 : Below w1.heap.size w1 w2 := (by rw [hw2]; exact below_alloc _ _); have H2 : Hid (Below A.heap.size A w2) := H1.out.trans (hb2.mono H1.out.size); have H2' : Hid (Below w.heap.size w w2 ∧ Blk w2 w1.heap.size t.cells) := (by rw [hw2]; exact ⟨H1'.out.trans ((below_alloc _ _).mono H1'.out.size), Blk.new _ _ _⟩); obtain ⟨g0, g1, g2, g3, g4, g5, g6⟩ := (HA.out.2.1.below H2.out HA.out.2.1.lt).b5; clear hb2 hw2 c0 c1 c2 c3 f0 f1 f2 f3 f4 f5 f6)
          | (go_at_call 92; refine (HW.out 139 [.pointer (some ⟨w1.heap.size, 0, none⟩)] _ (H0.out.on H2'.out.1) (HDN.out hk _ _ H2'.out.2 H2'.out.2.lt)).mono ?_; rintro e w4 ⟨rfl, ⟨hv', lv', hd4⟩, hb4, hk4⟩; have H4 : Hid (DeskIn N D lo x.1 hv' lv' (.slice (some ⟨g, 0, none⟩) d.ts.length tc) w4 ∧ Below lo w w4) := ⟨hd4, (H2'.out.1.mono hlo).trans hb4⟩; have HK4 : Hid (∀ b, b < w.heap.size → b ≠ D → w4.heap[b]? = w.heap[b]?) := (fun b h1 h2 => (hk4 b (Nat.lt_of_lt_of_le h1 H2'.out.1.size) h2).trans (H2'.out.1.block b h1)); clear hd4 hb4 hk4)
          | fail)
        go_wp2_with fail
        go_ret
        exact ⟨rfl, ⟨hv', lv', _, H4.out.1⟩, H4.out.2, fun b h1 h2 _ => HK4.out b h1 h2⟩
    · rw [if_neg he]
      by_cases hk : kd = 8
      · have HBK2 : Hid (∀ W g', Blk W g' t.cells → g' < W.heap.size → Does W.heap.size W 112 [.pointer (some ⟨g', 0, none⟩)] d.h r) := HBK.out hk
        clear HBK HDN
        subst hk
        go_enter Try.func100, Try.ntmps100
        go_upto_region 1 with fail
        rw [← hA]
        clear hA
        go_upto_region 9 with (first
          | (go_at_call 118; refine (P118.out _ (Below.refl _ _)).mono ?_; rintro e w1 ⟨rfl, hb1⟩; have H1 : Hid (Below A.heap.size A w1) := hb1; have H1' : Hid (Below w.heap.size w w1) := HA.out.1.trans (hb1.mono HA.out.1.size); obtain ⟨c0, c1, c2, c3⟩ := HC.out w1 H1'.out; obtain ⟨f0, f1, f2, f3, f4, f5, f6⟩ := (HA.out.2.1.below hb1 HA.out.2.1.lt).b5; clear hb1 d0 d1 d2 d3 a0 a1 a2 a3 a4 a5 a6 a7)
          | (go_at_call 120; refine (doneOf_any t _).mono ?_; rintro e w2 ⟨rfl, hw2⟩; have hb2 : Below w1.heap.size w1 w2 := (by rw [hw2]; exact below_alloc _ _); have H2 : Hid (Below A.heap.size A w2) := H1.out.trans (hb2.mono H1.out.size); have H2' : Hid (Below w.heap.size w w2) := HA.out.1.trans (H2.out.mono HA.out.1.size); obtain ⟨c0', c1', c2', c3'⟩ := HC.out w2 H2'.out; obtain ⟨g0, g1, g2, g3, g4, g5, g6⟩ := (HA.out.2.1.below H2.out HA.out.2.1.lt).b5; clear hb2 hw2 c0 c1 c2 c3 f0 f1 f2 f3 f4 f5 f6)
          | (go_at_call 93; refine (backOf_any t _).mono ?_; rintro e w3 ⟨rfl, hw3⟩; have H3 : Hid (Below w.heap.size w w3 ∧ Blk w3 w2.heap.size t.cells) := (by rw [hw3]; exact ⟨H2'.out.trans ((below_alloc _ _).mono H2'.out.size), Blk.new _ _ _⟩); clear hw3 c0' c1' c2' c3')
          | (go_at_call 92; refine (HW.out 112 [.pointer (some ⟨w2.heap.size, 0, none⟩)] _ (H0.out.on H3.out.1) (HBK2.out _ _ H3.out.2 H3.out.2.lt)).mono ?_; rintro e w4 ⟨rfl, ⟨hv', lv', hd4⟩, hb4, hk4⟩; have H4 : Hid (DeskIn N D lo x.1 hv' lv' (.slice (some ⟨g, 0, none⟩) d.ts.length tc) w4 ∧ Below lo w w4) := ⟨hd4, (H3.out.1.mono hlo).trans hb4⟩; have HK4 : Hid (∀ b, b < w.heap.size → b ≠ D → w4.heap[b]? = w.heap[b]?) := (fun b h1 h2 => (hk4 b (Nat.lt_of_lt_of_le h1 H3.out.1.size) h2).trans (H3.out.1.block b h1)); clear hd4 hb4 hk4)
          | fail)
        have HSZ : Hid (w.heap.size ≤ w4.heap.size) := H4.out.2.size
        obtain ⟨xs, ho4, hx1, -, hfin⟩ := hEnd.out w w4 hv' lv' H4.out.2 H4.out.1
        have HX1 : Hid (∀ u ∈ xs, u.oneCell' = true) := hx1
        have HO4 : Hid (w4.ownsRow lo 50 4 (.slice (some ⟨g, 0, none⟩) (i + m + 1) tc) (i + m + 1) xs) := ho4
        have HFIN : Hid _ := hfin
        have hDg : ∀ o, w4.frozen? ⟨D, o, none⟩ = false := H4.out.1.box.f
        clear hx1 ho4 hfin
        go_wp2_with (first
          | (go_at_call 121; refine (deleteT_any lo g i m tc xs w4 HO4.out HX1.out HTS.out).mono ?_; rintro e w5 ⟨rfl, ho5, hg5⟩; have hf5 := HFIN.out w5 ho5 hg5; have HF5 : Hid _ := hf5.2.2; have hf6 := hf5.1; obtain ⟨hf7, hf8⟩ := hf5.2.1; clear ho5 hg5 hf5)
          | fail)
        go_ret
        exact ⟨rfl, ⟨hv', lv', _, HF5.out.1⟩, HF5.out.2.1, fun b h1 h2 h3 => (HF5.out.2.2 b (Nat.lt_of_lt_of_le h1 HSZ.out) h2 (by rw [HM.out] at *; exact h3)).trans (HK4.out b h1 h2)⟩
      · have hk8 : (kd == 8) = false := by simpa using hk
        go_enter Try.func100, Try.ntmps100
        go_upto_region 1 with fail
        rw [← hA]
        clear hA
        go_upto_region 9 with (first
          | (go_at_call 118; refine (P118.out _ (Below.refl _ _)).mono ?_; rintro e w1 ⟨rfl, hb1⟩; have H1 : Hid (Below A.heap.size A w1) := hb1; have H1' : Hid (Below w.heap.size w w1) := HA.out.1.trans (hb1.mono HA.out.1.size); obtain ⟨c0, c1, c2, c3⟩ := HC.out w1 H1'.out; obtain ⟨f0, f1, f2, f3, f4, f5, f6⟩ := (HA.out.2.1.below hb1 HA.out.2.1.lt).b5; clear hb1 d0 d1 d2 d3 a0 a1 a2 a3 a4 a5 a6 a7)
          | (go_at_call 120; refine (doneOf_any t _).mono ?_; rintro e w2 ⟨rfl, hw2⟩; have hb2 : Below w1.heap.size w1 w2 := (by rw [hw2]; exact below_alloc _ _); have H2 : Hid (Below A.heap.size A w2) := H1.out.trans (hb2.mono H1.out.size); have H2' : Hid (Below w.heap.size w w2 ∧ Blk w2 w1.heap.size t.cells) := (by rw [hw2]; exact ⟨H1'.out.trans ((below_alloc _ _).mono H1'.out.size), Blk.new _ _ _⟩); obtain ⟨g0, g1, g2, g3, g4, g5, g6⟩ := (HA.out.2.1.below H2.out HA.out.2.1.lt).b5; clear hb2 hw2 c0 c1 c2 c3 f0 f1 f2 f3 f4 f5 f6)
          | (go_at_call 92; refine (HW.out 139 [.pointer (some ⟨w1.heap.size, 0, none⟩)] _ (H0.out.on H2'.out.1) (HDN.out hk _ _ H2'.out.2 H2'.out.2.lt)).mono ?_; rintro e w4 ⟨rfl, ⟨hv', lv', hd4⟩, hb4, hk4⟩; have H4 : Hid (DeskIn N D lo x.1 hv' lv' (.slice (some ⟨g, 0, none⟩) d.ts.length tc) w4 ∧ Below lo w w4) := ⟨hd4, (H2'.out.1.mono hlo).trans hb4⟩; have HK4 : Hid (∀ b, b < w.heap.size → b ≠ D → w4.heap[b]? = w.heap[b]?) := (fun b h1 h2 => (hk4 b (Nat.lt_of_lt_of_le h1 H2'.out.1.size) h2).trans (H2'.out.1.block b h1)); clear hd4 hb4 hk4)
          | fail)
        have HSZ : Hid (w.heap.size ≤ w4.heap.size) := H4.out.2.size
        obtain ⟨xs, ho4, hx1, -, hfin⟩ := hEnd.out w w4 hv' lv' H4.out.2 H4.out.1
        have HX1 : Hid (∀ u ∈ xs, u.oneCell' = true) := hx1
        have HO4 : Hid (w4.ownsRow lo 50 4 (.slice (some ⟨g, 0, none⟩) (i + m + 1) tc) (i + m + 1) xs) := ho4
        have HFIN : Hid _ := hfin
        have hDg : ∀ o, w4.frozen? ⟨D, o, none⟩ = false := H4.out.1.box.f
        clear hx1 ho4 hfin
        go_wp2_with (first
          | (go_at_call 121; refine (deleteT_any lo g i m tc xs w4 HO4.out HX1.out HTS.out).mono ?_; rintro e w5 ⟨rfl, ho5, hg5⟩; have hf5 := HFIN.out w5 ho5 hg5; have HF5 : Hid _ := hf5.2.2; have hf6 := hf5.1; obtain ⟨hf7, hf8⟩ := hf5.2.1; clear ho5 hg5 hf5)
          | fail)
        go_ret
        exact ⟨rfl, ⟨hv', lv', _, HF5.out.1⟩, HF5.out.2.1, fun b h1 h2 h3 => (HF5.out.2.2 b (Nat.lt_of_lt_of_le h1 HSZ.out) h2 (by rw [HM.out] at *; exact h3)).trans (HK4.out b h1 h2)⟩
end Go.Proofs.Ytkddkpdfeeikhaa
