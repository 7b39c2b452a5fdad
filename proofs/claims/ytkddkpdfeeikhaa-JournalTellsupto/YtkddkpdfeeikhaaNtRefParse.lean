/-
  tgref1.Parse answers what parseF says of any bytes.
-/
import Derived.Test.YtkddkpdfeeikhaaJTellsProofM38
namespace Go.Proofs.Ytkddkpdfeeikhaa.NT
open Go.RowKit
set_option linter.unusedVariables false
set_option linter.unusedSimpArgs false

theorem own_setOther {w : World} {base : Nat} {e : TypeId} {size : Nat} {v : Value} {n : Nat} {xs : List Value} (h : w.ownsRow base e size v n xs) {a : Addr} (ha : v.ownBlock ≠ some a.block) (u : Value) : (w.setCell a u).ownsRow base e size v n xs :=
  h.kept (grownBy_setCell w a u) (.inr ha)
theorem set_size (w : World) (a : Addr) (u : Value) : (w.setCell a u).heap.size = w.heap.size := by simp [World.setCell]
theorem new_prop_at (w : World) (a : Addr) (u : Value) (p : PD) : SliceP (w.heap.size + 1) ((w.setCell a u).alloc (.cells #[.string p.key, .int .i64 p.kind, .int .i64 p.n, .string p.text] 98)) (.slice (some ⟨w.heap.size, 0, none⟩) 1 1) [p] := by
  have := new_prop (w.setCell a u) p
  rw [set_size] at this
  exact this

theorem numberF_end (bs : List UInt8) (p : Nat) (h : bs.length < p + 4) : (numberF (bs.drop p, false)).2.2 = true := by
  unfold numberF; rw [takeF_end 4 _ (by simp; omega)]
theorem numberF_at (bs : List UInt8) (p : Nat) (h : p + 4 ≤ bs.length) : numberF (bs.drop p, false) = (int32 (valB ((bs.drop p).take 4)), (bs.drop (p + 4), false)) := by
  unfold numberF; rw [takeF_at bs p 4 h]
theorem slice_from {B : Nat} {w : World} {b off c : Nat} {bs : List UInt8} (h : SliceB B w (.slice (some ⟨b, off, none⟩) bs.length c) bs) (i : Nat) (hi : i < c) : SliceB B w (.slice (some ⟨b, off + i, none⟩) (bs.length - i) (c - i)) (bs.drop i) := by
  obtain ⟨a', c', e, h1, h2, h3, h4⟩ := h
  simp only [Value.slice.injEq] at e
  obtain ⟨rfl, -, rfl⟩ := e
  have := bytes_drop h4 i
  simp only [Option.map_some, add_none] at this
  exact ⟨some ⟨b, off + i, none⟩, c - i, by simp, by simp; omega, by unfold maxLen at *; omega, fun h => by simp at h, this⟩

theorem new_prop_2 (w : World) (a a' : Addr) (u u' : Value) (o : Obj) (p : PD) : SliceP (w.heap.size + 1 + 1) ((((w.setCell a u).setCell a' u').alloc o).alloc (.cells #[.string p.key, .int .i64 p.kind, .int .i64 p.n, .string p.text] 98)) (.slice (some ⟨w.heap.size + 1, 0, none⟩) 1 1) [p] := by
  have := new_prop (((w.setCell a u).setCell a' u').alloc o) p
  rw [World.size_alloc, set_size, set_size] at this
  exact this

theorem empty_eq : ByteArray.empty = ⟨#[]⟩ := rfl

def atF (bs : List UInt8) (p : Nat) : Nat := p + 1 + (bs.getD p 0).toNat
theorem at_good (bs : List UInt8) (p : Nat) (hs : (textF (bs.drop p, false)).2.2 = false) : atF bs p ≤ bs.length ∧ (textF (bs.drop p, false)).2 = (bs.drop (atF bs p), false) := by
  have h1 : p < bs.length := by
    rcases Nat.lt_or_ge p bs.length with h | h
    · exact h
    · rw [textF_end1 bs p h] at hs; simp at hs
  have h2 : p + 1 + (bs[p]).toNat ≤ bs.length := by
    rcases Nat.lt_or_ge bs.length (p + 1 + (bs[p]).toNat) with h | h
    · rw [textF_end2 bs p h1 h] at hs; simp at hs
    · exact h
  have e : atF bs p = p + 1 + (bs[p]).toNat := by simp [atF, List.getD, List.getElem?_eq_getElem h1]
  rw [e]
  exact ⟨h2, by rw [textF_at bs p h1 h2]⟩
theorem txt_good2 (B : Nat) (a : Option Addr) (c p : Nat) (bs : List UInt8) (v : Value) (w : World) (hw : PW B w a bs.length c p false v) (hb : SliceB B w (.slice a bs.length c) bs) (hbl : bs.length ≤ 140737488351232) (hs : (textF (bs.drop p, false)).2.2 = false) :
    Calls Try.prog 75 #[.pointer (some ⟨B + 1 + 1, 0, none⟩), .pointer (some ⟨B, 0, none⟩), .pointer (some ⟨B + 1 + 1 + 1, 0, none⟩)] w fun e w' => e = .returned (.string (textF (bs.drop p, false)).1) ∧ PW B w' a bs.length c (atF bs p) false v ∧ Fr B w w' := by
  have h1 : p < bs.length := by
    rcases Nat.lt_or_ge p bs.length with h | h
    · exact h
    · rw [textF_end1 bs p h] at hs; simp at hs
  have h2 : p + 1 + (bs[p]).toNat ≤ bs.length := by
    rcases Nat.lt_or_ge bs.length (p + 1 + (bs[p]).toNat) with h | h
    · rw [textF_end2 bs p h1 h] at hs; simp at hs
    · exact h
  have e : atF bs p = p + 1 + (bs[p]).toNat := by simp [atF, List.getD, List.getElem?_eq_getElem h1]
  rw [e, textF_at bs p h1 h2]
  refine (refTxt_yes _ _ _ p a c bs w hw.p.c (hw.p.f 0) hw.b.c (by omega) B (by omega) hb h1 hbl h2).mono ?_
  rintro e w' ⟨rfl, k, rfl⟩
  exact ⟨rfl, hw.setP _ k, Fr.set B w _ _ k (by dsimp only; omega) (by dsimp only; omega)⟩

theorem refWrong_any' (pa : Option Addr) (pl pc : Nat) (ps : List PD) (ba : Option Addr) (bl bc : Nat) (w : World) (hl : ps.length = pl) (hps : PropsAt w.heap.size w pa ps) (hfit : ∀ p ∈ ps, p.fits) (hpl : pl ≤ maxLen) (hbl : bl ≤ maxLen) :
    Calls Try.prog 14 #[.agg #[.slice pa pl pc, .slice ba bl bc]] w fun e w' => e = .returned (.int .i64 (wrongN ps bl)) ∧ Below w.heap.size w w' := by
  subst hl
  exact refWrong_any pa pc ps ba bl bc w hps hfit hpl hbl

/-- Behind '[]byte(..)', a store of it, and a call that turns nothing old. -/
theorem conv_keep {w1 w2 : World} {g j : Nat} {o : Obj} {u : Value} (hb : Below ((w1.setCell ⟨g, j, none⟩ u).alloc o).drew.heap.size ((w1.setCell ⟨g, j, none⟩ u).alloc o).drew w2) : ∀ k, k < w1.heap.size → k ≠ g → w2.heap[k]? = w1.heap[k]? := fun k hk hn =>
  (hb.block k (by show k < ((w1.setCell ⟨g, j, none⟩ u).alloc o).heap.size; rw [World.size_alloc, set_size]; omega)).trans ((Below.heap_alloc _ _ _ (by rw [set_size]; omega)).trans (Below.heap_setCell _ _ _ _ (by dsimp only; omega)))
theorem conv_below {w w1 w2 : World} {B g j : Nat} {o : Obj} {u : Value} (bel : Below B w w1) (h1 : B ≤ g) (h2 : B ≤ w1.heap.size) (hb : Below ((w1.setCell ⟨g, j, none⟩ u).alloc o).drew.heap.size ((w1.setCell ⟨g, j, none⟩ u).alloc o).drew w2) : Below B w w2 :=
  (((bel.setCell (p := ⟨g, j, none⟩) h1 u).alloc (by rw [set_size]; exact h2) o).drew).trans (hb.mono (by show B ≤ ((w1.setCell ⟨g, j, none⟩ u).alloc o).heap.size; rw [World.size_alloc, set_size]; omega))

theorem props_conv {w1 : World} {B g j q : Nat} {va : Option Addr} {vc : Nat} {ps : List PD} {o : Obj} {u : Value} (hl : ps.length = q) (ho : w1.ownsRow (B + 5) 98 4 (.slice va q vc) q (cellsL ps)) (hg : g < B + 5) : PropsAt ((w1.setCell ⟨g, j, none⟩ u).alloc o).drew.heap.size ((w1.setCell ⟨g, j, none⟩ u).alloc o).drew va ps := by
  subst hl
  obtain ⟨a, cap, e, _, _, _, h⟩ := own_props (((ownsRow_setCell_below ho (a := ⟨g, j, none⟩) (by dsimp only; omega) u).alloc o).drew)
  simp only [Value.slice.injEq] at e
  obtain ⟨rfl, _, _⟩ := e
  exact h

theorem row_slice {w : World} {g cap : Nat} {fr : Nat × Nat} {s : ByteArray} (hg : w.heap[g]? = some (.cells (bytesRow s cap) 5 fr)) (hc : s.size ≤ cap) (hm : cap ≤ maxLen) : SliceB w.heap.size w (.slice (some ⟨g, 0, none⟩) s.size cap) s.data.toList := by
  refine ⟨some ⟨g, 0, none⟩, cap, by rw [size_list], by rw [size_list]; exact hc, hm, fun h => by simp at h, fun i hi => ⟨g, 0, rfl, (Array.getElem?_eq_some_iff.1 hg).1, ?_⟩⟩
  rw [size_list] at hi
  rw [cell_of_row w g _ _ 5 fr hg, Nat.zero_add]
  unfold bytesRow
  have hi' : i < s.data.size := hi
  rw [Array.getElem?_append_left (by simpa using hi')]
  simp
  exact ⟨s.data[i], by simp [hi'], rfl⟩
theorem conv_note {w1 w2 : World} {g : Nat} {o : Obj} {u v x : Value} (h : NoteBlk w1 g v x) (hb : Below ((w1.setCell ⟨g, 1, none⟩ u).alloc o).drew.heap.size ((w1.setCell ⟨g, 1, none⟩ u).alloc o).drew w2) : NoteBlk w2 g v u :=
  (h.set1 u).same ((hb.block g (by show g < ((w1.setCell ⟨g, 1, none⟩ u).alloc o).heap.size; rw [World.size_alloc, set_size]; have := h.lt; omega)).trans (Below.heap_alloc _ _ _ (by rw [set_size]; exact h.lt)))
theorem conv_row {w1 w2 : World} {g j : Nat} {o : Obj} {u : Value} (hb : Below ((w1.setCell ⟨g, j, none⟩ u).alloc o).drew.heap.size ((w1.setCell ⟨g, j, none⟩ u).alloc o).drew w2) : w2.heap[w1.heap.size]? = some o := by
  have h := heap_alloc_new (w1.setCell ⟨g, j, none⟩ u) o
  rw [set_size] at h
  exact (hb.block w1.heap.size (by show w1.heap.size < ((w1.setCell ⟨g, j, none⟩ u).alloc o).heap.size; rw [World.size_alloc, set_size]; omega)).trans h

theorem parse_last {bs : List UInt8} {c : UInt8} {p : Nat} {h0 : 0 < bs.length} (hc : c = bs[0]) (h4 : c.toNat ≤ 4) (hst : (propsF c.toNat (bs.drop 1, false)).2 = (bs.drop p, false)) (hs : (textF (bs.drop p, false)).2.2 = true) : parseF bs = (9, [], [], 0) := by
  have e := sizeF_at bs 0 h0
  rw [List.drop_zero, ← hc, Nat.zero_add] at e
  have h3 : (noteF c.toNat (bs.drop 1, false)).2.2.2 = true := by
    unfold noteF; rw [hst]; exact hs
  unfold parseF
  rw [e]
  have h5 : ¬ 4 < c.toNat := by omega
  rw [if_neg (by simp), if_neg h5, if_pos h3]
/-- The note that was read. -/
theorem parse_note {bs : List UInt8} {c : UInt8} {p q : Nat} {h0 : 0 < bs.length} (hc : c = bs[0]) (h4 : c.toNat ≤ 4) (hst : (propsF c.toNat (bs.drop 1, false)).2 = (bs.drop p, false)) (hq : q ≤ bs.length) (hs : (textF (bs.drop p, false)).2 = (bs.drop q, false)) :
    parseF bs = if wrongN (propsF c.toNat (bs.drop 1, false)).1 (textF (bs.drop p, false)).1.data.toList.length == 0 then (0, (propsF c.toNat (bs.drop 1, false)).1, (textF (bs.drop p, false)).1.data.toList, q) else (wrongN (propsF c.toNat (bs.drop 1, false)).1 (textF (bs.drop p, false)).1.data.toList.length, [], [], 0) := by
  have e := sizeF_at bs 0 h0
  rw [List.drop_zero, ← hc, Nat.zero_add] at e
  have hn : noteF c.toNat (bs.drop 1, false) = ((propsF c.toNat (bs.drop 1, false)).1, (textF (bs.drop p, false)).1.data.toList, (bs.drop q, false)) := by
    unfold noteF
    rw [hst, ← hs]
    rfl
  unfold parseF
  rw [e]
  have h5 : ¬ 4 < c.toNat := by omega
  simp only
  rw [if_neg (by simp), if_neg h5, hn]
  simp only [Bool.false_eq_true, if_false]
  have hl : bs.length - (bs.drop q).length = q := by simp; omega
  rw [hl]

set_option maxRecDepth 100000 in
set_option maxHeartbeats 4000000 in
theorem refParse_any (a : Option Addr) (cap : Nat) (bs : List UInt8) (w : World) (hb : SliceB w.heap.size w (.slice a bs.length cap) bs) (hbl : bs.length ≤ 140737488351232) (h0 : 0 < bs.length) (h4 : (bs[0]).toNat ≤ 4) :
    Calls Try.prog 43 #[.slice a bs.length cap] w (Told bs w) := by
  have hb' := hb
  obtain ⟨_, _, e, hc, hm, hn, hby⟩ := hb'
  simp only [Value.slice.injEq] at e
  obtain ⟨rfl, -, rfl⟩ := e
  obtain ⟨g, off, rfl, hg, hcell⟩ := hby 0 h0
  rw [Nat.add_zero] at hcell
  obtain ⟨c, hcc⟩ : ∃ c, c = bs[0] := ⟨_, rfl⟩
  rw [← hcc] at hcell h4
  have HCC : Hid (c = bs[0]) := hcc
  have h4' : (c.toNat : Int) ≤ 4 := by omega
  have hl : ((bs.length : Int) == 0) = false := beq_eq_false_iff_ne.2 (by omega)
  have hl2 : (0 : Int) < (bs.length : Int) := by omega
  clear hn hcc hby
  have hg1 : g < w.heap.size + 1 := by omega
  have hg2 : g < w.heap.size + 1 + 1 := by omega
  have hg3 : g < w.heap.size + 1 + 1 + 1 := by omega
  have hg4 : g < w.heap.size + 1 + 1 + 1 + 1 := by omega
  go_enter Try.func43, Try.ntmps43
  go_wp2_with fail
  go_loopw [35] (fun i wr => ∃ k p : Nat, ∃ v, k ≤ c.toNat ∧ i = .int .i64 k ∧ p ≤ bs.length ∧ (propsF k (bs.drop 1, false)).2 = (bs.drop p, false) ∧ PW w.heap.size wr (some ⟨g, off, none⟩) bs.length cap p false v ∧ wr.ownsRow (w.heap.size + 5) 98 4 v k (cellsL (propsF k (bs.drop 1, false)).1) ∧ Below w.heap.size w wr ∧ w.heap.size + 5 ≤ wr.heap.size)
    (fun i _ => c.toNat - (intOf i).toNat)
  case atStart => exact ⟨0, 1, _, by omega, rfl, h0, rfl, pw_start w _ _ _, World.ownsRow_nil _ _ _ _, five_below w _ _ _ _ _, by simp⟩
  case round =>
    obtain ⟨k, p, v, hk, rfl, hp, hst, hpw, hown, bel, hsz⟩ := hrel
    obtain ⟨va, vc, rfl, _⟩ := own_shape hown
    have HST : Hid ((propsF k (bs.drop 1, false)).2 = (bs.drop p, false)) := hst
    have hbr : SliceB w.heap.size wr (.slice (some ⟨g, off, none⟩) bs.length cap) bs := hb.same bel.block
    clear hst
    by_cases hlt : k < c.toNat
    · cases hT : (textF (bs.drop p, false)).2.2 with
      | true =>
        have HP : Hid (parseF bs = (9, [], [], 0)) := parse_more HCC.out h4 hlt HST.out (propF_short1 _ hT)
        go_wp2_with (first
          | (go_at_call 75; refine (txt_bad w.heap.size _ cap p bs _ _ hpw hbr hbl hT).mono ?_; rintro e w1 ⟨rfl, hw1, fr1⟩; have cS := hw1.s.c; have cR0 := hw1.r.c0; have cR1 := hw1.r.c1; have fR := hw1.r.f; have l1 : w.heap.size + 1 < w1.heap.size := hw1.r.lt; have l3 : w.heap.size + 1 + 1 + 1 < w1.heap.size := hw1.s.lt; have bel1 := bel.trans fr1.below)
          | (go_at_call 74; refine (refNo_any _ _).mono ?_; rintro e w2 ⟨rfl, hb2⟩; have n2 := note_below hw1.r hb2; have d0 := n2.c0; have d1 := n2.c1; have dR := n2.f))
        exact bodyPost_ret (v := .tuple #[.agg #[.slice none 0 0, .slice none 0 0], .int .i64 0, .int .i64 9]) (by simp [results, Try.results43, go_sem, *]) rfl (told_no HP.out ((((bel1.alloc (by omega) _).trans (hb2.mono (by simp; omega))).setCell (by simp) _).setCell (by simp) _))
      | false =>
        obtain ⟨p1, hp1, ht1, hcall⟩ := txt_good w.heap.size _ cap p bs _ _ hpw hbr hbl hT
        by_cases h1 : bs.length ≤ p1
        · have HP : Hid (parseF bs = (9, [], [], 0)) := parse_more HCC.out h4 hlt HST.out (propF_short2 _ (by rw [ht1, sizeF_end bs p1 h1]))
          have h1' : (bs.length : Int) ≤ (p1 : Int) := by omega
          go_wp2_with (first
            | (go_at_call 75; refine hcall.mono ?_; rintro e w1 ⟨rfl, hw1, fr1⟩; have cS := hw1.s.c; have cA := hw1.p.c; have cB := hw1.b.c; have cR0 := hw1.r.c0; have cR1 := hw1.r.c1; have fR := hw1.r.f; have l0 : w.heap.size < w1.heap.size := hw1.b.lt; have l1 : w.heap.size + 1 < w1.heap.size := hw1.r.lt; have l2 : w.heap.size + 1 + 1 < w1.heap.size := hw1.p.lt; have l3 : w.heap.size + 1 + 1 + 1 < w1.heap.size := hw1.s.lt; have bel1 := bel.trans fr1.below)
            | (go_at_call 74; refine (refNo_any _ _).mono ?_; rintro e w2 ⟨rfl, hb2⟩; have n2 := note_below hw1.r hb2; have d0 := n2.c0; have d1 := n2.c1; have dR := n2.f))
          exact bodyPost_ret (v := .tuple #[.agg #[.slice none 0 0, .slice none 0 0], .int .i64 0, .int .i64 9]) (by simp [results, Try.results43, go_sem, *]) rfl (told_no HP.out ((((bel1.alloc (by omega) _).trans (hb2.mono (by simp; omega))).setCell (by simp) _).setCell (by simp) _))
        · obtain ⟨b2, off2, e2, _, hc1⟩ : ∃ b2 off2, some (⟨g, off, none⟩ : Addr) = some ⟨b2, off2, none⟩ ∧ b2 < w.heap.size ∧ w.cell? ⟨b2, off2 + p1, none⟩ = some (.int .u8 (bs[p1]'(by omega)).toNat) := by
            obtain ⟨_, _, e, _, _, _, hby⟩ := hb
            simp only [Value.slice.injEq] at e
            obtain ⟨rfl, -, rfl⟩ := e
            exact hby p1 (by omega)
          simp only [Option.some.injEq, Addr.mk.injEq, and_true] at e2
          obtain ⟨rfl, rfl⟩ := e2
          obtain ⟨d, hd⟩ : ∃ d, d = bs[p1]'(by omega) := ⟨_, rfl⟩
          rw [← hd] at hc1
          have HD : Hid (d = bs[p1]'(by omega)) := hd
          clear hd
          obtain ⟨d0', d1'⟩ := u8_bounds d
          have h1' : (p1 : Int) < (bs.length : Int) := by omega
          have HSZ : Hid (sizeF (textF (bs.drop p, false)).2 = (d.toNat, (bs.drop (p1 + 1), false))) := by show sizeF _ = _; rw [ht1, sizeF_at bs p1 (by omega), ← HD.out]
          obtain ⟨K, hK⟩ : ∃ K, K = (textF (bs.drop p, false)).1 := ⟨_, rfl⟩
          rw [← hK] at hcall
          have HK : Hid (K = (textF (bs.drop p, false)).1) := hK
          clear hK
          by_cases hk2 : d.toNat = 2
          · have hk2' : ((d.toNat : Int) == 2) = true := by rw [hk2]; rfl
            have HK2 : Hid (d.toNat = 2) := hk2
            have hdi : (d.toNat : Int) = 2 := by omega
            clear hk2
            cases hT2 : (textF (bs.drop (p1 + 1), false)).2.2 with
            | true =>
              have HP : Hid (parseF bs = (9, [], [], 0)) := parse_more HCC.out h4 hlt HST.out (propF_short3 _ (by rw [HSZ.out]; exact HK2.out) (by rw [HSZ.out]; exact hT2))
              have ny : Hid True := trivial
              go_wp2_with (first
                | (go_at_call 75; clear ny; refine hcall.mono ?_; rintro e w1 ⟨rfl, hw1, fr1⟩; have cS := hw1.s.c; have fS := hw1.s.f; have cA := hw1.p.c; have fA := hw1.p.f; have cB := hw1.b.c; have cN0 := hw1.n.c0; have cN1 := hw1.n.c1; have fN := hw1.n.f; have cR0 := hw1.r.c0; have cR1 := hw1.r.c1; have fR := hw1.r.f; have l0 : w.heap.size < w1.heap.size := hw1.b.lt; have l1 : w.heap.size + 1 < w1.heap.size := hw1.r.lt; have l2 : w.heap.size + 1 + 1 < w1.heap.size := hw1.p.lt; have l3 : w.heap.size + 1 + 1 + 1 < w1.heap.size := hw1.s.lt; have l4 : w.heap.size + 1 + 1 + 1 + 1 < w1.heap.size := hw1.n.lt; have l5 : w.heap.size + 5 ≤ w1.heap.size := (by rw [fr1.size]; exact hsz); have lg : g < w1.heap.size := (by omega); have bel1 := bel.trans fr1.below; have own1 := fr1.own hown; have cb1 : w1.cell? ⟨g, off + p1, none⟩ = some (.int .u8 d.toNat) := (bel1.cell (by simpa using hg)).trans hc1)
                | (go_at_call 75; refine (txt_bad w.heap.size _ cap (p1 + 1) bs _ _ ((hw1.put (p1 + 1) _ (by omega)).alloc _) ((hb.same bel1.block).same (fun j hj => (Below.heap_alloc _ _ _ (by simp [World.setCell]; omega)).trans (Below.heap_setCell _ _ _ _ (by dsimp only; omega)))) hbl hT2).mono ?_; rintro e w2 ⟨rfl, hw2, fr2⟩; have eS := hw2.s.c; have gR := hw2.r.f; have gR0 := hw2.r.c0; have gR1 := hw2.r.c1; have pb : PropBlk w2 w1.heap.size ⟨K, 2, 0, ⟨#[]⟩⟩ := (fr2.block w1.heap.size (Or.inr l5)).trans (by have := heap_alloc_new (w1.setCell ⟨w.heap.size + 1 + 1, 0, none⟩ (.int .i64 ((p1 : Int) + 1))) (.cells #[.string K, .int .i64 2, .int .i64 0, .string ⟨#[]⟩] 98); simpa [World.setCell] using this); have pc3 := pb.c3; have pf := pb.f)
                | (go_at_call 74; refine (refNo_any _ _).mono ?_; rintro e w3 ⟨rfl, hb3⟩; have n3 : NoteBlk w3 (w.heap.size + 1) (.slice none 0 0) (.slice none 0 0) := (hw2.r.same (Below.heap_setCell w2 ⟨w1.heap.size, 3, none⟩ (.string ⟨#[]⟩) _ (by dsimp only; omega))).same (hb3.block _ (by have := hw2.r.lt; simpa [World.setCell] using this)); have d0 := n3.c0; have d1 := n3.c1; have dR := n3.f))
              have bel2 : Below w.heap.size w w2 := (((bel1.setCell (p := ⟨w.heap.size + 1 + 1, 0, none⟩) (by dsimp only; omega) (.int .i64 ((p1 : Int) + 1))).alloc (by simp [World.setCell]; omega) (.cells #[.string K, .int .i64 2, .int .i64 0, .string ⟨#[]⟩] 98)).trans fr2.below)
              exact bodyPost_ret (v := .tuple #[.agg #[.slice none 0 0, .slice none 0 0], .int .i64 0, .int .i64 9]) (by simp [results, Try.results43, go_sem, *]) rfl (told_no HP.out ((((bel2.setCell (by dsimp only; omega) _).trans (hb3.mono (by have := bel2.size; simp [World.setCell]; omega))).setCell (by simp) _).setCell (by simp) _))
            | false =>
              obtain ⟨ha1, ha2⟩ := at_good bs (p1 + 1) hT2
              obtain ⟨p2, hp2⟩ : ∃ p2, p2 = atF bs (p1 + 1) := ⟨_, rfl⟩
              obtain ⟨T2, hT2e⟩ : ∃ T2, T2 = (textF (bs.drop (p1 + 1), false)).1 := ⟨_, rfl⟩
              have HC2 : Hid (∀ v W, PW w.heap.size W (some ⟨g, off, none⟩) bs.length cap (p1 + 1) false v → SliceB w.heap.size W (.slice (some ⟨g, off, none⟩) bs.length cap) bs → Calls Try.prog 75 #[.pointer (some ⟨w.heap.size + 1 + 1, 0, none⟩), .pointer (some ⟨w.heap.size, 0, none⟩), .pointer (some ⟨w.heap.size + 1 + 1 + 1, 0, none⟩)] W fun e w' => e = .returned (.string T2) ∧ PW w.heap.size w' (some ⟨g, off, none⟩) bs.length cap p2 false v ∧ Fr w.heap.size W w') := by
                rw [hp2, hT2e]; exact fun v W h1 h2 => txt_good2 _ _ _ _ _ _ _ h1 h2 hbl hT2
              rw [← hp2] at ha1 ha2
              have HPF : Hid (propF (bs.drop p, false) = (⟨K, 2, 0, T2⟩, (bs.drop p2, false))) := by
                show propF _ = _
                rw [propF, if_pos (by rw [HSZ.out]; exact HK2.out), HSZ.out, HK.out, hT2e]
                simp only [ha2]
              clear hp2 hT2e ha2
              have ny : Hid True := trivial
              go_wp2_with (first
                | (go_at_call 75; clear ny; refine hcall.mono ?_; rintro e w1 ⟨rfl, hw1, fr1⟩; have cS := hw1.s.c; have fS := hw1.s.f; have cA := hw1.p.c; have fA := hw1.p.f; have cB := hw1.b.c; have cN0 := hw1.n.c0; have cN1 := hw1.n.c1; have fN := hw1.n.f; have cR0 := hw1.r.c0; have cR1 := hw1.r.c1; have fR := hw1.r.f; have l0 : w.heap.size < w1.heap.size := hw1.b.lt; have l1 : w.heap.size + 1 < w1.heap.size := hw1.r.lt; have l2 : w.heap.size + 1 + 1 < w1.heap.size := hw1.p.lt; have l3 : w.heap.size + 1 + 1 + 1 < w1.heap.size := hw1.s.lt; have l4 : w.heap.size + 1 + 1 + 1 + 1 < w1.heap.size := hw1.n.lt; have l5 : w.heap.size + 5 ≤ w1.heap.size := (by rw [fr1.size]; exact hsz); have lg : g < w1.heap.size := (by omega); have bel1 := bel.trans fr1.below; have own1 := fr1.own hown; have cb1 : w1.cell? ⟨g, off + p1, none⟩ = some (.int .u8 d.toNat) := (bel1.cell (by simpa using hg)).trans hc1)
                | (go_at_call 75; refine (HC2.out _ _ ((hw1.put (p1 + 1) _ (by omega)).alloc _) ((hb.same bel1.block).same (fun j hj => (Below.heap_alloc _ _ _ (by simp [World.setCell]; omega)).trans (Below.heap_setCell _ _ _ _ (by dsimp only; omega))))).mono ?_; rintro e w2 ⟨rfl, hw2, fr2⟩; have eS := hw2.s.c; have eN0 := hw2.n.c0; have eN1 := hw2.n.c1; have eNf := hw2.n.f; have pb : PropBlk w2 w1.heap.size ⟨K, 2, 0, ⟨#[]⟩⟩ := (fr2.block w1.heap.size (Or.inr l5)).trans (by have := heap_alloc_new (w1.setCell ⟨w.heap.size + 1 + 1, 0, none⟩ (.int .i64 ((p1 : Int) + 1))) (.cells #[.string K, .int .i64 2, .int .i64 0, .string ⟨#[]⟩] 98); simpa [World.setCell] using this); have pc0 := pb.c0; have pc1 := pb.c1; have pc2 := pb.c2; have pc3 := pb.c3; have pf := pb.f; have m4 : w.heap.size + 1 + 1 + 1 + 1 < w2.heap.size := hw2.n.lt; have mz : Hid (w2.heap.size = w1.heap.size + 1) := (by show w2.heap.size = _; rw [fr2.size]; simp [World.setCell]); have own2 := fr2.own ((ownsRow_setCell_below own1 (a := ⟨w.heap.size + 1 + 1, 0, none⟩) (by dsimp only; omega) (.int .i64 ((p1 : Int) + 1))).alloc (.cells #[.string K, .int .i64 2, .int .i64 0, .string ⟨#[]⟩] 98)); have hnb : (Value.slice va k vc).ownBlock ≠ some w1.heap.size := (fun e => by have := (own1.lt _ e).2; omega); have bel2 : Below w.heap.size w w2 := (((bel1.setCell (p := ⟨w.heap.size + 1 + 1, 0, none⟩) (by dsimp only; omega) (.int .i64 ((p1 : Int) + 1))).alloc (by simp [World.setCell]; omega) (.cells #[.string K, .int .i64 2, .int .i64 0, .string ⟨#[]⟩] 98)).trans fr2.below))
                | (at_builtin; refine wpList_appP rfl (.tmp 90) (.tmp 92) rfl (w.heap.size + 5) (.slice va k vc) k (cellsL (propsF k (bs.drop 1, false)).1) rfl ((own_setOther own2 (a := ⟨w1.heap.size, 3, none⟩) hnb (.string T2)).alloc _) (w2.heap.size + 1) _ [⟨K, 2, 0, T2⟩] rfl (new_prop_at w2 _ _ ⟨K, 2, 0, T2⟩) (by simp; omega) (by rw [World.size_alloc, set_size]; have := mz.out; omega) ?_; intro ao3 cap3 w3 own3 hg3; have e3 : NoteBlk w3 (w.heap.size + 1 + 1 + 1 + 1) (.slice va k vc) (.slice none 0 0) := hw2.n.same ((hg3.block _ (by rw [World.size_alloc, set_size]; omega) (fun e => by have := (own1.lt _ e.symm).1; omega)).trans ((Below.heap_alloc _ _ _ (by rw [set_size]; omega)).trans (Below.heap_setCell _ _ _ _ (by dsimp only; omega)))); have x0 := e3.c0; have xf := e3.f))
              have hz2 := mz.out
              have RR := round_end (B := w.heap.size) (q := p2) (w0 := w) (gg := 0) (wr := w) (s := (bs, false)) (p := ⟨K, 2, 0, T2⟩) (hw2.keep (fun j _ hj => Below.heap_setCell w2 ⟨w1.heap.size, 3, none⟩ (.string T2) j (by dsimp only; omega))) (own_setOther own2 (a := ⟨w1.heap.size, 3, none⟩) hnb (.string T2)) (by rw [set_size]; omega) (bel2.setCell (p := ⟨w1.heap.size, 3, none⟩) (by dsimp only; omega) (.string T2)) own3 hg3 (.slice ao3 (k + 1) cap3) rfl
              go_roundw
              case rel =>
                refine ⟨k + 1, p2, _, by omega, by go_num, ha1, ?_, RR.1, ?_, RR.2.2.1, RR.2.2.2⟩
                · rw [propsF, HST.out, HPF.out]
                · rw [propsF, HST.out, HPF.out]; exact RR.2.1
              case measure => simp [intOf]; omega
          · have hk2' : ((d.toNat : Int) == 2) = false := beq_eq_false_iff_ne.2 (by omega)
            have HK2 : Hid (¬ d.toNat = 2) := hk2
            clear hk2
            have ny : Hid True := trivial
            by_cases h5 : bs.length < p1 + 1 + 4
            · have HP : Hid (parseF bs = (9, [], [], 0)) := parse_more HCC.out h4 hlt HST.out (propF_short4 _ (by rw [HSZ.out]; exact HK2.out) (by rw [HSZ.out]; exact numberF_end bs (p1 + 1) (by omega)))
              have h5' : (bs.length : Int) < (p1 : Int) + 1 + 4 := by omega
              go_wp2_with (first
                | (go_at_call 75; clear ny; refine hcall.mono ?_; rintro e w1 ⟨rfl, hw1, fr1⟩; have cS := hw1.s.c; have fS := hw1.s.f; have cA := hw1.p.c; have fA := hw1.p.f; have cB := hw1.b.c; have cN0 := hw1.n.c0; have cN1 := hw1.n.c1; have fN := hw1.n.f; have cR0 := hw1.r.c0; have cR1 := hw1.r.c1; have fR := hw1.r.f; have l0 : w.heap.size < w1.heap.size := hw1.b.lt; have l1 : w.heap.size + 1 < w1.heap.size := hw1.r.lt; have l2 : w.heap.size + 1 + 1 < w1.heap.size := hw1.p.lt; have l3 : w.heap.size + 1 + 1 + 1 < w1.heap.size := hw1.s.lt; have l4 : w.heap.size + 1 + 1 + 1 + 1 < w1.heap.size := hw1.n.lt; have l5 : w.heap.size + 5 ≤ w1.heap.size := (by rw [fr1.size]; exact hsz); have lg : g < w1.heap.size := (by omega); have bel1 := bel.trans fr1.below; have own1 := fr1.own hown; have cb1 : w1.cell? ⟨g, off + p1, none⟩ = some (.int .u8 d.toNat) := (bel1.cell (by simpa using hg)).trans hc1)
                | (go_at_call 74; refine (refNo_any _ _).mono ?_; rintro e w3 ⟨rfl, hb3⟩; have n3 : NoteBlk w3 (w.heap.size + 1) (.slice none 0 0) (.slice none 0 0) := note_below (hw1.r.same (Below.heap_setCell w1 ⟨w.heap.size + 1 + 1, 0, none⟩ (.int .i64 ((p1 : Int) + 1)) _ (by dsimp only; omega))) hb3; have d0 := n3.c0; have d1 := n3.c1; have dR := n3.f))
              exact bodyPost_ret (v := .tuple #[.agg #[.slice none 0 0, .slice none 0 0], .int .i64 0, .int .i64 9]) (by simp [results, Try.results43, go_sem, *]) rfl (told_no HP.out (((((bel1.setCell (by dsimp only; omega) _).alloc (by rw [set_size]; omega) _).trans (hb3.mono (by rw [World.size_alloc, set_size]; omega))).setCell (by simp) _).setCell (by simp) _))
            · obtain ⟨NN, hNN⟩ : ∃ NN, NN = int32 (valB ((bs.drop (p1 + 1)).take 4)) := ⟨_, rfl⟩
              have HG : Hid (∀ W, SliceB w.heap.size W (.slice (some ⟨g, off + (p1 + 1), none⟩) (bs.length - (p1 + 1)) (cap - (p1 + 1))) (bs.drop (p1 + 1)) → Calls Try.prog 42 #[.slice (some ⟨g, off + (p1 + 1), none⟩) (bs.length - (p1 + 1)) (cap - (p1 + 1))] W fun e w' => e = .returned (.int .i64 NN) ∧ w' = W) := by
                rw [hNN]; exact fun W h => refGet_any _ _ _ _ h (by simp; omega)
              have HPF : Hid (propF (bs.drop p, false) = (⟨K, d.toNat, NN, ⟨#[]⟩⟩, (bs.drop (p1 + 1 + 4), false))) := by
                show propF _ = _
                rw [propF, if_neg (by rw [HSZ.out]; exact HK2.out), HSZ.out, HK.out]
                simp only
                rw [numberF_at bs (p1 + 1) (by omega), hNN, empty_eq]
              clear hNN
              have h5' : (p1 : Int) + 1 + 4 ≤ (bs.length : Int) := by omega
              have hcp : ¬ cap = p1 + 1 := by omega
              go_wp2_with (first
                | (go_at_call 75; clear ny; refine hcall.mono ?_; rintro e w1 ⟨rfl, hw1, fr1⟩; have cS := hw1.s.c; have fS := hw1.s.f; have cA := hw1.p.c; have fA := hw1.p.f; have cB := hw1.b.c; have cN0 := hw1.n.c0; have cN1 := hw1.n.c1; have fN := hw1.n.f; have cR0 := hw1.r.c0; have cR1 := hw1.r.c1; have fR := hw1.r.f; have l0 : w.heap.size < w1.heap.size := hw1.b.lt; have l1 : w.heap.size + 1 < w1.heap.size := hw1.r.lt; have l2 : w.heap.size + 1 + 1 < w1.heap.size := hw1.p.lt; have l3 : w.heap.size + 1 + 1 + 1 < w1.heap.size := hw1.s.lt; have l4 : w.heap.size + 1 + 1 + 1 + 1 < w1.heap.size := hw1.n.lt; have l5 : w.heap.size + 5 ≤ w1.heap.size := (by rw [fr1.size]; exact hsz); have lg : g < w1.heap.size := (by omega); have bel1 := bel.trans fr1.below; have own1 := fr1.own hown; have cb1 : w1.cell? ⟨g, off + p1, none⟩ = some (.int .u8 d.toNat) := (bel1.cell (by simpa using hg)).trans hc1)
                | (go_at_call 42; refine (HG.out _ ?_).mono ?_; (exact slice_from ((hb.same bel1.block).same (fun j hj => (Below.heap_alloc _ _ _ (by rw [set_size]; omega)).trans (Below.heap_setCell _ _ _ _ (by dsimp only; omega)))) (p1 + 1) (by omega)); rintro e w2 ⟨rfl, rfl⟩)
                | (at_builtin; refine wpList_appP rfl (.tmp 90) (.tmp 92) rfl (w.heap.size + 5) (.slice va k vc) k (cellsL (propsF k (bs.drop 1, false)).1) rfl (((ownsRow_setCell_below (ownsRow_setCell_below own1 (a := ⟨w.heap.size + 1 + 1, 0, none⟩) (by dsimp only; omega) (.int .i64 ((p1 : Int) + 1))) (a := ⟨w.heap.size + 1 + 1, 0, none⟩) (by dsimp only; omega) (.int .i64 ((p1 : Int) + 1 + 4))).alloc (.cells #[.string K, .int .i64 d.toNat, .int .i64 NN, .string ⟨#[]⟩] 98)).alloc (.cells #[.string K, .int .i64 d.toNat, .int .i64 NN, .string ⟨#[]⟩] 98)) (w1.heap.size + 1 + 1) (.slice (some ⟨w1.heap.size + 1, 0, none⟩) 1 1) [⟨K, d.toNat, NN, ⟨#[]⟩⟩] rfl (new_prop_2 w1 _ _ _ _ _ ⟨K, d.toNat, NN, ⟨#[]⟩⟩) (by simp; omega) (by rw [World.size_alloc, World.size_alloc, set_size, set_size]; omega) ?_; intro ao3 cap3 w3 own3 hg3; have e3 : NoteBlk w3 (w.heap.size + 1 + 1 + 1 + 1) (.slice va k vc) (.slice none 0 0) := hw1.n.same ((hg3.block _ (by rw [World.size_alloc, World.size_alloc, set_size, set_size]; omega) (fun e => by have := (own1.lt _ e.symm).1; omega)).trans ((Below.heap_alloc _ _ _ (by rw [World.size_alloc, set_size, set_size]; omega)).trans ((Below.heap_alloc _ _ _ (by rw [set_size, set_size]; omega)).trans ((Below.heap_setCell _ _ _ _ (by dsimp only; omega)).trans (Below.heap_setCell _ _ _ _ (by dsimp only; omega)))))); have x0 := e3.c0; have xf := e3.f))
              have RR := round_end (B := w.heap.size) (q := p1 + 1 + 4) (w0 := w) (gg := 0) (wr := w) (s := (bs, false)) (p := ⟨K, d.toNat, NN, ⟨#[]⟩⟩) (((hw1.put (p1 + 1) ((p1 : Int) + 1) (by omega)).put (p1 + 1 + 4) ((p1 : Int) + 1 + 4) (by omega)).alloc (.cells #[.string K, .int .i64 d.toNat, .int .i64 NN, .string ⟨#[]⟩] 98)) ((ownsRow_setCell_below (ownsRow_setCell_below own1 (a := ⟨w.heap.size + 1 + 1, 0, none⟩) (by dsimp only; omega) (.int .i64 ((p1 : Int) + 1))) (a := ⟨w.heap.size + 1 + 1, 0, none⟩) (by dsimp only; omega) (.int .i64 ((p1 : Int) + 1 + 4))).alloc (.cells #[.string K, .int .i64 d.toNat, .int .i64 NN, .string ⟨#[]⟩] 98)) (by rw [World.size_alloc, set_size, set_size]; omega) (((bel1.setCell (p := ⟨w.heap.size + 1 + 1, 0, none⟩) (by dsimp only; omega) (.int .i64 ((p1 : Int) + 1))).setCell (p := ⟨w.heap.size + 1 + 1, 0, none⟩) (by dsimp only; omega) (.int .i64 ((p1 : Int) + 1 + 4))).alloc (by rw [set_size, set_size]; omega) (.cells #[.string K, .int .i64 d.toNat, .int .i64 NN, .string ⟨#[]⟩] 98)) own3 hg3 (.slice ao3 (k + 1) cap3) rfl
              go_roundw
              case rel =>
                refine ⟨k + 1, p1 + 1 + 4, _, by omega, by go_num, by omega, ?_, RR.1, ?_, RR.2.2.1, RR.2.2.2⟩
                · rw [propsF, HST.out, HPF.out]
                · rw [propsF, HST.out, HPF.out]; exact RR.2.1
              case measure => simp [intOf]; omega
    · obtain rfl : k = c.toNat := by omega
      cases hT : (textF (bs.drop p, false)).2.2 with
      | true =>
        have HP : Hid (parseF bs = (9, [], [], 0)) := parse_last HCC.out h4 HST.out hT
        have hcv := fun W => run_bytes_of_string (P := Try.prog) W 9 26 5 ⟨#[]⟩ Try.underlying9 Try.underlying26 Try.underlying5
        go_wp2_with (first
          | (go_at_call 75; refine (txt_bad w.heap.size _ cap p bs _ _ hpw hbr hbl hT).mono ?_; rintro e w1 ⟨rfl, hw1, fr1⟩; have cS := hw1.s.c; have cN1 := hw1.n.c1; have fN := hw1.n.f; have l1 : w.heap.size + 1 < w1.heap.size := hw1.r.lt; have l3 : w.heap.size + 1 + 1 + 1 < w1.heap.size := hw1.s.lt; have l4 : w.heap.size + 1 + 1 + 1 + 1 < w1.heap.size := hw1.n.lt; have bel1 := bel.trans fr1.below)
          | (go_at_call 74; refine (refNo_any _ _).mono ?_; rintro e w2 ⟨rfl, hb2⟩; have n2 : NoteBlk w2 (w.heap.size + 1) (.slice none 0 0) (.slice none 0 0) := hw1.r.same (conv_keep hb2 _ l1 (by omega)); have d0 := n2.c0; have d1 := n2.c1; have dR := n2.f))
        exact bodyPost_ret (v := .tuple #[.agg #[.slice none 0 0, .slice none 0 0], .int .i64 0, .int .i64 9]) (by simp [results, Try.results43, go_sem, *]) rfl (told_no HP.out (((conv_below bel1 (by omega) (by omega) hb2).setCell (by simp) _).setCell (by simp) _))
      | false =>
        obtain ⟨ha1, ha2⟩ := at_good bs p hT
        have PN := parse_note HCC.out h4 HST.out ha1 ha2
        have hts : (textF (bs.drop p, false)).1.size ≤ 255 := by
          show (bstr _).size ≤ 255
          rw [bstr_size]; exact Nat.le_trans (takeF_le _ _) (sizeF_le _)
        have hfit := propsF_fits c.toNat (bs.drop 1, false)
        have hpsl := propsF_len c.toNat (bs.drop 1, false)
        have hcall : ∀ W v, PW w.heap.size W (some ⟨g, off, none⟩) bs.length cap p false v → SliceB w.heap.size W (.slice (some ⟨g, off, none⟩) bs.length cap) bs → _ := fun W v h1 h2 => txt_good2 w.heap.size _ cap p bs v W h1 h2 hbl hT
        obtain ⟨T, hTe⟩ : ∃ T, T = (textF (bs.drop p, false)).1 := ⟨_, rfl⟩
        obtain ⟨q, hq⟩ : ∃ q, q = atF bs p := ⟨_, rfl⟩
        obtain ⟨ps, hps⟩ : ∃ ps, ps = (propsF c.toNat (bs.drop 1, false)).1 := ⟨_, rfl⟩
        rw [← hTe, ← hq] at hcall
        rw [← hTe, ← hq, ← hps] at PN
        rw [← hps] at hown hfit hpsl
        rw [← hTe] at hts
        rw [← hq] at ha1
        clear hTe hq hps ha2
        rw [size_list] at PN
        have hcv := fun W => run_bytes_of_string (P := Try.prog) W 9 26 5 T Try.underlying9 Try.underlying26 Try.underlying5
        have hca := hcall _ _ hpw hbr
        have PNH : Hid _ := PN
        clear PN hcall
        cases hw : (wrongN ps T.size == 0) with
        | false =>
          have HP : Hid (parseF bs = (wrongN ps T.size, [], [], 0)) := by show parseF bs = _; rw [PNH.out, hw]; rfl
          clear PNH
          go_wp2_with (first
            | (go_at_call 75; refine hca.mono ?_; rintro e w1 ⟨rfl, hw1, fr1⟩; have cS := hw1.s.c; have cN0 := hw1.n.c0; have cN1 := hw1.n.c1; have fN := hw1.n.f; have l1 : w.heap.size + 1 < w1.heap.size := hw1.r.lt; have l3 : w.heap.size + 1 + 1 + 1 < w1.heap.size := hw1.s.lt; have l4 : w.heap.size + 1 + 1 + 1 + 1 < w1.heap.size := hw1.n.lt; have bel1 := bel.trans fr1.below; have own1 := fr1.own hown)
            | (go_at_call 14; refine (refWrong_any' va c.toNat vc ps _ T.size _ _ hpsl ?_ hfit (by unfold maxLen; omega) (by unfold maxLen; omega)).mono ?_; (exact props_conv hpsl own1 (by omega)); rintro e w2 ⟨rfl, hb2⟩; have n2 : NoteBlk w2 (w.heap.size + 1) (.slice none 0 0) (.slice none 0 0) := hw1.r.same (conv_keep hb2 _ l1 (by omega)))
            | (go_at_call 74; refine (refNo_any _ _).mono ?_; rintro e w3 ⟨rfl, hb3⟩; have n3 : NoteBlk w3 (w.heap.size + 1) (.slice none 0 0) (.slice none 0 0) := n2.same (hb3.block _ n2.lt); have d0 := n3.c0; have d1 := n3.c1; have dR := n3.f))
          have bel2 := conv_below bel1 (by omega) (by omega) hb2
          exact bodyPost_ret (v := .tuple #[.agg #[.slice none 0 0, .slice none 0 0], .int .i64 0, .int .i64 (wrongN ps T.size)]) (by simp [results, Try.results43, go_sem, *]) rfl (told_no HP.out (((bel2.trans (hb3.mono bel2.size)).setCell (by simp) _).setCell (by simp) _))
        | true =>
          have HP : Hid (parseF bs = (0, ps, T.data.toList, q)) := by show parseF bs = _; rw [PNH.out, hw]; rfl
          clear PNH
          have hw0 : wrongN ps T.size = 0 := eqb hw
          go_wp2_with (first
            | (go_at_call 75; refine hca.mono ?_; rintro e w1 ⟨rfl, hw1, fr1⟩; have cS := hw1.s.c; have cN0 := hw1.n.c0; have cN1 := hw1.n.c1; have fN := hw1.n.f; have l1 : w.heap.size + 1 < w1.heap.size := hw1.r.lt; have l2 : w.heap.size + 1 + 1 < w1.heap.size := hw1.p.lt; have l3 : w.heap.size + 1 + 1 + 1 < w1.heap.size := hw1.s.lt; have l4 : w.heap.size + 1 + 1 + 1 + 1 < w1.heap.size := hw1.n.lt; have bel1 := bel.trans fr1.below; have own1 := fr1.own hown)
            | (go_at_call 14; refine (refWrong_any' va c.toNat vc ps _ T.size _ _ hpsl ?_ hfit (by unfold maxLen; omega) (by unfold maxLen; omega)).mono ?_; (exact props_conv hpsl own1 (by omega)); rintro e w2 ⟨rfl, hb2⟩; have n2 : NoteBlk w2 (w.heap.size + 1) (.slice none 0 0) (.slice none 0 0) := hw1.r.same (conv_keep hb2 _ l1 (by omega)); have d0 := n2.c0; have d1 := n2.c1; have dR := n2.f; have p2 : OneBlk w2 (w.heap.size + 1 + 1) (.int .i64 q) 3 := hw1.p.same (conv_keep hb2 _ l2 (by omega)); have p2c := p2.c; have m2 : NoteBlk w2 (w.heap.size + 1 + 1 + 1 + 1) (.slice va c.toNat vc) (.slice (some ⟨w1.heap.size, 0, none⟩) T.size (grownCap w1 T.size 0 5)) := conv_note hw1.n hb2; have m0 := m2.c0; have m1 := m2.c1))
          go_region
          all_goals go_wp2
          have bel2 := conv_below bel1 (by omega) (by omega) hb2
          have row2 := conv_row hb2
          have own2 := own_below (((ownsRow_setCell_below own1 (a := ⟨w.heap.size + 1 + 1 + 1 + 1, 1, none⟩) (by dsimp only; omega) (.slice (some ⟨w1.heap.size, 0, none⟩) T.size (grownCap w1 T.size 0 5))).alloc _).drew) hb2
          have hgc := grownCap_ge w1 T.size 0 5
          have hgm := grownCap_le_maxLen w1 T.size 0 5 (by unfold maxLen; omega)
          refine bodyPost_ret (v := .tuple #[.agg #[.slice va c.toNat vc, .slice (some ⟨w1.heap.size, 0, none⟩) T.size (grownCap w1 T.size 0 5)], .int .i64 q, .int .i64 0]) (by simp [results, Try.results43, go_sem, *]) rfl ?_
          unfold Told
          rw [HP.out]
          have bF := ((bel2.setCell (p := ⟨w.heap.size + 1, 0, none⟩) (by dsimp only; omega) (.slice va c.toNat vc)).setCell (p := ⟨w.heap.size + 1, 1, none⟩) (by dsimp only; omega) (.slice (some ⟨w1.heap.size, 0, none⟩) T.size (grownCap w1 T.size 0 5))).drew
          have oF := (ownsRow_setCell_below (ownsRow_setCell_below own2 (a := ⟨w.heap.size + 1, 0, none⟩) (by dsimp only; omega) (.slice va c.toNat vc)) (a := ⟨w.heap.size + 1, 1, none⟩) (by dsimp only; omega) (.slice (some ⟨w1.heap.size, 0, none⟩) T.size (grownCap w1 T.size 0 5))).drew
          rw [← hpsl] at oF bF ⊢
          exact ⟨_, _, rfl, own_props oF, row_slice ((Below.heap_setCell _ _ _ _ (by dsimp only; omega)).trans ((Below.heap_setCell _ _ _ _ (by dsimp only; omega)).trans row2)) hgc hgm, bF⟩
end Go.Proofs.Ytkddkpdfeeikhaa.NT
