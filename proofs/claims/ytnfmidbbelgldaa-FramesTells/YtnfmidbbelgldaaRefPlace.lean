/-
  The closure 'text' of tgref1.Parse over the variables of that call, and the plain mathematics of places.
-/
import Derived.Test.YtnfmidbbelgldaaRefText
namespace Go.Proofs.Ytnfmidbbelgldaa
open Go.RowKit
set_option linter.unusedVariables false
set_option linter.unusedSimpArgs false

theorem drop_cons (bs : List UInt8) (p : Nat) (h : p < bs.length) : bs.drop p = bs[p] :: bs.drop (p + 1) := List.drop_eq_getElem_cons h
theorem sizeF_at (bs : List UInt8) (p : Nat) (h : p < bs.length) : sizeF (bs.drop p, false) = ((bs[p]).toNat, (bs.drop (p + 1), false)) := by
  rw [drop_cons bs p h, sizeF_go]
theorem takeF_end (n : Nat) (s : List UInt8) (h : s.length < n) : takeF n (s, false) = ([], (s, true)) := by
  unfold takeF; rw [if_pos (.inr h)]
theorem sizeF_end (bs : List UInt8) (p : Nat) (h : bs.length ≤ p) : sizeF (bs.drop p, false) = (0, ([], true)) := by
  have e : bs.drop p = [] := List.drop_of_length_le h
  rw [e]; rfl
theorem takeF_at (bs : List UInt8) (p n : Nat) (h : p + n ≤ bs.length) : takeF n (bs.drop p, false) = ((bs.drop p).take n, (bs.drop (p + n), false)) := by
  unfold takeF
  rw [if_neg (by simp; omega)]
  simp [List.drop_drop]
theorem textF_at (bs : List UInt8) (p : Nat) (h : p < bs.length) (hm : p + 1 + (bs[p]).toNat ≤ bs.length) : textF (bs.drop p, false) = (bstr ((bs.drop (p + 1)).take (bs[p]).toNat), (bs.drop (p + 1 + (bs[p]).toNat), false)) := by
  unfold textF
  rw [sizeF_at bs p h]
  simp only
  rw [takeF_at bs (p + 1) _ hm]
theorem textF_end1 (bs : List UInt8) (p : Nat) (h : bs.length ≤ p) : (textF (bs.drop p, false)).2.2 = true := by
  unfold textF
  rw [sizeF_end bs p h]
  rfl
theorem textF_end2 (bs : List UInt8) (p : Nat) (h : p < bs.length) (hm : bs.length < p + 1 + (bs[p]).toNat) : (textF (bs.drop p, false)).2.2 = true := by
  unfold textF
  rw [sizeF_at bs p h]
  simp only
  rw [takeF_end _ _ (by simp; omega)]

def OneBlk (w : World) (b : Nat) (v : Value) (t : TypeId) : Prop := w.heap[b]? = some (.cells #[v] t (0, 0))
theorem OneBlk.c {w : World} {b : Nat} {v : Value} {t : TypeId} (h : OneBlk w b v t) : w.cell? ⟨b, 0, none⟩ = some v := by
  rw [cell_of_row w b 0 _ t (0, 0) h]; rfl
theorem OneBlk.f {w : World} {b : Nat} {v : Value} {t : TypeId} (h : OneBlk w b v t) (o : Nat) : w.frozen? ⟨b, o, none⟩ = false := by
  unfold OneBlk at h
  simp [World.frozen?, h]
theorem OneBlk.set {w : World} {b : Nat} {v : Value} {t : TypeId} (h : OneBlk w b v t) (v' : Value) : OneBlk (w.setCell ⟨b, 0, none⟩ v') b v' t := by
  unfold OneBlk at h ⊢
  simp [World.setCell, Array.getElem?_modify, h]
theorem OneBlk.same {w w' : World} {b : Nat} {v : Value} {t : TypeId} (h : OneBlk w b v t) (hb : w'.heap[b]? = w.heap[b]?) : OneBlk w' b v t := hb.trans h
theorem OneBlk.lt {w : World} {b : Nat} {v : Value} {t : TypeId} (h : OneBlk w b v t) : b < w.heap.size := (Array.getElem?_eq_some_iff.1 h).1

/-- The variables of a call of tgref1.Parse, from block B on: the bytes, the result, 'at', 'short', the note. -/
structure PW (B : Nat) (w : World) (a : Option Addr) (n c p : Nat) (sh : Bool) (v : Value) : Prop where
  b : OneBlk w B (.slice a n c) 23
  r : NoteBlk w (B + 1) (.slice none 0 0) (.slice none 0 0)
  p : OneBlk w (B + 1 + 1) (.int .i64 p) 3
  s : OneBlk w (B + 1 + 1 + 1) (.bool sh) 4
  n : NoteBlk w (B + 1 + 1 + 1 + 1) v (.slice none 0 0)

/-- Outside the five blocks nothing has turned. -/
structure Fr (B : Nat) (w w' : World) : Prop where
  os : w'.os = w.os
  tape : w'.tape = w.tape
  output : w'.output = w.output
  size : w'.heap.size = w.heap.size
  block : ∀ k, k < B ∨ B + 5 ≤ k → w'.heap[k]? = w.heap[k]?

theorem PW.setP {B : Nat} {w : World} {a : Option Addr} {n c p : Nat} {sh : Bool} {v : Value} (h : PW B w a n c p sh v) (q k : Nat) : PW B ((w.setCell ⟨B + 1 + 1, 0, none⟩ (.int .i64 q)).drewN k) a n c q sh v :=
  ⟨h.b.same (Below.heap_setCell w _ _ _ (by dsimp only; omega)), h.r.same (Below.heap_setCell w _ _ _ (by dsimp only; omega)), h.p.set _, h.s.same (Below.heap_setCell w _ _ _ (by dsimp only; omega)), h.n.same (Below.heap_setCell w _ _ _ (by dsimp only; omega))⟩
theorem PW.setS {B : Nat} {w : World} {a : Option Addr} {n c p : Nat} {sh : Bool} {v : Value} (h : PW B w a n c p sh v) (q : Bool) (k : Nat) : PW B ((w.setCell ⟨B + 1 + 1 + 1, 0, none⟩ (.bool q)).drewN k) a n c p q v :=
  ⟨h.b.same (Below.heap_setCell w _ _ _ (by dsimp only; omega)), h.r.same (Below.heap_setCell w _ _ _ (by dsimp only; omega)), h.p.same (Below.heap_setCell w _ _ _ (by dsimp only; omega)), h.s.set _, h.n.same (Below.heap_setCell w _ _ _ (by dsimp only; omega))⟩
theorem Fr.set (B : Nat) (w : World) (x : Addr) (u : Value) (k : Nat) (h1 : B ≤ x.block) (h2 : x.block < B + 5) : Fr B w ((w.setCell x u).drewN k) :=
  ⟨rfl, rfl, rfl, by show (w.setCell x u).heap.size = _; simp [World.setCell], fun j hj => Below.heap_setCell w x u j (by omega)⟩

theorem txt_bad (B : Nat) (a : Option Addr) (c p : Nat) (bs : List UInt8) (v : Value) (w : World) (hw : PW B w a bs.length c p false v) (hb : SliceB B w (.slice a bs.length c) bs) (hbl : bs.length ≤ 140737488351232) (hs : (textF (bs.drop p, false)).2.2 = true) :
    Calls Try.prog 59 #[.pointer (some ⟨B + 1 + 1, 0, none⟩), .pointer (some ⟨B, 0, none⟩), .pointer (some ⟨B + 1 + 1 + 1, 0, none⟩)] w fun e w' => e = .returned (.string ⟨#[]⟩) ∧ PW B w' a bs.length c p true v ∧ Fr B w w' := by
  by_cases h1 : bs.length ≤ p
  · refine (refTxt_no1 _ _ _ p a c bs.length _ w hw.p.c hw.b.c hw.s.c (hw.s.f 0) h1).mono ?_
    rintro e w' ⟨rfl, k, rfl⟩
    exact ⟨rfl, hw.setS true k, Fr.set B w _ _ k (by dsimp only; omega) (by dsimp only; omega)⟩
  · by_cases h2 : bs.length < p + 1 + (bs[p]'(by omega)).toNat
    · refine (refTxt_no2 _ _ _ p a c bs _ w hw.p.c hw.b.c hw.s.c (hw.s.f 0) B hb (by omega) hbl h2).mono ?_
      rintro e w' ⟨rfl, k, rfl⟩
      exact ⟨rfl, hw.setS true k, Fr.set B w _ _ k (by dsimp only; omega) (by dsimp only; omega)⟩
    · rw [textF_at bs p (by omega) (by omega)] at hs
      simp at hs

theorem txt_good (B : Nat) (a : Option Addr) (c p : Nat) (bs : List UInt8) (v : Value) (w : World) (hw : PW B w a bs.length c p false v) (hb : SliceB B w (.slice a bs.length c) bs) (hbl : bs.length ≤ 140737488351232) (hs : (textF (bs.drop p, false)).2.2 = false) :
    ∃ p', p' ≤ bs.length ∧ (textF (bs.drop p, false)).2 = (bs.drop p', false) ∧
    Calls Try.prog 59 #[.pointer (some ⟨B + 1 + 1, 0, none⟩), .pointer (some ⟨B, 0, none⟩), .pointer (some ⟨B + 1 + 1 + 1, 0, none⟩)] w fun e w' => e = .returned (.string (textF (bs.drop p, false)).1) ∧ PW B w' a bs.length c p' false v ∧ Fr B w w' := by
  have h1 : p < bs.length := by
    rcases Nat.lt_or_ge p bs.length with h | h
    · exact h
    · rw [textF_end1 bs p h] at hs; simp at hs
  have h2 : p + 1 + (bs[p]).toNat ≤ bs.length := by
    rcases Nat.lt_or_ge bs.length (p + 1 + (bs[p]).toNat) with h | h
    · rw [textF_end2 bs p h1 h] at hs; simp at hs
    · exact h
  refine ⟨p + 1 + (bs[p]).toNat, h2, by rw [textF_at bs p h1 h2], ?_⟩
  rw [textF_at bs p h1 h2]
  refine (refTxt_yes _ _ _ p a c bs w hw.p.c (hw.p.f 0) hw.b.c (by omega) B (by omega) hb h1 hbl h2).mono ?_
  rintro e w' ⟨rfl, k, rfl⟩
  exact ⟨rfl, hw.setP _ k, Fr.set B w _ _ k (by dsimp only; omega) (by dsimp only; omega)⟩

theorem Fr.below {B : Nat} {w w' : World} (h : Fr B w w') : Below B w w' := ⟨h.os, h.tape, h.output, by rw [h.size]; exact Nat.le_refl _, fun k hk => h.block k (.inl hk)⟩
theorem Fr.slice {B : Nat} {w w' : World} {v : Value} {bs : List UInt8} (h : Fr B w w') (hb : SliceB B w v bs) : SliceB B w' v bs := hb.same (fun k hk => h.block k (.inl hk))
theorem Fr.own {B : Nat} {w w' : World} {e : TypeId} {size : Nat} {v : Value} {n : Nat} {xs : List Value} (h : Fr B w w') (ho : w.ownsRow (B + 5) e size v n xs) : w'.ownsRow (B + 5) e size v n xs := by
  obtain ⟨h1, h2⟩ := ho
  refine ⟨h1, ?_⟩
  rcases h2 with h2 | ⟨g, cap, cur, hv, hg, hh, r⟩
  · exact .inl h2
  · exact .inr ⟨g, cap, cur, hv, hg, (h.block g (.inr hg)).trans hh, r⟩

/-- Short once, short for good. -/
theorem propsF_short (s) (k j : Nat) (h : (propsF k s).2.2 = true) : (propsF (k + j) s).2.2 = true := by
  induction j with
  | zero => exact h
  | succ j ih =>
    cases hx : (propsF (k + (j + 1)) s).2.2 with
    | true => rfl
    | false =>
      have e : propsF (k + (j + 1)) s = ((propsF (k + j) s).1 ++ [(propF (propsF (k + j) s).2).1], (propF (propsF (k + j) s).2).2) := rfl
      rw [e] at hx
      have := (propF_back _ hx).1
      rw [ih] at this
      simp at this
theorem noteF_short (s) (k : Nat) (h : (propsF k s).2.2 = true) : (noteF k s).2.2.2 = true := by
  cases hx : (noteF k s).2.2.2 with
  | true => rfl
  | false =>
    have h1 := (takeF_back _ _ hx).1
    have h2 := (sizeF_back _ h1).1
    rw [h] at h2
    simp at h2
end Go.Proofs.Ytnfmidbbelgldaa
