/-
  The law's statements, each: a call, and the stores behind it: what then stands in the boxes.
-/
import Derived.Test.YtefankjmlbkldaaStep
namespace Go.Proofs.Ytefankjmlbkldaa
open Go.RowKit
set_option linter.unusedVariables false
set_option linter.unusedSimpArgs false

theorem Own3.upU {W W' : World} {c : Nat} {s : ByteArray} {l : Int} {its : List IT} (h : Own3 (Under W.heap.size) W c s l its) (f : Below W.heap.size W W') : Own3 (Under W'.heap.size) W' c s l its :=
  h.up f fun k hk => ⟨hk, Nat.lt_of_lt_of_le hk f.size⟩
theorem Own3.farU {W W' : World} {b c : Nat} {s : ByteArray} {l : Int} {its : List IT} (h : Own3 (Under W.heap.size) W c s l its) (f : Far b W W') (hc : c ≠ b) (hb : Any3 W b) : Own3 (Under W'.heap.size) W' c s l its :=
  h.far3 f hc hb fun k hk => ⟨hk, Nat.lt_of_lt_of_le hk f.size⟩
theorem size_set3 (w : World) (b : Nat) (y0 y1 y2 : Value) : (set3 w b y0 y1 y2).heap.size = w.heap.size := by simp [set3]
theorem size_set7 (w : World) (b : Nat) (y0 y1 y2 y3 y4 y5 y6 : Value) : (set7 w b y0 y1 y2 y3 y4 y5 y6).heap.size = w.heap.size := by simp [set7]
theorem own_set3U {W : World} {b : Nat} (hb : Any3 W b) {s : ByteArray} {l : Int} {its : List IT} {a : Option Addr} {c : Nat} (h : SliceI (Under W.heap.size) W (.slice a its.length c) its) :
    Own3 (Under (set3 W b (.string s) (.int .i64 l) (.slice a its.length c)).heap.size) (set3 W b (.string s) (.int .i64 l) (.slice a its.length c)) b s l its :=
  own_set3 hb h fun k hk => ⟨hk, Nat.lt_of_lt_of_le hk (far_set3 _ _ _ _ _).size⟩

section
variable {w W W' : World} {qc : List Value} {A B C D : Nat} {s : ByteArray} {l : Int} {its : List IT} {a p q : Option Addr} {c pc' qc' : Nat} {t : IT}

/-- Take: a queue into A, an item into a new box. -/
def wTake (W' : World) (A : Nat) (s : ByteArray) (l : Int) (a : Option Addr) (m c : Nat) (t : IT) (p : Option Addr) (pc' : Nat) (q : Option Addr) (qc' : Nat) : World :=
  (set3 W' A (.string s) (.int .i64 l) (.slice a m c)).alloc (.cells #[.int .i64 t.id, .int .i64 t.turn, .int .i64 t.tries, .bool t.out, .int .i64 t.due, .slice p t.note.props.length pc', .slice q t.note.body.length qc'] 64)

theorem wTake_new (hA : Any3 W' A) (hn : NoteIs (Under W'.heap.size) W' (.slice p t.note.props.length pc', .slice q t.note.body.length qc') t.note) : Own7 (wTake W' A s l a its.length c t p pc' q qc') W'.heap.size t := by
  have := own_new7 (note_far3 hn (far_set3 W' A (.string s) (.int .i64 l) (.slice a its.length c)) hA) 64
  rw [size_set3] at this
  exact this

theorem end7 (hG : Gq w qc W) (hA : Any3 W A) (hB : Any3 W B) (h1 : w.heap.size < A) (h2 : A < B) (hb : Below W.heap.size W W') (hs : SliceI (Under W'.heap.size) W' (.slice a its.length c) its) (hn : NoteIs (Under W'.heap.size) W' (.slice p t.note.props.length pc', .slice q t.note.body.length qc') t.note) {W2 : World} (hW : W2 = wTake W' A s l a its.length c t p pc' q qc') :
    ∃ C, Value.pointer (some ⟨W'.heap.size, 0, none⟩) = Value.pointer (some ⟨C, 0, none⟩) ∧ B < C ∧ Gq w qc W2 ∧ Own3 (Under W2.heap.size) W2 A s l its ∧ Any3 W2 B ∧ Own7 W2 C t := by
  subst hW
  have f := far_set3 W' A (.string s) (.int .i64 l) (.slice a its.length c)
  have hA' := hA.up hb
  exact ⟨_, rfl, (hB.up hb).lt, ((hG.up hb).far f h1).up (below_alloc _ _), (own_set3U hA' hs).upU (below_alloc _ _), ((hB.up hb).far f (by omega)).up (below_alloc _ _), wTake_new hA' hn⟩

theorem end8 {s' : ByteArray} {l' : Int} {its' : List IT} {t' : IT} (hG : Gq w qc W) (hA : Own3 (Under W.heap.size) W A s' l' its') (hB : Any3 W B) (hC : Own7 W C t') (h1 : w.heap.size < A) (h2 : A < B) (h3 : B < C) (hb : Below W.heap.size W W') (hs : SliceI (Under W'.heap.size) W' (.slice a its.length c) its) (hn : NoteIs (Under W'.heap.size) W' (.slice p t.note.props.length pc', .slice q t.note.body.length qc') t.note) {W2 : World} (hW : W2 = wTake W' B s l a its.length c t p pc' q qc') :
    ∃ D, Value.pointer (some ⟨W'.heap.size, 0, none⟩) = Value.pointer (some ⟨D, 0, none⟩) ∧ C < D ∧ Gq w qc W2 ∧ Own3 (Under W2.heap.size) W2 A s' l' its' ∧ Own3 (Under W2.heap.size) W2 B s l its ∧ Own7 W2 C t' ∧ Own7 W2 D t := by
  subst hW
  have f := far_set3 W' B (.string s) (.int .i64 l) (.slice a its.length c)
  have hB' := hB.up hb
  exact ⟨_, rfl, (hC.up hb).any.lt, ((hG.up hb).far f (by omega)).up (below_alloc _ _), ((hA.upU hb).farU f (by omega) hB').upU (below_alloc _ _), (own_set3U hB' hs).upU (below_alloc _ _), ((hC.up hb).far3 f (by omega) hB').up (below_alloc _ _), wTake_new hB' hn⟩

theorem end11 (hG : Gq w qc W) (hA : Any3 W A) (hB : Any3 W B) (hC : Any7 W C) (hD : Any7 W D) (h1 : w.heap.size < A) (h2 : A < B) (h3 : B < C) (h4 : C < D) (hb : Below W.heap.size W W') (hs : SliceI (Under W'.heap.size) W' (.slice a its.length c) its) {W2 : World} (hW : W2 = set3 W' A (.string s) (.int .i64 l) (.slice a its.length c)) :
    Gq w qc W2 ∧ Own3 (Under W2.heap.size) W2 A s l its ∧ Any3 W2 B ∧ Any7 W2 C ∧ Any7 W2 D := by
  subst hW
  have f := far_set3 W' A (.string s) (.int .i64 l) (.slice a its.length c)
  exact ⟨(hG.up hb).far f h1, own_set3U (hA.up hb) hs, (hB.up hb).far f (by omega), (hC.up hb).far f (by omega), (hD.up hb).far f (by omega)⟩

theorem end12 {s' : ByteArray} {l' : Int} {its' : List IT} (hG : Gq w qc W) (hA : Own3 (Under W.heap.size) W A s' l' its') (hB : Any3 W B) (hC : Any7 W C) (hD : Any7 W D) (h1 : w.heap.size < A) (h2 : A < B) (h3 : B < C) (h4 : C < D) (hb : Below W.heap.size W W') (hs : SliceI (Under W'.heap.size) W' (.slice a its.length c) its) {W2 : World} (hW : W2 = set3 W' B (.string s) (.int .i64 l) (.slice a its.length c)) :
    Gq w qc W2 ∧ Own3 (Under W2.heap.size) W2 A s' l' its' ∧ Own3 (Under W2.heap.size) W2 B s l its ∧ Any7 W2 C ∧ Any7 W2 D := by
  subst hW
  have f := far_set3 W' B (.string s) (.int .i64 l) (.slice a its.length c)
  exact ⟨(hG.up hb).far f (by omega), (hA.upU hb).farU f (by omega) (hB.up hb), own_set3U (hB.up hb) hs, (hC.up hb).far f (by omega), (hD.up hb).far f (by omega)⟩

/-- Back: a queue into A, an item into C, both old boxes. -/
def wBack (W' : World) (A C : Nat) (s : ByteArray) (l : Int) (a : Option Addr) (m c : Nat) (t : IT) (p : Option Addr) (pc' : Nat) (q : Option Addr) (qc' : Nat) : World :=
  set7 (set3 W' A (.string s) (.int .i64 l) (.slice a m c)) C (.int .i64 t.id) (.int .i64 t.turn) (.int .i64 t.tries) (.bool t.out) (.int .i64 t.due) (.slice p t.note.props.length pc') (.slice q t.note.body.length qc')

theorem end15 (hG : Gq w qc W) (hA : Any3 W A) (hB : Any3 W B) (hC : Any7 W C) (hD : Any7 W D) (h1 : w.heap.size < A) (h2 : A < B) (h3 : B < C) (h4 : C < D) (hb : Below W.heap.size W W') (hs : SliceI (fun k => Under w.heap.size k ∨ Made W.heap.size W'.heap.size k) W' (.slice a its.length c) its) (hn : NoteIs (Under W'.heap.size) W' (.slice p t.note.props.length pc', .slice q t.note.body.length qc') t.note) {W2 : World} (hW : W2 = wBack W' A C s l a its.length c t p pc' q qc') :
    Gq w qc W2 ∧ Own3 (fun k => k < W2.heap.size ∧ k ≠ C ∧ k ≠ D) W2 A s l its ∧ Any3 W2 B ∧ Own7 W2 C t ∧ Any7 W2 D := by
  subst hW
  have f := far_set3 W' A (.string s) (.int .i64 l) (.slice a its.length c)
  have g := far_set7 (set3 W' A (.string s) (.int .i64 l) (.slice a its.length c)) C (.int .i64 t.id) (.int .i64 t.turn) (.int .i64 t.tries) (.bool t.out) (.int .i64 t.due) (.slice p t.note.props.length pc') (.slice q t.note.body.length qc')
  have hA' := hA.up hb
  have hC' := (hC.up hb).far f (by omega)
  have lC := hC.lt
  have lD := hD.lt
  have hz := hb.size
  have hw := hG.1.size
  have e3 := size_set3 W' A (.string s) (.int .i64 l) (.slice a its.length c)
  refine ⟨((hG.up hb).far f h1).far g (by omega), Own3.far7 (own_set3 (T := fun k => k < W'.heap.size ∧ k ≠ C ∧ k ≠ D) hA' hs ?_) g (by omega) ?_, ((hB.up hb).far f (by omega)).far g (by omega), own_set7 hC' (note_far3 hn f hA'), ((hD.up hb).far f (by omega)).far g (by omega)⟩
  · intro k hk
    have hk' : k < w.heap.size ∨ (W.heap.size ≤ k ∧ k < W'.heap.size) := hk
    omega
  · intro k hk
    have := g.size
    exact ⟨by omega, hk.2.1, Nat.lt_of_lt_of_le (by omega) this, hk.2⟩

theorem end16 {s' : ByteArray} {l' : Int} {its' : List IT} {t' : IT} (hG : Gq w qc W) (hA : Own3 (fun k => k < W.heap.size ∧ k ≠ C ∧ k ≠ D) W A s' l' its') (hB : Any3 W B) (hC : Own7 W C t') (hD : Any7 W D) (h1 : w.heap.size < A) (h2 : A < B) (h3 : B < C) (h4 : C < D) (hb : Below W.heap.size W W') (hs : SliceI (fun k => Under w.heap.size k ∨ Made W.heap.size W'.heap.size k) W' (.slice a its.length c) its) (hn : NoteIs (Under W'.heap.size) W' (.slice p t.note.props.length pc', .slice q t.note.body.length qc') t.note) {W2 : World} (hW : W2 = wBack W' B D s l a its.length c t p pc' q qc') :
    Gq w qc W2 ∧ Own3 (Under W2.heap.size) W2 A s' l' its' ∧ Own3 (Under W2.heap.size) W2 B s l its ∧ Own7 W2 C t' ∧ Own7 W2 D t := by
  subst hW
  have f := far_set3 W' B (.string s) (.int .i64 l) (.slice a its.length c)
  have g := far_set7 (set3 W' B (.string s) (.int .i64 l) (.slice a its.length c)) D (.int .i64 t.id) (.int .i64 t.turn) (.int .i64 t.tries) (.bool t.out) (.int .i64 t.due) (.slice p t.note.props.length pc') (.slice q t.note.body.length qc')
  have hB' := hB.up hb
  have hD' := (hD.up hb).far f (by omega)
  have lC := hC.any.lt
  have lD := hD.lt
  have hz := hb.size
  have hw := hG.1.size
  have e3 := size_set3 W' B (.string s) (.int .i64 l) (.slice a its.length c)
  have gz := g.size
  refine ⟨((hG.up hb).far f (by omega)).far g (by omega), Own3.far7 (Own3.far3 (S := fun k => k < W'.heap.size ∧ k ≠ C ∧ k ≠ D) (T := fun k => k < W'.heap.size ∧ k ≠ C ∧ k ≠ D) (hA.up hb ?_) f (by omega) hB' ?_) g (by omega) ?_, Own3.far7 (own_set3 (T := fun k => k < W'.heap.size ∧ k ≠ C ∧ k ≠ D) hB' hs ?_) g (by omega) ?_, ((hC.up hb).far3 f (by omega) hB').far7 g (by omega) hD', own_set7 hD' (note_far3 hn f hB')⟩
  · intro k hk
    omega
  · intro k hk
    exact ⟨hk.1, hk⟩
  · intro k hk
    exact ⟨by omega, hk.2.2, Nat.lt_of_lt_of_le (by omega) gz⟩
  · intro k hk
    have hk' : k < w.heap.size ∨ (W.heap.size ≤ k ∧ k < W'.heap.size) := hk
    omega
  · intro k hk
    exact ⟨by omega, hk.2.2, Nat.lt_of_lt_of_le (by omega) gz⟩

/-- Late: an item into C. -/
def wLate (W' : World) (C : Nat) (t : IT) (p : Option Addr) (pc' : Nat) (q : Option Addr) (qc' : Nat) : World :=
  set7 W' C (.int .i64 t.id) (.int .i64 t.turn) (.int .i64 t.tries) (.bool t.out) (.int .i64 t.due) (.slice p t.note.props.length pc') (.slice q t.note.body.length qc')

theorem end19 (hG : Gq w qc W) (hA : Any3 W A) (hB : Any3 W B) (hC : Any7 W C) (hD : Any7 W D) (h1 : w.heap.size < A) (h2 : A < B) (h3 : B < C) (h4 : C < D) (hb : Below W.heap.size W W') (hn : NoteIs (Under W'.heap.size) W' (.slice p t.note.props.length pc', .slice q t.note.body.length qc') t.note) {W2 : World} (hW : W2 = wLate W' C t p pc' q qc') :
    Gq w qc W2 ∧ Any3 W2 A ∧ Any3 W2 B ∧ Own7 W2 C t ∧ Any7 W2 D := by
  subst hW
  have g := far_set7 W' C (.int .i64 t.id) (.int .i64 t.turn) (.int .i64 t.tries) (.bool t.out) (.int .i64 t.due) (.slice p t.note.props.length pc') (.slice q t.note.body.length qc')
  exact ⟨(hG.up hb).far g (by omega), (hA.up hb).far g (by omega), (hB.up hb).far g (by omega), own_set7 (hC.up hb) hn, (hD.up hb).far g (by omega)⟩

theorem end20 {t' : IT} (hG : Gq w qc W) (hA : Any3 W A) (hB : Any3 W B) (hC : Own7 W C t') (hD : Any7 W D) (h1 : w.heap.size < A) (h2 : A < B) (h3 : B < C) (h4 : C < D) (hb : Below W.heap.size W W') (hn : NoteIs (Under W'.heap.size) W' (.slice p t.note.props.length pc', .slice q t.note.body.length qc') t.note) {W2 : World} (hW : W2 = wLate W' D t p pc' q qc') :
    Gq w qc W2 ∧ Any3 W2 A ∧ Any3 W2 B ∧ Own7 W2 C t' ∧ Own7 W2 D t := by
  subst hW
  have g := far_set7 W' D (.int .i64 t.id) (.int .i64 t.turn) (.int .i64 t.tries) (.bool t.out) (.int .i64 t.due) (.slice p t.note.props.length pc') (.slice q t.note.body.length qc')
  exact ⟨(hG.up hb).far g (by omega), (hA.up hb).far g (by omega), (hB.up hb).far g (by omega), (hC.up hb).far7 g (by omega) (hD.up hb), own_set7 (hD.up hb) hn⟩

theorem end23 {u : Value} {n : Nat} {xs : List Value} (hG : Gq w qc W) (hA : Any3 W A) (hB : Any3 W B) (h1 : w.heap.size < A) (h2 : A < B) (hb : Below W.heap.size W W') (hs : SliceI (Under W'.heap.size) W' (.slice a its.length c) its) (hu : SliceV (Made W.heap.size W'.heap.size) W' u n xs) {W2 : World} (hW : W2 = set3 W' A (.string s) (.int .i64 l) (.slice a its.length c)) :
    Gq w qc W2 ∧ Own3 (Under W2.heap.size) W2 A s l its ∧ Any3 W2 B ∧ SliceV (fun k => k < W2.heap.size ∧ k ≠ A ∧ k ≠ B) W2 u n xs := by
  subst hW
  have f := far_set3 W' A (.string s) (.int .i64 l) (.slice a its.length c)
  have lA := hA.lt
  have lB := hB.lt
  have fz := f.size
  refine ⟨(hG.up hb).far f h1, own_set3U (hA.up hb) hs, (hB.up hb).far f (by omega), hu.sub fun k hk => ?_⟩
  have hk' : W.heap.size ≤ k ∧ k < W'.heap.size := hk
  exact ⟨⟨by omega, by omega, by omega⟩, f.block k (by omega) (by omega)⟩

theorem end24 {s' : ByteArray} {l' : Int} {its' : List IT} {u v : Value} {n m : Nat} {xs ys : List Value} (hG : Gq w qc W) (hA : Own3 (Under W.heap.size) W A s' l' its') (hB : Any3 W B) (hv : SliceV (fun k => k < W.heap.size ∧ k ≠ A ∧ k ≠ B) W v m ys) (h1 : w.heap.size < A) (h2 : A < B) (hb : Below W.heap.size W W') (hs : SliceI (Under W'.heap.size) W' (.slice a its.length c) its) (hu : SliceV (Made W.heap.size W'.heap.size) W' u n xs) {W2 : World} (hW : W2 = set3 W' B (.string s) (.int .i64 l) (.slice a its.length c)) :
    Gq w qc W2 ∧ Own3 (Under W2.heap.size) W2 A s' l' its' ∧ Own3 (Under W2.heap.size) W2 B s l its ∧ SliceV (Under W2.heap.size) W2 v m ys ∧ SliceV (Under W2.heap.size) W2 u n xs := by
  subst hW
  have f := far_set3 W' B (.string s) (.int .i64 l) (.slice a its.length c)
  have lB := hB.lt
  have fz := f.size
  have hz := hb.size
  refine ⟨(hG.up hb).far f (by omega), (hA.upU hb).farU f (by omega) (hB.up hb), own_set3U (hB.up hb) hs, hv.sub fun k hk => ?_, hu.sub fun k hk => ?_⟩
  · exact ⟨show k < _ by omega, (f.block k (by omega) hk.2.2).trans (hb.block k hk.1)⟩
  · have hk' : W.heap.size ≤ k ∧ k < W'.heap.size := hk
    exact ⟨show k < _ by omega, f.block k (by omega) (by omega)⟩
end
end Go.Proofs.Ytefankjmlbkldaa
