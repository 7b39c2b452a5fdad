/-
  Each call of package queue, and the document's own, answer the same: one plain answer for both.
-/
import Derived.Test.YtefankjmlbkldaaRefPut
import Derived.Test.YtefankjmlbkldaaRefTake
import Derived.Test.YtefankjmlbkldaaRefBack
import Derived.Test.YtefankjmlbkldaaRefLate
import Derived.Test.YtefankjmlbkldaaRefPurge
import Derived.Test.YtefankjmlbkldaaBack
import Derived.Test.YtefankjmlbkldaaTurnList
import Derived.Test.YtefankjmlbkldaaRight
namespace Go.Proofs.Ytefankjmlbkldaa
open Go.RowKit
set_option linter.unusedVariables false
set_option linter.unusedSimpArgs false

def qv (qn : ByteArray) (ql : Int) (v : Value) : Value := .agg #[.string qn, .int .i64 ql, v]

/-- A queue, and an error, are answered. -/
def AnsQ (qn : ByteArray) (ql : Int) (its : List IT) (en : Int) (w : World) (e : Ending) (w' : World) : Prop :=
  ∃ va vc, e = .returned (.tuple #[.agg #[.string qn, .int .i64 ql, .slice va its.length vc], .int .i64 en]) ∧ SliceI (Under w'.heap.size) w' (.slice va its.length vc) its ∧ Below w.heap.size w w'

/-- A queue, an item, and an error. -/
def AnsT (qn : ByteArray) (ql : Int) (its : List IT) (it : IT) (en : Int) (w : World) (e : Ending) (w' : World) : Prop :=
  ∃ va vc pa pc qa qc, e = .returned (.tuple #[.agg #[.string qn, .int .i64 ql, .slice va its.length vc], .agg #[.int .i64 it.id, .int .i64 it.turn, .int .i64 it.tries, .bool it.out, .int .i64 it.due, .slice pa it.note.props.length pc, .slice qa it.note.body.length qc], .int .i64 en]) ∧ SliceI (Under w'.heap.size) w' (.slice va its.length vc) its ∧ NoteIs (Under w'.heap.size) w' (.slice pa it.note.props.length pc, .slice qa it.note.body.length qc) it.note ∧ Below w.heap.size w w'

/-- A queue, an item, a truth and an error. -/
def AnsK (qn : ByteArray) (ql : Int) (its : List IT) (it : IT) (d : Bool) (en : Int) (w : World) (e : Ending) (w' : World) : Prop :=
  ∃ va vc pa pc qa qc, e = .returned (.tuple #[.agg #[.string qn, .int .i64 ql, .slice va its.length vc], .agg #[.int .i64 it.id, .int .i64 it.turn, .int .i64 it.tries, .bool it.out, .int .i64 it.due, .slice pa it.note.props.length pc, .slice qa it.note.body.length qc], .bool d, .int .i64 en]) ∧ SliceI (Under w'.heap.size) w' (.slice va its.length vc) its ∧ NoteIs (Under w'.heap.size) w' (.slice pa it.note.props.length pc, .slice qa it.note.body.length qc) it.note ∧ Below w.heap.size w w'

/-- An item, and a truth. -/
def AnsL (it : IT) (d : Bool) (w : World) (e : Ending) (w' : World) : Prop :=
  ∃ pa pc qa qc, e = .returned (.tuple #[.agg #[.int .i64 it.id, .int .i64 it.turn, .int .i64 it.tries, .bool it.out, .int .i64 it.due, .slice pa it.note.props.length pc, .slice qa it.note.body.length qc], .bool d]) ∧ NoteIs (Under w'.heap.size) w' (.slice pa it.note.props.length pc, .slice qa it.note.body.length qc) it.note ∧ Below w.heap.size w w'

def zI : IT := ⟨0, 0, 0, false, 0, ⟨[], []⟩⟩

theorem nilI (S : Nat → Prop) (w : World) : SliceI S w (.slice none 0 0) [] := ⟨[], rfl, SliceV.nil _ _, by simp⟩

theorem rightI_small {its : List IT} (h : RightI its) : smallI its := ⟨by have := h.1; omega, fun i hi => (h.2.1 i hi).1⟩
theorem rightI_fits {its : List IT} (h : RightI its) {i : IT} (hi : i ∈ its) : i.fits := by
  obtain ⟨-, ⟨a, b⟩, ⟨c, d⟩, -⟩ := h.2.1 i hi
  exact ⟨⟨a, by omega⟩, c, by omega⟩

theorem pair_put (its : List IT) (hR : RightI its) (n : ND) (hn : n.small) (name : ByteArray) (limit id : Int) :
    ∃ qn ql its' en, its'.length ≤ 1000 ∧ ∀ (W : World) (v pv bv : Value), SliceI (Under W.heap.size) W v its → NoteIs (Under W.heap.size) W (pv, bv) n →
      Calls Try.prog 36 #[.agg #[.string name, .int .i64 limit, v], .int .i64 id, .agg #[pv, bv]] W (AnsQ qn ql its' en W) ∧ Calls Try.prog 37 #[.agg #[.string name, .int .i64 limit, v], .int .i64 id, .agg #[pv, bv]] W (AnsQ qn ql its' en W) := by
  have hs := rightI_small hR
  by_cases hf : limit ≤ (its.length : Int)
  · refine ⟨⟨#[]⟩, 0, [], 8, by simp, fun W v pv bv hv hp => ?_⟩
    obtain ⟨pa, pc, e1, -⟩ := SliceV.shape hp.1
    obtain ⟨ba, bc, e2, -⟩ := SliceV.shape hp.2
    exact ⟨(put_full v pv bv name limit id its W hv hf ⟨_, _, _, e1⟩ ⟨_, _, _, e2⟩).mono fun e w' ⟨he, hb⟩ => ⟨none, 0, he, nilI _ _, hb⟩,
      (refPut_full v pv bv name limit id its W hv hf ⟨_, _, _, e1⟩ ⟨_, _, _, e2⟩).mono fun e w' ⟨he, hb⟩ => ⟨none, 0, he, nilI _ _, hb⟩⟩
  · refine ⟨name, limit, its ++ [newI id n], 0, by have := hR.1; simp; omega, fun W v pv bv hv hp => ⟨?_, ?_⟩⟩
    · refine (put_ok v pv bv name limit id its n W hv hs hp hn hf).mono fun e w' ⟨v', he, h2, hb⟩ => ?_
      obtain ⟨va, vc, rfl⟩ := h2.shp
      exact ⟨va, vc, he, h2, hb⟩
    · refine (refPut_ok v pv bv name limit id its hs.1 n W hv hp hf).mono fun e w' ⟨v', he, h2, hb⟩ => ?_
      obtain ⟨va, vc, rfl⟩ := h2.shp
      exact ⟨va, vc, he, h2, hb⟩

theorem all_not {p : IT → Bool} {l : List IT} (h : idxI p l = -1) : ∀ x ∈ l, p x = false := by
  intro x hx
  cases hf : l.findIdx? p with
  | none => exact (List.findIdx?_eq_none_iff.1 hf) x hx
  | some k => exfalso; simp only [idxI, hf] at h; revert h; simp <;> omega

theorem pair_take (its : List IT) (hR : RightI its) (name : ByteArray) (limit now : Int) (hnow : 0 ≤ now ∧ now ≤ 1000000000) :
    ∃ qn ql its' it en, its'.length ≤ 1000 ∧ ∀ (W : World) (v : Value), SliceI (Under W.heap.size) W v its →
      Calls Try.prog 40 #[.agg #[.string name, .int .i64 limit, v], .int .i64 now] W (AnsT qn ql its' it en W) ∧ Calls Try.prog 41 #[.agg #[.string name, .int .i64 limit, v], .int .i64 now] W (AnsT qn ql its' it en W) := by
  have hs := rightI_small hR
  rcases idxI_cases isInB its with hno | ⟨i, hil, hix, hin, hbf⟩
  · refine ⟨⟨#[]⟩, 0, [], zI, 6, by simp, fun W v hv => ⟨?_, ?_⟩⟩
    · exact (take_none v name limit now its W hv hno).mono fun e w' ⟨he, hb⟩ => ⟨none, 0, none, 0, none, 0, he, nilI _ _, NoteIs.nil _ _, hb⟩
    · exact (refTake_none v name limit now its hs.1 (all_not hno) W hv).mono fun e w' ⟨he, hb⟩ => ⟨none, 0, none, 0, none, 0, he, nilI _ _, NoteIs.nil _ _, hb⟩
  · have hft := rightI_fits hR (List.getElem_mem hil)
    refine ⟨name, limit, its.set i (takeI now its[i]), takeI now its[i], 0, by simpa using hs.1, fun W v hv => ⟨?_, ?_⟩⟩
    · refine (take_ok v name limit now hnow its i hil W hv hs hix hft).mono fun e w' ⟨v', ⟨q1, q2⟩, he, h2, hn, hb⟩ => ?_
      obtain ⟨va, vc, rfl⟩ := h2.shp
      obtain ⟨pa, pc, e1, -⟩ := SliceV.shape hn.1
      obtain ⟨qa, qc, e2, -⟩ := SliceV.shape hn.2
      simp only at e1 e2
      subst e1 e2
      exact ⟨va, vc, pa, pc, qa, qc, he, h2, hn, hb⟩
    · refine (refTake_ok v name limit now hnow its hs.1 i hil hin hbf hft W hv).mono fun e w' ⟨v', ⟨q1, q2⟩, he, h2, hn, hb⟩ => ?_
      obtain ⟨va, vc, rfl⟩ := h2.shp
      obtain ⟨pa, pc, e1, -⟩ := SliceV.shape hn.1
      obtain ⟨qa, qc, e2, -⟩ := SliceV.shape hn.2
      simp only at e1 e2
      subst e1 e2
      exact ⟨va, vc, pa, pc, qa, qc, he, h2, hn, hb⟩

theorem pair_done (its : List IT) (hR : RightI its) (name : ByteArray) (limit id turn : Int) :
    ∃ qn ql its' en, its'.length ≤ 1000 ∧ ∀ (W : World) (v : Value), SliceI (Under W.heap.size) W v its →
      Calls Try.prog 43 #[.agg #[.string name, .int .i64 limit, v], .int .i64 id, .int .i64 turn] W (AnsQ qn ql its' en W) ∧ Calls Try.prog 44 #[.agg #[.string name, .int .i64 limit, v], .int .i64 id, .int .i64 turn] W (AnsQ qn ql its' en W) := by
  have hs := rightI_small hR
  rcases idxI_cases (givenB id turn) its with hno | ⟨i, hil, hix, hin, hbf⟩
  · refine ⟨⟨#[]⟩, 0, [], 6, by simp, fun W v hv => ⟨?_, ?_⟩⟩
    · exact (done_none v name limit id turn its W hv hno).mono fun e w' ⟨he, hb⟩ => ⟨none, 0, he, nilI _ _, hb⟩
    · exact (refDone_none v name limit id turn its hs.1 (all_not hno) W hv).mono fun e w' ⟨he, hb⟩ => ⟨none, 0, he, nilI _ _, hb⟩
  · refine ⟨name, limit, its.eraseIdx i, 0, (small_erase hs i).1, fun W v hv => ⟨?_, ?_⟩⟩
    · refine (done_ok v name limit id turn its i hil W hv hs hix).mono fun e w' ⟨v', he, h2, hb⟩ => ?_
      obtain ⟨va, vc, rfl⟩ := h2.shp
      exact ⟨va, vc, he, h2, hb⟩
    · refine (refDone_ok v name limit id turn its hs.1 i hil hin hbf W hv).mono fun e w' ⟨v', he, h2, hb⟩ => ?_
      obtain ⟨va, vc, rfl⟩ := h2.shp
      exact ⟨va, vc, he, h2, hb⟩

theorem pair_back (its : List IT) (hR : RightI its) (name : ByteArray) (limit id turn : Int) :
    ∃ qn ql its' it d en, its'.length ≤ 1000 ∧ ∀ (W : World) (v : Value), SliceI (Under W.heap.size) W v its →
      Calls Try.prog 45 #[.agg #[.string name, .int .i64 limit, v], .int .i64 id, .int .i64 turn] W (AnsK qn ql its' it d en W) ∧ Calls Try.prog 46 #[.agg #[.string name, .int .i64 limit, v], .int .i64 id, .int .i64 turn] W (AnsK qn ql its' it d en W) := by
  have hs := rightI_small hR
  rcases idxI_cases (givenB id turn) its with hno | ⟨i, hil, hix, hin, hbf⟩
  · refine ⟨⟨#[]⟩, 0, [], zI, false, 6, by simp, fun W v hv => ⟨?_, ?_⟩⟩
    · exact (back_none v name limit id turn its W hv hno).mono fun e w' ⟨he, hb⟩ => ⟨none, 0, none, 0, none, 0, he, nilI _ _, NoteIs.nil _ _, hb⟩
    · exact (refBack_none v name limit id turn its hs.1 (all_not hno) W hv).mono fun e w' ⟨he, hb⟩ => ⟨none, 0, none, 0, none, 0, he, nilI _ _, NoteIs.nil _ _, hb⟩
  · have hft := rightI_fits hR (List.getElem_mem hil)
    by_cases ht : (backI its[i]).tries < 3
    · refine ⟨name, limit, its.set i (backI its[i]), zI, false, 0, by simpa using hs.1, fun W v hv => ⟨?_, ?_⟩⟩
      · refine (back_wait v name limit id turn its i hil W hv hs hix hft ht).mono fun e w' ⟨v', he, h2, hb⟩ => ?_
        obtain ⟨va, vc, rfl⟩ := h2.shp
        exact ⟨va, vc, none, 0, none, 0, he, h2, NoteIs.nil _ _, hb⟩
      · refine (refBack_wait v name limit id turn its hs.1 i hil hin hbf hft ht W hv).mono fun e w' ⟨v', he, h2, hb⟩ => ?_
        obtain ⟨va, vc, rfl⟩ := h2.shp
        exact ⟨va, vc, none, 0, none, 0, he, h2, NoteIs.nil _ _, hb⟩
    · refine ⟨name, limit, its.eraseIdx i, backI its[i], true, 0, (small_erase hs i).1, fun W v hv => ⟨?_, ?_⟩⟩
      · refine (back_dead v name limit id turn its i hil W hv hs hix hft ht).mono fun e w' ⟨v', ⟨q1, q2⟩, he, h2, hn, hb⟩ => ?_
        obtain ⟨va, vc, rfl⟩ := h2.shp
        obtain ⟨pa, pc, e1, -⟩ := SliceV.shape hn.1
        obtain ⟨qa, qc, e2, -⟩ := SliceV.shape hn.2
        simp only at e1 e2
        subst e1 e2
        exact ⟨va, vc, pa, pc, qa, qc, he, h2, hn, hb⟩
      · refine (refBack_dead v name limit id turn its hs.1 i hil hin hbf hft ht W hv).mono fun e w' ⟨v', ⟨q1, q2⟩, he, h2, hn, hb⟩ => ?_
        obtain ⟨va, vc, rfl⟩ := h2.shp
        obtain ⟨pa, pc, e1, -⟩ := SliceV.shape hn.1
        obtain ⟨qa, qc, e2, -⟩ := SliceV.shape hn.2
        simp only at e1 e2
        subst e1 e2
        exact ⟨va, vc, pa, pc, qa, qc, he, h2, hn, hb⟩

theorem pair_late (its : List IT) (hR : RightI its) (name : ByteArray) (limit now : Int) :
    ∃ it d, ∀ (W : World) (v : Value), SliceI (Under W.heap.size) W v its →
      Calls Try.prog 47 #[.agg #[.string name, .int .i64 limit, v], .int .i64 now] W (AnsL it d W) ∧ Calls Try.prog 48 #[.agg #[.string name, .int .i64 limit, v], .int .i64 now] W (AnsL it d W) := by
  have hs := rightI_small hR
  rcases idxI_cases (lateB now) its with hno | ⟨i, hil, hix, hin, hbf⟩
  · refine ⟨zI, false, fun W v hv => ⟨?_, ?_⟩⟩
    · exact (late_none v name limit now its W hv hno).mono fun e w' ⟨he, hb⟩ => ⟨none, 0, none, 0, he, NoteIs.nil _ _, hb⟩
    · exact (refLate_none v name limit now its hs.1 (all_not hno) W hv).mono fun e w' ⟨he, hb⟩ => ⟨none, 0, none, 0, he, NoteIs.nil _ _, hb⟩
  · refine ⟨its[i], true, fun W v hv => ⟨?_, ?_⟩⟩
    · refine (late_ok v name limit now its i hil W hv hs hix).mono fun e w' ⟨⟨q1, q2⟩, he, hn, hb⟩ => ?_
      obtain ⟨pa, pc, e1, -⟩ := SliceV.shape hn.1
      obtain ⟨qa, qc, e2, -⟩ := SliceV.shape hn.2
      simp only at e1 e2
      subst e1 e2
      exact ⟨pa, pc, qa, qc, he, hn, hb⟩
    · refine (refLate_ok v name limit now its hs.1 i hil hin hbf W hv).mono fun e w' ⟨⟨q1, q2⟩, he, hn, hb⟩ => ?_
      obtain ⟨pa, pc, e1, -⟩ := SliceV.shape hn.1
      obtain ⟨qa, qc, e2, -⟩ := SliceV.shape hn.2
      simp only at e1 e2
      subst e1 e2
      exact ⟨pa, pc, qa, qc, he, hn, hb⟩
end Go.Proofs.Ytefankjmlbkldaa
