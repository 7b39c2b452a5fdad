/-
  The calls of QueueTurn, one by one.
-/
import Derived.Test.YtefankjmlbkldabTurnList
import Derived.Test.YtefankjmlbkldabBack
import Derived.Test.YtefankjmlbkldabAlive
namespace Go.Proofs.Ytefankjmlbkldab
open Go.RowKit
set_option linter.unusedVariables false
set_option linter.unusedSimpArgs false

/-- What QueueTurn knows of the queue, and of the item that is given. -/
structure TurnOk (its : List IT) (i : Nat) (it : IT) : Prop where
  lt : i < its.length
  at' : its[i] = it
  small : smallI its
  apart : Apart its
  fits : it.fits
  high : it.turn ≤ 900 ∧ it.tries ≤ 2
  isin : it.out = false
  before : ∀ j (hj : j < i), isInB (its[j]'(by omega)) = false

section
variable {its : List IT} {i : Nat} {it : IT} {now : Int} {name : ByteArray} {limit : Int} {v : Value} {w : World}

def tk1 (now : Int) (it : IT) : IT := takeI now it
def bk1 (now : Int) (it : IT) : IT := backI (tk1 now it)
def tk2 (now : Int) (it : IT) : IT := takeI now (bk1 now it)

theorem tk1_fits (h : TurnOk its i it) : (tk1 now it).fits := by
  obtain ⟨⟨f1, f2⟩, f3, f4⟩ := h.fits
  obtain ⟨g1, g2⟩ := h.high
  exact ⟨⟨by show 0 ≤ it.turn + 1; omega, by show it.turn + 1 ≤ _; omega⟩, f3, f4⟩
theorem bk1_fits (h : TurnOk its i it) : (bk1 now it).fits := by
  obtain ⟨⟨f1, f2⟩, f3, f4⟩ := h.fits
  obtain ⟨g1, g2⟩ := h.high
  exact ⟨⟨by show 0 ≤ it.turn + 1; omega, by show it.turn + 1 ≤ _; omega⟩, by show 0 ≤ it.tries + 1; omega, by show it.tries + 1 ≤ _; omega⟩

theorem turn_take (h : TurnOk its i it) (hnow : 0 ≤ now ∧ now ≤ 1000000000) (hv : SliceI (Under w.heap.size) w v its) :
    Calls Try.prog 7 #[.agg #[.string name, .int .i64 limit, v], .int .i64 now] w fun e w' => ∃ va vc pa pn pc qa qn qc, e = .returned (.tuple #[.agg #[.string name, .int .i64 limit, .slice va its.length vc], .agg #[.int .i64 it.id, .int .i64 (it.turn + 1), .int .i64 it.tries, .bool true, .int .i64 (now + 5), .slice pa pn pc, .slice qa qn qc], .int .i64 0]) ∧ SliceI (Under w'.heap.size) w' (.slice va its.length vc) (its.set i (tk1 now it)) ∧ Below w.heap.size w w' := by
  have hi : idxI isInB its = i := idx_eq _ _ i h.lt (by rw [h.at']; simp [isInB, h.isin]) h.before
  refine (take_ok v name limit now hnow its i h.lt w hv h.small hi (by rw [h.at']; exact h.fits)).mono fun e w' ⟨v', q, he, hs, hn, hb⟩ => ?_
  rw [h.at'] at he hs hn
  obtain ⟨va, vc, e1⟩ := hs.shp
  rw [List.length_set] at e1
  obtain ⟨q1, q2⟩ := q
  obtain ⟨pa, pc, e2⟩ := SliceV.shp hn.1
  obtain ⟨qa, qc, e3⟩ := SliceV.shp hn.2
  simp only at e2 e3
  subst e1 e2 e3
  exact ⟨va, vc, pa, _, pc, qa, _, qc, he, hs, hb⟩

theorem turn_back (h : TurnOk its i it) (hv : SliceI (Under w.heap.size) w v (its.set i (tk1 now it))) (ht : it.tries + 1 < 3) :
    Calls Try.prog 8 #[.agg #[.string name, .int .i64 limit, v], .int .i64 it.id, .int .i64 (it.turn + 1)] w fun e w' => ∃ va vc, e = .returned (.tuple #[.agg #[.string name, .int .i64 limit, .slice va its.length vc], .agg #[.int .i64 0, .int .i64 0, .int .i64 0, .bool false, .int .i64 0, .slice none 0 0, .slice none 0 0], .bool false, .int .i64 0]) ∧ SliceI (Under w'.heap.size) w' (.slice va its.length vc) (its.set i (bk1 now it)) ∧ Below w.heap.size w w' := by
  have hl : i < (its.set i (tk1 now it)).length := by rw [List.length_set]; exact h.lt
  have hx : (its.set i (tk1 now it))[i] = tk1 now it := by simp
  have hi : idxI (givenB it.id (it.turn + 1)) (its.set i (tk1 now it)) = i := by
    have := given_yes h.apart h.lt (tk1 now it) (it.turn + 1) (by rw [h.at']; simp [givenB, tk1, takeI])
    rw [h.at'] at this; exact this
  refine (back_wait v name limit it.id (it.turn + 1) (its.set i (tk1 now it)) i hl w hv (small_set h.small i h.lt _ (by rw [h.at']; rfl)) hi (by rw [hx]; exact tk1_fits h) (by rw [hx]; exact ht)).mono fun e w' ⟨v', he, hs, hb⟩ => ?_
  rw [hx, List.set_set] at hs
  obtain ⟨va, vc, e1⟩ := hs.shp
  rw [List.length_set] at e1
  subst e1
  exact ⟨va, vc, he, hs, hb⟩

theorem turn_dead (h : TurnOk its i it) (hv : SliceI (Under w.heap.size) w v (its.set i (tk1 now it))) (ht : ¬ it.tries + 1 < 3) :
    Calls Try.prog 8 #[.agg #[.string name, .int .i64 limit, v], .int .i64 it.id, .int .i64 (it.turn + 1)] w fun e w' => ∃ va vc m a b c d f pa pn pc qa qn qc, e = .returned (.tuple #[.agg #[.string name, .int .i64 limit, .slice va m vc], .agg #[.int .i64 a, .int .i64 b, .int .i64 c, .bool d, .int .i64 f, .slice pa pn pc, .slice qa qn qc], .bool true, .int .i64 0]) ∧ SliceI (Under w'.heap.size) w' (.slice va m vc) (its.eraseIdx i) ∧ Below w.heap.size w w' := by
  have hl : i < (its.set i (tk1 now it)).length := by rw [List.length_set]; exact h.lt
  have hx : (its.set i (tk1 now it))[i] = tk1 now it := by simp
  have hi : idxI (givenB it.id (it.turn + 1)) (its.set i (tk1 now it)) = i := by
    have := given_yes h.apart h.lt (tk1 now it) (it.turn + 1) (by rw [h.at']; simp [givenB, tk1, takeI])
    rw [h.at'] at this; exact this
  refine (back_dead v name limit it.id (it.turn + 1) (its.set i (tk1 now it)) i hl w hv (small_set h.small i h.lt _ (by rw [h.at']; rfl)) hi (by rw [hx]; exact tk1_fits h) (by rw [hx]; exact ht)).mono fun e w' ⟨v', q, he, hs, hn, hb⟩ => ?_
  rw [erase_set] at hs
  obtain ⟨va, vc, e1⟩ := hs.shp
  obtain ⟨q1, q2⟩ := q
  obtain ⟨pa, pc, e2⟩ := SliceV.shp hn.1
  obtain ⟨qa, qc, e3⟩ := SliceV.shp hn.2
  simp only at e2 e3
  subst e1 e2 e3
  exact ⟨va, vc, _, _, _, _, _, _, pa, _, pc, qa, _, qc, he, hs, hb⟩

theorem turn_late (h : TurnOk its i it) (hv : SliceI (Under w.heap.size) w v (its.set i (bk1 now it))) :
    Calls Try.prog 10 #[.agg #[.string name, .int .i64 limit, v], .int .i64 it.id, .int .i64 (it.turn + 1)] w fun e w' => e = .returned (.tuple #[.agg #[.string ⟨#[]⟩, .int .i64 0, .slice none 0 0], .int .i64 6]) ∧ Below w.heap.size w w' := by
  refine done_none v name limit it.id (it.turn + 1) _ w hv ?_
  have := given_no h.apart h.lt (bk1 now it) (it.turn + 1) (by simp [givenB, bk1, backI])
  rw [h.at'] at this; exact this

theorem turn_gone (h : TurnOk its i it) (hv : SliceI (Under w.heap.size) w v (its.eraseIdx i)) :
    Calls Try.prog 10 #[.agg #[.string name, .int .i64 limit, v], .int .i64 it.id, .int .i64 (it.turn + 1)] w fun e w' => e = .returned (.tuple #[.agg #[.string ⟨#[]⟩, .int .i64 0, .slice none 0 0], .int .i64 6]) ∧ Below w.heap.size w w' := by
  refine done_none v name limit it.id (it.turn + 1) _ w hv ?_
  have := given_gone h.apart h.lt (it.turn + 1)
  rw [h.at'] at this; exact this

theorem turn_again (h : TurnOk its i it) (hnow : 0 ≤ now ∧ now ≤ 1000000000) (hv : SliceI (Under w.heap.size) w v (its.set i (bk1 now it))) :
    Calls Try.prog 7 #[.agg #[.string name, .int .i64 limit, v], .int .i64 now] w fun e w' => ∃ va vc pa pn pc qa qn qc, e = .returned (.tuple #[.agg #[.string name, .int .i64 limit, .slice va its.length vc], .agg #[.int .i64 it.id, .int .i64 (it.turn + 1 + 1), .int .i64 (it.tries + 1), .bool true, .int .i64 (now + 5), .slice pa pn pc, .slice qa qn qc], .int .i64 0]) ∧ SliceI (Under w'.heap.size) w' (.slice va its.length vc) (its.set i (tk2 now it)) ∧ Below w.heap.size w w' := by
  have hl : i < (its.set i (bk1 now it)).length := by rw [List.length_set]; exact h.lt
  have hx : (its.set i (bk1 now it))[i] = bk1 now it := by simp
  have hi : idxI isInB (its.set i (bk1 now it)) = i := in_set h.lt h.before _ rfl
  refine (take_ok v name limit now hnow (its.set i (bk1 now it)) i hl w hv (small_set h.small i h.lt _ (by rw [h.at']; rfl)) hi (by rw [hx]; exact bk1_fits h)).mono fun e w' ⟨v', q, he, hs, hn, hb⟩ => ?_
  rw [hx] at he hs hn
  rw [List.set_set] at hs
  obtain ⟨va, vc, e1⟩ := hs.shp
  rw [List.length_set] at e1
  obtain ⟨q1, q2⟩ := q
  obtain ⟨pa, pc, e2⟩ := SliceV.shp hn.1
  obtain ⟨qa, qc, e3⟩ := SliceV.shp hn.2
  simp only at e2 e3
  subst e1 e2 e3
  exact ⟨va, vc, pa, _, pc, qa, _, qc, he, hs, hb⟩

theorem turn_old (h : TurnOk its i it) (hv : SliceI (Under w.heap.size) w v (its.set i (tk2 now it))) :
    Calls Try.prog 10 #[.agg #[.string name, .int .i64 limit, v], .int .i64 it.id, .int .i64 (it.turn + 1)] w fun e w' => e = .returned (.tuple #[.agg #[.string ⟨#[]⟩, .int .i64 0, .slice none 0 0], .int .i64 6]) ∧ Below w.heap.size w w' := by
  refine done_none v name limit it.id (it.turn + 1) _ w hv ?_
  have := given_no h.apart h.lt (tk2 now it) (it.turn + 1) (by rw [h.at']; simp [givenB, tk2, takeI, bk1, backI, tk1]; omega)
  rw [h.at'] at this; exact this

theorem turn_new (h : TurnOk its i it) (hv : SliceI (Under w.heap.size) w v (its.set i (tk2 now it))) :
    Calls Try.prog 10 #[.agg #[.string name, .int .i64 limit, v], .int .i64 it.id, .int .i64 (it.turn + 1 + 1)] w fun e w' => ∃ va vc m, e = .returned (.tuple #[.agg #[.string name, .int .i64 limit, .slice va m vc], .int .i64 0]) ∧ its.length = m + 1 ∧ Below w.heap.size w w' := by
  have hl : i < (its.set i (tk2 now it)).length := by rw [List.length_set]; exact h.lt
  have hi : idxI (givenB it.id (it.turn + 1 + 1)) (its.set i (tk2 now it)) = i := by
    have := given_yes h.apart h.lt (tk2 now it) (it.turn + 1 + 1) (by rw [h.at']; simp [givenB, tk2, takeI, bk1, backI, tk1])
    rw [h.at'] at this; exact this
  refine (done_ok v name limit it.id (it.turn + 1 + 1) (its.set i (tk2 now it)) i hl w hv (small_set h.small i h.lt _ (by rw [h.at']; rfl)) hi).mono fun e w' ⟨v', he, hs, hb⟩ => ?_
  rw [erase_set] at hs
  obtain ⟨va, vc, e1⟩ := hs.shp
  subst e1
  refine ⟨va, vc, _, he, ?_, hb⟩
  rw [List.length_eraseIdx_of_lt h.lt]
  have := h.lt
  omega
end
end Go.Proofs.Ytefankjmlbkldab
