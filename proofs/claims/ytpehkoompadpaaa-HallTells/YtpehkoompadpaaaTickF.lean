/-
  What Tick does, in plain terms; halls that are good stay so.
-/
import Derived.Test.YtpehkoompadpaaaBackIn
namespace Go.Proofs.Ytpehkoompadpaaa
open Go.RowKit
set_option linter.unusedVariables false
set_option linter.unusedSimpArgs false

def IT.good (i : IT) : Prop := i.note.small ∧ i.fits ∧ i.tries ≤ 2
def QD.good (q : QD) : Prop := q.limit ≤ 8 ∧ q.items.length ≤ 8 ∧ ∀ i ∈ q.items, i.good
def HD.good (M : Int) (h : HD) : Prop := h.queues.length ≤ 4 ∧ (0 ≤ h.next ∧ h.next ≤ M) ∧ ∀ q ∈ h.queues, q.good

theorem QD.good.small {q : QD} (h : q.good) : smallI q.items := ⟨by have := h.2.1; omega, fun i hi => (h.2.2 i hi).1⟩
theorem HD.good.small {M : Int} {h : HD} (g : h.good M) : smallQ h.queues := ⟨by have := g.1; omega, fun q hq => (g.2.2 q hq).small⟩
theorem HD.good.fits {M : Int} {h : HD} (g : h.good M) : ∀ q ∈ h.queues, ∀ i ∈ q.items, i.fits := fun q hq i hi => ((g.2.2 q hq).2.2 i hi).2.1
theorem HD.good.mono {M M' : Int} {h : HD} (g : h.good M) (hM : M ≤ M') : h.good M' := ⟨g.1, ⟨g.2.1.1, by have := g.2.1.2; omega⟩, g.2.2⟩

theorem good_setQ {M : Int} {h : HD} (g : h.good M) (k : Nat) {q : QD} (hq : q.good) : (h.setQ k q).good M := by
  refine ⟨by simpa [HD.setQ] using g.1, g.2.1, fun x hx => ?_⟩
  rcases List.mem_or_eq_of_mem_set hx with hx | rfl
  · exact g.2.2 x hx
  · exact hq

theorem good_aside {M : Int} {h : HD} (g : h.good M) (k : Nat) {n : ND} (hn : n.small) : (asideF h k n).1.good (M + 1) := by
  unfold asideF
  split
  · exact g.mono (by omega)
  · split
    · exact g.mono (by omega)
    · split
      · exact g.mono (by omega)
      · rename_i j hj hne _ q hq
        have hmem : q ∈ h.queues := List.mem_of_getElem? hq
        have gq := g.2.2 q hmem
        unfold putF
        split
        · exact g.mono (by omega)
        · rename_i hl
          have := good_setQ (q := ⟨q.name, q.limit, q.items ++ [newI h.next n]⟩) g j ⟨gq.1, by have h1 := gq.1; simp; omega, fun i hi => by
            rw [List.mem_append, List.mem_singleton] at hi
            rcases hi with hi | rfl
            · exact gq.2.2 i hi
            · exact ⟨hn, ⟨by simp [newI], by simp [newI]⟩, by simp [newI]⟩⟩
          exact ⟨this.1, ⟨by have := g.2.1.1; simp; omega, by have := g.2.1.2; simp; omega⟩, this.2.2⟩

theorem good_back {M : Int} {h : HD} (g : h.good M) (k : Nat) {q : QD} (hq : q ∈ h.queues) (id turn : Int) : (backF h k q id turn).1.good (M + 1) := by
  have gq := g.2.2 q hq
  unfold backF
  split
  · exact g.mono (by omega)
  · split
    · exact g.mono (by omega)
    · rename_i i hi _ it hit
      have hmem : it ∈ q.items := List.mem_of_getElem? hit
      have gi := gq.2.2 it hmem
      have hil : i < q.items.length := (List.getElem?_eq_some_iff.1 hit).1
      split
      · rename_i ht
        refine (good_setQ (q := ⟨q.name, q.limit, q.items.set i (backI it)⟩) g k ⟨gq.1, by simpa using gq.2.1, fun x hx => ?_⟩).mono (by omega)
        rcases List.mem_or_eq_of_mem_set hx with hx | rfl
        · exact gq.2.2 x hx
        · refine ⟨gi.1, ⟨gi.2.1.1, ?_⟩, by have : (backI it).tries < 3 := ht; omega⟩
          have h1 := gi.2.1.2
          simp [backI] at ht ⊢
          omega
      · refine good_aside (good_setQ (q := ⟨q.name, q.limit, q.items.eraseIdx i⟩) g k ⟨gq.1, ?_, fun x hx => gq.2.2 x (List.mem_of_mem_eraseIdx hx)⟩) k gi.1
        have := List.length_eraseIdx_le q.items i
        exact Nat.le_trans this gq.2.1

/-- How many items of a queue are given. -/
def outs (h : HD) (k : Nat) : Nat := match h.queues[k]? with
  | none => 0
  | some q => (q.items.filter IT.out).length

theorem aside_at (h : HD) (k : Nat) (n : ND) : (asideF h k n).1.queues[k]? = h.queues[k]? ∧ (asideF h k n).1.queues.length = h.queues.length := by
  unfold asideF
  split
  · exact ⟨rfl, rfl⟩
  · split
    · exact ⟨rfl, rfl⟩
    · split
      · exact ⟨rfl, rfl⟩
      · unfold putF
        split
        · exact ⟨rfl, rfl⟩
        · rename_i hne _ _ _ _
          exact ⟨by simp [List.getElem?_set, hne], by simp⟩

theorem back_len (h : HD) (k : Nat) (q : QD) (id turn : Int) : (backF h k q id turn).1.queues.length = h.queues.length := by
  unfold backF
  split
  · rfl
  · split
    · rfl
    · split
      · simp [HD.setQ]
      · simp only [(aside_at _ _ _).2]; simp [HD.setQ]

theorem outs_erase {its : List IT} {i : Nat} (hi : i < its.length) (ho : its[i].out = true) : ((its.eraseIdx i).filter IT.out).length + 1 = (its.filter IT.out).length := by
  have e : its = its.take i ++ its[i] :: its.drop (i + 1) := by rw [List.getElem_cons_drop, List.take_append_drop]
  have e2 : its.eraseIdx i = its.take i ++ its.drop (i + 1) := List.eraseIdx_eq_take_drop_succ _ _
  rw [e2]
  conv => rhs; rw [e]
  simp only [List.filter_append, List.length_append, List.filter_cons, ho, if_true, List.length_cons]
  omega
theorem outs_set {its : List IT} {i : Nat} (hi : i < its.length) (ho : its[i].out = true) {x : IT} (hx : x.out = false) : ((its.set i x).filter IT.out).length + 1 = (its.filter IT.out).length := by
  have e : its = its.take i ++ its[i] :: its.drop (i + 1) := by rw [List.getElem_cons_drop, List.take_append_drop]
  have e2 : its.set i x = its.take i ++ x :: its.drop (i + 1) := by rw [List.set_eq_take_append_cons_drop, if_pos hi]
  rw [e2]
  conv => rhs; rw [e]
  simp only [List.filter_append, List.length_append, List.filter_cons, ho, hx, if_true, List.length_cons]
  simp
  omega

theorem given_isOut {id turn : Int} {x : IT} (h : givenB id turn x = true) : x.out = true := by
  unfold givenB at h
  simp at h
  exact h.1.1

theorem outs_back {h : HD} {k : Nat} {q : QD} (hq : h.queues[k]? = some q) {id turn : Int} {i : Nat} (hi : q.items.findIdx? (givenB id turn) = some i) : outs (backF h k q id turn).1 k + 1 = outs h k := by
  have hk : k < h.queues.length := (List.getElem?_eq_some_iff.1 hq).1
  obtain ⟨hil, hg, -⟩ := List.findIdx?_eq_some_iff_getElem.1 hi
  have ho := given_isOut hg
  have e1 : outs h k = (q.items.filter IT.out).length := by simp [outs, hq]
  have e0 : q.items[i]? = some q.items[i] := List.getElem?_eq_getElem hil
  rw [e1]
  unfold backF
  rw [hi]
  simp only [e0]
  split
  · rw [← outs_set hil ho (x := backI q.items[i]) rfl]
    simp [outs, HD.setQ, hk]
  · rw [← outs_erase hil ho]
    simp only [outs, (aside_at _ _ _).1]
    simp [HD.setQ, hk]

/-- All late items of a queue come back. -/
def lateF (now : Int) (k : Nat) : Nat → HD → HD × List ED
  | 0, h => (h, [])
  | n + 1, h => match h.queues[k]? with
    | none => (h, [])
    | some q => match q.items.findIdx? (lateB now) with
      | none => (h, [])
      | some i => match q.items[i]? with
        | none => (h, [])
        | some it => ((lateF now k n (backF h k q it.id it.turn).1).1, (backF h k q it.id it.turn).2.1 ++ (lateF now k n (backF h k q it.id it.turn).1).2)

theorem lateF_none {now : Int} {k n : Nat} {h : HD} {q : QD} (hq : h.queues[k]? = some q) (hi : idxI (lateB now) q.items = -1) : lateF now k n h = (h, []) := by
  cases n with
  | zero => rfl
  | succ n => simp [lateF, hq, idxI_none' hi]
theorem lateF_some {now : Int} {k n : Nat} {h : HD} {q : QD} {i : Nat} (hq : h.queues[k]? = some q) (hi : idxI (lateB now) q.items = (i : Int)) (hil : i < q.items.length) : lateF now k (n + 1) h = ((lateF now k n (backF h k q q.items[i].id q.items[i].turn).1).1, (backF h k q q.items[i].id q.items[i].turn).2.1 ++ (lateF now k n (backF h k q q.items[i].id q.items[i].turn).1).2) := by
  simp [lateF, hq, idxI_some hi, hil]

theorem late_given {now : Int} {q : QD} {i : Nat} (hi : idxI (lateB now) q.items = (i : Int)) (hil : i < q.items.length) : ∃ j, q.items.findIdx? (givenB q.items[i].id q.items[i].turn) = some j := by
  obtain ⟨_, hl, -⟩ := List.findIdx?_eq_some_iff_getElem.1 (idxI_some hi)
  cases hf : q.items.findIdx? (givenB q.items[i].id q.items[i].turn) with
  | some j => exact ⟨j, rfl⟩
  | none =>
    rw [List.findIdx?_eq_none_iff] at hf
    have := hf _ (List.getElem_mem hil)
    have ho : q.items[i].out = true := by simp [lateB] at hl; exact hl.1
    simp [givenB, ho] at this

theorem late_outs {now : Int} {h : HD} {k : Nat} {q : QD} {i : Nat} (hq : h.queues[k]? = some q) (hi : idxI (lateB now) q.items = (i : Int)) (hil : i < q.items.length) : outs (backF h k q q.items[i].id q.items[i].turn).1 k + 1 = outs h k := by
  obtain ⟨j, hj⟩ := late_given hi hil
  exact outs_back hq hj

theorem lateF_good {now : Int} {k : Nat} : ∀ (n : Nat) {M : Int} {h : HD}, h.good M → (lateF now k n h).1.good (M + n) ∧ (lateF now k n h).1.queues.length = h.queues.length
  | 0, M, h, g => ⟨by simpa [lateF] using g, rfl⟩
  | n + 1, M, h, g => by
    have weak : h.good (M + ((n + 1 : Nat) : Int)) := g.mono (by omega)
    unfold lateF
    split
    · exact ⟨weak, rfl⟩
    · split
      · exact ⟨weak, rfl⟩
      · split
        · exact ⟨weak, rfl⟩
        · rename_i q hq _ i hi _ it hit
          have g2 := good_back g k (List.mem_of_getElem? hq) it.id it.turn
          have := lateF_good (now := now) (k := k) n g2
          refine ⟨this.1.mono (by omega), this.2.trans (back_len _ _ _ _ _)⟩

/-- All late items of all queues from the k-th on come back. -/
def tickF (now : Int) : Nat → Nat → HD → HD × List ED
  | 0, _, h => (h, [])
  | m + 1, k, h => ((tickF now m (k + 1) (lateF now k (outs h k) h).1).1, (lateF now k (outs h k) h).2 ++ (tickF now m (k + 1) (lateF now k (outs h k) h).1).2)

theorem outs_le {M : Int} {h : HD} (g : h.good M) (k : Nat) : outs h k ≤ 8 := by
  unfold outs
  split
  · omega
  · rename_i q hq
    have := (g.2.2 q (List.mem_of_getElem? hq)).2.1
    have h2 := List.length_filter_le IT.out q.items
    omega
end Go.Proofs.Ytpehkoompadpaaa
