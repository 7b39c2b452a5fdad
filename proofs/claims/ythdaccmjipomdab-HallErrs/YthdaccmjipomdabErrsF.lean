/-
  What is refused changes nothing else: in plain terms.
-/
import Derived.Test.YthdaccmjipomdabRightH
import Derived.Test.YthdaccmjipomdabFaceG
import Derived.Test.YthdaccmjipomdabFaceM
namespace Go.Proofs.Ythdaccmjipomdab
open Go.RowKit
set_option linter.unusedVariables false
set_option linter.unusedSimpArgs false

/-- This queue is there, and no other of its name. -/
def Only (qs : List QD) (q : QD) : Prop := q ∈ qs ∧ ∀ x ∈ qs, x.name = q.name → x = q

theorem Only.find {qs : List QD} {q : QD} (h : Only qs q) : ∃ j, ∃ hj : j < qs.length, idxQ q.name qs = (j : Int) ∧ qs[j] = q := by
  rcases idxQ_cases q.name qs with ⟨-, hn⟩ | ⟨k, hk, e, hn, -⟩
  · have := hn q h.1
    rw [nameB_self] at this
    cases this
  · exact ⟨k, hk, e, h.2 _ (List.getElem_mem hk) hn⟩
theorem Only.set {qs : List QD} {q q' : QD} (h : Only qs q) (k : Nat) (hk : k < qs.length) (hn : qs[k].name ≠ q.name) (hq : q'.name = qs[k].name) : Only (qs.set k q') q := by
  refine ⟨?_, fun x hx e => ?_⟩
  · obtain ⟨i, hi, e⟩ := List.getElem_of_mem h.1
    have hik : k ≠ i := by rintro rfl; exact hn (by rw [e])
    have : (qs.set k q')[i]'(by simpa using hi) = q := by rw [List.getElem_set_ne hik, e]
    rw [← this]; exact List.getElem_mem _
  · rcases List.mem_or_eq_of_mem_set hx with hx | rfl
    · exact h.2 x hx e
    · exact absurd (hq.symm.trans e) hn
theorem Only.erase {qs : List QD} {q : QD} (h : Only qs q) (k : Nat) (hk : k < qs.length) (hn : qs[k].name ≠ q.name) : Only (qs.eraseIdx k) q := by
  refine ⟨?_, fun x hx e => h.2 x (List.mem_of_mem_eraseIdx hx) e⟩
  obtain ⟨i, hi, e⟩ := List.getElem_of_mem h.1
  rw [List.mem_eraseIdx_iff_getElem]
  exact ⟨i, hi, by rintro rfl; exact hn (by rw [e]), e⟩

/-- Nothing else is changed. -/
def FineR (h : HD) (of : ByteArray) (r : HD × List ED × Int) : Prop :=
  (r.2.2 ≠ 0 → r.1.queues = [] ∧ r.2.1 = []) ∧ (r.2.2 = 0 → ∀ q ∈ h.queues, q.name ≠ of → q.name ≠ deadN → Only r.1.queues q)

theorem HD.sound.only {h : HD} (s : h.sound) {q : QD} (hq : q ∈ h.queues) : Only h.queues q := by
  refine ⟨hq, fun x hx e => ?_⟩
  obtain ⟨a, ha, rfl⟩ := List.getElem_of_mem hx
  obtain ⟨b, hb, rfl⟩ := List.getElem_of_mem hq
  have h1 := (s.2.2 a ha).2
  have h2 := (s.2.2 b hb).2
  rw [e, h2] at h1
  have : b = a := by omega
  subst this; rfl

theorem FineR.refuse (h : HD) (of : ByteArray) (n : Int) (hn : n ≠ 0) : FineR h of (refuse n) := ⟨fun _ => ⟨rfl, rfl⟩, fun e => absurd e hn⟩

theorem fine_face {h : HD} (of : ByteArray) (f : Nat → QD → HD × List ED × Int) (hf : ∀ k (hk : k < h.queues.length), h.queues[k].name = of → (f k h.queues[k]).2.2 = 0 → ∀ q ∈ h.queues, q.name ≠ of → q.name ≠ deadN → Only (f k h.queues[k]).1.queues q) : FineR h of (faceF h of f) := by
  rcases idxQ_cases of h.queues with ⟨hd, -⟩ | ⟨k, hk, hd, hn, -⟩
  · rw [faceF_none hd]; exact FineR.refuse _ _ _ (by decide)
  · rw [faceF_some hd hk]
    unfold failF
    by_cases h0 : (f k h.queues[k]).2.2 = 0
    · rw [if_pos h0]
      exact ⟨fun e => absurd h0 e, fun _ => hf k hk hn h0⟩
    · rw [if_neg h0]
      exact ⟨fun _ => ⟨rfl, rfl⟩, fun e => absurd e h0⟩

theorem fine_put {h : HD} (s : h.sound) (of : ByteArray) (n : ND) : FineR h of (hallPutF h of n) := by
  unfold hallPutF
  by_cases hw : n.wrong = 0
  · rw [if_pos hw]
    refine fine_face of _ fun k hk hn h0 q hq h1 h2 => ?_
    unfold putF at h0 ⊢
    by_cases hl : h.queues[k].limit ≤ (h.queues[k].items.length : Int)
    · rw [if_pos hl] at h0; simp at h0
    · rw [if_neg hl]
      exact (s.only hq).set k hk (by rw [hn]; exact fun e => h1 e.symm) rfl
  · rw [if_neg hw]; exact FineR.refuse _ _ _ hw

theorem fine_done {h : HD} (s : h.sound) (of : ByteArray) (id turn : Int) : FineR h of (faceF h of fun k q => doneF h k q id turn) := by
  refine fine_face of _ fun k hk hn h0 q hq h1 h2 => ?_
  simp only [doneF] at h0 ⊢
  cases hi : h.queues[k].items.findIdx? (givenB id turn) with
  | none => rw [hi] at h0; simp at h0
  | some i => exact (s.only hq).set k hk (by rw [hn]; exact fun e => h1 e.symm) rfl

theorem fine_purge {h : HD} (s : h.sound) (of : ByteArray) : FineR h of (faceF h of fun k q => purgeF h k q) :=
  fine_face of _ fun k hk hn h0 q hq h1 h2 => (s.only hq).set k hk (by rw [hn]; exact fun e => h1 e.symm) rfl

theorem fine_drop {h : HD} (s : h.sound) (of : ByteArray) : FineR h of (faceF h of fun k q => dropF h k q) :=
  fine_face of _ fun k hk hn h0 q hq h1 h2 => (s.only hq).erase k hk (by rw [hn]; exact fun e => h1 e.symm)

theorem Only.aside {h : HD} {q : QD} (ho : Only h.queues q) (k : Nat) (n : ND) (h2 : q.name ≠ deadN) : Only (asideF h k n).1.queues q := by
  unfold asideF
  cases hd : h.queues.findIdx? (nameB deadN) with
  | none => exact ho
  | some j =>
    rw [List.findIdx?_eq_some_iff_getElem] at hd
    obtain ⟨hj, hp, -⟩ := hd
    simp only
    split
    · exact ho
    · rw [List.getElem?_eq_getElem hj]
      simp only [putF]
      split
      · exact ho
      · exact ho.set j hj (by rw [nameB_eq hp]; exact fun e => h2 e.symm) rfl

theorem fine_back {h : HD} (s : h.sound) (of : ByteArray) (id turn : Int) : FineR h of (faceF h of fun k q => backF h k q id turn) := by
  refine fine_face of _ fun k hk hn h0 q hq h1 h2 => ?_
  rcases idxI_cases (givenB id turn) h.queues[k].items with hi | ⟨i, hil, hi, -, -⟩
  · have hi' := idxI_none' hi
    simp [backF, hi'] at h0
  · by_cases ht : (backI h.queues[k].items[i]).tries < 3
    · rw [backF_wait hi hil ht]
      exact (s.only hq).set k hk (by rw [hn]; exact fun e => h1 e.symm) rfl
    · rw [backF_dead hi hil ht]
      refine Only.aside ?_ _ _ h2
      exact (s.only hq).set k hk (by rw [hn]; exact fun e => h1 e.symm) rfl
end Go.Proofs.Ythdaccmjipomdab
