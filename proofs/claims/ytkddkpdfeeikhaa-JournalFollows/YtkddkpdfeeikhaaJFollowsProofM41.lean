/-
  RefTickF; JFollowF: texts laid together.
-/
import Derived.Test.YtkddkpdfeeikhaaJFollowsProofM36
import Derived.Test.YtkddkpdfeeikhaaJFollowsProofM11
import Derived.Test.YtkddkpdfeeikhaaJFollowsProofM40
import Derived.Test.YtkddkpdfeeikhaaJFollowsProofM37
import Derived.Test.YtkddkpdfeeikhaaJFollowsProofM33
import Derived.Test.YtkddkpdfeeikhaaJFollowsProofM22
import Derived.Test.YtkddkpdfeeikhaaFaceM
/-
  What the document's HallTick comes to, plainly: by steps.
-/
namespace Go.Proofs.Ytkddkpdfeeikhaa
open Go.RowKit
set_option linter.unusedVariables false
set_option linter.unusedSimpArgs false

theorem wrongL_zero {ps : List PD} (h : wrongL ps = 0) : ∀ p ∈ ps, p.wrong = 0 := by
  induction ps with
  | nil => simp
  | cons p r ih =>
    unfold wrongL at h
    by_cases hp : p.wrong = 0
    · simp [hp] at h
      intro x hx
      rw [List.mem_cons] at hx
      rcases hx with rfl | hx
      · exact hp
      · exact ih h x hx
    · simp [hp] at h

theorem PD.wrong_fit {p : PD} (h : p.wrong = 0) : p.fitN := by
  unfold PD.wrong wrongP at h
  have hk : keyB p.key = true := by
    cases hb : keyB p.key
    · simp [hb] at h
    · rfl
  simp only [hk, Bool.not_true] at h
  have h8 : p.key.size ≤ 8 := by
    unfold keyB at hk
    simp at hk
    omega
  refine ⟨by unfold maxLen; omega, ?_⟩
  by_cases hb : kindB p.kind = true
  · simp only [hb, Bool.not_true] at h
    by_cases hr : rangeB p.kind p.n = true
    · simp only [hr, Bool.not_true] at h
      by_cases h2 : p.kind = 2
      · by_cases h12 : 12 < p.text.size
        · simp [h2, h12] at h
        · unfold maxLen; omega
      · have hk2 : (p.kind == 2) = false := by simpa using h2
        simp only [hk2, Bool.false_and] at h
        by_cases hs : strayB p.kind p.n p.text = true
        · simp [hs] at h
        · simp only [strayB, hk2, Bool.not_eq_true] at hs
          simp at hs
          have h0 : p.text.toList.length = 0 := by rw [hs]; rfl
          rw [ByteArray.toList_eq, Array.length_toList] at h0
          have : p.text.size = 0 := h0
          unfold maxLen; omega
    · simp [hr] at h
  · simp [hb] at h

theorem ND.wrong_fit {n : ND} (h : n.wrong = 0) : n.fitN := by
  unfold ND.wrong wrongN at h
  have hl : wrongL n.props = 0 := by
    by_cases h4 : 4 < n.props.length
    · simp [h4] at h
    · by_cases hw : wrongL n.props = 0
      · exact hw
      · simp [h4, hw] at h
  exact fun p hp => PD.wrong_fit (wrongL_zero hl p hp)

/-- A hall of right notes, of these names. -/
structure HD.tok (M : Int) (ns : List ByteArray) (h : HD) : Prop where
  good : h.good M
  right : ∀ q ∈ h.queues, ∀ i ∈ q.items, i.note.wrong = 0
  names : h.queues.map QD.name = ns

theorem idxQ_names {a b : List QD} (h : a.map QD.name = b.map QD.name) (name : ByteArray) : idxQ name a = idxQ name b := by
  have e : a.findIdx? (nameB name) = b.findIdx? (nameB name) := by
    have : ∀ l : List QD, l.findIdx? (nameB name) = (l.map QD.name).findIdx? (fun s => s.toList == name.toList) := fun l => by
      rw [List.findIdx?_map]; rfl
    rw [this a, this b, h]
  unfold idxQ
  rw [e]

theorem tok_set {M : Int} {ns : List ByteArray} {h : HD} (t : h.tok M ns) (k : Nat) {q q' : QD} (hq : h.queues[k]? = some q) (hg : q'.good) (hr : ∀ i ∈ q'.items, i.note.wrong = 0) (hn : q'.name = q.name) : (h.setQ k q').tok M ns := by
  refine ⟨good_setQ t.good k hg, fun x hx => ?_, ?_⟩
  · rcases List.mem_or_eq_of_mem_set hx with hx | rfl
    · exact t.right x hx
    · exact hr
  · rw [← t.names]
    unfold HD.setQ
    simp only [List.map_set, hn]
    obtain ⟨hk, rfl⟩ := List.getElem?_eq_some_iff.1 hq
    apply List.ext_getElem (by simp)
    intro i h1 h2
    rw [List.getElem_set]
    split
    · rename_i e; subst e; simp
    · rfl

theorem aside_right {h : HD} {k : Nat} {n : ND} (hr : ∀ q ∈ h.queues, ∀ i ∈ q.items, i.note.wrong = 0) (hn : n.wrong = 0) : (∀ q ∈ (asideF h k n).1.queues, ∀ i ∈ q.items, i.note.wrong = 0) ∧ (asideF h k n).1.queues.map QD.name = h.queues.map QD.name := by
  unfold asideF
  split
  · exact ⟨hr, rfl⟩
  · split
    · exact ⟨hr, rfl⟩
    · split
      · exact ⟨hr, rfl⟩
      · rename_i j hj hne _ q hq
        unfold putF
        split
        · exact ⟨hr, rfl⟩
        · obtain ⟨hk, rfl⟩ := List.getElem?_eq_some_iff.1 hq
          refine ⟨fun x hx => ?_, ?_⟩
          · rcases List.mem_or_eq_of_mem_set hx with hx | rfl
            · exact hr x hx
            · intro i hi
              rw [List.mem_append, List.mem_singleton] at hi
              rcases hi with hi | rfl
              · exact hr _ (List.getElem_mem hk) i hi
              · exact hn
          · apply List.ext_getElem (by simp)
            intro i h1 h2
            simp only [List.getElem_map, List.getElem_set]
            split
            · rename_i e; subst e; simp
            · rfl

theorem back_tok {M : Int} {ns : List ByteArray} {h : HD} (t : h.tok M ns) (k : Nat) {q : QD} (hq : h.queues[k]? = some q) (id turn : Int) : (backF h k q id turn).1.tok (M + 1) ns := by
  have hmem : q ∈ h.queues := List.mem_of_getElem? hq
  have hr := t.right q hmem
  refine ⟨good_back t.good k hmem id turn, ?_, ?_⟩
  · unfold backF
    split
    · exact t.right
    · split
      · exact t.right
      · rename_i i hi _ it hit
        have him : it ∈ q.items := List.mem_of_getElem? hit
        split
        · intro x hx
          rcases List.mem_or_eq_of_mem_set hx with hx | rfl
          · exact t.right x hx
          · intro y hy
            rcases List.mem_or_eq_of_mem_set hy with hy | rfl
            · exact hr y hy
            · exact hr it him
        · refine (aside_right (fun x hx => ?_) (hr it him)).1
          rcases List.mem_or_eq_of_mem_set hx with hx | rfl
          · exact t.right x hx
          · exact fun y hy => hr y (List.mem_of_mem_eraseIdx hy)
  · have hset : ∀ its, (h.setQ k ⟨q.name, q.limit, its⟩).queues.map QD.name = ns := fun its => by
      rw [← t.names]
      obtain ⟨hk, rfl⟩ := List.getElem?_eq_some_iff.1 hq
      unfold HD.setQ
      apply List.ext_getElem (by simp)
      intro i h1 h2
      simp only [List.getElem_map, List.getElem_set]
      split
      · rename_i e; subst e; simp
      · rfl
    unfold backF
    split
    · exact t.names
    · split
      · exact t.names
      · rename_i i hi _ it hit
        have him : it ∈ q.items := List.mem_of_getElem? hit
        split
        · exact hset _
        · refine Eq.trans (aside_right (h := h.setQ k ⟨q.name, q.limit, q.items.eraseIdx i⟩) (k := k) (n := it.note) (fun x hx => ?_) (hr it him)).2 (hset _)
          rcases List.mem_or_eq_of_mem_set hx with hx | rfl
          · exact t.right x hx
          · exact fun y hy => hr y (List.mem_of_mem_eraseIdx hy)

/-- How much is left to do. -/
def leftN (n k : Nat) (h : HD) : Nat := (n - k) * 9 + outs h k

theorem tick_skip {now : Int} {n k : Nat} {h : HD} {q : QD} (hk : k < n) (hq : h.queues[k]? = some q) (hi : idxI (lateB now) q.items = -1) : tickF now (n - k) k h = tickF now (n - (k + 1)) (k + 1) h := by
  obtain ⟨m, hm⟩ : ∃ m, n - k = m + 1 := ⟨n - k - 1, by omega⟩
  rw [hm, show n - (k + 1) = m by omega]
  simp only [tickF, lateF_none hq hi, List.nil_append]
theorem tick_back {now : Int} {n k : Nat} {h : HD} {q : QD} {i : Nat} (hk : k < n) (hq : h.queues[k]? = some q) (hi : idxI (lateB now) q.items = (i : Int)) (hil : i < q.items.length) :
    (tickF now (n - k) k h).1 = (tickF now (n - k) k (backF h k q q.items[i].id q.items[i].turn).1).1 ∧ (tickF now (n - k) k h).2 = (backF h k q q.items[i].id q.items[i].turn).2.1 ++ (tickF now (n - k) k (backF h k q q.items[i].id q.items[i].turn).1).2 := by
  obtain ⟨m, hm⟩ : ∃ m, n - k = m + 1 := ⟨n - k - 1, by omega⟩
  rw [hm]
  have ho := late_outs hq hi hil
  simp only [tickF, ← ho, lateF_some hq hi hil, List.append_assoc]
  exact ⟨trivial, trivial⟩
theorem left_skip {M : Int} {n k : Nat} {h : HD} (g : h.good M) (hk : k < n) : leftN n (k + 1) h < leftN n k h := by
  have := outs_le g (k + 1)
  unfold leftN
  omega
theorem left_back {now : Int} {n k : Nat} {h : HD} {q : QD} {i : Nat} (hq : h.queues[k]? = some q) (hi : idxI (lateB now) q.items = (i : Int)) (hil : i < q.items.length) : leftN n k (backF h k q q.items[i].id q.items[i].turn).1 + 1 = leftN n k h := by
  have := late_outs hq hi hil
  unfold leftN
  omega
theorem left_le {M : Int} {n k : Nat} {h : HD} (g : h.good M) (hn : n ≤ 4) : leftN n k h ≤ 44 := by
  have := outs_le g k
  unfold leftN
  omega
theorem back_ok {now : Int} {h : HD} {k : Nat} {q : QD} {i : Nat} (hi : idxI (lateB now) q.items = (i : Int)) (hil : i < q.items.length) : (backF h k q q.items[i].id q.items[i].turn).2.2 = 0 := by
  obtain ⟨j, hj⟩ := late_given hi hil
  obtain ⟨hjl, -, -⟩ := List.findIdx?_eq_some_iff_getElem.1 hj
  unfold backF
  rw [hj]
  simp only [List.getElem?_eq_getElem hjl]
  split <;> rfl
end Go.Proofs.Ytkddkpdfeeikhaa

/-
  What the entries tell of a step is what the step has done: behind them the plain hall is the plain one of the hall that the step made. Plain lists.
-/
namespace Go.Proofs.Ytkddkpdfeeikhaa
open Go.RowKit
set_option linter.unusedVariables false
set_option linter.unusedSimpArgs false

/-- The plain hall. -/
def plainH (h : HD) : HD := ⟨h.queues.map plainQ, h.next⟩
/-- The entries make the plain h the plain h'. -/
def Fol (h h' : HD) (es : List ED) : Prop := es.foldl applyF (plainH h) = plainH h'

theorem Fol.nil (h : HD) : Fol h h [] := rfl
theorem Fol.trans {a b c : HD} {es fs : List ED} (h1 : Fol a b es) (h2 : Fol b c fs) : Fol a c (es ++ fs) := by
  unfold Fol at *
  rw [List.foldl_append, h1, h2]

theorem find_names {a b : List QD} (h : a.map QD.name = b.map QD.name) (name : ByteArray) : a.findIdx? (nameB name) = b.findIdx? (nameB name) := by
  have : ∀ l : List QD, l.findIdx? (nameB name) = (l.map QD.name).findIdx? (fun s => s.toList == name.toList) := fun l => by
    rw [List.findIdx?_map]; rfl
  rw [this a, this b, h]
theorem plain_names (qs : List QD) : (qs.map plainQ).map QD.name = qs.map QD.name := by
  rw [List.map_map]; rfl

/-- Each name is its queue's own, and so is each number. -/
structure HD.reg (h : HD) : Prop where
  uniq : ∀ k (hk : k < h.queues.length), h.queues.findIdx? (nameB h.queues[k].name) = some k
  ids : ∀ q ∈ h.queues, q.items.Pairwise (fun a b => a.id ≠ b.id) ∧ ∀ i ∈ q.items, 0 ≤ i.id ∧ i.id < h.next

theorem set_names {qs : List QD} {k : Nat} (hk : k < qs.length) {q : QD} (hn : q.name = qs[k].name) : (qs.set k q).map QD.name = qs.map QD.name := by
  apply List.ext_getElem (by simp)
  intro i h1 h2
  simp only [List.getElem_map, List.getElem_set]
  split
  · rename_i e; subst e; exact hn
  · rfl
theorem reg_set {h : HD} (r : h.reg) {k : Nat} (hk : k < h.queues.length) {q : QD} (hn : q.name = h.queues[k].name) {nx : Int} (hnx : h.next ≤ nx) (hq : q.items.Pairwise (fun a b => a.id ≠ b.id) ∧ ∀ i ∈ q.items, 0 ≤ i.id ∧ i.id < nx) : (HD.mk (h.queues.set k q) nx).reg := by
  have hs := set_names hk hn
  refine ⟨fun j hj => ?_, fun x hx => ?_⟩
  · simp only at hj ⊢
    rw [find_names hs]
    have hj' : j < h.queues.length := by simpa using hj
    have : (h.queues.set k q)[j].name = h.queues[j].name := by
      have := congrArg (fun l => l[j]?) hs
      simp only [List.getElem?_map, List.getElem?_eq_getElem hj, List.getElem?_eq_getElem hj', Option.map_some, Option.some.injEq] at this
      exact this
    rw [this]
    exact r.uniq j hj'
  · rcases List.mem_or_eq_of_mem_set hx with hx | rfl
    · exact ⟨(r.ids x hx).1, fun i hi => ⟨((r.ids x hx).2 i hi).1, by have := ((r.ids x hx).2 i hi).2; simp only; omega⟩⟩
    · exact hq

theorem reg_items {h : HD} (r : h.reg) {k : Nat} (hk : k < h.queues.length) (its : List IT) {nx : Int} (hnx : h.next ≤ nx) (hq : its.Pairwise (fun a b => a.id ≠ b.id) ∧ ∀ i ∈ its, 0 ≤ i.id ∧ i.id < nx) : (HD.mk (h.queues.set k ⟨h.queues[k].name, h.queues[k].limit, its⟩) nx).reg :=
  reg_set (q := ⟨h.queues[k].name, h.queues[k].limit, its⟩) r hk rfl hnx hq

/-- The filter of what is gone is the list without it. -/
theorem erase_filter : ∀ (l : List IT) (i : Nat) (hi : i < l.length), l.Pairwise (fun a b => a.id ≠ b.id) → l.eraseIdx i = l.filter (fun x => !idB l[i].id x) := by
  intro l
  induction l with
  | nil => intro i hi; simp at hi
  | cons a l ih =>
    intro i hi hp
    rw [List.pairwise_cons] at hp
    cases i with
    | zero =>
      have h1 : (idB a.id a) = true := by simp [idB]
      simp only [List.eraseIdx_cons_zero, List.getElem_cons_zero]
      rw [List.filter_cons]
      simp only [h1, Bool.not_true, Bool.false_eq_true, if_false]
      symm
      rw [List.filter_eq_self]
      intro x hx
      have := hp.1 x hx
      simp only [idB, Bool.not_eq_true', beq_eq_false_iff_ne]
      exact fun e => this e.symm
    | succ i =>
      have hi' : i < l.length := by simpa using hi
      have h1 : idB l[i].id a = false := by
        simp only [idB, beq_eq_false_iff_ne]
        exact hp.1 _ (List.getElem_mem hi')
      simp only [List.eraseIdx_cons_succ, List.getElem_cons_succ]
      rw [List.filter_cons]
      simp only [h1, Bool.not_false, if_true]
      rw [ih i hi' hp.2]

theorem map_filter_plain (l : List IT) (id : Int) : (l.map plainI).filter (fun i => !idB id i) = (l.filter (fun i => !idB id i)).map plainI := by
  rw [List.filter_map]; rfl

section
variable {h : HD} {k : Nat}

theorem find_plain (r : h.reg) (hk : k < h.queues.length) : (plainH h).queues.findIdx? (nameB h.queues[k].name) = some k := by
  have : (plainH h).queues.map QD.name = h.queues.map QD.name := plain_names _
  rw [find_names this]
  exact r.uniq k hk

theorem plain_gone (r : h.reg) (hk : k < h.queues.length) (id : Int) (its : List IT) (he : its.map plainI = (h.queues[k].items.map plainI).filter (fun i => !idB id i)) : applyF (plainH h) (goneE h.queues[k].name id) = plainH (h.setQ k ⟨h.queues[k].name, h.queues[k].limit, its⟩) := by
  have hk' : k < (plainH h).queues.length := by simpa [plainH] using hk
  rw [applyF_some hk' (find_plain r hk)]
  simp only [goneE, show ¬ (4 : Int) = 2 by omega, show ¬ (4 : Int) = 3 by omega, if_false, if_true]
  have hg : (plainH h).queues[k] = plainQ h.queues[k] := by simp [plainH]
  rw [hg]
  simp only [plainQ, ← he]
  simp only [plainH, HD.setQ, List.map_set, plainQ]

theorem plain_put (r : h.reg) (hk : k < h.queues.length) (n : ND) (h0 : 0 ≤ h.next) : applyF (plainH h) (putE h.queues[k].name h.next n) = plainH ⟨h.queues.set k ⟨h.queues[k].name, h.queues[k].limit, h.queues[k].items ++ [newI h.next n]⟩, h.next + 1⟩ := by
  have hk' : k < (plainH h).queues.length := by simpa [plainH] using hk
  rw [applyF_some hk' (find_plain r hk)]
  simp only [putE, show ¬ (3 : Int) = 2 by omega, if_false, if_true]
  have hg : (plainH h).queues[k] = plainQ h.queues[k] := by simp [plainH]
  have hm : max (plainH h).next (h.next + 1) = h.next + 1 := by simp only [plainH]; omega
  rw [hg, hm]
  simp only [plainH, List.map_set, plainQ, List.map_append, List.map_cons, List.map_nil]
  rfl

theorem same_set (hk : k < h.queues.length) {its : List IT} (he : its.map plainI = h.queues[k].items.map plainI) : plainH (h.setQ k ⟨h.queues[k].name, h.queues[k].limit, its⟩) = plainH h := by
  simp only [plainH, HD.setQ, List.map_set, plainQ, he]
  congr 1
  apply List.ext_getElem (by simp)
  intro i h1 h2
  rw [List.getElem_set]
  split
  · rename_i e; subst e; simp [plainQ]
  · rfl

theorem fol_put (r : h.reg) (hk : k < h.queues.length) (n : ND) (h0 : 0 ≤ h.next) : Fol h (putF h k h.queues[k] n).1 (putF h k h.queues[k] n).2.1 ∧ (putF h k h.queues[k] n).1.reg := by
  unfold putF
  split
  · exact ⟨Fol.nil _, r⟩
  · refine ⟨?_, reg_items r hk _ (nx := h.next + 1) (by omega) ⟨?_, fun i hi => ?_⟩⟩
    · unfold Fol
      simp only [List.foldl_cons, List.foldl_nil]
      exact plain_put r hk n h0
    · rw [List.pairwise_append]
      refine ⟨(r.ids _ (List.getElem_mem hk)).1, by simp, fun a ha b hb => ?_⟩
      rw [List.mem_singleton] at hb
      subst hb
      have := ((r.ids _ (List.getElem_mem hk)).2 a ha).2
      simp only [newI]
      omega
    · rw [List.mem_append, List.mem_singleton] at hi
      rcases hi with hi | rfl
      · have := (r.ids _ (List.getElem_mem hk)).2 i hi
        exact ⟨this.1, by omega⟩
      · simp only [newI]; omega
end

theorem put_len (h : HD) (k : Nat) (q : QD) (n : ND) : (putF h k q n).2.1.length ≤ 1 := by
  unfold putF; split <;> simp

theorem fol_aside {h : HD} (r : h.reg) (h0 : 0 ≤ h.next) (k : Nat) (n : ND) : Fol h (asideF h k n).1 (asideF h k n).2 ∧ (asideF h k n).1.reg := by
  unfold asideF
  split
  · exact ⟨Fol.nil _, r⟩
  · split
    · exact ⟨Fol.nil _, r⟩
    · split
      · exact ⟨Fol.nil _, r⟩
      · rename_i j hj hne _ q hq
        obtain ⟨hk, rfl⟩ := List.getElem?_eq_some_iff.1 hq
        exact fol_put r hk n h0

theorem given_at {its : List IT} {id turn : Int} {i : Nat} (h : its.findIdx? (givenB id turn) = some i) : ∃ hi : i < its.length, its[i].id = id := by
  obtain ⟨hi, hg, -⟩ := List.findIdx?_eq_some_iff_getElem.1 h
  simp [givenB] at hg
  exact ⟨hi, hg.1.2⟩

theorem pair_erase {l : List IT} (h : l.Pairwise (fun a b => a.id ≠ b.id)) (i : Nat) : (l.eraseIdx i).Pairwise (fun a b => a.id ≠ b.id) := h.sublist (List.eraseIdx_sublist _ _)

theorem set_plain {l : List IT} {i : Nat} (hi : i < l.length) : (l.set i (backI l[i])).map plainI = l.map plainI := by
  rw [List.map_set]
  apply List.ext_getElem (by simp)
  intro j h1 h2
  rw [List.getElem_set]
  split
  · rename_i e; subst e; simp [plainI, backI]
  · rfl

theorem fol_erase {h : HD} {k : Nat} (r : h.reg) (hk : k < h.queues.length) {i : Nat} (hi : i < h.queues[k].items.length) {id : Int} (hid : h.queues[k].items[i].id = id) :
    Fol h (h.setQ k ⟨h.queues[k].name, h.queues[k].limit, h.queues[k].items.eraseIdx i⟩) [goneE h.queues[k].name id] ∧ (h.setQ k ⟨h.queues[k].name, h.queues[k].limit, h.queues[k].items.eraseIdx i⟩).reg := by
  have hids := r.ids _ (List.getElem_mem hk)
  refine ⟨?_, reg_items r hk _ (Int.le_refl _) ⟨pair_erase hids.1 i, fun x hx => hids.2 x (List.mem_of_mem_eraseIdx hx)⟩⟩
  unfold Fol
  simp only [List.foldl_cons, List.foldl_nil]
  refine plain_gone r hk id _ ?_
  rw [map_filter_plain, ← hid, ← erase_filter _ i hi hids.1]

theorem fol_back {h : HD} (r : h.reg) (h0 : 0 ≤ h.next) {k : Nat} {q : QD} (hq : h.queues[k]? = some q) (id turn : Int) : Fol h (backF h k q id turn).1 (backF h k q id turn).2.1 ∧ (backF h k q id turn).1.reg := by
  obtain ⟨hk, rfl⟩ := List.getElem?_eq_some_iff.1 hq
  have hids := r.ids _ (List.getElem_mem hk)
  unfold backF
  split
  · exact ⟨Fol.nil _, r⟩
  · rename_i i hi
    obtain ⟨hil, hid⟩ := given_at hi
    rw [List.getElem?_eq_getElem hil]
    simp only
    split
    · refine ⟨?_, reg_items r hk _ (Int.le_refl _) ⟨?_, fun x hx => ?_⟩⟩
      · unfold Fol
        simp only [List.foldl_nil]
        exact (same_set hk (set_plain hil)).symm
      · rw [List.pairwise_iff_getElem] at hids ⊢
        intro a b ha hb hab
        have ha' : a < h.queues[k].items.length := by simpa using ha
        have hb' : b < h.queues[k].items.length := by simpa using hb
        have e : ∀ c (hc : c < (h.queues[k].items.set i (backI h.queues[k].items[i])).length) (hc' : c < h.queues[k].items.length), (h.queues[k].items.set i (backI h.queues[k].items[i]))[c].id = h.queues[k].items[c].id := fun c hc hc' => by
          rw [List.getElem_set]
          split
          · rename_i e; subst e; rfl
          · rfl
        rw [e a ha ha', e b hb hb']
        exact hids.1 a b ha' hb' hab
      · rcases List.mem_or_eq_of_mem_set hx with hx | rfl
        · exact hids.2 x hx
        · have := hids.2 _ (List.getElem_mem hil)
          exact this
    · have e1 := fol_erase r hk hil hid
      have e2 := fol_aside e1.2 (show 0 ≤ (h.setQ k ⟨h.queues[k].name, h.queues[k].limit, h.queues[k].items.eraseIdx i⟩).next from h0) k h.queues[k].items[i].note
      exact ⟨e1.1.trans e2.1, e2.2⟩

theorem back_len2 (h : HD) (k : Nat) (q : QD) (id turn : Int) : (backF h k q id turn).2.1.length ≤ 2 := backF_es h k q id turn

/-- No list longer than c, no name too long, notes that are small. -/
structure HD.cap (c : Nat) (h : HD) : Prop where
  len : h.queues.length ≤ c
  each : ∀ q ∈ h.queues, q.items.length ≤ c ∧ q.name.size ≤ maxLen ∧ ∀ i ∈ q.items, i.note.small

theorem HD.cap.mono {c c' : Nat} {h : HD} (H : h.cap c) (hc : c ≤ c') : h.cap c' := ⟨by have := H.len; omega, fun q hq => ⟨by have := (H.each q hq).1; omega, (H.each q hq).2⟩⟩
theorem HD.cap.plain' {c : Nat} {h : HD} (H : h.cap c) (hc : c ≤ 4194000) : smallQ h.queues ∧ h.fits 4194304 :=
  ⟨⟨by have := H.len; omega, fun q hq => ⟨by have := (H.each q hq).1; omega, (H.each q hq).2.2⟩⟩, ⟨by have := H.len; omega, fun q hq => by have := (H.each q hq).1; omega, fun q hq => (H.each q hq).2.1⟩⟩
theorem HD.cap.plain {h : HD} (H : h.cap 8) : smallQ h.queues ∧ h.fits 4194304 := H.plain' (by omega)
theorem HD.cap.plainH {c : Nat} {h : HD} (H : h.cap c) : (plainH h).cap c := by
  refine ⟨by simpa [Ytkddkpdfeeikhaa.plainH] using H.len, fun q hq => ?_⟩
  simp only [Ytkddkpdfeeikhaa.plainH] at hq
  obtain ⟨p, hp, rfl⟩ := List.mem_map.1 hq
  have := H.each p hp
  refine ⟨by simpa [plainQ] using this.1, this.2.1, fun i hi => ?_⟩
  simp only [plainQ] at hi
  obtain ⟨j, hj, rfl⟩ := List.mem_map.1 hi
  exact this.2.2 j hj
theorem HD.cap.apply {c : Nat} {h : HD} (H : h.cap c) {e : ED} (he : e.fits) : (applyF h e).cap (c + 1) := by
  cases hf : h.queues.findIdx? (nameB e.queue) with
  | none =>
    rw [applyF_none hf]
    split
    · refine ⟨by have := H.len; simp; omega, fun q hq => ?_⟩
      simp only [List.mem_append, List.mem_singleton] at hq
      rcases hq with hq | rfl
      · exact (H.mono (by omega)).each q hq
      · exact ⟨by simp, he.queue, by simp⟩
    · exact H.mono (by omega)
  | some k =>
    obtain ⟨hk, -, -⟩ := List.findIdx?_eq_some_iff_getElem.1 hf
    have hE := H.each _ (List.getElem_mem hk)
    rw [applyF_some hk hf]
    split
    · exact ⟨by have := H.len; rw [List.length_eraseIdx]; split <;> omega, fun q hq => (H.mono (by omega)).each q (List.mem_of_mem_eraseIdx hq)⟩
    · split
      · refine ⟨by have := H.len; simp; omega, fun q hq => ?_⟩
        rcases List.mem_or_eq_of_mem_set hq with hq | rfl
        · exact (H.mono (by omega)).each q hq
        · refine ⟨by have := hE.1; simp; omega, hE.2.1, fun i hi => ?_⟩
          simp only [List.mem_append, List.mem_singleton] at hi
          rcases hi with hi | rfl
          · exact hE.2.2 i hi
          · exact he.note
      · split
        · refine ⟨by have := H.len; simp; omega, fun q hq => ?_⟩
          rcases List.mem_or_eq_of_mem_set hq with hq | rfl
          · exact (H.mono (by omega)).each q hq
          · exact ⟨by have h1 := hE.1; have h2 := List.length_filter_le (fun i : IT => !idB e.id i) h.queues[k].items; simp only; omega, hE.2.1, fun i hi => hE.2.2 i ((List.mem_filter.1 hi).1)⟩
        · exact H.mono (by omega)
theorem HD.cap.fold : ∀ (es : List ED) {c : Nat} {h : HD}, h.cap c → (∀ e ∈ es, e.fits) → (es.foldl applyF h).cap (c + es.length) := by
  intro es
  induction es with
  | nil => intro c h H _; exact H
  | cons e es ih =>
    intro c h H he
    rw [List.foldl_cons, List.length_cons, Nat.add_comm es.length 1, ← Nat.add_assoc]
    exact ih (H.apply (he e (by simp))) fun x hx => he x (by simp [hx])

theorem plain_smallQ {qs : List QD} (s : smallQ qs) : smallQ (qs.map plainQ) := by
  refine ⟨by simpa using s.1, fun q hq => ?_⟩
  obtain ⟨p, hp, rfl⟩ := List.mem_map.1 hq
  obtain ⟨h1, h2⟩ := s.2 p hp
  refine ⟨by simpa [plainQ] using h1, fun i hi => ?_⟩
  simp only [plainQ, List.mem_map] at hi
  obtain ⟨j, hj, rfl⟩ := hi
  exact h2 j hj

/-- What the law's closure wants of entries that tell of something. -/
structure FolOk (h x : HD) (es : List ED) : Prop where
  fol : Fol h x es
  len : es.length ≤ 4000
  fit : ∀ e ∈ es, e.fits
  cap : h.cap 8
end Go.Proofs.Ytkddkpdfeeikhaa
