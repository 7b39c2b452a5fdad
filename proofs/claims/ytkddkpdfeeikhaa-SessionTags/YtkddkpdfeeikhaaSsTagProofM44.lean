/-
  JFollowF; JFollowG; SsF: texts laid together.
-/
import Derived.Test.YtkddkpdfeeikhaaSsTagProofM31
import Derived.Test.YtkddkpdfeeikhaaSsTagProofM43
import Derived.Test.YtkddkpdfeeikhaaSsTagProofM40
import Derived.Test.YtkddkpdfeeikhaaSsTagProofM22
import Derived.Test.YtkddkpdfeeikhaaFaceM
import Derived.Test.YtkddkpdfeeikhaaSsTagProofM30
/-
  What the entries tell of a step is what the step has done: behind them the plain hall is the plain one of the hall that the step made. Plain lists.
-/
namespace Go.Proofs.Ytkddkpdfeeikhaa
open Go.RowKit
set_option linter.unusedVariables false
set_option linter.unusedSimpArgs false

/-- The plain hall. -/
def plainH (h : HD) : HD := ⟨h.queues.map plainQ, h.next⟩
/-- The entries make the plain h the plain h'. -/
def Fol (h h' : HD) (es : List ED) : Prop := es.foldl applyF (plainH h) = plainH h'

theorem Fol.nil (h : HD) : Fol h h [] := rfl
theorem Fol.trans {a b c : HD} {es fs : List ED} (h1 : Fol a b es) (h2 : Fol b c fs) : Fol a c (es ++ fs) := by
  unfold Fol at *
  rw [List.foldl_append, h1, h2]

/-- Each name is its queue's own, and so is each number. -/
structure HD.reg (h : HD) : Prop where
  uniq : ∀ k (hk : k < h.queues.length), h.queues.findIdx? (nameB h.queues[k].name) = some k
  ids : ∀ q ∈ h.queues, q.items.Pairwise (fun a b => a.id ≠ b.id) ∧ ∀ i ∈ q.items, 0 ≤ i.id ∧ i.id < h.next

section
variable {h : HD} {k : Nat}

end

theorem given_at {its : List IT} {id turn : Int} {i : Nat} (h : its.findIdx? (givenB id turn) = some i) : ∃ hi : i < its.length, its[i].id = id := by
  obtain ⟨hi, hg, -⟩ := List.findIdx?_eq_some_iff_getElem.1 h
  simp [givenB] at hg
  exact ⟨hi, hg.1.2⟩

theorem back_len2 (h : HD) (k : Nat) (q : QD) (id turn : Int) : (backF h k q id turn).2.1.length ≤ 2 := backF_es h k q id turn

/-- No list longer than c, no name too long, notes that are small. -/
structure HD.cap (c : Nat) (h : HD) : Prop where
  len : h.queues.length ≤ c
  each : ∀ q ∈ h.queues, q.items.length ≤ c ∧ q.name.size ≤ maxLen ∧ ∀ i ∈ q.items, i.note.small

theorem HD.cap.mono {c c' : Nat} {h : HD} (H : h.cap c) (hc : c ≤ c') : h.cap c' := ⟨by have := H.len; omega, fun q hq => ⟨by have := (H.each q hq).1; omega, (H.each q hq).2⟩⟩
theorem HD.cap.plain' {c : Nat} {h : HD} (H : h.cap c) (hc : c ≤ 4194000) : smallQ h.queues ∧ h.fits 4194304 :=
  ⟨⟨by have := H.len; omega, fun q hq => ⟨by have := (H.each q hq).1; omega, (H.each q hq).2.2⟩⟩, ⟨by have := H.len; omega, fun q hq => by have := (H.each q hq).1; omega, fun q hq => (H.each q hq).2.1⟩⟩
theorem HD.cap.plain {h : HD} (H : h.cap 8) : smallQ h.queues ∧ h.fits 4194304 := H.plain' (by omega)
theorem HD.cap.plainH {c : Nat} {h : HD} (H : h.cap c) : (plainH h).cap c := by
  refine ⟨by simpa [Ytkddkpdfeeikhaa.plainH] using H.len, fun q hq => ?_⟩
  simp only [Ytkddkpdfeeikhaa.plainH] at hq
  obtain ⟨p, hp, rfl⟩ := List.mem_map.1 hq
  have := H.each p hp
  refine ⟨by simpa [plainQ] using this.1, this.2.1, fun i hi => ?_⟩
  simp only [plainQ] at hi
  obtain ⟨j, hj, rfl⟩ := List.mem_map.1 hi
  exact this.2.2 j hj
theorem HD.cap.apply {c : Nat} {h : HD} (H : h.cap c) {e : ED} (he : e.fits) : (applyF h e).cap (c + 1) := by
  cases hf : h.queues.findIdx? (nameB e.queue) with
  | none =>
    rw [applyF_none hf]
    split
    · refine ⟨by have := H.len; simp; omega, fun q hq => ?_⟩
      simp only [List.mem_append, List.mem_singleton] at hq
      rcases hq with hq | rfl
      · exact (H.mono (by omega)).each q hq
      · exact ⟨by simp, he.queue, by simp⟩
    · exact H.mono (by omega)
  | some k =>
    obtain ⟨hk, -, -⟩ := List.findIdx?_eq_some_iff_getElem.1 hf
    have hE := H.each _ (List.getElem_mem hk)
    rw [applyF_some hk hf]
    split
    · exact ⟨by have := H.len; rw [List.length_eraseIdx]; split <;> omega, fun q hq => (H.mono (by omega)).each q (List.mem_of_mem_eraseIdx hq)⟩
    · split
      · refine ⟨by have := H.len; simp; omega, fun q hq => ?_⟩
        rcases List.mem_or_eq_of_mem_set hq with hq | rfl
        · exact (H.mono (by omega)).each q hq
        · refine ⟨by have := hE.1; simp; omega, hE.2.1, fun i hi => ?_⟩
          simp only [List.mem_append, List.mem_singleton] at hi
          rcases hi with hi | rfl
          · exact hE.2.2 i hi
          · exact he.note
      · split
        · refine ⟨by have := H.len; simp; omega, fun q hq => ?_⟩
          rcases List.mem_or_eq_of_mem_set hq with hq | rfl
          · exact (H.mono (by omega)).each q hq
          · exact ⟨by have h1 := hE.1; have h2 := List.length_filter_le (fun i : IT => !idB e.id i) h.queues[k].items; simp only; omega, hE.2.1, fun i hi => hE.2.2 i ((List.mem_filter.1 hi).1)⟩
        · exact H.mono (by omega)
theorem HD.cap.fold : ∀ (es : List ED) {c : Nat} {h : HD}, h.cap c → (∀ e ∈ es, e.fits) → (es.foldl applyF h).cap (c + es.length) := by
  intro es
  induction es with
  | nil => intro c h H _; exact H
  | cons e es ih =>
    intro c h H he
    rw [List.foldl_cons, List.length_cons, Nat.add_comm es.length 1, ← Nat.add_assoc]
    exact ih (H.apply (he e (by simp))) fun x hx => he x (by simp [hx])

/-- What the law's closure wants of entries that tell of something. -/
structure FolOk (h x : HD) (es : List ED) : Prop where
  fol : Fol h x es
  len : es.length ≤ 4000
  fit : ∀ e ∈ es, e.fits
  cap : h.cap 8
end Go.Proofs.Ytkddkpdfeeikhaa

/-
  Each step of a right hall: behind the entries that it tells the plain hall is the plain one of what it made. Plain lists.
-/
namespace Go.Proofs.Ytkddkpdfeeikhaa
open Go.RowKit
set_option linter.unusedVariables false
set_option linter.unusedSimpArgs false

theorem sound_name {h : HD} (s : h.sound) : ∀ q ∈ h.queues, q.name.size ≤ 8 := fun q hq => by
  have h1 := (sound_each s q hq).1
  unfold keyB at h1
  simp at h1
  omega
theorem FolOk.small {h x : HD} {es : List ED} (H : FolOk h x es) : smallQ x.queues := by
  have h1 := H.cap.plainH.fold es H.fit
  rw [H.fol] at h1
  have hl := H.len
  refine ⟨by have := h1.len; simp [plainH] at this; omega, fun q hq => ?_⟩
  have h2 := h1.each (plainQ q) (List.mem_map_of_mem hq)
  refine ⟨by have := h2.1; simp [plainQ] at this; omega, fun i hi => ?_⟩
  exact h2.2.2 (plainI i) (List.mem_map_of_mem hi)

section
variable {h : HD} {M : Int} {ns : List ByteArray}

end

/-- What a row of steps comes to. -/
structure Many (h : HD) (M : Int) (ns : List ByteArray) (m : Nat) (x : HD) (es : List ED) : Prop where
  fol : Fol h x es
  reg : x.reg
  tok : x.tok (M + m) ns
  fit : ∀ e ∈ es, e.fits
  len : es.length ≤ 2 * m

theorem Many.nil {h : HD} {M : Int} {ns : List ByteArray} (m : Nat) (t : h.tok M ns) (r : h.reg) : Many h M ns m h [] :=
  ⟨Fol.nil _, r, ⟨t.good.mono (by omega), t.right, t.names⟩, by simp, by simp⟩
theorem Many.trans {a b c : HD} {M : Int} {ns : List ByteArray} {m n : Nat} {es fs : List ED} (h1 : Many a M ns m b es) (h2 : Many b (M + m) ns n c fs) : Many a M ns (m + n) c (es ++ fs) := by
  refine ⟨h1.fol.trans h2.fol, h2.reg, ⟨h2.tok.good.mono (by push_cast; omega), h2.tok.right, h2.tok.names⟩, fun e he => ?_, by have := h1.len; have := h2.len; simp; omega⟩
  rcases List.mem_append.1 he with he | he
  · exact h1.fit e he
  · exact h2.fit e he

section
variable {h : HD}

theorem face_at {name : ByteArray} {f : Nat → QD → HD × List ED × Int} (h0 : (faceF h name f).2.2 = 0) : ∃ k, ∃ hk : k < h.queues.length, faceF h name f = f k h.queues[k] ∧ h.queues[k].name = name := by
  unfold faceF at h0 ⊢
  split at h0
  · simp [refuse] at h0
  · rename_i k hk
    obtain ⟨hkl, hn, -⟩ := List.findIdx?_eq_some_iff_getElem.1 hk
    simp only [hk, List.getElem?_eq_getElem hkl] at h0 ⊢
    refine ⟨k, hkl, ?_, nameB_eq hn⟩
    unfold failF at h0 ⊢
    split
    · rfl
    · rename_i hne
      rw [if_neg hne] at h0
      exact absurd h0 hne

end
end Go.Proofs.Ytkddkpdfeeikhaa

/-
  What is told of a right hall may be written.
-/
namespace Go.Proofs.Ytkddkpdfeeikhaa
open Go.RowKit
set_option linter.unusedVariables false
set_option linter.unusedSimpArgs false

structure HD.rt (h : HD) : Prop where
  names : ∀ q ∈ h.queues, q.name.size ≤ 100
  next : 0 ≤ h.next ∧ h.next ≤ 1000000
  items : ∀ q ∈ h.queues, ∀ i ∈ q.items, i.note.wrong = 0 ∧ 0 ≤ i.id ∧ i.id ≤ 1000000

theorem sound_rt {h : HD} (s : h.sound) : h.rt := by
  refine ⟨fun q hq => by have := sound_name s q hq; omega, s.2.1, fun q hq i hi => ?_⟩
  obtain ⟨k, hk, rfl⟩ := List.getElem_of_mem hq
  have h1 := (s.2.2 k hk).1.2.2.2.1 i hi
  exact ⟨h1.1, h1.2.1.1, by have := h1.2.1.2; have := s.2.1.2; omega⟩

theorem gone_r {name : ByteArray} {id : Int} (hn : name.size ≤ 100) (h0 : 0 ≤ id) (h1 : id ≤ 1000000) : (goneE name id).right :=
  ⟨by simp [goneE], hn, by simp [goneE], ⟨h0, h1⟩, nN_wrong⟩
theorem put_r {name : ByteArray} {id : Int} {n : ND} (hn : name.size ≤ 100) (h0 : 0 ≤ id) (h1 : id ≤ 1000000) (hw : n.wrong = 0) : (putE name id n).right :=
  ⟨by simp [putE], hn, by simp [putE], ⟨h0, h1⟩, hw⟩

theorem putF_r {h : HD} (R : h.rt) {k : Nat} (hk : k < h.queues.length) {n : ND} (hw : n.wrong = 0) : (∀ e ∈ (putF h k h.queues[k] n).2.1, e.right) ∧ (putF h k h.queues[k] n).2.1.length ≤ 1 := by
  unfold putF
  split
  · simp
  · refine ⟨fun e he => ?_, by simp⟩
    simp only [List.mem_singleton] at he
    subst he
    exact put_r (R.names _ (List.getElem_mem hk)) R.next.1 R.next.2 hw

theorem aside_r {h : HD} (R : h.rt) (k : Nat) {n : ND} (hw : n.wrong = 0) : (∀ e ∈ (asideF h k n).2, e.right) ∧ (asideF h k n).2.length ≤ 1 := by
  unfold asideF
  split
  · simp
  · split
    · simp
    · split
      · simp
      · rename_i j hj hne _ q hq
        obtain ⟨hk, rfl⟩ := List.getElem?_eq_some_iff.1 hq
        exact putF_r R hk hw

theorem rt_set {h : HD} (R : h.rt) {k : Nat} (hk : k < h.queues.length) (its : List IT) (hi : ∀ i ∈ its, i ∈ h.queues[k].items) : (h.setQ k ⟨h.queues[k].name, h.queues[k].limit, its⟩).rt := by
  have hm := List.getElem_mem hk
  refine ⟨fun q hq => ?_, R.next, fun q hq i hi' => ?_⟩
  · rcases List.mem_or_eq_of_mem_set hq with hq | e
    · exact R.names q hq
    · rw [e]; exact R.names h.queues[k] hm
  · rcases List.mem_or_eq_of_mem_set hq with hq | e
    · exact R.items q hq i hi'
    · rw [e] at hi'; exact R.items h.queues[k] hm i (hi i hi')

theorem back_r {h : HD} (R : h.rt) {k : Nat} (hk : k < h.queues.length) (id turn : Int) : (∀ e ∈ (backF h k h.queues[k] id turn).2.1, e.right) ∧ (backF h k h.queues[k] id turn).2.1.length ≤ 2 := by
  refine ⟨?_, back_len2 _ _ _ _ _⟩
  have hm := List.getElem_mem hk
  unfold backF
  split
  · simp
  · rename_i i hi
    obtain ⟨hil, hid⟩ := given_at hi
    rw [List.getElem?_eq_getElem hil]
    simp only
    split
    · simp
    · have him := List.getElem_mem hil
      have hit := R.items _ hm _ him
      intro e he
      rcases List.mem_cons.1 he with rfl | he
      · exact gone_r (R.names _ hm) (by rw [← hid]; exact hit.2.1) (by rw [← hid]; exact hit.2.2)
      · exact (aside_r (rt_set R hk _ (fun x hx => List.mem_of_mem_eraseIdx hx)) k hit.1).1 e he

theorem done_r {h : HD} (R : h.rt) {k : Nat} (hk : k < h.queues.length) (id turn : Int) : (∀ e ∈ (doneF h k h.queues[k] id turn).2.1, e.right) ∧ (doneF h k h.queues[k] id turn).2.1.length ≤ 2 := by
  have hm := List.getElem_mem hk
  unfold doneF
  split
  · simp
  · rename_i i hi
    obtain ⟨hil, hid⟩ := given_at hi
    have hit := R.items _ hm _ (List.getElem_mem hil)
    refine ⟨fun e he => ?_, by simp⟩
    simp only [List.mem_singleton] at he
    subst he
    exact gone_r (R.names _ hm) (by rw [← hid]; exact hit.2.1) (by rw [← hid]; exact hit.2.2)

theorem tagF_r {h : HD} (s : h.sound) (k : Int) (t : TD) (h0 : (tagF h k t).2.2 = 0) : (∀ e ∈ (tagF h k t).2.1, e.right) ∧ (tagF h k t).2.1.length ≤ 4194304 := by
  have R := sound_rt s
  unfold tagF at h0 ⊢
  split
  · rename_i hk
    rw [if_pos hk] at h0
    obtain ⟨j, hj, e, -⟩ := face_at h0
    rw [e]
    have := back_r R hj t.id t.turn
    exact ⟨this.1, by omega⟩
  · rename_i hk
    rw [if_neg hk] at h0
    obtain ⟨j, hj, e, -⟩ := face_at h0
    rw [e]
    have := done_r R hj t.id t.turn
    exact ⟨this.1, by omega⟩

theorem changeF_r {h : HD} (s : h.sound) (a : AD) (h0 : (changeF h a).2.2 = 0) : (∀ e ∈ (changeF h a).2.1, e.right) ∧ (changeF h a).2.1.length ≤ 4194304 := by
  have R := sound_rt s
  unfold changeF at h0 ⊢
  by_cases k2 : a.kind = 2
  · simp only [if_pos k2] at h0 ⊢
    unfold makeF at h0 ⊢
    by_cases hw : wrongMakeF h a.queue a.n = 0
    · simp only [if_pos hw]
      refine ⟨fun e he => ?_, by simp⟩
      simp only [List.mem_singleton] at he
      subst he
      unfold wrongMakeF at hw
      split at hw
      · omega
      · rename_i h1
        split at hw
        · omega
        · rename_i h2
          have hkey : keyB a.queue = true := by
            cases hb : keyB a.queue with
            | true => rfl
            | false => exact absurd (Or.inl hb) h1
          have := key_size hkey
          exact ⟨by simp, by simp only; omega, by simp only; omega, by simp, nN_wrong⟩
    · simp only [if_neg hw] at h0
      exact absurd h0 hw
  · simp only [if_neg k2] at h0 ⊢
    by_cases k3 : a.kind = 3
    · simp only [if_pos k3] at h0 ⊢
      obtain ⟨j, hj, e, -⟩ := face_at h0
      rw [e]
      refine ⟨fun x hx => ?_, by simp [dropF]⟩
      simp only [dropF, List.mem_singleton] at hx
      subst hx
      exact ⟨by simp, R.names _ (List.getElem_mem hj), by simp, by simp, nN_wrong⟩
    · simp only [if_neg k3] at h0 ⊢
      by_cases k4 : a.kind = 4
      · simp only [if_pos k4] at h0 ⊢
        unfold hallPutF at h0 ⊢
        by_cases hw : a.note.wrong = 0
        · simp only [if_pos hw] at h0 ⊢
          obtain ⟨j, hj, e, -⟩ := face_at h0
          rw [e]
          have := putF_r R hj hw
          exact ⟨this.1, by omega⟩
        · simp only [if_neg hw] at h0
          exact absurd h0 hw
      · simp only [if_neg k4] at h0 ⊢
        obtain ⟨j, hj, e, -⟩ := face_at h0
        rw [e]
        have hm := List.getElem_mem hj
        have hlen := (s.2.2 j hj).1
        refine ⟨fun x hx => ?_, ?_⟩
        · simp only [purgeF, goneL, List.mem_map, List.mem_filter] at hx
          obtain ⟨id, ⟨i, ⟨hi, -⟩, rfl⟩, rfl⟩ := hx
          have hit := R.items _ hm i hi
          exact gone_r (R.names _ hm) hit.2.1 hit.2.2
        · have h1 := goneL_len h.queues[j].items
          have h2 := hlen.2.1.2
          have h3 := hlen.2.2.1
          simp only [purgeF, List.length_map]
          omega

theorem sound_okH {h : HD} (s : h.sound) : h.okH := ⟨s.good.small, s.good.fits, s.2.1.1, by have := s.2.1.2; omega⟩
end Go.Proofs.Ytkddkpdfeeikhaa
