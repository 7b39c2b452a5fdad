/-
  A tag that was given is done with once: plainly.
-/
import Derived.Test.YtkddkpdfeeikhaaSsTagProofM30
import Derived.Test.YtkddkpdfeeikhaaSsTagProofM44
namespace Go.Proofs.Ytkddkpdfeeikhaa
set_option linter.unusedVariables false
set_option linter.unusedSimpArgs false

/-- Behind the last tag of its number none is left. -/
theorem part_none (d : DK) (k n : Int) (h : ∀ t ∈ d.ts, t.n ≠ n) : d.part k n = (d, 6) := by
  unfold DK.part
  have : d.ts.findIdx? (tagB n) = none := by
    rw [List.findIdx?_eq_none_iff]
    intro t ht
    simp [tagB, h t ht]
  rw [this]
/-- The tag that was given last, and its number is nobody else's. -/
theorem part_last (d : DK) (ts : List TD) (t : TD) (k : Int) (hts : d.ts = ts ++ [t]) (h : ∀ u ∈ ts, u.n ≠ t.n) (hw : (d.write (tagF d.h k t)).2 = 0) :
    d.part k t.n = (⟨(d.write (tagF d.h k t)).1.h, (d.write (tagF d.h k t)).1.l, (d.write (tagF d.h k t)).1.sure, ts, (d.write (tagF d.h k t)).1.nx⟩, 0) := by
  unfold DK.part
  have hi : d.ts.findIdx? (tagB t.n) = some ts.length := by
    rw [List.findIdx?_eq_some_iff_getElem]
    refine ⟨by rw [hts]; simp, by simp [hts, tagB], fun j hj => ?_⟩
    have e : d.ts[j]'(by rw [hts]; simp; omega) = ts[j] := by simp [hts, List.getElem_append_left hj]
    rw [e]
    simp [tagB, h ts[j] (List.getElem_mem hj)]
  have hg : d.ts[ts.length]? = some t := by rw [hts]; simp
  rw [hi]
  simp only
  rw [hg]
  simp only [hw]
  rw [if_neg (by decide), hts]
  simp [List.eraseIdx_append_of_length_le]
/-- One short entry into an empty log. -/
theorem write_one (d : DK) (r : HD × List ED × Int) (e : ED) (h0 : r.2.2 = 0) (hl : d.l = []) (he : r.2.1 = [e]) (hs : (entryB e).length ≤ 5000) :
    d.write r = (⟨r.1, SR.framesB [entryB e], d.sure, d.ts, d.nx⟩, 0) := by
  have ha : SR.appE d.l (r.2.1.map entryB) = 0 := by
    rw [hl, he]
    unfold SR.appE
    have hm : SR.muchB ([e].map entryB) = false := by simp [SR.muchB]; omega
    rw [hm, if_neg (by simp), if_neg (by simp [SR.sizeR]; omega)]
  unfold DK.write
  rw [if_pos h0, if_pos ha]
  have hb : SR.appB d.l (r.2.1.map entryB) = SR.framesB [entryB e] := by
    unfold SR.appB
    rw [if_pos ha, hl, he]
    simp
  rw [hb]
/-- What has out, with this ID and Turn, is found. -/
theorem done_found {h : HD} {k : Nat} {q : QD} {id turn : Int} {i : Nat} (hi : i < q.items.length) (hg : givenB id turn q.items[i] = true) : (doneF h k q id turn).2 = ([goneE q.name id], 0) := by
  unfold doneF
  split
  · rename_i hn
    rw [List.findIdx?_eq_none_iff] at hn
    have := hn _ (List.getElem_mem hi)
    rw [hg] at this
    exact absurd this (by simp)
  · rfl
/-- Where an item is given. -/
theorem take_given (d : DK) (name : ByteArray) (now : Int) (h2 : (d.take 5 name now).2.1.kind = 2) :
    ∃ k, ∃ hk : k < d.h.queues.length, ∃ i, ∃ hi : i < d.h.queues[k].items.length, d.h.queues.findIdx? (nameB name) = some k ∧
      (d.take 5 name now).2.1.n = d.nx + 1 ∧ (d.take 5 name now).2.2 = 0 ∧ (d.take 5 name now).1 = ⟨d.h.setQ k ⟨d.h.queues[k].name, d.h.queues[k].limit, d.h.queues[k].items.set i (takeI now d.h.queues[k].items[i])⟩, d.l, d.sure, d.ts ++ [⟨d.nx + 1, name, (takeI now d.h.queues[k].items[i]).id, (takeI now d.h.queues[k].items[i]).turn⟩], d.nx + 1⟩ := by
  unfold DK.take at h2 ⊢
  by_cases h4 : 4 ≤ d.ts.length
  · rw [if_pos h4] at h2; simp [saySay, sayE] at h2
  rw [if_neg h4] at h2 ⊢
  by_cases h9 : (faceF d.h name (fun k q => takeF d.h k q now)).2.2 = 9
  · rw [if_pos h9] at h2; simp at h2
  rw [if_neg h9] at h2 ⊢
  by_cases h0 : (faceF d.h name (fun k q => takeF d.h k q now)).2.2 = 0
  · rw [if_pos h0] at h2 ⊢
    cases hf : d.h.queues.findIdx? (nameB name) with
    | none => unfold faceF at h0; rw [hf] at h0; simp [refuse] at h0
    | some k =>
      obtain ⟨hkl, hn, -⟩ := List.findIdx?_eq_some_iff_getElem.1 hf
      have hq : d.h.queues[k]? = some d.h.queues[k] := List.getElem?_eq_getElem hkl
      have e : faceF d.h name (fun k q => takeF d.h k q now) = failF (takeF d.h k d.h.queues[k] now) := by unfold faceF; rw [hf]; simp only; rw [hq]
      have eg : giveF d.h name now = givenI d.h.queues[k] now := by unfold giveF; rw [hf]; simp only; rw [hq]
      rw [e] at h0 ⊢
      rw [eg]
      cases hi : d.h.queues[k].items.findIdx? isInB with
      | none =>
        have et : takeF d.h k d.h.queues[k] now = (d.h, [], 9) := by unfold takeF; rw [hi]
        rw [et] at h0
        simp [failF] at h0
      | some i =>
        obtain ⟨hil, -, -⟩ := List.findIdx?_eq_some_iff_getElem.1 hi
        have hx : d.h.queues[k].items[i]? = some d.h.queues[k].items[i] := List.getElem?_eq_getElem hil
        have et : takeF d.h k d.h.queues[k] now = (d.h.setQ k ⟨d.h.queues[k].name, d.h.queues[k].limit, d.h.queues[k].items.set i (takeI now d.h.queues[k].items[i])⟩, [], 0) := by unfold takeF; rw [hi]; simp only; rw [hx]
        have ei : givenI d.h.queues[k] now = takeI now d.h.queues[k].items[i] := by unfold givenI; rw [hi]; simp only; rw [hx]
        rw [et, ei]
        exact ⟨k, hkl, i, hil, rfl, rfl, rfl, by simp [failF]⟩
  · rw [if_neg h0] at h2
    simp [saySay, sayE, h0] at h2
/-- The item that was given is found by its tag. -/
theorem given_done {h : HD} {k : Nat} (hk : k < h.queues.length) {i : Nat} (hi : i < h.queues[k].items.length) (name : ByteArray) (now nn : Int) (hf : h.queues.findIdx? (nameB name) = some k) :
    (tagF (h.setQ k ⟨h.queues[k].name, h.queues[k].limit, h.queues[k].items.set i (takeI now h.queues[k].items[i])⟩) 7 ⟨nn, name, (takeI now h.queues[k].items[i]).id, (takeI now h.queues[k].items[i]).turn⟩).2 = ([goneE h.queues[k].name h.queues[k].items[i].id], 0) := by
  obtain ⟨hkl, hn, hbe⟩ := List.findIdx?_eq_some_iff_getElem.1 hf
  have hfx : (h.setQ k ⟨h.queues[k].name, h.queues[k].limit, h.queues[k].items.set i (takeI now h.queues[k].items[i])⟩).queues.findIdx? (nameB name) = some k := by
    rw [List.findIdx?_eq_some_iff_getElem]
    refine ⟨by simp [HD.setQ, hk], by simpa [HD.setQ, nameB] using hn, fun j hj => ?_⟩
    have := hbe j hj
    simp only [HD.setQ]
    rw [List.getElem_set_ne (by omega)]
    exact this
  have hq : (h.setQ k ⟨h.queues[k].name, h.queues[k].limit, h.queues[k].items.set i (takeI now h.queues[k].items[i])⟩).queues[k]? = some ⟨h.queues[k].name, h.queues[k].limit, h.queues[k].items.set i (takeI now h.queues[k].items[i])⟩ := by
    simp [HD.setQ, hk]
  unfold tagF
  rw [if_neg (by decide)]
  unfold faceF
  simp only
  rw [hfx]
  simp only
  rw [hq]
  simp only
  have hd := done_found (h := h.setQ k ⟨h.queues[k].name, h.queues[k].limit, h.queues[k].items.set i (takeI now h.queues[k].items[i])⟩) (k := k) (q := ⟨h.queues[k].name, h.queues[k].limit, h.queues[k].items.set i (takeI now h.queues[k].items[i])⟩) (id := (takeI now h.queues[k].items[i]).id) (turn := (takeI now h.queues[k].items[i]).turn) (i := i) (by simpa using hi) (by simp [givenB, takeI])
  unfold failF
  rw [hd]
  simp only [if_pos]
  exact hd
/-- The ask that is done with. -/
def aD (n : Int) : AD := ⟨7, ⟨#[]⟩, n, noteN⟩
theorem aD_wrong (n : Int) (h : 1 ≤ n ∧ n ≤ 1073741824) : (aD n).wrong = 0 := by
  have h1 : queueB 7 ⟨#[]⟩ = true := by kernel_rfl
  have h2 : numB 7 n = true := by simp [numB]; omega
  have h3 : noteN.wrong = 0 := rfl
  unfold AD.wrong aD
  simp only [h1, h2, h3]
  simp [noteN]
theorem gone_len (name : ByteArray) (id : Int) (hn : name.size ≤ 100) : (entryB (goneE name id)).length ≤ 5000 := by
  have : name.data.toList.length = name.size := by rw [Array.length_toList]; rfl
  simp only [entryB, goneE, List.length_append, this]
  simp [id4]
  omega
theorem gone_pos (name : ByteArray) (id : Int) : 0 < (SR.framesB [entryB (goneE name id)]).length := by
  simp [SR.framesB, SR.frameB, SR.pairB]
theorem tags_plain (h : HD) (R : h.rt) (ts : List TD) (nx : Int) (name : ByteArray) (now now' : Int) (hts : ∀ t ∈ ts, t.n ≤ nx) (hnx : 0 ≤ nx ∧ nx < 1000000) (h2 : ((⟨h, [], 0, ts, nx⟩ : DK).answer ⟨5, name, 0, noteN⟩ now).2.1.kind = 2) :
    ((⟨h, [], 0, ts, nx⟩ : DK).answer ⟨5, name, 0, noteN⟩ now).2.1.n = nx + 1 ∧ ((⟨h, [], 0, ts, nx⟩ : DK).answer ⟨5, name, 0, noteN⟩ now).2.2 = 0 ∧ ((⟨h, [], 0, ts, nx⟩ : DK).answer ⟨5, name, 0, noteN⟩ now).1.ts.length = ts.length + 1 ∧
      ∃ d2 : DK, (((⟨h, [], 0, ts, nx⟩ : DK).answer ⟨5, name, 0, noteN⟩ now).1.answer (aD (nx + 1)) now = (d2, ⟨1, 0, 0, 0, noteN⟩, 0)) ∧ 0 < d2.l.length ∧ d2.answer (aD (nx + 1)) now = (d2, ⟨4, 0, 0, 6, noteN⟩, 0) := by
  have hw : (⟨5, name, 0, noteN⟩ : AD).wrong = 0 := by
    by_cases hw : (⟨5, name, 0, noteN⟩ : AD).wrong = 0
    · exact hw
    · unfold DK.answer at h2
      rw [if_neg hw] at h2
      simp [saySay, sayE, hw] at h2
  have ea : (⟨h, [], 0, ts, nx⟩ : DK).answer ⟨5, name, 0, noteN⟩ now = (⟨h, [], 0, ts, nx⟩ : DK).take 5 name now := by
    unfold DK.answer
    rw [if_pos hw]
    rfl
  rw [ea] at h2 ⊢
  obtain ⟨k, hk, i, hi, hf, e1, e2, e3⟩ := take_given _ name now h2
  have hdw := aD_wrong (nx + 1) (by omega)
  have ed : ∀ d : DK, d.answer (aD (nx + 1)) now = ((d.part 7 (nx + 1)).1, saySay (d.part 7 (nx + 1)).2, 0) := by
    intro d
    unfold DK.answer
    rw [if_pos hdw]
    rfl
  refine ⟨e1, e2, by rw [e3]; simp, ?_⟩
  rw [e3]
  simp only at hk hi hf ⊢
  have hg := given_done hk hi name now (nx + 1) hf
  have hnm : h.queues[k].name.size ≤ 100 := R.names _ (List.getElem_mem hk)
  have hwr := write_one ⟨h.setQ k ⟨h.queues[k].name, h.queues[k].limit, h.queues[k].items.set i (takeI now h.queues[k].items[i])⟩, [], 0, ts ++ [⟨nx + 1, name, (takeI now h.queues[k].items[i]).id, (takeI now h.queues[k].items[i]).turn⟩], nx + 1⟩ _ _ (by rw [hg]) rfl (by rw [hg]) (gone_len h.queues[k].name h.queues[k].items[i].id hnm)
  have hpt := part_last ⟨h.setQ k ⟨h.queues[k].name, h.queues[k].limit, h.queues[k].items.set i (takeI now h.queues[k].items[i])⟩, [], 0, ts ++ [⟨nx + 1, name, (takeI now h.queues[k].items[i]).id, (takeI now h.queues[k].items[i]).turn⟩], nx + 1⟩ ts ⟨nx + 1, name, (takeI now h.queues[k].items[i]).id, (takeI now h.queues[k].items[i]).turn⟩ 7 rfl (fun u hu => by have := hts u hu; simp only; omega) (by rw [hwr])
  simp only at hpt
  refine ⟨_, by rw [ed, hpt]; rfl, ?_, ?_⟩
  · rw [hwr]
    exact gone_pos _ _
  · rw [ed, part_none _ 7 (nx + 1) (fun t ht => by have := hts t ht; omega)]
    rfl
end Go.Proofs.Ytkddkpdfeeikhaa
