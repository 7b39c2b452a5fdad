/-
  JFollowF; RefPurge: texts laid together.
-/
import Derived.Test.YtkddkpdfeeikhaaJTellsProofM43
import Derived.Test.YtkddkpdfeeikhaaJTellsProofM44
import Derived.Test.YtkddkpdfeeikhaaJTellsProofM16
import Derived.Test.YtkddkpdfeeikhaaJTellsProofM20
import Derived.Test.YtkddkpdfeeikhaaJTellsProofM12
import Derived.Test.YtkddkpdfeeikhaaJTellsProofM17
/-
  What the entries tell of a step is what the step has done: behind them the plain hall is the plain one of the hall that the step made. Plain lists.
-/
namespace Go.Proofs.Ytkddkpdfeeikhaa
open Go.RowKit
set_option linter.unusedVariables false
set_option linter.unusedSimpArgs false

/-- The plain hall. -/
def plainH (h : HD) : HD := ⟨h.queues.map plainQ, h.next⟩
/-- The entries make the plain h the plain h'. -/
def Fol (h h' : HD) (es : List ED) : Prop := es.foldl applyF (plainH h) = plainH h'

theorem Fol.nil (h : HD) : Fol h h [] := rfl
theorem Fol.trans {a b c : HD} {es fs : List ED} (h1 : Fol a b es) (h2 : Fol b c fs) : Fol a c (es ++ fs) := by
  unfold Fol at *
  rw [List.foldl_append, h1, h2]

section
variable {h : HD} {k : Nat}

end

/-- No list longer than c, no name too long, notes that are small. -/
structure HD.cap (c : Nat) (h : HD) : Prop where
  len : h.queues.length ≤ c
  each : ∀ q ∈ h.queues, q.items.length ≤ c ∧ q.name.size ≤ maxLen ∧ ∀ i ∈ q.items, i.note.small

theorem HD.cap.mono {c c' : Nat} {h : HD} (H : h.cap c) (hc : c ≤ c') : h.cap c' := ⟨by have := H.len; omega, fun q hq => ⟨by have := (H.each q hq).1; omega, (H.each q hq).2⟩⟩
theorem HD.cap.plain' {c : Nat} {h : HD} (H : h.cap c) (hc : c ≤ 4194000) : smallQ h.queues ∧ h.fits 4194304 :=
  ⟨⟨by have := H.len; omega, fun q hq => ⟨by have := (H.each q hq).1; omega, (H.each q hq).2.2⟩⟩, ⟨by have := H.len; omega, fun q hq => by have := (H.each q hq).1; omega, fun q hq => (H.each q hq).2.1⟩⟩
theorem HD.cap.plain {h : HD} (H : h.cap 8) : smallQ h.queues ∧ h.fits 4194304 := H.plain' (by omega)
theorem HD.cap.plainH {c : Nat} {h : HD} (H : h.cap c) : (plainH h).cap c := by
  refine ⟨by simpa [Ytkddkpdfeeikhaa.plainH] using H.len, fun q hq => ?_⟩
  simp only [Ytkddkpdfeeikhaa.plainH] at hq
  obtain ⟨p, hp, rfl⟩ := List.mem_map.1 hq
  have := H.each p hp
  refine ⟨by simpa [plainQ] using this.1, this.2.1, fun i hi => ?_⟩
  simp only [plainQ] at hi
  obtain ⟨j, hj, rfl⟩ := List.mem_map.1 hi
  exact this.2.2 j hj
theorem HD.cap.apply {c : Nat} {h : HD} (H : h.cap c) {e : ED} (he : e.fits) : (applyF h e).cap (c + 1) := by
  cases hf : h.queues.findIdx? (nameB e.queue) with
  | none =>
    rw [applyF_none hf]
    split
    · refine ⟨by have := H.len; simp; omega, fun q hq => ?_⟩
      simp only [List.mem_append, List.mem_singleton] at hq
      rcases hq with hq | rfl
      · exact (H.mono (by omega)).each q hq
      · exact ⟨by simp, he.queue, by simp⟩
    · exact H.mono (by omega)
  | some k =>
    obtain ⟨hk, -, -⟩ := List.findIdx?_eq_some_iff_getElem.1 hf
    have hE := H.each _ (List.getElem_mem hk)
    rw [applyF_some hk hf]
    split
    · exact ⟨by have := H.len; rw [List.length_eraseIdx]; split <;> omega, fun q hq => (H.mono (by omega)).each q (List.mem_of_mem_eraseIdx hq)⟩
    · split
      · refine ⟨by have := H.len; simp; omega, fun q hq => ?_⟩
        rcases List.mem_or_eq_of_mem_set hq with hq | rfl
        · exact (H.mono (by omega)).each q hq
        · refine ⟨by have := hE.1; simp; omega, hE.2.1, fun i hi => ?_⟩
          simp only [List.mem_append, List.mem_singleton] at hi
          rcases hi with hi | rfl
          · exact hE.2.2 i hi
          · exact he.note
      · split
        · refine ⟨by have := H.len; simp; omega, fun q hq => ?_⟩
          rcases List.mem_or_eq_of_mem_set hq with hq | rfl
          · exact (H.mono (by omega)).each q hq
          · exact ⟨by have h1 := hE.1; have h2 := List.length_filter_le (fun i : IT => !idB e.id i) h.queues[k].items; simp only; omega, hE.2.1, fun i hi => hE.2.2 i ((List.mem_filter.1 hi).1)⟩
        · exact H.mono (by omega)
end Go.Proofs.Ytkddkpdfeeikhaa

/-
  tgref1.Purge.
-/
namespace Go.Proofs.Ytkddkpdfeeikhaa
open Go.RowKit
set_option linter.unusedVariables false
set_option linter.unusedSimpArgs false

attribute [local go_sem ↓] Go.wp_at_zero Go.wp_at_succ

/-- What holds in tgref1.Purge behind k items. -/
structure PI (w : World) (name : ByteArray) (limit : Int) (va : Option Addr) (n vc : Nat) (L : ItL) (k : Nat) (wr : World) (lv gv : Value) : Prop where
  bel : Below w.heap.size w wr
  q : Blk wr w.heap.size [.string name, .int .i64 limit, .slice va n vc]
  res : Blk wr (w.heap.size + 1) [.string ⟨#[]⟩, .int .i64 0, .slice none 0 0]
  lo : wr.ownsRow (w.heap.size + 2) 78 7 lv ((L.take k).filter (fun x => x.1.out)).length (cellsI ((L.take k).filter (fun x => x.1.out)))
  go : wr.ownsRow (w.heap.size + 2) 3 1 gv (goneL ((L.take k).map Prod.fst)).length (ints (goneL ((L.take k).map Prod.fst)))
  apart : ∀ b, lv.ownBlock = some b → gv.ownBlock ≠ some b

section
variable {w : World} {name : ByteArray} {limit : Int} {va : Option Addr} {n vc : Nat} {L : ItL} {k : Nat} {wr : World} {lv gv : Value}

/-- Memory that is new alone. -/
theorem PI.on (h : PI w name limit va n vc L k wr lv gv) {W : World} (hb : Below wr.heap.size wr W) : PI w name limit va n vc L k W lv gv :=
  ⟨h.bel.trans (hb.mono h.bel.size), h.q.below hb h.q.lt, h.res.below hb h.res.lt, own_below h.lo hb, own_below h.go hb, h.apart⟩

theorem PI.stay (h : PI w name limit va n vc L k wr lv gv) (hk : k < L.length) (ho : L[k].1.out = true) {m : Nat} (hm0 : m = ((L.take k).filter (fun x => x.1.out)).length) {W : World} {ao : Option Addr} {cap : Nat}
    (h1 : W.ownsRow (w.heap.size + 2) 78 7 (.slice ao (m + 1) cap) (m + 1) (cellsI ((L.take k).filter (fun x => x.1.out)) ++ L[k].1.cells L[k].2)) (hg : wr.grownBy W lv.ownBlock) (hm : Moved wr lv (.slice ao (m + 1) cap)) :
    PI w name limit va n vc L (k + 1) W (.slice ao (m + 1) cap) gv := by
  subst hm0
  have hl := h.lo.lt
  have hz := h.res.lt
  have nb : ∀ b, b < w.heap.size + 2 → W.heap[b]? = wr.heap[b]? := fun b hb => hg.block b (by omega) (fun e => by have := (hl b e.symm).1; omega)
  have ef : (L.take (k + 1)).filter (fun x => x.1.out) = (L.take k).filter (fun x => x.1.out) ++ [L[k]] := by
    rw [List.take_succ_eq_append_getElem hk, List.filter_append]; simp [ho]
  have eg : goneL ((L.take (k + 1)).map Prod.fst) = goneL ((L.take k).map Prod.fst) := by
    rw [List.take_succ_eq_append_getElem hk, List.map_append]
    show goneL (_ ++ [L[k].1]) = _
    rw [goneL_snoc, ho]; simp
  refine ⟨h.bel.trans ⟨hg.os, hg.tape, hg.output, hg.size, fun b hb => nb b (by omega)⟩, h.q.same (nb _ (by omega)), h.res.same (nb _ (by omega)), ?_, ?_, fun b hb e => ?_⟩
  · rw [ef, List.length_append, cellsI_snoc]; exact h1
  · rw [eg]
    refine ⟨h.go.1, ?_⟩
    rcases h.go.2 with h2 | ⟨g, c, cur, e, hbg, hgg, hr⟩
    · exact .inl h2
    · exact .inr ⟨g, c, cur, e, hbg, (hg.block g (Array.getElem?_eq_some_iff.1 hgg).1 (fun e2 => h.apart g e2.symm (by rw [e]; rfl))).trans hgg, hr⟩
  · rcases hm b hb with h2 | h2
    · exact h.apart b h2 e
    · have := (h.go.lt b e).2; omega

theorem PI.gone (h : PI w name limit va n vc L k wr lv gv) (hk : k < L.length) (ho : L[k].1.out = false) {m : Nat} (hm0 : m = (goneL ((L.take k).map Prod.fst)).length) {W : World} {ao : Option Addr} {cap : Nat}
    (h1 : W.ownsRow (w.heap.size + 2) 3 1 (.slice ao (m + 1) cap) (m + 1) (ints (goneL ((L.take k).map Prod.fst)) ++ [.int .i64 L[k].1.id])) (hg : wr.grownBy W gv.ownBlock) (hm : Moved wr gv (.slice ao (m + 1) cap)) :
    PI w name limit va n vc L (k + 1) W lv (.slice ao (m + 1) cap) := by
  subst hm0
  have hl := h.go.lt
  have hz := h.res.lt
  have nb : ∀ b, b < w.heap.size + 2 → W.heap[b]? = wr.heap[b]? := fun b hb => hg.block b (by omega) (fun e => by have := (hl b e.symm).1; omega)
  have ef : (L.take (k + 1)).filter (fun x => x.1.out) = (L.take k).filter (fun x => x.1.out) := by
    rw [List.take_succ_eq_append_getElem hk, List.filter_append]; simp [ho]
  have eg : goneL ((L.take (k + 1)).map Prod.fst) = goneL ((L.take k).map Prod.fst) ++ [L[k].1.id] := by
    rw [List.take_succ_eq_append_getElem hk, List.map_append]
    show goneL (_ ++ [L[k].1]) = _
    rw [goneL_snoc, ho]; simp
  refine ⟨h.bel.trans ⟨hg.os, hg.tape, hg.output, hg.size, fun b hb => nb b (by omega)⟩, h.q.same (nb _ (by omega)), h.res.same (nb _ (by omega)), ?_, ?_, fun b hb e => ?_⟩
  · rw [ef]
    refine ⟨h.lo.1, ?_⟩
    rcases h.lo.2 with h2 | ⟨g, c, cur, e, hbg, hgg, hr⟩
    · exact .inl h2
    · exact .inr ⟨g, c, cur, e, hbg, (hg.block g (Array.getElem?_eq_some_iff.1 hgg).1 (fun e2 => h.apart g (by rw [e]; rfl) e2.symm)).trans hgg, hr⟩
  · have : ints (goneL ((L.take k).map Prod.fst) ++ [L[k].1.id]) = ints (goneL ((L.take k).map Prod.fst)) ++ [.int .i64 L[k].1.id] := by simp [ints]
    rw [eg, List.length_append, this]; exact h1
  · rcases hm b e with h2 | h2
    · exact h.apart b hb h2
    · have := (h.lo.lt b hb).2; omega
end

end Go.Proofs.Ytkddkpdfeeikhaa
