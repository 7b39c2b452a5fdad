/-
  JSize; RefPurge: texts laid together.
-/
import Derived.Test.YtkddkpdfeeikhaaJShortProofM43
import Derived.Test.YtkddkpdfeeikhaaRightH
import Derived.Test.YtkddkpdfeeikhaaJShortProofM21
import Derived.Test.YtkddkpdfeeikhaaJShortProofM23
/-
  The entries of 'Short' of a right hall are right, and find room in a log; what comes of them. Plain.
-/
namespace Go.Proofs.Ytkddkpdfeeikhaa
open Go.RowKit
set_option linter.unusedVariables false
set_option linter.unusedSimpArgs false

theorem prop_len {p : PD} (h : p.wrong = 0) : (NT.propB p.nt).length ≤ 23 := by
  obtain ⟨h1, h2, h3, h4⟩ := small_nt h
  simp only [NT.propB, List.length_append, NT.txt_len, List.length_cons]
  split
  · rename_i hk
    have := h4 (by simpa using hk)
    rw [NT.txt_len]
    omega
  · have : (NT.num4 p.nt.n).length = 4 := rfl
    omega
theorem props_len : ∀ ps : List PD, (∀ p ∈ ps, p.wrong = 0) → (NT.propsB (ps.map PD.nt)).length ≤ ps.length * 23 := by
  intro ps
  induction ps with
  | nil => intro _; simp [NT.propsB]
  | cons p ps ih =>
    intro h
    have h1 := prop_len (h p (by simp))
    have h2 := ih (fun x hx => h x (by simp [hx]))
    have e : NT.propsB ((p :: ps).map PD.nt) = NT.propB p.nt ++ NT.propsB (ps.map PD.nt) := by simp [NT.propsB, List.flatMap_cons]
    rw [e, List.length_append, List.length_cons]
    omega
theorem noteB_len {n : ND} (h : n.wrong = 0) : n.bytes.length ≤ 134 := by
  obtain ⟨h1, h2, h3⟩ := NT.wrongN_zero _ _ (wrongN_nt h)
  have hp : ∀ p ∈ n.props, p.wrong = 0 := fun p hp => h2 p.nt (List.mem_map_of_mem hp)
  have h4 := props_len n.props hp
  rw [List.length_map] at h1
  have e : n.bytes.length = 2 + (NT.propsB (n.props.map PD.nt)).length + n.body.length := by simp [ND.bytes, NT.bytesF]; omega
  omega

theorem key_size {s : ByteArray} (h : keyB s = true) : s.size ≤ 8 := by
  simp only [keyB, Bool.and_eq_true, decide_eq_true_eq] at h
  exact h.1.2

theorem nN_wrong : nN.wrong = 0 := rfl

section
variable {q : QD} {next : Int}
theorem make_right (h : q.sound next) : (makeE q).right ∧ (makeE q).tidy ∧ (entryB (makeE q)).length ≤ 11 := by
  have hk := key_size h.1
  refine ⟨⟨by simp [makeE], by simp only [makeE]; omega, by simp only [makeE]; have := h.2.1; omega, by simp [makeE], nN_wrong⟩, .inl ⟨rfl, rfl, rfl⟩, ?_⟩
  have : q.name.data.toList.length = q.name.size := by rw [Array.length_toList]; rfl
  simp only [entryB, makeE, List.length_append, this]
  simp
  omega
theorem put_right (h : q.sound next) (hn : next ≤ 1000000) {i : IT} (hi : i ∈ q.items) : (putE q.name i.id i.note).right ∧ (putE q.name i.id i.note).tidy ∧ (entryB (putE q.name i.id i.note)).length ≤ 148 := by
  have hk := key_size h.1
  have hs := h.2.2.2.1 i hi
  have hl := noteB_len hs.1
  refine ⟨⟨by simp [putE], by simp only [putE]; omega, by simp [putE], by simp only [putE]; have := hs.2.1; omega, hs.1⟩, .inr (.inr (.inl ⟨rfl, rfl⟩)), ?_⟩
  have : q.name.data.toList.length = q.name.size := by rw [Array.length_toList]; rfl
  have h4 := id4_len i.id
  simp only [entryB, putE, List.length_append, this]
  simp [h4]
  omega
end

theorem short_right {next : Int} (hn : next ≤ 1000000) (qs : List QD) (h : ∀ q ∈ qs, q.sound next) : ∀ e ∈ shortF qs, (e.right ∧ e.tidy) ∧ (entryB e).length ≤ 148 := by
  intro e he
  simp only [shortF, List.mem_flatMap, List.mem_cons, putsE, List.mem_map] at he
  obtain ⟨q, hq, rfl | ⟨i, hi, rfl⟩⟩ := he
  · obtain ⟨h1, h2, h3⟩ := make_right (h q hq)
    exact ⟨⟨h1, h2⟩, by omega⟩
  · obtain ⟨h1, h2, h3⟩ := put_right (h q hq) hn hi
    exact ⟨⟨h1, h2⟩, h3⟩

theorem size_le (es : List ED) (c : Nat) (h : ∀ e ∈ es, (entryB e).length ≤ c) : SR.sizeR (es.map entryB) ≤ es.length * (c + 4) := by
  induction es with
  | nil => simp [SR.sizeR]
  | cons e es ih =>
    have h1 := h e (by simp)
    have h2 := ih (fun x hx => h x (by simp [hx]))
    rw [List.map_cons, SR.sizeR_cons, List.length_cons, Nat.succ_mul]
    omega

theorem short_size {next : Int} (hn : next ≤ 1000000) (qs : List QD) (h : ∀ q ∈ qs, q.sound next) : SR.sizeR ((shortF qs).map entryB) ≤ qs.length * 1231 ∧ (shortF qs).length ≤ qs.length * 9 := by
  induction qs with
  | nil => simp [shortF, SR.sizeR]
  | cons q qs ih =>
    have hq := h q (by simp)
    obtain ⟨h2, h5⟩ := ih (fun x hx => h x (by simp [hx]))
    have e : shortF (q :: qs) = makeE q :: putsE q ++ shortF qs := by simp [shortF]
    have h3 := (make_right hq).2.2
    have h4 : SR.sizeR ((putsE q).map entryB) ≤ (putsE q).length * (148 + 4) := size_le _ 148 (fun x hx => by
      simp only [putsE, List.mem_map] at hx
      obtain ⟨i, hi, rfl⟩ := hx
      exact (put_right hq hn hi).2.2)
    have hpl : (putsE q).length = q.items.length := by simp [putsE]
    have hil : q.items.length ≤ 8 := by have := hq.2.1.2; have := hq.2.2.1; omega
    rw [e]
    refine ⟨?_, by simp; omega⟩
    rw [List.map_append, SR.sizeR_append, List.map_cons, SR.sizeR_cons, List.length_cons, Nat.succ_mul]
    rw [hpl] at h4
    have : q.items.length * 152 ≤ 8 * 152 := Nat.mul_le_mul_right _ hil
    omega

theorem sound_each {h : HD} (s : h.sound) : ∀ q ∈ h.queues, q.sound h.next := fun q hq => by
  obtain ⟨k, hk, rfl⟩ := List.mem_iff_getElem.1 hq
  exact (s.2.2 k hk).1

theorem sound_names {h : HD} (s : h.sound) : h.queues.Pairwise (fun a b => nameB b.name a = false) := by
  rw [List.pairwise_iff_getElem]
  intro i j hi hj hij
  have h1 := (s.2.2 j hj).2
  cases hn : nameB h.queues[j].name h.queues[i] with
  | false => rfl
  | true =>
    rcases idxQ_cases h.queues[j].name h.queues with ⟨e, -⟩ | ⟨k, hk, e, -, hbf⟩
    · rw [e] at h1; omega
    · have hkj : k = j := by rw [e] at h1; omega
      subst hkj
      have := hbf i hij
      rw [hn] at this
      cases this

theorem nextF_le (its : List IT) (c : Int) (h : ∀ i ∈ its, i.id < c) : ∀ nx, 0 ≤ nx → nx ≤ c → 0 ≤ nextF nx its ∧ nextF nx its ≤ c := by
  induction its with
  | nil => intro nx h0 h1; exact ⟨h0, h1⟩
  | cons i its ih =>
    intro nx h0 h1
    have hi := h i (by simp)
    have := ih (fun x hx => h x (by simp [hx])) (max nx (i.id + 1)) (by omega) (by omega)
    simpa [nextF] using this
theorem nextQ_le {next : Int} (qs : List QD) (h : ∀ q ∈ qs, q.sound next) : ∀ nx, 0 ≤ nx → nx ≤ next → 0 ≤ nextQ nx qs ∧ nextQ nx qs ≤ next := by
  induction qs with
  | nil => intro nx h0 h1; exact ⟨h0, h1⟩
  | cons q qs ih =>
    intro nx h0 h1
    have h2 := nextF_le q.items next (fun i hi => ((h q (by simp)).2.2.2.1 i hi).2.1.2) nx h0 h1
    have := ih (fun x hx => h x (by simp [hx])) (nextF nx q.items) h2.1 h2.2
    simpa [nextQ] using this

/-- What Write makes of the entries of 'Short' of a right hall, and what comes of it. -/
theorem short_back {h : HD} (s : h.sound) : SR.appE [] ((shortF h.queues).map entryB) = 0 ∧ (SR.appB [] ((shortF h.queues).map entryB)).length ≤ 6000 ∧ (shortF h.queues).length ≤ 36 ∧
    replayL ⟨[], 0⟩ (SR.recsF (SR.appB [] ((shortF h.queues).map entryB))) = ⟨h.queues.map plainQ, nextQ 0 h.queues⟩ ∧ 0 ≤ nextQ 0 h.queues ∧ nextQ 0 h.queues ≤ h.next := by
  have hq := sound_each s
  have hr := short_right s.2.1.2 h.queues hq
  obtain ⟨hz, hl⟩ := short_size s.2.1.2 h.queues hq
  have h4 := s.1
  have hm : SR.muchB ((shortF h.queues).map entryB) = false := by
    unfold SR.muchB
    rw [List.any_eq_false]
    intro r hx
    obtain ⟨e, he, rfl⟩ := List.mem_map.1 hx
    have := (hr e he).2
    simp
    omega
  have hE : SR.appE [] ((shortF h.queues).map entryB) = 0 := by
    unfold SR.appE
    rw [hm, if_neg (by simp), if_neg (by simp; omega)]
  have hB : SR.appB [] ((shortF h.queues).map entryB) = SR.framesB ((shortF h.queues).map entryB) := by
    unfold SR.appB
    rw [if_pos hE, List.nil_append]
  have hR : SR.recsF (SR.framesB ((shortF h.queues).map entryB)) = (shortF h.queues).map entryB := by
    have h1 := SR.recsF_frames ((shortF h.queues).map entryB) [] (SR.muchB_false _ hm)
    rw [List.append_nil] at h1
    rw [h1]
    have : SR.recsF [] = [] := by rw [SR.recsF_stop]; rfl
    rw [this, List.append_nil]
  refine ⟨hE, ?_, by omega, ?_, nextQ_le h.queues hq 0 (by omega) s.2.1.1⟩
  · rw [hB]
    have : (SR.framesB ((shortF h.queues).map entryB)).length = SR.sizeR ((shortF h.queues).map entryB) := SR.framesB_len _
    omega
  · rw [hB, hR, replay_entries _ _ (fun e he => (hr e he).1)]
    have := short_fold h.queues [] 0 (by simpa using sound_names s)
    simpa using this
end Go.Proofs.Ytkddkpdfeeikhaa

/-
  tgref1.Purge.
-/
namespace Go.Proofs.Ytkddkpdfeeikhaa
open Go.RowKit
set_option linter.unusedVariables false
set_option linter.unusedSimpArgs false

attribute [local go_sem ↓] Go.wp_at_zero Go.wp_at_succ

/-- What holds in tgref1.Purge behind k items. -/
structure PI (w : World) (name : ByteArray) (limit : Int) (va : Option Addr) (n vc : Nat) (L : ItL) (k : Nat) (wr : World) (lv gv : Value) : Prop where
  bel : Below w.heap.size w wr
  q : Blk wr w.heap.size [.string name, .int .i64 limit, .slice va n vc]
  res : Blk wr (w.heap.size + 1) [.string ⟨#[]⟩, .int .i64 0, .slice none 0 0]
  lo : wr.ownsRow (w.heap.size + 2) 78 7 lv ((L.take k).filter (fun x => x.1.out)).length (cellsI ((L.take k).filter (fun x => x.1.out)))
  go : wr.ownsRow (w.heap.size + 2) 3 1 gv (goneL ((L.take k).map Prod.fst)).length (ints (goneL ((L.take k).map Prod.fst)))
  apart : ∀ b, lv.ownBlock = some b → gv.ownBlock ≠ some b

section
variable {w : World} {name : ByteArray} {limit : Int} {va : Option Addr} {n vc : Nat} {L : ItL} {k : Nat} {wr : World} {lv gv : Value}

/-- Memory that is new alone. -/
theorem PI.on (h : PI w name limit va n vc L k wr lv gv) {W : World} (hb : Below wr.heap.size wr W) : PI w name limit va n vc L k W lv gv :=
  ⟨h.bel.trans (hb.mono h.bel.size), h.q.below hb h.q.lt, h.res.below hb h.res.lt, own_below h.lo hb, own_below h.go hb, h.apart⟩

theorem PI.stay (h : PI w name limit va n vc L k wr lv gv) (hk : k < L.length) (ho : L[k].1.out = true) {m : Nat} (hm0 : m = ((L.take k).filter (fun x => x.1.out)).length) {W : World} {ao : Option Addr} {cap : Nat}
    (h1 : W.ownsRow (w.heap.size + 2) 78 7 (.slice ao (m + 1) cap) (m + 1) (cellsI ((L.take k).filter (fun x => x.1.out)) ++ L[k].1.cells L[k].2)) (hg : wr.grownBy W lv.ownBlock) (hm : Moved wr lv (.slice ao (m + 1) cap)) :
    PI w name limit va n vc L (k + 1) W (.slice ao (m + 1) cap) gv := by
  subst hm0
  have hl := h.lo.lt
  have hz := h.res.lt
  have nb : ∀ b, b < w.heap.size + 2 → W.heap[b]? = wr.heap[b]? := fun b hb => hg.block b (by omega) (fun e => by have := (hl b e.symm).1; omega)
  have ef : (L.take (k + 1)).filter (fun x => x.1.out) = (L.take k).filter (fun x => x.1.out) ++ [L[k]] := by
    rw [List.take_succ_eq_append_getElem hk, List.filter_append]; simp [ho]
  have eg : goneL ((L.take (k + 1)).map Prod.fst) = goneL ((L.take k).map Prod.fst) := by
    rw [List.take_succ_eq_append_getElem hk, List.map_append]
    show goneL (_ ++ [L[k].1]) = _
    rw [goneL_snoc, ho]; simp
  refine ⟨h.bel.trans ⟨hg.os, hg.tape, hg.output, hg.size, fun b hb => nb b (by omega)⟩, h.q.same (nb _ (by omega)), h.res.same (nb _ (by omega)), ?_, ?_, fun b hb e => ?_⟩
  · rw [ef, List.length_append, cellsI_snoc]; exact h1
  · rw [eg]
    refine ⟨h.go.1, ?_⟩
    rcases h.go.2 with h2 | ⟨g, c, cur, e, hbg, hgg, hr⟩
    · exact .inl h2
    · exact .inr ⟨g, c, cur, e, hbg, (hg.block g (Array.getElem?_eq_some_iff.1 hgg).1 (fun e2 => h.apart g e2.symm (by rw [e]; rfl))).trans hgg, hr⟩
  · rcases hm b hb with h2 | h2
    · exact h.apart b h2 e
    · have := (h.go.lt b e).2; omega

theorem PI.gone (h : PI w name limit va n vc L k wr lv gv) (hk : k < L.length) (ho : L[k].1.out = false) {m : Nat} (hm0 : m = (goneL ((L.take k).map Prod.fst)).length) {W : World} {ao : Option Addr} {cap : Nat}
    (h1 : W.ownsRow (w.heap.size + 2) 3 1 (.slice ao (m + 1) cap) (m + 1) (ints (goneL ((L.take k).map Prod.fst)) ++ [.int .i64 L[k].1.id])) (hg : wr.grownBy W gv.ownBlock) (hm : Moved wr gv (.slice ao (m + 1) cap)) :
    PI w name limit va n vc L (k + 1) W lv (.slice ao (m + 1) cap) := by
  subst hm0
  have hl := h.go.lt
  have hz := h.res.lt
  have nb : ∀ b, b < w.heap.size + 2 → W.heap[b]? = wr.heap[b]? := fun b hb => hg.block b (by omega) (fun e => by have := (hl b e.symm).1; omega)
  have ef : (L.take (k + 1)).filter (fun x => x.1.out) = (L.take k).filter (fun x => x.1.out) := by
    rw [List.take_succ_eq_append_getElem hk, List.filter_append]; simp [ho]
  have eg : goneL ((L.take (k + 1)).map Prod.fst) = goneL ((L.take k).map Prod.fst) ++ [L[k].1.id] := by
    rw [List.take_succ_eq_append_getElem hk, List.map_append]
    show goneL (_ ++ [L[k].1]) = _
    rw [goneL_snoc, ho]; simp
  refine ⟨h.bel.trans ⟨hg.os, hg.tape, hg.output, hg.size, fun b hb => nb b (by omega)⟩, h.q.same (nb _ (by omega)), h.res.same (nb _ (by omega)), ?_, ?_, fun b hb e => ?_⟩
  · rw [ef]
    refine ⟨h.lo.1, ?_⟩
    rcases h.lo.2 with h2 | ⟨g, c, cur, e, hbg, hgg, hr⟩
    · exact .inl h2
    · exact .inr ⟨g, c, cur, e, hbg, (hg.block g (Array.getElem?_eq_some_iff.1 hgg).1 (fun e2 => h.apart g (by rw [e]; rfl) e2.symm)).trans hgg, hr⟩
  · have : ints (goneL ((L.take k).map Prod.fst) ++ [L[k].1.id]) = ints (goneL ((L.take k).map Prod.fst)) ++ [.int .i64 L[k].1.id] := by simp [ints]
    rw [eg, List.length_append, this]; exact h1
  · rcases hm b e with h2 | h2
    · exact h.apart b hb h2
    · have := (h.lo.lt b hb).2; omega
end

end Go.Proofs.Ytkddkpdfeeikhaa
