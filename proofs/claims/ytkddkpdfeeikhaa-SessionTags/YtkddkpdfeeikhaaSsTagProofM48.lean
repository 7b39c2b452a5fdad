/-
  JReplay; JAliveF; SsAliveF; SsTagsG; SsTagsH: texts laid together.
-/
import Derived.Test.YtkddkpdfeeikhaaSsTagProofM41
import Derived.Test.YtkddkpdfeeikhaaSsTagProofM47
import Derived.Test.YtkddkpdfeeikhaaSsTagProofM24
import Derived.Test.YtkddkpdfeeikhaaSsTagProofM43
import Derived.Deep.RegionHeld3
import Derived.Test.YtkddkpdfeeikhaaSsTagProofM44
import Derived.Test.YtkddkpdfeeikhaaSsTagsF
/-
  journal.Replay.
-/
namespace Go.Proofs.Ytkddkpdfeeikhaa
open Go.RowKit Go.WideMaps Go.Maps
set_option linter.unusedVariables false
set_option linter.unusedSimpArgs false

attribute [local go_sem ↓] Go.wp_at_zero Go.wp_at_succ

/-- More blocks that are let alone. -/
theorem JH.more {lo : Nat} {N N' : Nat → Prop} {hb xb pb mb : Nat} {w : World} {v : Value} {L : QuL} {next : Int} (H : JH lo N hb xb pb mb w v L next) (hN : ∀ b, N b → N' b) (hN' : ∀ b, N' b → N b ∨ (b < w.heap.size ∧ ¬ Foot v L b ∧ ¬ (b = hb ∨ b = xb ∨ b = pb ∨ b = mb))) : JH lo N' hb xb pb mb w v L next := by
  refine ⟨H.rows.more hN fun b h => ?_, H.box, H.xbox, H.pbox, H.map, H.ne, H.los, fun b h => ?_⟩
  · rcases h with h | h
    · rcases hN' b h with h | h
      · exact .inl (.inl h)
      · exact .inr ⟨h.1, h.2.1⟩
    · exact .inl (.inr h)
  · rcases hN' b h with h | h
    · exact H.note b h
    · exact h.2.2

/-- What holds in 'Replay', behind k records. -/
structure RPI (lo : Nat) (N0 : Nat → Prop) (hb xb pb : Nat) (w2 : World) (h : HD) (wr : World) : Prop where
  step : ∃ (N : Nat → Prop) (mb : Nat) (v : Value) (L : QuL), (∀ b, N0 b → N b) ∧ L.map Prod.fst = h.queues ∧ JH lo N hb xb pb mb wr v L h.next ∧ ∀ b, N b → lo ≤ b
  kept : Kept lo N0 w2 wr

theorem RPI.on {lo : Nat} {N0 : Nat → Prop} {hb xb pb : Nat} {w2 : World} {h : HD} {wr W : World} (H : RPI lo N0 hb xb pb w2 h wr) (hlo : lo ≤ wr.heap.size) (hlt : ∀ b, N0 b → b < wr.heap.size) (hB : Below wr.heap.size wr W) : RPI lo N0 hb xb pb w2 h W := by
  obtain ⟨⟨N, mb, v, L, h1, h2, h3, h4⟩, hk⟩ := H
  exact ⟨⟨N, mb, v, L, h1, h2, h3.below hB, h4⟩, hk.trans ⟨fun b hb => hB.block b (hlt b hb), hB.mono hlo⟩⟩

theorem RPI.next {lo : Nat} {N0 N : Nat → Prop} {hb xb pb : Nat} {w2 : World} {h' : HD} {W w4 : World} (hN0 : ∀ b, N0 b → N b) (hlN : ∀ b, N b → lo ≤ b) (hlo : lo ≤ W.heap.size) (hk : Kept lo N0 w2 W) (hs : StepAns lo N hb xb pb W h' w4) : RPI lo N0 hb xb pb w2 h' w4 := by
  obtain ⟨N', mb', v', L', ⟨k1, k2⟩, k3, k4, k5⟩ := hs
  exact ⟨⟨N', mb', v', L', fun b h => k1 b (hN0 b h), k3, k4, fun b h => (k2 b h).elim (hlN b) (fun h => by omega)⟩, hk.trans (k5.anti hN0)⟩

end Go.Proofs.Ytkddkpdfeeikhaa

/-
  What tglaw5.alive asks, plainly: its hall, its entries, what comes back.
-/
namespace Go.Proofs.Ytkddkpdfeeikhaa
open Go.RowKit Go.WideMaps Go.Maps
set_option linter.unusedVariables false
set_option linter.unusedSimpArgs false

attribute [local go_sem ↓] Go.wp_at_zero Go.wp_at_succ

def sA : ByteArray := ⟨#[97]⟩
def nX : ND := ⟨[], [120]⟩
def hA1 : HD := ⟨[⟨sA, 2, []⟩], 0⟩
def hA2 : HD := ⟨[⟨sA, 2, [⟨7, 0, 0, false, 0, nX⟩]⟩], 8⟩

theorem sA_size : sA.size = 1 := rfl
theorem sA_max : sA.size ≤ maxLen := by rw [sA_size]; unfold maxLen; omega
theorem keyA : keyB sA = true := by decide
end Go.Proofs.Ytkddkpdfeeikhaa

/-
  What tglaw6.alive asks, plainly.
-/
namespace Go.Proofs.Ytkddkpdfeeikhaa
open Go.RowKit
set_option linter.unusedVariables false
set_option linter.unusedSimpArgs false

attribute [local go_sem ↓] Go.wp_at_zero Go.wp_at_succ

theorem okD_of {d : DK} {a : AD} {now : Int} (s : d.h.sound) (hl : d.l.length ≤ 140737488355328) (ht : d.ts.length ≤ 3518437208832) (hn : 0 ≤ d.nx ∧ d.nx ≤ 1000000000) (hw : 0 ≤ now ∧ now ≤ 1000000000) : d.okD a now :=
  ⟨sound_okH s, hl, ht, hn, hw, fun t _ h0 => tagF_r s _ t h0, fun _ h0 => changeF_r s a h0⟩

def dA0 : DK := ⟨⟨[], 0⟩, [], 0, [], 0⟩
def aM : AD := ⟨2, sA, 2, noteN⟩
def aP : AD := ⟨4, sA, 0, nX⟩
def aT : AD := ⟨5, sA, 0, noteN⟩
def aW : AD := ⟨6, sA, 2, noteN⟩
def aZ : AD := ⟨0, ⟨#[]⟩, 0, noteN⟩
def lA : List UInt8 := SR.framesB [entryB ⟨1, sA, 2, 0, nN⟩] ++ SR.framesB [entryB ⟨3, sA, 0, 0, nX⟩]
def dA1 : DK := ⟨⟨[⟨sA, 2, []⟩], 0⟩, SR.framesB [entryB ⟨1, sA, 2, 0, nN⟩], 0, [], 0⟩
def iA : IT := ⟨0, 0, 0, false, 0, nX⟩
def iB : IT := ⟨0, 1, 0, true, 5, nX⟩
def iC : IT := ⟨0, 1, 1, false, 0, nX⟩
def tA : TD := ⟨1, sA, 0, 1⟩
def dA2 : DK := ⟨⟨[⟨sA, 2, [iA]⟩], 1⟩, lA, 0, [], 0⟩
def dA3 : DK := ⟨⟨[⟨sA, 2, [iB]⟩], 1⟩, lA, 0, [tA], 1⟩
def dL3 : DK := ⟨⟨[⟨sA, 2, [iB]⟩], 1⟩, lA, 0, [], 0⟩
def dL4 : DK := ⟨⟨[⟨sA, 2, [iC]⟩], 1⟩, lA, 0, [], 0⟩
theorem an1 : dA0.answer aM 0 = (dA1, ⟨1, 0, 0, 0, noteN⟩, 0) := by kernel_rfl
theorem an2 : dA1.answer aP 0 = (dA2, ⟨1, 0, 0, 0, noteN⟩, 0) := by kernel_rfl
theorem an3 : dA2.answer aT 0 = (dA3, ⟨2, 1, 0, 0, nX⟩, 0) := by kernel_rfl
theorem an4 : dA3.answer aW 0 = (dA3, ⟨0, 0, 0, 0, noteN⟩, 9) := by kernel_rfl
theorem an5 : leaveF dL3 [tA] = dL4 := by kernel_rfl
theorem an6 : aZ.wrong = 1 := by kernel_rfl
theorem lA_len : 8 < lA.length ∧ lA.length ≤ 1000 := by decide

theorem sound0 : (⟨[], 0⟩ : HD).sound := ⟨by simp, by simp, fun k hk => by simp at hk⟩
theorem sound1 (i : IT) (nx : Int) (hn : 0 ≤ nx ∧ nx ≤ 1000000) (its : List IT) (hl : its.length ≤ 1) (h : ∀ i ∈ its, i.sound nx) : (⟨[⟨sA, 2, its⟩], nx⟩ : HD).sound := by
  refine ⟨by simp, hn, fun k hk => ?_⟩
  have : k = 0 := by simp at hk; omega
  subst this
  refine ⟨⟨keyA, by simp, by simp only [List.getElem_cons_zero]; omega, fun i hi => h i (by simpa using hi), ?_⟩, idxQ_yes _ _ 0 (by simp) (by simp) (nameB_self _)⟩
  simp only [List.getElem_cons_zero]
  match its, hl with
  | [], _ => exact List.Pairwise.nil
  | [a], _ => simp
theorem soundA1 : dA1.h.sound := sound1 iA 0 (by omega) [] (by simp) (by simp)
theorem soundA2 : dA2.h.sound := sound1 iA 1 (by omega) [iA] (by simp) (fun i hi => by simp at hi; subst hi; exact ⟨rfl, by simp [iA], by simp [iA], by simp [iA], by simp [iA]⟩)
theorem soundA3 : dA3.h.sound := sound1 iA 1 (by omega) [iB] (by simp) (fun i hi => by simp at hi; subst hi; exact ⟨rfl, by simp [iB], by simp [iB], by simp [iB], by simp [iB]⟩)
theorem ok0 : dA0.okD aM 0 := okD_of sound0 (by simp [dA0]) (by simp [dA0]) (by simp [dA0]) (by omega)
theorem ok1 : dA1.okD aP 0 := okD_of soundA1 (by decide) (by simp [dA1]) (by simp [dA1]) (by omega)
theorem ok2 : dA2.okD aT 0 := okD_of soundA2 (by have := lA_len; show lA.length ≤ _; omega) (by simp [dA2]) (by simp [dA2]) (by omega)
theorem ok3 : dA3.okD aW 0 := okD_of soundA3 (by have := lA_len; show lA.length ≤ _; omega) (by simp [dA3]) (by simp [dA3]) (by omega)
theorem ok4 : ∀ k (hk : k < [tA].length), LeaveOk (leaveF dL3 ([tA].take k)) [tA][k] := by
  intro k hk
  have : k = 0 := by simp at hk; omega
  subst this
  exact ⟨sound_okH soundA3, by have := lA_len; show lA.length ≤ _; omega, fun h0 => tagF_r soundA3 8 tA h0⟩
end Go.Proofs.Ytkddkpdfeeikhaa

/-
  The desks behind a take and a done may be asked.
-/
namespace Go.Proofs.Ytkddkpdfeeikhaa
set_option linter.unusedVariables false
set_option linter.unusedSimpArgs false

theorem setQ_ok {h : HD} (R : h.rt) (ok : h.okH) {k : Nat} (hk : k < h.queues.length) (its : List IT) (hl : its.length ≤ h.queues[k].items.length) (hi : ∀ i ∈ its, i.fits ∧ ∃ j ∈ h.queues[k].items, i.note = j.note ∧ i.id = j.id) :
    (h.setQ k ⟨h.queues[k].name, h.queues[k].limit, its⟩).rt ∧ (h.setQ k ⟨h.queues[k].name, h.queues[k].limit, its⟩).okH := by
  have hm := List.getElem_mem hk
  obtain ⟨hsm, hft, h0, h1⟩ := ok
  refine ⟨⟨fun q hq => ?_, R.next, fun q hq i hi' => ?_⟩, ⟨by simp only [HD.setQ, List.length_set]; exact hsm.1, fun q hq => ?_⟩, fun q hq i hi' => ?_, h0, h1⟩
  · rcases List.mem_or_eq_of_mem_set hq with hq | e
    · exact R.names q hq
    · rw [e]; exact R.names h.queues[k] hm
  · rcases List.mem_or_eq_of_mem_set hq with hq | e
    · exact R.items q hq i hi'
    · rw [e] at hi'
      obtain ⟨-, j, hj, e1, e2⟩ := hi i hi'
      rw [e1, e2]
      exact R.items h.queues[k] hm j hj
  · rcases List.mem_or_eq_of_mem_set hq with hq | e
    · exact hsm.2 q hq
    · rw [e]
      refine ⟨Nat.le_trans hl (hsm.2 _ hm).1, fun i hi' => ?_⟩
      obtain ⟨-, j, hj, e1, -⟩ := hi i hi'
      rw [e1]
      exact (hsm.2 _ hm).2 j hj
  · rcases List.mem_or_eq_of_mem_set hq with hq | e
    · exact hft q hq i hi'
    · rw [e] at hi'
      exact (hi i hi').1
theorem tagF7_r {h : HD} (R : h.rt) (t : TD) (h0 : (tagF h 7 t).2.2 = 0) : (∀ e ∈ (tagF h 7 t).2.1, e.right) ∧ (tagF h 7 t).2.1.length ≤ 4194304 := by
  unfold tagF at h0 ⊢
  rw [if_neg (by decide)] at h0 ⊢
  obtain ⟨j, hj, e, -⟩ := face_at h0
  rw [e]
  have := done_r R hj t.id t.turn
  exact ⟨this.1, by omega⟩
theorem change7_r {h : HD} (R : h.rt) (ok : h.okH) (n : Int) (h0 : (changeF h (aD n)).2.2 = 0) : (∀ e ∈ (changeF h (aD n)).2.1, e.right) ∧ (changeF h (aD n)).2.1.length ≤ 4194304 := by
  unfold changeF at h0 ⊢
  rw [if_neg (by simp [aD]), if_neg (by simp [aD]), if_neg (by simp [aD])] at h0 ⊢
  obtain ⟨j, hj, e, -⟩ := face_at h0
  rw [e]
  have hm := List.getElem_mem hj
  refine ⟨fun x hx => ?_, ?_⟩
  · simp only [purgeF, goneL, List.mem_map, List.mem_filter] at hx
    obtain ⟨id, ⟨i, ⟨hi, -⟩, rfl⟩, rfl⟩ := hx
    have hit := R.items _ hm i hi
    exact gone_r (R.names _ hm) hit.2.1 hit.2.2
  · have h1 := goneL_len h.queues[j].items
    have h2 := (ok.1.2 _ hm).1
    simp only [purgeF, List.length_map]
    omega
theorem okD7 {d : DK} {n now : Int} (R : d.h.rt) (ok : d.h.okH) (hl : d.l.length ≤ 140737488355328) (ht : d.ts.length ≤ 3518437208832) (hn : 0 ≤ d.nx ∧ d.nx ≤ 1000000000) (hw : 0 ≤ now ∧ now ≤ 1000000000) : d.okD (aD n) now :=
  ⟨ok, hl, ht, hn, hw, fun t _ h0 => tagF7_r R t h0, fun _ h0 => change7_r R ok n h0⟩
/-- The hall behind a take. -/
theorem ssTake_ok {h : HD} (s : h.sound) {k : Nat} (hk : k < h.queues.length) {i : Nat} (hi : i < h.queues[k].items.length) (now : Int) :
    (h.setQ k ⟨h.queues[k].name, h.queues[k].limit, h.queues[k].items.set i (takeI now h.queues[k].items[i])⟩).rt ∧ (h.setQ k ⟨h.queues[k].name, h.queues[k].limit, h.queues[k].items.set i (takeI now h.queues[k].items[i])⟩).okH := by
  refine setQ_ok (sound_rt s) (sound_okH s) hk _ (by simp) fun x hx => ?_
  have hft := (sound_okH s).2.1 _ (List.getElem_mem hk)
  rcases List.mem_or_eq_of_mem_set hx with hx | e
  · exact ⟨hft x hx, x, hx, rfl, rfl⟩
  · have hS := (s.2.2 k hk).1.2.2.2.1 _ (List.getElem_mem hi)
    rw [e]
    refine ⟨⟨?_, (hft _ (List.getElem_mem hi)).2⟩, _, List.getElem_mem hi, rfl, rfl⟩
    have := hS.2.2.1
    simp only [takeI]
    omega
/-- The hall behind a done. -/
theorem ssDone_ok {h : HD} (R : h.rt) (ok : h.okH) (t : TD) (h0 : (tagF h 7 t).2.2 = 0) : (tagF h 7 t).1.rt ∧ (tagF h 7 t).1.okH := by
  unfold tagF at h0 ⊢
  rw [if_neg (by decide)] at h0 ⊢
  obtain ⟨j, hj, e, -⟩ := face_at h0
  rw [e] at h0 ⊢
  unfold doneF at h0 ⊢
  split
  · exact ⟨R, ok⟩
  · rename_i i hi
    refine setQ_ok R ok hj _ (by rw [List.length_eraseIdx]; split <;> omega) fun x hx => ?_
    have hm := List.mem_of_mem_eraseIdx hx
    exact ⟨ok.2.1 _ (List.getElem_mem hj) x hm, x, hm, rfl, rfl⟩
theorem write_ok7 (d : DK) (r : HD × List ED × Int) (R : d.h.rt) (ok : d.h.okH) (hr : r.2.2 = 0 → r.1.rt ∧ r.1.okH) : ((d.write r).1.h.rt ∧ (d.write r).1.h.okH) ∧ ((d.write r).1.l = d.l ∨ (d.write r).1.l.length ≤ 6000) := by
  unfold DK.write
  split
  · rename_i h0
    split
    · rename_i h1
      refine ⟨hr h0, .inr ?_⟩
      have h2 := h1
      unfold SR.appE at h2
      split at h2
      · omega
      · split at h2
        · omega
        · simp only [SR.appB, if_pos h1, List.length_append, SR.framesB_len]
          omega
    · exact ⟨⟨R, ok⟩, .inl rfl⟩
  · exact ⟨⟨R, ok⟩, .inl rfl⟩
/-- The desk behind a done. -/
theorem part_ok7 (d : DK) (n : Int) (R : d.h.rt) (ok : d.h.okH) : ((d.part 7 n).1.h.rt ∧ (d.part 7 n).1.h.okH) ∧ ((d.part 7 n).1.l = d.l ∨ (d.part 7 n).1.l.length ≤ 6000) ∧ (d.part 7 n).1.ts.length ≤ d.ts.length ∧ (d.part 7 n).1.nx = d.nx := by
  unfold DK.part
  split
  · exact ⟨⟨R, ok⟩, .inl rfl, Nat.le_refl _, rfl⟩
  · rename_i i hi
    split
    · exact ⟨⟨R, ok⟩, .inl rfl, Nat.le_refl _, rfl⟩
    · rename_i t ht
      have hw := write_ok7 d (tagF d.h 7 t) R ok fun h0 => ssDone_ok R ok t h0
      have hs := write_ts d (tagF d.h 7 t)
      split
      · exact ⟨hw.1, hw.2, by rw [hs.1]; exact Nat.le_refl _, hs.2⟩
      · refine ⟨hw.1, hw.2, ?_, hs.2⟩
        simp only [List.length_eraseIdx]
        split <;> omega
end Go.Proofs.Ytkddkpdfeeikhaa

/-
  The desks behind a take and a done may be asked: plainly.
-/
namespace Go.Proofs.Ytkddkpdfeeikhaa
set_option linter.unusedVariables false
set_option linter.unusedSimpArgs false

theorem tags_ok (h : HD) (s : h.sound) (ts : List TD) (nx : Int) (name : ByteArray) (now : Int) (hw : 0 ≤ now ∧ now ≤ 1000) (hts : ∀ t ∈ ts, t.n ≤ nx) (hnx : 0 ≤ nx ∧ nx < 1000000) {d1 : DK} {sk sn sm se z : Int} {nd : ND} (he : (⟨h, [], 0, ts, nx⟩ : DK).answer ⟨5, name, 0, noteN⟩ now = (d1, ⟨sk, sn, sm, se, nd⟩, z)) (h2 : sk = 2) :
    sn = nx + 1 ∧ z = 0 ∧ d1.ts.length = ts.length + 1 ∧ ts.length < 4 ∧ d1.okD (aD (nx + 1)) now ∧
      ∃ d2 : DK, d1.answer (aD (nx + 1)) now = (d2, ⟨1, 0, 0, 0, noteN⟩, 0) ∧ 0 < d2.l.length ∧ d2.l.length ≤ 6000 ∧ d2.okD (aD (nx + 1)) now ∧ d2.answer (aD (nx + 1)) now = (d2, ⟨4, 0, 0, 6, noteN⟩, 0) := by
  have h2' : ((⟨h, [], 0, ts, nx⟩ : DK).answer ⟨5, name, 0, noteN⟩ now).2.1.kind = 2 := by rw [he]; exact h2
  obtain ⟨e1, e2, e3, d2, e4, e5, e6⟩ := tags_plain h (sound_rt s) ts nx name now now hts hnx h2'
  have hw5 : (⟨5, name, 0, noteN⟩ : AD).wrong = 0 := by
    by_cases hw5 : (⟨5, name, 0, noteN⟩ : AD).wrong = 0
    · exact hw5
    · unfold DK.answer at h2'
      rw [if_neg hw5] at h2'
      simp [saySay, sayE, hw5] at h2'
  have ea : (⟨h, [], 0, ts, nx⟩ : DK).answer ⟨5, name, 0, noteN⟩ now = (⟨h, [], 0, ts, nx⟩ : DK).take 5 name now := by
    unfold DK.answer
    rw [if_pos hw5]
    rfl
  have h4 : ts.length < 4 := by
    by_cases h4 : ts.length < 4
    · exact h4
    · rw [ea] at h2'
      unfold DK.take at h2'
      rw [if_pos (show 4 ≤ ts.length by omega)] at h2'
      simp [saySay, sayE] at h2'
  rw [ea] at h2'
  obtain ⟨k, hk, i, hi, hf, -, -, g3⟩ := take_given _ name now h2'
  rw [← ea] at g3
  rw [he] at e1 e2 e3 e4 g3
  simp only at e1 e2 e3 e4 g3 hk hi
  have hok := ssTake_ok s hk hi now
  rw [g3] at e3 e4
  have hrt : d1.h.rt ∧ d1.h.okH := by rw [g3]; exact hok
  have hl1 : d1.l = [] := by rw [g3]
  have hn1 : d1.nx = nx + 1 := by rw [g3]
  rw [← g3] at e3 e4
  have hd1 : d1.okD (aD (nx + 1)) now := okD7 hrt.1 hrt.2 (by rw [hl1]; simp) (by omega) (by omega) (by omega)
  have hdw := aD_wrong (nx + 1) (by omega)
  have ed : d1.answer (aD (nx + 1)) now = ((d1.part 7 (nx + 1)).1, saySay (d1.part 7 (nx + 1)).2, 0) := by
    unfold DK.answer
    rw [if_pos hdw]
    rfl
  have hd : d2 = (d1.part 7 (nx + 1)).1 := by rw [ed] at e4; exact (congrArg (·.1) e4).symm
  obtain ⟨p1, p2, p3, p4⟩ := part_ok7 d1 (nx + 1) hrt.1 hrt.2
  rw [← hd] at p1 p2 p3 p4
  have hl2 : d2.l.length ≤ 6000 := by
    rcases p2 with p | p
    · rw [p, hl1]; simp
    · exact p
  exact ⟨e1, e2, e3, h4, hd1, d2, e4, e5, hl2, okD7 p1.1 p1.2 (by omega) (by omega) (by omega) (by omega), e6⟩
end Go.Proofs.Ytkddkpdfeeikhaa
