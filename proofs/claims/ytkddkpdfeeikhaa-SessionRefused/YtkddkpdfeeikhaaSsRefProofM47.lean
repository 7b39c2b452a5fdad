/-
  JReplay; JAliveF; SsAliveF: texts laid together.
-/
import Derived.Test.YtkddkpdfeeikhaaSsRefProofM41
import Derived.Test.YtkddkpdfeeikhaaSsRefProofM46
import Derived.Test.YtkddkpdfeeikhaaSsRefProofM24
import Derived.Test.YtkddkpdfeeikhaaSsRefProofM43
import Derived.Deep.RegionHeld3
import Derived.Test.YtkddkpdfeeikhaaSsRefProofM44
/-
  journal.Replay.
-/
namespace Go.Proofs.Ytkddkpdfeeikhaa
open Go.RowKit Go.WideMaps Go.Maps
set_option linter.unusedVariables false
set_option linter.unusedSimpArgs false

attribute [local go_sem ↓] Go.wp_at_zero Go.wp_at_succ

/-- More blocks that are let alone. -/
theorem JH.more {lo : Nat} {N N' : Nat → Prop} {hb xb pb mb : Nat} {w : World} {v : Value} {L : QuL} {next : Int} (H : JH lo N hb xb pb mb w v L next) (hN : ∀ b, N b → N' b) (hN' : ∀ b, N' b → N b ∨ (b < w.heap.size ∧ ¬ Foot v L b ∧ ¬ (b = hb ∨ b = xb ∨ b = pb ∨ b = mb))) : JH lo N' hb xb pb mb w v L next := by
  refine ⟨H.rows.more hN fun b h => ?_, H.box, H.xbox, H.pbox, H.map, H.ne, H.los, fun b h => ?_⟩
  · rcases h with h | h
    · rcases hN' b h with h | h
      · exact .inl (.inl h)
      · exact .inr ⟨h.1, h.2.1⟩
    · exact .inl (.inr h)
  · rcases hN' b h with h | h
    · exact H.note b h
    · exact h.2.2

/-- What holds in 'Replay', behind k records. -/
structure RPI (lo : Nat) (N0 : Nat → Prop) (hb xb pb : Nat) (w2 : World) (h : HD) (wr : World) : Prop where
  step : ∃ (N : Nat → Prop) (mb : Nat) (v : Value) (L : QuL), (∀ b, N0 b → N b) ∧ L.map Prod.fst = h.queues ∧ JH lo N hb xb pb mb wr v L h.next ∧ ∀ b, N b → lo ≤ b
  kept : Kept lo N0 w2 wr

theorem RPI.on {lo : Nat} {N0 : Nat → Prop} {hb xb pb : Nat} {w2 : World} {h : HD} {wr W : World} (H : RPI lo N0 hb xb pb w2 h wr) (hlo : lo ≤ wr.heap.size) (hlt : ∀ b, N0 b → b < wr.heap.size) (hB : Below wr.heap.size wr W) : RPI lo N0 hb xb pb w2 h W := by
  obtain ⟨⟨N, mb, v, L, h1, h2, h3, h4⟩, hk⟩ := H
  exact ⟨⟨N, mb, v, L, h1, h2, h3.below hB, h4⟩, hk.trans ⟨fun b hb => hB.block b (hlt b hb), hB.mono hlo⟩⟩

theorem RPI.next {lo : Nat} {N0 N : Nat → Prop} {hb xb pb : Nat} {w2 : World} {h' : HD} {W w4 : World} (hN0 : ∀ b, N0 b → N b) (hlN : ∀ b, N b → lo ≤ b) (hlo : lo ≤ W.heap.size) (hk : Kept lo N0 w2 W) (hs : StepAns lo N hb xb pb W h' w4) : RPI lo N0 hb xb pb w2 h' w4 := by
  obtain ⟨N', mb', v', L', ⟨k1, k2⟩, k3, k4, k5⟩ := hs
  exact ⟨⟨N', mb', v', L', fun b h => k1 b (hN0 b h), k3, k4, fun b h => (k2 b h).elim (hlN b) (fun h => by omega)⟩, hk.trans (k5.anti hN0)⟩

end Go.Proofs.Ytkddkpdfeeikhaa

/-
  What tglaw5.alive asks, plainly: its hall, its entries, what comes back.
-/
namespace Go.Proofs.Ytkddkpdfeeikhaa
open Go.RowKit Go.WideMaps Go.Maps
set_option linter.unusedVariables false
set_option linter.unusedSimpArgs false

attribute [local go_sem ↓] Go.wp_at_zero Go.wp_at_succ

def sA : ByteArray := ⟨#[97]⟩
def nX : ND := ⟨[], [120]⟩
def hA1 : HD := ⟨[⟨sA, 2, []⟩], 0⟩
def hA2 : HD := ⟨[⟨sA, 2, [⟨7, 0, 0, false, 0, nX⟩]⟩], 8⟩

theorem sA_size : sA.size = 1 := rfl
theorem sA_max : sA.size ≤ maxLen := by rw [sA_size]; unfold maxLen; omega
theorem keyA : keyB sA = true := by decide
end Go.Proofs.Ytkddkpdfeeikhaa

/-
  What tglaw6.alive asks, plainly.
-/
namespace Go.Proofs.Ytkddkpdfeeikhaa
open Go.RowKit
set_option linter.unusedVariables false
set_option linter.unusedSimpArgs false

attribute [local go_sem ↓] Go.wp_at_zero Go.wp_at_succ

theorem okD_of {d : DK} {a : AD} {now : Int} (s : d.h.sound) (hl : d.l.length ≤ 140737488355328) (ht : d.ts.length ≤ 3518437208832) (hn : 0 ≤ d.nx ∧ d.nx ≤ 1000000000) (hw : 0 ≤ now ∧ now ≤ 1000000000) : d.okD a now :=
  ⟨sound_okH s, hl, ht, hn, hw, fun t _ h0 => tagF_r s _ t h0, fun _ h0 => changeF_r s a h0⟩

def dA0 : DK := ⟨⟨[], 0⟩, [], 0, [], 0⟩
def aM : AD := ⟨2, sA, 2, noteN⟩
def aP : AD := ⟨4, sA, 0, nX⟩
def aT : AD := ⟨5, sA, 0, noteN⟩
def aW : AD := ⟨6, sA, 2, noteN⟩
def aZ : AD := ⟨0, ⟨#[]⟩, 0, noteN⟩
def lA : List UInt8 := SR.framesB [entryB ⟨1, sA, 2, 0, nN⟩] ++ SR.framesB [entryB ⟨3, sA, 0, 0, nX⟩]
def dA1 : DK := ⟨⟨[⟨sA, 2, []⟩], 0⟩, SR.framesB [entryB ⟨1, sA, 2, 0, nN⟩], 0, [], 0⟩
def iA : IT := ⟨0, 0, 0, false, 0, nX⟩
def iB : IT := ⟨0, 1, 0, true, 5, nX⟩
def iC : IT := ⟨0, 1, 1, false, 0, nX⟩
def tA : TD := ⟨1, sA, 0, 1⟩
def dA2 : DK := ⟨⟨[⟨sA, 2, [iA]⟩], 1⟩, lA, 0, [], 0⟩
def dA3 : DK := ⟨⟨[⟨sA, 2, [iB]⟩], 1⟩, lA, 0, [tA], 1⟩
def dL3 : DK := ⟨⟨[⟨sA, 2, [iB]⟩], 1⟩, lA, 0, [], 0⟩
def dL4 : DK := ⟨⟨[⟨sA, 2, [iC]⟩], 1⟩, lA, 0, [], 0⟩
theorem an1 : dA0.answer aM 0 = (dA1, ⟨1, 0, 0, 0, noteN⟩, 0) := by kernel_rfl
theorem an2 : dA1.answer aP 0 = (dA2, ⟨1, 0, 0, 0, noteN⟩, 0) := by kernel_rfl
theorem an3 : dA2.answer aT 0 = (dA3, ⟨2, 1, 0, 0, nX⟩, 0) := by kernel_rfl
theorem an4 : dA3.answer aW 0 = (dA3, ⟨0, 0, 0, 0, noteN⟩, 9) := by kernel_rfl
theorem an5 : leaveF dL3 [tA] = dL4 := by kernel_rfl
theorem an6 : aZ.wrong = 1 := by kernel_rfl
theorem lA_len : 8 < lA.length ∧ lA.length ≤ 1000 := by decide

theorem sound0 : (⟨[], 0⟩ : HD).sound := ⟨by simp, by simp, fun k hk => by simp at hk⟩
theorem sound1 (i : IT) (nx : Int) (hn : 0 ≤ nx ∧ nx ≤ 1000000) (its : List IT) (hl : its.length ≤ 1) (h : ∀ i ∈ its, i.sound nx) : (⟨[⟨sA, 2, its⟩], nx⟩ : HD).sound := by
  refine ⟨by simp, hn, fun k hk => ?_⟩
  have : k = 0 := by simp at hk; omega
  subst this
  refine ⟨⟨keyA, by simp, by simp only [List.getElem_cons_zero]; omega, fun i hi => h i (by simpa using hi), ?_⟩, idxQ_yes _ _ 0 (by simp) (by simp) (nameB_self _)⟩
  simp only [List.getElem_cons_zero]
  match its, hl with
  | [], _ => exact List.Pairwise.nil
  | [a], _ => simp
theorem soundA1 : dA1.h.sound := sound1 iA 0 (by omega) [] (by simp) (by simp)
theorem soundA2 : dA2.h.sound := sound1 iA 1 (by omega) [iA] (by simp) (fun i hi => by simp at hi; subst hi; exact ⟨rfl, by simp [iA], by simp [iA], by simp [iA], by simp [iA]⟩)
theorem soundA3 : dA3.h.sound := sound1 iA 1 (by omega) [iB] (by simp) (fun i hi => by simp at hi; subst hi; exact ⟨rfl, by simp [iB], by simp [iB], by simp [iB], by simp [iB]⟩)
theorem ok0 : dA0.okD aM 0 := okD_of sound0 (by simp [dA0]) (by simp [dA0]) (by simp [dA0]) (by omega)
theorem ok1 : dA1.okD aP 0 := okD_of soundA1 (by decide) (by simp [dA1]) (by simp [dA1]) (by omega)
theorem ok2 : dA2.okD aT 0 := okD_of soundA2 (by have := lA_len; show lA.length ≤ _; omega) (by simp [dA2]) (by simp [dA2]) (by omega)
theorem ok3 : dA3.okD aW 0 := okD_of soundA3 (by have := lA_len; show lA.length ≤ _; omega) (by simp [dA3]) (by simp [dA3]) (by omega)
theorem ok4 : ∀ k (hk : k < [tA].length), LeaveOk (leaveF dL3 ([tA].take k)) [tA][k] := by
  intro k hk
  have : k = 0 := by simp at hk; omega
  subst this
  exact ⟨sound_okH soundA3, by have := lA_len; show lA.length ≤ _; omega, fun h0 => tagF_r soundA3 8 tA h0⟩
end Go.Proofs.Ytkddkpdfeeikhaa
