/-
  NtRefBase; NtRefBytes: texts laid together.
-/
import Derived.Test.YtkddkpdfeeikhaaJTellsProofM37
import Derived.Test.YtkddkpdfeeikhaaJTellsProofM33
import Derived.Deep.RegionHeld3
/-
  tgref1.Parse answers what parseF says of any bytes.
-/
namespace Go.Proofs.Ytkddkpdfeeikhaa.NT
open Go.RowKit
set_option linter.unusedVariables false
set_option linter.unusedSimpArgs false

/-- What is told of the bytes: the note, how many, the error. -/
def Told (b : List UInt8) (w : World) (e : Ending) (w' : World) : Prop :=
  ∃ v u, e = .returned (.tuple #[.agg #[v, u], .int .i64 (parseF b).2.2.2, .int .i64 (parseF b).1]) ∧ SliceP w'.heap.size w' v (parseF b).2.1 ∧ SliceB w'.heap.size w' u (parseF b).2.2.1 ∧ Below w.heap.size w w'

theorem told_no {b : List UInt8} {w w' : World} {c : Int} (hp : parseF b = (c, [], [], 0)) (hb : Below w.heap.size w w') : Told b w (.returned (.tuple #[.agg #[.slice none 0 0, .slice none 0 0], .int .i64 0, .int .i64 c])) w' := by
  unfold Told
  rw [hp]
  exact ⟨_, _, rfl, SliceP.nil _ _, SliceB.nil _ _, hb⟩

set_option maxRecDepth 100000 in
set_option maxHeartbeats 1000000 in
theorem refParse_small (a : Option Addr) (cap : Nat) (b : List UInt8) (w : World) (hb : SliceB w.heap.size w (.slice a b.length cap) b) (h : b = [] ∨ ∃ h0 : 0 < b.length, 4 < (b[0]).toNat) :
    Calls Try.prog 43 #[.slice a b.length cap] w (Told b w) := by
  rcases h with rfl | ⟨h0, h4⟩
  · have HP : Hid (parseF [] = (9, [], [], 0)) := rfl
    go_enter Try.func43, Try.ntmps43
    go_wp2_with (go_at_call 74; refine (refNo_any _ _).mono ?_; rintro e w1 ⟨rfl, hb1⟩; obtain ⟨k1, k2⟩ := bcell hb1)
    exact bodyPost_ret (v := .tuple #[.agg #[.slice none 0 0, .slice none 0 0], .int .i64 0, .int .i64 9]) (by simp [results, Try.results43, go_sem, *]) rfl (told_no HP.out (((((below_alloc _ _).alloc (by simp) _).trans (hb1.mono (by simp; omega))).setCell (by simp) _).setCell (by simp) _))
  · have HP : Hid (parseF b = (5, [], [], 0)) := by
      show parseF b = _
      have := sizeF_at b 0 h0
      rw [List.drop_zero] at this
      rw [parseF, this]; simp [h4]
    obtain ⟨_, _, e, hc, hm, hn, hby⟩ := hb
    simp only [Value.slice.injEq] at e
    obtain ⟨rfl, -, rfl⟩ := e
    obtain ⟨g, off, rfl, hg, hcell⟩ := hby 0 h0
    rw [Nat.add_zero] at hcell
    obtain ⟨c, hcc⟩ : ∃ c, c = b[0] := ⟨_, rfl⟩
    rw [← hcc] at hcell h4
    have h4' : (4 : Int) < (c.toNat : Int) := by omega
    have hl : ((b.length : Int) == 0) = false := beq_eq_false_iff_ne.2 (by omega)
    have hl2 : (0 : Int) < (b.length : Int) := by omega
    clear hn hcc hby
    go_enter Try.func43, Try.ntmps43
    go_wp2_with (go_at_call 74; refine (refNo_any _ _).mono ?_; rintro e w1 ⟨rfl, hb1⟩; obtain ⟨k1, k2⟩ := bcell hb1)
    exact bodyPost_ret (v := .tuple #[.agg #[.slice none 0 0, .slice none 0 0], .int .i64 0, .int .i64 5]) (by simp [results, Try.results43, go_sem, *]) rfl (told_no HP.out (((((below_alloc _ _).alloc (by simp) _).trans (hb1.mono (by simp; omega))).setCell (by simp) _).setCell (by simp) _))

theorem five_below (w : World) (o1 o2 o3 o4 o5 : Obj) : Below w.heap.size w (((((w.alloc o1).alloc o2).alloc o3).alloc o4).alloc o5) :=
  (((((below_alloc _ _).alloc (by simp) _).alloc (by simp; omega) _).alloc (by simp; omega) _).alloc (by simp; omega) _)
theorem pw_start (w : World) (a : Option Addr) (n c : Nat) : PW w.heap.size (((((w.alloc (.cells #[.slice a n c] 26)).alloc (.cells #[.slice none 0 0, .slice none 0 0] 28)).alloc (.cells #[.int .i64 1] 3)).alloc (.cells #[.bool false] 4)).alloc (.cells #[.slice none 0 0, .slice none 0 0] 28)) a n c 1 false (.slice none 0 0) := by
  have e1 := heap_alloc_new (w.alloc (.cells #[.slice a n c] 26)) (.cells #[.slice none 0 0, .slice none 0 0] 28)
  have e2 := heap_alloc_new ((w.alloc (.cells #[.slice a n c] 26)).alloc (.cells #[.slice none 0 0, .slice none 0 0] 28)) (.cells #[.int .i64 1] 3)
  have e3 := heap_alloc_new (((w.alloc (.cells #[.slice a n c] 26)).alloc (.cells #[.slice none 0 0, .slice none 0 0] 28)).alloc (.cells #[.int .i64 1] 3)) (.cells #[.bool false] 4)
  have e4 := heap_alloc_new ((((w.alloc (.cells #[.slice a n c] 26)).alloc (.cells #[.slice none 0 0, .slice none 0 0] 28)).alloc (.cells #[.int .i64 1] 3)).alloc (.cells #[.bool false] 4)) (.cells #[.slice none 0 0, .slice none 0 0] 28)
  simp only [World.size_alloc] at e1 e2 e3 e4
  refine ⟨?_, ?_, ?_, ?_, e4⟩
  · exact (Below.heap_alloc _ _ _ (by simp; omega)).trans ((Below.heap_alloc _ _ _ (by simp; omega)).trans ((Below.heap_alloc _ _ _ (by simp; omega)).trans ((Below.heap_alloc _ _ _ (by simp)).trans (heap_alloc_new w _))))
  · exact (Below.heap_alloc _ _ _ (by simp <;> omega)).trans ((Below.heap_alloc _ _ _ (by simp <;> omega)).trans ((Below.heap_alloc _ _ _ (by simp)).trans e1))
  · exact (Below.heap_alloc _ _ _ (by simp <;> omega)).trans ((Below.heap_alloc _ _ _ (by simp)).trans e2)
  · exact (Below.heap_alloc _ _ _ (by simp)).trans e3

theorem PW.keep {B : Nat} {w w' : World} {a : Option Addr} {n c p : Nat} {sh : Bool} {v : Value} (h : PW B w a n c p sh v) (hb : ∀ k, B ≤ k → k < B + 5 → w'.heap[k]? = w.heap[k]?) : PW B w' a n c p sh v :=
  ⟨h.b.same (hb _ (by omega) (by omega)), h.r.same (hb _ (by omega) (by omega)), h.p.same (hb _ (by omega) (by omega)), h.s.same (hb _ (by omega) (by omega)), h.n.same (hb _ (by omega) (by omega))⟩
theorem PW.alloc {B : Nat} {w : World} {a : Option Addr} {n c p : Nat} {sh : Bool} {v : Value} (h : PW B w a n c p sh v) (o : Obj) : PW B (w.alloc o) a n c p sh v :=
  h.keep (fun k _ hk => Below.heap_alloc _ _ _ (by have := h.n.lt; omega))
theorem PW.put {B : Nat} {w : World} {a : Option Addr} {n c p : Nat} {sh : Bool} {v : Value} (h : PW B w a n c p sh v) (q : Nat) (z : Int) (hz : z = q) : PW B (w.setCell ⟨B + 1 + 1, 0, none⟩ (.int .i64 z)) a n c q sh v := by
  subst hz
  exact h.setP q 0
theorem PW.setN {B : Nat} {w : World} {a : Option Addr} {n c p : Nat} {sh : Bool} {v : Value} (h : PW B w a n c p sh v) (v' : Value) : PW B (w.setCell ⟨B + 1 + 1 + 1 + 1, 0, none⟩ v') a n c p sh v' :=
  ⟨h.b.same (Below.heap_setCell w _ _ _ (by dsimp only; omega)), h.r.same (Below.heap_setCell w _ _ _ (by dsimp only; omega)), h.p.same (Below.heap_setCell w _ _ _ (by dsimp only; omega)), h.s.same (Below.heap_setCell w _ _ _ (by dsimp only; omega)), h.n.set0 _⟩

def PropBlk (w : World) (b : Nat) (p : PD) : Prop := w.heap[b]? = some (.cells #[.string p.key, .int .i64 p.kind, .int .i64 p.n, .string p.text] 98 (0, 0))
theorem PropBlk.c0 {w : World} {b : Nat} {p : PD} (h : PropBlk w b p) : w.cell? ⟨b, 0, none⟩ = some (.string p.key) := by rw [cell_of_row w b 0 _ 98 (0, 0) h]; rfl
theorem PropBlk.c1 {w : World} {b : Nat} {p : PD} (h : PropBlk w b p) : w.cell? ⟨b, 1, none⟩ = some (.int .i64 p.kind) := by rw [cell_of_row w b 1 _ 98 (0, 0) h]; rfl
theorem PropBlk.c2 {w : World} {b : Nat} {p : PD} (h : PropBlk w b p) : w.cell? ⟨b, 2, none⟩ = some (.int .i64 p.n) := by rw [cell_of_row w b 2 _ 98 (0, 0) h]; rfl
theorem PropBlk.c3 {w : World} {b : Nat} {p : PD} (h : PropBlk w b p) : w.cell? ⟨b, 3, none⟩ = some (.string p.text) := by rw [cell_of_row w b 3 _ 98 (0, 0) h]; rfl
theorem PropBlk.f {w : World} {b : Nat} {p : PD} (h : PropBlk w b p) (o : Nat) : w.frozen? ⟨b, o, none⟩ = false := by
  unfold PropBlk at h
  simp [World.frozen?, h]

theorem new_prop (w : World) (p : PD) : SliceP (w.heap.size + 1) (w.alloc (.cells #[.string p.key, .int .i64 p.kind, .int .i64 p.n, .string p.text] 98)) (.slice (some ⟨w.heap.size, 0, none⟩) 1 1) [p] := by
  refine ⟨_, _, rfl, Nat.le_refl _, by simp [maxLen], fun h => by simp at h, fun i hi => ⟨w.heap.size, 0, rfl, by omega, ?_⟩⟩
  have : i = 0 := by simpa using hi
  subst this
  unfold PropAt
  simp

theorem cells_one (p : PD) : ∀ u ∈ p.cells, u.oneCell' = true := by
  intro u hu
  simp only [PD.cells, List.mem_cons, List.not_mem_nil, or_false] at hu
  rcases hu with rfl | rfl | rfl | rfl <;> rfl
theorem cellsL_one (ps : List PD) : ∀ u ∈ cellsL ps, u.oneCell' = true := by
  intro u hu
  simp only [cellsL, List.mem_flatMap] at hu
  obtain ⟨p, _, hp⟩ := hu
  exact cells_one p u hp

theorem props_news {B : Nat} {w : World} {ad : Addr} {ps : List PD} (h : PropsAt B w (some ad) ps) : ∀ j x, (cellsL ps)[j]? = some x → w.cell? (ad.add j) = some x := by
  intro j x hj
  have hjl : j < ps.length * 4 := by
    rcases Nat.lt_or_ge j (ps.length * 4) with h | h
    · exact h
    · simp [List.getElem?_eq_none (show (cellsL ps).length ≤ j by rw [cellsL_len]; exact h)] at hj
  obtain ⟨b, off, e, _, c0, c1, c2, c3⟩ := h (j / 4) (by omega)
  simp only [Option.some.injEq] at e
  subst e
  have hje : j = j / 4 * 4 + j % 4 := by omega
  have hc := cellsL_at ps (j / 4) (j % 4) (by omega) (by omega)
  rw [← hje, hj] at hc
  have h4 : j % 4 = 0 ∨ j % 4 = 1 ∨ j % 4 = 2 ∨ j % 4 = 3 := by omega
  rw [add_none]
  rcases h4 with h4 | h4 | h4 | h4 <;> rw [h4] at hc <;> simp only [PD.cells, List.getElem?_cons_zero, List.getElem?_cons_succ, Option.some.injEq] at hc <;> rw [hc]
  · rw [show off + j = off + j / 4 * 4 by omega]; exact c0
  · rw [show off + j = off + j / 4 * 4 + 1 by omega]; exact c1
  · rw [show off + j = off + j / 4 * 4 + 2 by omega]; exact c2
  · rw [show off + j = off + j / 4 * 4 + 3 by omega]; exact c3

/-- 'append(out, props...)', out the call's own. -/
theorem run_appP (w : World) (ty : TypeId) (base : Nat) (v : Value) (n : Nat) (xs : List Value) (hown : w.ownsRow base 98 4 v n xs) (B : Nat) (u : Value) (ps : List PD) (hu : SliceP B w u ps)
    (hb : (n + ps.length) * 48 ≤ 140737488355328) (hbase : base ≤ w.heap.size) :
    ∃ ao cap w', (Builtin.append_ #[25, 25] ty #[v, u]).run Try.prog w = .ok (.slice ao (n + ps.length) cap) w' ∧ w'.ownsRow base 98 4 (.slice ao (n + ps.length) cap) (n + ps.length) (xs ++ cellsL ps) ∧ w.grownBy w' v.ownBlock := by
  obtain ⟨i0, hi0, hz0, hz1, hz2⟩ := info_parts info38
  obtain ⟨a, cap, rfl, h1, h2, hn, h3⟩ := hu
  cases a with
  | none =>
    have hc := hn rfl
    have hl : ps.length = 0 := by omega
    obtain rfl : ps = [] := List.length_eq_zero_iff.1 hl
    subst hc
    have hr := run_append_owned_none (P := Try.prog) (w := w) base 25 ty 98 i0 4 Try.underlying25 hi0 v n xs hown
    obtain ⟨ao, cp, rfl, _⟩ := own_shape hown
    exact ⟨ao, cp, w, hr, by simpa [cellsL] using hown, grownBy_refl _ _⟩
  | some ad =>
    obtain ⟨v', w', hr, ho, hg, _⟩ := run_append_own (P := Try.prog) w base 25 ty 98 i0 _ 4 48 Try.underlying25 hi0 hz0 hz1 hz2 rfl (by omega) v n xs hown ad ps.length cap (cellsL ps) (cellsL_len ps) (props_news h3) (cellsL_one ps) (by unfold maxLen; omega) (by omega) hbase
    obtain ⟨ao, cp, rfl, _⟩ := own_shape ho
    exact ⟨ao, cp, w', hr, ho, hg⟩

theorem wpList_appP {w : World} {ops : Array Oper} {rest : List Oper} {o : Oper} {a : Act} {Q : Exit → Act → World → Prop} (hgd : o.guard = none) (s x : Operand) (ho : o.op = .call { callee := .builtin .append, args := #[s, x], argTypes := #[25, 25] })
    (base : Nat) (v : Value) (n : Nat) (xs : List Value) (hs : a.eval s = v) (hown : w.ownsRow base 98 4 v n xs) (B : Nat) (u : Value) (ps : List PD) (hx : a.eval x = u) (hu : SliceP B w u ps)
    (hb : (n + ps.length) * 48 ≤ 140737488355328) (hbase : base ≤ w.heap.size)
    (h : ∀ ao cap w', w'.ownsRow base 98 4 (.slice ao (n + ps.length) cap) (n + ps.length) (xs ++ cellsL ps) → w.grownBy w' v.ownBlock → wpList Try.prog ops Q rest (a.put o.dst (.slice ao (n + ps.length) cap)) w') :
    wpList Try.prog ops Q (o :: rest) a w := by
  refine wpList_plain hgd fun K hK => ?_
  obtain ⟨ao, cap, w', hr, h1, h2⟩ := run_appP w o.type base v n xs hown B u ps hu hb hbase
  exact wp_app_of s x ho hs hx hr (hK _ _ (h ao cap w' h1 h2))

/-- Behind the append of a property: the five blocks, what is owned, old memory. -/
theorem round_end {B k gg cap q : Nat} {W w3 wr w0 : World} {o : Obj} {a : Option Addr} {n c : Nat} {ao : Option Addr} {va : Option Addr} {vc : Nat} {ps : List PD} {p : PD} {s : List UInt8 × Bool}
    (hpw : PW B W a n c q false (.slice va k vc)) (hown : W.ownsRow (B + 5) 98 4 (.slice va k vc) k (cellsL ps)) (hlW : B + 5 ≤ W.heap.size) (bel : Below B w0 W)
    (hown3 : w3.ownsRow (B + 5) 98 4 (.slice ao (k + [p].length) cap) (k + [p].length) (cellsL ps ++ cellsL [p])) (hg : (W.alloc o).grownBy w3 (Value.slice va k vc).ownBlock) (v' : Value) (hv' : v' = .slice ao (k + 1) cap) :
    PW B (w3.setCell ⟨B + 1 + 1 + 1 + 1, 0, none⟩ v') a n c q false v' ∧ (w3.setCell ⟨B + 1 + 1 + 1 + 1, 0, none⟩ v').ownsRow (B + 5) 98 4 v' (k + 1) (cellsL (ps ++ [p])) ∧ Below B w0 (w3.setCell ⟨B + 1 + 1 + 1 + 1, 0, none⟩ v') ∧ B + 5 ≤ (w3.setCell ⟨B + 1 + 1 + 1 + 1, 0, none⟩ v').heap.size := by
  subst hv'
  have hz := hg.size
  simp at hz
  have hne : ∀ j, j < B + 5 → some j ≠ (Value.slice va k vc).ownBlock := fun j hj e => by have := (hown.lt j e.symm).1; omega
  have hblk : ∀ j, j < B + 5 → w3.heap[j]? = W.heap[j]? := fun j hj => (hg.block j (by simp; omega) (hne j hj)).trans (Below.heap_alloc _ _ _ (by omega))
  refine ⟨(hpw.keep (fun j _ hj => hblk j hj)).setN _, ?_, ?_, ?_⟩
  · rw [cellsL_snoc]
    refine ownsRow_setCell_below ?_ (by dsimp only; omega) _
    simpa [cellsL] using hown3
  · exact (bel.trans ⟨hg.os, hg.tape, hg.output, by omega, fun j hj => hblk j (by omega)⟩).setCell (by dsimp only; omega) _
  · simp [World.setCell]; omega

theorem propF_short1 (s) (h : (textF s).2.2 = true) : (propF s).2.2 = true := by
  cases hx : (propF s).2.2 with
  | true => rfl
  | false =>
    unfold propF at hx
    split at hx
    · have h1 := (sizeF_back _ (textF_back (sizeF (textF s).2).2 hx).1).1
      rw [h] at h1; simp at h1
    · have h1 := (sizeF_back _ (numberF_back (sizeF (textF s).2).2 hx).1).1
      rw [h] at h1; simp at h1
theorem propF_short2 (s) (h : (sizeF (textF s).2).2.2 = true) : (propF s).2.2 = true := by
  cases hx : (propF s).2.2 with
  | true => rfl
  | false =>
    unfold propF at hx
    split at hx
    · have h1 := (textF_back (sizeF (textF s).2).2 hx).1
      rw [h] at h1; simp at h1
    · have h1 := (numberF_back (sizeF (textF s).2).2 hx).1
      rw [h] at h1; simp at h1
theorem propF_short3 (s) (hk : (sizeF (textF s).2).1 = 2) (h : (textF (sizeF (textF s).2).2).2.2 = true) : (propF s).2.2 = true := by
  unfold propF; rw [if_pos hk]; exact h
theorem propF_short4 (s) (hk : ¬ (sizeF (textF s).2).1 = 2) (h : (numberF (sizeF (textF s).2).2).2.2 = true) : (propF s).2.2 = true := by
  unfold propF; rw [if_neg hk]; exact h

/-- Where a property ends too soon there is more to come. -/
theorem parse_more {bs : List UInt8} {c : UInt8} {k p : Nat} {h0 : 0 < bs.length} (hc : c = bs[0]) (h4 : c.toNat ≤ 4) (hk : k < c.toNat) (hst : (propsF k (bs.drop 1, false)).2 = (bs.drop p, false)) (hs : (propF (bs.drop p, false)).2.2 = true) : parseF bs = (9, [], [], 0) := by
  have e := sizeF_at bs 0 h0
  rw [List.drop_zero, ← hc, Nat.zero_add] at e
  have h1 : (propsF (k + 1) (bs.drop 1, false)).2.2 = true := by rw [propsF, hst]; exact hs
  have h2 := propsF_short _ (k + 1) (c.toNat - (k + 1)) h1
  rw [show k + 1 + (c.toNat - (k + 1)) = c.toNat by omega] at h2
  have h3 := noteF_short _ _ h2
  unfold parseF
  rw [e]
  have h5 : ¬ 4 < c.toNat := by omega
  rw [if_neg (by simp), if_neg h5, if_pos h3]
end Go.Proofs.Ytkddkpdfeeikhaa.NT

/-
  tgref1.Bytes writes what bytesF says of a note that is right.
-/
namespace Go.Proofs.Ytkddkpdfeeikhaa.NT
open Go.RowKit
set_option linter.unusedVariables false
set_option linter.unusedSimpArgs false

attribute [local go_sem ↓] Go.wp_at_zero Go.wp_at_succ

theorem own_below {w w' : World} {base : Nat} {e : TypeId} {size : Nat} {v : Value} {n : Nat} {xs : List Value} (h : w.ownsRow base e size v n xs) (hb : Below w.heap.size w w') : w'.ownsRow base e size v n xs :=
  h.kept (row := none) (grownBy_of_below hb) (by cases v.ownBlock <;> simp)
theorem block_bytes {w : World} {g : Nat} {cs : Array Value} {fr : Nat × Nat} (bs : List UInt8) (hl : bs.length ≤ maxLen) (hg : w.heap[g]? = some (.cells cs 5 fr)) (h : cs.toList = u8s bs) : SliceB w.heap.size w (.slice (some ⟨g, 0, none⟩) bs.length bs.length) bs := by
  refine ⟨_, _, rfl, Nat.le_refl _, hl, fun h => by simp at h, fun i hi => ⟨g, 0, rfl, (Array.getElem?_eq_some_iff.1 hg).1, ?_⟩⟩
  rw [cell_of_row w g _ cs 5 fr hg, Nat.zero_add, ← Array.getElem?_toList, h]
  simp [u8s, hi]

theorem step_appM {w : World} {ops : Array Oper} {o : Oper} {a : Act} {Q : Exit → Act → World → Prop} {K : Act → World → Prop} {E : Prop} (hgd : o.guard = none) (s x : Operand) (ho : o.op = .call { callee := .builtin .append, args := #[s, x], argTypes := #[26, 26] })
    (base : Nat) (v : Value) (n : Nat) (xs : List Value) (hs : a.eval s = v) (hown : w.ownsRow base 5 1 v n xs) (B : Nat) (u : Value) (bs : List UInt8) (hx : a.eval x = u) (hu : SliceB B w u bs)
    (hb : n + bs.length ≤ 140737488355328) (hbase : base ≤ w.heap.size)
    (h : ∀ ao cap w', w'.ownsRow base 5 1 (.slice ao (n + bs.length) cap) (n + bs.length) (xs ++ u8s bs) → w.grownBy w' v.ownBlock → Moved w v (.slice ao (n + bs.length) cap) → K (a.put o.dst (.slice ao (n + bs.length) cap)) w') :
    if Region.wanted o (yielded ops a.tmps) = true then Oper.wp Try.prog o a w K Q else E := by
  have hw : Region.wanted o (yielded ops a.tmps) = true := by simp [Region.wanted, hgd]
  rw [if_pos hw]
  obtain ⟨ao, cap, w', hr, h1, h2, h3⟩ := run_app w o.type base v n xs hown B u bs hu hb hbase
  exact wp_app_of s x ho hs hx hr (h ao cap w' h1 h2 h3)

theorem kind_block (w : World) (o o' : Obj) : ((w.alloc o).alloc o').drew.heap[w.heap.size + 1]? = some o' := by
  have := heap_alloc_new (w.alloc o) o'
  rw [World.size_alloc] at this
  exact this

set_option maxRecDepth 100000 in
set_option maxHeartbeats 4000000 in
theorem refBytes_any (pa : Option Addr) (pc : Nat) (ps : List PD) (ba : Option Addr) (bc : Nat) (body : List UInt8) (w : World) (hps : PropsAt w.heap.size w pa ps) (hbd : SliceB w.heap.size w (.slice ba body.length bc) body) (hl : ps.length ≤ 4) (hbl : body.length ≤ 255) (hsm : ∀ p ∈ ps, p.small) :
    Calls Try.prog 54 #[.agg #[.slice pa ps.length pc, .slice ba body.length bc]] w fun e w' => ∃ v, e = .returned v ∧ w'.ownsRow w.heap.size 5 1 v (bytesF ps body).length (u8s (bytesF ps body)) ∧ Below w.heap.size w w' := by
  have HB1 : Hid (((UInt8.ofNat ps.length).toNat : Int) = ps.length) := byte_of _ (by omega)
  have hpl := propsB_len ps hsm
  go_enter Try.func54, Try.ntmps54
  go_wp2
  go_loopw [3, 14] (fun v i wr => ∃ k : Nat, k ≤ ps.length ∧ i = .int .i64 k ∧ Below (w.heap.size + 1) (w.alloc (.cells #[.slice pa ps.length pc, .slice ba body.length bc] 28)) wr ∧
      wr.ownsRow (w.heap.size + 1) 5 1 v (UInt8.ofNat ps.length :: propsB (ps.take k)).length (u8s (UInt8.ofNat ps.length :: propsB (ps.take k))))
    (fun _ i _ => ps.length - (intOf i).toNat)
  case atStart =>
    refine ⟨0, Nat.zero_le _, rfl, (Below.refl _ _).alloc (by simp) _, ?_⟩
    have := new_own (w.alloc (.cells #[.slice pa ps.length pc, .slice ba body.length bc] 28)) (w.heap.size + 1) [UInt8.ofNat ps.length] #[.int .u8 ps.length] (by simp [maxLen]) (by simp [u8s, HB1.out]; omega) (by simp)
    simpa [propsB] using this
  case round =>
    obtain ⟨k, hk, rfl, hnx, hown⟩ := hrel
    have hsz : w.heap.size + 1 ≤ wr.heap.size := by have := hnx.size; simpa using this
    have hn1 : wr.cell? ⟨w.heap.size, 1, none⟩ = some (.slice ba body.length bc) := by rw [hnx.cell (by simp)]; simp
    obtain ⟨xs, hxs⟩ : ∃ xs, xs = UInt8.ofNat ps.length :: propsB (ps.take k) := ⟨_, rfl⟩
    rw [← hxs] at hown
    have hxl : xs.length ≤ 200 := by
      have := propsB_len (ps.take k) (fun p hp => hsm p (List.mem_of_mem_take hp))
      rw [hxs]; simp at this ⊢; omega
    have HX : Hid (xs = UInt8.ofNat ps.length :: propsB (ps.take k)) := hxs
    clear hxs
    obtain ⟨va, vc, hve, _⟩ := own_shape hown
    subst hve
    by_cases hlt : k < ps.length
    · obtain ⟨b, off, rfl, hblt, h0, h1', h2, h3⟩ := hps k hlt
      obtain ⟨p, hp⟩ : ∃ p, p = ps[k] := ⟨_, rfl⟩
      have hsp := hsm ps[k] (List.getElem_mem _)
      rw [← hp] at h0 h1' h2 h3 hsp
      have cc : ∀ o, wr.cell? ⟨b, o, none⟩ = w.cell? ⟨b, o, none⟩ := fun o => by
        rw [hnx.cell (by show b < _; omega)]; exact World.cell?_alloc_lt _ _ _ hblt
      have g0 : wr.cell? ⟨b, off + k * 4, none⟩ = _ := (cc _).trans h0
      have g1 : wr.cell? ⟨b, off + k * 4 + 1, none⟩ = _ := (cc _).trans h1'
      have g2 : wr.cell? ⟨b, off + k * 4 + 2, none⟩ = _ := (cc _).trans h2
      have g3 : wr.cell? ⟨b, off + k * 4 + 3, none⟩ = _ := (cc _).trans h3
      clear cc h0 h1' h2 h3
      have HP : Hid (p = ps[k]) := hp
      clear hp
      obtain ⟨sp1, sp2, sp3, sp4⟩ := hsp
      have HKB : Hid (((UInt8.ofNat p.kind.toNat).toNat : Int) = p.kind) := byteI _ (by omega) (by omega)
      have HKC : Hid ([Value.int .u8 p.kind] = u8s [UInt8.ofNat p.kind.toNat]) := by show _ = _; simp only [u8s, List.map_cons, List.map_nil]; rw [HKB.out]
      have HTL : Hid ((txt p.key).length = p.key.size + 1) := txt_len p.key
      have hvn : ∀ g, wr.heap.size ≤ g → some g ≠ (Value.slice va xs.length vc).ownBlock := fun g hg e => by have := (hown.lt g e.symm).2; omega
      have HVN : Hid (∀ g, wr.heap.size ≤ g → some g ≠ (Value.slice va xs.length vc).ownBlock) := hvn
      clear hvn
      have hwr : IntKind.u8.wrap p.kind = p.kind := by simp [IntKind.wrap, IntKind.bits, IntKind.signed]; omega
      go_wp2_with fail
      go_region_held3 (fun w' => w'.cell? ⟨wr.heap.size, 0, none⟩ = some (.string p.key) ∧ w'.cell? ⟨wr.heap.size, 1, none⟩ = some (.int .i64 p.kind)) (refine ⟨?_, ?_⟩ <;> first | assumption | (simp [go_sem]; done) | (refine (World.cell?_alloc_lt _ _ _ ?_).trans ?_ <;> first | assumption | (show wr.heap.size < _; omega)))
        (first
          | (go_at_call 52; refine (refText_any p.key _ (by omega)).mono ?_; rintro e w1 ⟨ao1, cap1, rfl, own1, hb1⟩; have hown1 : w1.ownsRow (w.heap.size + 1) 5 1 (.slice va xs.length vc) xs.length (u8s xs) := (by first | exact own_below (hown.alloc _).drew hb1 | exact own_below ((hown.alloc _).alloc _).drew hb1); have hz1 : wr.heap.size + 1 ≤ w1.heap.size := (by have := hb1.size; simp at this; omega); have b1 : Below wr.heap.size wr w1 := (by first | exact (below_conv _ _).trans (hb1.mono (by simp)) | exact (((below_alloc _ _).alloc (by simp) _).drew).trans (hb1.mono (by simp; omega))); have k1 : ∀ o, o < 4 → w1.cell? ⟨wr.heap.size, o, none⟩ = p.cells[o]? := (fun o ho => (hb1.cell (by simp <;> omega)).trans (by simp [go_sem, PD.cells])); have k10 : w1.cell? ⟨wr.heap.size, 0, none⟩ = some (.string p.key) := k1 0 (by omega); have k11 : w1.cell? ⟨wr.heap.size, 1, none⟩ = some (.int .i64 p.kind) := k1 1 (by omega))
          | (have own1x := own1; refine step_appM (by rfl) (.tmp 18) (.tmp 21) (by rfl) (w.heap.size + 1) (.slice va xs.length vc) xs.length (u8s xs) (by rfl) (by first | exact hown1 | exact hown1.alloc _) w1.heap.size (.slice ao1 (txt p.key).length cap1) (txt p.key) (by rfl) (by first | exact own_slice own1 | exact (own_slice own1).same (fun j hj => Below.heap_alloc _ _ _ hj)) (by rw [HTL.out]; omega) (by first | omega | (simp; omega)) ?_; intro ao2 cap2 w2 hown2 hg2 hm2; have hz2 : w1.heap.size ≤ w2.heap.size := (by have := hg2.size; first | omega | (simp at this; omega)); have k2 : ∀ o, o < 4 → w2.cell? ⟨wr.heap.size, o, none⟩ = p.cells[o]? := (fun o ho => ((own_far hg2 wr.heap.size (by first | omega | (simp; omega)) (HVN.out _ (Nat.le_refl _))).1 o).trans (by first | exact k1 o ho | exact (World.cell?_alloc_lt _ _ _ (show wr.heap.size < w1.heap.size by omega)).trans (k1 o ho))); have k20 : w2.cell? ⟨wr.heap.size, 0, none⟩ = some (.string p.key) := k2 0 (by omega); have k21 : w2.cell? ⟨wr.heap.size, 1, none⟩ = some (.int .i64 p.kind) := k2 1 (by omega); have n2 : some wr.heap.size ≠ (Value.slice ao2 (xs.length + (txt p.key).length) cap2).ownBlock := (fun e => (hm2 _ e.symm).elim (fun h => HVN.out _ (Nat.le_refl _) h.symm) (fun h => by first | omega | (simp at h; omega))); have b2 : Below (w.heap.size + 1) wr w2 := (by first | exact (b1.mono hsz).trans (own_drop hown1 (by omega) hg2) | exact ((b1.mono hsz).alloc (by omega) _).trans (own_drop (hown1.alloc _) (by simp; omega) hg2)))
          | (have own2x := hown2; refine step_appM (by rfl) (.tmp 22) (.tmp 26) (by rfl) (w.heap.size + 1) (.slice ao2 (xs.length + (txt p.key).length) cap2) (xs.length + (txt p.key).length) (u8s xs ++ u8s (txt p.key)) (by rfl) (by first | exact hown2 | exact hown2.alloc _) _ _ [UInt8.ofNat p.kind.toNat] (by rfl) (by first | exact new_bytes w2 [UInt8.ofNat p.kind.toNat] _ (by simp [maxLen]) HKC.out | exact block_bytes (g := w1.heap.size) [UInt8.ofNat p.kind.toNat] (by simp [maxLen]) ((hg2.block w1.heap.size (by simp) (HVN.out _ (by omega))).trans (heap_alloc_new w1 _)) HKC.out | exact block_bytes (g := wr.heap.size + 1) [UInt8.ofNat p.kind.toNat] (by simp [maxLen]) ((hg2.block (wr.heap.size + 1) (by have := hb1.size; simp at this; omega) (HVN.out _ (by omega))).trans ((hb1.block (wr.heap.size + 1) (by simp)).trans (kind_block wr _ _))) HKC.out) (by rw [HTL.out]; simp; omega) (by first | omega | (simp; omega)) ?_; intro ao3 cap3 w3 hown3 hg3 hm3; have hz3 : w2.heap.size ≤ w3.heap.size := (by have := hg3.size; first | omega | (simp at this; omega)); have k3 : ∀ o, o < 4 → w3.cell? ⟨wr.heap.size, o, none⟩ = p.cells[o]? := (fun o ho => ((own_far hg3 wr.heap.size (by first | omega | (simp; omega)) n2).1 o).trans (by first | exact k2 o ho | exact (World.cell?_alloc_lt _ _ _ (show wr.heap.size < w2.heap.size by omega)).trans (k2 o ho))); have k30 : w3.cell? ⟨wr.heap.size, 0, none⟩ = some (.string p.key) := k3 0 (by omega); have k31 : w3.cell? ⟨wr.heap.size, 1, none⟩ = some (.int .i64 p.kind) := k3 1 (by omega); have k32 : w3.cell? ⟨wr.heap.size, 2, none⟩ = some (.int .i64 p.n) := k3 2 (by omega); have k33 : w3.cell? ⟨wr.heap.size, 3, none⟩ = some (.string p.text) := k3 3 (by omega); have b3 : Below (w.heap.size + 1) wr w3 := (by first | exact b2.trans (own_drop hown2 (by omega) hg3) | exact (b2.alloc (by omega) _).trans (own_drop (hown2.alloc _) (by simp; omega) hg3))))
      all_goals
        obtain ⟨ys, hys⟩ : ∃ ys, ys = xs ++ txt p.key ++ [UInt8.ofNat p.kind.toNat] := ⟨_, rfl⟩
        have hyl : ys.length = xs.length + (txt p.key).length + 1 := by rw [hys]; simp; omega
        have own4 : w3.ownsRow (w.heap.size + 1) 5 1 (.slice ao3 (xs.length + (txt p.key).length + 1) cap3) ys.length (u8s ys) := by
          rw [hyl, hys, u8s_append, u8s_append]; exact hown3
        have HY : Hid (ys = xs ++ txt p.key ++ [UInt8.ofNat p.kind.toNat]) := hys
        have HYL : Hid (ys.length = xs.length + (txt p.key).length + 1) := hyl
        have hyb : ys.length ≤ 300 := by rw [hyl, HTL.out]; omega
        have hz4 : w.heap.size + 1 ≤ w3.heap.size := by have := b3.size; omega
        clear hown3 hown2 hown1 own1 hys hyl hg2 hg3 hm2 hm3 k1 k2 k3 n2 hb1 b1 b2 hz1 hz2 hz3
        by_cases hk2 : p.kind = 2
        · have st := sp4 hk2
          have HPB : Hid (propB p = txt p.key ++ (UInt8.ofNat p.kind.toNat :: txt p.text)) := by show propB p = _; simp [propB, hk2]
          have hk2' : (p.kind == 2) = true := by simpa using hk2
          have HK2 : Hid (p.kind = 2) := hk2
          clear hk2
          go_wp2_with (first
            | (go_at_call 52; refine (refText_any p.text _ (by omega)).mono ?_; rintro e w5 ⟨ao5, cap5, rfl, own5, hb5⟩; have hz5 := hb5.size)
            | (at_builtin; refine wpList_app rfl (.tmp 31) (.tmp 34) rfl (w.heap.size + 1) (.slice ao3 (xs.length + (txt p.key).length + 1) cap3) ys.length (u8s ys) rfl (own_below own4 hb5) w5.heap.size _ (txt p.text) rfl (own_slice own5) (by rw [txt_len]; omega) (by omega) ?_; intro ao6 cap6 w6 own6 hg6 hm6))
          go_roundw
          case rel =>
            refine ⟨k + 1, by omega, by go_num, hnx.trans (b3.trans ((hb5.mono hz4).trans (own_drop (own_below own4 hb5) (by omega) hg6))), ?_⟩
            have e1 : UInt8.ofNat ps.length :: propsB (ps.take (k + 1)) = ys ++ txt p.text := by rw [HY.out, HX.out, propsB_take ps k hlt, ← HP.out, HPB.out]; simp
            rw [e1, u8s_append, List.length_append]; exact own6
          case measure => simp [intOf]; omega
        · have HPB : Hid (propB p = txt p.key ++ (UInt8.ofNat p.kind.toNat :: num4 p.n)) := by show propB p = _; simp [propB, hk2]
          have hk2' : (p.kind == 2) = false := by simpa using hk2
          go_wp2_with (first
            | (go_at_call 53; refine (refNum_any p.n _).mono ?_; rintro e w5 ⟨ao5, cap5, rfl, own5, hb5⟩; have hz5 := hb5.size)
            | (at_builtin; refine wpList_app rfl (.tmp 36) (.tmp 39) rfl (w.heap.size + 1) (.slice ao3 (xs.length + (txt p.key).length + 1) cap3) ys.length (u8s ys) rfl (own_below own4 hb5) w5.heap.size _ (num4 p.n) rfl (own_slice own5) (by simp [num4]; omega) (by omega) ?_; intro ao6 cap6 w6 own6 hg6 hm6))
          go_roundw
          case rel =>
            refine ⟨k + 1, by omega, by go_num, hnx.trans (b3.trans ((hb5.mono hz4).trans (own_drop (own_below own4 hb5) (by omega) hg6))), ?_⟩
            have e1 : UInt8.ofNat ps.length :: propsB (ps.take (k + 1)) = ys ++ num4 p.n := by rw [HY.out, HX.out, propsB_take ps k hlt, ← HP.out, HPB.out]; simp
            rw [e1, u8s_append, List.length_append]; exact own6
          case measure => simp [intOf]; omega
    · have hcv := conv_str (hbd.same (fun j hj => (hnx.block j (by omega)).trans (Below.heap_alloc _ _ _ hj)))
      have HBS : Hid ((bstr body).size = body.length) := bstr_size body
      go_wp2_with (first
        | (go_at_call 52; refine (refText_any (bstr body) _ (by rw [HBS.out]; exact hbl)).mono ?_; rintro e w5 ⟨ao5, cap5, rfl, own5, hb5⟩; have hz5 := hb5.size)
        | (at_builtin; refine wpList_app rfl (.tmp 42) (.tmp 46) rfl (w.heap.size + 1) (.slice va xs.length vc) xs.length (u8s xs) rfl (own_below hown hb5) w5.heap.size _ (txt (bstr body)) rfl (own_slice own5) (by rw [txt_len, HBS.out]; omega) (by omega) ?_; intro ao6 cap6 w6 own6 hg6 hm6))
      go_ret
      have e : k = ps.length := by omega
      have e1 : bytesF ps body = xs ++ txt (bstr body) := by
        rw [HX.out, e, List.take_of_length_le (Nat.le_refl _)]; simp [bytesF, txt, HBS.out, bstr_data]
      refine ⟨_, rfl, ?_, ?_⟩
      · rw [e1, u8s_append, List.length_append]
        exact own_mono own6 (by omega)
      · exact (below_alloc _ _).trans ((hnx.trans ((hb5.mono hsz).trans (own_drop (own_below hown hb5) (by omega) hg6))).mono (by omega))
end Go.Proofs.Ytkddkpdfeeikhaa.NT
