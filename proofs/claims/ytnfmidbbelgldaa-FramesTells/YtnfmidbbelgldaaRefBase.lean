/-
  tgref1.Parse answers what parseF says of any bytes.
-/
import Derived.Test.YtnfmidbbelgldaaRefPlace
import Derived.Test.YtnfmidbbelgldaaAppP
import Derived.Test.YtnfmidbbelgldaaRefWrong
import Derived.Test.YtnfmidbbelgldaaFresh
namespace Go.Proofs.Ytnfmidbbelgldaa
open Go.RowKit
set_option linter.unusedVariables false
set_option linter.unusedSimpArgs false

/-- What is told of the bytes: the note, how many, the error. -/
def Told (b : List UInt8) (w : World) (e : Ending) (w' : World) : Prop :=
  ∃ v u, e = .returned (.tuple #[.agg #[v, u], .int .i64 (parseF b).2.2.2, .int .i64 (parseF b).1]) ∧ SliceP w'.heap.size w' v (parseF b).2.1 ∧ SliceB w'.heap.size w' u (parseF b).2.2.1 ∧ Below w.heap.size w w' ∧ FreshV w.heap.size v ∧ FreshV w.heap.size u

theorem told_no {b : List UInt8} {w w' : World} {c : Int} (hp : parseF b = (c, [], [], 0)) (hb : Below w.heap.size w w') : Told b w (.returned (.tuple #[.agg #[.slice none 0 0, .slice none 0 0], .int .i64 0, .int .i64 c])) w' := by
  unfold Told
  rw [hp]
  exact ⟨_, _, rfl, SliceP.nil _ _, SliceB.nil _ _, hb, fresh_nil _, fresh_nil _⟩

set_option maxRecDepth 100000 in
set_option maxHeartbeats 1000000 in
theorem refParse_small (a : Option Addr) (cap : Nat) (b : List UInt8) (w : World) (hb : SliceB w.heap.size w (.slice a b.length cap) b) (h : b = [] ∨ ∃ h0 : 0 < b.length, 4 < (b[0]).toNat) :
    Calls Try.prog 50 #[.slice a b.length cap] w (Told b w) := by
  rcases h with rfl | ⟨h0, h4⟩
  · have HP : Hid (parseF [] = (9, [], [], 0)) := rfl
    go_enter Try.func50, Try.ntmps50
    go_wp2_with (go_at_call 58; refine (refNo_any _ _).mono ?_; rintro e w1 ⟨rfl, hb1⟩; obtain ⟨k1, k2⟩ := bcell hb1)
    exact bodyPost_ret (v := .tuple #[.agg #[.slice none 0 0, .slice none 0 0], .int .i64 0, .int .i64 9]) (by simp [results, Try.results50, go_sem, *]) rfl (told_no HP.out (((((below_alloc _ _).alloc (by simp) _).trans (hb1.mono (by simp; omega))).setCell (by simp) _).setCell (by simp) _))
  · have HP : Hid (parseF b = (5, [], [], 0)) := by
      show parseF b = _
      have := sizeF_at b 0 h0
      rw [List.drop_zero] at this
      rw [parseF, this]; simp [h4]
    obtain ⟨_, _, e, hc, hm, hn, hby⟩ := hb
    simp only [Value.slice.injEq] at e
    obtain ⟨rfl, -, rfl⟩ := e
    obtain ⟨g, off, rfl, hg, hcell⟩ := hby 0 h0
    rw [Nat.add_zero] at hcell
    obtain ⟨c, hcc⟩ : ∃ c, c = b[0] := ⟨_, rfl⟩
    rw [← hcc] at hcell h4
    have h4' : (4 : Int) < (c.toNat : Int) := by omega
    have hl : ((b.length : Int) == 0) = false := beq_eq_false_iff_ne.2 (by omega)
    have hl2 : (0 : Int) < (b.length : Int) := by omega
    clear hn hcc hby
    go_enter Try.func50, Try.ntmps50
    go_wp2_with (go_at_call 58; refine (refNo_any _ _).mono ?_; rintro e w1 ⟨rfl, hb1⟩; obtain ⟨k1, k2⟩ := bcell hb1)
    exact bodyPost_ret (v := .tuple #[.agg #[.slice none 0 0, .slice none 0 0], .int .i64 0, .int .i64 5]) (by simp [results, Try.results50, go_sem, *]) rfl (told_no HP.out (((((below_alloc _ _).alloc (by simp) _).trans (hb1.mono (by simp; omega))).setCell (by simp) _).setCell (by simp) _))

theorem five_below (w : World) (o1 o2 o3 o4 o5 : Obj) : Below w.heap.size w (((((w.alloc o1).alloc o2).alloc o3).alloc o4).alloc o5) :=
  (((((below_alloc _ _).alloc (by simp) _).alloc (by simp; omega) _).alloc (by simp; omega) _).alloc (by simp; omega) _)
theorem pw_start (w : World) (a : Option Addr) (n c : Nat) : PW w.heap.size (((((w.alloc (.cells #[.slice a n c] 23)).alloc (.cells #[.slice none 0 0, .slice none 0 0] 25)).alloc (.cells #[.int .i64 1] 3)).alloc (.cells #[.bool false] 4)).alloc (.cells #[.slice none 0 0, .slice none 0 0] 25)) a n c 1 false (.slice none 0 0) := by
  have e1 := heap_alloc_new (w.alloc (.cells #[.slice a n c] 23)) (.cells #[.slice none 0 0, .slice none 0 0] 25)
  have e2 := heap_alloc_new ((w.alloc (.cells #[.slice a n c] 23)).alloc (.cells #[.slice none 0 0, .slice none 0 0] 25)) (.cells #[.int .i64 1] 3)
  have e3 := heap_alloc_new (((w.alloc (.cells #[.slice a n c] 23)).alloc (.cells #[.slice none 0 0, .slice none 0 0] 25)).alloc (.cells #[.int .i64 1] 3)) (.cells #[.bool false] 4)
  have e4 := heap_alloc_new ((((w.alloc (.cells #[.slice a n c] 23)).alloc (.cells #[.slice none 0 0, .slice none 0 0] 25)).alloc (.cells #[.int .i64 1] 3)).alloc (.cells #[.bool false] 4)) (.cells #[.slice none 0 0, .slice none 0 0] 25)
  simp only [World.size_alloc] at e1 e2 e3 e4
  refine ⟨?_, ?_, ?_, ?_, e4⟩
  · exact (Below.heap_alloc _ _ _ (by simp; omega)).trans ((Below.heap_alloc _ _ _ (by simp; omega)).trans ((Below.heap_alloc _ _ _ (by simp; omega)).trans ((Below.heap_alloc _ _ _ (by simp)).trans (heap_alloc_new w _))))
  · exact (Below.heap_alloc _ _ _ (by simp <;> omega)).trans ((Below.heap_alloc _ _ _ (by simp <;> omega)).trans ((Below.heap_alloc _ _ _ (by simp)).trans e1))
  · exact (Below.heap_alloc _ _ _ (by simp <;> omega)).trans ((Below.heap_alloc _ _ _ (by simp)).trans e2)
  · exact (Below.heap_alloc _ _ _ (by simp)).trans e3

theorem PW.keep {B : Nat} {w w' : World} {a : Option Addr} {n c p : Nat} {sh : Bool} {v : Value} (h : PW B w a n c p sh v) (hb : ∀ k, B ≤ k → k < B + 5 → w'.heap[k]? = w.heap[k]?) : PW B w' a n c p sh v :=
  ⟨h.b.same (hb _ (by omega) (by omega)), h.r.same (hb _ (by omega) (by omega)), h.p.same (hb _ (by omega) (by omega)), h.s.same (hb _ (by omega) (by omega)), h.n.same (hb _ (by omega) (by omega))⟩
theorem PW.alloc {B : Nat} {w : World} {a : Option Addr} {n c p : Nat} {sh : Bool} {v : Value} (h : PW B w a n c p sh v) (o : Obj) : PW B (w.alloc o) a n c p sh v :=
  h.keep (fun k _ hk => Below.heap_alloc _ _ _ (by have := h.n.lt; omega))
theorem PW.put {B : Nat} {w : World} {a : Option Addr} {n c p : Nat} {sh : Bool} {v : Value} (h : PW B w a n c p sh v) (q : Nat) (z : Int) (hz : z = q) : PW B (w.setCell ⟨B + 1 + 1, 0, none⟩ (.int .i64 z)) a n c q sh v := by
  subst hz
  exact h.setP q 0
theorem PW.setN {B : Nat} {w : World} {a : Option Addr} {n c p : Nat} {sh : Bool} {v : Value} (h : PW B w a n c p sh v) (v' : Value) : PW B (w.setCell ⟨B + 1 + 1 + 1 + 1, 0, none⟩ v') a n c p sh v' :=
  ⟨h.b.same (Below.heap_setCell w _ _ _ (by dsimp only; omega)), h.r.same (Below.heap_setCell w _ _ _ (by dsimp only; omega)), h.p.same (Below.heap_setCell w _ _ _ (by dsimp only; omega)), h.s.same (Below.heap_setCell w _ _ _ (by dsimp only; omega)), h.n.set0 _⟩

def PropBlk (w : World) (b : Nat) (p : PD) : Prop := w.heap[b]? = some (.cells #[.string p.key, .int .i64 p.kind, .int .i64 p.n, .string p.text] 65 (0, 0))
theorem PropBlk.c0 {w : World} {b : Nat} {p : PD} (h : PropBlk w b p) : w.cell? ⟨b, 0, none⟩ = some (.string p.key) := by rw [cell_of_row w b 0 _ 65 (0, 0) h]; rfl
theorem PropBlk.c1 {w : World} {b : Nat} {p : PD} (h : PropBlk w b p) : w.cell? ⟨b, 1, none⟩ = some (.int .i64 p.kind) := by rw [cell_of_row w b 1 _ 65 (0, 0) h]; rfl
theorem PropBlk.c2 {w : World} {b : Nat} {p : PD} (h : PropBlk w b p) : w.cell? ⟨b, 2, none⟩ = some (.int .i64 p.n) := by rw [cell_of_row w b 2 _ 65 (0, 0) h]; rfl
theorem PropBlk.c3 {w : World} {b : Nat} {p : PD} (h : PropBlk w b p) : w.cell? ⟨b, 3, none⟩ = some (.string p.text) := by rw [cell_of_row w b 3 _ 65 (0, 0) h]; rfl
theorem PropBlk.f {w : World} {b : Nat} {p : PD} (h : PropBlk w b p) (o : Nat) : w.frozen? ⟨b, o, none⟩ = false := by
  unfold PropBlk at h
  simp [World.frozen?, h]

theorem new_prop (w : World) (p : PD) : SliceP (w.heap.size + 1) (w.alloc (.cells #[.string p.key, .int .i64 p.kind, .int .i64 p.n, .string p.text] 65)) (.slice (some ⟨w.heap.size, 0, none⟩) 1 1) [p] := by
  refine ⟨_, _, rfl, Nat.le_refl _, by simp [maxLen], fun h => by simp at h, fun i hi => ⟨w.heap.size, 0, rfl, by omega, ?_⟩⟩
  have : i = 0 := by simpa using hi
  subst this
  unfold PropAt
  simp

theorem wpList_appP {w : World} {ops : Array Oper} {rest : List Oper} {o : Oper} {a : Act} {Q : Exit → Act → World → Prop} (hgd : o.guard = none) (s x : Operand) (ho : o.op = .call { callee := .builtin .append, args := #[s, x], argTypes := #[22, 22] })
    (base : Nat) (v : Value) (n : Nat) (xs : List Value) (hs : a.eval s = v) (hown : w.ownsRow base 65 4 v n xs) (B : Nat) (u : Value) (ps : List PD) (hx : a.eval x = u) (hu : SliceP B w u ps)
    (hb : (n + ps.length) * 48 ≤ 140737488355328) (hbase : base ≤ w.heap.size)
    (h : ∀ ao cap w', w'.ownsRow base 65 4 (.slice ao (n + ps.length) cap) (n + ps.length) (xs ++ cellsL ps) → w.grownBy w' v.ownBlock → wpList Try.prog ops Q rest (a.put o.dst (.slice ao (n + ps.length) cap)) w') :
    wpList Try.prog ops Q (o :: rest) a w := by
  refine wpList_plain hgd fun K hK => ?_
  obtain ⟨ao, cap, w', hr, h1, h2⟩ := run_appP w o.type base v n xs hown B u ps hu hb hbase
  exact wp_app_of s x ho hs hx hr (hK _ _ (h ao cap w' h1 h2))

/-- Behind the append of a property: the five blocks, what is owned, old memory. -/
theorem round_end {B k gg cap q : Nat} {W w3 wr w0 : World} {o : Obj} {a : Option Addr} {n c : Nat} {ao : Option Addr} {va : Option Addr} {vc : Nat} {ps : List PD} {p : PD} {s : List UInt8 × Bool}
    (hpw : PW B W a n c q false (.slice va k vc)) (hown : W.ownsRow (B + 5) 65 4 (.slice va k vc) k (cellsL ps)) (hlW : B + 5 ≤ W.heap.size) (bel : Below B w0 W)
    (hown3 : w3.ownsRow (B + 5) 65 4 (.slice ao (k + [p].length) cap) (k + [p].length) (cellsL ps ++ cellsL [p])) (hg : (W.alloc o).grownBy w3 (Value.slice va k vc).ownBlock) (v' : Value) (hv' : v' = .slice ao (k + 1) cap) :
    PW B (w3.setCell ⟨B + 1 + 1 + 1 + 1, 0, none⟩ v') a n c q false v' ∧ (w3.setCell ⟨B + 1 + 1 + 1 + 1, 0, none⟩ v').ownsRow (B + 5) 65 4 v' (k + 1) (cellsL (ps ++ [p])) ∧ Below B w0 (w3.setCell ⟨B + 1 + 1 + 1 + 1, 0, none⟩ v') ∧ B + 5 ≤ (w3.setCell ⟨B + 1 + 1 + 1 + 1, 0, none⟩ v').heap.size := by
  subst hv'
  have hz := hg.size
  simp at hz
  have hne : ∀ j, j < B + 5 → some j ≠ (Value.slice va k vc).ownBlock := fun j hj e => by have := (hown.lt j e.symm).1; omega
  have hblk : ∀ j, j < B + 5 → w3.heap[j]? = W.heap[j]? := fun j hj => (hg.block j (by simp; omega) (hne j hj)).trans (Below.heap_alloc _ _ _ (by omega))
  refine ⟨(hpw.keep (fun j _ hj => hblk j hj)).setN _, ?_, ?_, ?_⟩
  · rw [cellsL_snoc]
    refine ownsRow_setCell_below ?_ (by dsimp only; omega) _
    simpa [cellsL] using hown3
  · exact (bel.trans ⟨hg.os, hg.tape, hg.output, by omega, fun j hj => hblk j (by omega)⟩).setCell (by dsimp only; omega) _
  · simp [World.setCell]; omega

theorem propF_short1 (s) (h : (textF s).2.2 = true) : (propF s).2.2 = true := by
  cases hx : (propF s).2.2 with
  | true => rfl
  | false =>
    unfold propF at hx
    split at hx
    · have h1 := (sizeF_back _ (textF_back (sizeF (textF s).2).2 hx).1).1
      rw [h] at h1; simp at h1
    · have h1 := (sizeF_back _ (numberF_back (sizeF (textF s).2).2 hx).1).1
      rw [h] at h1; simp at h1
theorem propF_short2 (s) (h : (sizeF (textF s).2).2.2 = true) : (propF s).2.2 = true := by
  cases hx : (propF s).2.2 with
  | true => rfl
  | false =>
    unfold propF at hx
    split at hx
    · have h1 := (textF_back (sizeF (textF s).2).2 hx).1
      rw [h] at h1; simp at h1
    · have h1 := (numberF_back (sizeF (textF s).2).2 hx).1
      rw [h] at h1; simp at h1
theorem propF_short3 (s) (hk : (sizeF (textF s).2).1 = 2) (h : (textF (sizeF (textF s).2).2).2.2 = true) : (propF s).2.2 = true := by
  unfold propF; rw [if_pos hk]; exact h
theorem propF_short4 (s) (hk : ¬ (sizeF (textF s).2).1 = 2) (h : (numberF (sizeF (textF s).2).2).2.2 = true) : (propF s).2.2 = true := by
  unfold propF; rw [if_neg hk]; exact h

/-- Where a property ends too soon there is more to come. -/
theorem parse_more {bs : List UInt8} {c : UInt8} {k p : Nat} {h0 : 0 < bs.length} (hc : c = bs[0]) (h4 : c.toNat ≤ 4) (hk : k < c.toNat) (hst : (propsF k (bs.drop 1, false)).2 = (bs.drop p, false)) (hs : (propF (bs.drop p, false)).2.2 = true) : parseF bs = (9, [], [], 0) := by
  have e := sizeF_at bs 0 h0
  rw [List.drop_zero, ← hc, Nat.zero_add] at e
  have h1 : (propsF (k + 1) (bs.drop 1, false)).2.2 = true := by rw [propsF, hst]; exact hs
  have h2 := propsF_short _ (k + 1) (c.toNat - (k + 1)) h1
  rw [show k + 1 + (c.toNat - (k + 1)) = c.toNat by omega] at h2
  have h3 := noteF_short _ _ h2
  unfold parseF
  rw [e]
  have h5 : ¬ 4 < c.toNat := by omega
  rw [if_neg (by simp), if_neg h5, if_pos h3]
end Go.Proofs.Ytnfmidbbelgldaa
