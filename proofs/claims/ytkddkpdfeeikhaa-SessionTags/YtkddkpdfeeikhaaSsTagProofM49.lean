/-
  SsAlive; SsSame: texts laid together.
-/
import Derived.Test.YtkddkpdfeeikhaaSsTagProofM48
import Derived.Deep.DeepCutAuto
import Derived.Lib.SmallJoins
import Derived.Test.YtkddkpdfeeikhaaSsTagProofM11
import Derived.Test.YtkddkpdfeeikhaaSsTagProofM43
/-
  tglaw6.alive tells true.
-/
namespace Go.Proofs.Ytkddkpdfeeikhaa
open Go.RowKit
set_option linter.unusedVariables false
set_option linter.unusedSimpArgs false

attribute [local go_sem ↓] Go.wp_at_zero Go.wp_at_succ

/-- The law's hall, log and session in their boxes. -/
structure AS (b : Nat) (d : DK) (hv lv tv : Value) (W : World) : Prop where
  k1 : Blk W b [hv, .int .i64 d.h.next]
  k2 : Blk W (b + 1) [lv, .int .i64 d.sure]
  k3 : Blk W (b + 1 + 1) [tv, .int .i64 d.nx]
  q : SliceQ (fun x => x < W.heap.size ∧ ¬ (b ≤ x ∧ x < b + 3)) W hv d.h.queues
  l : SliceB (fun x => x < W.heap.size ∧ ¬ (b ≤ x ∧ x < b + 3)) W lv d.l
  t : SliceT (fun x => x < W.heap.size ∧ ¬ (b ≤ x ∧ x < b + 3)) W tv d.ts
theorem AS.on {b : Nat} {d : DK} {hv lv tv : Value} {W W' : World} (H : AS b d hv lv tv W) (hb : Below W.heap.size W W') : AS b d hv lv tv W' :=
  ⟨H.k1.below hb H.k1.lt, H.k2.below hb H.k2.lt, H.k3.below hb H.k3.lt, H.q.sub fun x h => ⟨⟨Nat.lt_of_lt_of_le h.1 hb.size, h.2⟩, hb.block x h.1⟩, SliceV.sub H.l fun x h => ⟨⟨Nat.lt_of_lt_of_le h.1 hb.size, h.2⟩, hb.block x h.1⟩, SliceV.sub H.t fun x h => ⟨⟨Nat.lt_of_lt_of_le h.1 hb.size, h.2⟩, hb.block x h.1⟩⟩
theorem AS.qU {b : Nat} {d : DK} {hv lv tv : Value} {W : World} (H : AS b d hv lv tv W) : SliceQ (Under W.heap.size) W hv d.h.queues ∧ SliceB (Under W.heap.size) W lv d.l ∧ SliceT (Under W.heap.size) W tv d.ts :=
  ⟨H.q.sub fun x h => ⟨h.1, rfl⟩, SliceV.sub H.l fun x h => ⟨h.1, rfl⟩, SliceV.sub H.t fun x h => ⟨h.1, rfl⟩⟩
theorem AS.new {d : DK} {hv lv tv : Value} {w w1 : World} (hb : Below w.heap.size w w1) (hq : SliceQ (Made w.heap.size w1.heap.size) w1 hv d.h.queues) (hl : SliceB (Made w.heap.size w1.heap.size) w1 lv d.l) (ht : SliceT (Made w.heap.size w1.heap.size) w1 tv d.ts) (o : Obj) :
    AS w1.heap.size d hv lv tv ((((w1.alloc (.cells #[hv, .int .i64 d.h.next] 24)).alloc (.cells #[lv, .int .i64 d.sure] 32)).alloc (.cells #[tv, .int .i64 d.nx] 64)).alloc o) ∧ Below w1.heap.size w1 ((((w1.alloc (.cells #[hv, .int .i64 d.h.next] 24)).alloc (.cells #[lv, .int .i64 d.sure] 32)).alloc (.cells #[tv, .int .i64 d.nx] 64)).alloc o) := by
  have hbb : Below w1.heap.size w1 ((((w1.alloc (.cells #[hv, .int .i64 d.h.next] 24)).alloc (.cells #[lv, .int .i64 d.sure] 32)).alloc (.cells #[tv, .int .i64 d.nx] 64)).alloc o) := (((below_alloc _ _).alloc (by simp) _).alloc (by simp; omega) _).alloc (by simp; omega) _
  have k2 := ((Blk.new (w1.alloc (.cells #[hv, .int .i64 d.h.next] 24)) [lv, .int .i64 d.sure] 32).alloc (.cells #[tv, .int .i64 d.nx] 64)).alloc o
  have k3 := (Blk.new ((w1.alloc (.cells #[hv, .int .i64 d.h.next] 24)).alloc (.cells #[lv, .int .i64 d.sure] 32)) [tv, .int .i64 d.nx] 64).alloc o
  simp only [World.size_alloc] at k2 k3
  have off : ∀ x, Made w.heap.size w1.heap.size x → (x < ((((w1.alloc (.cells #[hv, .int .i64 d.h.next] 24)).alloc (.cells #[lv, .int .i64 d.sure] 32)).alloc (.cells #[tv, .int .i64 d.nx] 64)).alloc o).heap.size ∧ ¬ (w1.heap.size ≤ x ∧ x < w1.heap.size + 3)) ∧ ((((w1.alloc (.cells #[hv, .int .i64 d.h.next] 24)).alloc (.cells #[lv, .int .i64 d.sure] 32)).alloc (.cells #[tv, .int .i64 d.nx] 64)).alloc o).heap[x]? = w1.heap[x]? := fun x h =>
    ⟨⟨Nat.lt_of_lt_of_le h.2 hbb.size, by have := h.2; omega⟩, hbb.block x h.2⟩
  exact ⟨⟨(((Blk.new _ _ _).alloc _).alloc _).alloc _, k2, k3, hq.sub off, SliceV.sub hl off, SliceV.sub ht off⟩, hbb⟩
theorem AS.put {b : Nat} {d d' : DK} {hv lv tv hv' lv' tv' : Value} {W W' : World} (H : AS b d hv lv tv W) (hb : Below W.heap.size W W') (hq : SliceQ (Made W.heap.size W'.heap.size) W' hv' d'.h.queues) (hl : SliceB (Made W.heap.size W'.heap.size) W' lv' d'.l) (ht : SliceT (Made W.heap.size W'.heap.size) W' tv' d'.ts) :
    AS b d' hv' lv' tv' ((((((W'.setCell ⟨b, 0, none⟩ hv').setCell ⟨b, 1, none⟩ (.int .i64 d'.h.next)).setCell ⟨b + 1, 0, none⟩ lv').setCell ⟨b + 1, 1, none⟩ (.int .i64 d'.sure)).setCell ⟨b + 1 + 1, 0, none⟩ tv').setCell ⟨b + 1 + 1, 1, none⟩ (.int .i64 d'.nx)) ∧ (((((((W'.setCell ⟨b, 0, none⟩ hv').setCell ⟨b, 1, none⟩ (.int .i64 d'.h.next)).setCell ⟨b + 1, 0, none⟩ lv').setCell ⟨b + 1, 1, none⟩ (.int .i64 d'.sure)).setCell ⟨b + 1 + 1, 0, none⟩ tv').setCell ⟨b + 1 + 1, 1, none⟩ (.int .i64 d'.nx))).heap.size = W'.heap.size ∧ (∀ x, ¬ (b ≤ x ∧ x < b + 3) → (((((((W'.setCell ⟨b, 0, none⟩ hv').setCell ⟨b, 1, none⟩ (.int .i64 d'.h.next)).setCell ⟨b + 1, 0, none⟩ lv').setCell ⟨b + 1, 1, none⟩ (.int .i64 d'.sure)).setCell ⟨b + 1 + 1, 0, none⟩ tv').setCell ⟨b + 1 + 1, 1, none⟩ (.int .i64 d'.nx))).heap[x]? = W'.heap[x]?) ∧ (∀ B w, Below B w W' → B ≤ b → Below B w ((((((W'.setCell ⟨b, 0, none⟩ hv').setCell ⟨b, 1, none⟩ (.int .i64 d'.h.next)).setCell ⟨b + 1, 0, none⟩ lv').setCell ⟨b + 1, 1, none⟩ (.int .i64 d'.sure)).setCell ⟨b + 1 + 1, 0, none⟩ tv').setCell ⟨b + 1 + 1, 1, none⟩ (.int .i64 d'.nx))) := by
  have H' := H.on hb
  have h3 := H.k3.lt
  obtain ⟨X, hX⟩ : ∃ X, X = ((((((W'.setCell ⟨b, 0, none⟩ hv').setCell ⟨b, 1, none⟩ (.int .i64 d'.h.next)).setCell ⟨b + 1, 0, none⟩ lv').setCell ⟨b + 1, 1, none⟩ (.int .i64 d'.sure)).setCell ⟨b + 1 + 1, 0, none⟩ tv').setCell ⟨b + 1 + 1, 1, none⟩ (.int .i64 d'.nx)) := ⟨_, rfl⟩
  have far : ∀ x, ¬ (b ≤ x ∧ x < b + 3) → X.heap[x]? = W'.heap[x]? := fun x hx => by
    rw [hX, Below.heap_setCell _ _ _ _ (by simp; omega), Below.heap_setCell _ _ _ _ (by simp; omega), Below.heap_setCell _ _ _ _ (by simp; omega), Below.heap_setCell _ _ _ _ (by simp; omega), Below.heap_setCell _ _ _ _ (by simp; omega), Below.heap_setCell _ _ _ _ (by simp; omega)]
  have hz : X.heap.size = W'.heap.size := by rw [hX]; simp
  have k1 : Blk X b [hv', .int .i64 d'.h.next] := by
    rw [hX]
    exact (((((((H'.k1.set 0 hv').set 1 (.int .i64 d'.h.next)).far (by simp) _).far (by simp) _).far (by simp; omega) _).far (by simp; omega) _))
  have k2 : Blk X (b + 1) [lv', .int .i64 d'.sure] := by
    rw [hX]
    exact (((((((H'.k2.far (a := ⟨b, 0, none⟩) (by simp) hv').far (a := ⟨b, 1, none⟩) (by simp) (.int .i64 d'.h.next)).set 0 lv').set 1 (.int .i64 d'.sure)).far (by simp) _).far (by simp) _))
  have k3 : Blk X (b + 1 + 1) [tv', .int .i64 d'.nx] := by
    rw [hX]
    exact ((((((H'.k3.far (a := ⟨b, 0, none⟩) (by simp; omega) hv').far (a := ⟨b, 1, none⟩) (by simp; omega) (.int .i64 d'.h.next)).far (a := ⟨b + 1, 0, none⟩) (by simp) lv').far (a := ⟨b + 1, 1, none⟩) (by simp) (.int .i64 d'.sure)).set 0 tv').set 1 (.int .i64 d'.nx))
  have off : ∀ x, Made W.heap.size W'.heap.size x → (x < X.heap.size ∧ ¬ (b ≤ x ∧ x < b + 3)) ∧ X.heap[x]? = W'.heap[x]? := fun x h =>
    ⟨⟨by rw [hz]; exact h.2, by have := h.1; omega⟩, far x (by have := h.1; omega)⟩
  rw [← hX]
  refine ⟨⟨k1, k2, k3, hq.sub off, SliceV.sub hl off, SliceV.sub ht off⟩, hz, far, fun B w h hB => ?_⟩
  rw [hX]
  exact (((((h.setCell (by simp; omega) _).setCell (by simp; omega) _).setCell (by simp; omega) _).setCell (by simp; omega) _).setCell (by simp; omega) _).setCell (by simp; omega) _

/-- DoAns with its lengths written out. -/
def DA (w : World) (d : DK) (a b c : Nat) (k n m er : Int) (x y : Nat) (z nxt sure nx : Int) (e : Ending) (w' : World) : Prop :=
  ∃ ha hc la lc ta tc pa pc ba bc, e = .returned (.tuple #[.agg #[.slice ha a hc, .int .i64 nxt], .agg #[.slice la b lc, .int .i64 sure], .agg #[.slice ta c tc, .int .i64 nx], .agg #[.int .i64 k, .int .i64 n, .int .i64 m, .int .i64 er, .slice pa x pc, .slice ba y bc], .int .i64 z]) ∧
    SliceQ (Made w.heap.size w'.heap.size) w' (.slice ha a hc) d.h.queues ∧ SliceB (Made w.heap.size w'.heap.size) w' (.slice la b lc) d.l ∧ SliceT (Made w.heap.size w'.heap.size) w' (.slice ta c tc) d.ts ∧ Below w.heap.size w w'
theorem DA.of {w : World} {d : DK} {a b c : Nat} {k n m er : Int} {x y : Nat} {nd : ND} {z nxt sure nx : Int} {e : Ending} {w' : World} (h : DoAns (d, ⟨k, n, m, er, nd⟩, z) w e w') (h1 : a = d.h.queues.length) (h2 : b = d.l.length) (h3 : c = d.ts.length) (h4 : x = nd.props.length) (h5 : y = nd.body.length) (h6 : nxt = d.h.next) (h7 : sure = d.sure) (h8 : nx = d.nx) : DA w d a b c k n m er x y z nxt sure nx e w' := by
  subst h1 h2 h3 h4 h5 h6 h7 h8
  obtain ⟨ha, hc, la, lc, ta, tc, pa, pc, ba, bc, rfl, hq, hl, ht, -, hb⟩ := h
  exact ⟨ha, hc, la, lc, ta, tc, pa, pc, ba, bc, rfl, hq, hl, ht, hb⟩
/-- The cells of the three boxes. -/
theorem AS.cells {b : Nat} {d : DK} {hv lv tv : Value} {W : World} (H : AS b d hv lv tv W) {nxt sure nx : Int} (h1 : d.h.next = nxt) (h2 : d.sure = sure) (h3 : d.nx = nx) :
    (W.cell? ⟨b, 0, none⟩ = some hv ∧ W.cell? ⟨b, 1, none⟩ = some (.int .i64 nxt) ∧ (∀ o, W.frozen? ⟨b, o, none⟩ = false) ∧ b < W.heap.size) ∧ (W.cell? ⟨b + 1, 0, none⟩ = some lv ∧ W.cell? ⟨b + 1, 1, none⟩ = some (.int .i64 sure) ∧ (∀ o, W.frozen? ⟨b + 1, o, none⟩ = false) ∧ b + 1 < W.heap.size) ∧ (W.cell? ⟨b + 1 + 1, 0, none⟩ = some tv ∧ W.cell? ⟨b + 1 + 1, 1, none⟩ = some (.int .i64 nx) ∧ (∀ o, W.frozen? ⟨b + 1 + 1, o, none⟩ = false) ∧ b + 1 + 1 < W.heap.size) := by
  subst h1 h2 h3
  exact ⟨H.k1.b2, H.k2.b2, H.k3.b2⟩
theorem call_da (d d' : DK) (hv lv tv : Value) (a : AD) (pv bv : Value) (W : World) {k n m er z : Int} {nd : ND} (he : d.answer a 0 = (d', ⟨k, n, m, er, nd⟩, z)) (hh : SliceQ (Under W.heap.size) W hv d.h.queues) (hl : SliceB (Under W.heap.size) W lv d.l) (ht : SliceT (Under W.heap.size) W tv d.ts) (ok : d.okD a 0) (hn : NoteIs (Under W.heap.size) W (pv, bv) a.note) (hf : a.note.fitN) (hq : a.queue = sA)
    {x y c1 c2 c3 : Nat} {n1 s1 x1 : Int} (h1 : c1 = d'.h.queues.length) (h2 : c2 = d'.l.length) (h3 : c3 = d'.ts.length) (h4 : x = nd.props.length) (h5 : y = nd.body.length) (h6 : n1 = d'.h.next) (h7 : s1 = d'.sure) (h8 : x1 = d'.nx) {nxt sure nx : Int} (g1 : d.h.next = nxt) (g2 : d.sure = sure) (g3 : d.nx = nx) {ak an : Int} (g4 : a.kind = ak) (g5 : a.n = an) :
    Calls Try.prog 37 #[.agg #[hv, .int .i64 nxt], .agg #[lv, .int .i64 sure], .agg #[tv, .int .i64 nx], .agg #[.int .i64 ak, .string ⟨#[97]⟩, .int .i64 an, pv, bv], .int .i64 0] W (DA W d' c1 c2 c3 k n m er x y z n1 s1 x1) := by
  have := do_any d hv lv tv a pv bv 0 W hh hl ht ok hn (by rw [hq]; exact sA_max) hf
  rw [he, hq] at this
  rw [g1, g2, g3, g4, g5] at this
  exact this.mono fun e w' h => DA.of h h1 h2 h3 h4 h5 h6 h7 h8

theorem out_at {B : Nat} {W : World} {xa : Option Addr} {xc : Nat} (h : SliceQ (Made B W.heap.size) W (.slice xa 1 xc) dL4.h.queues) : ∃ xb xo yb yo ic, xa = some ⟨xb, xo, none⟩ ∧ xb < W.heap.size ∧ yb < W.heap.size ∧ W.cell? ⟨xb, xo + 2, none⟩ = some (.slice (some ⟨yb, yo, none⟩) 1 ic) ∧ W.cell? ⟨yb, yo + 3, none⟩ = some (.bool false) := by
  obtain ⟨xb, xo, ia, ic, rfl, hS, hI, -, -, x2⟩ := h.at 0 (by decide)
  obtain ⟨yb, yo, -, -, -, -, rfl, hT, -, ⟨-, -, -, y3⟩, -⟩ := hI.at 0 (by decide)
  exact ⟨xb, xo, yb, yo, ic, rfl, hS.2, hT.2, x2, y3⟩
theorem ss_field0 (a : Option Addr) (k c : Nat) (n : Int) (w : World) : (Instr.field 64 (.agg #[.slice a k c, .int .i64 n]) 0).run Try.prog w = .ok (.slice a k c) w := by
  unfold Instr.field
  simp [go_sem, Sem.run_bind, asAgg]

theorem AS.step {b : Nat} {d d' : DK} {hv lv tv hv' lv' tv' : Value} {A0 W W' : World} (H : AS b d hv lv tv W) (hA : Below A0.heap.size A0 W) (hAb : A0.heap.size ≤ b) (hb : Below W.heap.size W W') (hq : SliceQ (Made W.heap.size W'.heap.size) W' hv' d'.h.queues) (hl : SliceB (Made W.heap.size W'.heap.size) W' lv' d'.l) (ht : SliceT (Made W.heap.size W'.heap.size) W' tv' d'.ts) (cs : List Value) :
    AS b d' hv' lv' tv' ((((((((W'.setCell ⟨b, 0, none⟩ hv').setCell ⟨b, 1, none⟩ (.int .i64 d'.h.next)).setCell ⟨b + 1, 0, none⟩ lv').setCell ⟨b + 1, 1, none⟩ (.int .i64 d'.sure)).setCell ⟨b + 1 + 1, 0, none⟩ tv').setCell ⟨b + 1 + 1, 1, none⟩ (.int .i64 d'.nx))).alloc (.cells cs.toArray 69)) ∧ Below A0.heap.size A0 ((((((((W'.setCell ⟨b, 0, none⟩ hv').setCell ⟨b, 1, none⟩ (.int .i64 d'.h.next)).setCell ⟨b + 1, 0, none⟩ lv').setCell ⟨b + 1, 1, none⟩ (.int .i64 d'.sure)).setCell ⟨b + 1 + 1, 0, none⟩ tv').setCell ⟨b + 1 + 1, 1, none⟩ (.int .i64 d'.nx))).alloc (.cells cs.toArray 69)) ∧ (∀ x cs', Blk W x cs' → ¬ (b ≤ x ∧ x < b + 3) → Blk ((((((((W'.setCell ⟨b, 0, none⟩ hv').setCell ⟨b, 1, none⟩ (.int .i64 d'.h.next)).setCell ⟨b + 1, 0, none⟩ lv').setCell ⟨b + 1, 1, none⟩ (.int .i64 d'.sure)).setCell ⟨b + 1 + 1, 0, none⟩ tv').setCell ⟨b + 1 + 1, 1, none⟩ (.int .i64 d'.nx))).alloc (.cells cs.toArray 69)) x cs') ∧ Blk ((((((((W'.setCell ⟨b, 0, none⟩ hv').setCell ⟨b, 1, none⟩ (.int .i64 d'.h.next)).setCell ⟨b + 1, 0, none⟩ lv').setCell ⟨b + 1, 1, none⟩ (.int .i64 d'.sure)).setCell ⟨b + 1 + 1, 0, none⟩ tv').setCell ⟨b + 1 + 1, 1, none⟩ (.int .i64 d'.nx))).alloc (.cells cs.toArray 69)) W'.heap.size cs ∧ W.heap.size ≤ W'.heap.size := by
  obtain ⟨h1, hz, hfar, hbel⟩ := H.put (d' := d') hb hq hl ht
  have hn := Blk.new (((((((W'.setCell ⟨b, 0, none⟩ hv').setCell ⟨b, 1, none⟩ (.int .i64 d'.h.next)).setCell ⟨b + 1, 0, none⟩ lv').setCell ⟨b + 1, 1, none⟩ (.int .i64 d'.sure)).setCell ⟨b + 1 + 1, 0, none⟩ tv').setCell ⟨b + 1 + 1, 1, none⟩ (.int .i64 d'.nx))) cs 69
  rw [hz] at hn
  have hs := hA.size
  refine ⟨h1.on (below_alloc _ _), (hbel _ _ (hA.trans (hb.mono hs)) hAb).alloc (by rw [hz]; exact Nat.le_trans hs hb.size) _, fun x cs' h hx => ?_, hn, hb.size⟩
  exact ((h.below hb h.lt).same (hfar x hx)).alloc _

set_option maxRecDepth 100000 in
set_option maxHeartbeats 12800000 in
theorem alive6_any (w : World) : Calls Try.prog 35 #[] w fun e w' => e = .returned (.bool true) ∧ Below w.heap.size w w' := by
  have P1 : Hid (∀ W, Calls Try.prog 37 #[.agg #[.slice none 0 0, .int .i64 0], .agg #[.slice none 0 0, .int .i64 0], .agg #[.slice none 0 0, .int .i64 0], .agg #[.int .i64 2, .string ⟨#[97]⟩, .int .i64 2, .slice none 0 0, .slice none 0 0], .int .i64 0] W (DA W dA1 1 dA1.l.length 0 1 0 0 0 0 0 0 0 0 0)) := fun W =>
    call_da dA0 dA1 (.slice none 0 0) (.slice none 0 0) (.slice none 0 0) aM (.slice none 0 0) (.slice none 0 0) W an1 (SliceQ.nil _ _) (SliceV.nil _ _) (SliceV.nil _ _) ok0 (NoteIs.nil _ _) (by intro p hp; simp [aM, noteN] at hp) rfl rfl rfl rfl rfl rfl rfl rfl rfl rfl rfl rfl rfl rfl
  go_enter Try.func35, Try.ntmps35
  go_upto_region 2 with (first
    | (go_at_call 37; refine (P1.out _).mono ?_; rintro e w1 ⟨ha1, hc1, la1, lc1, ta1, tc1, qa1, qc1, ua1, uc1, rfl, hq1, hl1, ht1, hb1⟩; have H1 : Hid _ := And.intro hq1 (And.intro hl1 (And.intro ht1 hb1)); clear hq1 hl1 ht1 hb1; simp only)
    | fail)
  clear P1
  obtain ⟨A, hA⟩ : ∃ A, A = (((w1.alloc (.cells #[.slice ha1 1 hc1, .int .i64 0] 24)).alloc (.cells #[.slice la1 dA1.l.length lc1, .int .i64 0] 32)).alloc (.cells #[.slice ta1 0 tc1, .int .i64 0] 64)).alloc (.cells #[.int .i64 1, .int .i64 0, .int .i64 0, .int .i64 0, .slice qa1 0 qc1, .slice ua1 0 uc1] 69) := ⟨_, rfl⟩
  have HA : Hid (AS w1.heap.size dA1 (.slice ha1 1 hc1) (.slice la1 dA1.l.length lc1) (.slice ta1 0 tc1) A ∧ Below w.heap.size w A ∧ Blk A (w1.heap.size + 1 + 1 + 1) [.int .i64 1, .int .i64 0, .int .i64 0, .int .i64 0, .slice qa1 0 qc1, .slice ua1 0 uc1] ∧ w.heap.size ≤ w1.heap.size) := by
    obtain ⟨h1, h2⟩ := AS.new H1.out.2.2.2 H1.out.1 H1.out.2.1 H1.out.2.2.1 (.cells #[.int .i64 1, .int .i64 0, .int .i64 0, .int .i64 0, .slice qa1 0 qc1, .slice ua1 0 uc1] 69)
    have h3 := Blk.new (((w1.alloc (.cells #[.slice ha1 1 hc1, .int .i64 0] 24)).alloc (.cells #[.slice la1 dA1.l.length lc1, .int .i64 0] 32)).alloc (.cells #[.slice ta1 0 tc1, .int .i64 0] 64)) [.int .i64 1, .int .i64 0, .int .i64 0, .int .i64 0, .slice qa1 0 qc1, .slice ua1 0 uc1] 69
    simp only [World.size_alloc] at h3
    rw [hA]
    exact ⟨h1, H1.out.2.2.2.trans (h2.mono H1.out.2.2.2.size), h3, H1.out.2.2.2.size⟩
  rw [← hA]
  have HW1 : Hid (w.heap.size ≤ w1.heap.size) := HA.out.2.2.2
  clear hA H1
  obtain ⟨⟨c0, c1, cf, cz⟩, ⟨c2, c3, cf', cz'⟩, ⟨c4, c5, cf'', cz''⟩⟩ := HA.out.1.cells (nxt := 0) (sure := 0) (nx := 0) rfl rfl rfl
  obtain ⟨R, hR⟩ : ∃ R, R = A.alloc (.cells #[.int .u8 120] 5 (1, 2)) := ⟨_, rfl⟩
  have HR : Hid (AS w1.heap.size dA1 (.slice ha1 1 hc1) (.slice la1 dA1.l.length lc1) (.slice ta1 0 tc1) R ∧ Below A.heap.size A R ∧ NoteIs (Under R.heap.size) R (.slice none 0 0, .slice (some ⟨A.heap.size, 0, none⟩) 1 1) nX) := by
    have hb : Below A.heap.size A R := by rw [hR]; exact below_alloc _ _
    refine ⟨HA.out.1.on hb, hb, SliceV.nil _ _, some ⟨A.heap.size, 0, none⟩, 1, rfl, Nat.le_refl _, by unfold maxLen; omega, fun h => by simp at h, fun i hi => ?_⟩
    have hi0 : i = 0 := by simp [u8s, nX] at hi; omega
    subst hi0
    have h1 : R.heap[A.heap.size]? = some (.cells #[.int .u8 120] 5 (1, 2)) := by rw [hR]; exact heap_alloc_new A _
    exact ⟨A.heap.size, 0, rfl, by show A.heap.size < R.heap.size; rw [hR]; simp, by rw [cell_of_row R A.heap.size 0 _ 5 (1, 2) h1]; rfl⟩
  have P2 : Hid (Calls Try.prog 37 #[.agg #[.slice ha1 1 hc1, .int .i64 0], .agg #[.slice la1 dA1.l.length lc1, .int .i64 0], .agg #[.slice ta1 0 tc1, .int .i64 0], .agg #[.int .i64 4, .string ⟨#[97]⟩, .int .i64 0, .slice none 0 0, .slice (some ⟨A.heap.size, 0, none⟩) 1 1], .int .i64 0] R (DA R dA2 1 lA.length 0 1 0 0 0 0 0 0 1 0 0)) :=
    call_da dA1 dA2 (.slice ha1 1 hc1) (.slice la1 dA1.l.length lc1) (.slice ta1 0 tc1) aP (.slice none 0 0) (.slice (some ⟨A.heap.size, 0, none⟩) 1 1) R an2 HR.out.1.qU.1 HR.out.1.qU.2.1 HR.out.1.qU.2.2 ok1 HR.out.2.2 (by intro p hp; simp [aP, nX] at hp) rfl rfl rfl rfl rfl rfl rfl rfl rfl rfl rfl rfl rfl rfl
  rw [hR] at P2
  have HRR : Hid (R = A.alloc (.cells #[.int .u8 120] 5 (1, 2))) := hR
  clear hR
  have kc := Joins.run_convert_bytes_const_at (P := Try.prog) A 26 5 #[.int .u8 120] 1 1 A.heap.size rfl Try.underlying26 Try.underlying5
  go_upto_region 3 with (first
    | (go_at_call 37; refine P2.out.mono ?_; rintro e w2 ⟨ha2, hc2, la2, lc2, ta2, tc2, qa2, qc2, ua2, uc2, rfl, hq2, hl2, ht2, hb2⟩; have H2 : Hid _ := And.intro hq2 (And.intro hl2 (And.intro ht2 hb2)); clear c0 c1 cf cz c2 c3 cf' cz' c4 c5 cf'' cz''; obtain ⟨⟨c0, c1, cf, cz⟩, ⟨c2, c3, cf', cz'⟩, ⟨c4, c5, cf'', cz''⟩⟩ := (HR.out.1.on (by rw [HRR.out]; exact hb2)).cells (nxt := 0) (sure := 0) (nx := 0) rfl rfl rfl; clear hq2 hl2 ht2 hb2; simp only)
    | fail)
  obtain ⟨B, hB⟩ : ∃ B, B = (((((((w2.setCell ⟨w1.heap.size, 0, none⟩ (.slice ha2 1 hc2)).setCell ⟨w1.heap.size, 1, none⟩ (.int .i64 1)).setCell ⟨w1.heap.size + 1, 0, none⟩ (.slice la2 lA.length lc2)).setCell ⟨w1.heap.size + 1, 1, none⟩ (.int .i64 0)).setCell ⟨w1.heap.size + 1 + 1, 0, none⟩ (.slice ta2 0 tc2)).setCell ⟨w1.heap.size + 1 + 1, 1, none⟩ (.int .i64 0))).alloc (.cells #[.int .i64 1, .int .i64 0, .int .i64 0, .int .i64 0, .slice qa2 0 qc2, .slice ua2 0 uc2] 69) := ⟨_, rfl⟩
  have HB : Hid (AS w1.heap.size dA2 (.slice ha2 1 hc2) (.slice la2 lA.length lc2) (.slice ta2 0 tc2) B ∧ Below w.heap.size w B ∧ Blk B (w1.heap.size + 1 + 1 + 1) [.int .i64 1, .int .i64 0, .int .i64 0, .int .i64 0, .slice qa1 0 qc1, .slice ua1 0 uc1] ∧ Blk B w2.heap.size [.int .i64 1, .int .i64 0, .int .i64 0, .int .i64 0, .slice qa2 0 qc2, .slice ua2 0 uc2] ∧ w1.heap.size + 1 + 1 + 1 < w2.heap.size) := by
    have hR := HRR.out
    obtain ⟨h1, h2, h3, h4, h5⟩ := HR.out.1.step (d' := dA2) (A0 := w) (HA.out.2.1.trans (HR.out.2.1.mono HA.out.2.1.size)) HA.out.2.2.2 (by rw [hR]; exact H2.out.2.2.2) (by rw [hR]; exact H2.out.1) (by rw [hR]; exact H2.out.2.1) (by rw [hR]; exact H2.out.2.2.1) [.int .i64 1, .int .i64 0, .int .i64 0, .int .i64 0, .slice qa2 0 qc2, .slice ua2 0 uc2]
    have hk := HA.out.2.2.1.below HR.out.2.1 HA.out.2.2.1.lt
    rw [hB]
    exact ⟨h1, h2, h3 _ _ hk (by omega), h4, Nat.lt_of_lt_of_le hk.lt h5⟩
  rw [← hB]
  clear c0 c1 cf cz c2 c3 cf' cz' c4 c5 cf'' cz''
  clear hB H2 kc P2 HR HRR HA
  obtain ⟨⟨c0, c1, cf, cz⟩, ⟨c2, c3, cf', cz'⟩, ⟨c4, c5, cf'', cz''⟩⟩ := HB.out.1.cells (nxt := 1) (sure := 0) (nx := 0) rfl rfl rfl
  have P3 : Hid (Calls Try.prog 37 #[.agg #[.slice ha2 1 hc2, .int .i64 1], .agg #[.slice la2 lA.length lc2, .int .i64 0], .agg #[.slice ta2 0 tc2, .int .i64 0], .agg #[.int .i64 5, .string ⟨#[97]⟩, .int .i64 0, .slice none 0 0, .slice none 0 0], .int .i64 0] B (DA B dA3 1 lA.length 1 2 1 0 0 0 1 0 1 0 1)) :=
    call_da dA2 dA3 (.slice ha2 1 hc2) (.slice la2 lA.length lc2) (.slice ta2 0 tc2) aT (.slice none 0 0) (.slice none 0 0) B an3 HB.out.1.qU.1 HB.out.1.qU.2.1 HB.out.1.qU.2.2 ok2 (NoteIs.nil _ _) (by intro p hp; simp [aT, noteN] at hp) rfl rfl rfl rfl rfl rfl rfl rfl rfl rfl rfl rfl rfl rfl
  go_upto_region 4 with (first
    | (go_at_call 37; refine P3.out.mono ?_; rintro e w3 ⟨ha3, hc3, la3, lc3, ta3, tc3, qa3, qc3, ua3, uc3, rfl, hq3, hl3, ht3, hb3⟩; have H3 : Hid _ := And.intro hq3 (And.intro hl3 (And.intro ht3 hb3)); clear c0 c1 cf cz c2 c3 cf' cz' c4 c5 cf'' cz''; obtain ⟨⟨c0, c1, cf, cz⟩, ⟨c2, c3, cf', cz'⟩, ⟨c4, c5, cf'', cz''⟩⟩ := (HB.out.1.on hb3).cells (nxt := 1) (sure := 0) (nx := 0) rfl rfl rfl; clear hq3 hl3 ht3 hb3; simp only)
    | fail)
  obtain ⟨C, hC⟩ : ∃ C, C = (((((((w3.setCell ⟨w1.heap.size, 0, none⟩ (.slice ha3 1 hc3)).setCell ⟨w1.heap.size, 1, none⟩ (.int .i64 1)).setCell ⟨w1.heap.size + 1, 0, none⟩ (.slice la3 lA.length lc3)).setCell ⟨w1.heap.size + 1, 1, none⟩ (.int .i64 0)).setCell ⟨w1.heap.size + 1 + 1, 0, none⟩ (.slice ta3 1 tc3)).setCell ⟨w1.heap.size + 1 + 1, 1, none⟩ (.int .i64 1))).alloc (.cells #[.int .i64 2, .int .i64 1, .int .i64 0, .int .i64 0, .slice qa3 0 qc3, .slice ua3 1 uc3] 69) := ⟨_, rfl⟩
  have HC : Hid (AS w1.heap.size dA3 (.slice ha3 1 hc3) (.slice la3 lA.length lc3) (.slice ta3 1 tc3) C ∧ Below w.heap.size w C ∧ Blk C (w1.heap.size + 1 + 1 + 1) [.int .i64 1, .int .i64 0, .int .i64 0, .int .i64 0, .slice qa1 0 qc1, .slice ua1 0 uc1] ∧ Blk C w2.heap.size [.int .i64 1, .int .i64 0, .int .i64 0, .int .i64 0, .slice qa2 0 qc2, .slice ua2 0 uc2] ∧ Blk C w3.heap.size [.int .i64 2, .int .i64 1, .int .i64 0, .int .i64 0, .slice qa3 0 qc3, .slice ua3 1 uc3] ∧ w.heap.size ≤ w1.heap.size ∧ w2.heap.size < w3.heap.size) := by
    obtain ⟨h1, h2, h3, h4, h5⟩ := HB.out.1.step (d' := dA3) (A0 := w) HB.out.2.1 HW1.out H3.out.2.2.2 H3.out.1 H3.out.2.1 H3.out.2.2.1 [.int .i64 2, .int .i64 1, .int .i64 0, .int .i64 0, .slice qa3 0 qc3, .slice ua3 1 uc3]
    have hlt := HB.out.2.2.2.2
    have hk := HB.out.2.2.2.1
    rw [hC]
    exact ⟨h1, h2, h3 _ _ HB.out.2.2.1 (by omega), h3 _ _ hk (by omega), h4, HW1.out, Nat.lt_of_lt_of_le hk.lt h5⟩
  rw [← hC]
  clear c0 c1 cf cz c2 c3 cf' cz' c4 c5 cf'' cz''
  clear hC H3 P3 HB
  obtain ⟨⟨c0, c1, cf, cz⟩, ⟨c2, c3, cf', cz'⟩, ⟨c4, c5, cf'', cz''⟩⟩ := HC.out.1.cells (nxt := 1) (sure := 0) (nx := 1) rfl rfl rfl
  have P4 : Hid (Calls Try.prog 37 #[.agg #[.slice ha3 1 hc3, .int .i64 1], .agg #[.slice la3 lA.length lc3, .int .i64 0], .agg #[.slice ta3 1 tc3, .int .i64 1], .agg #[.int .i64 6, .string ⟨#[97]⟩, .int .i64 2, .slice none 0 0, .slice none 0 0], .int .i64 0] C (DA C dA3 1 lA.length 1 0 0 0 0 0 0 9 1 0 1)) :=
    call_da dA3 dA3 (.slice ha3 1 hc3) (.slice la3 lA.length lc3) (.slice ta3 1 tc3) aW (.slice none 0 0) (.slice none 0 0) C an4 HC.out.1.qU.1 HC.out.1.qU.2.1 HC.out.1.qU.2.2 ok3 (NoteIs.nil _ _) (by intro p hp; simp [aW, noteN] at hp) rfl rfl rfl rfl rfl rfl rfl rfl rfl rfl rfl rfl rfl rfl
  go_upto_region 5 with (first
    | (go_at_call 37; refine P4.out.mono ?_; rintro e w4 ⟨ha4, hc4, la4, lc4, ta4, tc4, qa4, qc4, ua4, uc4, rfl, hq4, hl4, ht4, hb4⟩; have H4 : Hid _ := And.intro hq4 (And.intro hl4 (And.intro ht4 hb4)); clear c0 c1 cf cz c2 c3 cf' cz' c4 c5 cf'' cz''; obtain ⟨⟨c0, c1, cf, cz⟩, ⟨c2, c3, cf', cz'⟩, ⟨c4, c5, cf'', cz''⟩⟩ := (HC.out.1.on hb4).cells (nxt := 1) (sure := 0) (nx := 1) rfl rfl rfl; clear hq4 hl4 ht4 hb4; simp only)
    | fail)
  obtain ⟨D, hD⟩ : ∃ D, D = (((w4.alloc (.cells #[.slice ha4 1 hc4, .int .i64 1] 24)).alloc (.cells #[.slice la4 lA.length lc4, .int .i64 0] 32)).alloc (.cells #[.slice ta4 1 tc4, .int .i64 1] 64)).alloc (.cells #[.int .i64 0, .int .i64 0, .int .i64 0, .int .i64 0, .slice qa4 0 qc4, .slice ua4 0 uc4] 69) := ⟨_, rfl⟩
  have HD : Hid (AS w1.heap.size dA3 (.slice ha3 1 hc3) (.slice la3 lA.length lc3) (.slice ta3 1 tc3) D ∧ Below w.heap.size w D ∧ Blk D (w1.heap.size + 1 + 1 + 1) [.int .i64 1, .int .i64 0, .int .i64 0, .int .i64 0, .slice qa1 0 qc1, .slice ua1 0 uc1] ∧ Blk D w2.heap.size [.int .i64 1, .int .i64 0, .int .i64 0, .int .i64 0, .slice qa2 0 qc2, .slice ua2 0 uc2] ∧ Blk D w3.heap.size [.int .i64 2, .int .i64 1, .int .i64 0, .int .i64 0, .slice qa3 0 qc3, .slice ua3 1 uc3]) := by
    have hz := H4.out.2.2.2.size
    have hb : Below C.heap.size C D := by
      rw [hD]
      exact (((H4.out.2.2.2.alloc hz _).alloc (by simp; omega) _).alloc (by simp; omega) _).alloc (by simp; omega) _
    obtain ⟨h1, h2, h3, h4, h5, -⟩ := HC.out
    exact ⟨h1.on hb, h2.trans (hb.mono h2.size), h3.below hb h3.lt, h4.below hb h4.lt, h5.below hb h5.lt⟩
  rw [← hD]
  clear c0 c1 cf cz c2 c3 cf' cz' c4 c5 cf'' cz''
  clear hD H4 P4 HC
  obtain ⟨⟨c0, c1, cf, cz⟩, ⟨c2, c3, cf', cz'⟩, ⟨c4, c5, cf'', cz''⟩⟩ := HD.out.1.cells (nxt := 1) (sure := 0) (nx := 1) rfl rfl rfl
  have P5 : Hid (Calls Try.prog 66 #[.agg #[.slice ha3 1 hc3, .int .i64 1], .agg #[.slice la3 lA.length lc3, .int .i64 0], .agg #[.slice ta3 1 tc3, .int .i64 1]] D fun e w' => ∃ xa xc ma mc, e = .returned (.tuple #[.agg #[.slice xa 1 xc, .int .i64 1], .agg #[.slice ma lA.length mc, .int .i64 0]]) ∧ SliceQ (Made D.heap.size w'.heap.size) w' (.slice xa 1 xc) dL4.h.queues ∧ Below D.heap.size D w') := by
    have := leave_any dL3 (.slice ha3 1 hc3) (.slice la3 lA.length lc3) (.slice ta3 1 tc3) [tA] 1 D ⟨rfl, rfl⟩ HD.out.1.qU.1 HD.out.1.qU.2.1 HD.out.1.qU.2.2 (ok4 0 (by decide)).h.1 (ok4 0 (by decide)).l ok4
    rw [an5] at this
    refine this.mono ?_
    rintro e w' ⟨ha, hc, la, lc, rfl, h1, h2, h3⟩
    exact ⟨ha, hc, la, lc, rfl, h1, h3⟩
  have P6 : Hid (∀ W, Calls Try.prog 67 #[.agg #[.int .i64 0, .string ⟨#[]⟩, .int .i64 0, .slice none 0 0, .slice none 0 0]] W fun r w' => r = .returned (.int .i64 1) ∧ Below W.heap.size W w') := fun W => by
    have := swrong_any aZ (.slice none 0 0) (.slice none 0 0) W (by decide) (NoteIs.nil _ _) (by intro p hp; simp [aZ, noteN] at hp)
    rw [an6] at this
    exact this
  have HL : Hid (8 < lA.length ∧ lA.length ≤ 1000) := lA_len
  have l8 : decide ((8 : Int) < (lA.length : Int)) = true := by have := HL.out.1; simp; omega
  have P7 : Hid (∀ W, Below D.heap.size D W → Calls Try.prog 68 #[.agg #[.slice ta3 1 tc3, .int .i64 1]] W fun e w' => ∃ a c, e = .returned (.agg #[.slice a 1 c, .int .i64 1]) ∧ Below W.heap.size W w') := by
    show ∀ W : World, _
    intro W hW
    refine (sessOwn_any (.slice ta3 1 tc3) 1 [tA] W (HD.out.1.on hW).qU.2.2 (by decide)).mono ?_
    rintro e w' ⟨a, c, rfl, -, hb⟩
    exact ⟨a, c, rfl, hb⟩
  have hfl := ss_field0
  go_wp2_with (first
    | (go_at_call 66; refine P5.out.mono ?_; rintro e w5 ⟨xa, xc, ma, mc, rfl, hx5, hb5⟩; obtain ⟨xb, xo, yb, yo, ic, rfl, xz, yz, x2, y3⟩ := out_at hx5; have H5 : Hid (Below D.heap.size D w5) := hb5; have g1 : w5.cell? ⟨w1.heap.size + 1 + 1 + 1, 0, none⟩ = some (.int .i64 1) := (HD.out.2.2.1.below hb5 HD.out.2.2.1.lt).cell 0; have e1 := (HD.out.2.2.1.below hb5 HD.out.2.2.1.lt).lt; have g2 : w5.cell? ⟨w2.heap.size, 0, none⟩ = some (.int .i64 1) := (HD.out.2.2.2.1.below hb5 HD.out.2.2.2.1.lt).cell 0; have e2 := (HD.out.2.2.2.1.below hb5 HD.out.2.2.2.1.lt).lt; have g3 : w5.cell? ⟨w3.heap.size, 0, none⟩ = some (.int .i64 2) := (HD.out.2.2.2.2.below hb5 HD.out.2.2.2.2.lt).cell 0; have g4 : w5.cell? ⟨w3.heap.size, 1, none⟩ = some (.int .i64 1) := (HD.out.2.2.2.2.below hb5 HD.out.2.2.2.2.lt).cell 1; have e3 := (HD.out.2.2.2.2.below hb5 HD.out.2.2.2.2.lt).lt; clear c0 c1 cf cz c2 c3 cf' cz' c4 c5 cf'' cz''; obtain ⟨⟨c0, c1, cf, cz⟩, ⟨c2, c3, cf', cz'⟩, ⟨c4, c5, cf'', cz''⟩⟩ := (HD.out.1.on hb5).cells (nxt := 1) (sure := 0) (nx := 1) rfl rfl rfl; clear hb5 hx5; simp only)
    | (go_at_call 67; refine (P6.out _).mono ?_; rintro r w6 ⟨rfl, hb6⟩; have H6 : Hid (Below D.heap.size D w6) := H5.out.trans ((((below_alloc w5 _).alloc (by simp) _).trans (hb6.mono (by simp; omega))).mono H5.out.size); clear c0 c1 cf cz c2 c3 cf' cz' c4 c5 cf'' cz''; obtain ⟨⟨c0, c1, cf, cz⟩, ⟨c2, c3, cf', cz'⟩, ⟨c4, c5, cf'', cz''⟩⟩ := (HD.out.1.on H6.out).cells (nxt := 1) (sure := 0) (nx := 1) rfl rfl rfl; clear hb6; simp only)
    | (go_at_call 68; refine (P7.out _ H6.out).mono ?_; rintro r w7 ⟨oa, oc, rfl, hb7⟩; have H7 : Hid (Below w.heap.size w w7) := HD.out.2.1.trans ((H6.out.trans (hb7.mono H6.out.size)).mono HD.out.2.1.size); clear hb7; simp only)
    | fail)
  go_ret
  exact ⟨rfl, H7.out⟩
end Go.Proofs.Ytkddkpdfeeikhaa

/-
  tglaw6.right, tgref6.SameSession.
-/
namespace Go.Proofs.Ytkddkpdfeeikhaa
open Go.RowKit
set_option linter.unusedVariables false
set_option linter.unusedSimpArgs false

attribute [local go_sem ↓] Go.wp_at_zero Go.wp_at_succ

set_option maxRecDepth 100000 in
set_option maxHeartbeats 3200000 in
theorem right6_any (v u tv : Value) (h : HD) (sure nx : Int) (l : List UInt8) (ts : List TD) (w : World) (hv : SliceQ (Under w.heap.size) w v h.queues) (hname : ∀ q ∈ h.queues, q.name.size ≤ maxLen) (hfit : ∀ q ∈ h.queues, ∀ i ∈ q.items, i.note.fitN) (hu : SliceB (Under w.heap.size) w u l) (ht : SliceT (Under w.heap.size) w tv ts) :
    Calls Try.prog 36 #[.agg #[v, .int .i64 h.next], .agg #[u, .int .i64 sure], .agg #[tv, .int .i64 nx]] w (AnsB w (h.sound ∧ 0 ≤ nx ∧ nx < 1000000)) := by
  obtain ⟨va, vc, rfl⟩ := hv.shp
  obtain ⟨ua, uc, rfl, -⟩ := SliceV.shape hu
  obtain ⟨ta, tc, rfl, -⟩ := SliceV.shape ht
  obtain ⟨A, hA⟩ : ∃ A, A = ((w.alloc (.cells #[.slice va h.queues.length vc, .int .i64 h.next] 24)).alloc (.cells #[.slice ua l.length uc, .int .i64 sure] 32)).alloc (.cells #[.slice ta ts.length tc, .int .i64 nx] 64) := ⟨_, rfl⟩
  have hAb : Below w.heap.size w A := by rw [hA]; exact ((below_alloc _ _).alloc (by simp) _).alloc (by simp; omega) _
  have HA : Hid (Below w.heap.size w A ∧ Blk A w.heap.size [.slice va h.queues.length vc, .int .i64 h.next] ∧ Blk A (w.heap.size + 1) [.slice ua l.length uc, .int .i64 sure] ∧ Blk A (w.heap.size + 2) [.slice ta ts.length tc, .int .i64 nx]) := by
    refine ⟨hAb, by rw [hA]; exact ((Blk.new _ _ _).alloc _).alloc _, ?_, ?_⟩
    · rw [hA]
      have := (Blk.new (w.alloc (.cells #[.slice va h.queues.length vc, .int .i64 h.next] 24)) [.slice ua l.length uc, .int .i64 sure] 32).alloc (.cells #[.slice ta ts.length tc, .int .i64 nx] 64)
      simpa using this
    · rw [hA]
      have := Blk.new ((w.alloc (.cells #[.slice va h.queues.length vc, .int .i64 h.next] 24)).alloc (.cells #[.slice ua l.length uc, .int .i64 sure] 32)) [.slice ta ts.length tc, .int .i64 nx] 64
      simpa using this
  have HR : Hid (Calls Try.prog 19 #[.agg #[.slice va h.queues.length vc, .int .i64 h.next]] A (AnsB A h.sound)) := rightH_any _ h A (hv.sub fun b hb => ⟨Nat.lt_of_lt_of_le hb hAb.size, hAb.block b hb⟩) hname hfit
  obtain ⟨a0, a1, a2, a3⟩ := HA.out.2.1.b2
  obtain ⟨sd, hsd⟩ : ∃ sd : Prop, sd = h.sound := ⟨_, rfl⟩
  rw [← hsd] at HR ⊢
  obtain ⟨PP, hPP⟩ : ∃ PP : Prop, PP = (sd ∧ 0 ≤ nx ∧ nx < 1000000) := ⟨_, rfl⟩
  have HPP : Hid (sd ∧ 0 ≤ nx ∧ nx < 1000000 → PP) := fun h => by rw [hPP]; exact h
  rw [← hPP]
  clear hv hu ht hname hfit hAb hsd hPP
  go_enter Try.func36, Try.ntmps36
  go_upto_region 1 with fail
  rw [← hA]
  clear hA
  by_cases n1 : 0 ≤ nx
  · by_cases n2 : nx < 1000000
    · go_wp2_with (first
        | (go_at_call 19; refine HR.out.mono ?_; rintro e w1 ⟨kb, rfl, hs, hb1⟩; have H1 : Hid ((kb = true → sd) ∧ Below w.heap.size w w1) := ⟨hs, HA.out.1.trans (hb1.mono HA.out.1.size)⟩; obtain ⟨b0, b1, b2, b3⟩ := (HA.out.2.2.1.below hb1 HA.out.2.2.1.lt).b2; obtain ⟨c0, c1, c2, c3⟩ := (HA.out.2.2.2.below hb1 HA.out.2.2.2.lt).b2; clear hs hb1 a0 a1 a2 a3; cases kb)
        | fail)
      all_goals
        go_ret
        exact ⟨_, rfl, fun hb => by first | exact HPP.out ⟨H1.out.1 rfl, n1, n2⟩ | exact HPP.out ⟨H1.out.1 trivial, n1, n2⟩ | (exfalso; simp_all; done) | (exfalso; simp_all; omega), H1.out.2⟩
    · go_wp2_with (first
        | (go_at_call 19; refine HR.out.mono ?_; rintro e w1 ⟨kb, rfl, hs, hb1⟩; have H1 : Hid ((kb = true → sd) ∧ Below w.heap.size w w1) := ⟨hs, HA.out.1.trans (hb1.mono HA.out.1.size)⟩; obtain ⟨b0, b1, b2, b3⟩ := (HA.out.2.2.1.below hb1 HA.out.2.2.1.lt).b2; obtain ⟨c0, c1, c2, c3⟩ := (HA.out.2.2.2.below hb1 HA.out.2.2.2.lt).b2; clear hs hb1 a0 a1 a2 a3; cases kb)
        | fail)
      all_goals
        go_ret
        exact ⟨_, rfl, fun hb => by first | (exfalso; simp_all; done) | (exfalso; simp_all; omega), H1.out.2⟩
  · go_wp2_with (first
      | (go_at_call 19; refine HR.out.mono ?_; rintro e w1 ⟨kb, rfl, hs, hb1⟩; have H1 : Hid ((kb = true → sd) ∧ Below w.heap.size w w1) := ⟨hs, HA.out.1.trans (hb1.mono HA.out.1.size)⟩; obtain ⟨b0, b1, b2, b3⟩ := (HA.out.2.2.1.below hb1 HA.out.2.2.1.lt).b2; obtain ⟨c0, c1, c2, c3⟩ := (HA.out.2.2.2.below hb1 HA.out.2.2.2.lt).b2; clear hs hb1 a0 a1 a2 a3; cases kb)
      | fail)
    all_goals
      go_ret
      exact ⟨_, rfl, fun hb => by first | (exfalso; simp_all; done) | (exfalso; simp_all; omega), H1.out.2⟩

end Go.Proofs.Ytkddkpdfeeikhaa
