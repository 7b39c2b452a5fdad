/-
  RefS; RefDrop; RefX: texts laid together.
-/
import Derived.Test.YtkddkpdfeeikhaaJTellsProofM17
import Derived.Test.YtkddkpdfeeikhaaJTellsProofM18
import Derived.Test.YtkddkpdfeeikhaaJTellsProofM19
import Derived.Test.YtkddkpdfeeikhaaJTellsProofM20
import Derived.Test.YtkddkpdfeeikhaaJTellsProofM11
import Derived.Deep.DeepCutAuto
import Derived.Deep.RegionHeld3
/-
  How the document's halls are answered: in blocks of a set, or in new ones.
-/
namespace Go.Proofs.Ytkddkpdfeeikhaa
open Go.RowKit
set_option linter.unusedVariables false
set_option linter.unusedSimpArgs false

attribute [local go_sem ↓] Go.wp_at_zero Go.wp_at_succ

theorem Blk.b4 {w : World} {b : Nat} {x0 x1 x2 x3 : Value} (h : Blk w b [x0, x1, x2, x3]) : w.cell? ⟨b, 0, none⟩ = some x0 ∧ w.cell? ⟨b, 1, none⟩ = some x1 ∧ w.cell? ⟨b, 2, none⟩ = some x2 ∧ w.cell? ⟨b, 3, none⟩ = some x3 ∧ (∀ o, w.frozen? ⟨b, o, none⟩ = false) ∧ b < w.heap.size := ⟨h.cell 0, h.cell 1, h.cell 2, h.cell 3, h.f, h.lt⟩

/-- S's blocks, or those that were made since w. -/
def SM (S : Nat → Prop) (w w' : World) : Nat → Prop := fun b => S b ∨ Made w.heap.size w'.heap.size b

/-- A hall, entries and an error are answered: their blocks are S's or made. -/
def AnsS (S : Nat → Prop) (r : HD × List ED × Int) (w : World) (e : Ending) (w' : World) : Prop :=
  ∃ va vc ea ec, e = .returned (.tuple #[.agg #[.slice va r.1.queues.length vc, .int .i64 r.1.next], .slice ea r.2.1.length ec, .int .i64 r.2.2]) ∧ SliceQ (SM S w w') w' (.slice va r.1.queues.length vc) r.1.queues ∧ SliceE (SM S w w') w' (.slice ea r.2.1.length ec) r.2.1
theorem AnsS.refuse (S : Nat → Prop) (en : Int) (w w' : World) : AnsS S (refuse en) w (.returned (.tuple #[.agg #[.slice none 0 0, .int .i64 0], .slice none 0 0, .int .i64 en])) w' :=
  ⟨none, 0, none, 0, rfl, SliceQ.nil _ _, SliceE.nil _ _⟩

/-- A queue in a box, behind a call from W. -/
structure QB (S : Nat → Prop) (W : World) (q : QD) (va : Option Addr) (vc : Nat) (qb : Nat) (w1 : World) : Prop where
  bel : Below W.heap.size W w1
  qblk : Blk w1 qb [.string q.name, .int .i64 q.limit, .slice va q.items.length vc]
  ql : W.heap.size ≤ qb
  items : SliceI (fun b => S b ∨ (Made W.heap.size w1.heap.size b ∧ b ≠ qb)) w1 (.slice va q.items.length vc) q.items
theorem QB.new {S : Nat → Prop} {W w1 : World} {q : QD} {va : Option Addr} {vc : Nat} (hS : ∀ b, S b → b < W.heap.size) (h1 : Below W.heap.size W w1) (hI : SliceI (fun b => S b ∨ Made W.heap.size w1.heap.size b) w1 (.slice va q.items.length vc) q.items) :
    QB S W q va vc w1.heap.size (w1.alloc (.cells #[.string q.name, .int .i64 q.limit, .slice va q.items.length vc] 76)) := by
  have hz := h1.size
  refine ⟨h1.alloc h1.size _, Blk.new _ _ _, h1.size, hI.sub fun b hb => ?_⟩
  have hb' : b < w1.heap.size := by
    rcases hb with h | h
    · have := hS b h; omega
    · exact h.2
  refine ⟨hb.imp (fun h => h) (fun h => ⟨⟨h.1, by have := h.2; simp; omega⟩, by have := h.2; omega⟩), Below.heap_alloc _ _ _ hb'⟩
theorem QB.set {S : Nat → Prop} {W : World} {q : QD} {va : Option Addr} {vc : Nat} {qb : Nat} {w1 : World} (h : QB S W q va vc qb w1) : (∀ b, (S b ∨ (Made W.heap.size w1.heap.size b ∧ b ≠ qb)) → S b ∨ Made W.heap.size w1.heap.size b) := fun b hb => hb.imp id And.left

/-- A row of one entry. -/
theorem entry_row {w : World} {b : Nat} {cs : List Value} (h : Blk w b cs) : SliceV (fun c => c = b) w (.slice (some ⟨b, 0, none⟩) 1 1) 1 cs := by
  refine ⟨_, _, rfl, Nat.le_refl _, by simp [maxLen], fun h => by simp at h, fun i hi => ⟨b, 0, rfl, rfl, ?_⟩⟩
  have := h.cell (0 + i)
  rw [Nat.zero_add, List.getElem?_eq_getElem hi] at this
  rw [Nat.zero_add]
  exact this
theorem entry_one {T : Nat → Prop} {w : World} {b : Nat} (e : ED) (p : Value × Value) (h : Blk w b (e.cells p)) (hb : T b) (hn : NoteIs T w p e.note) : SliceE T w (.slice (some ⟨b, 0, none⟩) 1 1) [e] := by
  refine ⟨[(e, p)], rfl, ?_, fun x hx => ?_⟩
  · have : cellsE [(e, p)] = e.cells p := by simp [cellsE]
    rw [this]
    exact (entry_row h).sub fun c hc => ⟨by have : c = b := hc; subst this; exact hb, rfl⟩
  · rw [List.mem_singleton] at hx
    subst hx
    exact hn

theorem SliceI.nil (S : Nat → Prop) (w : World) : SliceI S w (.slice none 0 0) [] := ⟨[], rfl, SliceV.nil _ _, by simp⟩

/-- A cell that a call leaves. -/
theorem bel_c {W w2 : World} (h : Below W.heap.size W w2) {b o : Nat} {x : Value} (hb : b < W.heap.size) (hx : W.cell? ⟨b, o, none⟩ = some x) : w2.cell? ⟨b, o, none⟩ = some x := (h.cell (p := ⟨b, o, none⟩) hb).trans hx

/-- The end of a face: its answer lies in its box; all else of w3 is as it was. -/
structure Fn (w3 wF : World) (rb : Nat) (x y : Value) : Prop where
  box : Blk wF rb [x, y]
  keep : ∀ b, b < w3.heap.size → b ≠ rb → wF.heap[b]? = w3.heap[b]?
  size : w3.heap.size ≤ wF.heap.size
  os : wF.os = w3.os
  tape : wF.tape = w3.tape
  output : wF.output = w3.output
theorem Fn.A {w3 : World} {rb : Nat} {x0 y0 : Value} (h : Blk w3 rb [x0, y0]) (x y : Value) (o : Obj) : Fn w3 (((w3.setCell ⟨rb, 0, none⟩ x).setCell ⟨rb, 1, none⟩ y).alloc o) rb x y := by
  refine ⟨((h.set 0 x).set 1 y).alloc o, fun b h1 h2 => ?_, by simp, rfl, rfl, rfl⟩
  rw [Below.heap_alloc _ _ _ (by simpa using h1), Below.heap_setCell _ _ _ _ h2, Below.heap_setCell _ _ _ _ h2]
theorem Fn.B {w3 : World} {rb : Nat} {x0 y0 : Value} (h : Blk w3 rb [x0, y0]) (x y : Value) : Fn w3 ((w3.setCell ⟨rb, 0, none⟩ x).setCell ⟨rb, 1, none⟩ y) rb x y := by
  refine ⟨(h.set 0 x).set 1 y, fun b h1 h2 => ?_, by simp, rfl, rfl, rfl⟩
  rw [Below.heap_setCell _ _ _ _ h2, Below.heap_setCell _ _ _ _ h2]
theorem Fn.below {w w3 wF : World} {rb : Nat} {x y : Value} (F : Fn w3 wF rb x y) (hrb : w.heap.size ≤ rb) (hB : Below w.heap.size w w3) : Below w.heap.size w wF :=
  ⟨F.os.trans hB.os, F.tape.trans hB.tape, F.output.trans hB.output, Nat.le_trans hB.size F.size, fun b hb => (F.keep b (Nat.lt_of_lt_of_le hb hB.size) (by omega)).trans (hB.block b hb)⟩
theorem Fn.ans {S T : Nat → Prop} {w w3 wF : World} {rb : Nat} {hd : HD} {es : List ED} {sa : Option Addr} {n sc : Nat} {ev : Value} (F : Fn w3 wF rb (.slice sa n sc) (.int .i64 hd.next)) (hrb : w.heap.size ≤ rb) (hB : Below w.heap.size w w3) (hQ : SliceQ T w3 (.slice sa n sc) hd.queues)
    (hT : ∀ b, T b → (S b ∨ w.heap.size ≤ b) ∧ b < w3.heap.size ∧ b ≠ rb) (hE : SliceE (SM S w wF) wF ev es) :
    AnsS S (hd, es, 0) w (.returned (.tuple #[.agg #[.slice sa n sc, .int .i64 hd.next], ev, .int .i64 0])) wF ∧ Below w.heap.size w wF := by
  obtain ⟨a', c', e⟩ := hQ.shp
  simp only [Value.slice.injEq] at e
  obtain ⟨rfl, rfl, rfl⟩ := e
  obtain ⟨ea, ec, rfl⟩ := hE.shp
  have hz := F.size
  exact ⟨⟨sa, sc, ea, ec, rfl, hQ.sub fun b hb => ⟨(hT b hb).1.imp (fun h => h) (fun h => ⟨h, by have := (hT b hb).2.1; omega⟩), F.keep b (hT b hb).2.1 (hT b hb).2.2⟩, hE⟩, F.below hrb hB⟩
end Go.Proofs.Ytkddkpdfeeikhaa

/-
  tgref1.DropQueue.
-/
namespace Go.Proofs.Ytkddkpdfeeikhaa
open Go.RowKit
set_option linter.unusedVariables false
set_option linter.unusedSimpArgs false

attribute [local go_sem ↓] Go.wp_at_zero Go.wp_at_succ

theorem cellsQ_take (L : QuL) (k : Nat) (hk : k ≤ L.length) : (cellsQ L).take (k * 3) = cellsQ (L.take k) := flat_take _ 3 (fun _ => rfl) L k hk
theorem cellsQ_drop (L : QuL) (k : Nat) (hk : k ≤ L.length) : (cellsQ L).drop (k * 3) = cellsQ (L.drop k) := flat_drop _ 3 (fun _ => rfl) L k hk

theorem sliceQ_take {S : Nat → Prop} {w : World} {a : Option Addr} {n cap : Nat} {L : QuL} (h : SliceV S w (.slice a n cap) n (cellsQ L)) (hn : n = L.length) (k : Nat) (hk : k ≤ n) : SliceV S w (.slice a k cap) k (cellsQ (L.take k)) := by
  obtain ⟨a', cap', e, h1, h2, h3, h4⟩ := h
  simp only [Value.slice.injEq] at e
  obtain ⟨rfl, -, rfl⟩ := e
  refine ⟨a, cap, rfl, by omega, h2, h3, fun i hi => ?_⟩
  have hl := cellsQ_len L
  rw [cellsQ_len, List.length_take] at hi
  obtain ⟨b, off, e, hs, hc⟩ := h4 i (by omega)
  refine ⟨b, off, e, hs, ?_⟩
  rw [hc]
  congr 1
  have e2 := cellsQ_take L k (by omega)
  simp only [← e2, List.getElem_take]

theorem sliceQ_drop {S : Nat → Prop} {w : World} {b off n cap : Nat} {L : QuL} (h : SliceV S w (.slice (some ⟨b, off, none⟩) n cap) n (cellsQ L)) (hn : n = L.length) (k : Nat) (hk : k ≤ n) (A : Addr) (hA : (if cap = k then some (⟨b, off, none⟩ : Addr) else some ⟨b, off + k * 3, none⟩) = some A) : SliceV S w (.slice (some A) (n - k) (cap - k)) (n - k) (cellsQ (L.drop k)) := by
  obtain ⟨a', cap', e, h1, h2, h3, h4⟩ := h
  simp only [Value.slice.injEq] at e
  obtain ⟨rfl, -, rfl⟩ := e
  refine ⟨some A, cap - k, rfl, by omega, by unfold maxLen at *; omega, fun h => by simp at h, fun i hi => ?_⟩
  rw [cellsQ_len, List.length_drop] at hi
  have hne : ¬ cap = k := by omega
  rw [if_neg hne, Option.some.injEq] at hA
  subst hA
  have hl := cellsQ_len L
  obtain ⟨b', off', e, hs, hc⟩ := h4 (k * 3 + i) (by omega)
  simp only [Option.some.injEq, Addr.mk.injEq, and_true] at e
  obtain ⟨rfl, rfl⟩ := e
  refine ⟨b, off + k * 3, rfl, hs, ?_⟩
  rw [Nat.add_assoc, hc]
  congr 1
  have e2 := cellsQ_drop L k (by omega)
  simp only [← e2, List.getElem_drop]

set_option maxRecDepth 100000 in
set_option maxHeartbeats 3200000 in
theorem refDrop_any (S : Nat → Prop) (v : Value) (h : HD) (name : ByteArray) (w : World) (hS : ∀ b, S b → b < w.heap.size) (hv : SliceQ S w v h.queues) (hlen : h.queues.length ≤ 4194304) :
    Calls Try.prog 29 #[.agg #[v, .int .i64 h.next], .string name] w fun e w' => AnsS S (faceF h name (fun k q => dropF h k q)) w e w' ∧ Below w.heap.size w w' := by
  obtain ⟨i0, hi0, hz0, hz1, hz2⟩ := info_parts info25
  have HV : Hid (SliceQ S w v h.queues) := hv
  have HSS : Hid (∀ b, S b → b < w.heap.size) := hS
  obtain ⟨va, vc, rfl, hc1, hc2, -⟩ := hv.shape
  have two : Hid (∀ o1 o2 : Obj, Below w.heap.size w ((w.alloc o1).alloc o2)) := fun o1 o2 => (below_alloc _ _).alloc (by simp) _
  rcases idxQ_cases name h.queues with ⟨hd, -⟩ | ⟨k, hk, hd, hnm, -⟩
  · rw [faceF_none hd]
    have HI : Hid (idxQ name h.queues = -1) := hd
    clear hd hv hS
    go_enter Try.func29, Try.ntmps29
    go_wp2_with (go_at_call 56; refine (refFind_any name _ h.next h.queues _ (HV.out.sub fun b hb => ⟨?_, (two.out _ _).block b (HSS.out b hb)⟩)).mono ?_; (have := HSS.out b hb; simp [Under]; omega); rw [HI.out]; rintro e w1 ⟨rfl, hb1⟩; have hk2 := (Blk.new (w.alloc _) [.slice none 0 0, .int .i64 0] 24).below hb1 (by simp); simp only [World.size_alloc] at hk2; obtain ⟨c0, c1, c2, c3⟩ := hk2.b2; have HB1 : Hid (Below w.heap.size w w1) := (two.out _ _).trans (hb1.mono (by simp; omega)); clear hb1 hk2)
    refine bodyPost_ret (v := .tuple #[.agg #[.slice none 0 0, .int .i64 0], .slice none 0 0, .int .i64 6]) (by simp [results, Try.results29, go_sem, *]; done) rfl ⟨AnsS.refuse _ _ _ _, ?_⟩
    iterate 2 refine Below.setCell ?_ (by simp) _
    exact HB1.out
  · rw [faceF_some hd hk]
    have hfl : failF (dropF h k h.queues[k]) = (⟨h.queues.eraseIdx k, h.next⟩, [⟨2, name, 0, 0, nN⟩], 0) := by simp [failF, dropF, hnm]
    rw [hfl]
    have HI : Hid (idxQ name h.queues = (k : Int)) := hd
    obtain ⟨L, hLe, hL, hN⟩ := hv
    have hLl : h.queues.length = L.length := by rw [← hLe]; simp
    obtain ⟨m, hm⟩ : ∃ m, L.length = k + m + 1 := ⟨L.length - k - 1, by omega⟩
    rw [hLl, hm] at hk hc1 hlen HV ⊢
    rw [hLl, hm] at hL
    have HL : Hid (SliceV S w (.slice va (k + m + 1) vc) (k + m + 1) (cellsQ L)) := by rw [← hm] at hL ⊢; exact hL
    have HN : Hid (L.map Prod.fst = h.queues ∧ ∀ x ∈ L, SliceI S w x.2 x.1.items) := ⟨hLe, hN⟩
    have HO : Hid (∀ u ∈ cellsQ L, u.oneCell' = true) := cellsQ_one L hN
    have HMM : Hid (L.length = k + m + 1) := hm
    obtain ⟨b, off, rfl, -⟩ : ∃ b off, va = some ⟨b, off, none⟩ ∧ True := by
      obtain ⟨_, _, e, _, _, _, h4⟩ := HL.out
      obtain ⟨b, off, e2, -⟩ := h4 0 (by rw [cellsQ_len]; omega)
      simp only [Value.slice.injEq] at e
      exact ⟨b, off, e.1.trans e2, trivial⟩
    obtain ⟨A, hA⟩ : ∃ A : Addr, (if vc = k + 1 then some (⟨b, off, none⟩ : Addr) else some ⟨b, off + (k + 1) * 3, none⟩) = some A := by
      split <;> exact ⟨_, rfl⟩
    have hT : Hid (∀ u ∈ cellsQ (L.take k), u.oneCell' = true) := fun u hu => HO.out u (List.mem_of_mem_take (by rw [cellsQ_take L k (by have := HMM.out; omega)]; exact hu))
    have hD : Hid (∀ u ∈ cellsQ (L.drop (k + 1)), u.oneCell' = true) := fun u hu => HO.out u (List.mem_of_mem_drop (by rw [cellsQ_drop L (k + 1) (by have := HMM.out; omega)]; exact hu))
    have HLT : Hid ((cellsQ (L.take k)).length = k * 3 ∧ (cellsQ (L.drop (k + 1))).length = m * 3) := by
      have := HMM.out
      refine ⟨by rw [cellsQ_len, List.length_take]; omega, by rw [cellsQ_len, List.length_drop]; omega⟩
    clear hd hfl hLe hL hN hLl hm hS hnm
    have hkc : k ≤ vc := by omega
    have hkc1 : k + 1 ≤ vc := by omega
    have hnn : (0 : Int) ≤ (k : Int) + 1 := by omega
    have hnmm : (k : Int) ≤ (k : Int) + (m : Int) := by omega
    have hn3 : (k : Int) + 1 ≤ (k : Int) + (m : Int) + 1 := by omega
    have hn4 : (k : Int) + 1 ≤ ((k + m + 1 : Nat) : Int) := by omega
    have hn5 : (k : Int) ≤ ((k + m + 1 : Nat) : Int) := by omega
    have hn6 : (k : Int) + 1 ≤ (vc : Int) := by omega
    have hwr : IntKind.i64.wrap ((k : Int) + 1) = (k : Int) + 1 := by rw [IntKind.wrap_i64]; omega
    have htn : ((k : Int) + 1).toNat = k + 1 := by omega
    unfold maxLen at hc2
    go_enter Try.func29, Try.ntmps29
    go_upto_region 4 with (go_at_call 56; refine (refFind_any name _ h.next h.queues _ (HV.out.sub fun b hb => ⟨?_, (two.out _ _).block b (HSS.out b hb)⟩)).mono ?_; (have := HSS.out b hb; simp [Under]; omega); rw [HI.out]; rintro e w1 ⟨rfl, hb1⟩; have hk0 := ((Blk.new w [.slice (some ⟨b, off, none⟩) (k + m + 1) vc, .int .i64 h.next] 24).alloc _).below hb1 (by simp; omega); have hk1 := (Blk.new (w.alloc _) [.slice none 0 0, .int .i64 0] 24).below hb1 (by simp); simp only [World.size_alloc] at hk0 hk1; have HK : Hid (Blk w1 w.heap.size [.slice (some ⟨b, off, none⟩) (k + m + 1) vc, .int .i64 h.next] ∧ Blk w1 (w.heap.size + 1) [.slice none 0 0, .int .i64 0]) := ⟨hk0, hk1⟩; have HB1 : Hid (Below w.heap.size w w1) := (two.out _ _).trans (hb1.mono (by simp; omega)); clear hb1 hk0 hk1)
    obtain ⟨x0, x1, x2, x3⟩ := HK.out.1.b2
    obtain ⟨c0, c1, c2, c3⟩ := HK.out.2.b2
    have n1 : w1.heap.size ≠ w.heap.size := by omega
    have ny : Hid True := trivial
    go_region_law (first
      | (clear ny; refine step_appV (by rfl) _ _ 22 (by rfl) 76 i0 _ 3 48 Try.underlying22 hi0 hz0 hz1 hz2 rfl (by omega) w1.heap.size (.slice (some ⟨w1.heap.size, 0, none⟩) 0 0) 0 [] (by rfl) (emptyQ_own _ _ _ (by simp) (by omega)) S (.slice (some ⟨b, off, none⟩) k vc) k (cellsQ (L.take k)) (by rfl) (sliceQ_take (SliceV.sub HL.out (fun i hi => ⟨hi, (Below.heap_alloc _ _ _ (by have := HSS.out i hi; omega)).trans (HB1.out.block i (HSS.out i hi))⟩)) HMM.out.symm k (by omega)) HLT.out.1 hT.out (by unfold maxLen; omega) (by omega) (by simp) ?_; intro ao cap w2 ho2 hg2 hm2; have HO2 : Hid (w2.ownsRow w1.heap.size 76 3 (.slice ao k cap) k (cellsQ (L.take k)) ∧ Below w1.heap.size w1 w2) := ⟨by simpa using ho2, hg2.os, hg2.tape, hg2.output, by have := hg2.size; simp at this; omega, fun i hi => (hg2.block i (by simp; omega) (fun e => by simp only [Value.ownBlock, Option.some.injEq] at e; omega)).trans (Below.heap_alloc _ _ _ hi)⟩; have q0 := bel_c HO2.out.2 x3 x0; have hz2' := HO2.out.2.size; clear ho2 hg2 hm2)
      | (refine step_appV (by rfl) _ _ 22 (by rfl) 76 i0 _ 3 48 Try.underlying22 hi0 hz0 hz1 hz2 rfl (by omega) w1.heap.size (.slice ao k cap) k (cellsQ (L.take k)) (by rfl) HO2.out.1 S (.slice (some A) m (vc - (k + 1))) m (cellsQ (L.drop (k + 1))) (by rfl) (by have h := sliceQ_drop (SliceV.sub (T := S) HL.out (fun i hi => ⟨hi, (HO2.out.2.block i (by have := HSS.out i hi; omega)).trans (HB1.out.block i (HSS.out i hi))⟩)) HMM.out.symm (k + 1) (by omega) A hA; rw [show k + m + 1 - (k + 1) = m by omega] at h; exact h) HLT.out.2 hD.out (by unfold maxLen; omega) (by omega) (by omega) ?_; intro ao2 cap2 w3 ho3 hg3 hm3; have HO3 : Hid (w3.ownsRow w1.heap.size 76 3 (.slice ao2 (k + m) cap2) (k + m) (cellsQ (L.take k) ++ cellsQ (L.drop (k + 1))) ∧ Below w1.heap.size w1 w3) := ⟨ho3, hg3.os.trans HO2.out.2.os, hg3.tape.trans HO2.out.2.tape, hg3.output.trans HO2.out.2.output, Nat.le_trans hz2' hg3.size, fun i hi => (hg3.block i (by omega) (fun e => by have := (HO2.out.1.lt i e.symm).1; omega)).trans (HO2.out.2.block i hi)⟩; have hk0 := HK.out.1.below HO3.out.2 HK.out.1.lt; have hk1 := HK.out.2.below HO3.out.2 HK.out.2.lt; obtain ⟨d0, d1, d2, d3⟩ := hk0.b2; obtain ⟨e0, e1, e2, e3⟩ := hk1.b2; have HE3 : Hid (Blk w3 (w.heap.size + 1) [.slice none 0 0, .int .i64 0]) := hk1; have hz3' := HO3.out.2.size; clear ho3 hg3 hm3 hk0 hk1))
    all_goals
      go_wp2_with fail
      obtain ⟨W5, hW5⟩ : ∃ W5, W5 = w3.setCell ⟨w.heap.size, 0, none⟩ (.slice ao2 (k + m) cap2) := ⟨_, rfl⟩
      rw [← hW5]
      have hz5 : W5.heap.size = w3.heap.size := by rw [hW5]; simp
      have hx5 : ∀ b, b ≠ w.heap.size → W5.heap[b]? = w3.heap[b]? := fun b hb => by rw [hW5, Below.heap_setCell _ _ _ _ hb]
      have hR5 : Blk W5 (w.heap.size + 1) [.slice none 0 0, .int .i64 0] := HE3.out.same (hx5 _ (by omega))
      have hB5 : Below w.heap.size w W5 := by
        rw [hW5]
        exact (HB1.out.trans (HO3.out.2.mono (by omega))).setCell (by simp) _
      have hQ5 : SliceQ (fun b => S b ∨ (w1.heap.size ≤ b ∧ b < w3.heap.size)) W5 (.slice ao2 (k + m) cap2) (h.queues.eraseIdx k) := by
        have hll : (L.take k ++ L.drop (k + 1)).length = k + m := by have := HMM.out; simp; omega
        refine ⟨L.take k ++ L.drop (k + 1), by rw [← HN.out.1]; exact del_L _ _ _, ?_, fun x hx => ?_⟩
        · rw [hll, cellsQ_append]
          refine SliceV.sub (own_slice HO3.out.1) fun b hb => ?_
          have h1 := HO3.out.1.lt b hb
          exact ⟨.inr h1, hx5 b (by omega)⟩
        · have hxL : x ∈ L := by
            rcases List.mem_append.1 hx with h | h
            · exact List.mem_of_mem_take h
            · exact List.mem_of_mem_drop h
          exact (HN.out.2 x hxL).sub fun b hb => ⟨.inl hb, hB5.block b (HSS.out b hb)⟩
      have hT5 : ∀ b, (S b ∨ (w1.heap.size ≤ b ∧ b < w3.heap.size)) → (S b ∨ w.heap.size ≤ b) ∧ b < W5.heap.size ∧ b ≠ w.heap.size + 1 := fun b hb => by
        rcases hb with hb | hb
        · have := HSS.out b hb
          exact ⟨.inl hb, by omega, by omega⟩
        · exact ⟨.inr (by omega), by omega, by omega⟩
      have F := Fn.A hR5 (.slice ao2 (k + m) cap2) (.int .i64 h.next) (.cells #[.int .i64 2, .string name, .int .i64 0, .int .i64 0, .slice none 0 0, .slice none 0 0] 30)
      obtain ⟨wF, hF⟩ : ∃ wF, wF = ((W5.setCell ⟨w.heap.size + 1, 0, none⟩ (.slice ao2 (k + m) cap2)).setCell ⟨w.heap.size + 1, 1, none⟩ (.int .i64 h.next)).alloc (.cells #[.int .i64 2, .string name, .int .i64 0, .int .i64 0, .slice none 0 0, .slice none 0 0] 30) := ⟨_, rfl⟩
      have hE : Blk wF w3.heap.size (ED.cells ⟨2, name, 0, 0, nN⟩ (.slice none 0 0, .slice none 0 0)) := by
        have := Blk.new ((W5.setCell ⟨w.heap.size + 1, 0, none⟩ (.slice ao2 (k + m) cap2)).setCell ⟨w.heap.size + 1, 1, none⟩ (.int .i64 h.next)) [.int .i64 2, .string name, .int .i64 0, .int .i64 0, .slice none 0 0, .slice none 0 0] 30
        simp only [World.size_setCell] at this
        rw [← hF, hz5] at this
        exact this
      rw [← hF] at F
      rw [← hF]
      have hA := Fn.ans (S := S) (hd := ⟨h.queues.eraseIdx k, h.next⟩) F (by omega) hB5 hQ5 hT5 (entry_one ⟨2, name, 0, 0, nN⟩ _ hE (.inr ⟨by omega, hE.lt⟩) (NoteIs.nil _ _))
      obtain ⟨f0, f1, f2, f3⟩ := F.box.b2
      clear hF hT5 hE hz5 hx5 hW5 d0 d1 e0 e1
      exact bodyPost_ret (v := .tuple #[.agg #[.slice ao2 (k + m) cap2, .int .i64 h.next], .slice (some ⟨w3.heap.size, 0, none⟩) 1 1, .int .i64 0]) (by simp [results, Try.results29, go_sem, *]; done) rfl hA
end Go.Proofs.Ytkddkpdfeeikhaa

/-
  tgref1.Key and tgref1.Wrong answer what keyB and wrongN say.
-/
namespace Go.Proofs.Ytkddkpdfeeikhaa
open Go.RowKit
set_option linter.unusedVariables false
set_option linter.unusedSimpArgs false

attribute [local go_sem ↓] Go.wp_at_zero Go.wp_at_succ

set_option maxHeartbeats 400000 in
theorem refKey_is (s : ByteArray) (w : World) (hs : s.size ≤ maxLen) :
    Calls Try.prog 49 #[.string s] w fun e w' => e = .returned (.bool (keyB s)) ∧ Below w.heap.size w w' := by
  have hcv := fun w => run_bytes_of_string (P := Try.prog) w 9 26 5 s Try.underlying9 Try.underlying26 Try.underlying5
  have HSL := bytesRow_at s w
  unfold maxLen at hs
  by_cases h1 : 1 ≤ s.size
  case neg =>
    have he : s.toList = [] := empty_of s (by omega)
    go_enter Try.func49, Try.ntmps49
    go_wp2
    all_goals (go_ret; exact ⟨ret_bool (by simp [keyB]; omega), Below.refl _ _⟩)
  have he : s.toList.isEmpty = false := isEmpty_of s h1
  by_cases h2 : s.size ≤ 8
  case neg =>
    go_enter Try.func49, Try.ntmps49
    go_wp2
    all_goals (go_ret; exact ⟨ret_bool (by simp [keyB]; omega), Below.refl _ _⟩)
  go_enter Try.func49, Try.ntmps49
  go_wp2
  go_loop [15] (fun i => ∃ k : Nat, k ≤ s.size ∧ i = .int .i64 k ∧ (s.data.toList.take k).all lowB = true) (fun i => s.size - (intOf i).toNat)
  case atStart => exact ⟨0, Nat.zero_le _, rfl, rfl⟩
  case round =>
    obtain ⟨k, hk, rfl, ha⟩ := hrel
    have HA : Hid ((s.data.toList.take k).all lowB = true) := ha
    clear ha
    by_cases hlt : k < s.size
    · have hcell := HSL k hlt
      by_cases h3 : (s[k].toNat : Int) < 97
      · go_wp2
        go_ret
        exact ⟨ret_bool (by simp [keyB, all_stop s k hlt (Or.inl h3)]), below_conv _ _⟩
      · by_cases h4 : (122 : Int) < s[k].toNat
        · go_wp2
          go_ret
          exact ⟨ret_bool (by simp [keyB, all_stop s k hlt (Or.inr h4)]), below_conv _ _⟩
        · go_wp2
          go_round
          case rel => exact ⟨k + 1, by omega, by go_num, all_step s k hlt HA.out h3 h4⟩
          case measure => simp [intOf]; omega
    · go_wp2
      go_ret
      have e : k = s.size := by omega
      have HB := HA.out
      rw [e, List.take_of_length_le (by simp)] at HB
      exact ⟨ret_bool (by simp [keyB, h1, h2, HB]), below_conv _ _⟩

theorem lknK (k : Int) (h : kindB k = false) (w : World) : (Instr.lookup 100 (.map (some w.heap.size)) (.int .i64 k) true).run Try.prog (w.alloc (.map mostE 3)) = .ok (.tuple #[.int .i64 0, .bool false]) (w.alloc (.map mostE 3)) := by
  simp only [kindB, Bool.or_eq_false_iff] at h
  obtain ⟨⟨h1, h2⟩, h3⟩ := h
  refine look_no w mostE 3 k true ?_
  simp only [mostE, Instr.findNow, Instr.sameNow, h1, h2, h3, if_true]

theorem wrong_out {ps : List PD} {k bl : Nat} {p : PD} {c : Int} (hlt : k < ps.length) (hw : wrongL ps = wrongL (ps.drop k)) (hp : p = ps[k]) (h1 : ¬ 4 < ps.length) (hc : p.wrong = c) (h0 : ¬ c = 0) : c = wrongN ps bl := by
  subst hp
  rw [wrongL_stop ps k hlt (by rw [hc]; exact h0), hc] at hw
  simp [wrongN, h1, hw, h0]
theorem wrong_next {ps : List PD} {k : Nat} {p : PD} (hlt : k < ps.length) (hw : wrongL ps = wrongL (ps.drop k)) (hp : p = ps[k]) (hc : p.wrong = 0) : wrongL ps = wrongL (ps.drop (k + 1)) := by
  subst hp
  rw [hw, wrongL_step ps k hlt hc]
set_option maxRecDepth 100000 in
set_option maxHeartbeats 4000000 in
theorem refWrong_is (pa : Option Addr) (pc : Nat) (ps : List PD) (ba : Option Addr) (bl bc : Nat) (w : World) (hps : PropsAt w.heap.size w pa ps) (hfit : ∀ p ∈ ps, p.fitN) (hpl : ps.length ≤ maxLen) (hbl : bl ≤ maxLen) :
    Calls Try.prog 14 #[.agg #[.slice pa ps.length pc, .slice ba bl bc]] w fun e w' => e = .returned (.int .i64 (wrongN ps bl)) ∧ Below w.heap.size w w' := by
  unfold maxLen at hpl hbl
  by_cases h1 : 4 < ps.length
  · go_enter Try.func14, Try.ntmps14
    go_wp2
    go_ret
    exact ⟨ret_i64 (by simp [wrongN, h1]), (Below.refl _ _).alloc (Nat.le_refl _) _⟩
  go_enter Try.func14, Try.ntmps14
  go_wp2
  go_loopw [15] (fun i wr => ∃ k : Nat, k ≤ ps.length ∧ i = .int .i64 k ∧ Below (w.heap.size + 1) (w.alloc (.cells #[.slice pa ps.length pc, .slice ba bl bc] 28)) wr ∧ wrongL ps = wrongL (ps.drop k))
    (fun i _ => ps.length - (intOf i).toNat)
  case atStart => exact ⟨0, Nat.zero_le _, rfl, Below.refl _ _, rfl⟩
  case round =>
    obtain ⟨k, hk, rfl, hnx, hwl⟩ := hrel
    have HW : Hid (wrongL ps = wrongL (ps.drop k)) := hwl
    clear hwl
    have hsz : w.heap.size + 1 ≤ wr.heap.size := by have := hnx.size; simpa using this
    have hn1 : wr.cell? ⟨w.heap.size, 1, none⟩ = some (.slice ba bl bc) := by rw [hnx.cell (by simp)]; simp
    by_cases hlt : k < ps.length
    · obtain ⟨b, off, rfl, hblt, h0, h1', h2, h3⟩ := hps k hlt
      obtain ⟨p, hp⟩ : ∃ p, p = ps[k] := ⟨_, rfl⟩
      have hfp := hfit ps[k] (List.getElem_mem _)
      rw [← hp] at h0 h1' h2 h3 hfp
      have cc : ∀ o, wr.cell? ⟨b, o, none⟩ = w.cell? ⟨b, o, none⟩ := fun o => by
        rw [hnx.cell (by show b < _; omega)]; exact World.cell?_alloc_lt _ _ _ hblt
      have g0 : wr.cell? ⟨b, off + k * 4, none⟩ = _ := (cc _).trans h0
      have g1 : wr.cell? ⟨b, off + k * 4 + 1, none⟩ = _ := (cc _).trans h1'
      have g2 : wr.cell? ⟨b, off + k * 4 + 2, none⟩ = _ := (cc _).trans h2
      have g3 : wr.cell? ⟨b, off + k * 4 + 3, none⟩ = _ := (cc _).trans h3
      clear cc h0 h1' h2 h3
      have HP : Hid (p = ps[k]) := hp
      clear hp
      obtain ⟨key, kind, n, text⟩ := p
      simp only at g0 g1 g2 g3
      have hmm := @run_makeMap Try.prog
      have u1 := up1
      have u2 := up2
      have u3 := up3
      have k1 := lk1
      have k2 := lk2
      have k3 := lk3
      have f1 := lf1
      have f3 := lf3
      cases hk1 : keyB key
      · go_wp2_with (go_at_call 49; refine (refKey_is _ _ hfp.1).mono ?_; rintro e w1 ⟨rfl, hb1⟩; obtain ⟨c1, c2⟩ := bcell hb1; have hz1 : wr.heap.size < w1.heap.size := (by have := hb1.size; simp at this; omega))
        go_ret
        exact ⟨ret_i64 (wrong_out hlt HW.out HP.out h1 (by simp [PD.wrong, wrongP, hk1]) (by decide)), ((Below.refl _ _).alloc (Nat.le_refl _) _).trans ((hnx.mono (by omega)).trans (((Below.refl _ _).alloc (by omega) _).trans (hb1.mono (by simp; omega))))⟩
      · cases hk2 : kindB kind
        · have kn := lknK kind hk2
          go_wp2_with (go_at_call 49; refine (refKey_is _ _ hfp.1).mono ?_; rintro e w1 ⟨rfl, hb1⟩; obtain ⟨c1, c2⟩ := bcell hb1; have hz1 : wr.heap.size < w1.heap.size := (by have := hb1.size; simp at this; omega))
          go_ret
          exact ⟨ret_i64 (wrong_out hlt HW.out HP.out h1 (by simp [PD.wrong, wrongP, hk1, hk2]) (by decide)), (((Below.refl _ _).alloc (Nat.le_refl _) _).trans ((hnx.mono (by omega)).trans (((Below.refl _ _).alloc (by omega) _).trans (hb1.mono (by simp; omega))))).alloc (by omega) _⟩
        · have hz0 := size0 text
          have hkk : kind = 1 ∨ kind = 2 ∨ kind = 3 := by simp [kindB] at hk2; omega
          rcases hkk with rfl | rfl | rfl
          · by_cases n1 : n < -1073741824
            · go_wp2_with (go_at_call 49; refine (refKey_is _ _ hfp.1).mono ?_; rintro e w1 ⟨rfl, hb1⟩; obtain ⟨c1, c2⟩ := bcell hb1; have hz1 : wr.heap.size < w1.heap.size := (by have := hb1.size; simp at this; omega))
              go_ret
              exact ⟨ret_i64 (wrong_out hlt HW.out HP.out h1 (by simp [PD.wrong, wrongP, hk1, hk2, rangeB]; omega) (by decide)), (((Below.refl _ _).alloc (Nat.le_refl _) _).trans ((hnx.mono (by omega)).trans (((Below.refl _ _).alloc (by omega) _).trans (hb1.mono (by simp; omega))))).alloc (by omega) _⟩
            · by_cases n2 : 1073741824 < n
              · go_wp2_with (go_at_call 49; refine (refKey_is _ _ hfp.1).mono ?_; rintro e w1 ⟨rfl, hb1⟩; obtain ⟨c1, c2⟩ := bcell hb1; have hz1 : wr.heap.size < w1.heap.size := (by have := hb1.size; simp at this; omega))
                go_ret
                exact ⟨ret_i64 (wrong_out hlt HW.out HP.out h1 (by simp [PD.wrong, wrongP, hk1, hk2, rangeB]; omega) (by decide)), (((Below.refl _ _).alloc (Nat.le_refl _) _).trans ((hnx.mono (by omega)).trans (((Below.refl _ _).alloc (by omega) _).trans (hb1.mono (by simp; omega))))).alloc (by omega) _⟩
              · have hr : rangeB 1 n = true := by simp [rangeB]; omega
                by_cases n3 : text.size = 0
                · go_wp2_with (go_at_call 49; refine (refKey_is _ _ hfp.1).mono ?_; rintro e w1 ⟨rfl, hb1⟩; obtain ⟨c1, c2⟩ := bcell hb1; have hz1 : wr.heap.size < w1.heap.size := (by have := hb1.size; simp at this; omega))
                  go_roundw
                  case rel => exact ⟨k + 1, by omega, by go_num, hnx.trans ((((Below.refl _ _).alloc hsz _).trans (hb1.mono (by simp; omega))).alloc (by omega) _), wrong_next hlt HW.out HP.out (by simp [PD.wrong, wrongP, hk1, hk2, hr, strayB, hz0, n3])⟩
                  case measure => simp [intOf]; omega
                · go_wp2_with (go_at_call 49; refine (refKey_is _ _ hfp.1).mono ?_; rintro e w1 ⟨rfl, hb1⟩; obtain ⟨c1, c2⟩ := bcell hb1; have hz1 : wr.heap.size < w1.heap.size := (by have := hb1.size; simp at this; omega))
                  go_ret
                  exact ⟨ret_i64 (wrong_out hlt HW.out HP.out h1 (by simp [PD.wrong, wrongP, hk1, hk2, hr, strayB, hz0, n3]) (by decide)), (((Below.refl _ _).alloc (Nat.le_refl _) _).trans ((hnx.mono (by omega)).trans (((Below.refl _ _).alloc (by omega) _).trans (hb1.mono (by simp; omega))))).alloc (by omega) _⟩
          · by_cases n1 : 12 < text.size
            · go_wp2_with (go_at_call 49; refine (refKey_is _ _ hfp.1).mono ?_; rintro e w1 ⟨rfl, hb1⟩; obtain ⟨c1, c2⟩ := bcell hb1; have hz1 : wr.heap.size < w1.heap.size := (by have := hb1.size; simp at this; omega))
              go_ret
              exact ⟨ret_i64 (wrong_out hlt HW.out HP.out h1 (by simp [PD.wrong, wrongP, hk1, hk2, rangeB, n1]) (by decide)), (((Below.refl _ _).alloc (Nat.le_refl _) _).trans ((hnx.mono (by omega)).trans (((Below.refl _ _).alloc (by omega) _).trans (hb1.mono (by simp; omega))))).alloc (by omega) _⟩
            · by_cases n2 : n = 0
              · subst n2
                go_wp2_with (go_at_call 49; refine (refKey_is _ _ hfp.1).mono ?_; rintro e w1 ⟨rfl, hb1⟩; obtain ⟨c1, c2⟩ := bcell hb1; have hz1 : wr.heap.size < w1.heap.size := (by have := hb1.size; simp at this; omega))
                go_roundw
                case rel => exact ⟨k + 1, by omega, by go_num, hnx.trans ((((Below.refl _ _).alloc hsz _).trans (hb1.mono (by simp; omega))).alloc (by omega) _), wrong_next hlt HW.out HP.out (by simp [PD.wrong, wrongP, hk1, hk2, rangeB, strayB, n1])⟩
                case measure => simp [intOf]; omega
              · have n2' : (n == 0) = false := by simpa using n2
                go_wp2_with (go_at_call 49; refine (refKey_is _ _ hfp.1).mono ?_; rintro e w1 ⟨rfl, hb1⟩; obtain ⟨c1, c2⟩ := bcell hb1; have hz1 : wr.heap.size < w1.heap.size := (by have := hb1.size; simp at this; omega))
                go_ret
                exact ⟨ret_i64 (wrong_out hlt HW.out HP.out h1 (by simp [PD.wrong, wrongP, hk1, hk2, rangeB, strayB, n1, n2]) (by decide)), (((Below.refl _ _).alloc (Nat.le_refl _) _).trans ((hnx.mono (by omega)).trans (((Below.refl _ _).alloc (by omega) _).trans (hb1.mono (by simp; omega))))).alloc (by omega) _⟩
          · by_cases n1 : n < 0
            · go_wp2_with (go_at_call 49; refine (refKey_is _ _ hfp.1).mono ?_; rintro e w1 ⟨rfl, hb1⟩; obtain ⟨c1, c2⟩ := bcell hb1; have hz1 : wr.heap.size < w1.heap.size := (by have := hb1.size; simp at this; omega))
              go_ret
              exact ⟨ret_i64 (wrong_out hlt HW.out HP.out h1 (by simp [PD.wrong, wrongP, hk1, hk2, rangeB]; omega) (by decide)), (((Below.refl _ _).alloc (Nat.le_refl _) _).trans ((hnx.mono (by omega)).trans (((Below.refl _ _).alloc (by omega) _).trans (hb1.mono (by simp; omega))))).alloc (by omega) _⟩
            · by_cases n2 : 1 < n
              · go_wp2_with (go_at_call 49; refine (refKey_is _ _ hfp.1).mono ?_; rintro e w1 ⟨rfl, hb1⟩; obtain ⟨c1, c2⟩ := bcell hb1; have hz1 : wr.heap.size < w1.heap.size := (by have := hb1.size; simp at this; omega))
                go_ret
                exact ⟨ret_i64 (wrong_out hlt HW.out HP.out h1 (by simp [PD.wrong, wrongP, hk1, hk2, rangeB]; omega) (by decide)), (((Below.refl _ _).alloc (Nat.le_refl _) _).trans ((hnx.mono (by omega)).trans (((Below.refl _ _).alloc (by omega) _).trans (hb1.mono (by simp; omega))))).alloc (by omega) _⟩
              · have hr : rangeB 3 n = true := by simp [rangeB]; omega
                by_cases n3 : text.size = 0
                · go_wp2_with (go_at_call 49; refine (refKey_is _ _ hfp.1).mono ?_; rintro e w1 ⟨rfl, hb1⟩; obtain ⟨c1, c2⟩ := bcell hb1; have hz1 : wr.heap.size < w1.heap.size := (by have := hb1.size; simp at this; omega))
                  go_roundw
                  case rel => exact ⟨k + 1, by omega, by go_num, hnx.trans ((((Below.refl _ _).alloc hsz _).trans (hb1.mono (by simp; omega))).alloc (by omega) _), wrong_next hlt HW.out HP.out (by simp [PD.wrong, wrongP, hk1, hk2, hr, strayB, hz0, n3])⟩
                  case measure => simp [intOf]; omega
                · go_wp2_with (go_at_call 49; refine (refKey_is _ _ hfp.1).mono ?_; rintro e w1 ⟨rfl, hb1⟩; obtain ⟨c1, c2⟩ := bcell hb1; have hz1 : wr.heap.size < w1.heap.size := (by have := hb1.size; simp at this; omega))
                  go_ret
                  exact ⟨ret_i64 (wrong_out hlt HW.out HP.out h1 (by simp [PD.wrong, wrongP, hk1, hk2, hr, strayB, hz0, n3]) (by decide)), (((Below.refl _ _).alloc (Nat.le_refl _) _).trans ((hnx.mono (by omega)).trans (((Below.refl _ _).alloc (by omega) _).trans (hb1.mono (by simp; omega))))).alloc (by omega) _⟩
    · have e : k = ps.length := by omega
      have e2 := HW.out
      rw [e, List.drop_of_length_le (by simp), wrongL] at e2
      have HE : Hid (wrongL ps = 0) := e2
      clear e2
      go_wp2
      · go_ret
        have h40 : (40 : Int) < bl := by assumption
        exact ⟨ret_i64 (by simp [wrongN, h1, HE.out]; omega), ((Below.refl _ _).alloc (Nat.le_refl _) _).trans (hnx.mono (by omega))⟩
      · go_ret
        have h40 : (bl : Int) ≤ 40 := by assumption
        exact ⟨ret_i64 (by simp [wrongN, h1, HE.out]; omega), ((Below.refl _ _).alloc (Nat.le_refl _) _).trans (hnx.mono (by omega))⟩

theorem refWrongN_any (pv bv : Value) (n : ND) (w : World) (hn : NoteIs (Under w.heap.size) w (pv, bv) n) (hf : n.fitN) :
    Calls Try.prog 14 #[.agg #[pv, bv]] w fun e w' => e = .returned (.int .i64 n.wrong) ∧ Below w.heap.size w w' := by
  obtain ⟨pa, pc, rfl, h1, h2, -⟩ := SliceV.shape hn.1
  obtain ⟨ba, bc, rfl, h3, h4, -⟩ := SliceV.shape hn.2
  exact refWrong_is pa pc n.props ba n.body.length bc w (props_at hn.1) hf (by omega) (by omega)
end Go.Proofs.Ytkddkpdfeeikhaa
