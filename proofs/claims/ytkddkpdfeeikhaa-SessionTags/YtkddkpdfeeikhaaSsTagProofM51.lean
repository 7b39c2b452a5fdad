/-
  Open; OpenH; SsOpen: texts laid together.
-/
import Derived.Test.YtkddkpdfeeikhaaSsTagProofM21
import Derived.ProofKit
import Derived.Deep.Slices
import Derived.OpenShut
import Derived.Lib.SmallJoins
import Derived.Test.YtkddkpdfeeikhaaSsTagProofM06
import Derived.Test.YtkddkpdfeeikhaaSsTagProofM11
import Derived.ShutString
import Derived.ChangeOld
import Derived.SizedLaws
/-
  What the form's reading of a note, and of a queue, says of memory.
-/
namespace Go.Proofs.Ytkddkpdfeeikhaa
open Go.ChangeShapes Go.WideShapes Go.ChangeAt Go.RowKit Go.Deep Go.Joins
set_option linter.unusedVariables false
set_option linter.unusedSimpArgs false

section
variable {H : Type} {enc : TypeId × Value → H} {W : World} {sp : Nat → Bool} {held : Bool}

theorem spot_of {w : World} {a : Addr} {v : Value} (h : w.cell? a = some v) : ∃ b off, a = ⟨b, off, none⟩ := by
  obtain ⟨b, off, spot⟩ := a
  have : spot = none := World.cell?_spot h
  subst this
  exact ⟨b, off, rfl⟩

theorem open_body (v : Value) (fuel : Nat) (x : DataW H × List MemPlace) (h : DataW.trod enc Try.prog W 0 sp held fuel 26 [v] = some x) :
    ∃ bs : List UInt8, SliceB (Under W.heap.size) W v bs := by
  rcases open_ints Try.underlying26 Try.underlying5 (by kernel_rfl) h with ⟨hcs, _⟩ | ⟨a, len, cap, zs, hcs, _, hl, hm, hz, hx, hcell, hwz⟩
  · simp only [List.cons.injEq, and_true] at hcs
    subst hcs
    exact ⟨[], SliceV.nil _ _⟩
  · simp only [List.cons.injEq, and_true] at hcs
    subst hcs
    have hlz : len ≤ zs.length := by rw [hz]; split <;> omega
    have hlen : ((zs.take len).map fun n => UInt8.ofNat n.toNat).length = len := by simp; omega
    refine ⟨(zs.take len).map fun n => UInt8.ofNat n.toNat, ⟨some a, cap, by rw [hlen], by rw [hlen]; exact hl, hm, fun h => by simp at h, fun i hi => ?_⟩⟩
    rw [u8s_len, hlen] at hi
    have h0 := hcell 0 (by omega)
    have e0 : a.add 0 = a := by cases a; simp [Addr.add]
    rw [e0] at h0
    obtain ⟨b, off, rfl⟩ := spot_of h0
    have hc := hcell i (by omega)
    rw [add_none] at hc
    refine ⟨b, off, rfl, World.block_lt_of_cell? W _ hc, ?_⟩
    rw [hc]
    have hbd := bounds_u8 (hwz zs[i] (List.getElem_mem _))
    have e1 : zs.getD i 0 = zs[i] := by simp [List.getD, List.getElem?_eq_getElem (show i < zs.length by omega)]
    rw [e1]
    simp [u8s]
    omega

theorem cells68 : Try.prog.cellsOf 98 = 4 := by kernel_rfl
theorem cells9 : Try.prog.cellsOf 9 = 1 := by kernel_rfl
theorem cells3 : Try.prog.cellsOf 3 = 1 := by kernel_rfl
theorem cells4 : Try.prog.cellsOf 4 = 1 := by kernel_rfl
theorem cells25 : Try.prog.cellsOf 76 = 3 := by kernel_rfl
theorem cells29 : Try.prog.cellsOf 26 = 1 := by kernel_rfl
theorem cells30 : Try.prog.cellsOf 25 = 1 := by kernel_rfl
theorem cells32 : Try.prog.cellsOf 28 = 2 := by kernel_rfl
theorem cells34 : Try.prog.cellsOf 78 = 7 := by kernel_rfl

set_option maxRecDepth 100000 in
theorem open_prop (fuel : Nat) (cs : List Value) (x : DataW H × List MemPlace) (h : DataW.trod enc Try.prog W 0 sp held fuel 98 cs = some x) :
    ∃ p : PD, cs = p.cells ∧ p.fits := by
  obtain ⟨xs, n, _, _, hlen, hxl, hfld⟩ := DataW.trod_struct Try.underlying98 h
  rw [cells68] at hlen
  have h0 := hfld 0 _ rfl
  have h1 := hfld 1 _ rfl
  have h2 := hfld 2 _ rfl
  have h3 := hfld 3 _ rfl
  clear hfld
  match cs, hlen, xs, hxl with
  | [v0, v1, v2, v3], _, [y0, y1, y2, y3], _ =>
    have g0 : DataW.trod enc Try.prog W 0 sp held n 9 [v0] = some y0 := by simpa [cells9] using h0
    have g1 : DataW.trod enc Try.prog W 0 sp held n 3 [v1] = some y1 := by simpa [cells3] using h1
    have g2 : DataW.trod enc Try.prog W 0 sp held n 3 [v2] = some y2 := by simpa [cells3] using h2
    have g3 : DataW.trod enc Try.prog W 0 sp held n 9 [v3] = some y3 := by simpa [cells9] using h3
    obtain ⟨k, e0, _, f0⟩ := DataW.trod_string Try.underlying9 g0
    obtain ⟨kd, e1, _, _⟩ := DataW.trod_int Try.underlying3 g1
    obtain ⟨nn, e2, _, _⟩ := DataW.trod_int Try.underlying3 g2
    obtain ⟨t, e3, _, f3⟩ := DataW.trod_string Try.underlying9 g3
    simp only [List.cons.injEq, and_true] at e0 e1 e2 e3
    subst e0 e1 e2 e3
    exact ⟨⟨k, kd, nn, t⟩, rfl, f0, f3⟩

/-- The cells of rows of one size, one behind the other. -/
theorem row_of {w : World} {a : Addr} {size len : Nat} (hs : 0 < size) (hl : 0 < len) (f : Nat → List Value) (hf : ∀ i, i < len → (f i).length = size ∧ ∀ j, j < size → w.cell? ((a.add (i * size)).add j) = (f i)[j]?) :
    RowAt (Under w.heap.size) w (some a) ((List.range len).flatMap f) := by
  have h0 := (hf 0 hl).2 0 hs
  obtain ⟨y, hy⟩ : ∃ y, (f 0)[0]? = some y := ⟨(f 0)[0]'(by rw [(hf 0 hl).1]; exact hs), List.getElem?_eq_getElem (by rw [(hf 0 hl).1]; exact hs)⟩
  rw [hy] at h0
  have ea : (a.add (0 * size)).add 0 = a := by cases a; simp [Addr.add]
  rw [ea] at h0
  obtain ⟨b, off, rfl⟩ := spot_of h0
  have key : ∀ m, m ≤ len → ∀ i (h : i < ((List.range m).flatMap f).length), w.cell? ⟨b, off + i, none⟩ = some ((List.range m).flatMap f)[i] ∧ ((List.range m).flatMap f).length = m * size := by
    intro m
    induction m with
    | zero => intro _ i h; simp at h
    | succ m ih =>
      intro hm i h
      have hlm : ((List.range m).flatMap f).length = m * size := by
        by_cases h0 : m = 0
        · subst h0; simp
        · have : 0 < ((List.range m).flatMap f).length := by
            obtain ⟨k, rfl⟩ : ∃ k, m = k + 1 := ⟨m - 1, by omega⟩
            rw [List.range_succ, List.flatMap_append]
            simp [(hf k (by omega)).1]; omega
          exact (ih (by omega) 0 this).2
      have e : (List.range (m + 1)).flatMap f = (List.range m).flatMap f ++ f m := by rw [List.range_succ, List.flatMap_append]; simp
      have hl2 : ((List.range (m + 1)).flatMap f).length = (m + 1) * size := by rw [e, List.length_append, hlm, (hf m (by omega)).1, Nat.add_mul]; simp
      refine ⟨?_, hl2⟩
      by_cases hi : i < m * size
      · have := (ih (by omega) i (by rw [hlm]; exact hi)).1
        rw [this]
        congr 1
        simp only [e]
        rw [List.getElem_append_left (by rw [hlm]; exact hi)]
      · have hi2 : i < m * size + size := by rw [hl2, Nat.add_mul] at h; omega
        have := (hf m (by omega)).2 (i - m * size) (by omega)
        rw [add_none, add_none, show off + m * size + (i - m * size) = off + i by omega] at this
        rw [this]
        simp only [e]
        rw [List.getElem_append_right (by rw [hlm]; omega), List.getElem?_eq_getElem (by rw [(hf m (by omega)).1]; omega)]
        simp only [hlm]
  intro i hi
  have := (key len (Nat.le_refl _) i hi).1
  exact ⟨b, off, rfl, World.block_lt_of_cell? w _ this, this⟩

theorem open_props (v : Value) (fuel : Nat) (x : DataW H × List MemPlace) (h : DataW.trod enc Try.prog W 0 sp held fuel 25 [v] = some x) :
    ∃ ps : List PD, SliceP (Under W.heap.size) W v ps ∧ (∀ p ∈ ps, p.fits) := by
  rcases open_slice Try.underlying25 h with ⟨hcs, _⟩ | ⟨a, len, cap, m, n, D, Pl, hcs, _, hl, hm, hmm, hx, hel⟩
  · simp only [List.cons.injEq, and_true] at hcs
    subst hcs
    exact ⟨[], SliceV.nil _ _, fun p hp => by simp at hp⟩
  · simp only [List.cons.injEq, and_true] at hcs
    subst hcs
    have hlm : len ≤ m := by rw [hmm]; split <;> omega
    rw [cells68] at hel
    have each : ∀ i, i < len → ∃ p : PD, (∀ j, j < 4 → W.cell? ((a.add (i * 4)).add j) = (p.cells)[j]?) ∧ p.fits := by
      intro i hi
      obtain ⟨c, g, t⟩ := hel i (by omega)
      obtain ⟨_, l, k⟩ := World.cells?_some g
      obtain ⟨p, rfl, hf⟩ := open_prop n c _ t
      exact ⟨p, k, hf⟩
    haveI : Inhabited PD := ⟨⟨ByteArray.empty, 0, 0, ByteArray.empty⟩⟩
    obtain ⟨f, hf⟩ := choose_lt each
    have hlen : ((List.range len).map f).length = len := by simp
    refine ⟨(List.range len).map f, ⟨some a, cap, by rw [hlen], by rw [hlen]; exact hl, hm, fun h => by simp at h, ?_⟩, ?_⟩
    · by_cases h0 : len = 0
      · subst h0; intro i hi; simp [cellsL] at hi
      · have e : cellsL ((List.range len).map f) = (List.range len).flatMap (fun i => (f i).cells) := by simp [cellsL, List.flatMap_map]
        rw [e]
        exact row_of (by omega) (by omega) _ fun i hi => ⟨rfl, (hf i hi).1⟩
    · intro p hp
      simp only [List.mem_map, List.mem_range] at hp
      obtain ⟨i, hi, rfl⟩ := hp
      exact (hf i hi).2

set_option maxRecDepth 100000 in
theorem open_item (fuel : Nat) (cs : List Value) (x : DataW H × List MemPlace) (h : DataW.trod enc Try.prog W 0 sp held fuel 78 cs = some x) :
    ∃ y : IT × (Value × Value), cs = y.1.cells y.2 ∧ NoteIs (Under W.heap.size) W y.2 y.1.note ∧ y.1.note.fits := by
  obtain ⟨xs, n, _, _, hlen, hxl, hfld⟩ := DataW.trod_struct Try.underlying78 h
  rw [cells34] at hlen
  have h0 := hfld 0 _ rfl
  have h1 := hfld 1 _ rfl
  have h2 := hfld 2 _ rfl
  have h3 := hfld 3 _ rfl
  have h4 := hfld 4 _ rfl
  have h5 := hfld 5 _ rfl
  clear hfld
  match cs, hlen, xs, hxl with
  | [v0, v1, v2, v3, v4, v5, v6], _, [y0, y1, y2, y3, y4, y5], _ =>
    have g0 : DataW.trod enc Try.prog W 0 sp held n 3 [v0] = some y0 := by simpa [cells3] using h0
    have g1 : DataW.trod enc Try.prog W 0 sp held n 3 [v1] = some y1 := by simpa [cells3] using h1
    have g2 : DataW.trod enc Try.prog W 0 sp held n 3 [v2] = some y2 := by simpa [cells3] using h2
    have g3 : DataW.trod enc Try.prog W 0 sp held n 4 [v3] = some y3 := by simpa [cells4] using h3
    have g4 : DataW.trod enc Try.prog W 0 sp held n 3 [v4] = some y4 := by simpa [cells3] using h4
    have g5 : DataW.trod enc Try.prog W 0 sp held n 28 [v5, v6] = some y5 := by simpa [cells32] using h5
    obtain ⟨i0, e0, _, _⟩ := DataW.trod_int Try.underlying3 g0
    obtain ⟨i1, e1, _, _⟩ := DataW.trod_int Try.underlying3 g1
    obtain ⟨i2, e2, _, _⟩ := DataW.trod_int Try.underlying3 g2
    obtain ⟨i3, e3, _⟩ := DataW.trod_bool Try.underlying4 g3
    obtain ⟨i4, e4, _, _⟩ := DataW.trod_int Try.underlying3 g4
    simp only [List.cons.injEq, and_true] at e0 e1 e2 e3 e4
    subst e0 e1 e2 e3 e4
    obtain ⟨z0, z1, m, _, _, t0, t1⟩ := trod_struct2 Try.underlying28 g5
    have u0 : DataW.trod enc Try.prog W 0 sp held m 25 [v5] = some z0 := by simpa [cells30] using t0
    have u1 : DataW.trod enc Try.prog W 0 sp held m 26 [v6] = some z1 := by simpa [cells29] using t1
    obtain ⟨ps, hps, hf⟩ := open_props v5 m z0 u0
    obtain ⟨bs, hbs⟩ := open_body v6 m z1 u1
    exact ⟨(⟨i0, i1, i2, i3, i4, ⟨ps, bs⟩⟩, (v5, v6)), rfl, ⟨hps, hbs⟩, hf⟩

theorem open_items (v : Value) (fuel : Nat) (x : DataW H × List MemPlace) (h : DataW.trod enc Try.prog W 0 sp held fuel 74 [v] = some x) :
    ∃ its : List IT, SliceI (Under W.heap.size) W v its ∧ (∀ i ∈ its, i.note.fits) := by
  rcases open_slice Try.underlying74 h with ⟨hcs, _⟩ | ⟨a, len, cap, m, n, D, Pl, hcs, _, hl, hm, hmm, hx, hel⟩
  · simp only [List.cons.injEq, and_true] at hcs
    subst hcs
    exact ⟨[], ⟨[], rfl, SliceV.nil _ _, by simp⟩, fun p hp => by simp at hp⟩
  · simp only [List.cons.injEq, and_true] at hcs
    subst hcs
    have hlm : len ≤ m := by rw [hmm]; split <;> omega
    rw [cells34] at hel
    have each : ∀ i, i < len → ∃ y : IT × (Value × Value), (∀ j, j < 7 → W.cell? ((a.add (i * 7)).add j) = (y.1.cells y.2)[j]?) ∧ NoteIs (Under W.heap.size) W y.2 y.1.note ∧ y.1.note.fits := by
      intro i hi
      obtain ⟨c, g, t⟩ := hel i (by omega)
      obtain ⟨_, l, k⟩ := World.cells?_some g
      obtain ⟨y, rfl, hf⟩ := open_item n c _ t
      exact ⟨y, k, hf⟩
    haveI : Inhabited (IT × (Value × Value)) := ⟨(⟨0, 0, 0, false, 0, ⟨[], []⟩⟩, (.bool false, .bool false))⟩
    obtain ⟨f, hf⟩ := choose_lt each
    have hlen : ((List.range len).map f).length = len := by simp
    refine ⟨((List.range len).map f).map Prod.fst, ⟨(List.range len).map f, rfl, ⟨some a, cap, by rw [hlen], by rw [hlen]; exact hl, hm, fun h => by simp at h, ?_⟩, ?_⟩, ?_⟩
    · by_cases h0 : len = 0
      · subst h0; intro i hi; simp [cellsI] at hi
      · have e : cellsI ((List.range len).map f) = (List.range len).flatMap (fun i => (f i).1.cells (f i).2) := by simp [cellsI, List.flatMap_map]
        rw [e]
        exact row_of (by omega) (by omega) _ fun i hi => ⟨rfl, (hf i hi).1⟩
    · intro y hy
      simp only [List.mem_map, List.mem_range] at hy
      obtain ⟨i, hi, rfl⟩ := hy
      exact (hf i hi).2.1
    · intro y hy
      simp only [List.mem_map, List.mem_range] at hy
      obtain ⟨z, ⟨i, hi, rfl⟩, rfl⟩ := hy
      exact (hf i hi).2.2
end
end Go.Proofs.Ytkddkpdfeeikhaa

/-
  What the form's reading of a hall says of memory.
-/
namespace Go.Proofs.Ytkddkpdfeeikhaa
open Go.ChangeShapes Go.WideShapes Go.ChangeAt Go.RowKit Go.Deep Go.Joins
set_option linter.unusedVariables false
set_option linter.unusedSimpArgs false

section
variable {H : Type} {enc : TypeId × Value → H} {W : World} {sp : Nat → Bool} {held : Bool}

theorem cells23 : Try.prog.cellsOf 74 = 1 := by kernel_rfl
theorem cells43 : Try.prog.cellsOf 24 = 2 := by kernel_rfl
/-- Of what size the strings are. -/
def QD.fits (q : QD) : Prop := q.name.size ≤ maxLen ∧ ∀ i ∈ q.items, i.note.fits

set_option maxRecDepth 100000 in
theorem open_queue (fuel : Nat) (cs : List Value) (x : DataW H × List MemPlace) (h : DataW.trod enc Try.prog W 0 sp held fuel 76 cs = some x) :
    ∃ y : QD × Value, cs = y.1.cells y.2 ∧ SliceI (Under W.heap.size) W y.2 y.1.items ∧ y.1.fits := by
  obtain ⟨xs, n, _, _, hlen, hxl, hfld⟩ := DataW.trod_struct Try.underlying76 h
  rw [cells25] at hlen
  have h0 := hfld 0 _ rfl
  have h1 := hfld 1 _ rfl
  have h2 := hfld 2 _ rfl
  clear hfld
  match cs, hlen, xs, hxl with
  | [v0, v1, v2], _, [y0, y1, y2], _ =>
    have g0 : DataW.trod enc Try.prog W 0 sp held n 9 [v0] = some y0 := by simpa [cells9] using h0
    have g1 : DataW.trod enc Try.prog W 0 sp held n 3 [v1] = some y1 := by simpa [cells3] using h1
    have g2 : DataW.trod enc Try.prog W 0 sp held n 74 [v2] = some y2 := by simpa [cells23] using h2
    obtain ⟨k, e0, _, f0⟩ := DataW.trod_string Try.underlying9 g0
    obtain ⟨l, e1, _, _⟩ := DataW.trod_int Try.underlying3 g1
    simp only [List.cons.injEq, and_true] at e0 e1
    subst e0 e1
    obtain ⟨its, hits, hf⟩ := open_items v2 n y2 g2
    exact ⟨(⟨k, l, its⟩, v2), rfl, hits, f0, hf⟩

theorem open_queues (v : Value) (fuel : Nat) (x : DataW H × List MemPlace) (h : DataW.trod enc Try.prog W 0 sp held fuel 22 [v] = some x) :
    ∃ qs : List QD, SliceQ (Under W.heap.size) W v qs ∧ (∀ q ∈ qs, q.fits) := by
  rcases open_slice Try.underlying22 h with ⟨hcs, _⟩ | ⟨a, len, cap, m, n, D, Pl, hcs, _, hl, hm, hmm, hx, hel⟩
  · simp only [List.cons.injEq, and_true] at hcs
    subst hcs
    exact ⟨[], SliceQ.nil _ _, fun p hp => by simp at hp⟩
  · simp only [List.cons.injEq, and_true] at hcs
    subst hcs
    have hlm : len ≤ m := by rw [hmm]; split <;> omega
    rw [cells25] at hel
    have each : ∀ i, i < len → ∃ y : QD × Value, (∀ j, j < 3 → W.cell? ((a.add (i * 3)).add j) = (y.1.cells y.2)[j]?) ∧ SliceI (Under W.heap.size) W y.2 y.1.items ∧ y.1.fits := by
      intro i hi
      obtain ⟨c, g, t⟩ := hel i (by omega)
      obtain ⟨_, l, k⟩ := World.cells?_some g
      obtain ⟨y, rfl, hf⟩ := open_queue n c _ t
      exact ⟨y, k, hf⟩
    haveI : Inhabited (QD × Value) := ⟨(⟨⟨#[]⟩, 0, []⟩, .bool false)⟩
    obtain ⟨f, hf⟩ := choose_lt each
    have hlen : ((List.range len).map f).length = len := by simp
    refine ⟨((List.range len).map f).map Prod.fst, ⟨(List.range len).map f, rfl, ⟨some a, cap, by rw [hlen], by rw [hlen]; exact hl, hm, fun h => by simp at h, ?_⟩, ?_⟩, ?_⟩
    · by_cases h0 : len = 0
      · subst h0; intro i hi; simp [cellsQ] at hi
      · have e : cellsQ ((List.range len).map f) = (List.range len).flatMap (fun i => (f i).1.cells (f i).2) := by simp [cellsQ, List.flatMap_map]
        rw [e]
        exact row_of (by omega) (by omega) _ fun i hi => ⟨rfl, (hf i hi).1⟩
    · intro y hy
      simp only [List.mem_map, List.mem_range] at hy
      obtain ⟨i, hi, rfl⟩ := hy
      exact (hf i hi).2.1
    · intro y hy
      simp only [List.mem_map, List.mem_range] at hy
      obtain ⟨z, ⟨i, hi, rfl⟩, rfl⟩ := hy
      exact (hf i hi).2.2
end
end Go.Proofs.Ytkddkpdfeeikhaa

/-
  What the form's reading of a session, a log and an ask says of memory.
-/
namespace Go.Proofs.Ytkddkpdfeeikhaa
open Go.ChangeShapes Go.WideShapes Go.ChangeAt Go.RowKit Go.Deep Go.Joins
set_option linter.unusedVariables false
set_option linter.unusedSimpArgs false

namespace SO
section
variable {H : Type} {enc : TypeId × Value → H} {W : World} {sp : Nat → Bool} {held : Bool}
theorem c50 : Try.prog.cellsOf 50 = 4 := by kernel_rfl
theorem c64 : Try.prog.cellsOf 64 = 2 := by kernel_rfl
theorem c3 : Try.prog.cellsOf 3 = 1 := by kernel_rfl
theorem c9 : Try.prog.cellsOf 9 = 1 := by kernel_rfl
theorem b5 : Try.prog.bytesOf 5 = 1 := by kernel_rfl
theorem b50 : Try.prog.bytesOf 50 = 40 := by kernel_rfl

/-- The form's own reach, of a slice that is a field. -/
theorem sized_part {P : Program} {ts : List TypeId} {ds : List (DataW H)} (h : (DataW.weightsEach P ts ds).all (· ≤ reachBytes) = true) {j i : Nat} {t e tf : TypeId} {fs : Array Field} {parts elems spare : List (DataW H)}
    (ht : ts[j]? = some t) (hd : ds[j]? = some (.agg parts)) (hu : P.underlying t = some (.struct fs)) (hf : (fs.toList.map (·.type))[i]? = some tf) (hp : parts[i]? = some (.slice elems spare)) (hs : P.underlying tf = some (.slice e)) : (elems.length + spare.length) * P.bytesOf e ≤ reachBytes := by
  refine of_decide_eq_true (List.all_eq_true.1 h _ (DataW.weights_mem_each ht hd _ ?_))
  simp only [DataW.weights, hu]
  exact DataW.weights_mem_each hf hp _ (by simp [DataW.weights, hs])

theorem open_body (v : Value) (fuel : Nat) (x : DataW H × List MemPlace) (h : DataW.trod enc Try.prog W 0 sp held fuel 26 [v] = some x) :
    ∃ bs : List UInt8, SliceB (Under W.heap.size) W v bs ∧ (bs.length = 0 ∨ ∃ el spr, x.1 = .slice el spr ∧ el.length = bs.length) := by
  obtain ⟨bs, hbs⟩ := Ytkddkpdfeeikhaa.open_body v fuel x h
  refine ⟨bs, hbs, ?_⟩
  obtain ⟨a', cap', e, -⟩ := hbs
  rcases open_slice Try.underlying26 h with ⟨hcs, _⟩ | ⟨a, len, cap, m, n, D, Pl, hcs, _, hl, hm, hmm, hx, hel⟩
  · simp only [List.cons.injEq, and_true] at hcs
    rw [e] at hcs
    simp only [Value.slice.injEq] at hcs
    exact .inl (by omega)
  · simp only [List.cons.injEq, and_true] at hcs
    rw [e] at hcs
    simp only [Value.slice.injEq] at hcs
    exact .inr ⟨_, _, by rw [hx], by simp; omega⟩

set_option maxRecDepth 100000 in
theorem open_tag (fuel : Nat) (cs : List Value) (x : DataW H × List MemPlace) (h : DataW.trod enc Try.prog W 0 sp held fuel 50 cs = some x) :
    ∃ p : TD, cs = p.cells := by
  obtain ⟨xs, n, _, _, hlen, hxl, hfld⟩ := DataW.trod_struct Try.underlying50 h
  rw [c50] at hlen
  have h0 := hfld 0 _ rfl
  have h1 := hfld 1 _ rfl
  have h2 := hfld 2 _ rfl
  have h3 := hfld 3 _ rfl
  clear hfld
  match cs, hlen, xs, hxl with
  | [v0, v1, v2, v3], _, [y0, y1, y2, y3], _ =>
    have g0 : DataW.trod enc Try.prog W 0 sp held n 3 [v0] = some y0 := by simpa [c3] using h0
    have g1 : DataW.trod enc Try.prog W 0 sp held n 9 [v1] = some y1 := by simpa [c9] using h1
    have g2 : DataW.trod enc Try.prog W 0 sp held n 3 [v2] = some y2 := by simpa [c3] using h2
    have g3 : DataW.trod enc Try.prog W 0 sp held n 3 [v3] = some y3 := by simpa [c3] using h3
    obtain ⟨k, e0, _, _⟩ := DataW.trod_int Try.underlying3 g0
    obtain ⟨q, e1, _, _⟩ := DataW.trod_string Try.underlying9 g1
    obtain ⟨i, e2, _, _⟩ := DataW.trod_int Try.underlying3 g2
    obtain ⟨t, e3, _, _⟩ := DataW.trod_int Try.underlying3 g3
    simp only [List.cons.injEq, and_true] at e0 e1 e2 e3
    subst e0 e1 e2 e3
    exact ⟨⟨k, q, i, t⟩, rfl⟩

theorem open_tags (v : Value) (fuel : Nat) (x : DataW H × List MemPlace) (h : DataW.trod enc Try.prog W 0 sp held fuel 62 [v] = some x) :
    ∃ ts : List TD, SliceT (Under W.heap.size) W v ts ∧ (ts.length = 0 ∨ ∃ el spr, x.1 = .slice el spr ∧ el.length = ts.length) := by
  rcases open_slice Try.underlying62 h with ⟨hcs, _⟩ | ⟨a, len, cap, m, n, D, Pl, hcs, _, hl, hm, hmm, hx, hel⟩
  · simp only [List.cons.injEq, and_true] at hcs
    subst hcs
    exact ⟨[], SliceV.nil _ _, .inl rfl⟩
  · simp only [List.cons.injEq, and_true] at hcs
    subst hcs
    have hlm : len ≤ m := by rw [hmm]; split <;> omega
    rw [c50] at hel
    have each : ∀ i, i < len → ∃ p : TD, ∀ j, j < 4 → W.cell? ((a.add (i * 4)).add j) = (p.cells)[j]? := by
      intro i hi
      obtain ⟨c, g, t⟩ := hel i (by omega)
      obtain ⟨_, l, k⟩ := World.cells?_some g
      obtain ⟨p, rfl⟩ := open_tag n c _ t
      exact ⟨p, k⟩
    haveI : Inhabited TD := ⟨⟨0, ByteArray.empty, 0, 0⟩⟩
    obtain ⟨f, hf⟩ := choose_lt each
    have hlen : ((List.range len).map f).length = len := by simp
    refine ⟨(List.range len).map f, ⟨some a, cap, by rw [hlen], by rw [hlen]; exact hl, hm, fun h => by simp at h, ?_⟩, .inr ⟨_, _, by rw [hx], by simp⟩⟩
    by_cases h0 : len = 0
    · subst h0; intro i hi; simp [cellsT] at hi
    · have e : cellsT ((List.range len).map f) = (List.range len).flatMap (fun i => (f i).cells) := by simp [cellsT, List.flatMap_map]
      rw [e]
      exact row_of (by omega) (by omega) _ fun i hi => ⟨rfl, hf i hi⟩

end
end SO
end Go.Proofs.Ytkddkpdfeeikhaa
