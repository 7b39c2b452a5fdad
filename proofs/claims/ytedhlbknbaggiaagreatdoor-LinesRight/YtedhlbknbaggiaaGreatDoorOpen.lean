/-
  What the form's reading of a note, and of bytes, says of memory.
-/
import Derived.Test.YtedhlbknbaggiaaGreatDoorLnRightCardM04
import Derived.ProofKit
import Derived.Deep.Slices
import Derived.OpenShut
namespace Go.Proofs.YtedhlbknbaggiaaGreatDoor
open Go.ChangeShapes Go.WideShapes Go.ChangeAt Go.RowKit Go.Deep
set_option linter.unusedVariables false
set_option linter.unusedSimpArgs false

section
variable {H : Type} {enc : TypeId × Value → H} {W : World} {sp : Nat → Bool} {held : Bool}

theorem spot_of {w : World} {a : Addr} {v : Value} (h : w.cell? a = some v) : ∃ b off, a = ⟨b, off, none⟩ := by
  obtain ⟨b, off, spot⟩ := a
  have : spot = none := World.cell?_spot h
  subst this
  exact ⟨b, off, rfl⟩

theorem open_body (v : Value) (fuel : Nat) (x : DataW H × List MemPlace) (h : DataW.trod enc Tryz.prog W 0 sp held fuel 23 [v] = some x) :
    ∃ bs : List UInt8, SliceB W.heap.size W v bs ∧ (bs = [] ∨ ∃ el spr, x.1 = .slice el spr ∧ el.length = bs.length) := by
  rcases open_ints Tryz.underlying23 Tryz.underlying5 (by kernel_rfl) h with ⟨hcs, _⟩ | ⟨a, len, cap, zs, hcs, _, hl, hm, hz, hx, hcell, hwz⟩
  · simp only [List.cons.injEq, and_true] at hcs
    subst hcs
    exact ⟨[], SliceB.nil _ _, .inl rfl⟩
  · simp only [List.cons.injEq, and_true] at hcs
    subst hcs
    have hlz : len ≤ zs.length := by rw [hz]; split <;> omega
    have hlen : ((zs.take len).map fun n => UInt8.ofNat n.toNat).length = len := by simp; omega
    refine ⟨(zs.take len).map fun n => UInt8.ofNat n.toNat, ⟨some a, cap, by rw [hlen], by rw [hlen]; exact hl, hm, fun h => by simp at h, fun i hi => ?_⟩, .inr ⟨_, _, by rw [hx], by simp [lits]⟩⟩
    rw [hlen] at hi
    have h0 := hcell 0 (by omega)
    have e0 : a.add 0 = a := by cases a; simp [Addr.add]
    rw [e0] at h0
    obtain ⟨b, off, rfl⟩ := spot_of h0
    have hc := hcell i (by omega)
    rw [add_none] at hc
    refine ⟨b, off, rfl, World.block_lt_of_cell? W _ hc, ?_⟩
    rw [hc]
    have hbd := bounds_u8 (hwz zs[i] (List.getElem_mem _))
    have e1 : zs.getD i 0 = zs[i] := by simp [List.getD, List.getElem?_eq_getElem (show i < zs.length by omega)]
    rw [e1]
    simp
    omega

theorem cells38 : Tryz.prog.cellsOf 36 = 4 := by kernel_rfl
theorem cells9 : Tryz.prog.cellsOf 9 = 1 := by kernel_rfl
theorem cells3 : Tryz.prog.cellsOf 3 = 1 := by kernel_rfl
theorem cells25 : Tryz.prog.cellsOf 25 = 2 := by kernel_rfl

set_option maxRecDepth 100000 in
theorem open_prop (b off fuel : Nat) (cs : List Value) (x : DataW H × List MemPlace) (hc : ∀ i, i < 4 → W.cell? ⟨b, off + i, none⟩ = cs[i]?) (h : DataW.trod enc Tryz.prog W 0 sp held fuel 36 cs = some x) :
    ∃ p : PD, PropAt W b off p ∧ p.fits := by
  obtain ⟨xs, n, _, _, hlen, hxl, hfld⟩ := DataW.trod_struct Tryz.underlying36 h
  rw [cells38] at hlen
  have h0 := hfld 0 _ rfl
  have h1 := hfld 1 _ rfl
  have h2 := hfld 2 _ rfl
  have h3 := hfld 3 _ rfl
  clear hfld
  match cs, hlen, xs, hxl with
  | [v0, v1, v2, v3], _, [y0, y1, y2, y3], _ =>
    have g0 : DataW.trod enc Tryz.prog W 0 sp held n 9 [v0] = some y0 := by simpa [cells9] using h0
    have g1 : DataW.trod enc Tryz.prog W 0 sp held n 3 [v1] = some y1 := by simpa [cells3] using h1
    have g2 : DataW.trod enc Tryz.prog W 0 sp held n 3 [v2] = some y2 := by simpa [cells3] using h2
    have g3 : DataW.trod enc Tryz.prog W 0 sp held n 9 [v3] = some y3 := by simpa [cells9] using h3
    obtain ⟨k, e0, _, f0⟩ := DataW.trod_string Tryz.underlying9 g0
    obtain ⟨kd, e1, _, _⟩ := DataW.trod_int Tryz.underlying3 g1
    obtain ⟨nn, e2, _, _⟩ := DataW.trod_int Tryz.underlying3 g2
    obtain ⟨t, e3, _, f3⟩ := DataW.trod_string Tryz.underlying9 g3
    simp only [List.cons.injEq, and_true] at e0 e1 e2 e3
    subst e0 e1 e2 e3
    exact ⟨⟨k, kd, nn, t⟩, ⟨hc 0 (by omega), hc 1 (by omega), hc 2 (by omega), hc 3 (by omega)⟩, f0, f3⟩

set_option maxRecDepth 100000 in
theorem open_props (v : Value) (fuel : Nat) (x : DataW H × List MemPlace) (h : DataW.trod enc Tryz.prog W 0 sp held fuel 22 [v] = some x) :
    ∃ ps : List PD, SliceP W.heap.size W v ps ∧ (∀ p ∈ ps, p.fits) ∧ (ps = [] ∨ ∃ el spr, x.1 = .slice el spr ∧ el.length = ps.length) := by
  rcases open_slice Tryz.underlying22 h with ⟨hcs, _⟩ | ⟨a, len, cap, m, n, D, Pl, hcs, _, hl, hm, hmm, hx, hel⟩
  · simp only [List.cons.injEq, and_true] at hcs
    subst hcs
    exact ⟨[], SliceP.nil _ _, fun p hp => by simp at hp, .inl rfl⟩
  · simp only [List.cons.injEq, and_true] at hcs
    subst hcs
    have hlm : len ≤ m := by rw [hmm]; split <;> omega
    rw [cells38] at hel
    have each : ∀ i, i < len → ∃ p : PD, (∃ b off, a = ⟨b, off, none⟩ ∧ PropAt W b (off + i * 4) p) ∧ p.fits := by
      intro i hi
      obtain ⟨c0, g0, t0⟩ := hel 0 (by omega)
      obtain ⟨_, l0, k0⟩ := World.cells?_some g0
      have z0 := k0 0 (by omega)
      obtain ⟨y, hy⟩ : ∃ y, c0[0]? = some y := ⟨c0[0]'(by omega), List.getElem?_eq_getElem (by omega)⟩
      rw [hy] at z0
      have ea : (a.add (0 * 4)).add 0 = a := by cases a; simp [Addr.add]
      rw [ea] at z0
      obtain ⟨b, off, rfl⟩ := spot_of z0
      obtain ⟨c, g, t⟩ := hel i (by omega)
      obtain ⟨_, l, k⟩ := World.cells?_some g
      obtain ⟨p, hp, hf⟩ := open_prop b (off + i * 4) n c _ (fun j hj => by have := k j hj; rw [add_none, add_none] at this; exact this) t
      exact ⟨p, ⟨b, off, rfl, hp⟩, hf⟩
    haveI : Inhabited PD := ⟨⟨ByteArray.empty, 0, 0, ByteArray.empty⟩⟩
    obtain ⟨f, hf⟩ := choose_lt each
    have hlen : ((List.range len).map f).length = len := by simp
    refine ⟨(List.range len).map f, ⟨some a, cap, by rw [hlen], by rw [hlen]; exact hl, hm, fun h => by simp at h, fun i hi => ?_⟩, ?_, .inr ?_⟩
    · rw [hlen] at hi
      obtain ⟨⟨b, off, rfl, hp⟩, _⟩ := hf i hi
      have e : ((List.range len).map f)[i]'(by rw [hlen]; exact hi) = f i := by simp
      rw [e]
      exact ⟨b, off, rfl, World.block_lt_of_cell? W _ hp.1, hp⟩
    · intro p hp
      simp only [List.mem_map, List.mem_range] at hp
      obtain ⟨i, hi, rfl⟩ := hp
      exact (hf i hi).2
    · rw [hx]
      exact ⟨_, _, rfl, by simp⟩
end
end Go.Proofs.YtedhlbknbaggiaaGreatDoor
