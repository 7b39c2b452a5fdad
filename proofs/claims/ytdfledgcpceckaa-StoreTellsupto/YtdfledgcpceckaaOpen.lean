/-
  What the form's reading of bytes, and of a row of them, says of memory.
-/
import Derived.Test.YtdfledgcpceckaaRecs
import Derived.ProofKit
import Derived.Deep.Slices
import Derived.OpenShut
namespace Go.Proofs.Ytdfledgcpceckaa
open Go.ChangeShapes Go.WideShapes Go.ChangeAt Go.RowKit Go.Deep
set_option linter.unusedVariables false
set_option linter.unusedSimpArgs false

section
variable {H : Type} {enc : TypeId × Value → H} {W : World} {sp : Nat → Bool} {held : Bool}

theorem spot_of {w : World} {a : Addr} {v : Value} (h : w.cell? a = some v) : ∃ b off, a = ⟨b, off, none⟩ := by
  obtain ⟨b, off, spot⟩ := a
  have : spot = none := World.cell?_spot h
  subst this
  exact ⟨b, off, rfl⟩

theorem open_body (v : Value) (fuel : Nat) (x : DataW H × List MemPlace) (h : DataW.trod enc Try.prog W 0 sp held fuel 23 [v] = some x) :
    ∃ bs : List UInt8, SliceB W.heap.size W v bs ∧ (bs = [] ∨ ∃ el spr, x.1 = .slice el spr ∧ el.length = bs.length) := by
  rcases open_ints Try.underlying23 Try.underlying5 (by kernel_rfl) h with ⟨hcs, _⟩ | ⟨a, len, cap, zs, hcs, _, hl, hm, hz, hx, hcell, hwz⟩
  · simp only [List.cons.injEq, and_true] at hcs
    subst hcs
    exact ⟨[], SliceB.nil _ _, .inl rfl⟩
  · simp only [List.cons.injEq, and_true] at hcs
    subst hcs
    have hlz : len ≤ zs.length := by rw [hz]; split <;> omega
    have hlen : ((zs.take len).map fun n => UInt8.ofNat n.toNat).length = len := by simp; omega
    refine ⟨(zs.take len).map fun n => UInt8.ofNat n.toNat, ⟨some a, cap, by rw [hlen], by rw [hlen]; exact hl, hm, fun h => by simp at h, fun i hi => ?_⟩, .inr ⟨_, _, by rw [hx], by simp [lits]⟩⟩
    rw [hlen] at hi
    have h0 := hcell 0 (by omega)
    have e0 : a.add 0 = a := by cases a; simp [Addr.add]
    rw [e0] at h0
    obtain ⟨b, off, rfl⟩ := spot_of h0
    have hc := hcell i (by omega)
    rw [add_none] at hc
    refine ⟨b, off, rfl, World.block_lt_of_cell? W _ hc, ?_⟩
    rw [hc]
    have hbd := bounds_u8 (hwz zs[i] (List.getElem_mem _))
    have e1 : zs.getD i 0 = zs[i] := by simp [List.getD, List.getElem?_eq_getElem (show i < zs.length by omega)]
    rw [e1]
    simp
    omega

theorem cells23 : Try.prog.cellsOf 23 = 1 := by kernel_rfl
theorem cells38 : Try.prog.cellsOf 38 = 2 := by kernel_rfl

theorem open_recs (v : Value) (fuel : Nat) (x : DataW H × List MemPlace) (h : DataW.trod enc Try.prog W 0 sp held fuel 39 [v] = some x) :
    ∃ rs : List (List UInt8), SliceS W.heap.size W v rs ∧ (rs = [] ∨ ∃ el spr, x.1 = .slice el spr ∧ el.length = rs.length) := by
  rcases open_slice Try.underlying39 h with ⟨hcs, _⟩ | ⟨a, len, cap, m, n, D, Pl, hcs, _, hl, hm, hmm, hx, hel⟩
  · simp only [List.cons.injEq, and_true] at hcs
    subst hcs
    exact ⟨[], SliceS.nil _ _, .inl rfl⟩
  · simp only [List.cons.injEq, and_true] at hcs
    subst hcs
    have hlm : len ≤ m := by rw [hmm]; split <;> omega
    rw [cells23] at hel
    have each : ∀ i, i < len → ∃ p : Value × List UInt8, (∃ b off, a = ⟨b, off, none⟩ ∧ W.cell? ⟨b, off + i, none⟩ = some p.1) ∧ SliceB W.heap.size W p.1 p.2 := by
      intro i hi
      obtain ⟨c0, g0, t0⟩ := hel 0 (by omega)
      obtain ⟨_, l0, k0⟩ := World.cells?_some g0
      have z0 := k0 0 (by omega)
      obtain ⟨y, hy⟩ : ∃ y, c0[0]? = some y := ⟨c0[0]'(by omega), List.getElem?_eq_getElem (by omega)⟩
      rw [hy] at z0
      have ea : (a.add (0 * 1)).add 0 = a := by cases a; simp [Addr.add]
      rw [ea] at z0
      obtain ⟨b, off, rfl⟩ := spot_of z0
      obtain ⟨c, g, t⟩ := hel i (by omega)
      obtain ⟨_, l, k⟩ := World.cells?_some g
      match c, l with
      | [u], _ =>
        have k1 := k 0 (by omega)
        rw [add_none, add_none] at k1
        obtain ⟨r, hr, _⟩ := open_body u n _ t
        exact ⟨(u, r), ⟨b, off, rfl, by simpa using k1⟩, hr⟩
    haveI : Inhabited (Value × List UInt8) := ⟨(.bool false, [])⟩
    obtain ⟨f, hf⟩ := choose_lt each
    have hlen : ((List.range len).map fun i => (f i).2).length = len := by simp
    refine ⟨(List.range len).map fun i => (f i).2, ⟨(List.range len).map fun i => (f i).1, ⟨some a, cap, by simp, by simp; exact hl, hm, fun h => by simp at h, fun i hi => ?_⟩, by simp, fun i hi => ?_⟩, .inr ?_⟩
    · have hi' : i < len := by simpa using hi
      obtain ⟨⟨b, off, rfl, hp⟩, _⟩ := hf i hi'
      have e : ((List.range len).map fun i => (f i).1)[i]'hi = (f i).1 := by simp
      rw [e]
      exact ⟨b, off, rfl, World.block_lt_of_cell? W _ hp, hp⟩
    · have hi' : i < len := by simpa using hi
      have e : ((List.range len).map fun i => (f i).2)[i]'hi = (f i).2 := by simp
      rw [e]
      exact ⟨(f i).1, by simp [hi'], (hf i hi').2⟩
    · rw [hx]
      exact ⟨_, _, rfl, by simp⟩
end
end Go.Proofs.Ytdfledgcpceckaa
