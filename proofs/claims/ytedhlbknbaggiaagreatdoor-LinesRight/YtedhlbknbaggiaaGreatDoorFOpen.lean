/-
  What the form's reading of an ask, and of an answer, says of memory.
-/
import Derived.Test.YtedhlbknbaggiaaGreatDoorOpen
import Derived.Test.YtedhlbknbaggiaaGreatDoorFMath
import Derived.ShutString
import Derived.ChangeOld
import Derived.SizedLaws
import Derived.Lib.SmallJoins
namespace Go.Proofs.YtedhlbknbaggiaaGreatDoor
open Go.ChangeShapes Go.WideShapes Go.ChangeAt Go.RowKit Go.Joins
set_option linter.unusedVariables false
set_option linter.unusedSimpArgs false

section
variable {H : Type} {enc : TypeId × Value → H} {W : World} {sp : Nat → Bool} {held : Bool}
theorem cells27 : Tryz.prog.cellsOf 27 = 5 := by kernel_rfl
theorem cells30 : Tryz.prog.cellsOf 30 = 6 := by kernel_rfl
theorem cells28 : Tryz.prog.cellsOf 28 = 1 := by kernel_rfl
theorem cells22 : Tryz.prog.cellsOf 22 = 1 := by kernel_rfl
theorem cells23 : Tryz.prog.cellsOf 23 = 1 := by kernel_rfl

/-- The form's own reach, of a slice that is a field of a struct that is a field. -/
theorem sized_part2 {P : Program} {ts : List TypeId} {ds : List (DataW H)} (h : (DataW.weightsEach P ts ds).all (· ≤ reachBytes) = true) {j i i2 : Nat} {t e tm tf : TypeId} {fs fs2 : Array Field} {parts parts2 elems spare : List (DataW H)}
    (ht : ts[j]? = some t) (hd : ds[j]? = some (.agg parts)) (hu : P.underlying t = some (.struct fs)) (hf : (fs.toList.map (·.type))[i]? = some tm) (hp : parts[i]? = some (.agg parts2)) (hum : P.underlying tm = some (.struct fs2))
    (hf2 : (fs2.toList.map (·.type))[i2]? = some tf) (hp2 : parts2[i2]? = some (.slice elems spare)) (hs : P.underlying tf = some (.slice e)) : (elems.length + spare.length) * P.bytesOf e ≤ reachBytes := by
  refine of_decide_eq_true (List.all_eq_true.1 h _ (DataW.weights_mem_each ht hd _ ?_))
  simp only [DataW.weights, hu]
  refine DataW.weights_mem_each hf hp _ ?_
  simp only [DataW.weights, hum]
  exact DataW.weights_mem_each hf2 hp2 _ (by simp [DataW.weights, hs])

theorem open_note (c0 c1 : Value) (n : Nat) (y : DataW H × List MemPlace) (h : DataW.trod enc Tryz.prog W 0 sp held n 25 [c0, c1] = some y) :
    ∃ (ps : List PD) (body : List UInt8) (z0 z1 : DataW H), SliceP W.heap.size W c0 ps ∧ (∀ p ∈ ps, p.fits) ∧ SliceB W.heap.size W c1 body ∧ y.1 = .agg [z0, z1] ∧ (ps = [] ∨ ∃ el spr, z0 = .slice el spr ∧ el.length = ps.length) ∧ (body = [] ∨ ∃ el spr, z1 = .slice el spr ∧ el.length = body.length) := by
  obtain ⟨xs, m, _, hx, hlen, hxl, hfld⟩ := DataW.trod_struct Tryz.underlying25 h
  have h0 := hfld 0 _ rfl
  have h1 := hfld 1 _ rfl
  clear hfld
  match xs, hxl with
  | [y0, y1], _ =>
    have g0 : DataW.trod enc Tryz.prog W 0 sp held m 22 [c0] = some y0 := by simpa [cells22] using h0
    have g1 : DataW.trod enc Tryz.prog W 0 sp held m 23 [c1] = some y1 := by simpa [cells23] using h1
    obtain ⟨ps, hps, hfit, hpd⟩ := open_props c0 m y0 g0
    obtain ⟨body, hbody, hbd⟩ := open_body c1 m y1 g1
    exact ⟨ps, body, y0.1, y1.1, hps, hfit, hbody, by rw [hx]; simp, hpd, hbd⟩

set_option maxRecDepth 100000 in
theorem open_ask {b0 : Nat} (v : Value) (d : DataW H) (p : List MemPlace) (hv : Value.okWide Tryz.prog W .any b0 27 v) (h : DataW.Trod enc Tryz.prog W 0 sp held 27 v d p) :
    ∃ (k n : Int) (q : ByteArray) (c0 c1 : Value) (ps : List PD) (body : List UInt8) (x0 x1 x2 z0 z1 : DataW H), v = .agg #[.int .i64 k, .string q, .int .i64 n, c0, c1] ∧ q.size ≤ maxLen ∧ SliceP W.heap.size W c0 ps ∧ (∀ p ∈ ps, p.fits) ∧ SliceB W.heap.size W c1 body ∧
      d = .agg [x0, x1, x2, .agg [z0, z1]] ∧ (ps = [] ∨ ∃ el spr, z0 = .slice el spr ∧ el.length = ps.length) ∧ (body = [] ∨ ∃ el spr, z1 = .slice el spr ∧ el.length = body.length) := by
  obtain ⟨cs, rfl, hsz⟩ := okWide_struct Tryz.underlying27 hv
  rw [cells27] at hsz
  obtain ⟨fuel, hf⟩ := h
  obtain ⟨xs, m, _, hx, hlen, hxl, hfld⟩ := DataW.trod_struct Tryz.underlying27 hf
  have h0 := hfld 0 _ rfl
  have h1 := hfld 1 _ rfl
  have h2 := hfld 2 _ rfl
  have h3 := hfld 3 _ rfl
  clear hfld
  obtain ⟨cs⟩ := cs
  match cs, hsz, xs, hxl with
  | [v0, v1, v2, v3, v4], _, [y0, y1, y2, y3], _ =>
    have g0 : DataW.trod enc Tryz.prog W 0 sp held m 3 [v0] = some y0 := by simpa [cells3, Value.cells] using h0
    have g1 : DataW.trod enc Tryz.prog W 0 sp held m 9 [v1] = some y1 := by simpa [cells9, Value.cells] using h1
    have g2 : DataW.trod enc Tryz.prog W 0 sp held m 3 [v2] = some y2 := by simpa [cells3, Value.cells] using h2
    have g3 : DataW.trod enc Tryz.prog W 0 sp held m 25 [v3, v4] = some y3 := by simpa [cells25, Value.cells] using h3
    obtain ⟨k, e0, _, _⟩ := DataW.trod_int Tryz.underlying3 g0
    obtain ⟨q, e1, _, f1⟩ := DataW.trod_string Tryz.underlying9 g1
    obtain ⟨n, e2, _, _⟩ := DataW.trod_int Tryz.underlying3 g2
    simp only [List.cons.injEq, and_true] at e0 e1 e2
    subst e0 e1 e2
    obtain ⟨ps, body, z0, z1, i1, i2, i3, i4, i5, i6⟩ := open_note v3 v4 m y3 g3
    simp only [Prod.mk.injEq] at hx
    exact ⟨k, n, q, v3, v4, ps, body, y0.1, y1.1, y2.1, z0, z1, rfl, f1, i1, i2, i3, by rw [hx.1, ← i4]; rfl, i5, i6⟩

set_option maxRecDepth 100000 in
theorem open_say {b0 : Nat} (v : Value) (d : DataW H) (p : List MemPlace) (hv : Value.okWide Tryz.prog W .any b0 30 v) (h : DataW.Trod enc Tryz.prog W 0 sp held 30 v d p) :
    ∃ (k n m e : Int) (c0 c1 : Value) (ps : List PD) (body : List UInt8) (x0 x1 x2 x3 z0 z1 : DataW H), v = .agg #[.int .i64 k, .int .i64 n, .int .i64 m, .int .i64 e, c0, c1] ∧ SliceP W.heap.size W c0 ps ∧ (∀ p ∈ ps, p.fits) ∧ SliceB W.heap.size W c1 body ∧
      d = .agg [x0, x1, x2, x3, .agg [z0, z1]] ∧ (ps = [] ∨ ∃ el spr, z0 = .slice el spr ∧ el.length = ps.length) ∧ (body = [] ∨ ∃ el spr, z1 = .slice el spr ∧ el.length = body.length) := by
  obtain ⟨cs, rfl, hsz⟩ := okWide_struct Tryz.underlying30 hv
  rw [cells30] at hsz
  obtain ⟨fuel, hf⟩ := h
  obtain ⟨xs, m, _, hx, hlen, hxl, hfld⟩ := DataW.trod_struct Tryz.underlying30 hf
  have h0 := hfld 0 _ rfl
  have h1 := hfld 1 _ rfl
  have h2 := hfld 2 _ rfl
  have h3 := hfld 3 _ rfl
  have h4 := hfld 4 _ rfl
  clear hfld
  obtain ⟨cs⟩ := cs
  match cs, hsz, xs, hxl with
  | [v0, v1, v2, v3, v4, v5], _, [y0, y1, y2, y3, y4], _ =>
    have g0 : DataW.trod enc Tryz.prog W 0 sp held m 3 [v0] = some y0 := by simpa [cells3, Value.cells] using h0
    have g1 : DataW.trod enc Tryz.prog W 0 sp held m 3 [v1] = some y1 := by simpa [cells3, Value.cells] using h1
    have g2 : DataW.trod enc Tryz.prog W 0 sp held m 3 [v2] = some y2 := by simpa [cells3, Value.cells] using h2
    have g3 : DataW.trod enc Tryz.prog W 0 sp held m 28 [v3] = some y3 := by simpa [cells28, Value.cells] using h3
    have g4 : DataW.trod enc Tryz.prog W 0 sp held m 25 [v4, v5] = some y4 := by simpa [cells25, Value.cells] using h4
    obtain ⟨k, e0, _, _⟩ := DataW.trod_int Tryz.underlying3 g0
    obtain ⟨n, e1, _, _⟩ := DataW.trod_int Tryz.underlying3 g1
    obtain ⟨mm, e2, _, _⟩ := DataW.trod_int Tryz.underlying3 g2
    obtain ⟨ee, e3, _, _⟩ := DataW.trod_int Tryz.underlying28 g3
    simp only [List.cons.injEq, and_true] at e0 e1 e2 e3
    subst e0 e1 e2 e3
    obtain ⟨ps, body, z0, z1, i1, i2, i3, i4, i5, i6⟩ := open_note v4 v5 m y4 g4
    simp only [Prod.mk.injEq] at hx
    exact ⟨k, n, mm, ee, v4, v5, ps, body, y0.1, y1.1, y2.1, y3.1, z0, z1, rfl, i1, i2, i3, by rw [hx.1, ← i4]; rfl, i5, i6⟩
end
end Go.Proofs.YtedhlbknbaggiaaGreatDoor
