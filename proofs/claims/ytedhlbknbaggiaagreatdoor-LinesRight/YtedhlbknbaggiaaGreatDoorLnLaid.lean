/-
  What the row's list and the world's shape say of the package-level variables.
-/
import Derived.Test.YtedhlbknbaggiaaGreatDoorLnRightCardM16
import Derived.Test.YtedhlbknbaggiaaGreatDoorFOpen
import Derived.Test.YtedhlbknbaggiaaGreatDoorTie
import Derived.LaidLaws
import Derived.LaidSub
import Derived.Lay
import Derived.MakeChecks
import Derived.Shelf.Vars
import Derived.ShapedOpen
namespace Go.Proofs.YtedhlbknbaggiaaGreatDoor
open Go.RowKit
set_option linter.unusedVariables false
set_option linter.unusedSimpArgs false

theorem pick {W : World} {l : List (String × DataW Unit)} (h : laidMet Tryz.prog l W) (n : String) (d : DataW Unit) (hf : l.filter (fun x => x.1 == n) = [(n, d)]) : laidMet Tryz.prog [(n, d)] W := hf ▸ h.filter _

theorem err_cell {W : World} {n : String} {s : String} {d : DataW Unit} {g : Nat} (hg : Tryz.prog.globalNamed n = some g) (hty : (Tryz.prog.globals[g]?).map (·.type) = some 57) (h : laidMet Tryz.prog [(n, .iface s d)] W) : ∃ te pe, W.cell? ⟨g, 0, none⟩ = some (.iface te pe) := by
  obtain ⟨ps, ⟨g', t', cs, fuel, p, q, hg', ht', hvar, hd, _, _⟩, _⟩ := h
  obtain rfl := Option.some.inj (hg.symm.trans hg')
  obtain rfl := Option.some.inj (hty.symm.trans ht')
  obtain ⟨fuel', u, v, e, -, -⟩ := iface_of_trod Tryz.underlying57 hd
  have := World.var?_cell hg hvar 0
  refine ⟨u, v, ?_⟩
  rw [this]
  have e2 : cs = #[.iface u v] := by rw [← Array.toList_inj]; exact e
  rw [e2]
  rfl

theorem cells71 : Tryz.prog.cellsOf 71 = 5 := by kernel_rfl
theorem cells4 : Tryz.prog.cellsOf 4 = 1 := by kernel_rfl
set_option maxRecDepth 100000 in
theorem shape_cells {W : World} {sp : Nat → Bool} {held : Bool} {enc : TypeId × Value → Unit} {m : Nat} {cs : List Value} {s : ShD} {p : List MemPlace}
    (h : DataW.trod enc Tryz.prog W 0 sp held m 71 cs = some (.agg [.lit (.int .i64 s.kind), .lit (.string s.word.data.toList), .lit (.bool s.queue), .lit (.bool s.number), .lit (.bool s.note)], p)) : cs = s.cells := by
  obtain ⟨xs, m', _, hx, hlen, hxl, hfld⟩ := DataW.trod_struct Tryz.underlying71 h
  rw [cells71] at hlen
  have h0 := hfld 0 _ rfl
  have h1 := hfld 1 _ rfl
  have h2 := hfld 2 _ rfl
  have h3 := hfld 3 _ rfl
  have h4 := hfld 4 _ rfl
  clear hfld
  match cs, hlen, xs, hxl with
  | [v0, v1, v2, v3, v4], _, [y0, y1, y2, y3, y4], _ =>
    have g0 : DataW.trod enc Tryz.prog W 0 sp held m' 3 [v0] = some y0 := by simpa [cells3] using h0
    have g1 : DataW.trod enc Tryz.prog W 0 sp held m' 9 [v1] = some y1 := by simpa [cells9] using h1
    have g2 : DataW.trod enc Tryz.prog W 0 sp held m' 4 [v2] = some y2 := by simpa [cells4] using h2
    have g3 : DataW.trod enc Tryz.prog W 0 sp held m' 4 [v3] = some y3 := by simpa [cells4] using h3
    have g4 : DataW.trod enc Tryz.prog W 0 sp held m' 4 [v4] = some y4 := by simpa [cells4] using h4
    obtain ⟨k, e0, f0, _⟩ := DataW.trod_int Tryz.underlying3 g0
    obtain ⟨q, e1, f1, _⟩ := DataW.trod_string Tryz.underlying9 g1
    obtain ⟨b2, e2, f2⟩ := DataW.trod_bool Tryz.underlying4 g2
    obtain ⟨b3, e3, f3⟩ := DataW.trod_bool Tryz.underlying4 g3
    obtain ⟨b4, e4, f4⟩ := DataW.trod_bool Tryz.underlying4 g4
    simp only [List.cons.injEq, and_true] at e0 e1 e2 e3 e4
    subst e0 e1 e2 e3 e4 f0 f1 f2 f3 f4
    simp only [Prod.mk.injEq, DataW.agg.injEq, List.map_cons, List.map_nil, List.cons.injEq, DataW.lit.injEq, Lit.int.injEq, Lit.string.injEq, Lit.bool.injEq, true_and, and_true] at hx
    obtain ⟨⟨h1, h2, h3, h4, h5⟩, -⟩ := hx
    have : s.word = q := ByteArray.ext (Array.toList_inj.1 h2)
    unfold ShD.cells
    rw [h1, this, h3, h4, h5]

theorem shapes_data : (Rows.laid_trivetgate_lines_shapes : DataW Unit) = .agg (shapesL.map fun s => .agg [.lit (.int .i64 s.kind), .lit (.string s.word.data.toList), .lit (.bool s.queue), .lit (.bool s.number), .lit (.bool s.note)]) := by kernel_rfl
theorem shapesC_at (i j : Nat) (hi : i < 9) (hj : j < 5) : shapesC[i * 5 + j]? = ((shapesL[i]'hi).cells)[j]? := by
  have : ∀ i : Fin 9, ∀ j : Fin 5, shapesC[i.val * 5 + j.val]? = ((shapesL[i.val]'i.isLt).cells)[j.val]? := fun i j => by
    match i, j with
    | ⟨0, _⟩, ⟨0, _⟩ => rfl
    | ⟨0, _⟩, ⟨1, _⟩ => rfl
    | ⟨0, _⟩, ⟨2, _⟩ => rfl
    | ⟨0, _⟩, ⟨3, _⟩ => rfl
    | ⟨0, _⟩, ⟨4, _⟩ => rfl
    | ⟨1, _⟩, ⟨0, _⟩ => rfl
    | ⟨1, _⟩, ⟨1, _⟩ => rfl
    | ⟨1, _⟩, ⟨2, _⟩ => rfl
    | ⟨1, _⟩, ⟨3, _⟩ => rfl
    | ⟨1, _⟩, ⟨4, _⟩ => rfl
    | ⟨2, _⟩, ⟨0, _⟩ => rfl
    | ⟨2, _⟩, ⟨1, _⟩ => rfl
    | ⟨2, _⟩, ⟨2, _⟩ => rfl
    | ⟨2, _⟩, ⟨3, _⟩ => rfl
    | ⟨2, _⟩, ⟨4, _⟩ => rfl
    | ⟨3, _⟩, ⟨0, _⟩ => rfl
    | ⟨3, _⟩, ⟨1, _⟩ => rfl
    | ⟨3, _⟩, ⟨2, _⟩ => rfl
    | ⟨3, _⟩, ⟨3, _⟩ => rfl
    | ⟨3, _⟩, ⟨4, _⟩ => rfl
    | ⟨4, _⟩, ⟨0, _⟩ => rfl
    | ⟨4, _⟩, ⟨1, _⟩ => rfl
    | ⟨4, _⟩, ⟨2, _⟩ => rfl
    | ⟨4, _⟩, ⟨3, _⟩ => rfl
    | ⟨4, _⟩, ⟨4, _⟩ => rfl
    | ⟨5, _⟩, ⟨0, _⟩ => rfl
    | ⟨5, _⟩, ⟨1, _⟩ => rfl
    | ⟨5, _⟩, ⟨2, _⟩ => rfl
    | ⟨5, _⟩, ⟨3, _⟩ => rfl
    | ⟨5, _⟩, ⟨4, _⟩ => rfl
    | ⟨6, _⟩, ⟨0, _⟩ => rfl
    | ⟨6, _⟩, ⟨1, _⟩ => rfl
    | ⟨6, _⟩, ⟨2, _⟩ => rfl
    | ⟨6, _⟩, ⟨3, _⟩ => rfl
    | ⟨6, _⟩, ⟨4, _⟩ => rfl
    | ⟨7, _⟩, ⟨0, _⟩ => rfl
    | ⟨7, _⟩, ⟨1, _⟩ => rfl
    | ⟨7, _⟩, ⟨2, _⟩ => rfl
    | ⟨7, _⟩, ⟨3, _⟩ => rfl
    | ⟨7, _⟩, ⟨4, _⟩ => rfl
    | ⟨8, _⟩, ⟨0, _⟩ => rfl
    | ⟨8, _⟩, ⟨1, _⟩ => rfl
    | ⟨8, _⟩, ⟨2, _⟩ => rfl
    | ⟨8, _⟩, ⟨3, _⟩ => rfl
    | ⟨8, _⟩, ⟨4, _⟩ => rfl
  exact this ⟨i, hi⟩ ⟨j, hj⟩
theorem cells72 : Tryz.prog.cellsOf 72 = 45 := by kernel_rfl
theorem shapes_of {W : World} (h : laidMet Tryz.prog [("trivetgate/lines.shapes", Rows.laid_trivetgate_lines_shapes)] W) : ∃ t f, W.heap[0]? = some (.cells shapesC.toArray t f) := by
  obtain ⟨ps, ⟨g', t', cs, fuel, p, q, hg', ht', hvar, hd, _, _⟩, _⟩ := h
  have hg : Tryz.prog.globalNamed "trivetgate/lines.shapes" = some 0 := by kernel_rfl
  obtain rfl := Option.some.inj (hg.symm.trans hg')
  obtain rfl := Option.some.inj ((show (Tryz.prog.globals[0]?).map (·.type) = some 72 by kernel_rfl).symm.trans ht')
  rw [shapes_data] at hd
  obtain ⟨xs, m, _, ex, hlen, hl, hel⟩ := DataW.trod_array Tryz.underlying72 hd
  rw [cells72] at hlen
  have e3 : xs.map (·.1) = shapesL.map fun s => (.agg [.lit (.int .i64 s.kind), .lit (.string s.word.data.toList), .lit (.bool s.queue), .lit (.bool s.number), .lit (.bool s.note)] : DataW Unit) := (DataW.agg.inj (Prod.mk.inj ex).1).symm
  have hsub : ∀ i (hi : i < 9), (cs.toList.drop (i * 5)).take 5 = (shapesL[i]'hi).cells := fun i hi => by
    have hE := hel i hi
    rw [cells71, List.getElem?_eq_getElem (by omega)] at hE
    have e4 : (xs.map (·.1))[i]? = (shapesL.map fun s => (.agg [.lit (.int .i64 s.kind), .lit (.string s.word.data.toList), .lit (.bool s.queue), .lit (.bool s.number), .lit (.bool s.note)] : DataW Unit))[i]? := by rw [e3]
    rw [List.getElem?_map, List.getElem?_map, List.getElem?_eq_getElem (by omega : i < xs.length), List.getElem?_eq_getElem (show i < shapesL.length from hi)] at e4
    simp only [Option.map_some, Option.some.injEq] at e4
    generalize hy : xs[i]'(by omega) = y at hE e4
    obtain ⟨y1, y2⟩ := y
    simp only at e4
    rw [e4] at hE
    exact shape_cells hE
  have hcs : cs.toList = shapesC := by
    apply List.ext_getElem?
    intro j
    by_cases hj : j < 45
    · have h1 := hsub (j / 5) (by omega)
      have h2 : ((cs.toList.drop (j / 5 * 5)).take 5)[j % 5]? = cs.toList[j]? := by
        rw [List.getElem?_take, if_pos (by omega), List.getElem?_drop]
        congr 1; omega
      rw [← h2, h1, ← shapesC_at (j / 5) (j % 5) (by omega) (by omega)]
      congr 1; omega
    · rw [List.getElem?_eq_none (by omega), List.getElem?_eq_none (by show 45 ≤ j; omega)]
  unfold World.var? at hvar
  rw [hg] at hvar
  simp only [Option.bind_some] at hvar
  split at hvar
  · rename_i c t f hh
    have e : c = cs := Option.some.inj hvar
    subst e
    exact ⟨t, f, by rw [hh, ← hcs]⟩
  · cases hvar

/-- The rows' list. -/
theorem vars_of {W : World} (h : laidMetH Tryz.prog Rows.linesRightRow.laid W) (hsh : W.ShapedOpen Tryz.prog) : Vars W := by
  rw [MakeChecks.laidMetH_plain _ _ _ (by kernel_rfl)] at h
  refine ⟨?_, ?_, ?_, ?_, ?_⟩
  · exact err_cell (g := 2) (by kernel_rfl) (by kernel_rfl) (pick h "strconv.ErrSyntax" Rows.laid_strconv_ErrSyntax (by kernel_rfl))
  · exact err_cell (g := 3) (by kernel_rfl) (by kernel_rfl) (pick h "strconv.ErrRange" Rows.laid_strconv_ErrRange (by kernel_rfl))
  · exact cell_of_shapedOpen_int (zero := #[.int .i64 0]) hsh (of_decide_eq_true (by kernel_rfl)) (by kernel_rfl) (by kernel_rfl) (by kernel_rfl) (by kernel_rfl) Tryz.underlying3
  · exact Go.Lib.tabIs_of_head (rest := []) (g := 5) (t := 197) (by kernel_rfl) (by kernel_rfl) Tryz.underlying197 (by kernel_rfl) (by kernel_rfl) (by kernel_rfl) (pick h "internal/strconv.uint64pow10" (Go.Lib.tabData .u64 Go.Lib.pow10Tab) (by kernel_rfl))
  · exact shapes_of (pick h "trivetgate/lines.shapes" Rows.laid_trivetgate_lines_shapes (by kernel_rfl))
end Go.Proofs.YtedhlbknbaggiaaGreatDoor
