/-
  For every hall h, session s, name and time now, of whatever size the form lets an argument have, tglaw6.SessionTags(h, s, name, now) returns true, and all four arguments read behind the call as they did before it. No condition beside the form's own.
-/
import Derived.Test.YtkddkpdfeeikhaaSsTags
import Derived.Test.YtkddkpdfeeikhaaSsTagProofM51
import Derived.ShutString
import Derived.ChangeOld
import Derived.SizedLaws
namespace Go.Proofs.Ytkddkpdfeeikhaa
open Go.ChangeShapes Go.WideShapes Go.ChangeAt Go.RowKit Go.Joins
set_option linter.unusedVariables false
set_option linter.unusedSimpArgs false

namespace SsTagP
theorem own : ownKnob Try.prog.godebug = none := by kernel_rfl
theorem laidOut : laidOutB Try.prog = true := by kernel_rfl
theorem pfit {p : PD} (h : p.fits) : p.fitN := h
theorem nfit {n : ND} (h : n.fits) : n.fitN := fun p hp => pfit (h p hp)

set_option maxRecDepth 100000 in
theorem lifted (os : Os) (started : os.Started) (H : Type) (enc : TypeId × Value → H) :
    ReturnsInHanded {} Try.checked os 7 .any (Rows.sessionTagsSpec.pre6 enc Try.prog Try.f7 Rows.sessionTagsRow.domain false) (Rows.sessionTagsSpec.post enc Try.prog Try.f7 false true false false) := by
  refine returnsInHanded_of_change_sized (C := Try.checked) own started (by kernel_rfl) Try.func7
    (ChangeSpec.witness6 (enc := enc) (C := Try.checked) false ⟨#[], #[.agg #[.slice none 0 0, .int .i64 0], .agg #[.slice none 0 0, .int .i64 0], .string ⟨#[]⟩, .int .i64 0], []⟩ 8 (by kernel_rfl) (by kernel_rfl) (by kernel_rfl) (by kernel_rfl)) ?_
  intro W base args ds gs before hval0 hW _ hsz0 _
  have hsz : (DataW.weightsEach Try.prog (Try.f7.params.toList ++ Rows.sessionTagsSpec.plain.varTypes Try.prog) (ds ++ gs)).all (· ≤ reachBytes) = true := hsz0
  clear hsz0
  have hval : ∀ (j : Nat) t v, Try.f7.params[j]? = some t → args[j]? = some v → Value.okWide Try.prog W .any base t v := hval0
  have hW' := hW
  obtain ⟨p, q, hA0, hV, rfl, hfz, hnd⟩ := hW
  have hA : DataW.TrodAll enc Try.prog W 0 (fun _ => true) true Try.f7.params.toList args.toList ds p := hA0
  rw [Try.params7] at hA hval hsz
  obtain ⟨v0, vs0, d0, ds0, p0, q0, hargs, rfl, rfl, h0, r0⟩ := trodAll_cons hA
  obtain ⟨v1, vs1, d1, ds1, p1, q1, rfl, rfl, rfl, h1, r1⟩ := trodAll_cons r0
  obtain ⟨v2, vs2, d2, ds2, p2, q2, rfl, rfl, rfl, h2, r2⟩ := trodAll_cons r1
  obtain ⟨v3, vs3, d3, ds3, p3, q3, rfl, rfl, rfl, h3, r3⟩ := trodAll_cons r2
  obtain ⟨rfl, rfl, rfl⟩ := trodAll_nil r3
  obtain rfl : args = #[v0, v1, v2, v3] := by cases args; simp_all
  obtain ⟨rfl, rfl⟩ := trodVars_none hV
  have k0 := h0
  have k1 := h1
  have k2 := h2
  have k3 := h3
  have lt0 : ∀ x ∈ p0, x.block < W.heap.size := by obtain ⟨m, hm⟩ := k0; exact DataW.trod_lt m _ _ _ hm
  have lt1 : ∀ x ∈ p1, x.block < W.heap.size := by obtain ⟨m, hm⟩ := k1; exact DataW.trod_lt m _ _ _ hm
  have lt2 : ∀ x ∈ p2, x.block < W.heap.size := by obtain ⟨m, hm⟩ := k2; exact DataW.trod_lt m _ _ _ hm
  have lt3 : ∀ x ∈ p3, x.block < W.heap.size := by obtain ⟨m, hm⟩ := k3; exact DataW.trod_lt m _ _ _ hm
  obtain ⟨c0, c1, y0, y1, m0, hv0, hd0, hp0, t0, t1⟩ := open_agg2 Try.underlying24 (by kernel_rfl) cells43 (hval 0 24 v0 rfl rfl) h0
  subst hv0
  obtain ⟨next, e1, _, _⟩ := DataW.trod_int Try.underlying3 t1
  simp only [List.cons.injEq, and_true] at e1
  subst e1
  obtain ⟨qs, hqs, hqf⟩ := open_queues c0 m0 y0 t0
  obtain ⟨i0, i1, x0, x1, m2, hv2, hd2, hp2, w0, w1⟩ := open_agg2 Try.underlying64 (by kernel_rfl) SO.c64 (hval 1 64 v1 rfl rfl) h1
  subst hv2
  obtain ⟨nx, e3, _, _⟩ := DataW.trod_int Try.underlying3 w1
  simp only [List.cons.injEq, and_true] at e3
  subst e3
  obtain ⟨ts, hts, htd⟩ := SO.open_tags i0 m2 x0 w0
  obtain ⟨name, rfl⟩ := okWide_string Try.underlying9 (hval 2 9 v2 rfl rfl)
  have hname : name.size ≤ maxLen := by
    obtain ⟨m3, hm3⟩ := h2
    obtain ⟨s', es, _, hsl⟩ := DataW.trod_string Try.underlying9 (by simpa [Value.cells] using hm3)
    simp only [List.cons.injEq, Value.string.injEq, and_true] at es
    rw [es]
    exact hsl
  obtain ⟨now, rfl⟩ := okWide_int Try.underlying3 (hval 3 3 v3 rfl rfl)
  have htl : ts.length ≤ 3518437208832 := by
    rcases htd with h | ⟨el, spr, e1, e2⟩
    · omega
    · have := SO.sized_part hsz (j := 1) (i := 0) (t := 64) (e := 50) (tf := 62) (elems := el) (spare := spr) rfl (by rw [hd2]; rfl) Try.underlying64 rfl (by rw [e1]; rfl) Try.underlying62
      rw [SO.b50] at this
      simp only [reachBytes] at this
      omega
  clear hA0 hval0
  refine (tags_any c0 i0 ⟨qs, next⟩ ts nx name now W ⟨hqs, hts, fun q hq => (hqf q hq).1, fun q hq i hi => nfit ((hqf q hq).2 i hi), htl, hname⟩).mono fun e W' ⟨he, bel⟩ => ?_
  subst he
  exact ⟨_, rfl, _, _, _, [], _, [], hW', trodAll_mk1 (shut_bool Try.underlying4 _), (trodAll_cons_mk (Below.trod laidOut (by kernel_rfl) (of_decide_eq_true (by kernel_rfl)) k0 bel lt0) (trodAll_cons_mk (Below.trod laidOut (by kernel_rfl) (of_decide_eq_true (by kernel_rfl)) k1 bel lt1) (trodAll_cons_mk (Below.trod laidOut (by kernel_rfl) (of_decide_eq_true (by kernel_rfl)) k2 bel lt2) (trodAll_cons_mk (Below.trod laidOut (by kernel_rfl) (of_decide_eq_true (by kernel_rfl)) k3 bel lt3) trodAll_mk0)))), rfl, bel.frame _, fun h => by cases h⟩
end SsTagP

theorem sessionTags_holds : Rows.SessionTagsSaid :=
  OpenClaim.holds_of_wide 7 Try.f7 rfl rfl rfl rfl rfl rfl rfl ⟨rfl, rfl, rfl, rfl, rfl⟩ rfl rfl rfl rfl rfl (by kernel_rfl) Try.func7 (by kernel_rfl)
    (of_decide_eq_true (by kernel_rfl)) (by unfold Func.isWrapper; first | (rw [if_pos (by decide +kernel)]; kernel_rfl) | (rw [if_neg (by decide +kernel)]; exact ⟨rfl, rfl⟩))
    (fun os started H enc _ => SsTagP.lifted os started H enc)

#print axioms sessionTags_holds
end Go.Proofs.Ytkddkpdfeeikhaa
