/-
  For every hall h, name, limit n, note m, tag t and time now, of whatever size the form lets an argument have, tglaw5.JournalFollows(h, name, n, m, t, now) returns true, and all six arguments read behind the call as they did before it. No condition beside the form's own.
-/
import Derived.Test.YtkddkpdfeeikhaaJFollowsProofM40
import Derived.Test.YtkddkpdfeeikhaaJFollowsProofM51
import Derived.Test.YtkddkpdfeeikhaaOpenH
import Derived.ShutString
import Derived.ChangeOld
import Derived.SizedLaws
namespace Go.Proofs.Ytkddkpdfeeikhaa
open Go.ChangeShapes Go.WideShapes Go.ChangeAt Go.RowKit Go.Joins
set_option linter.unusedVariables false
set_option linter.unusedSimpArgs false

namespace JFollowP
theorem own : ownKnob Try.prog.godebug = none := by kernel_rfl
theorem laidOut : laidOutB Try.prog = true := by kernel_rfl
theorem pfit {p : PD} (h : p.fits) : p.fitN := h
theorem nfit {n : ND} (h : n.fits) : n.fitN := fun p hp => pfit (h p hp)

set_option maxRecDepth 100000 in
theorem lifted (os : Os) (started : os.Started) (H : Type) (enc : TypeId × Value → H) :
    ReturnsInHanded {} Try.checked os 4 .any (Rows.journalFollowsSpec.pre6 enc Try.prog Try.f4 Rows.journalFollowsRow.domain false) (Rows.journalFollowsSpec.post enc Try.prog Try.f4 false true false false) := by
  refine returnsInHanded_of_change_sized (C := Try.checked) own started (by kernel_rfl) Try.func4
    (ChangeSpec.witness6 (enc := enc) (C := Try.checked) false ⟨#[], #[.agg #[.slice none 0 0, .int .i64 0], .string ⟨#[]⟩, .int .i64 0, .agg #[.slice none 0 0, .slice none 0 0], .agg #[.int .i64 0, .string ⟨#[]⟩, .int .i64 0, .int .i64 0], .int .i64 0], []⟩ 8 (by kernel_rfl) (by kernel_rfl) (by kernel_rfl) (by kernel_rfl)) ?_
  intro W base args ds gs before hval0 hW _ _ _
  have hval : ∀ (j : Nat) t v, Try.f4.params[j]? = some t → args[j]? = some v → Value.okWide Try.prog W .any base t v := hval0
  have hW' := hW
  obtain ⟨p, q, hA0, hV, rfl, hfz, hnd⟩ := hW
  have hA : DataW.TrodAll enc Try.prog W 0 (fun _ => true) true Try.f4.params.toList args.toList ds p := hA0
  rw [Try.params4] at hA hval
  obtain ⟨v0, vs0, d0, ds0, p0, q0, hargs, rfl, rfl, h0, r0⟩ := trodAll_cons hA
  obtain ⟨v1, vs1, d1, ds1, p1, q1, rfl, rfl, rfl, h1, r1⟩ := trodAll_cons r0
  obtain ⟨v2, vs2, d2, ds2, p2, q2, rfl, rfl, rfl, h2, r2⟩ := trodAll_cons r1
  obtain ⟨v3, vs3, d3, ds3, p3, q3, rfl, rfl, rfl, h3, r3⟩ := trodAll_cons r2
  obtain ⟨v4, vs4, d4, ds4, p4, q4, rfl, rfl, rfl, h4, r4⟩ := trodAll_cons r3
  obtain ⟨v5, vs5, d5, ds5, p5, q5, rfl, rfl, rfl, h5, r5⟩ := trodAll_cons r4
  obtain ⟨rfl, rfl, rfl⟩ := trodAll_nil r5
  obtain rfl : args = #[v0, v1, v2, v3, v4, v5] := by cases args; simp_all
  obtain ⟨rfl, rfl⟩ := trodVars_none hV
  have k0 := h0
  have k3 := h3
  have k4 := h4
  have lt0 : ∀ x ∈ p0, x.block < W.heap.size := by obtain ⟨m, hm⟩ := h0; exact DataW.trod_lt m _ _ _ hm
  have lt1 : ∀ x ∈ p1, x.block < W.heap.size := by obtain ⟨m, hm⟩ := h1; exact DataW.trod_lt m _ _ _ hm
  have lt2 : ∀ x ∈ p2, x.block < W.heap.size := by obtain ⟨m, hm⟩ := h2; exact DataW.trod_lt m _ _ _ hm
  have lt3 : ∀ x ∈ p3, x.block < W.heap.size := by obtain ⟨m, hm⟩ := h3; exact DataW.trod_lt m _ _ _ hm
  have lt5 : ∀ x ∈ p5, x.block < W.heap.size := by obtain ⟨m, hm⟩ := h5; exact DataW.trod_lt m _ _ _ hm
  have lt4 : ∀ x ∈ p4, x.block < W.heap.size := by obtain ⟨m, hm⟩ := h4; exact DataW.trod_lt m _ _ _ hm
  obtain ⟨c0, c1, y0, y1, m0, hv0, hd0, hp0, t0, t1⟩ := open_agg2 Try.underlying24 (by kernel_rfl) cells43 (hval 0 24 v0 rfl rfl) h0
  subst hv0
  obtain ⟨next, e1, _, _⟩ := DataW.trod_int Try.underlying3 t1
  simp only [List.cons.injEq, and_true] at e1
  subst e1
  obtain ⟨qs, hqs, hqf⟩ := open_queues c0 m0 y0 t0
  obtain ⟨name, rfl⟩ := okWide_string Try.underlying9 (hval 1 9 v1 rfl rfl)
  have hnm : name.size ≤ maxLen := by
    obtain ⟨m1, hm1⟩ := h1
    obtain ⟨s', es, _, hsl⟩ := DataW.trod_string Try.underlying9 (by simpa [Value.cells] using hm1)
    simp only [List.cons.injEq, Value.string.injEq, and_true] at es
    rw [es]
    exact hsl
  obtain ⟨nn, rfl⟩ := okWide_int Try.underlying3 (hval 2 3 v2 rfl rfl)
  obtain ⟨c5, c6, y5, y6, m', hv2, hd2, hp2, t5, t6⟩ := open_agg2 Try.underlying28 (by kernel_rfl) cells32 (hval 3 28 v3 rfl rfl) h3
  subst hv2
  obtain ⟨ps, hps, hpf⟩ := open_props c5 m' y5 t5
  obtain ⟨bs, hbs⟩ := open_body c6 m' y6 t6
  obtain ⟨g0, g1, g2, g3, z0, z1, z2, z3, m3, hv3, hd3, hp3, u0, u1, u2, u3⟩ := open_agg4 Try.underlying50 (by kernel_rfl) cells47 (hval 4 50 v4 rfl rfl) h4
  subst hv3
  obtain ⟨tn, f0, _, _⟩ := DataW.trod_int Try.underlying3 u0
  obtain ⟨tq, f1, _, htq⟩ := DataW.trod_string Try.underlying9 u1
  obtain ⟨ti, f2, _, _⟩ := DataW.trod_int Try.underlying3 u2
  obtain ⟨tt, f3, _, _⟩ := DataW.trod_int Try.underlying3 u3
  simp only [List.cons.injEq, and_true] at f0 f1 f2 f3
  subst f0 f1 f2 f3
  obtain ⟨now, rfl⟩ := okWide_int Try.underlying3 (hval 5 3 v5 rfl rfl)
  clear hA0 hval0
  refine (jfollows_any alive5_any c0 ⟨qs, next⟩ name nn c5 c6 ⟨ps, bs⟩ tn tq ti tt now W hqs (fun q hq => (hqf q hq).1) (fun q hq i hi => nfit ((hqf q hq).2 i hi)) hnm ⟨hps, hbs⟩ (nfit hpf) htq).mono fun e W' ⟨he, bel⟩ => ?_
  subst he
  exact ⟨_, rfl, _, _, _, [], _, [], hW', trodAll_mk1 (shut_bool Try.underlying4 _), (trodAll_cons_mk (Below.trod laidOut (by kernel_rfl) (of_decide_eq_true (by kernel_rfl)) k0 bel lt0) (trodAll_cons_mk (Below.trod laidOut (by kernel_rfl) (of_decide_eq_true (by kernel_rfl)) h1 bel lt1) (trodAll_cons_mk (Below.trod laidOut (by kernel_rfl) (of_decide_eq_true (by kernel_rfl)) h2 bel lt2) (trodAll_cons_mk (Below.trod laidOut (by kernel_rfl) (of_decide_eq_true (by kernel_rfl)) k3 bel lt3) (trodAll_cons_mk (Below.trod laidOut (by kernel_rfl) (of_decide_eq_true (by kernel_rfl)) k4 bel lt4) (trodAll_cons_mk (Below.trod laidOut (by kernel_rfl) (of_decide_eq_true (by kernel_rfl)) h5 bel lt5) trodAll_mk0)))))), rfl, bel.frame _, fun h => by cases h⟩
end JFollowP

theorem journalFollows_holds : Rows.JournalFollowsSaid :=
  OpenClaim.holds_of_wide 4 Try.f4 rfl rfl rfl rfl rfl rfl rfl ⟨rfl, rfl, rfl, rfl, rfl⟩ rfl rfl rfl rfl rfl (by kernel_rfl) Try.func4 (by kernel_rfl)
    (of_decide_eq_true (by kernel_rfl)) (by unfold Func.isWrapper; first | (rw [if_pos (by decide +kernel)]; kernel_rfl) | (rw [if_neg (by decide +kernel)]; exact ⟨rfl, rfl⟩))
    (fun os started H enc _ => JFollowP.lifted os started H enc)

#print axioms journalFollows_holds
end Go.Proofs.Ytkddkpdfeeikhaa
