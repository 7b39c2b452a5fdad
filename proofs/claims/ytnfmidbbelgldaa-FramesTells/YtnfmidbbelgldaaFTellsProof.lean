/-
  For every ask a, every answer s and all bytes b, of whatever size the form lets an argument have, tglaw7.FramesTells(a, s, b) returns true, and all three arguments read behind the call as they did before it. No condition beside the form's own.
-/
import Derived.Test.YtnfmidbbelgldaaFTells
import Derived.Test.YtnfmidbbelgldaaFOpen
namespace Go.Proofs.Ytnfmidbbelgldaa
open Go.ChangeShapes Go.WideShapes Go.ChangeAt Go.RowKit Go.Joins
set_option linter.unusedVariables false
set_option linter.unusedSimpArgs false

namespace FTells
theorem own : ownKnob Try.prog.godebug = none := by kernel_rfl
theorem laidOut : laidOutB Try.prog = true := by kernel_rfl
theorem bytes5 : Try.prog.bytesOf 5 = 1 := by kernel_rfl
theorem bytes65 : Try.prog.bytesOf 65 = 48 := by kernel_rfl

set_option maxRecDepth 100000 in
theorem lifted (os : Os) (started : os.Started) (H : Type) (enc : TypeId × Value → H) :
    ReturnsInHanded {} Try.checked os 3 .any (Rows.framesTellsSpec.pre6 enc Try.prog Try.f3 Rows.framesTellsRow.domain false) (Rows.framesTellsSpec.post enc Try.prog Try.f3 false true false false) := by
  refine returnsInHanded_of_change_sized (C := Try.checked) own started (by kernel_rfl) Try.func3
    (ChangeSpec.witness6 (enc := enc) (C := Try.checked) false ⟨#[], #[.agg #[.int .i64 0, .string ⟨#[]⟩, .int .i64 0, .slice none 0 0, .slice none 0 0], .agg #[.int .i64 0, .int .i64 0, .int .i64 0, .int .i64 0, .slice none 0 0, .slice none 0 0], .slice none 0 0], []⟩ 8 (by kernel_rfl) (by kernel_rfl) (by kernel_rfl) (by kernel_rfl)) ?_
  intro W base args ds gs before hval0 hW _ hsz0 _
  have hsz : (DataW.weightsEach Try.prog (Try.f3.params.toList ++ Rows.framesTellsSpec.plain.varTypes Try.prog) (ds ++ gs)).all (· ≤ reachBytes) = true := hsz0
  clear hsz0
  have hval : ∀ (j : Nat) t v, Try.f3.params[j]? = some t → args[j]? = some v → Value.okWide Try.prog W .any base t v := hval0
  have hW' := hW
  obtain ⟨p, q, hA0, hV, rfl, hfz, hnd⟩ := hW
  have hA : DataW.TrodAll enc Try.prog W 0 (fun _ => true) true Try.f3.params.toList args.toList ds p := hA0
  rw [Try.params3] at hA hval hsz
  obtain ⟨v0, vs0, d0, ds0, p0, q0, hargs, rfl, rfl, h0, r0⟩ := trodAll_cons hA
  obtain ⟨v1, vs1, d1, ds1, p1, q1, rfl, rfl, rfl, h1, r1⟩ := trodAll_cons r0
  obtain ⟨v2, vs2, d2, ds2, p2, q2, rfl, rfl, rfl, h2, r2⟩ := trodAll_cons r1
  obtain ⟨rfl, rfl, rfl⟩ := trodAll_nil r2
  obtain rfl : args = #[v0, v1, v2] := by cases args; simp_all
  obtain ⟨rfl, rfl⟩ := trodVars_none hV
  have k0 := h0
  have k1 := h1
  have k2 := h2
  have lt0 : ∀ x ∈ p0, x.block < W.heap.size := by obtain ⟨m, hm⟩ := k0; exact DataW.trod_lt m _ _ _ hm
  have lt1 : ∀ x ∈ p1, x.block < W.heap.size := by obtain ⟨m, hm⟩ := k1; exact DataW.trod_lt m _ _ _ hm
  have lt2 : ∀ x ∈ p2, x.block < W.heap.size := by obtain ⟨m, hm⟩ := k2; exact DataW.trod_lt m _ _ _ hm
  obtain ⟨k, n, qq, c0, c1, ps, body, x0, x1, x2, z0, z1, hv0, hqs, hps, hfit, hbody, hd0, hpd, hbd0⟩ := open_ask v0 d0 p0 (hval 0 27 v0 rfl rfl) h0
  obtain ⟨k', n', m', e', c2, c3, ps', body', u0, u1, u2, u3, z2, z3, hv1, hps', hfit', hbody', hd1, hpd', hbd1⟩ := open_say v1 d1 p1 (hval 1 30 v1 rfl rfl) h1
  obtain ⟨a1, len1, cap1, rfl⟩ := okWide_slice Try.underlying23 (hval 2 23 v2 rfl rfl)
  obtain ⟨fuel, hf2⟩ := h2
  obtain ⟨b, hb, hbd⟩ := open_body (.slice a1 len1 cap1) fuel _ (by simpa [Value.cells] using hf2)
  have l1 : ps.length ≤ 140737488355328 := by
    rcases hpd with rfl | ⟨el, spr, e1, e2⟩
    · simp
    · have := sized_part2 hsz (j := 0) (i := 3) (i2 := 0) (t := 27) (tm := 25) (e := 65) (tf := 22) (elems := el) (spare := spr) (parts2 := [z0, z1]) rfl (by rw [hd0]; rfl) Try.underlying27 rfl rfl Try.underlying25 rfl (by rw [e1]; rfl) Try.underlying22
      rw [bytes65] at this
      simp only [reachBytes] at this
      omega
  have l2 : body.length ≤ 140737488355328 := by
    rcases hbd0 with rfl | ⟨el, spr, e1, e2⟩
    · simp
    · have := sized_part2 hsz (j := 0) (i := 3) (i2 := 1) (t := 27) (tm := 25) (e := 5) (tf := 23) (elems := el) (spare := spr) (parts2 := [z0, z1]) rfl (by rw [hd0]; rfl) Try.underlying27 rfl rfl Try.underlying25 rfl (by rw [e1]; rfl) Try.underlying23
      rw [bytes5] at this
      simp only [reachBytes] at this
      omega
  have l3 : ps'.length ≤ 140737488355328 := by
    rcases hpd' with rfl | ⟨el, spr, e1, e2⟩
    · simp
    · have := sized_part2 hsz (j := 1) (i := 4) (i2 := 0) (t := 30) (tm := 25) (e := 65) (tf := 22) (elems := el) (spare := spr) (parts2 := [z2, z3]) rfl (by rw [hd1]; rfl) Try.underlying30 rfl rfl Try.underlying25 rfl (by rw [e1]; rfl) Try.underlying22
      rw [bytes65] at this
      simp only [reachBytes] at this
      omega
  have l4 : body'.length ≤ 140737488355328 := by
    rcases hbd1 with rfl | ⟨el, spr, e1, e2⟩
    · simp
    · have := sized_part2 hsz (j := 1) (i := 4) (i2 := 1) (t := 30) (tm := 25) (e := 5) (tf := 23) (elems := el) (spare := spr) (parts2 := [z2, z3]) rfl (by rw [hd1]; rfl) Try.underlying30 rfl rfl Try.underlying25 rfl (by rw [e1]; rfl) Try.underlying23
      rw [bytes5] at this
      simp only [reachBytes] at this
      omega
  subst hv0 hv1
  clear hA0 hval0
  refine (tells_any ⟨k, qq, n, ps, body⟩ ⟨k', n', m', e', ps', body'⟩ c0 c1 c2 c3 (.slice a1 len1 cap1) b W hps hbody hps' hbody' hb hqs hfit hfit' l1 l2 l3 l4).mono fun e W' ⟨he, bel⟩ => ?_
  subst he
  exact ⟨_, rfl, _, _, _, [], _, [], hW', trodAll_mk1 (shut_bool Try.underlying4 _), (trodAll_cons_mk (Below.trod laidOut (by kernel_rfl) (of_decide_eq_true (by kernel_rfl)) k0 bel lt0) (trodAll_cons_mk (Below.trod laidOut (by kernel_rfl) (of_decide_eq_true (by kernel_rfl)) k1 bel lt1) (trodAll_cons_mk (Below.trod laidOut (by kernel_rfl) (of_decide_eq_true (by kernel_rfl)) k2 bel lt2) trodAll_mk0))), rfl, bel.frame _, fun h => by cases h⟩
end FTells

theorem framesTells_holds : Rows.FramesTellsSaid :=
  OpenClaim.holds_of_wide 3 Try.f3 rfl rfl rfl rfl rfl rfl rfl ⟨rfl, rfl, rfl, rfl, rfl⟩ rfl rfl rfl rfl rfl (by kernel_rfl) Try.func3 (by kernel_rfl)
    (of_decide_eq_true (by kernel_rfl)) (by unfold Func.isWrapper; first | (rw [if_pos (by decide +kernel)]; kernel_rfl) | (rw [if_neg (by decide +kernel)]; exact ⟨rfl, rfl⟩))
    (fun os started H enc _ => FTells.lifted os started H enc)

#print axioms framesTells_holds
end Go.Proofs.Ytnfmidbbelgldaa
