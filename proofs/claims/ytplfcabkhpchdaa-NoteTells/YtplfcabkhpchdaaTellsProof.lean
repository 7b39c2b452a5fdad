/-
  For all notes n and m, every text s and all bytes b, of whatever size the form lets an argument have, tglaw1.NoteTells(n, m, s, b) returns true, and all four arguments read behind the call as they did before it. No condition beside the form's own.
-/
import Derived.Test.YtplfcabkhpchdaaTells
import Derived.Test.YtplfcabkhpchdaaOpen
import Derived.ShutString
import Derived.ChangeOld
import Derived.SizedLaws
namespace Go.Proofs.Ytplfcabkhpchdaa
open Go.ChangeShapes Go.WideShapes Go.ChangeAt Go.RowKit Go.Joins
set_option linter.unusedVariables false
set_option linter.unusedSimpArgs false

namespace Tells
theorem own : ownKnob Try.prog.godebug = none := by kernel_rfl
theorem laidOut : laidOutB Try.prog = true := by kernel_rfl
theorem bytes5 : Try.prog.bytesOf 5 = 1 := by kernel_rfl
theorem bytes38 : Try.prog.bytesOf 38 = 48 := by kernel_rfl

/-- The form's own reach, of a slice that is a struct's field. -/
theorem sized_part {H : Type} {P : Program} {ts : List TypeId} {ds : List (DataW H)} (h : (DataW.weightsEach P ts ds).all (· ≤ reachBytes) = true) {j i : Nat} {t e tf : TypeId} {fs : Array Field} {parts elems spare : List (DataW H)}
    (ht : ts[j]? = some t) (hd : ds[j]? = some (.agg parts)) (hu : P.underlying t = some (.struct fs)) (hf : (fs.toList.map (·.type))[i]? = some tf) (hp : parts[i]? = some (.slice elems spare)) (hs : P.underlying tf = some (.slice e)) : (elems.length + spare.length) * P.bytesOf e ≤ reachBytes := by
  refine of_decide_eq_true (List.all_eq_true.1 h _ (DataW.weights_mem_each ht hd _ ?_))
  simp only [DataW.weights, hu]
  exact DataW.weights_mem_each hf hp _ (by simp [DataW.weights, hs])

set_option maxRecDepth 100000 in
theorem lifted (os : Os) (started : os.Started) (H : Type) (enc : TypeId × Value → H) :
    ReturnsInHanded {} Try.checked os 3 .any (Rows.noteTellsSpec.pre6 enc Try.prog Try.f3 Rows.noteTellsRow.domain false) (Rows.noteTellsSpec.post enc Try.prog Try.f3 false true false false) := by
  refine returnsInHanded_of_change_sized (C := Try.checked) own started (by kernel_rfl) Try.func3
    (ChangeSpec.witness6 (enc := enc) (C := Try.checked) false ⟨#[], #[.agg #[.slice none 0 0, .slice none 0 0], .agg #[.slice none 0 0, .slice none 0 0], .string ⟨#[]⟩, .slice none 0 0], []⟩ 8 (by kernel_rfl) (by kernel_rfl) (by kernel_rfl) (by kernel_rfl)) ?_
  intro W base args ds gs before hval0 hW _ hsz0 _
  have hsz : (DataW.weightsEach Try.prog (Try.f3.params.toList ++ Rows.noteTellsSpec.plain.varTypes Try.prog) (ds ++ gs)).all (· ≤ reachBytes) = true := hsz0
  clear hsz0
  have hval : ∀ (j : Nat) t v, Try.f3.params[j]? = some t → args[j]? = some v → Value.okWide Try.prog W .any base t v := hval0
  have hW' := hW
  obtain ⟨p, q, hA0, hV, rfl, hfz, hnd⟩ := hW
  have hA : DataW.TrodAll enc Try.prog W 0 (fun _ => true) true Try.f3.params.toList args.toList ds p := hA0
  rw [Try.params3] at hA hval hsz
  obtain ⟨v0, vs0, d0, ds0, p0, q0, hargs, rfl, rfl, h0, r0⟩ := trodAll_cons hA
  obtain ⟨v1, vs1, d1, ds1, p1, q1, rfl, rfl, rfl, h1, r1⟩ := trodAll_cons r0
  obtain ⟨v2, vs2, d2, ds2, p2, q2, rfl, rfl, rfl, h2, r2⟩ := trodAll_cons r1
  obtain ⟨v3, vs3, d3, ds3, p3, q3, rfl, rfl, rfl, h3, r3⟩ := trodAll_cons r2
  obtain ⟨rfl, rfl, rfl⟩ := trodAll_nil r3
  obtain rfl : args = #[v0, v1, v2, v3] := by cases args; simp_all
  obtain ⟨rfl, rfl⟩ := trodVars_none hV
  have k0 := h0
  have k1 := h1
  have k2 := h2
  have k3 := h3
  have lt0 : ∀ x ∈ p0, x.block < W.heap.size := by obtain ⟨m, hm⟩ := k0; exact DataW.trod_lt m _ _ _ hm
  have lt1 : ∀ x ∈ p1, x.block < W.heap.size := by obtain ⟨m, hm⟩ := k1; exact DataW.trod_lt m _ _ _ hm
  have lt2 : ∀ x ∈ p2, x.block < W.heap.size := by obtain ⟨m, hm⟩ := k2; exact DataW.trod_lt m _ _ _ hm
  have lt3 : ∀ x ∈ p3, x.block < W.heap.size := by obtain ⟨m, hm⟩ := k3; exact DataW.trod_lt m _ _ _ hm
  obtain ⟨c0, c1, y0, y1, m, hv0, hd0, hp0, t0, t1⟩ := open_agg2 Try.underlying25 (by kernel_rfl) cells25 (hval 0 25 v0 rfl rfl) h0
  obtain ⟨c2, c3, y2, y3, m', hv1, hd1, hp1, t2, t3⟩ := open_agg2 Try.underlying25 (by kernel_rfl) cells25 (hval 1 25 v1 rfl rfl) h1
  subst hv0 hv1
  obtain ⟨ps, hps, hfit, hpd⟩ := open_props c0 m y0 t0
  obtain ⟨x, hx, hxd⟩ := open_body c1 m y1 t1
  obtain ⟨qs, hqs, _, _⟩ := open_props c2 m' y2 t2
  obtain ⟨y, hy, _⟩ := open_body c3 m' y3 t3
  obtain ⟨s, rfl⟩ := okWide_string Try.underlying9 (hval 2 9 v2 rfl rfl)
  obtain ⟨fuel2, hf2⟩ := h2
  obtain ⟨s', es, _, hsl⟩ := DataW.trod_string Try.underlying9 (by simpa [Value.cells] using hf2)
  simp only [List.cons.injEq, and_true, Value.string.injEq] at es
  subst es
  obtain ⟨a1, len1, cap1, rfl⟩ := okWide_slice Try.underlying23 (hval 3 23 v3 rfl rfl)
  obtain ⟨fuel, hf3⟩ := h3
  obtain ⟨b, hb, hbd⟩ := open_body (.slice a1 len1 cap1) fuel _ (by simpa [Value.cells] using hf3)
  have hbl : b.length ≤ 140737488351232 := by
    rcases hbd with rfl | ⟨el, spr, e1, e2⟩
    · simp
    · simp only at e1
      subst e1
      have := sized_slice hsz (j := 3) (t := 23) (e := 5) rfl rfl Try.underlying23
      rw [bytes5] at this
      simp only [reachBytes] at this
      omega
  have hpl : ps.length * 48 ≤ 140737488355328 := by
    rcases hpd with rfl | ⟨el, spr, e1, e2⟩
    · simp
    · have := sized_part hsz (j := 0) (i := 0) (t := 25) (e := 38) (tf := 22) (elems := el) (spare := spr) rfl (by rw [hd0]; rfl) Try.underlying25 rfl (by rw [e1]; rfl) Try.underlying22
      rw [bytes38] at this
      simp only [reachBytes] at this
      omega
  have hxl : x.length ≤ 140737488355328 := by
    rcases hxd with rfl | ⟨el, spr, e1, e2⟩
    · simp
    · have := sized_part hsz (j := 0) (i := 1) (t := 25) (e := 5) (tf := 23) (elems := el) (spare := spr) rfl (by rw [hd0]; rfl) Try.underlying25 rfl (by rw [e1]; rfl) Try.underlying23
      rw [bytes5] at this
      simp only [reachBytes] at this
      omega
  clear hA0 hval0
  refine (tells_any c0 c1 c2 c3 (.slice a1 len1 cap1) ps qs s x y b W hps hx hqs hy hb hfit hsl hpl hxl hbl).mono fun e W' ⟨he, bel⟩ => ?_
  subst he
  exact ⟨_, rfl, _, _, _, [], _, [], hW', trodAll_mk1 (shut_bool Try.underlying4 _), (trodAll_cons_mk (Below.trod laidOut (by kernel_rfl) (of_decide_eq_true (by kernel_rfl)) k0 bel lt0) (trodAll_cons_mk (Below.trod laidOut (by kernel_rfl) (of_decide_eq_true (by kernel_rfl)) k1 bel lt1) (trodAll_cons_mk (Below.trod laidOut (by kernel_rfl) (of_decide_eq_true (by kernel_rfl)) k2 bel lt2) (trodAll_cons_mk (Below.trod laidOut (by kernel_rfl) (of_decide_eq_true (by kernel_rfl)) k3 bel lt3) trodAll_mk0)))), rfl, bel.frame _, fun h => by cases h⟩
end Tells

theorem noteTells_holds : Rows.NoteTellsSaid :=
  OpenClaim.holds_of_wide 3 Try.f3 rfl rfl rfl rfl rfl rfl rfl ⟨rfl, rfl, rfl, rfl, rfl⟩ rfl rfl rfl rfl rfl (by kernel_rfl) Try.func3 (by kernel_rfl)
    (of_decide_eq_true (by kernel_rfl)) (by unfold Func.isWrapper; first | (rw [if_pos (by decide +kernel)]; kernel_rfl) | (rw [if_neg (by decide +kernel)]; exact ⟨rfl, rfl⟩))
    (fun os started H enc _ => Tells.lifted os started H enc)

#print axioms noteTells_holds
end Go.Proofs.Ytplfcabkhpchdaa
