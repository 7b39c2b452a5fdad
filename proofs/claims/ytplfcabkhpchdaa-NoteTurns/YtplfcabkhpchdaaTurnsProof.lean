/-
  For every note n and all bytes b, of whatever size the form lets an argument have, tglaw1.NoteTurns(n, b) returns true, and both arguments read behind the call as they did before it. No condition beside the form's own.
-/
import Derived.Test.YtplfcabkhpchdaaTurns
import Derived.Test.YtplfcabkhpchdaaOpen
import Derived.ShutString
import Derived.ChangeOld
import Derived.SizedLaws
namespace Go.Proofs.Ytplfcabkhpchdaa
open Go.ChangeShapes Go.WideShapes Go.ChangeAt Go.RowKit Go.Joins
set_option linter.unusedVariables false
set_option linter.unusedSimpArgs false

theorem own : ownKnob Try.prog.godebug = none := by kernel_rfl
theorem laidOut : laidOutB Try.prog = true := by kernel_rfl
theorem bytes5 : Try.prog.bytesOf 5 = 1 := by kernel_rfl

theorem turns_any (v u bv : Value) (ps : List PD) (body b : List UInt8) (w : World) (hv : SliceP w.heap.size w v ps) (hu : SliceB w.heap.size w u body) (hb : SliceB w.heap.size w bv b) (hf : ∀ p ∈ ps, p.fits) (hbl : b.length ≤ 140737488351232) :
    Calls Try.prog 4 #[.agg #[v, u], bv] w fun e w' => e = .returned (.bool true) ∧ Below w.heap.size w w' := by
  by_cases hw : wrongN ps body.length = 0
  · by_cases he : (parseF b).1 = 0
    · exact turns_right2 v u bv ps body b w hv hu hb hf hbl hw he
    · exact turns_right v u bv ps body b w hv hu hb hf hbl hw he
  · by_cases he : (parseF b).1 = 0
    · exact turns_wrong2 v u bv ps body b w hv hu hb hf hbl hw he
    · exact turns_wrong v u bv ps body b w hv hu hb hf hbl hw he

set_option maxRecDepth 100000 in
theorem lifted (os : Os) (started : os.Started) (H : Type) (enc : TypeId × Value → H) :
    ReturnsInHanded {} Try.checked os 4 .any (Rows.noteTurnsSpec.pre6 enc Try.prog Try.f4 Rows.noteTurnsRow.domain false) (Rows.noteTurnsSpec.post enc Try.prog Try.f4 false true false false) := by
  refine returnsInHanded_of_change_sized (C := Try.checked) own started (by kernel_rfl) Try.func4
    (ChangeSpec.witness6 (enc := enc) (C := Try.checked) false ⟨#[], #[.agg #[.slice none 0 0, .slice none 0 0], .slice none 0 0], []⟩ 8 (by kernel_rfl) (by kernel_rfl) (by kernel_rfl) (by kernel_rfl)) ?_
  intro W base args ds gs before hval0 hW _ hsz0 _
  have hsz : (DataW.weightsEach Try.prog (Try.f4.params.toList ++ Rows.noteTurnsSpec.plain.varTypes Try.prog) (ds ++ gs)).all (· ≤ reachBytes) = true := hsz0
  clear hsz0
  have hval : ∀ (j : Nat) t v, Try.f4.params[j]? = some t → args[j]? = some v → Value.okWide Try.prog W .any base t v := hval0
  have hW' := hW
  obtain ⟨p, q, hA0, hV, rfl, hfz, hnd⟩ := hW
  have hA : DataW.TrodAll enc Try.prog W 0 (fun _ => true) true Try.f4.params.toList args.toList ds p := hA0
  rw [Try.params4] at hA hval hsz
  obtain ⟨v0, vs0, d0, ds0, p0, q0, hargs, rfl, rfl, h0, r0⟩ := trodAll_cons hA
  obtain ⟨v1, vs1, d1, ds1, p1, q1, rfl, rfl, rfl, h1, r1⟩ := trodAll_cons r0
  obtain ⟨rfl, rfl, rfl⟩ := trodAll_nil r1
  obtain rfl : args = #[v0, v1] := by cases args; simp_all
  obtain ⟨rfl, rfl⟩ := trodVars_none hV
  have k0 := h0
  have k1 := h1
  have lt0 : ∀ x ∈ p0, x.block < W.heap.size := by obtain ⟨m, hm⟩ := k0; exact DataW.trod_lt m _ _ _ hm
  have lt1 : ∀ x ∈ p1, x.block < W.heap.size := by obtain ⟨m, hm⟩ := k1; exact DataW.trod_lt m _ _ _ hm
  obtain ⟨c0, c1, y0, y1, m, hv0, hd0, hp0, t0, t1⟩ := open_agg2 Try.underlying25 (by kernel_rfl) cells25 (hval 0 25 v0 rfl rfl) h0
  subst hv0
  obtain ⟨ps, hps, hfit, _⟩ := open_props c0 m y0 t0
  obtain ⟨body, hbody, _⟩ := open_body c1 m y1 t1
  obtain ⟨a1, len1, cap1, rfl⟩ := okWide_slice Try.underlying23 (hval 1 23 v1 rfl rfl)
  obtain ⟨fuel, hf1⟩ := h1
  obtain ⟨b, hb, hbd⟩ := open_body (.slice a1 len1 cap1) fuel _ (by simpa [Value.cells] using hf1)
  have hbl : b.length ≤ 140737488351232 := by
    rcases hbd with rfl | ⟨el, spr, e1, e2⟩
    · simp
    · simp only at e1
      subst e1
      have := sized_slice hsz (j := 1) (t := 23) (e := 5) rfl rfl Try.underlying23
      rw [bytes5] at this
      simp only [reachBytes] at this
      omega
  clear hA0 hval0
  refine (turns_any c0 c1 (.slice a1 len1 cap1) ps body b W hps hbody hb hfit hbl).mono fun e W' ⟨he, bel⟩ => ?_
  subst he
  exact ⟨_, rfl, _, _, _, [], _, [], hW', trodAll_mk1 (shut_bool Try.underlying4 _), (trodAll_cons_mk (Below.trod laidOut (by kernel_rfl) (of_decide_eq_true (by kernel_rfl)) k0 bel lt0) (trodAll_cons_mk (Below.trod laidOut (by kernel_rfl) (of_decide_eq_true (by kernel_rfl)) k1 bel lt1) trodAll_mk0)), rfl, bel.frame _, fun h => by cases h⟩

theorem noteTurns_holds : Rows.NoteTurnsSaid :=
  OpenClaim.holds_of_wide 4 Try.f4 rfl rfl rfl rfl rfl rfl rfl ⟨rfl, rfl, rfl, rfl, rfl⟩ rfl rfl rfl rfl rfl (by kernel_rfl) Try.func4 (by kernel_rfl)
    (of_decide_eq_true (by kernel_rfl)) (by unfold Func.isWrapper; first | (rw [if_pos (by decide +kernel)]; kernel_rfl) | (rw [if_neg (by decide +kernel)]; exact ⟨rfl, rfl⟩))
    (fun os started H enc _ => lifted os started H enc)

#print axioms noteTurns_holds
end Go.Proofs.Ytplfcabkhpchdaa
