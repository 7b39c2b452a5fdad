/-
  note.Parse's note lies in memory that it made.
-/
import Derived.Test.YtnfmidbbelgldaaParse
namespace Go.Proofs.Ytnfmidbbelgldaa
open Go.RowKit
set_option linter.unusedVariables false
set_option linter.unusedSimpArgs false

def FreshV (B : Nat) (v : Value) : Prop := ∀ k, v.ownBlock = some k → B ≤ k
theorem fresh_nil (B : Nat) : FreshV B (.slice none 0 0) := fun k hk => by simp [Value.ownBlock] at hk

/-- What lies at or behind F is left by what changes nothing there. -/
theorem SliceP.from_ {B F : Nat} {w w' : World} {v : Value} {ps : List PD} (h : SliceP B w v ps) (hf : FreshV F v) (hb : ∀ k, F ≤ k → k < B → w'.heap[k]? = w.heap[k]?) : SliceP B w' v ps := by
  obtain ⟨a, cap, rfl, h1, h2, hn, h3⟩ := h
  refine ⟨a, cap, rfl, h1, h2, hn, fun i hi => ?_⟩
  obtain ⟨b, off, rfl, hlt, g0, g1, g2, g3⟩ := h3 i hi
  have hc : ∀ o, w'.cell? ⟨b, o, none⟩ = w.cell? ⟨b, o, none⟩ := fun o => World.cell?_of_block (hb b (hf b rfl) hlt)
  exact ⟨b, off, rfl, hlt, (hc _).trans g0, (hc _).trans g1, (hc _).trans g2, (hc _).trans g3⟩
theorem SliceB.from_ {B F : Nat} {w w' : World} {v : Value} {bs : List UInt8} (h : SliceB B w v bs) (hf : FreshV F v) (hb : ∀ k, F ≤ k → k < B → w'.heap[k]? = w.heap[k]?) : SliceB B w' v bs := by
  obtain ⟨a, cap, rfl, h1, h2, hn, h3⟩ := h
  refine ⟨a, cap, rfl, h1, h2, hn, fun i hi => ?_⟩
  obtain ⟨b, off, rfl, hlt, g0⟩ := h3 i hi
  exact ⟨b, off, rfl, hlt, (World.cell?_of_block (hb b (hf b rfl) hlt)).trans g0⟩
theorem FreshV.mono {B B' : Nat} {v : Value} (h : FreshV B v) (hb : B' ≤ B) : FreshV B' v := fun k hk => Nat.le_trans hb (h k hk)

set_option maxHeartbeats 1600000 in
theorem parse_fresh (a : Option Addr) (cap : Nat) (b : List UInt8) (w : World) (hb : SliceB w.heap.size w (.slice a b.length cap) b) :
    Calls Try.prog 57 #[.slice a b.length cap] w fun e w' => ∃ v u, e = .returned (.tuple #[.agg #[v, u], .int .i64 (parseF b).2.2.2, .int .i64 (parseF b).1]) ∧
      SliceP w'.heap.size w' v (parseF b).2.1 ∧ SliceB w'.heap.size w' u (parseF b).2.2.1 ∧ Below w.heap.size w w' ∧ FreshV w.heap.size v ∧ FreshV w.heap.size u := by
  have hb' := hb
  obtain ⟨_, _, e0, hcap, hmax, hnil, hbs⟩ := hb'
  simp only [Value.slice.injEq] at e0
  obtain ⟨rfl, -, rfl⟩ := e0
  have HN : Hid (a = none → cap = 0) := hnil
  clear hnil
  unfold maxLen at hmax
  have rd0 := rd_start w a b cap hb
  obtain ⟨q, hq⟩ : ∃ q, q = sizeF (b, false) := ⟨_, rfl⟩
  have HQ : Hid (q = sizeF (b, false)) := hq
  have hsz : ∀ W, Rd W (w.heap.size + 1) (b, false) → Calls Try.prog 60 #[.pointer (some ⟨w.heap.size + 1, 0, none⟩)] W fun e w' => e = .returned (.int .i64 q.1) ∧ Rd w' (w.heap.size + 1) q.2 ∧ W.grownBy w' (some (w.heap.size + 1)) := by
    rw [hq]; exact fun W h => size_any _ _ _ h
  clear hq
  obtain ⟨q1, q2, q3⟩ := q
  simp only at hsz
  cases q3 with
  | true =>
    have hP : Hid (parseF b = (9, [], [], 0)) := by show parseF b = _; rw [parseF, ← HQ.out]; rfl
    go_enter Try.func57, Try.ntmps57
    go_wp2_with (go_at_call 60; refine (hsz _ ?_).mono ?_; (exact rd0 _); rintro e w1 ⟨rfl, hr1, hg1⟩; obtain ⟨v1, g1, g2, g3, g4, g5⟩ := id hr1; have n1 := note0 hg1; have p1 := n1.c0; have p2 := n1.c1; have p3 := n1.f)
    refine bodyPost_ret (v := .tuple #[.agg #[.slice none 0 0, .slice none 0 0], .int .i64 0, .int .i64 9]) (by simp [results, Try.results57, go_sem, *]) rfl ?_
    rw [hP.out]
    exact ⟨_, _, rfl, SliceP.nil _ _, SliceB.nil _ _, ((below_rd hg1).setCell (by simp) _).setCell (by simp) _, fresh_nil _, fresh_nil _⟩
  | false =>
    by_cases h4 : 4 < q1
    · have hP : Hid (parseF b = (5, [], [], 0)) := by show parseF b = _; rw [parseF, ← HQ.out]; simp [h4]
      go_enter Try.func57, Try.ntmps57
      go_wp2_with (go_at_call 60; refine (hsz _ ?_).mono ?_; (exact rd0 _); rintro e w1 ⟨rfl, hr1, hg1⟩; obtain ⟨v1, g1, g2, g3, g4, g5⟩ := id hr1; have n1 := note0 hg1; have p1 := n1.c0; have p2 := n1.c1; have p3 := n1.f)
      refine bodyPost_ret (v := .tuple #[.agg #[.slice none 0 0, .slice none 0 0], .int .i64 0, .int .i64 5]) (by simp [results, Try.results57, go_sem, *]) rfl ?_
      rw [hP.out]
      exact ⟨_, _, rfl, SliceP.nil _ _, SliceB.nil _ _, ((below_rd hg1).setCell (by simp) _).setCell (by simp) _, fresh_nil _, fresh_nil _⟩
    · obtain ⟨N, hN⟩ : ∃ N, N = noteF q1 (q2, false) := ⟨_, rfl⟩
      have HM : Hid (N = noteF q1 (q2, false)) := hN
      have hps : N.1.length = q1 := by rw [hN]; exact propsF_len _ _
      have hfit : ∀ p ∈ N.1, p.fits := by rw [hN]; exact propsF_fits _ _
      have hbl : N.2.1.length ≤ 255 := by rw [hN]; exact Nat.le_trans (takeF_le _ _) (sizeF_le _)
      have hnt : ∀ W, Rd W (w.heap.size + 1) (q2, false) → Calls Try.prog 61 #[.pointer (some ⟨w.heap.size + 1, 0, none⟩), .int .i64 q1] W fun e w' => ∃ v u, e = .returned (.agg #[v, u]) ∧ W.heap.size = W.heap.size ∧ w'.ownsRow W.heap.size 65 4 v q1 (cellsL N.1) ∧ w'.ownsRow W.heap.size 5 1 u N.2.1.length (u8s N.2.1) ∧ Rd w' (w.heap.size + 1) N.2.2 ∧ W.grownBy w' (some (w.heap.size + 1)) := by
        rw [hN]
        intro W h
        refine (note_any _ q1 (by omega) _ W h).mono ?_
        rintro e w' ⟨v, u, h1, h2, h3, h4, h5⟩
        exact ⟨v, u, h1, rfl, h2, h3, h4, h5⟩
      clear hN
      obtain ⟨ps, body, rest, sh⟩ := N
      simp only at hps hfit hbl hnt
      cases sh with
      | true =>
        have hP : Hid (parseF b = (9, [], [], 0)) := by show parseF b = _; rw [parseF, ← HQ.out]; simp [h4, ← HM.out]
        go_enter Try.func57, Try.ntmps57
        go_wp2_with (first
          | (go_at_call 60; refine (hsz _ ?_).mono ?_; (exact rd0 _); rintro e w1 ⟨rfl, hr1, hg1⟩; obtain ⟨v1, g1, g2, g3, g4, g5⟩ := id hr1; have n1 := note0 hg1; have p1 := n1.c0; have p2 := n1.c1; have p3 := n1.f; have hz1 : w.heap.size + 1 < w1.heap.size := hr1.lt)
          | (go_at_call 61; refine (hnt _ ?_).mono ?_; (exact hr1); rintro e w2 ⟨v, u, rfl, -, hv, hu, hr2, hg2⟩; obtain ⟨va, vc, rfl, _⟩ := own_shape hv; obtain ⟨ua, uc, rfl, _⟩ := own_shape hu; obtain ⟨v2, y1, y2, y3, y4, y5⟩ := id hr2; obtain ⟨_, rc, rfl, _⟩ := id y2; have n2 := n1.grown hg2 (by simp); have x1 := n2.c0; have x2 := n2.c1; have x3 := n2.f; have hz2 : w.heap.size + 1 < w2.heap.size := hr2.lt; have hz3 : w.heap.size < w2.heap.size := (by omega)))
        refine bodyPost_ret (v := .tuple #[.agg #[.slice none 0 0, .slice none 0 0], .int .i64 0, .int .i64 9]) (by simp [results, Try.results57, go_sem, *]) rfl ?_
        rw [hP.out]
        exact ⟨_, _, rfl, SliceP.nil _ _, SliceB.nil _ _, ((((below_rd hg1).grown hg2 (by omega) (fun k hk => by simp at hk; omega)).setCell (by simp) _).setCell (by simp) _).alloc (by simp; omega) _, fresh_nil _, fresh_nil _⟩
      | false =>
        cases hw : (wrongN ps body.length == 0) with
        | false =>
          have hP : Hid (parseF b = (wrongN ps body.length, [], [], 0)) := by show parseF b = _; rw [parseF, ← HQ.out]; simp [h4, ← HM.out, hw]
          go_enter Try.func57, Try.ntmps57
          go_wp2_with (first
            | (go_at_call 60; refine (hsz _ ?_).mono ?_; (exact rd0 _); rintro e w1 ⟨rfl, hr1, hg1⟩; obtain ⟨v1, g1, g2, g3, g4, g5⟩ := id hr1; have n1 := note0 hg1; have p1 := n1.c0; have p2 := n1.c1; have p3 := n1.f; have hz1 : w.heap.size + 1 < w1.heap.size := hr1.lt)
            | (go_at_call 61; refine (hnt _ ?_).mono ?_; (exact hr1); rintro e w2 ⟨v, u, rfl, -, hv, hu, hr2, hg2⟩; obtain ⟨va, vc, rfl, _⟩ := own_shape hv; obtain ⟨ua, uc, rfl, _⟩ := own_shape hu; obtain ⟨v2, y1, y2, y3, y4, y5⟩ := id hr2; obtain ⟨_, rc, rfl, _⟩ := id y2; have n2 := n1.grown hg2 (by simp); have x1 := n2.c0; have x2 := n2.c1; have x3 := n2.f; have hz2 : w.heap.size + 1 < w2.heap.size := hr2.lt; have hz3 : w.heap.size < w2.heap.size := (by omega))
            | (go_at_call 23; refine (wrong_any' va q1 vc ps ua body.length uc _ hps ?_ hfit (by unfold maxLen; omega) (by unfold maxLen; omega)).mono ?_; (exact props_new hps hv _); rintro e w3 ⟨rfl, hb3⟩; obtain ⟨t1, t2⟩ := bcell hb3; have n3 := note_below n2 hb3; have r1 := n3.c0; have r2 := n3.c1; have r3 := n3.f))
          refine bodyPost_ret (v := .tuple #[.agg #[.slice none 0 0, .slice none 0 0], .int .i64 0, .int .i64 (wrongN ps body.length)]) (by simp [results, Try.results57, go_sem, *]) rfl ?_
          rw [hP.out]
          exact ⟨_, _, rfl, SliceP.nil _ _, SliceB.nil _ _, ((((((below_rd hg1).grown hg2 (by omega) (fun k hk => by simp at hk; omega)).alloc (by omega) _).trans (hb3.mono (by simp; omega))).setCell (by simp) _).setCell (by simp) _), fresh_nil _, fresh_nil _⟩
        | true =>
          have hP : Hid (parseF b = (0, ps, body, b.length - rest.length)) := by show parseF b = _; rw [parseF, ← HQ.out]; simp [h4, ← HM.out, hw]
          have hw0 : wrongN ps body.length = 0 := eqb hw
          have hrl : rest.length ≤ b.length := by
            have h1 := noteF_rest q1 (q2, false)
            have h2 := sizeF_rest (b, false)
            rw [← HM.out] at h1
            rw [← HQ.out] at h2
            simp only at h1 h2
            omega
          go_enter Try.func57, Try.ntmps57
          go_wp2_with (first
            | (go_at_call 60; refine (hsz _ ?_).mono ?_; (exact rd0 _); rintro e w1 ⟨rfl, hr1, hg1⟩; obtain ⟨v1, g1, g2, g3, g4, g5⟩ := id hr1; have n1 := note0 hg1; have p1 := n1.c0; have p2 := n1.c1; have p3 := n1.f; have hz1 : w.heap.size + 1 < w1.heap.size := hr1.lt)
            | (go_at_call 61; refine (hnt _ ?_).mono ?_; (exact hr1); rintro e w2 ⟨v, u, rfl, -, hv, hu, hr2, hg2⟩; obtain ⟨va, vc, rfl, _⟩ := own_shape hv; obtain ⟨ua, uc, rfl, _⟩ := own_shape hu; obtain ⟨v2, y1, y2, y3, y4, y5⟩ := id hr2; obtain ⟨_, rc, rfl, _⟩ := id y2; have n2 := n1.grown hg2 (by simp); have x1 := n2.c0; have x2 := n2.c1; have x3 := n2.f; have hz2 : w.heap.size + 1 < w2.heap.size := hr2.lt; have hz3 : w.heap.size < w2.heap.size := (by omega))
            | (go_at_call 23; refine (wrong_any' va q1 vc ps ua body.length uc _ hps ?_ hfit (by unfold maxLen; omega) (by unfold maxLen; omega)).mono ?_; (exact props_new hps hv _); rintro e w3 ⟨rfl, hb3⟩; obtain ⟨t1, t2⟩ := bcell hb3; have n3 := note_below n2 hb3; have r1 := n3.c0; have r2 := n3.c1; have r3 := n3.f))
          go_region
          all_goals go_wp2
          refine bodyPost_ret (v := .tuple #[.agg #[.slice va q1 vc, .slice ua body.length uc], .int .i64 ((b.length : Int) - rest.length), .int .i64 0]) (by simp [results, Try.results57, go_sem, *]) rfl ?_
          rw [hP.out]
          have bel := ((((((below_rd hg1).grown hg2 (by omega) (fun k hk => by simp at hk; omega)).alloc (by omega) _).trans (hb3.mono (by simp; omega))).setCell (p := ⟨w.heap.size, 0, none⟩) (by simp) (.slice va q1 vc)).setCell (p := ⟨w.heap.size, 1, none⟩) (by simp) (.slice ua body.length uc)).drew
          have ov := own_final hv hb3 (b := w.heap.size) (by omega) (.slice va q1 vc) (.slice ua body.length uc)
          have ou := own_final hu hb3 (b := w.heap.size) (by omega) (.slice va q1 vc) (.slice ua body.length uc)
          rw [← hps] at ov ou
          have e1 : ((b.length : Int) - rest.length) = ((b.length - rest.length : Nat) : Int) := by omega
          rw [e1, ← hps]
          exact ⟨_, _, rfl, own_props ov, own_slice ou, by rw [← hps] at bel; exact bel, fun k hk => by have := (hv.lt k (by rw [hps] at hk; exact hk)).1; omega, fun k hk => by have := (hu.lt k hk).1; omega⟩

theorem parse_fv (v : Value) (b : List UInt8) (w : World) (hb : SliceB w.heap.size w v b) :
    Calls Try.prog 57 #[v] w fun e w' => ∃ va vc ua uc, e = .returned (.tuple #[.agg #[.slice va (parseF b).2.1.length vc, .slice ua (parseF b).2.2.1.length uc], .int .i64 (parseF b).2.2.2, .int .i64 (parseF b).1]) ∧
      SliceP w'.heap.size w' (.slice va (parseF b).2.1.length vc) (parseF b).2.1 ∧ SliceB w'.heap.size w' (.slice ua (parseF b).2.2.1.length uc) (parseF b).2.2.1 ∧ Below w.heap.size w w' ∧ FreshV w.heap.size (.slice va (parseF b).2.1.length vc) ∧ FreshV w.heap.size (.slice ua (parseF b).2.2.1.length uc) := by
  have hb' := hb
  obtain ⟨a, c, rfl, -⟩ := hb'
  refine (parse_fresh a c b w hb).mono ?_
  rintro e w' ⟨v, u, rfl, hv, hu, hw⟩
  obtain ⟨va, vc, rfl, -⟩ := id hv
  obtain ⟨ua, uc, rfl, -⟩ := id hu
  exact ⟨va, vc, ua, uc, rfl, hv, hu, hw⟩
end Go.Proofs.Ytnfmidbbelgldaa
