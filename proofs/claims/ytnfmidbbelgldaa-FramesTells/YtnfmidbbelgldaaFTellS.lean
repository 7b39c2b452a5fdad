/-
  frames.Say answers what sayF says of any bytes.
-/
import Derived.Test.YtnfmidbbelgldaaFTellA
namespace Go.Proofs.Ytnfmidbbelgldaa
open Go.RowKit
set_option linter.unusedVariables false
set_option linter.unusedSimpArgs false

attribute [local go_sem ↓] Go.wp_at_zero Go.wp_at_succ

theorem box6 {w : World} {b : Nat} {c0 c1 c2 c3 c4 c5 : Value} {t : TypeId} (h : w.heap[b]? = some (.cells #[c0, c1, c2, c3, c4, c5] t (0, 0))) :
    w.cell? ⟨b, 0, none⟩ = some c0 ∧ w.cell? ⟨b, 1, none⟩ = some c1 ∧ w.cell? ⟨b, 2, none⟩ = some c2 ∧ w.cell? ⟨b, 3, none⟩ = some c3 ∧ w.cell? ⟨b, 4, none⟩ = some c4 ∧ w.cell? ⟨b, 5, none⟩ = some c5 ∧ ∀ o, w.frozen? ⟨b, o, none⟩ = false :=
  ⟨row_c h 0, row_c h 1, row_c h 2, row_c h 3, row_c h 4, row_c h 5, row_f h⟩
/-- An answer that is told, how many bytes it has, and what is wrong. -/
def ToldSay2 (a : SD) (n err : Int) (w : World) (e : Ending) (w' : World) : Prop :=
  ∃ va vc ua uc, e = .returned (.tuple #[.agg #[.int .i64 a.kind, .int .i64 a.n, .int .i64 a.m, .int .i64 a.err, .slice va a.ps.length vc, .slice ua a.body.length uc], .int .i64 n, .int .i64 err]) ∧
    SliceP w'.heap.size w' (.slice va a.ps.length vc) a.ps ∧ SliceB w'.heap.size w' (.slice ua a.body.length uc) a.body ∧ Below w.heap.size w w' ∧ FreshV w.heap.size (.slice va a.ps.length vc) ∧ FreshV w.heap.size (.slice ua a.body.length uc)
theorem told_noneS {w w' : World} (n err : Int) (h : Below w.heap.size w w') : ToldSay2 SD.zero n err w (.returned (.tuple #[.agg #[.int .i64 0, .int .i64 0, .int .i64 0, .int .i64 0, .slice none 0 0, .slice none 0 0], .int .i64 n, .int .i64 err])) w' :=
  ⟨_, _, _, _, rfl, SliceP.nil _ _, SliceB.nil _ _, h, fresh_nil _, fresh_nil _⟩

theorem told_off2S {a : SD} {m err : Int} {w wc w' : World} {k n mm ee : Int} {ps : List PD} {body : List UInt8} {va ua : Option Addr} {vc uc : Nat} (ha : a = ⟨k, n, mm, ee, ps, body⟩) (off : OffB w.heap.size wc w') (hv : SliceP wc.heap.size wc (.slice va ps.length vc) ps) (hu : SliceB wc.heap.size wc (.slice ua body.length uc) body) (hb : Below w.heap.size w wc)
    (hp : FreshV (w.heap.size + 2) (.slice va ps.length vc)) (hq : FreshV (w.heap.size + 2) (.slice ua body.length uc)) :
    ToldSay2 a m err w (.returned (.tuple #[.agg #[.int .i64 k, .int .i64 n, .int .i64 mm, .int .i64 ee, .slice va ps.length vc, .slice ua body.length uc], .int .i64 m, .int .i64 err])) w' := by
  subst ha
  refine ⟨va, vc, ua, uc, rfl, ?_, ?_, ?_, hp.mono (by omega), hq.mono (by omega)⟩
  · rw [off.size]; exact hv.from_ hp (fun k h1 _ => off.block k (.inr h1))
  · rw [off.size]; exact hu.from_ hq (fun k h1 _ => off.block k (.inr h1))
  · exact ⟨off.os.trans hb.os, off.tape.trans hb.tape, off.output.trans hb.output, by rw [off.size]; exact hb.size, fun k hk => (off.block k (.inl hk)).trans (hb.block k hk)⟩
theorem told_none_offS {w wc w' : World} {n err : Int} (off : OffB w.heap.size wc w') (hb : Below w.heap.size w wc) : ToldSay2 SD.zero n err w (.returned (.tuple #[.agg #[.int .i64 0, .int .i64 0, .int .i64 0, .int .i64 0, .slice none 0 0, .slice none 0 0], .int .i64 n, .int .i64 err])) w' :=
  told_noneS n err ⟨off.os.trans hb.os, off.tape.trans hb.tape, off.output.trans hb.output, by rw [off.size]; exact hb.size, fun k hk => (off.block k (.inl hk)).trans (hb.block k hk)⟩
set_option maxRecDepth 100000 in
set_option maxHeartbeats 4000000 in
theorem readSay_any (v : Value) (b : List UInt8) (w : World) (hb : SliceB w.heap.size w v b) :
    Calls Try.prog 40 #[v, .func (.func 41) #[] #[], .func (.func 6) #[] #[]] w (ToldSay2 (sayF b).2.1 (sayF b).2.2 (sayF b).1 w) := by
  have hb' := hb
  obtain ⟨va, vc, rfl, -⟩ := hb
  have hlen := inside_len b
  have hfit := sayOf_fits (insideF b).2
  have HA : Hid (sayF b = sayF b) := rfl
  have hA : ∀ I, I = insideF b → sayF b = if I.1 ≠ 0 then (I.1, SD.zero, 0) else if (sayOfF I.2).2 = false then (2, SD.zero, 0)
      else if (sayOfF I.2).1.wrong ≠ 0 then ((sayOfF I.2).1.wrong, SD.zero, 0) else (0, (sayOfF I.2).1, 2 + I.2.length) := fun I hI => by subst hI; rfl
  have hI : ∀ W, SliceB W.heap.size W (.slice va b.length vc) b → Calls Try.prog 44 #[.slice va b.length vc] W fun e w' => ∃ v', e = .returned (.tuple #[v', .int .i64 (insideF b).1]) ∧ SliceB W.heap.size W v' (insideF b).2 ∧ (∃ n, w' = W.drewN n) := fun W h => inside_any _ b W h
  obtain ⟨I, hIe⟩ : ∃ I, I = insideF b := ⟨_, rfl⟩
  have hA := hA I hIe
  rw [← hIe] at hlen hfit hI
  clear hIe HA
  have HB : Hid (SliceB w.heap.size w (.slice va b.length vc) b) := hb'
  clear hb'
  obtain ⟨err, i⟩ := I
  simp only at hA hlen hfit hI
  by_cases h0 : err = 0
  case neg =>
    rw [if_pos h0] at hA
    have HA : Hid (sayF b = (err, SD.zero, 0)) := hA
    clear hA hfit
    have h0' : (err != 0) = true := by simpa using h0
    go_enter Try.func40, Try.ntmps40
    go_wp2_with (go_at_call 44; refine (hI _ ((HB.out.below (below_alloc _ _)).below (below_alloc _ _))).mono ?_; rintro e w1 ⟨v', rfl, hs, nn, hw⟩; have hb1 := below_of_drewN hw; clear hw; have hs1 := hs.below hb1; have hz1 := hb1.size; simp at hz1; have hlt1 : w.heap.size < w1.heap.size := (by omega); have hlt2 : w.heap.size + 1 < w1.heap.size := (by omega); have b1 : Below w.heap.size w w1 := ((below_alloc w _).alloc (by simp) _).trans (hb1.mono (by simp; omega)); have P1 := two_rows hb1; obtain ⟨r0, r1, r2, r3, r4, r5, f2⟩ := box6 P1.1; obtain ⟨q0, q1, q2, q3, q4, q5, f6⟩ := box6 P1.2; obtain ⟨ia, ic, rfl, ig1, ig2, -⟩ := id hs1; clear hs hb1)
    refine bodyPost_ret (v := .tuple #[.agg #[.int .i64 0, .int .i64 0, .int .i64 0, .int .i64 0, .slice none 0 0, .slice none 0 0], .int .i64 0, .int .i64 err]) (by simp [results, Try.results40, go_sem, *]) rfl ?_
    rw [HA.out]
    refine told_none_offS ?_ b1
    iterate 6 refine OffB.set ?_ (by omega) (by omega) _
    exact OffB.refl _ _
  subst h0
  rw [if_neg (by simp)] at hA
  have hJ : ∀ W v, SliceB W.heap.size W v i → Calls Try.prog 41 #[v] W (ToldSay (sayOfF i).1 (.bool (sayOfF i).2) W) := fun W v h => sayOf_any v i W h hlen
  obtain ⟨J, hJe⟩ : ∃ J, J = sayOfF i := ⟨_, rfl⟩
  rw [← hJe] at hA hfit hJ
  clear hJe
  obtain ⟨⟨k, n, mm, ee, ps, body⟩, just⟩ := J
  simp only at hA hfit hJ
  unfold ToldSay at hJ
  simp only at hJ
  cases just with
  | false =>
    rw [if_pos rfl] at hA
    have HA : Hid (sayF b = (2, SD.zero, 0)) := hA
    clear hA hfit
    go_enter Try.func40, Try.ntmps40
    go_wp2_with (first
      | (go_at_call 44; refine (hI _ ((HB.out.below (below_alloc _ _)).below (below_alloc _ _))).mono ?_; rintro e w1 ⟨v', rfl, hs, nn, hw⟩; have hb1 := below_of_drewN hw; clear hw; have hs1 := hs.below hb1; have hz1 := hb1.size; simp at hz1; have hlt1 : w.heap.size < w1.heap.size := (by omega); have hlt2 : w.heap.size + 1 < w1.heap.size := (by omega); have b1 : Below w.heap.size w w1 := ((below_alloc w _).alloc (by simp) _).trans (hb1.mono (by simp; omega)); have P1 := two_rows hb1; obtain ⟨r0, r1, r2, r3, r4, r5, f2⟩ := box6 P1.1; obtain ⟨q0, q1, q2, q3, q4, q5, f6⟩ := box6 P1.2; obtain ⟨ia, ic, rfl, ig1, ig2, -⟩ := id hs1; clear hs hb1)
      | (go_at_call 41; refine (hJ _ _ hs1).mono ?_; rintro e w2 ⟨va2, vc2, ua2, uc2, rfl, hv2, hu2, hb2, hp2, hq2⟩; have hz2 := hb2.size; have P2a := (hb2.block _ hlt1).trans P1.1; have P2b := (hb2.block _ hlt2).trans P1.2; clear r0 r1 r2 r3 r4 r5 f2 q0 q1 q2 q3 q4 q5 f6; obtain ⟨r0, r1, r2, r3, r4, r5, f2⟩ := box6 P2a; obtain ⟨q0, q1, q2, q3, q4, q5, f6⟩ := box6 P2b; have hlt3 : w.heap.size < w2.heap.size := (by omega); have hlt4 : w.heap.size + 1 < w2.heap.size := (by omega); have b2 : Below w.heap.size w w2 := b1.trans (hb2.mono (by omega))))
    refine bodyPost_ret (v := .tuple #[.agg #[.int .i64 0, .int .i64 0, .int .i64 0, .int .i64 0, .slice none 0 0, .slice none 0 0], .int .i64 0, .int .i64 2]) (by simp [results, Try.results40, go_sem, *]) rfl ?_
    rw [HA.out]
    refine told_noneS _ _ (Below.alloc ?_ (by simp; omega) _)
    iterate 6 refine Below.setCell ?_ (by simp) _
    exact b2
  | true =>
    rw [if_neg (by simp)] at hA
    have hV : ∀ W v u, SliceP W.heap.size W v ps → SliceB W.heap.size W u body → Calls Try.prog 6 #[.agg #[.int .i64 k, .int .i64 n, .int .i64 mm, .int .i64 ee, v, u]] W fun r w' => r = .returned (.int .i64 (SD.wrong ⟨k, n, mm, ee, ps, body⟩)) ∧ Below W.heap.size W w' := fun W v u h1 h2 => fwrong_any k n mm ee v u ps body W h1 h2 hfit
    obtain ⟨V, hVe⟩ : ∃ V, V = SD.wrong ⟨k, n, mm, ee, ps, body⟩ := ⟨_, rfl⟩
    rw [← hVe] at hA hV
    clear hVe hfit
    by_cases h0 : V = 0
    · subst h0
      rw [if_neg (by simp)] at hA
      have HA : Hid (sayF b = (0, ⟨k, n, mm, ee, ps, body⟩, 2 + i.length)) := hA
      clear hA
      have hw1 : IntKind.i64.wrap (2 + (i.length : Int)) = 2 + (i.length : Int) := by rw [IntKind.wrap_i64]; omega
      go_enter Try.func40, Try.ntmps40
      go_wp2_with (first
        | (go_at_call 44; refine (hI _ ((HB.out.below (below_alloc _ _)).below (below_alloc _ _))).mono ?_; rintro e w1 ⟨v', rfl, hs, nn, hw⟩; have hb1 := below_of_drewN hw; clear hw; have hs1 := hs.below hb1; have hz1 := hb1.size; simp at hz1; have hlt1 : w.heap.size < w1.heap.size := (by omega); have hlt2 : w.heap.size + 1 < w1.heap.size := (by omega); have b1 : Below w.heap.size w w1 := ((below_alloc w _).alloc (by simp) _).trans (hb1.mono (by simp; omega)); have P1 := two_rows hb1; obtain ⟨r0, r1, r2, r3, r4, r5, f2⟩ := box6 P1.1; obtain ⟨q0, q1, q2, q3, q4, q5, f6⟩ := box6 P1.2; obtain ⟨ia, ic, rfl, ig1, ig2, -⟩ := id hs1; clear hs hb1)
        | (go_at_call 41; refine (hJ _ _ hs1).mono ?_; rintro e w2 ⟨va2, vc2, ua2, uc2, rfl, hv2, hu2, hb2, hp2, hq2⟩; have hz2 := hb2.size; have P2a := (hb2.block _ hlt1).trans P1.1; have P2b := (hb2.block _ hlt2).trans P1.2; clear r0 r1 r2 r3 r4 r5 f2 q0 q1 q2 q3 q4 q5 f6; obtain ⟨r0, r1, r2, r3, r4, r5, f2⟩ := box6 P2a; obtain ⟨q0, q1, q2, q3, q4, q5, f6⟩ := box6 P2b; have hlt3 : w.heap.size < w2.heap.size := (by omega); have hlt4 : w.heap.size + 1 < w2.heap.size := (by omega); have b2 : Below w.heap.size w w2 := b1.trans (hb2.mono (by omega)))
        | (go_at_call 6; refine (hV _ _ _ (hv2.below (below_alloc _ _)) (hu2.below (below_alloc _ _))).mono ?_; rintro e w3 ⟨rfl, hb3⟩; have hz3 := hb3.size; simp at hz3; have P3a := (hb3.block _ (by simp; omega)).trans ((Below.heap_alloc _ _ _ hlt3).trans P2a); have P3b := (hb3.block _ (by simp; omega)).trans ((Below.heap_alloc _ _ _ hlt4).trans P2b); have P3c := (hb3.block w2.heap.size (by simp)).trans (heap_alloc_new w2 _); clear r0 r1 r2 r3 r4 r5 f2 q0 q1 q2 q3 q4 q5 f6; obtain ⟨r0, r1, r2, r3, r4, r5, f2⟩ := box6 P3a; obtain ⟨q0, q1, q2, q3, q4, q5, f6⟩ := box6 P3b; obtain ⟨s0, s1, s2, s3, s4, s5, f7⟩ := box6 P3c; have b3 : Below w.heap.size w w3 := (b2.alloc (by omega) _).trans (hb3.mono (by simp; omega))))
      refine bodyPost_ret (v := .tuple #[.agg #[.int .i64 k, .int .i64 n, .int .i64 mm, .int .i64 ee, .slice va2 ps.length vc2, .slice ua2 body.length uc2], .int .i64 (2 + (i.length : Int)), .int .i64 0]) (by simp [results, Try.results40, go_sem, *]) rfl ?_
      rw [HA.out]
      refine told_off2S rfl (wc := w3) ?_ ((hv2.below (below_alloc _ _)).below hb3) ((hu2.below (below_alloc _ _)).below hb3) b3 (hp2.mono (by omega)) (hq2.mono (by omega))
      iterate 6 refine OffB.set ?_ (by omega) (by omega) _
      exact OffB.refl _ _
    · rw [if_pos h0] at hA
      have HA : Hid (sayF b = (V, SD.zero, 0)) := hA
      clear hA
      have h0' : (V != 0) = true := by simpa using h0
      go_enter Try.func40, Try.ntmps40
      go_wp2_with (first
        | (go_at_call 44; refine (hI _ ((HB.out.below (below_alloc _ _)).below (below_alloc _ _))).mono ?_; rintro e w1 ⟨v', rfl, hs, nn, hw⟩; have hb1 := below_of_drewN hw; clear hw; have hs1 := hs.below hb1; have hz1 := hb1.size; simp at hz1; have hlt1 : w.heap.size < w1.heap.size := (by omega); have hlt2 : w.heap.size + 1 < w1.heap.size := (by omega); have b1 : Below w.heap.size w w1 := ((below_alloc w _).alloc (by simp) _).trans (hb1.mono (by simp; omega)); have P1 := two_rows hb1; obtain ⟨r0, r1, r2, r3, r4, r5, f2⟩ := box6 P1.1; obtain ⟨q0, q1, q2, q3, q4, q5, f6⟩ := box6 P1.2; obtain ⟨ia, ic, rfl, ig1, ig2, -⟩ := id hs1; clear hs hb1)
        | (go_at_call 41; refine (hJ _ _ hs1).mono ?_; rintro e w2 ⟨va2, vc2, ua2, uc2, rfl, hv2, hu2, hb2, hp2, hq2⟩; have hz2 := hb2.size; have P2a := (hb2.block _ hlt1).trans P1.1; have P2b := (hb2.block _ hlt2).trans P1.2; clear r0 r1 r2 r3 r4 r5 f2 q0 q1 q2 q3 q4 q5 f6; obtain ⟨r0, r1, r2, r3, r4, r5, f2⟩ := box6 P2a; obtain ⟨q0, q1, q2, q3, q4, q5, f6⟩ := box6 P2b; have hlt3 : w.heap.size < w2.heap.size := (by omega); have hlt4 : w.heap.size + 1 < w2.heap.size := (by omega); have b2 : Below w.heap.size w w2 := b1.trans (hb2.mono (by omega)))
        | (go_at_call 6; refine (hV _ _ _ (hv2.below (below_alloc _ _)) (hu2.below (below_alloc _ _))).mono ?_; rintro e w3 ⟨rfl, hb3⟩; have hz3 := hb3.size; simp at hz3; have P3a := (hb3.block _ (by simp; omega)).trans ((Below.heap_alloc _ _ _ hlt3).trans P2a); have P3b := (hb3.block _ (by simp; omega)).trans ((Below.heap_alloc _ _ _ hlt4).trans P2b); have P3c := (hb3.block w2.heap.size (by simp)).trans (heap_alloc_new w2 _); clear r0 r1 r2 r3 r4 r5 f2 q0 q1 q2 q3 q4 q5 f6; obtain ⟨r0, r1, r2, r3, r4, r5, f2⟩ := box6 P3a; obtain ⟨q0, q1, q2, q3, q4, q5, f6⟩ := box6 P3b; obtain ⟨s0, s1, s2, s3, s4, s5, f7⟩ := box6 P3c; have b3 : Below w.heap.size w w3 := (b2.alloc (by omega) _).trans (hb3.mono (by simp; omega))))
      refine bodyPost_ret (v := .tuple #[.agg #[.int .i64 0, .int .i64 0, .int .i64 0, .int .i64 0, .slice none 0 0, .slice none 0 0], .int .i64 0, .int .i64 V]) (by simp [results, Try.results40, go_sem, *]) rfl ?_
      rw [HA.out]
      refine told_none_offS ?_ b3
      iterate 6 refine OffB.set ?_ (by omega) (by omega) _
      exact OffB.refl _ _

set_option maxRecDepth 100000 in
set_option maxHeartbeats 1000000 in
theorem say_any (v : Value) (b : List UInt8) (w : World) (hb : SliceB w.heap.size w v b) :
    Calls Try.prog 16 #[v] w (ToldSay2 (sayF b).2.1 (sayF b).2.2 (sayF b).1 w) := by
  have HB : Hid (SliceB w.heap.size w v b) := hb
  obtain ⟨va, vc, rfl, -⟩ := hb
  have hR : ∀ W v, SliceB W.heap.size W v b → Calls Try.prog 40 #[v, .func (.func 41) #[] #[], .func (.func 6) #[] #[]] W (ToldSay2 (sayF b).2.1 (sayF b).2.2 (sayF b).1 W) := fun W v h => readSay_any v b W h
  obtain ⟨J, hJ⟩ : ∃ J, J = sayF b := ⟨_, rfl⟩
  rw [← hJ] at hR ⊢
  clear hJ
  obtain ⟨err, ⟨k, n, mm, ee, ps, body⟩, m⟩ := J
  unfold ToldSay2 at hR
  simp only at hR
  go_enter Try.func16, Try.ntmps16
  go_wp2_with (go_at_call 40; refine (hR _ _ (HB.out.below (below_alloc _ _))).mono ?_; rintro e w2 ⟨va2, vc2, ua2, uc2, rfl, hv2, hu2, hb2, hp2, hq2⟩; have hz2 := hb2.size; simp at hz2; have P2 := (hb2.block w.heap.size (by simp)).trans (heap_alloc_new w _); obtain ⟨r0, r1, r2, r3, r4, r5, f2⟩ := box6 P2)
  refine bodyPost_ret (v := .tuple #[.agg #[.int .i64 k, .int .i64 n, .int .i64 mm, .int .i64 ee, .slice va2 ps.length vc2, .slice ua2 body.length uc2], .int .i64 m, .int .i64 err]) (by simp [results, Try.results16, go_sem, *]) rfl ?_
  simp only [World.size_alloc] at hp2 hq2
  have off : ∀ W, OffA w.heap.size w2 W → ToldSay2 ⟨k, n, mm, ee, ps, body⟩ m err w (.returned (.tuple #[.agg #[.int .i64 k, .int .i64 n, .int .i64 mm, .int .i64 ee, .slice va2 ps.length vc2, .slice ua2 body.length uc2], .int .i64 m, .int .i64 err])) W := fun W h =>
    ⟨va2, vc2, ua2, uc2, rfl, by rw [h.size]; exact hv2.from_ hp2 (fun k h1 _ => h.block k (.inr h1)), by rw [h.size]; exact hu2.from_ hq2 (fun k h1 _ => h.block k (.inr h1)),
      ⟨h.os.trans hb2.os, h.tape.trans hb2.tape, h.output.trans hb2.output, by rw [h.size]; omega, fun k hk => (h.block k (.inl hk)).trans ((hb2.block k (by simp; omega)).trans (Below.heap_alloc _ _ _ hk))⟩, hp2.mono (by omega), hq2.mono (by omega)⟩
  refine off _ ?_
  iterate 6 refine OffA.set ?_ _ _
  exact OffA.refl _ _
end Go.Proofs.Ytnfmidbbelgldaa
