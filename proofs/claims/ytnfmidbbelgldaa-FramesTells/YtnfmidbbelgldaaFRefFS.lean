/-
  tgref6.FrameSay answers what sayF says of any bytes.
-/
import Derived.Test.YtnfmidbbelgldaaFRefFA
import Derived.Test.YtnfmidbbelgldaaFRefW
namespace Go.Proofs.Ytnfmidbbelgldaa
open Go.RowKit
set_option linter.unusedVariables false
set_option linter.unusedSimpArgs false

attribute [local go_sem ↓] Go.wp_at_zero Go.wp_at_succ

set_option maxRecDepth 100000 in
set_option maxHeartbeats 8000000 in
theorem frameSay_any (v : Value) (b : List UInt8) (w : World) (hb : SliceB w.heap.size w v b) :
    Calls Try.prog 17 #[v] w (ToldSay2 (sayF b).2.1 (sayF b).2.2 (sayF b).1 w) := by
  have HB : Hid (SliceB w.heap.size w v b) := hb
  obtain ⟨va, vc, rfl, -⟩ := hb
  have hlen := inside_len b
  have hfit := sayOf_fits (insideF b).2
  have hA : ∀ I, I = insideF b → sayF b = if I.1 ≠ 0 then (I.1, SD.zero, 0) else if (sayOfF I.2).2 = false then (2, SD.zero, 0)
      else if (sayOfF I.2).1.wrong ≠ 0 then ((sayOfF I.2).1.wrong, SD.zero, 0) else (0, (sayOfF I.2).1, 2 + I.2.length) := fun I hI => by subst hI; rfl
  have hI : ∀ W, SliceB W.heap.size W (.slice va b.length vc) b → Calls Try.prog 36 #[.slice va b.length vc] W fun e w' => ∃ v' n, e = .returned (.tuple #[v', .int .i64 n, .int .i64 (insideF b).1]) ∧ ((insideF b).1 = 0 → n = 2 + (insideF b).2.length) ∧ SliceB W.heap.size W v' (insideF b).2 ∧ (∃ n, w' = W.drewN n) := fun W h => unframe_any _ b W h
  obtain ⟨I, hIe⟩ : ∃ I, I = insideF b := ⟨_, rfl⟩
  replace hA := hA I hIe
  rw [← hIe] at hlen hfit hI
  clear hIe
  obtain ⟨err, i⟩ := I
  simp only at hA hlen hfit hI
  by_cases h0 : err = 0
  case neg =>
    rw [if_pos h0] at hA
    have HA : Hid (sayF b = (err, SD.zero, 0)) := hA
    clear hA hfit
    have h0' : (err != 0) = true := by simpa using h0
    go_enter Try.func17, Try.ntmps17
    go_wp2_with (go_at_call 36; refine (hI _ (HB.out.below (below_alloc _ _))).mono ?_; rintro e w1 ⟨v', nn, rfl, hnn, hs, n', hw⟩; have hb1 := below_of_drewN hw; have HZ1 : Hid (w1.heap.size = w.heap.size + 1) := (by show w1.heap.size = _; rw [hw]; simp); clear hw; have hz1 := hb1.size; simp at hz1; have R1 := (hb1.block w.heap.size (by simp)).trans (heap_alloc_new w _); obtain ⟨r0, r1, r2, r3, r4, r5, f2⟩ := box6 R1; have b1 : Below w.heap.size w w1 := (below_alloc w _).trans (hb1.mono (by simp)))
    refine bodyPost_ret (v := .tuple #[.agg #[.int .i64 0, .int .i64 0, .int .i64 0, .int .i64 0, .slice none 0 0, .slice none 0 0], .int .i64 0, .int .i64 err]) (by simp [results, Try.results17, go_sem, *]) rfl ?_
    rw [HA.out]
    refine told_none_offS ?_ b1
    iterate 6 refine OffB.set ?_ (by omega) (by omega) _
    exact OffB.refl _ _
  subst h0
  rw [if_neg (by simp)] at hA
  by_cases h7 : i.length < 7
  · have hj : sayOfF i = (SD.zero, false) := by unfold sayOfF; rw [if_pos h7]
    rw [hj, if_pos rfl] at hA
    have HA : Hid (sayF b = (2, SD.zero, 0)) := hA
    clear hA hfit hj
    go_enter Try.func17, Try.ntmps17
    go_wp2_with (go_at_call 36; refine (hI _ (HB.out.below (below_alloc _ _))).mono ?_; rintro e w1 ⟨v', nn, rfl, hnn, hs, n', hw⟩; have hb1 := below_of_drewN hw; have HZ1 : Hid (w1.heap.size = w.heap.size + 1) := (by show w1.heap.size = _; rw [hw]; simp); clear hw; have hz1 := hb1.size; simp at hz1; have R1 := (hb1.block w.heap.size (by simp)).trans (heap_alloc_new w _); obtain ⟨r0, r1, r2, r3, r4, r5, f2⟩ := box6 R1; have b1 : Below w.heap.size w w1 := (below_alloc w _).trans (hb1.mono (by simp)); have hs1 := hs.below hb1; obtain ⟨ia, ic, rfl, ig1, ig2, -, ig3⟩ := id hs1; clear hs; obtain rfl := hnn rfl; clear hnn; clear hb1)
    refine bodyPost_ret (v := .tuple #[.agg #[.int .i64 0, .int .i64 0, .int .i64 0, .int .i64 0, .slice none 0 0, .slice none 0 0], .int .i64 0, .int .i64 2]) (by simp [results, Try.results17, go_sem, *]) rfl ?_
    rw [HA.out]
    refine told_none_offS ?_ b1
    iterate 6 refine OffB.set ?_ (by omega) (by omega) _
    exact OffB.refl _ _
  have hW0 : Hid (∀ p ∈ (sayOfF i).1.ps, p.fits) := hfit
  clear hfit
  obtain ⟨x0, x1, x2, x3, x4, x5, x6, r, hr⟩ : ∃ x0 x1 x2 x3 x4 x5 x6 r, i = x0 :: x1 :: x2 :: x3 :: x4 :: x5 :: x6 :: r := by
    rcases i with _ | ⟨x0, _ | ⟨x1, _ | ⟨x2, _ | ⟨x3, _ | ⟨x4, _ | ⟨x5, _ | ⟨x6, r⟩⟩⟩⟩⟩⟩⟩
    all_goals first | (exfalso; revert h7; simp; done) | exact ⟨_, _, _, _, _, _, _, _, rfl⟩
  obtain ⟨k, hk⟩ : ∃ k : Int, k = x0.toNat := ⟨_, rfl⟩
  obtain ⟨m, hm'⟩ : ∃ m : Int, m = x5.toNat := ⟨_, rfl⟩
  obtain ⟨e, he⟩ : ∃ e : Int, e = x6.toNat := ⟨_, rfl⟩
  obtain ⟨n, hn⟩ : ∃ n : Int, n = int32 (valB [x1, x2, x3, x4]) := ⟨_, rfl⟩
  obtain ⟨k0, k1⟩ := u8_bounds x0
  obtain ⟨m0, m1⟩ := u8_bounds x5
  obtain ⟨e0, e1⟩ := u8_bounds x6
  rw [← hk] at k0 k1
  rw [← hm'] at m0 m1
  rw [← he] at e0 e1
  obtain ⟨N, hN⟩ : ∃ N, N = noteOfF (i.drop 7) (k == 2) := ⟨_, rfl⟩
  have hj : sayOfF i = (⟨k, n, m, e, N.1, N.2.1⟩, N.2.2) := by
    unfold sayOfF
    rw [hN, if_neg h7, hk, hm', he, hn, hr]
    rfl
  rw [hj] at hA
  have hW1 : ∀ p ∈ N.1, p.fits := by have := hW0.out; rw [hj] at this; exact this
  clear hj hW0
  have hrl : (i.drop 7).length ≤ 400 := by simp; omega
  have HNote : ∀ W v, SliceB W.heap.size W v (i.drop 7) → Calls Try.prog 38 #[v, .bool (k == 2)] W fun e w' => ∃ va vc ua uc, e = .returned (.tuple #[.agg #[.slice va N.1.length vc, .slice ua N.2.1.length uc], .bool N.2.2]) ∧
      SliceP w'.heap.size w' (.slice va N.1.length vc) N.1 ∧ SliceB w'.heap.size w' (.slice ua N.2.1.length uc) N.2.1 ∧ Below W.heap.size W w' ∧ FreshV W.heap.size (.slice va N.1.length vc) ∧ FreshV W.heap.size (.slice ua N.2.1.length uc) := by
    rw [hN]; exact fun W v h => rest_any v _ _ W h (by omega)
  have hNs := noteOf_small (i.drop 7) (k == 2)
  rw [← hN] at hNs
  clear hN
  have HA : Hid _ := hA
  have HR : Hid (i = x0 :: x1 :: x2 :: x3 :: x4 :: x5 :: x6 :: r) := hr
  have HK : Hid (k = x0.toNat ∧ m = x5.toNat ∧ e = x6.toNat) := ⟨hk, hm', he⟩
  have HNn : Hid (n = int32 (valB [x1, x2, x3, x4])) := hn
  clear hA hr hk hm' he hn
  have hi7 : ¬ (i.length : Int) < 7 := by omega
  go_enter Try.func17, Try.ntmps17
  go_upto_region 6 with (go_at_call 36; refine (hI _ (HB.out.below (below_alloc _ _))).mono ?_; rintro ee w1 ⟨v', nn, rfl, hnn, hs, n', hw⟩; have hb1 := below_of_drewN hw; have HZ1 : Hid (w1.heap.size = w.heap.size + 1) := (by show w1.heap.size = _; rw [hw]; simp); clear hw; have hz1 := hb1.size; simp at hz1; have R1 := (hb1.block w.heap.size (by simp)).trans (heap_alloc_new w _); obtain ⟨r0, r1, r2, r3, r4, r5, f2⟩ := box6 R1; have b1 : Below w.heap.size w w1 := (below_alloc w _).trans (hb1.mono (by simp)); have hs1 := hs.below hb1; obtain ⟨ia, ic, rfl, ig1, ig2, -, ig3⟩ := id hs1; clear hs; obtain rfl := hnn rfl; clear hnn; clear hb1)
  obtain ⟨b0, off, rfl, hlt, -⟩ := ig3 0 (by omega)
  have hg : ∀ j (hj : j < 7), w1.cell? ⟨b0, off + j, none⟩ = some (.int .u8 ([x0, x1, x2, x3, x4, x5, x6][j]).toNat) := fun j hj => by
    obtain ⟨b', off', e', -, hc⟩ := ig3 j (by omega)
    simp only [Option.some.injEq, Addr.mk.injEq] at e'
    obtain ⟨rfl, rfl, -⟩ := e'
    rw [hc]
    have h0 := HR.out
    subst h0
    rcases j with _ | _ | _ | _ | _ | _ | _ | j
    all_goals first | rfl | omega
  have d0 := hg 0 (by omega)
  have d1 := hg 1 (by omega)
  have d2 := hg 2 (by omega)
  have d3 := hg 3 (by omega)
  have d4 := hg 4 (by omega)
  have d5 := hg 5 (by omega)
  have d6 := hg 6 (by omega)
  simp only [List.getElem_cons_zero, List.getElem_cons_succ, Nat.add_zero] at d0 d1 d2 d3 d4 d5 d6
  rw [← HK.out.1] at d0
  rw [← HK.out.2.1] at d5
  rw [← HK.out.2.2] at d6
  have hm := ig2
  unfold maxLen at ig2
  have hw0 : IntKind.i64.wrap k = k := by rw [IntKind.wrap_i64]; omega
  have hw1 : IntKind.i64.wrap m = m := by rw [IntKind.wrap_i64]; omega
  have hw2 : IntKind.i64.wrap e = e := by rw [IntKind.wrap_i64]; omega
  have hn1 : ∀ W, Below w1.heap.size w1 W → Calls Try.prog 37 #[.slice (some ⟨b0, off + 1, none⟩) 4 (ic - 1)] W fun e w' => e = .returned (.int .i64 n) ∧ w' = W := fun W hW => by
    have g1 := (hW.cell (p := ⟨b0, off + 1, none⟩) hlt).trans d1
    have g2 := (hW.cell (p := ⟨b0, off + 2, none⟩) hlt).trans d2
    have g3 := (hW.cell (p := ⟨b0, off + 3, none⟩) hlt).trans d3
    have g4 := (hW.cell (p := ⟨b0, off + 4, none⟩) hlt).trans d4
    rw [HNn.out]
    refine refGet_any _ [x1, x2, x3, x4] (b0 + 1) W (four_b rfl (by omega) (by unfold maxLen at *; omega) (by omega) ?_) (by simp)
    intro j hj
    rcases j with _ | _ | _ | _ | j
    · exact g1
    · exact g2
    · exact g3
    · exact g4
    · exfalso; simp at hj; omega
  have hze : w1.heap.size = w.heap.size + 1 := HZ1.out
  have lt1 : w.heap.size < w1.heap.size := by omega
  have lt2 : b0 < w.heap.size + 1 := by omega
  have lt3 : b0 ≤ w.heap.size := by omega
  have hi0 : 0 < i.length := by omega
  have hi5 : (5 : Int) < (i.length : Int) := by omega
  have hi6 : (6 : Int) < (i.length : Int) := by omega
  have ks1 : (5 : Int) ≤ (ic : Int) := by omega
  have ks2 : ¬ ic = 1 := by omega
  clear r0 r1 r2 r3 r4 r5 f2 hg
  go_cut [8] (fun p wx => p = .pointer (some ⟨w.heap.size + 1, 0, none⟩) ∧ wx = (w1.alloc (.cells #[.int .i64 k, .int .i64 n, .int .i64 m, .int .i64 e, .slice none 0 0, .slice none 0 0] 30)).drew)
  case first =>
    have g0 : ∀ o, b0 < (w1.alloc o).heap.size := fun o => by simp; omega
    have gn1 : w.heap.size + 1 ≠ b0 := by omega
    go_region_held3 (fun w' => w'.cell? ⟨b0, off, none⟩ = some (.int .u8 k) ∧ w'.cell? ⟨b0, off + 1, none⟩ = some (.int .u8 x1.toNat) ∧ w'.cell? ⟨b0, off + 2, none⟩ = some (.int .u8 x2.toNat) ∧ w'.cell? ⟨b0, off + 3, none⟩ = some (.int .u8 x3.toNat) ∧ w'.cell? ⟨b0, off + 4, none⟩ = some (.int .u8 x4.toNat) ∧ w'.cell? ⟨b0, off + 5, none⟩ = some (.int .u8 m) ∧ w'.cell? ⟨b0, off + 6, none⟩ = some (.int .u8 e)) (go_keep) (first
      | (go_at_call 37; refine (hn1 _ (by first | exact (Below.refl _ _).drew | exact (below_alloc w1 _).drew)).mono ?_; rintro ee w2 ⟨rfl, rfl⟩))
    all_goals (go_wp2_with fail; go_meet; exact ⟨rfl, rfl⟩)
  case rest =>
    obtain ⟨rfl, rfl⟩ := hcut
    obtain ⟨X, hX⟩ : ∃ X, X = (w1.alloc (.cells #[.int .i64 k, .int .i64 n, .int .i64 m, .int .i64 e, .slice none 0 0, .slice none 0 0] 30)).drew := ⟨_, rfl⟩
    have XB : Below w.heap.size w X := by rw [hX]; exact (b1.alloc (by omega) _).drew
    have XZ : X.heap.size = w.heap.size + 2 := by rw [hX]; simp; omega
    have X6 : X.heap[w.heap.size + 1]? = some (.cells #[.int .i64 k, .int .i64 n, .int .i64 m, .int .i64 e, .slice none 0 0, .slice none 0 0] 30 (0, 0)) := by
      have := heap_alloc_new w1 (.cells #[.int .i64 k, .int .i64 n, .int .i64 m, .int .i64 e, .slice none 0 0, .slice none 0 0] 30)
      rw [hze] at this
      rw [hX]; exact this
    have X2 : X.heap[w.heap.size]? = some (.cells #[.int .i64 0, .int .i64 0, .int .i64 0, .int .i64 0, .slice none 0 0, .slice none 0 0] 30 (0, 0)) := by
      rw [hX]; exact (Below.heap_alloc _ _ _ lt1).trans R1
    have HS0 : ∀ W, Below X.heap.size X W → SliceB W.heap.size W (.slice (some ⟨b0, off, none⟩) i.length ic) i := fun W hW => by
      have h1 := hs1.below (below_alloc w1 (.cells #[.int .i64 k, .int .i64 n, .int .i64 m, .int .i64 e, .slice none 0 0, .slice none 0 0] 30))
      have h2 : SliceB X.heap.size X (.slice (some ⟨b0, off, none⟩) i.length ic) i := by rw [hX]; exact h1.same (fun _ _ => rfl)
      exact h2.below hW
    rw [← hX]
    clear hX hn1 d0 d1 d2 d3 d4 d5 d6
    have c0 : X.cell? ⟨w.heap.size + 1, 0, none⟩ = some (.int .i64 k) := row_c X6 0
    have HS : ∀ W, Below X.heap.size X W → ∀ sa sn sc, (ic = 7 ∧ sa = some (⟨b0, off, none⟩ : Addr) ∨ ¬ ic = 7 ∧ sa = some ⟨b0, off + 7, none⟩) → sn = i.length - 7 → sc = ic - 7 → SliceB W.heap.size W (.slice sa sn sc) (i.drop 7) := fun W hW sa sn sc h1 h2 h3 => by
      subst h2 h3
      exact slice_tail (HS0 W hW) 7 _ (by omega) h1 rfl
    have H6 : Hid (X.heap[w.heap.size + 1]? = some (.cells #[.int .i64 k, .int .i64 n, .int .i64 m, .int .i64 e, .slice none 0 0, .slice none 0 0] 30 (0, 0))) := X6
    have H2 : Hid (X.heap[w.heap.size]? = some (.cells #[.int .i64 0, .int .i64 0, .int .i64 0, .int .i64 0, .slice none 0 0, .slice none 0 0] 30 (0, 0))) := X2
    clear X6 X2 HS0
    have ht2 : (7 : Int) ≤ (i.length : Int) := by omega
    go_upto_region 7 with fail
    go_cut [9, 10] (fun p j wx => Mid w.heap.size 30 #[.int .i64 k, .int .i64 n, .int .i64 m, .int .i64 e, .slice none 0 0, .slice none 0 0] #[.int .i64 0, .int .i64 0, .int .i64 0, .int .i64 0, .slice none 0 0, .slice none 0 0] N w p j wx)
    case first =>
      have bx : ∀ o, Below X.heap.size X (X.alloc o).drew := fun o => (below_alloc X o).drew
      by_cases hcap : ic = 7
      · subst hcap
        go_region_held3 (fun w' => w'.cell? ⟨w.heap.size + 1, 0, none⟩ = some (.int .i64 k)) (go_keep) (first
          | (go_at_call 38; refine (HNote _ _ (HS _ (by first | exact (Below.refl _ _).drew | exact bx _) _ _ _ (by first | exact Or.inl ⟨by omega, rfl⟩ | exact Or.inr ⟨by omega, rfl⟩) (by omega) (by omega))).mono ?_; rintro ee w3 ⟨va, vc, ua, uc, rfl, hv3, hu3, hb3, hp3, hq3⟩; obtain ⟨hc3, hf3⟩ := bcell hb3; have hz3 := hb3.size; simp at hz3))
        all_goals (go_wp2_with fail; go_meet; first | exact mid_first XB XZ H6.out H2.out rfl hv3 hu3 hb3 hp3 hq3 | exact mid_last XB XZ H6.out H2.out hv3 hu3 hb3 hp3 hq3)
      · go_region_held3 (fun w' => w'.cell? ⟨w.heap.size + 1, 0, none⟩ = some (.int .i64 k)) (go_keep) (first
          | (go_at_call 38; refine (HNote _ _ (HS _ (by first | exact (Below.refl _ _).drew | exact bx _) _ _ _ (by first | exact Or.inl ⟨by omega, rfl⟩ | exact Or.inr ⟨by omega, rfl⟩) (by omega) (by omega))).mono ?_; rintro ee w3 ⟨va, vc, ua, uc, rfl, hv3, hu3, hb3, hp3, hq3⟩; obtain ⟨hc3, hf3⟩ := bcell hb3; have hz3 := hb3.size; simp at hz3))
        all_goals (go_wp2_with fail; go_meet; first | exact mid_first XB XZ H6.out H2.out rfl hv3 hu3 hb3 hp3 hq3 | exact mid_last XB XZ H6.out H2.out hv3 hu3 hb3 hp3 hq3)
    case rest =>
      obtain ⟨pb, va, vc, ua, uc, rfl, rfl, hpb, B7, hv, hu, hp, hq, hbel, B6, B2⟩ := hcut
      have p0 := row_c B7 0
      have p1 := row_c B7 1
      simp only [List.getElem?_toArray, List.getElem?_cons_zero, List.getElem?_cons_succ] at p0 p1
      obtain ⟨q0, q1, q2, q3, q4, q5, f6⟩ := box6 B6
      obtain ⟨r0, r1, r2, r3, r4, r5, f2⟩ := box6 B2
      have n7 : pb ≠ w.heap.size := by omega
      have n8 : pb ≠ w.heap.size + 1 := by omega
      have ltA : w.heap.size + 1 < wc.heap.size := by
        rcases Nat.lt_or_ge (w.heap.size + 1) wc.heap.size with h | h
        · exact h
        · rw [Array.getElem?_eq_none h] at B6; cases B6
      clear B7
      obtain ⟨ps, body, just⟩ := N
      simp only at hv hu hp hq hNs HA hW1 p0 p1
      cases just with
      | false =>
        have HA2 : Hid (sayF b = (2, SD.zero, 0)) := by have := HA.out; rw [if_pos rfl] at this; exact this
        clear HA
        go_wp2
        refine bodyPost_ret (v := .tuple #[.agg #[.int .i64 0, .int .i64 0, .int .i64 0, .int .i64 0, .slice none 0 0, .slice none 0 0], .int .i64 0, .int .i64 2]) (by simp [results, Try.results17, go_sem, *]) rfl ?_
        rw [HA2.out]
        refine told_none_offS ?_ hbel
        iterate 6 refine OffB.set ?_ (by omega) (by omega) _
        exact OffB.refl _ _
      | true =>
        have HV : ∀ W v u, SliceP W.heap.size W v ps → SliceB W.heap.size W u body → Calls Try.prog 7 #[.agg #[.int .i64 k, .int .i64 n, .int .i64 m, .int .i64 e, v, u]] W fun r w' => r = .returned (.int .i64 (SD.wrong ⟨k, n, m, e, ps, body⟩)) ∧ Below W.heap.size W w' := fun W v u h1 h2 => refWrongSay_any k n m e v u ps body W h1 h2 hW1 (by omega) (by omega)
        have hA2 := HA.out
        rw [if_neg (by simp)] at hA2
        obtain ⟨V, hVe⟩ : ∃ V, V = SD.wrong ⟨k, n, m, e, ps, body⟩ := ⟨_, rfl⟩
        rw [← hVe] at hA2 HV
        clear hVe HA hW1
        have OFF : OffB w.heap.size wc ((wc.setCell ⟨w.heap.size + 1, 4, none⟩ (.slice va ps.length vc)).setCell ⟨w.heap.size + 1, 5, none⟩ (.slice ua body.length uc)) := ((OffB.refl _ _).set (by omega) (by omega) _).set (by omega) (by omega) _
        have R6 : ((wc.setCell ⟨w.heap.size + 1, 4, none⟩ (.slice va ps.length vc)).setCell ⟨w.heap.size + 1, 5, none⟩ (.slice ua body.length uc)).heap[w.heap.size + 1]? = some (.cells #[.int .i64 k, .int .i64 n, .int .i64 m, .int .i64 e, .slice va ps.length vc, .slice ua body.length uc] 30 (0, 0)) := by
          rw [heap_put (heap_put B6 4 _) 5 _]; rfl
        have R2 : ((wc.setCell ⟨w.heap.size + 1, 4, none⟩ (.slice va ps.length vc)).setCell ⟨w.heap.size + 1, 5, none⟩ (.slice ua body.length uc)).heap[w.heap.size]? = some (.cells #[.int .i64 0, .int .i64 0, .int .i64 0, .int .i64 0, .slice none 0 0, .slice none 0 0] 30 (0, 0)) := by
          rw [Below.heap_setCell _ _ _ _ (by simp), Below.heap_setCell _ _ _ _ (by simp)]; exact B2
        have hv' := off_props OFF hv hp
        have hu' := off_bytes OFF hu hq
        have bO := off_below OFF hbel
        have zO := OFF.size
        by_cases h0 : V = 0
        · subst h0
          rw [if_neg (by simp)] at hA2
          have HA2 : Hid (sayF b = (0, ⟨k, n, m, e, ps, body⟩, 2 + i.length)) := hA2
          clear hA2
          go_wp2_with (go_at_call 7; refine (HV _ _ _ hv' hu').mono ?_; rintro ee w3 ⟨rfl, hb3⟩; have hz3 := hb3.size; clear q0 q1 q2 q3 q4 q5 f6 r0 r1 r2 r3 r4 r5 f2; obtain ⟨q0, q1, q2, q3, q4, q5, f6⟩ := box6 ((hb3.block _ (by omega)).trans R6); obtain ⟨r0, r1, r2, r3, r4, r5, f2⟩ := box6 ((hb3.block _ (by omega)).trans R2); have b3 : Below w.heap.size w w3 := bO.trans (hb3.mono (by omega)))
          refine bodyPost_ret (v := .tuple #[.agg #[.int .i64 k, .int .i64 n, .int .i64 m, .int .i64 e, .slice va ps.length vc, .slice ua body.length uc], .int .i64 (2 + (i.length : Int)), .int .i64 0]) (by simp [results, Try.results17, go_sem, *]) rfl ?_
          rw [HA2.out]
          refine told_off2S rfl (wc := w3) ?_ (hv'.below hb3) (hu'.below hb3) b3 hp hq
          iterate 6 refine OffB.set ?_ (by omega) (by omega) _
          exact OffB.refl _ _
        · rw [if_pos h0] at hA2
          have HA2 : Hid (sayF b = (V, SD.zero, 0)) := hA2
          clear hA2
          have h0' : (V != 0) = true := by simpa using h0
          go_wp2_with (go_at_call 7; refine (HV _ _ _ hv' hu').mono ?_; rintro ee w3 ⟨rfl, hb3⟩; have hz3 := hb3.size; clear q0 q1 q2 q3 q4 q5 f6 r0 r1 r2 r3 r4 r5 f2; obtain ⟨r0, r1, r2, r3, r4, r5, f2⟩ := box6 ((hb3.block _ (by omega)).trans R2); have b3 : Below w.heap.size w w3 := bO.trans (hb3.mono (by omega)))
          refine bodyPost_ret (v := .tuple #[.agg #[.int .i64 0, .int .i64 0, .int .i64 0, .int .i64 0, .slice none 0 0, .slice none 0 0], .int .i64 0, .int .i64 V]) (by simp [results, Try.results17, go_sem, *]) rfl ?_
          rw [HA2.out]
          refine told_none_offS ?_ b3
          iterate 6 refine OffB.set ?_ (by omega) (by omega) _
          exact OffB.refl _ _
end Go.Proofs.Ytnfmidbbelgldaa
