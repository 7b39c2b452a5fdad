/-
  tglaw1.NoteTells walked.
-/
import Derived.Test.YtplfcabkhpchdaaTurns
import Derived.Test.YtplfcabkhpchdaaSame
import Derived.Test.YtplfcabkhpchdaaRefParse
import Derived.Test.YtplfcabkhpchdaaRefBytes
import Derived.Test.YtplfcabkhpchdaaRefSame
import Derived.Test.YtplfcabkhpchdaaRefWrong
namespace Go.Proofs.Ytplfcabkhpchdaa
open Go.RowKit
set_option linter.unusedVariables false
set_option linter.unusedSimpArgs false

attribute [local go_sem ↓] Go.wp_at_zero Go.wp_at_succ

theorem two_cells {w W : World} {a b c d : Value} (h : Below ((w.alloc (.cells #[a, b] 25)).alloc (.cells #[c, d] 25)).heap.size ((w.alloc (.cells #[a, b] 25)).alloc (.cells #[c, d] 25)) W) :
    W.cell? ⟨w.heap.size, 0, none⟩ = some a ∧ W.cell? ⟨w.heap.size, 1, none⟩ = some b ∧ W.cell? ⟨w.heap.size + 1, 0, none⟩ = some c ∧ W.cell? ⟨w.heap.size + 1, 1, none⟩ = some d := by
  refine ⟨(h.cell (by simp; omega)).trans (by simp), (h.cell (by simp; omega)).trans (by simp), (h.cell (by simp)).trans (by simp), (h.cell (by simp)).trans (by simp)⟩

theorem refWrong_v (v u : Value) (ps : List PD) (body : List UInt8) (w : World) (hv : SliceP w.heap.size w v ps) (hu : SliceB w.heap.size w u body) (hf : ∀ p ∈ ps, p.fits) :
    Calls Try.prog 6 #[.agg #[v, u]] w fun e w' => e = .returned (.int .i64 (wrongN ps body.length)) ∧ Below w.heap.size w w' := by
  obtain ⟨va, vc, rfl, v1, v2, v3, v4⟩ := hv
  obtain ⟨ua, uc, rfl, u1, u2, u3, u4⟩ := hu
  exact refWrong_any va vc ps ua body.length uc w v4 hf (by omega) (by omega)
theorem refSame_self (v u v' u' : Value) (ps : List PD) (x : List UInt8) (w : World) (hv : SliceP w.heap.size w v ps) (hu : SliceB w.heap.size w u x) (hv' : SliceP w.heap.size w v' ps) (hu' : SliceB w.heap.size w u' x) :
    Calls Try.prog 10 #[.agg #[v, u], .agg #[v', u']] w fun e w' => e = .returned (.bool true) ∧ Below w.heap.size w w' :=
  (refSame_any v u v' u' ps ps x x w hv hu hv' hu').mono fun e w' h => ⟨h.1.trans (by simp), h.2⟩
theorem refParse_t (v : Value) (b : List UInt8) (w : World) (hb : SliceB w.heap.size w v b) (hbl : b.length ≤ 140737488351232) :
    Calls Try.prog 15 #[v] w (Told b w) := by
  have hb' := hb
  obtain ⟨a, c, rfl, -⟩ := hb'
  by_cases h0 : 0 < b.length
  · by_cases h4 : (b[0]).toNat ≤ 4
    · exact refParse_any a c b w hb hbl h0 h4
    · exact refParse_small a c b w hb (.inr ⟨h0, by omega⟩)
  · exact refParse_small a c b w hb (.inl (List.eq_nil_of_length_eq_zero (by omega)))
theorem refParse_v (v : Value) (b : List UInt8) (w : World) (hb : SliceB w.heap.size w v b) (hbl : b.length ≤ 140737488351232) :
    Calls Try.prog 15 #[v] w fun e w' => ∃ va vc ua uc, e = .returned (.tuple #[.agg #[.slice va (parseF b).2.1.length vc, .slice ua (parseF b).2.2.1.length uc], .int .i64 (parseF b).2.2.2, .int .i64 (parseF b).1]) ∧
      SliceP w'.heap.size w' (.slice va (parseF b).2.1.length vc) (parseF b).2.1 ∧ SliceB w'.heap.size w' (.slice ua (parseF b).2.2.1.length uc) (parseF b).2.2.1 ∧ Below w.heap.size w w' := by
  refine (refParse_t v b w hb hbl).mono ?_
  rintro e w' ⟨v, u, rfl, hv, hu, hb⟩
  have hv0 := hv
  have hu0 := hu
  obtain ⟨va, vc, rfl, -⟩ := hv0
  obtain ⟨ua, uc, rfl, -⟩ := hu0
  exact ⟨va, vc, ua, uc, rfl, hv, hu, hb⟩
theorem refBytes_v (v u : Value) (ps : List PD) (body : List UInt8) (w : World) (hv : SliceP w.heap.size w v ps) (hu : SliceB w.heap.size w u body) (h : wrongN ps body.length = 0) :
    Calls Try.prog 13 #[.agg #[v, u]] w fun e w' => ∃ ao cap, e = .returned (.slice ao (bytesF ps body).length cap) ∧ SliceB w'.heap.size w' (.slice ao (bytesF ps body).length cap) (bytesF ps body) ∧ Below w.heap.size w w' := by
  obtain ⟨h1, h2, h3⟩ := wrongN_zero ps _ h
  obtain ⟨va, vc, rfl, v1, v2, v3, v4⟩ := hv
  have hu' := hu
  obtain ⟨ua, uc, rfl, -⟩ := hu'
  refine (refBytes_any va vc ps ua uc body w v4 hu (by omega) (by omega) (fun p hp => (right_prop p (h2 p hp)).1)).mono ?_
  rintro e w' ⟨v, rfl, own, hb⟩
  have hs := own_slice own
  have hs' := hs
  obtain ⟨a, c, rfl, -⟩ := hs'
  exact ⟨a, c, rfl, hs, hb⟩

set_option maxRecDepth 100000 in
set_option maxHeartbeats 1600000 in
theorem tells_any (v u v' u' bv : Value) (ps qs : List PD) (s : ByteArray) (x y b : List UInt8) (w : World) (hv : SliceP w.heap.size w v ps) (hu : SliceB w.heap.size w u x) (hv' : SliceP w.heap.size w v' qs) (hu' : SliceB w.heap.size w u' y) (hb : SliceB w.heap.size w bv b) (hf : ∀ p ∈ ps, p.fits) (hs : s.size ≤ maxLen) (hpl : ps.length * 48 ≤ 140737488355328) (hxl : x.length ≤ 140737488355328) (hbl : b.length ≤ 140737488351232) :
    Calls Try.prog 3 #[.agg #[v, u], .agg #[v', u'], .string s, bv] w fun e w' => e = .returned (.bool true) ∧ Below w.heap.size w w' := by
  obtain ⟨X, hX⟩ : ∃ X, X = (w.alloc (.cells #[v, u] 25)).alloc (.cells #[v', u'] 25) := ⟨_, rfl⟩
  have c0 : Below X.heap.size X X := Below.refl _ _
  have b0 : Below w.heap.size w X := by rw [hX]; exact (below_alloc _ _).trans ((below_alloc _ _).mono (by simp))
  have XV : Hid (∀ W, Below X.heap.size X W → SliceP W.heap.size W v ps) := fun W h => (hv.below b0).below h
  have XU : Hid (∀ W, Below X.heap.size X W → SliceB W.heap.size W u x) := fun W h => (hu.below b0).below h
  have XV' : Hid (∀ W, Below X.heap.size X W → SliceP W.heap.size W v' qs) := fun W h => (hv'.below b0).below h
  have XU' : Hid (∀ W, Below X.heap.size X W → SliceB W.heap.size W u' y) := fun W h => (hu'.below b0).below h
  have XB : Hid (∀ W, Below X.heap.size X W → SliceB W.heap.size W bv b) := fun W h => (hb.below b0).below h
  have XC : Hid (∀ W, Below X.heap.size X W → W.cell? ⟨w.heap.size, 0, none⟩ = some v ∧ W.cell? ⟨w.heap.size, 1, none⟩ = some u ∧ W.cell? ⟨w.heap.size + 1, 0, none⟩ = some v' ∧ W.cell? ⟨w.heap.size + 1, 1, none⟩ = some u') := fun W h => two_cells (by rw [← hX]; exact h)
  obtain ⟨va, vc, rfl, v1, v2, -⟩ := hv
  obtain ⟨ua, uc, rfl, u1, u2, -⟩ := hu
  obtain ⟨va', vc', rfl, v1', v2', -⟩ := hv'
  obtain ⟨ua', uc', rfl, u1', u2', -⟩ := hu'
  obtain ⟨ba, bc, rfl, -⟩ := hb
  have HS : Hid (s.size ≤ maxLen) := hs
  have HB0 : Hid (Below w.heap.size w X) := b0
  clear hs b0
  have hpv : ∀ W V, SliceB W.heap.size W V b → _ := fun W V h => parse_v V b W h
  have hrv : ∀ W V, SliceB W.heap.size W V b → _ := fun W V h => refParse_v V b W h hbl
  generalize parseF b = r at hpv hrv
  obtain ⟨r1, rs, rb, rk⟩ := r
  simp only at hpv hrv
  have HPV : Hid _ := hpv
  have HRV : Hid _ := hrv
  clear hpv hrv
  have ny : Hid True := trivial
  have k0 := XC.out X c0
  obtain ⟨k01, k02, k03, k04⟩ := k0
  go_enter Try.func3, Try.ntmps3
  go_wp2
  rw [← hX]
  clear hX
  refine wp_region_noPanic ?_
  go_region_held (fun w' => w'.cell? ⟨w.heap.size, 0, none⟩ = some (.slice va ps.length vc) ∧ w'.cell? ⟨w.heap.size, 1, none⟩ = some (.slice ua x.length uc) ∧ w'.cell? ⟨w.heap.size + 1, 0, none⟩ = some (.slice va' qs.length vc') ∧ w'.cell? ⟨w.heap.size + 1, 1, none⟩ = some (.slice ua' y.length uc')) (refine ⟨?_, ?_, ?_, ?_⟩ <;> first | assumption | (simp [go_sem]; done))
    (first
      | (go_at_call 5; refine (wrong_v _ _ ps x _ (XV.out _ c0).drew (XU.out _ c0).drew hf).mono ?_; rintro e w1 ⟨rfl, hb1⟩; have c1 := c0.drew.trans (hb1.mono c0.drew.size); obtain ⟨k11, k12, k13, k14⟩ := XC.out _ c1)
      | (go_at_call 6; refine (refWrong_v _ _ ps x _ (XV.out _ c1) (XU.out _ c1) hf).mono ?_; rintro e w2 ⟨rfl, hb2⟩; have c2 := c1.trans (hb2.mono c1.size); obtain ⟨k21, k22, k23, k24⟩ := XC.out _ c2)
      | (go_at_call 7; refine (key_any s _ HS.out).mono ?_; rintro e w3 ⟨rfl, rfl⟩)
      | (go_at_call 8; refine (refKey_any s _ HS.out).mono ?_; rintro e w4 ⟨rfl, hb4⟩; have c4 := c2.trans (hb4.mono c2.size); obtain ⟨k41, k42, k43, k44⟩ := XC.out _ c4)
      | (go_at_call 9; refine (same_any _ _ _ _ ps qs x y _ (XV.out _ c4) (XU.out _ c4) (XV'.out _ c4) (XU'.out _ c4)).mono ?_; rintro e w5 ⟨rfl, hb5⟩; have c5 := c4.trans (hb5.mono c4.size); obtain ⟨k51, k52, k53, k54⟩ := XC.out _ c5)
      | (go_at_call 10; clear ny; refine (refSame_any _ _ _ _ ps qs x y _ (XV.out _ c5) (XU.out _ c5) (XV'.out _ c5) (XU'.out _ c5)).mono ?_; rintro e w6 ⟨rfl, hb6⟩; have c6 := c5.trans (hb6.mono c5.size); obtain ⟨k61, k62, k63, k64⟩ := XC.out _ c6)
      | (go_at_call 11; refine (own_any _ _ ps x _ (XV.out _ c6) (XU.out _ c6) hpl hxl).mono ?_; rintro e w7 ⟨ov, ou, rfl, hov, hou, hb7⟩; have c7 := c6.trans (hb7.mono c6.size); obtain ⟨k71, k72, k73, k74⟩ := XC.out _ c7)
      | (go_at_call 10; refine (refSame_self _ _ _ _ ps x _ hov hou (XV.out _ c7) (XU.out _ c7)).mono ?_; rintro e w8 ⟨rfl, hb8⟩; have c8 := c7.trans (hb8.mono c7.size); obtain ⟨k81, k82, k83, k84⟩ := XC.out _ c8))
  all_goals refine NoPanic.normal ?_
  by_cases hW : wrongN ps x.length = 0
  · have HW : Hid (wrongN ps x.length = 0) := hW
    clear hW
    obtain ⟨N, hN⟩ : ∃ N, N = bytesF ps x := ⟨_, rfl⟩
    have HN : Hid (N = bytesF ps x) := hN
    clear hN
    go_wp2
    refine wp_region_noPanic ?_
    go_region_held (fun w' => w'.cell? ⟨w.heap.size, 0, none⟩ = some (.slice va ps.length vc) ∧ w'.cell? ⟨w.heap.size, 1, none⟩ = some (.slice ua x.length uc) ∧ w'.cell? ⟨w.heap.size + 1, 0, none⟩ = some (.slice va' qs.length vc') ∧ w'.cell? ⟨w.heap.size + 1, 1, none⟩ = some (.slice ua' y.length uc')) (refine ⟨?_, ?_, ?_, ?_⟩ <;> first | assumption | (simp [go_sem]; done))
      (first
        | (go_at_call 6; refine (refWrong_v _ _ ps x _ (XV.out _ c8).drew (XU.out _ c8).drew hf).mono ?_; rintro e w9 ⟨rfl, hb9⟩; rw [HW.out]; have c9 := c8.drew.trans (hb9.mono c8.drew.size); obtain ⟨k91, k92, k93, k94⟩ := XC.out _ c9)
        | (go_at_call 12; refine (bytes_v _ _ ps x _ (XV.out _ c9) (XU.out _ c9) HW.out).mono ?_; rintro e w10 ⟨ao, cap, rfl, own10, hb10⟩; rw [← HN.out] at own10 ⊢; have c10 := c9.trans (hb10.mono c9.size); obtain ⟨k101, k102, k103, k104⟩ := XC.out _ c10; have s10 := own_slice own10; have hcv10 := conv_str s10)
        | (go_at_call 13; refine (refBytes_v _ _ ps x _ (XV.out _ c10) (XU.out _ c10) HW.out).mono ?_; rintro e w11 ⟨ao', cap', rfl, s11, hb11⟩; rw [← HN.out] at s11 ⊢; have c11 := c10.trans (hb11.mono c10.size); obtain ⟨k111, k112, k113, k114⟩ := XC.out _ c11; have hcv11 := conv_str (s10.below hb11); have hcv12 := conv_str s11; have cL := c11))
    all_goals refine NoPanic.normal ?_
    all_goals go_wp2_with (first
      | (go_at_call 14; refine (HPV.out _ _ (XB.out _ cL)).mono ?_; rintro e w20 ⟨pa, pc, qa, qc, rfl, hp20, hq20, hb20⟩; have c20 := cL.trans (hb20.mono cL.size))
      | (go_at_call 15; refine (HRV.out _ _ (XB.out _ (c20.alloc c20.size _))).mono ?_; rintro e w21 ⟨pa', pc', qa', qc', rfl, hp21, hq21, hb21⟩; have c21 := (c20.alloc c20.size (.cells #[.slice pa rs.length pc, .slice qa rb.length qc] 25)).trans (hb21.mono (c20.alloc c20.size _).size); obtain ⟨kx0, kx1, kx2⟩ := blk_cells (g := w20.heap.size) rfl hb21)
      | (go_at_call 10; refine (refSame_self _ _ _ _ rs rb _ ((hp20.below ((below_alloc _ _).trans (hb21.mono (by simp)))).below (below_alloc _ _)) ((hq20.below ((below_alloc _ _).trans (hb21.mono (by simp)))).below (below_alloc _ _)) (hp21.below (below_alloc _ _)) (hq21.below (below_alloc _ _))).mono ?_; rintro e w22 ⟨rfl, hb22⟩; have c22 := (c21.alloc c21.size _).trans (hb22.mono (c21.alloc c21.size _).size)))
    all_goals go_ret
    all_goals exact ⟨rfl, HB0.out.trans (c22.mono HB0.out.size)⟩
  · have hW' : (wrongN ps x.length == 0) = false := by simpa using hW
    clear hW
    go_wp2
    go_region_with
      (first
        | (go_at_call 6; refine (refWrong_v _ _ ps x _ (XV.out _ c8).drew (XU.out _ c8).drew hf).mono ?_; rintro e w9 ⟨rfl, hb9⟩; have c9 := c8.drew.trans (hb9.mono c8.drew.size); have cL := c9; obtain ⟨k91, k92, k93, k94⟩ := XC.out _ c9))
    all_goals go_wp2_with (first
      | (go_at_call 14; refine (HPV.out _ _ (XB.out _ cL)).mono ?_; rintro e w20 ⟨pa, pc, qa, qc, rfl, hp20, hq20, hb20⟩; have c20 := cL.trans (hb20.mono cL.size))
      | (go_at_call 15; refine (HRV.out _ _ (XB.out _ (c20.alloc c20.size _))).mono ?_; rintro e w21 ⟨pa', pc', qa', qc', rfl, hp21, hq21, hb21⟩; have c21 := (c20.alloc c20.size (.cells #[.slice pa rs.length pc, .slice qa rb.length qc] 25)).trans (hb21.mono (c20.alloc c20.size _).size); obtain ⟨kx0, kx1, kx2⟩ := blk_cells (g := w20.heap.size) rfl hb21)
      | (go_at_call 10; refine (refSame_self _ _ _ _ rs rb _ ((hp20.below ((below_alloc _ _).trans (hb21.mono (by simp)))).below (below_alloc _ _)) ((hq20.below ((below_alloc _ _).trans (hb21.mono (by simp)))).below (below_alloc _ _)) (hp21.below (below_alloc _ _)) (hq21.below (below_alloc _ _))).mono ?_; rintro e w22 ⟨rfl, hb22⟩; have c22 := (c21.alloc c21.size _).trans (hb22.mono (c21.alloc c21.size _).size)))
    all_goals go_ret
    all_goals exact ⟨rfl, HB0.out.trans (c22.mono HB0.out.size)⟩
end Go.Proofs.Ytplfcabkhpchdaa
