/-
  The four ways of tglaw1.NoteTurns: a right note or not, bytes that are read or not: true on each.
-/
import Derived.Test.YtplfcabkhpchdaaAlive
namespace Go.Proofs.Ytplfcabkhpchdaa
open Go.RowKit
set_option linter.unusedVariables false
set_option linter.unusedSimpArgs false

attribute [local go_sem ↓] Go.wp_at_zero Go.wp_at_succ

theorem SliceP.drew {w : World} {v : Value} {ps : List PD} (h : SliceP w.heap.size w v ps) : SliceP w.drew.heap.size w.drew v ps := h.same (fun _ _ => rfl)
theorem SliceB.drew {w : World} {v : Value} {bs : List UInt8} (h : SliceB w.heap.size w v bs) : SliceB w.drew.heap.size w.drew v bs := h.same (fun _ _ => rfl)
theorem slice_take {B : Nat} {w : World} {a : Option Addr} {c : Nat} {b : List UInt8} (h : SliceB B w (.slice a b.length c) b) (k : Nat) (hk : k ≤ b.length) : SliceB B w (.slice a k c) (b.take k) := by
  obtain ⟨a', c', e, h1, h2, h3, h4⟩ := h
  simp only [Value.slice.injEq] at e
  obtain ⟨rfl, -, rfl⟩ := e
  exact ⟨a, c, by simp; omega, by simp; omega, h2, h3, bytes_take h4 k⟩

set_option maxRecDepth 100000 in
set_option maxHeartbeats 1600000 in
/-- The second half: Parse of b alone. -/
theorem turns_wrong (v u bv : Value) (ps : List PD) (body b : List UInt8) (w : World) (hv : SliceP w.heap.size w v ps) (hu : SliceB w.heap.size w u body) (hb : SliceB w.heap.size w bv b) (hf : ∀ p ∈ ps, p.fits) (hbl : b.length ≤ 140737488351232) (hw : ¬ wrongN ps body.length = 0) (he : ¬ (parseF b).1 = 0) :
    Calls Try.prog 4 #[.agg #[v, u], bv] w fun e w' => e = .returned (.bool true) ∧ Below w.heap.size w w' := by
  have HW : Hid ((wrongN ps body.length == 0) = false) := by show (_ == _) = false; simpa using hw
  have HE : Hid ((parseF b).2 = ([], [], 0)) := parse_err b he
  have HV : Hid (SliceP w.heap.size w v ps) := hv
  have HU : Hid (SliceB w.heap.size w u body) := hu
  have HB : Hid (SliceB w.heap.size w bv b) := hb
  obtain ⟨va, vc, rfl, -⟩ := hv
  obtain ⟨ua, uc, rfl, -⟩ := hu
  obtain ⟨ba, bc, rfl, -⟩ := hb
  clear hw
  have hw' := HW.out
  go_enter Try.func4, Try.ntmps4
  go_wp2_with (first
    | (go_at_call 16; refine (alive_any _).mono ?_; rintro e w1 ⟨rfl, hb1⟩; obtain ⟨k11, k12, k13⟩ := blk_cells (g := w.heap.size) rfl hb1; have b1 : Below w.heap.size w w1 := (below_alloc _ _).trans (hb1.mono (by simp)))
    | (go_at_call 5; refine (wrong_v _ _ ps body _ (HV.out.below b1) (HU.out.below b1) hf).mono ?_; rintro e w2 ⟨rfl, hb2⟩; have b2 : Below w.heap.size w w2 := b1.trans (hb2.mono b1.size))
    | (go_at_call 14; refine (parse_v _ b _ (HB.out.below b2)).mono ?_; rintro e w3 ⟨pa, pc, qa, qc, rfl, hp3, hq3, hb3⟩; rw [HE.out] at hp3 hq3 ⊢))
  go_ret
  exact ⟨rfl, (b2.trans (hb3.mono b2.size)).alloc (by have := (b2.trans (hb3.mono b2.size)).size; omega) _⟩

set_option maxRecDepth 100000 in
set_option maxHeartbeats 3200000 in
theorem turns_wrong2 (v u bv : Value) (ps : List PD) (body b : List UInt8) (w : World) (hv : SliceP w.heap.size w v ps) (hu : SliceB w.heap.size w u body) (hb : SliceB w.heap.size w bv b) (hf : ∀ p ∈ ps, p.fits) (hbl : b.length ≤ 140737488351232) (hw : ¬ wrongN ps body.length = 0) (he : (parseF b).1 = 0) :
    Calls Try.prog 4 #[.agg #[v, u], bv] w fun e w' => e = .returned (.bool true) ∧ Below w.heap.size w w' := by
  have HW : Hid ((wrongN ps body.length == 0) = false) := by show (_ == _) = false; simpa using hw
  have HE : Hid _ := parse_back b he
  have HV : Hid (SliceP w.heap.size w v ps) := hv
  have HU : Hid (SliceB w.heap.size w u body) := hu
  have HB : Hid (SliceB w.heap.size w bv b) := hb
  obtain ⟨va, vc, rfl, -⟩ := hv
  obtain ⟨ua, uc, rfl, -⟩ := hu
  obtain ⟨ba, bc, rfl, hbc, hbm, -⟩ := hb
  unfold maxLen at hbm
  clear hw
  have hw' := HW.out
  obtain ⟨r, hr⟩ : ∃ r, r = parseF b := ⟨_, rfl⟩
  have hpv : ∀ W V, SliceB W.heap.size W V b → Calls Try.prog 14 #[V] W fun e w' => ∃ va vc ua uc, e = .returned (.tuple #[.agg #[.slice va r.2.1.length vc, .slice ua r.2.2.1.length uc], .int .i64 r.2.2.2, .int .i64 r.1]) ∧
      SliceP w'.heap.size w' (.slice va r.2.1.length vc) r.2.1 ∧ SliceB w'.heap.size w' (.slice ua r.2.2.1.length uc) r.2.2.1 ∧ Below W.heap.size W w' := by rw [hr]; exact fun W V h => parse_v V b W h
  obtain ⟨e1, e2, e3, e4⟩ := HE.out
  rw [← hr] at e1 e2 e3 e4 he
  clear hr HE
  obtain ⟨r1, qs, bd, k⟩ := r
  simp only at e1 e2 e3 e4 he hpv
  subst he
  have HE1 : Hid (wrongN qs bd.length = 0) := e1
  have HE4 : Hid (bytesF qs bd = b.take k) := e4
  clear e1 e4
  have hk2 : (2 : Int) ≤ (k : Int) := by omega
  have hkl : (k : Int) ≤ (b.length : Int) := by omega
  have hkc : (k : Int) ≤ (bc : Int) := by omega
  go_enter Try.func4, Try.ntmps4
  go_wp2_with (first
    | (go_at_call 16; refine (alive_any _).mono ?_; rintro e w1 ⟨rfl, hb1⟩; obtain ⟨k11, k12, k13⟩ := blk_cells (g := w.heap.size) rfl hb1; have b1 : Below w.heap.size w w1 := (below_alloc _ _).trans (hb1.mono (by simp)))
    | (go_at_call 5; refine (wrong_v _ _ ps body _ (HV.out.below b1) (HU.out.below b1) hf).mono ?_; rintro e w2 ⟨rfl, hb2⟩; have b2 : Below w.heap.size w w2 := b1.trans (hb2.mono b1.size))
    | (go_at_call 14; refine (hpv _ _ (HB.out.below b2)).mono ?_; rintro e w3 ⟨pa, pc, qa, qc, rfl, hp3, hq3, hb3⟩))
  have b3 : Below w.heap.size w w3 := b2.trans (hb3.mono b2.size)
  have HK : Hid (∀ W, Below w.heap.size w W → (convert 23 9 (.slice ba k bc)).run Try.prog W = .ok (.string (bstr (b.take k))) W) := fun W hW => conv_str (slice_take (HB.out.below hW) k (by omega))
  have hz3 := b3.size
  have b4' : ∀ o, Below w.heap.size w (w3.alloc o).drew := fun o => (b3.alloc hz3 o).drew
  have hcv := fun o => HK.out _ (b4' o)
  refine wp_region_noPanic ?_
  go_region_held (fun w' => w'.cell? ⟨w3.heap.size, 0, none⟩ = some (.slice pa qs.length pc) ∧ w'.cell? ⟨w3.heap.size, 1, none⟩ = some (.slice qa bd.length qc) ∧ (convert 23 9 (.slice ba k bc)).run Try.prog w' = .ok (.string (bstr (b.take k))) w') (refine ⟨?_, ?_, ?_⟩ <;> first | assumption | (exact HK.out _ (b4' _)) | (simp [go_sem]; done))
    (first
      | (go_at_call 12; refine (bytes_v _ _ qs bd _ (hp3.below (below_alloc _ _)).drew (hq3.below (below_alloc _ _)).drew HE1.out).mono ?_; rintro e w4 ⟨ao, cap, rfl, hown4, hb4⟩; have hcv4 := conv_str (own_slice hown4); have b4 : Below w.heap.size w w4 := (b4' _).trans (hb4.mono (by simp; omega)); have c40 : w4.cell? ⟨w3.heap.size, 0, none⟩ = some (.slice pa qs.length pc) := (hb4.cell (by simp)).trans (by simp); have c41 : w4.cell? ⟨w3.heap.size, 1, none⟩ = some (.slice qa bd.length qc) := (hb4.cell (by simp)).trans (by simp); have hcv5 := HK.out _ b4))
  all_goals refine NoPanic.normal ?_
  all_goals go_wp2
  all_goals go_ret
  all_goals exact ⟨ret_bool (by rw [bstr_toList, bstr_toList, HE4.out]; simp), b4⟩

/-- Two appends to what was just made: below it nothing has turned. -/
theorem app2_below {X w3 w4 w5 : World} {o : Obj} {v v4 : Value} {n m : Nat} {xs ys : List Value} (h3 : Below X.heap.size X w3) (ho : (w3.alloc o).ownsRow w3.heap.size 5 1 v n xs) (hg4 : (w3.alloc o).grownBy w4 v.ownBlock) (ho4 : w4.ownsRow w3.heap.size 5 1 v4 m ys) (hg5 : w4.grownBy w5 v4.ownBlock) : Below X.heap.size X w5 ∧ w3.heap.size ≤ w4.heap.size ∧ Below X.heap.size X w4 := by
  have z := h3.size
  have z4 := hg4.size
  simp at z4
  have a1 : Below w3.heap.size (w3.alloc o) w4 := own_drop ho (by simp) hg4
  have a2 : Below w3.heap.size w4 w5 := own_drop ho4 (by omega) hg5
  have c4 := (h3.alloc z o).trans (a1.mono z)
  exact ⟨c4.trans (a2.mono z), by omega, c4⟩

set_option maxRecDepth 100000 in
set_option maxHeartbeats 3200000 in
theorem turns_right (v u bv : Value) (ps : List PD) (body b : List UInt8) (w : World) (hv : SliceP w.heap.size w v ps) (hu : SliceB w.heap.size w u body) (hb : SliceB w.heap.size w bv b) (hf : ∀ p ∈ ps, p.fits) (hbl : b.length ≤ 140737488351232) (hw : wrongN ps body.length = 0) (he : ¬ (parseF b).1 = 0) :
    Calls Try.prog 4 #[.agg #[v, u], bv] w fun e w' => e = .returned (.bool true) ∧ Below w.heap.size w w' := by
  have HW : Hid (wrongN ps body.length = 0) := hw
  have HE : Hid ((parseF b).2 = ([], [], 0)) := parse_err b he
  have HV : Hid (SliceP w.heap.size w v ps) := hv
  have HU : Hid (SliceB w.heap.size w u body) := hu
  have HB : Hid (SliceB w.heap.size w bv b) := hb
  have HP : Hid (parseF (bytesF ps body ++ b) = (0, ps, body, (bytesF ps body).length)) := parse_there ps body b hw
  have hn : (bytesF ps body).length ≤ 1000 := by
    obtain ⟨h1, h2, h3⟩ := wrongN_zero ps _ hw
    have := propsB_len ps (fun p hp => (right_prop p (h2 p hp)).1)
    simp [bytesF]; omega
  have XV : Hid (∀ o W, Below (w.alloc o).heap.size (w.alloc o) W → SliceP W.heap.size W v ps) := fun o W h => (hv.below (below_alloc w o)).below h
  have XU : Hid (∀ o W, Below (w.alloc o).heap.size (w.alloc o) W → SliceB W.heap.size W u body) := fun o W h => (hu.below (below_alloc w o)).below h
  have XB : Hid (∀ o W, Below (w.alloc o).heap.size (w.alloc o) W → SliceB W.heap.size W bv b) := fun o W h => (hb.below (below_alloc w o)).below h
  obtain ⟨va, vc, rfl, -⟩ := hv
  obtain ⟨ua, uc, rfl, -⟩ := hu
  obtain ⟨ba, bc, rfl, -⟩ := hb
  obtain ⟨N, hN⟩ : ∃ N, N = bytesF ps body := ⟨_, rfl⟩
  rw [← hN] at hn
  have HN : Hid (N = bytesF ps body) := hN
  clear hN hw
  go_enter Try.func4, Try.ntmps4
  go_wp2_with (first
    | (go_at_call 16; refine (alive_any _).mono ?_; rintro e w1 ⟨rfl, c1⟩; obtain ⟨k11, k12, k13⟩ := blk_cells (g := w.heap.size) rfl c1)
    | (go_at_call 5; refine (wrong_v _ _ ps body _ (XV.out _ _ c1) (XU.out _ _ c1) hf).mono ?_; rintro e w2 ⟨rfl, hb2⟩; rw [HW.out]; have c2 := c1.trans (hb2.mono c1.size); obtain ⟨k21, k22, k23⟩ := blk_cells (g := w.heap.size) rfl c2)
    | (go_at_call 12; refine (bytes_v _ _ ps body _ (XV.out _ _ c2) (XU.out _ _ c2) HW.out).mono ?_; rintro e w3 ⟨ao, cap, rfl, own3, hb3⟩; rw [← HN.out] at own3 ⊢; have c3 := c2.trans (hb3.mono c2.size))
    | (at_builtin; refine wpList_app rfl (.tmp 20) (.tmp 21) rfl w3.heap.size (.slice (some ⟨w3.heap.size, 0, none⟩) 0 0) 0 [] rfl (new_own w3 w3.heap.size [] #[] (by simp [maxLen]) rfl (Nat.le_refl _)) w3.heap.size (.slice ao N.length cap) N rfl ((own_slice own3).same (fun j hj => Below.heap_alloc _ _ _ hj)) (by omega) (by simp) ?_; intro ao4 cap4 w4 own4 hg4 hm4)
    | (at_builtin; refine wpList_app rfl (.tmp 22) (.tmp 23) rfl w3.heap.size (.slice ao4 (0 + N.length) cap4) (0 + N.length) ([] ++ u8s N) (by simp [Act.eval]) own4 w4.heap.size (.slice ba b.length bc) b rfl (XB.out _ _ (app2_below (v := .slice (some ⟨w3.heap.size, 0, none⟩) 0 0) (n := 0) (xs := []) c3 (new_own w3 w3.heap.size [] #[] (by simp [maxLen]) rfl (Nat.le_refl _)) hg4 own4 (grownBy_refl _ _)).2.2) (by omega) (app2_below (v := .slice (some ⟨w3.heap.size, 0, none⟩) 0 0) (n := 0) (xs := []) c3 (new_own w3 w3.heap.size [] #[] (by simp [maxLen]) rfl (Nat.le_refl _)) hg4 own4 (grownBy_refl _ _)).2.1 ?_; intro ao5 cap5 w5 own5 hg5 hm5; have c5 := (app2_below (v := .slice (some ⟨w3.heap.size, 0, none⟩) 0 0) (n := 0) (xs := []) c3 (new_own w3 w3.heap.size [] #[] (by simp [maxLen]) rfl (Nat.le_refl _)) hg4 own4 hg5).1)
    | (go_at_call_of 14 ao5; refine (parse_v _ (N ++ b) _ (own_slice (by rw [List.length_append, u8s_append]; simpa using own5))).mono ?_; rintro e w6 ⟨va6, vc6, ua6, uc6, rfl, hv6, hu6, hb6⟩; have hPN := HP.out; rw [← HN.out] at hPN; rw [hPN] at hv6 hu6 ⊢; clear hPN; have c6 := c5.trans (hb6.mono c5.size); obtain ⟨k61, k62, k63⟩ := blk_cells (g := w.heap.size) rfl c6)
    | (go_at_call 9; refine (same_any _ _ _ _ ps ps body body _ ((XV.out _ _ c6).below (below_alloc _ _)) ((XU.out _ _ c6).below (below_alloc _ _)) (hv6.below (below_alloc _ _)) (hu6.below (below_alloc _ _))).mono ?_; rintro e w7 ⟨rfl, hb7⟩; have c7 := c6.trans (((below_alloc _ _).trans (hb7.mono (by simp))).mono c6.size))
    | (go_at_call_of 14 ba; refine (parse_v _ b _ (XB.out _ _ c7)).mono ?_; rintro e w8 ⟨pa, pc, qa, qc, rfl, hp8, hq8, hb8⟩; rw [HE.out] at hp8 hq8 ⊢))
  go_ret
  have c8 := c7.trans (hb8.mono c7.size)
  have b8 := (below_alloc w _).trans (c8.mono (by simp))
  exact ⟨rfl, b8.alloc b8.size _⟩

set_option maxRecDepth 100000 in
set_option maxHeartbeats 6400000 in
theorem turns_right2 (v u bv : Value) (ps : List PD) (body b : List UInt8) (w : World) (hv : SliceP w.heap.size w v ps) (hu : SliceB w.heap.size w u body) (hb : SliceB w.heap.size w bv b) (hf : ∀ p ∈ ps, p.fits) (hbl : b.length ≤ 140737488351232) (hw : wrongN ps body.length = 0) (he : (parseF b).1 = 0) :
    Calls Try.prog 4 #[.agg #[v, u], bv] w fun e w' => e = .returned (.bool true) ∧ Below w.heap.size w w' := by
  have HW : Hid (wrongN ps body.length = 0) := hw
  have HE : Hid _ := parse_back b he
  have HV : Hid (SliceP w.heap.size w v ps) := hv
  have HU : Hid (SliceB w.heap.size w u body) := hu
  have HB : Hid (SliceB w.heap.size w bv b) := hb
  have HP : Hid (parseF (bytesF ps body ++ b) = (0, ps, body, (bytesF ps body).length)) := parse_there ps body b hw
  have hn : (bytesF ps body).length ≤ 1000 := by
    obtain ⟨h1, h2, h3⟩ := wrongN_zero ps _ hw
    have := propsB_len ps (fun p hp => (right_prop p (h2 p hp)).1)
    simp [bytesF]; omega
  have XV : Hid (∀ o W, Below (w.alloc o).heap.size (w.alloc o) W → SliceP W.heap.size W v ps) := fun o W h => (hv.below (below_alloc w o)).below h
  have XU : Hid (∀ o W, Below (w.alloc o).heap.size (w.alloc o) W → SliceB W.heap.size W u body) := fun o W h => (hu.below (below_alloc w o)).below h
  have XB : Hid (∀ o W, Below (w.alloc o).heap.size (w.alloc o) W → SliceB W.heap.size W bv b) := fun o W h => (hb.below (below_alloc w o)).below h
  obtain ⟨va, vc, rfl, -⟩ := hv
  obtain ⟨ua, uc, rfl, -⟩ := hu
  obtain ⟨ba, bc, rfl, hbc, hbm, -⟩ := hb
  unfold maxLen at hbm
  obtain ⟨N, hN⟩ : ∃ N, N = bytesF ps body := ⟨_, rfl⟩
  rw [← hN] at hn
  have HN : Hid (N = bytesF ps body) := hN
  clear hN hw
  obtain ⟨r, hr⟩ : ∃ r, r = parseF b := ⟨_, rfl⟩
  have hpv : ∀ W V, SliceB W.heap.size W V b → Calls Try.prog 14 #[V] W fun e w' => ∃ va vc ua uc, e = .returned (.tuple #[.agg #[.slice va r.2.1.length vc, .slice ua r.2.2.1.length uc], .int .i64 r.2.2.2, .int .i64 r.1]) ∧
      SliceP w'.heap.size w' (.slice va r.2.1.length vc) r.2.1 ∧ SliceB w'.heap.size w' (.slice ua r.2.2.1.length uc) r.2.2.1 ∧ Below W.heap.size W w' := by rw [hr]; exact fun W V h => parse_v V b W h
  obtain ⟨e1, e2, e3, e4⟩ := HE.out
  rw [← hr] at e1 e2 e3 e4 he
  clear hr HE
  obtain ⟨r1, qs, bd, k⟩ := r
  simp only at e1 e2 e3 e4 he hpv
  subst he
  have HE1 : Hid (wrongN qs bd.length = 0) := e1
  have HE4 : Hid (bytesF qs bd = b.take k) := e4
  clear e1 e4
  have hk2 : (2 : Int) ≤ (k : Int) := by omega
  have hkl : (k : Int) ≤ (b.length : Int) := by omega
  have hkc : (k : Int) ≤ (bc : Int) := by omega
  go_enter Try.func4, Try.ntmps4
  go_wp2_with (first
    | (go_at_call 16; refine (alive_any _).mono ?_; rintro e w1 ⟨rfl, c1⟩; obtain ⟨k11, k12, k13⟩ := blk_cells (g := w.heap.size) rfl c1)
    | (go_at_call 5; refine (wrong_v _ _ ps body _ (XV.out _ _ c1) (XU.out _ _ c1) hf).mono ?_; rintro e w2 ⟨rfl, hb2⟩; rw [HW.out]; have c2 := c1.trans (hb2.mono c1.size); obtain ⟨k21, k22, k23⟩ := blk_cells (g := w.heap.size) rfl c2)
    | (go_at_call 12; refine (bytes_v _ _ ps body _ (XV.out _ _ c2) (XU.out _ _ c2) HW.out).mono ?_; rintro e w3 ⟨ao, cap, rfl, own3, hb3⟩; rw [← HN.out] at own3 ⊢; have c3 := c2.trans (hb3.mono c2.size))
    | (at_builtin; refine wpList_app rfl (.tmp 20) (.tmp 21) rfl w3.heap.size (.slice (some ⟨w3.heap.size, 0, none⟩) 0 0) 0 [] rfl (new_own w3 w3.heap.size [] #[] (by simp [maxLen]) rfl (Nat.le_refl _)) w3.heap.size (.slice ao N.length cap) N rfl ((own_slice own3).same (fun j hj => Below.heap_alloc _ _ _ hj)) (by omega) (by simp) ?_; intro ao4 cap4 w4 own4 hg4 hm4)
    | (at_builtin; refine wpList_app rfl (.tmp 22) (.tmp 23) rfl w3.heap.size (.slice ao4 (0 + N.length) cap4) (0 + N.length) ([] ++ u8s N) (by simp [Act.eval]) own4 w4.heap.size (.slice ba b.length bc) b rfl (XB.out _ _ (app2_below (v := .slice (some ⟨w3.heap.size, 0, none⟩) 0 0) (n := 0) (xs := []) c3 (new_own w3 w3.heap.size [] #[] (by simp [maxLen]) rfl (Nat.le_refl _)) hg4 own4 (grownBy_refl _ _)).2.2) (by omega) (app2_below (v := .slice (some ⟨w3.heap.size, 0, none⟩) 0 0) (n := 0) (xs := []) c3 (new_own w3 w3.heap.size [] #[] (by simp [maxLen]) rfl (Nat.le_refl _)) hg4 own4 (grownBy_refl _ _)).2.1 ?_; intro ao5 cap5 w5 own5 hg5 hm5; have c5 := (app2_below (v := .slice (some ⟨w3.heap.size, 0, none⟩) 0 0) (n := 0) (xs := []) c3 (new_own w3 w3.heap.size [] #[] (by simp [maxLen]) rfl (Nat.le_refl _)) hg4 own4 hg5).1)
    | (go_at_call_of 14 ao5; refine (parse_v _ (N ++ b) _ (own_slice (by rw [List.length_append, u8s_append]; simpa using own5))).mono ?_; rintro e w6 ⟨va6, vc6, ua6, uc6, rfl, hv6, hu6, hb6⟩; have hPN := HP.out; rw [← HN.out] at hPN; rw [hPN] at hv6 hu6 ⊢; clear hPN; have c6 := c5.trans (hb6.mono c5.size); obtain ⟨k61, k62, k63⟩ := blk_cells (g := w.heap.size) rfl c6)
    | (go_at_call 9; refine (same_any _ _ _ _ ps ps body body _ ((XV.out _ _ c6).below (below_alloc _ _)) ((XU.out _ _ c6).below (below_alloc _ _)) (hv6.below (below_alloc _ _)) (hu6.below (below_alloc _ _))).mono ?_; rintro e w7 ⟨rfl, hb7⟩; have c7 := c6.trans (((below_alloc _ _).trans (hb7.mono (by simp))).mono c6.size))
    | (go_at_call_of 14 ba; refine (hpv _ _ (XB.out _ _ c7)).mono ?_; rintro e w8 ⟨pa, pc, qa, qc, rfl, hp3, hq3, hb8⟩))
  have c8 := c7.trans (hb8.mono c7.size)
  have b8 : Below w.heap.size w w8 := (below_alloc w _).trans (c8.mono (by simp))
  have HK : Hid (∀ W, Below w.heap.size w W → (convert 23 9 (.slice ba k bc)).run Try.prog W = .ok (.string (bstr (b.take k))) W) := fun W hW => conv_str (slice_take (HB.out.below hW) k (by omega))
  have hz8 := b8.size
  have b9' : ∀ o, Below w.heap.size w (w8.alloc o).drew := fun o => (b8.alloc hz8 o).drew
  have hcv := fun o => HK.out _ (b9' o)
  refine wp_region_noPanic ?_
  go_region_held (fun w' => w'.cell? ⟨w8.heap.size, 0, none⟩ = some (.slice pa qs.length pc) ∧ w'.cell? ⟨w8.heap.size, 1, none⟩ = some (.slice qa bd.length qc) ∧ (convert 23 9 (.slice ba k bc)).run Try.prog w' = .ok (.string (bstr (b.take k))) w') (refine ⟨?_, ?_, ?_⟩ <;> first | assumption | (exact HK.out _ (b9' _)) | (simp [go_sem]; done))
    (first
      | (go_at_call 12; refine (bytes_v _ _ qs bd _ (hp3.below (below_alloc _ _)).drew (hq3.below (below_alloc _ _)).drew HE1.out).mono ?_; rintro e w9 ⟨ao9, cap9, rfl, hown9, hb9⟩; have hcv9 := conv_str (own_slice hown9); have b9 : Below w.heap.size w w9 := (b9' _).trans (hb9.mono (by simp; omega)); have c40 : w9.cell? ⟨w8.heap.size, 0, none⟩ = some (.slice pa qs.length pc) := (hb9.cell (by simp)).trans (by simp); have c41 : w9.cell? ⟨w8.heap.size, 1, none⟩ = some (.slice qa bd.length qc) := (hb9.cell (by simp)).trans (by simp); have hcv5 := HK.out _ b9))
  all_goals refine NoPanic.normal ?_
  all_goals go_wp2
  all_goals go_ret
  all_goals exact ⟨ret_bool (by rw [bstr_toList, bstr_toList, HE4.out]; simp), b9⟩

end Go.Proofs.Ytplfcabkhpchdaa
