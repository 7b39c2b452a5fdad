/-
  tgref1.Crash and Append answer what crashB, appE and appB say.
-/
import Derived.Test.YtdfledgcpceckaaRefRecs
namespace Go.Proofs.Ytdfledgcpceckaa
open Go.RowKit
set_option linter.unusedVariables false
set_option linter.unusedSimpArgs false

attribute [local go_sem ↓] Go.wp_at_zero Go.wp_at_succ

set_option maxRecDepth 100000 in
set_option maxHeartbeats 1600000 in
theorem refCrash_any (u : Value) (sure keep : Int) (l : List UInt8) (w : World) (hu : SliceB w.heap.size w u l) (hs : 0 ≤ sure) (hs2 : sure ≤ l.length) (hk : keep ≤ 9223372036854775807) (hk2 : -9223372036854775808 ≤ keep) (hl : l.length ≤ 1000000000) :
    Calls Try.prog 30 #[.agg #[u, .int .i64 sure], .int .i64 keep] w fun e w' => ∃ ao cap, e = .returned (.agg #[.slice ao (crashB l sure keep).length cap, .int .i64 (crashB l sure keep).length]) ∧ SliceB w'.heap.size w' (.slice ao (crashB l sure keep).length cap) (crashB l sure keep) ∧ Below w.heap.size w w' := by
  obtain ⟨kb0, kb1, kb2⟩ := keptN_bounds l.length sure keep hs hs2
  obtain ⟨n, hn⟩ : ∃ n : Nat, keptN l.length sure keep = n := ⟨(keptN l.length sure keep).toNat, by omega⟩
  have hnl : n ≤ l.length := by omega
  have hz := recsF_size (l.take n)
  rw [List.length_take, Nat.min_eq_left hnl] at hz
  obtain ⟨S, hS⟩ : ∃ S, S = sizeR (recsF (l.take n)) := ⟨_, rfl⟩
  have HS : Hid (S = sizeR (recsF (l.take n))) := hS
  rw [← hS] at hz
  have HC : Hid (crashB l sure keep = l.take S) := by show _ = _; rw [crashB, leftB, hn, hS]; simp [List.take_take]; omega
  have HCL : Hid ((crashB l sure keep).length = S) := by show _ = _; rw [HC.out]; simp; omega
  rw [HCL.out]
  have X2 : Hid (∀ o1 o2 W, Below ((w.alloc o1).alloc o2).heap.size ((w.alloc o1).alloc o2) W → SliceB W.heap.size W u l) := fun o1 o2 W h => ((hu.below (below_alloc _ o1)).below (below_alloc _ o2)).below h
  have HU0 : Hid (SliceB w.heap.size w u l) := hu
  obtain ⟨ua, uc, rfl, hu1, hu2, -⟩ := hu
  unfold maxLen at hu2
  have hnc : (n : Int) ≤ (uc : Int) := by omega
  have hSc : (S : Int) ≤ (uc : Int) := by omega
  have hn0 : (0 : Int) ≤ (n : Int) := by omega
  have hS0 : (0 : Int) ≤ (S : Int) := by omega
  unfold keptN at hn
  clear kb0 kb1 kb2 hS
  have fin : Hid (∀ o1 o2 w2, Below ((w.alloc o1).alloc o2).heap.size ((w.alloc o1).alloc o2) w2 → ∀ x y, ∃ ao cap, Ending.returned (.agg #[.slice ua S uc, .int .i64 S]) = .returned (.agg #[.slice ao S cap, .int .i64 S]) ∧ SliceB ((w2.setCell ⟨w.heap.size + 1, 0, none⟩ x).setCell ⟨w.heap.size + 1, 1, none⟩ y).heap.size ((w2.setCell ⟨w.heap.size + 1, 0, none⟩ x).setCell ⟨w.heap.size + 1, 1, none⟩ y) (.slice ao S cap) (crashB l sure keep) ∧ Below w.heap.size w ((w2.setCell ⟨w.heap.size + 1, 0, none⟩ x).setCell ⟨w.heap.size + 1, 1, none⟩ y)) := by
    show ∀ o1 o2 w2, _
    intro o1 o2 w2 hb2 x y
    have bf : Below w.heap.size w ((w2.setCell ⟨w.heap.size + 1, 0, none⟩ x).setCell ⟨w.heap.size + 1, 1, none⟩ y) := ((((below_alloc _ _).alloc (by simp) _).trans (hb2.mono (by simp; omega))).setCell (by simp) _).setCell (by simp) _
    exact ⟨_, _, rfl, by rw [HC.out]; exact slice_take' (HU0.out.below bf) S (by omega), bf⟩
  by_cases h1 : keep < 0
  · by_cases h2 : (0 : Int) < (l.length : Int) - sure
    · have hsn : sure = (n : Int) := by omega
      subst hsn
      clear hn
      go_enter Try.func30, Try.ntmps30
      go_wp2_with (go_at_call 32; refine (refRecords_any _ (l.take n) _ (slice_take (X2.out _ _ _ (Below.refl _ _)) n hnl) (by simp; omega)).mono ?_; rintro e w2 ⟨ra, rc, rfl, hr2, hb2⟩; rw [← HS.out]; obtain ⟨k1, k2⟩ := bcell hb2; have hz2 := hb2.size; simp at hz2)
      exact bodyPost_ret (v := .agg #[.slice ua S uc, .int .i64 S]) (by simp [results, Try.results30, go_sem, *]; done) rfl (fin.out _ _ _ hb2 _ _)
    · obtain rfl : n = l.length := by omega
      have hsn : sure = (l.length : Int) := by omega
      subst hsn
      clear hn
      go_enter Try.func30, Try.ntmps30
      go_wp2_with (go_at_call 32; refine (refRecords_any _ (l.take l.length) _ (slice_take (X2.out _ _ _ (Below.refl _ _)) l.length hnl) (by simp; omega)).mono ?_; rintro e w2 ⟨ra, rc, rfl, hr2, hb2⟩; rw [← HS.out]; obtain ⟨k1, k2⟩ := bcell hb2; have hz2 := hb2.size; simp at hz2)
      exact bodyPost_ret (v := .agg #[.slice ua S uc, .int .i64 S]) (by simp [results, Try.results30, go_sem, *]; done) rfl (fin.out _ _ _ hb2 _ _)
  · by_cases h2 : keep < (l.length : Int) - sure
    · have hsn : sure + keep = (n : Int) := by omega
      clear hn
      go_enter Try.func30, Try.ntmps30
      go_wp2_with (go_at_call 32; refine (refRecords_any _ (l.take n) _ (slice_take (X2.out _ _ _ (Below.refl _ _)) n hnl) (by simp; omega)).mono ?_; rintro e w2 ⟨ra, rc, rfl, hr2, hb2⟩; rw [← HS.out]; obtain ⟨k1, k2⟩ := bcell hb2; have hz2 := hb2.size; simp at hz2)
      exact bodyPost_ret (v := .agg #[.slice ua S uc, .int .i64 S]) (by simp [results, Try.results30, go_sem, *]; done) rfl (fin.out _ _ _ hb2 _ _)
    · obtain rfl : n = l.length := by omega
      clear hn
      go_enter Try.func30, Try.ntmps30
      go_wp2_with (go_at_call 32; refine (refRecords_any _ (l.take l.length) _ (slice_take (X2.out _ _ _ (Below.refl _ _)) l.length hnl) (by simp; omega)).mono ?_; rintro e w2 ⟨ra, rc, rfl, hr2, hb2⟩; rw [← HS.out]; obtain ⟨k1, k2⟩ := bcell hb2; have hz2 := hb2.size; simp at hz2)
      exact bodyPost_ret (v := .agg #[.slice ua S uc, .int .i64 S]) (by simp [results, Try.results30, go_sem, *]; done) rfl (fin.out _ _ _ hb2 _ _)

theorem muchB_true (rs : List (List UInt8)) (k : Nat) (hk : k < rs.length) (h : 65536 ≤ rs[k].length) : muchB rs = true := by
  unfold muchB
  rw [List.any_eq_true]
  exact ⟨rs[k], List.getElem_mem _, by simpa using h⟩
theorem muchB_none (rs : List (List UInt8)) (h : ∀ j (hj : j < rs.length), rs[j].length < 65536) : muchB rs = false := by
  unfold muchB
  rw [List.any_eq_false]
  intro r hr
  obtain ⟨j, hj, rfl⟩ := List.getElem_of_mem hr
  have := h j hj
  simpa using this
theorem app_much (l : List UInt8) (rs : List (List UInt8)) (h : muchB rs = true) : appE l rs = 4 ∧ appB l rs = [] := by
  have e : appE l rs = 4 := by simp [appE, h]
  exact ⟨e, by simp [appB, e]⟩
theorem app_full (l : List UInt8) (rs : List (List UInt8)) (h : muchB rs = false) (hf : 6000 < l.length + sizeR rs) : appE l rs = 8 ∧ appB l rs = [] := by
  have e : appE l rs = 8 := by simp [appE, h, hf]
  exact ⟨e, by simp [appB, e]⟩
theorem app_ok (l : List UInt8) (rs : List (List UInt8)) (h : muchB rs = false) (hf : ¬ 6000 < l.length + sizeR rs) : appE l rs = 0 ∧ appB l rs = l ++ framesB rs := by
  have e : appE l rs = 0 := by simp [appE, h, hf]
  exact ⟨e, by simp [appB, e]⟩

set_option maxRecDepth 100000 in
set_option maxHeartbeats 1600000 in
theorem refAppend_at (u v : Value) (sure : Int) (l : List UInt8) (rs : List (List UInt8)) (w : World) (hu : SliceB w.heap.size w u l) (hv : SliceS w.heap.size w v rs) (hn : rs.length ≤ 1048576) (hll : l.length ≤ 20000) (Bb : List UInt8) (s' E : Int) (hall : Hid (Bb = appB l rs ∧ s' = (if appE l rs = 0 then sure else 0) ∧ E = appE l rs)) :
    Calls Try.prog 28 #[.agg #[u, .int .i64 sure], v] w fun e w' => LogIs w w' e Bb s' E := by
  have HV : Hid (SliceS w.heap.size w v rs) := hv
  have HU : Hid (SliceB w.heap.size w u l) := hu
  obtain ⟨va, vc, rfl, hv1, hv2⟩ := hv.shape
  obtain ⟨ua, uc, rfl, hu1, hu2, -⟩ := hu
  unfold maxLen at hu2
  have hno : ∀ W : World, W.heap.size = w.heap.size + 1 + 1 → (W.alloc (.cells #[] 5)).ownsRow (w.heap.size + 2) 5 1 (.slice (some ⟨w.heap.size + 1 + 1, 0, none⟩) 0 0) ([] : List UInt8).length (u8s []) := fun W e => by rw [← e]; exact new_own W _ [] #[] (by simp [maxLen]) rfl (by omega)
  have HNO : Hid (∀ W : World, _ → _) := hno
  clear hno hv
  go_enter Try.func28, Try.ntmps28
  go_wp2_with (first
    | (at_builtin; refine wpList_appT rfl (.tmp 9) (.tmp 11) rfl (w.heap.size + 2) _ [] rfl (HNO.out _ (by simp)) w.heap.size _ l rfl (HU.out.same (fun k hk => (Below.heap_alloc _ _ _ (by simp; omega)).trans ((Below.heap_alloc _ _ _ (by simp; omega)).trans (Below.heap_alloc _ _ _ (by omega))))) l (by simp) (by omega) (by simp) ?_; intro ao1 cap1 w1 hown1 hw1))
  have c1 : Below (w.heap.size + 2) ((w.alloc (.cells #[.slice ua l.length uc, .int .i64 sure] 38)).alloc (.cells #[.slice none 0 0, .int .i64 0] 38)) w1 := ((Below.refl _ _).alloc (by simp) _).trans hw1
  have V2 : Hid (∀ W, Below (w.heap.size + 2) ((w.alloc (.cells #[.slice ua l.length uc, .int .i64 sure] 38)).alloc (.cells #[.slice none 0 0, .int .i64 0] 38)) W → SliceS W.heap.size W (.slice va rs.length vc) rs) := fun W h => by
    refine HV.out.below ⟨?_, ?_, ?_, ?_, ?_⟩
    · exact h.os
    · exact h.tape
    · exact h.output
    · have := h.size; simp at this; omega
    · intro j hj
      exact (h.block j (by omega)).trans ((Below.heap_alloc _ _ _ (by simp; omega)).trans (Below.heap_alloc _ _ _ hj))
  have hown1' : w1.ownsRow (w.heap.size + 2) 5 1 (.slice ao1 l.length cap1) (l ++ framesB (rs.take 0)).length (u8s (l ++ framesB (rs.take 0))) := by
    simpa [framesB] using hown1
  have H1 : Hid (w1.ownsRow (w.heap.size + 2) 5 1 (.slice ao1 l.length cap1) (l ++ framesB (rs.take 0)).length (u8s (l ++ framesB (rs.take 0)))) := hown1'
  clear hown1 hown1' hw1
  go_loopw [6, 15] (fun v i wr => ∃ k : Nat, k ≤ rs.length ∧ i = .int .i64 k ∧ Below (w.heap.size + 2) ((w.alloc (.cells #[.slice ua l.length uc, .int .i64 sure] 38)).alloc (.cells #[.slice none 0 0, .int .i64 0] 38)) wr ∧
      wr.ownsRow (w.heap.size + 2) 5 1 v (l ++ framesB (rs.take k)).length (u8s (l ++ framesB (rs.take k))) ∧ ∀ j (hj : j < rs.length), j < k → rs[j].length < 65536)
    (fun _ i _ => rs.length - (intOf i).toNat)
  case atStart => exact ⟨0, Nat.zero_le _, rfl, c1, H1.out, fun j hj h => by omega⟩
  case round =>
    obtain ⟨k, hk, rfl, cr, hown, hsm⟩ := hrel
    obtain ⟨xs, hxs⟩ : ∃ xs, xs = l ++ framesB (rs.take k) := ⟨_, rfl⟩
    have hxl : xs.length ≤ 70000000000 := by
      rw [hxs, List.length_append, framesB_len]
      have h1 := sizeR_bound (rs.take k) 65535 (fun r hr => by
        obtain ⟨j, hj, rfl⟩ := List.getElem_of_mem hr
        simp at hj
        have := hsm j (by omega) (by omega)
        simp
        omega)
      have h2 : (rs.take k).length ≤ 1048576 := by simp; omega
      have h3 := Nat.mul_le_mul_right 65539 h2
      omega
    have HSM : Hid (∀ j (hj : j < rs.length), j < k → rs[j].length < 65536) := hsm
    have HX : Hid (xs = l ++ framesB (rs.take k)) := hxs
    rw [← hxs] at hown
    clear hxs hsm
    have hzr := cr.size
    simp at hzr
    obtain ⟨va', vc', rfl, hcc1, hcc2, -⟩ := own_shape hown
    unfold maxLen at hcc2
    have k0 : wr.cell? ⟨w.heap.size, 1, none⟩ = some (.int .i64 sure) := (cr.cell (by simp)).trans (by simp)
    have k2 : ∀ o, wr.frozen? ⟨w.heap.size + 1, o, none⟩ = false := fun o => (cr.frozen (by simp)).trans (by simp)
    have k3 : wr.cell? ⟨w.heap.size + 1, 0, none⟩ = some (.slice none 0 0) := (cr.cell (by simp)).trans (by simp)
    have k4 : wr.cell? ⟨w.heap.size + 1, 1, none⟩ = some (.int .i64 0) := (cr.cell (by simp)).trans (by simp)
    have bw : Hid (∀ x y, Below w.heap.size w ((wr.setCell ⟨w.heap.size + 1, 0, none⟩ x).setCell ⟨w.heap.size + 1, 1, none⟩ y)) := fun x y => (((((below_alloc _ _).alloc (by simp) _)).trans (cr.mono (by omega))).setCell (by simp) _).setCell (by simp) _
    by_cases hlt : k < rs.length
    · obtain ⟨g, off, ra, rc, rfl, hc, hs, hg, hr1, hr2⟩ := (V2.out wr cr).at k hlt
      have HF : Hid (framesB (rs.take (k + 1)) = framesB (rs.take k) ++ frameB rs[k]) := framesB_take rs k hlt
      by_cases hmuch : 65536 ≤ rs[k].length
      · have HM : Hid (appE l rs = 4 ∧ appB l rs = []) := app_much l rs (muchB_true rs k hlt hmuch)
        obtain ⟨R, hR⟩ : ∃ R, R = rs[k].length := ⟨_, rfl⟩
        rw [← hR] at hc hr2 hmuch
        have hyes : (65536 : Int) ≤ (R : Int) := by omega
        clear hR hs hmuch
        go_wp2
        refine bodyPost_ret (v := .tuple #[.agg #[.slice none 0 0, .int .i64 0], .int .i64 4]) (by simp [results, Try.results28, go_sem, *]; done) rfl ?_
        obtain ⟨q1, q2, q3⟩ := hall.out
        rw [q1, q2, q3, HM.out.1, HM.out.2]
        exact ⟨_, _, rfl, SliceB.nil _ _, bw.out _ _⟩
      · obtain ⟨r, hr⟩ : ∃ r, r = rs[k] := ⟨_, rfl⟩
        rw [← hr] at hc hr2 hmuch HF hs
        have hnot : ¬ (65536 : Int) ≤ (r.length : Int) := by omega
        have HRL : Hid (r.length < 65536) := by show _ < _; omega
        have HSS : Hid (SliceB wr.heap.size wr (.slice ra r.length rc) r) := hs
        have HRR : Hid (r = rs[k]) := hr
        have hfb := frameB_len r
        obtain ⟨F, hF⟩ : ∃ F, F = frameB r := ⟨_, rfl⟩
        have HFF : Hid (F = frameB r) := hF
        rw [← hF] at hfb HF
        have hfb2 : F.length ≤ 70000 := by omega
        clear hr hs hF hfb hmuch
        go_wp2_with (first
          | (go_at_call 23; refine (refFrame_any _ r _ HSS.out HRL.out).mono ?_; rw [← HFF.out]; rintro e w2 ⟨ao2, cap2, rfl, hown2, hw2⟩)
          | (at_builtin; refine wpList_appT rfl (.tmp 23) (.tmp 25) rfl (w.heap.size + 2) _ xs rfl (own_below hown hw2) _ _ F rfl (own_slice hown2) (xs ++ F) rfl (by simp; omega) (by have := hw2.size; omega) ?_; intro ao3 cap3 w3 hown3 hw3))
        go_roundw
        case rel =>
          refine ⟨k + 1, by omega, by go_num, (cr.trans (hw2.mono (by omega))).trans hw3, ?_, fun j hj hjk => ?_⟩
          · have e1 : l ++ framesB (rs.take (k + 1)) = xs ++ F := by rw [HF.out, HX.out]; simp
            rw [e1, ← List.length_append]; exact hown3
          · by_cases hj2 : j < k
            · exact HSM.out j hj hj2
            · obtain rfl : j = k := by omega
              rw [← HRR.out]; exact HRL.out
        case measure => simp [intOf]; omega
    · have hmn : muchB rs = false := muchB_none rs (fun j hj => HSM.out j hj (by omega))
      have ej : xs = l ++ framesB rs := by rw [HX.out, show k = rs.length by omega, List.take_of_length_le (Nat.le_refl _)]
      have hxz : xs.length = l.length + sizeR rs := by rw [ej, List.length_append, framesB_len]
      have EJ : Hid (xs = l ++ framesB rs) := ej
      by_cases hf : 6000 < l.length + sizeR rs
      · have HM : Hid (appE l rs = 8 ∧ appB l rs = []) := app_full l rs hmn hf
        have hgt : (6000 : Int) < (xs.length : Int) := by omega
        clear ej hxz hf hmn
        go_wp2
        refine bodyPost_ret (v := .tuple #[.agg #[.slice none 0 0, .int .i64 0], .int .i64 8]) (by simp [results, Try.results28, go_sem, *]; done) rfl ?_
        obtain ⟨q1, q2, q3⟩ := hall.out
        rw [q1, q2, q3, HM.out.1, HM.out.2]
        exact ⟨_, _, rfl, SliceB.nil _ _, bw.out _ _⟩
      · have HM : Hid (appE l rs = 0 ∧ appB l rs = l ++ framesB rs) := app_ok l rs hmn hf
        have hgt : ¬ (6000 : Int) < (xs.length : Int) := by omega
        clear ej hxz hf hmn
        go_wp2
        refine bodyPost_ret (v := .tuple #[.agg #[.slice va' xs.length vc', .int .i64 sure], .int .i64 0]) (by simp [results, Try.results28, go_sem, *]; done) rfl ?_
        obtain ⟨q1, q2, q3⟩ := hall.out
        rw [q1, q2, q3, HM.out.1, HM.out.2, ← EJ.out]
        exact ⟨_, _, rfl, own_slice (ownsRow_setCell_below (ownsRow_setCell_below hown (by simp) _) (by simp) _), bw.out _ _⟩

theorem refAppend_any (u v : Value) (sure : Int) (l : List UInt8) (rs : List (List UInt8)) (w : World) (hu : SliceB w.heap.size w u l) (hv : SliceS w.heap.size w v rs) (hn : rs.length ≤ 1048576) (hll : l.length ≤ 20000) :
    Calls Try.prog 28 #[.agg #[u, .int .i64 sure], v] w fun e w' => LogIs w w' e (appB l rs) (if appE l rs = 0 then sure else 0) (appE l rs) :=
  refAppend_at u v sure l rs w hu hv hn hll _ _ _ ⟨rfl, rfl, rfl⟩
end Go.Proofs.Ytdfledgcpceckaa
