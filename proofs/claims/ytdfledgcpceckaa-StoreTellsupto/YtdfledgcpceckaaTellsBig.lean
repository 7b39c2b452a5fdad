/-
  tglaw2.StoreTells, where the bytes are too many for a frame to be asked for: true.
-/
import Derived.Test.YtdfledgcpceckaaTells
namespace Go.Proofs.Ytdfledgcpceckaa
open Go.RowKit
set_option linter.unusedVariables false
set_option linter.unusedSimpArgs false

attribute [local go_sem ↓] Go.wp_at_zero Go.wp_at_succ

set_option maxRecDepth 100000 in
set_option maxHeartbeats 6400000 in
theorem tells_big (u rv bv : Value) (sure keep : Int) (l b : List UInt8) (rs : List (List UInt8)) (w : World) (hu : SliceB w.heap.size w u l) (hv : SliceS w.heap.size w rv rs) (hb : SliceB w.heap.size w bv b) (hs1 : 0 ≤ sure) (hs2 : sure ≤ l.length) (hl : l.length ≤ 20000) (hn : rs.length ≤ 1048576) (hbl : b.length ≤ 1048576) (hk1 : keep ≤ 9223372036854775807) (hk2 : -9223372036854775808 ≤ keep) (hb6 : ¬ b.length < 60000) :
    Calls Try.prog 5 #[.agg #[u, .int .i64 sure], rv, bv, .int .i64 keep] w fun e w' => e = .returned (.bool true) ∧ Below w.heap.size w w' := by
  obtain ⟨Bb, hBb⟩ : ∃ Bb, Bb = appB l rs := ⟨_, rfl⟩
  obtain ⟨E, hE⟩ : ∃ E, E = appE l rs := ⟨_, rfl⟩
  obtain ⟨s', hs'⟩ : ∃ s' : Int, s' = if appE l rs = 0 then sure else 0 := ⟨_, rfl⟩
  have HA27 : Hid (∀ U V W, SliceB W.heap.size W U l → SliceS W.heap.size W V rs → Calls Try.prog 27 #[.agg #[U, .int .i64 sure], V] W fun e w' => LogIs W w' e Bb s' E) := fun U V W h1 h2 => by rw [hBb, hs', hE]; exact append_any U V sure l rs W h1 h2 (by omega) (by omega)
  have HA28 : Hid (∀ U V W, SliceB W.heap.size W U l → SliceS W.heap.size W V rs → Calls Try.prog 28 #[.agg #[U, .int .i64 sure], V] W fun e w' => LogIs W w' e Bb s' E) := fun U V W h1 h2 => by rw [hBb, hs', hE]; exact refAppend_any U V sure l rs W h1 h2 hn hl
  obtain ⟨C, hC⟩ : ∃ C, C = crashB l sure keep := ⟨_, rfl⟩
  have HA29 : Hid (∀ U W, SliceB W.heap.size W U l → Calls Try.prog 29 #[.agg #[U, .int .i64 sure], .int .i64 keep] W fun e w' => ∃ ao cap, e = .returned (.agg #[.slice ao C.length cap, .int .i64 C.length]) ∧ SliceB w'.heap.size w' (.slice ao C.length cap) C ∧ Below W.heap.size W w') := fun U W h => by rw [hC]; exact crash_any U sure keep l W h hs1 hs2 hk1 hk2 (by omega)
  have HA30 : Hid (∀ U W, SliceB W.heap.size W U l → Calls Try.prog 30 #[.agg #[U, .int .i64 sure], .int .i64 keep] W fun e w' => ∃ ao cap, e = .returned (.agg #[.slice ao C.length cap, .int .i64 C.length]) ∧ SliceB w'.heap.size w' (.slice ao C.length cap) C ∧ Below W.heap.size W w') := fun U W h => by rw [hC]; exact refCrash_any U sure keep l W h hs1 hs2 hk1 hk2 (by omega)
  obtain ⟨R, hR⟩ : ∃ R, R = recsF b := ⟨_, rfl⟩
  obtain ⟨ZR, hZR⟩ : ∃ ZR, ZR = sizeR (recsF b) := ⟨_, rfl⟩
  have HA31 : Hid (∀ U W, SliceB W.heap.size W U b → Calls Try.prog 31 #[U] W fun e w' => ∃ a cap, e = .returned (.tuple #[.slice a R.length cap, .int .i64 ZR]) ∧ SliceS w'.heap.size w' (.slice a R.length cap) R ∧ Below W.heap.size W w') := fun U W h => by rw [hR, hZR]; exact records_any U b W h (by omega)
  have HA32 : Hid (∀ U W, SliceB W.heap.size W U b → Calls Try.prog 32 #[U] W fun e w' => ∃ a cap, e = .returned (.tuple #[.slice a R.length cap, .int .i64 ZR]) ∧ SliceS w'.heap.size w' (.slice a R.length cap) R ∧ Below W.heap.size W w') := fun U W h => by rw [hR, hZR]; exact refRecords_any U b W h (by omega)
  have hRl : R.length ≤ 1048576 := by have h1 := recsF_size b; have h2 := sizeR_len4 (recsF b); rw [hR]; omega
  clear hBb hE hs' hC hR hZR
  obtain ⟨X, hX⟩ : ∃ X, X = w.alloc (.cells #[u, .int .i64 sure] 38) := ⟨_, rfl⟩
  have c0 : Below X.heap.size X X := Below.refl _ _
  have b0 : Below w.heap.size w X := by rw [hX]; exact below_alloc _ _
  have XU : Hid (∀ W, Below X.heap.size X W → SliceB W.heap.size W u l) := fun W h => (hu.below b0).below h
  have XV : Hid (∀ W, Below X.heap.size X W → SliceS W.heap.size W rv rs) := fun W h => (hv.below b0).below h
  have XB : Hid (∀ W, Below X.heap.size X W → SliceB W.heap.size W bv b) := fun W h => (hb.below b0).below h
  have XC : Hid (∀ W, Below X.heap.size X W → W.cell? ⟨w.heap.size, 0, none⟩ = some u ∧ W.cell? ⟨w.heap.size, 1, none⟩ = some (.int .i64 sure)) := fun W h => box_cells (by rw [← hX]; exact h)
  obtain ⟨ua, uc, rfl, u1, u2, -⟩ := hu
  obtain ⟨va, vc, rfl, v1, v2⟩ := hv.shape
  obtain ⟨ba, bc, rfl, b1, b2, -⟩ := hb
  unfold maxLen at u2 b2
  obtain ⟨nb, hnb⟩ : ∃ nb, nb = b.length := ⟨_, rfl⟩
  have HNB : Hid (nb = b.length) := hnb
  have HBL : Hid (b.length ≤ 1048576) := hbl
  rw [← hnb] at b1 XB ⊢
  clear hv
  have HB0 : Hid (Below w.heap.size w X) := b0
  obtain ⟨k01, k02⟩ := XC.out X c0
  obtain ⟨SB, hSB⟩ : ∃ SB, SB = sumF b := ⟨_, rfl⟩
  have H20 : Hid (SB = sumF b) := hSB
  obtain ⟨F, hF⟩ : ∃ F, F = frameB b := ⟨_, rfl⟩
  have H22 : Hid (F = frameB b) := hF
  have hp1 : ¬ sure < 0 := by omega
  have hp2 : ¬ (l.length : Int) < sure := by omega
  have hp3 : ¬ (20000 : Int) < (l.length : Int) := by omega
  have hnb2 : nb ≤ 1048576 := by omega
  have hd6 : decide ((nb : Int) < 60000) = false := decide_eq_false (by omega)
  clear hSB hF b0 hbl hnb hb6
  go_enter Try.func5, Try.ntmps5
  go_upto_region 3 with fail
  rw [← hX]
  clear hX
  go_cut [72] from 18 (fun c wx => c = .bool false ∧ Below X.heap.size X wx)
  case first =>
    refine wp_region_noPanic ?_
    first
      | (go_region_held (fun w' => w'.cell? ⟨w.heap.size, 0, none⟩ = some (.slice ua l.length uc) ∧ w'.cell? ⟨w.heap.size, 1, none⟩ = some (.int .i64 sure)) (first | exact ⟨k81, k82⟩ | exact ⟨k71, k72⟩ | exact ⟨k61, k62⟩ | exact ⟨k51, k52⟩ | exact ⟨k01, k02⟩)
              (first
                | (go_at_call 20; refine (sum_any _ _ b _ (XB.out _ c0).drew).mono ?_; rw [← H20.out]; rintro e w1 ⟨rfl, rfl⟩)
                | (go_at_call 21; refine (refSum_any _ _ b _ (XB.out _ c0).drew).mono ?_; rw [← H20.out]; rintro e w2 ⟨rfl, rfl⟩)
                | (go_at_call 25; refine (own_any _ sure l _ (XU.out _ c0).drew (by omega)).mono ?_; rintro e w5 ⟨ao5, cap5, rfl, hs5, hw5⟩; have c5 := c0.drew.trans (hw5.mono c0.drew.size); obtain ⟨k51, k52⟩ := XC.out _ c5)
                | (go_at_call_of 24 ao5; refine (sameLog_eq _ _ sure l _ hs5 (XU.out _ c5)).mono ?_; rintro e w6 ⟨rfl, hw6⟩; have c6 := c5.trans (hw6.mono c5.size); obtain ⟨k61, k62⟩ := XC.out _ c6)
                | (go_at_call 26; refine (sync_any _ sure l _ (XU.out _ c6) (by omega)).mono ?_; rintro e w7 ⟨ao7, cap7, rfl, hs7, hw7⟩; have c7 := c6.trans (hw7.mono c6.size); obtain ⟨k71, k72⟩ := XC.out _ c7)
                | (go_at_call_of 24 ao7; refine (sameLog_eq _ _ l.length l _ hs7 (XU.out _ c7)).mono ?_; rintro e w8 ⟨rfl, hw8⟩; have c8 := c7.trans (hw8.mono c7.size); obtain ⟨k81, k82⟩ := XC.out _ c8)))
      | fail
    all_goals refine NoPanic.normal ?_
    all_goals (go_wp2_with fail; go_meet; exact ⟨rfl, c8⟩)
  case rest =>
    obtain ⟨rfl, c8⟩ := hcut
    obtain ⟨k81, k82⟩ := XC.out _ c8
    go_upto_region 7 with (first
      | (go_at_call 27; refine (HA27.out _ _ _ (XU.out _ c8) (XV.out _ c8)).mono ?_; rintro e w9 ⟨ao9, cap9, rfl, hs9, hw9⟩; have c9 := c8.trans (hw9.mono c8.size); obtain ⟨k91, k92⟩ := XC.out _ c9; have hz9 : w.heap.size < w9.heap.size := World.block_lt_of_cell? _ _ k91; have H9 : Hid (SliceB w9.heap.size w9 (.slice ao9 Bb.length cap9) Bb) := hs9; clear hs9)
      | (go_at_call 28; refine (HA28.out _ _ _ (XU.out _ (c9.alloc c9.size _)) (XV.out _ (c9.alloc c9.size _))).mono ?_; rintro e w10 ⟨ao10, cap10, rfl, hs10, hw10⟩; have c10 := (c9.alloc c9.size (.cells #[.slice ao9 Bb.length cap9, .int .i64 s'] 38)).trans (hw10.mono (c9.alloc c9.size _).size); obtain ⟨k101, k102⟩ := XC.out _ c10; have H10 : Hid (SliceB w10.heap.size w10 (.slice ao10 Bb.length cap10) Bb) := hs10; clear hs10))
    obtain ⟨Y, hY⟩ : ∃ Y, Y = w10.alloc (.cells #[.slice ao10 Bb.length cap10, .int .i64 s'] 38) := ⟨_, rfl⟩
    have hwY : Below w10.heap.size w10 Y := by rw [hY]; exact below_alloc _ _
    have cY : Below X.heap.size X Y := c10.trans (hwY.mono c10.size)
    have HY9 : Hid (SliceB Y.heap.size Y (.slice ao9 Bb.length cap9) Bb) := ((H9.out.below (below_alloc _ _)).below hw10).below hwY
    have HY10 : Hid (SliceB Y.heap.size Y (.slice ao10 Bb.length cap10) Bb) := H10.out.below hwY
    have YC : Hid (∀ W, Below Y.heap.size Y W → W.cell? ⟨w.heap.size, 0, none⟩ = some (.slice ua l.length uc) ∧ W.cell? ⟨w.heap.size, 1, none⟩ = some (.int .i64 sure) ∧ W.cell? ⟨w9.heap.size, 0, none⟩ = some (.slice ao9 Bb.length cap9) ∧ W.cell? ⟨w9.heap.size, 1, none⟩ = some (.int .i64 s') ∧ W.cell? ⟨w10.heap.size, 0, none⟩ = some (.slice ao10 Bb.length cap10) ∧ W.cell? ⟨w10.heap.size, 1, none⟩ = some (.int .i64 s')) := fun W h => by
      have h1 := XC.out W (cY.trans (h.mono cY.size))
      have h2 := box_cells (w := w9) (W := W) (hw10.trans ((hwY.trans (h.mono hwY.size)).mono hw10.size))
      have h3 := box_cells (w := w10) (W := W) (by rw [← hY]; exact h)
      exact ⟨h1.1, h1.2, h2.1, h2.2, h3.1, h3.2⟩
    obtain ⟨q1, q2, q3, q4, q5, q6⟩ := YC.out Y (Below.refl _ _)
    have d0 : Below Y.heap.size Y Y := Below.refl _ _
    rw [← hY]
    clear hY hw10 hwY k101 k102 k91 k92 k81 k82
    go_cut [103] from 18 (fun c wx => c = .bool false ∧ Below X.heap.size X wx)
    case first =>
      refine wp_region_noPanic ?_
      go_region_held (fun w' => w'.cell? ⟨w.heap.size, 0, none⟩ = some (.slice ua l.length uc) ∧ w'.cell? ⟨w.heap.size, 1, none⟩ = some (.int .i64 sure) ∧ w'.cell? ⟨w9.heap.size, 0, none⟩ = some (.slice ao9 Bb.length cap9) ∧ w'.cell? ⟨w9.heap.size, 1, none⟩ = some (.int .i64 s') ∧ w'.cell? ⟨w10.heap.size, 0, none⟩ = some (.slice ao10 Bb.length cap10) ∧ w'.cell? ⟨w10.heap.size, 1, none⟩ = some (.int .i64 s'))
        (first | exact YC.out _ d4 | exact YC.out _ d3 | exact YC.out _ d2 | exact YC.out _ d1 | exact YC.out _ d0.drew)
        (first
          | (go_at_call_of 24 ao9; refine (sameLog_eq _ _ s' Bb _ HY9.out.drew HY10.out.drew).mono ?_; rintro e w11 ⟨rfl, hw11⟩; have d1 := d0.drew.trans (hw11.mono d0.drew.size); have e1 := cY.trans (d1.mono cY.size))
          | (go_at_call 29; refine (HA29.out _ _ (XU.out _ e1)).mono ?_; rintro e w12 ⟨ao12, cap12, rfl, hs12, hw12⟩; have d2 := d1.trans (hw12.mono d1.size); have e2 := cY.trans (d2.mono cY.size))
          | (go_at_call 30; refine (HA30.out _ _ (XU.out _ e2)).mono ?_; rintro e w13 ⟨ao13, cap13, rfl, hs13, hw13⟩; have d3 := d2.trans (hw13.mono d2.size); have e3 := cY.trans (d3.mono cY.size))
          | (go_at_call_of 24 ao12; refine (sameLog_eq _ _ C.length C _ (hs12.below hw13) hs13).mono ?_; rintro e w14 ⟨rfl, hw14⟩; have d4 := d3.trans (hw14.mono d3.size)))
      all_goals refine NoPanic.normal ?_
      all_goals (go_wp2_with fail; go_meet; exact ⟨rfl, cY.trans (d4.mono cY.size)⟩)
    case rest =>
      obtain ⟨rfl, c15⟩ := hcut
      go_wp2_with (first
        | (go_at_call 31; refine (HA31.out _ _ (XB.out _ c15)).mono ?_; rintro e w16 ⟨ra, rc, rfl, hs16, hw16⟩; have c16 := c15.trans (hw16.mono c15.size); have H16 : Hid (SliceS w16.heap.size w16 (.slice ra R.length rc) R) := hs16; clear hs16)
        | (go_at_call 32; refine (HA32.out _ _ (XB.out _ c16)).mono ?_; rintro e w17 ⟨qa, qc, rfl, hs17, hw17⟩; have c17 := c16.trans (hw17.mono c16.size); have H17 : Hid (SliceS w17.heap.size w17 (.slice qa R.length qc) R) := hs17; clear hs17))
      have HRa : Hid (∀ n, SliceS (w17.drewN n).heap.size (w17.drewN n) (.slice ra R.length rc) R) := fun n => (H16.out.below hw17).same (fun _ _ => rfl)
      have HRq : Hid (∀ n, SliceS (w17.drewN n).heap.size (w17.drewN n) (.slice qa R.length qc) R) := fun n => H17.out.same (fun _ _ => rfl)
      have bE : Below w.heap.size w w17 := HB0.out.trans (c17.mono HB0.out.size)
      go_loopw [126] (fun i wr => ∃ k n : Nat, k ≤ R.length ∧ i = .int .i64 k ∧ wr = w17.drewN n) (fun i _ => R.length - (intOf i).toNat)
      case atStart => exact ⟨0, 0, Nat.zero_le _, rfl, rfl⟩
      case round =>
        obtain ⟨k, n, hk, rfl, rfl⟩ := hrel
        by_cases hlt : k < R.length
        · obtain ⟨g, off, xa, xc, rfl, hc, hs, hg, hx1, hx2⟩ := (HRa.out n).at k hlt
          obtain ⟨g', off', ya, yc, rfl, hc', hs', hg', hy1, hy2⟩ := (HRq.out n).at k hlt
          obtain ⟨Z, hZ⟩ : ∃ Z, Z = R[k]'hlt := ⟨_, rfl⟩
          rw [← hZ] at hc hs hx2 hc' hs' hy2
          have hcx : ∀ m, (convert 23 9 (.slice xa Z.length xc)).run Try.prog (w17.drewN m) = .ok (.string (bstr Z)) (w17.drewN m) := fun m => conv_str (hs.same (w' := w17.drewN m) (fun _ _ => rfl))
          have hcy : ∀ m, (convert 23 9 (.slice ya Z.length yc)).run Try.prog (w17.drewN m) = .ok (.string (bstr Z)) (w17.drewN m) := fun m => conv_str (hs'.same (w' := w17.drewN m) (fun _ _ => rfl))
          simp only [World.cell?_drewN] at hc hc'
          have lk : (k : Int) < (R.length : Int) := by omega
          clear hZ hs hs'
          go_wp2
          go_quiet (fail)
          go_wp2
          go_roundw
          case rel => exact ⟨k + 1, _, by omega, by go_num, by first | rfl | exact World.drewN_drewN _ _ _⟩
          case measure => simp [intOf]; omega
        · go_wp2
          go_ret
          exact ⟨rfl, below_drewN bE n⟩

theorem tells_any (u rv bv : Value) (sure keep : Int) (l b : List UInt8) (rs : List (List UInt8)) (w : World) (hu : SliceB w.heap.size w u l) (hv : SliceS w.heap.size w rv rs) (hb : SliceB w.heap.size w bv b) (hn : rs.length ≤ 1048576) (hbl : b.length ≤ 1048576) (hk1 : keep ≤ 9223372036854775807) (hk2 : -9223372036854775808 ≤ keep) :
    Calls Try.prog 5 #[.agg #[u, .int .i64 sure], rv, bv, .int .i64 keep] w fun e w' => e = .returned (.bool true) ∧ Below w.heap.size w w' := by
  by_cases ho : sure < 0 ∨ (l.length : Int) < sure ∨ 20000 < l.length
  · exact tells_out u rv bv sure keep l b rs w hu hv hb ho
  · by_cases hb6 : b.length < 60000
    · exact tells_small u rv bv sure keep l b rs w hu hv hb (by omega) (by omega) (by omega) hn hbl hk1 hk2 hb6
    · exact tells_big u rv bv sure keep l b rs w hu hv hb (by omega) (by omega) (by omega) hn hbl hk1 hk2 hb6
end Go.Proofs.Ytdfledgcpceckaa
