/-
  tgref6.FrameAsk answers what askF says of any bytes.
-/
import Derived.Test.YtnfmidbbelgldaaFUn
import Derived.Test.YtnfmidbbelgldaaFTellS
import Derived.Test.YtnfmidbbelgldaaFRefA
import Derived.Deep.RegionLaw
import Derived.Deep.RegionHeld3
import Derived.Deep.DeepCutAuto
namespace Go.Proofs.Ytnfmidbbelgldaa
open Go.RowKit
set_option linter.unusedVariables false
set_option linter.unusedSimpArgs false

attribute [local go_sem ↓] Go.wp_at_zero Go.wp_at_succ

theorem noteOf_small (r : List UInt8) (has : Bool) : (noteOfF r has).1.length ≤ 255 ∧ (noteOfF r has).2.1.length ≤ 255 := by
  unfold noteOfF
  split
  · simp
  · unfold parseF
    repeat' split
    all_goals first
      | (simp; done)
      | exact ⟨by show (propsF _ _).1.length ≤ 255; rw [propsF_len]; exact sizeF_le _, Nat.le_trans (takeF_le _ _) (sizeF_le _)⟩

theorem off_props {B : Nat} {wc W : World} {v : Value} {ps : List PD} (off : OffB B wc W) (h : SliceP wc.heap.size wc v ps) (hp : FreshV (B + 2) v) : SliceP W.heap.size W v ps := by
  rw [off.size]; exact h.from_ hp (fun k h1 _ => off.block k (.inr h1))
theorem off_bytes {B : Nat} {wc W : World} {v : Value} {bs : List UInt8} (off : OffB B wc W) (h : SliceB wc.heap.size wc v bs) (hp : FreshV (B + 2) v) : SliceB W.heap.size W v bs := by
  rw [off.size]; exact h.from_ hp (fun k h1 _ => off.block k (.inr h1))
theorem off_below {w wc W : World} (off : OffB w.heap.size wc W) (hb : Below w.heap.size w wc) : Below w.heap.size w W :=
  ⟨off.os.trans hb.os, off.tape.trans hb.tape, off.output.trans hb.output, by rw [off.size]; exact hb.size, fun k hk => (off.block k (.inl hk)).trans (hb.block k hk)⟩

theorem heap_put {w : World} {b : Nat} {cs : Array Value} {t : TypeId} (h : w.heap[b]? = some (.cells cs t (0, 0))) (o : Nat) (u : Value) : (w.setCell ⟨b, o, none⟩ u).heap[b]? = some (.cells (cs.setIfInBounds o u) t (0, 0)) := by
  simp [World.setCell, Array.getElem?_modify, h]

set_option maxRecDepth 100000 in
set_option maxHeartbeats 8000000 in
theorem frameAsk_any (v : Value) (b : List UInt8) (w : World) (hb : SliceB w.heap.size w v b) :
    Calls Try.prog 14 #[v] w (ToldAsk2 (askF b).2.1 (askF b).2.2 (askF b).1 w) := by
  have HB : Hid (SliceB w.heap.size w v b) := hb
  obtain ⟨va, vc, rfl, -⟩ := hb
  have hlen := inside_len b
  have hfit := askOf_fits (insideF b).2
  have hqs := askOf_q (insideF b).2
  have hA : ∀ I, I = insideF b → askF b = if I.1 ≠ 0 then (I.1, AD.zero, 0) else if (askOfF I.2).2 = false then (2, AD.zero, 0)
      else if (askOfF I.2).1.wrong ≠ 0 then ((askOfF I.2).1.wrong, AD.zero, 0) else (0, (askOfF I.2).1, 2 + I.2.length) := fun I hI => by subst hI; rfl
  have hI : ∀ W, SliceB W.heap.size W (.slice va b.length vc) b → Calls Try.prog 36 #[.slice va b.length vc] W fun e w' => ∃ v' n, e = .returned (.tuple #[v', .int .i64 n, .int .i64 (insideF b).1]) ∧ ((insideF b).1 = 0 → n = 2 + (insideF b).2.length) ∧ SliceB W.heap.size W v' (insideF b).2 ∧ (∃ n, w' = W.drewN n) := fun W h => unframe_any _ b W h
  obtain ⟨I, hIe⟩ : ∃ I, I = insideF b := ⟨_, rfl⟩
  replace hA := hA I hIe
  rw [← hIe] at hlen hfit hqs hI
  clear hIe
  obtain ⟨err, i⟩ := I
  simp only at hA hlen hfit hqs hI
  by_cases h0 : err = 0
  case neg =>
    rw [if_pos h0] at hA
    have HA : Hid (askF b = (err, AD.zero, 0)) := hA
    clear hA hfit hqs
    have h0' : (err != 0) = true := by simpa using h0
    go_enter Try.func14, Try.ntmps14
    go_wp2_with (go_at_call 36; refine (hI _ (HB.out.below (below_alloc _ _))).mono ?_; rintro e w1 ⟨v', nn, rfl, hnn, hs, n', hw⟩; have hb1 := below_of_drewN hw; have HZ1 : Hid (w1.heap.size = w.heap.size + 1) := (by show w1.heap.size = _; rw [hw]; simp); clear hw; have hz1 := hb1.size; simp at hz1; have R1 := (hb1.block w.heap.size (by simp)).trans (heap_alloc_new w _); obtain ⟨r0, r1, r2, r3, r4, f2⟩ := box5 R1; have b1 : Below w.heap.size w w1 := (below_alloc w _).trans (hb1.mono (by simp)))
    refine bodyPost_ret (v := .tuple #[.agg #[.int .i64 0, .string ⟨#[]⟩, .int .i64 0, .slice none 0 0, .slice none 0 0], .int .i64 0, .int .i64 err]) (by simp [results, Try.results14, go_sem, *]) rfl ?_
    rw [HA.out]
    refine told_none_off ?_ b1
    iterate 5 refine OffB.set ?_ (by omega) (by omega) _
    exact OffB.refl _ _
  subst h0
  rw [if_neg (by simp)] at hA
  by_cases h6 : i.length < 6
  · have hj : askOfF i = (AD.zero, false) := by unfold askOfF; rw [if_pos (by right; omega)]
    rw [hj, if_pos rfl] at hA
    have HA : Hid (askF b = (2, AD.zero, 0)) := hA
    clear hA hfit hqs hj
    go_enter Try.func14, Try.ntmps14
    go_wp2_with (go_at_call 36; refine (hI _ (HB.out.below (below_alloc _ _))).mono ?_; rintro e w1 ⟨v', nn, rfl, hnn, hs, n', hw⟩; have hb1 := below_of_drewN hw; have HZ1 : Hid (w1.heap.size = w.heap.size + 1) := (by show w1.heap.size = _; rw [hw]; simp); clear hw; have hz1 := hb1.size; simp at hz1; have R1 := (hb1.block w.heap.size (by simp)).trans (heap_alloc_new w _); obtain ⟨r0, r1, r2, r3, r4, f2⟩ := box5 R1; have b1 : Below w.heap.size w w1 := (below_alloc w _).trans (hb1.mono (by simp)); have hs1 := hs.below hb1; obtain ⟨ia, ic, rfl, ig1, ig2, -, ig3⟩ := id hs1; clear hs; obtain rfl := hnn rfl; clear hnn; clear hb1)
    refine bodyPost_ret (v := .tuple #[.agg #[.int .i64 0, .string ⟨#[]⟩, .int .i64 0, .slice none 0 0, .slice none 0 0], .int .i64 0, .int .i64 2]) (by simp [results, Try.results14, go_sem, *]) rfl ?_
    rw [HA.out]
    refine told_none_off ?_ b1
    iterate 5 refine OffB.set ?_ (by omega) (by omega) _
    exact OffB.refl _ _
  have hW0 : Hid (∀ p ∈ (askOfF i).1.ps, p.fits) := hfit
  clear hfit
  obtain ⟨x, hx⟩ : ∃ x, x = i.getD 0 0 := ⟨_, rfl⟩
  obtain ⟨y, hy⟩ : ∃ y, y = i.getD 1 0 := ⟨_, rfl⟩
  obtain ⟨x0, x1⟩ := u8_bounds x
  obtain ⟨y0, y1⟩ := u8_bounds y
  have hg0 : ∀ h : 0 < i.length, i[0]'h = x := fun h => by rw [hx]; simp [List.getD_eq_getElem?_getD, List.getElem?_eq_getElem, h]
  have hg1 : ∀ h : 1 < i.length, i[1]'h = y := fun h => by rw [hy]; simp [List.getD_eq_getElem?_getD, List.getElem?_eq_getElem, h]
  by_cases h7 : i.length < 6 + y.toNat
  · have hj : askOfF i = (AD.zero, false) := by unfold askOfF; rw [if_pos (by right; rw [← hy]; exact h7)]
    rw [hj, if_pos rfl] at hA
    have HA : Hid (askF b = (2, AD.zero, 0)) := hA
    have HI : Hid (∀ h : 1 < i.length, i[1]'h = y) := hg1
    have h7' : (i.length : Int) < (y.toNat : Int) + 6 := by omega
    clear hA hqs hj hg0 hg1 hx hy hW0
    go_enter Try.func14, Try.ntmps14
    go_upto_region 4 with (go_at_call 36; refine (hI _ (HB.out.below (below_alloc _ _))).mono ?_; rintro e w1 ⟨v', nn, rfl, hnn, hs, n', hw⟩; have hb1 := below_of_drewN hw; have HZ1 : Hid (w1.heap.size = w.heap.size + 1) := (by show w1.heap.size = _; rw [hw]; simp); clear hw; have hz1 := hb1.size; simp at hz1; have R1 := (hb1.block w.heap.size (by simp)).trans (heap_alloc_new w _); obtain ⟨r0, r1, r2, r3, r4, f2⟩ := box5 R1; have b1 : Below w.heap.size w w1 := (below_alloc w _).trans (hb1.mono (by simp)); have hs1 := hs.below hb1; obtain ⟨ia, ic, rfl, ig1, ig2, -, ig3⟩ := id hs1; clear hs; obtain rfl := hnn rfl; clear hnn; clear hb1)
    obtain ⟨b0, off, rfl, hlt, hc1⟩ := ig3 1 (by omega)
    rw [HI.out] at hc1
    go_wp2
    refine bodyPost_ret (v := .tuple #[.agg #[.int .i64 0, .string ⟨#[]⟩, .int .i64 0, .slice none 0 0, .slice none 0 0], .int .i64 0, .int .i64 2]) (by simp [results, Try.results14, go_sem, *]) rfl ?_
    rw [HA.out]
    refine told_none_off ?_ b1
    iterate 5 refine OffB.set ?_ (by omega) (by omega) _
    exact OffB.refl _ _
  obtain ⟨N, hN⟩ : ∃ N, N = noteOfF (i.drop (6 + y.toNat)) ((x.toNat : Int) == 4) := ⟨_, rfl⟩
  obtain ⟨q, hq⟩ : ∃ q, q = bstr ((i.drop 2).take y.toNat) := ⟨_, rfl⟩
  obtain ⟨n, hn⟩ : ∃ n, n = int32 (valB ((i.drop (2 + y.toNat)).take 4)) := ⟨_, rfl⟩
  have hj : askOfF i = (⟨x.toNat, q, n, N.1, N.2.1⟩, N.2.2) := by
    unfold askOfF
    rw [← hx, ← hy, if_neg (by omega), hN, hq, hn]
  rw [hj] at hA hqs
  have hW1 : ∀ p ∈ N.1, p.fits := by have := hW0.out; rw [hj] at this; exact this
  clear hj hW0
  have hrl : (i.drop (6 + y.toNat)).length ≤ 400 := by simp; omega
  have HNote : ∀ W v, SliceB W.heap.size W v (i.drop (6 + y.toNat)) → Calls Try.prog 38 #[v, .bool ((x.toNat : Int) == 4)] W fun e w' => ∃ va vc ua uc, e = .returned (.tuple #[.agg #[.slice va N.1.length vc, .slice ua N.2.1.length uc], .bool N.2.2]) ∧
      SliceP w'.heap.size w' (.slice va N.1.length vc) N.1 ∧ SliceB w'.heap.size w' (.slice ua N.2.1.length uc) N.2.1 ∧ Below W.heap.size W w' ∧ FreshV W.heap.size (.slice va N.1.length vc) ∧ FreshV W.heap.size (.slice ua N.2.1.length uc) := by
    rw [hN]; exact fun W v h => rest_any v _ _ W h (by omega)
  have hNs := noteOf_small (i.drop (6 + y.toNat)) ((x.toNat : Int) == 4)
  rw [← hN] at hNs
  clear hN
  have HQ : Hid (q = bstr ((i.drop 2).take y.toNat)) := hq
  have HNn : Hid (n = int32 (valB ((i.drop (2 + y.toNat)).take 4))) := hn
  have H0 : Hid (∀ h : 0 < i.length, i[0]'h = x) := hg0
  have H1 : Hid (∀ h : 1 < i.length, i[1]'h = y) := hg1
  have HA : Hid _ := hA
  clear hq hn hg0 hg1 hx hy hA
  have h7' : ¬ (i.length : Int) < (y.toNat : Int) + 6 := by omega
  go_enter Try.func14, Try.ntmps14
  go_upto_region 4 with (go_at_call 36; refine (hI _ (HB.out.below (below_alloc _ _))).mono ?_; rintro e w1 ⟨v', nn, rfl, hnn, hs, n', hw⟩; have hb1 := below_of_drewN hw; have HZ1 : Hid (w1.heap.size = w.heap.size + 1) := (by show w1.heap.size = _; rw [hw]; simp); clear hw; have hz1 := hb1.size; simp at hz1; have R1 := (hb1.block w.heap.size (by simp)).trans (heap_alloc_new w _); obtain ⟨r0, r1, r2, r3, r4, f2⟩ := box5 R1; have b1 : Below w.heap.size w w1 := (below_alloc w _).trans (hb1.mono (by simp)); have hs1 := hs.below hb1; obtain ⟨ia, ic, rfl, ig1, ig2, -, ig3⟩ := id hs1; clear hs; obtain rfl := hnn rfl; clear hnn; clear hb1)
  obtain ⟨b0, off, rfl, hlt, hc1⟩ := ig3 1 (by omega)
  obtain ⟨_, _, e, -, hc0⟩ := ig3 0 (by omega)
  simp only [Option.some.injEq, Addr.mk.injEq] at e
  obtain ⟨rfl, rfl, -⟩ := e
  rw [H1.out] at hc1
  rw [H0.out, Nat.add_zero] at hc0
  go_upto_region 7 with fail
  unfold maxLen at ig2
  have hi0 : 0 < i.length := by omega
  have ks1 : 0 ≤ (y.toNat : Int) + 2 ∧ (y.toNat : Int) + 2 ≤ (ic : Int) := by omega
  have ks2 : 2 ≤ max ((y.toNat : Int) + 2) 0 := by omega
  have ks9 : 2 ≤ (y.toNat : Int) + 2 := by omega
  have ks10 : (y.toNat : Int) + 2 ≤ (y.toNat : Int) + 2 + 4 := by omega
  have ks3 : ¬ ic = 2 := by omega
  have ks4 : ((y.toNat : Int) + 2).toNat = y.toNat + 2 := by omega
  have ks6 : ((y.toNat : Int) + 2 + 4).toNat = y.toNat + 2 + 4 := by omega
  have ks7 : ¬ ic = y.toNat + 2 := by omega
  have ks8 : (y.toNat : Int) + 2 ≤ max ((y.toNat : Int) + 2 + 4) 0 := by omega
  have ks5 : 0 ≤ (y.toNat : Int) + 2 + 4 ∧ (y.toNat : Int) + 2 + 4 ≤ (ic : Int) := by omega
  have hw5 : IntKind.i64.wrap ((y.toNat : Int) + 2 + 4) = (y.toNat : Int) + 2 + 4 := by rw [IntKind.wrap_i64]; omega
  have hw0 : IntKind.i64.wrap (x.toNat : Int) = x.toNat := wrap_small x.toNat (by omega)
  have hm1 : ∀ W, (∀ p, p < w1.heap.size → W.heap[p]? = w1.heap[p]?) → (convert 23 9 (.slice (some ⟨b0, off + 2, none⟩) y.toNat (ic - 2))).run Try.prog W = .ok (.string q) W := fun W hW => by
    have := slice_mid (hs1.same hW) 2 y.toNat (by omega) (by omega)
    rw [Option.map_some, add_none] at this
    rw [HQ.out]
    exact conv_str this
  have hm2 : (convert 23 9 (.slice (some ⟨b0, off + 2, none⟩) y.toNat (ic - 2))).run Try.prog w1.drew = .ok (.string q) w1.drew := hm1 _ (fun _ _ => rfl)
  have hm3 : ∀ o, (convert 23 9 (.slice (some ⟨b0, off + 2, none⟩) y.toNat (ic - 2))).run Try.prog (w1.alloc o).drew = .ok (.string q) (w1.alloc o).drew := fun o => hm1 _ (fun p hp => Below.heap_alloc _ _ _ hp)
  have hn1 : ∀ W, (∀ p, p < w1.heap.size → W.heap[p]? = w1.heap[p]?) → Calls Try.prog 37 #[.slice (some ⟨b0, off + (y.toNat + 2), none⟩) 4 (ic - (y.toNat + 2))] W fun e w' => e = .returned (.int .i64 n) ∧ w' = W := fun W hW => by
    have := slice_mid (hs1.same hW) (y.toNat + 2) 4 (by omega) (by omega)
    rw [Option.map_some, add_none] at this
    have h := refGet_any _ _ _ W this (by simp; omega)
    rw [List.take_take, Nat.min_self] at h
    rw [HNn.out, show 2 + y.toNat = y.toNat + 2 by omega]
    exact h
  have hze : w1.heap.size = w.heap.size + 1 := HZ1.out
  have wd : ∀ p, p < w1.heap.size → w1.drew.heap[p]? = w1.heap[p]? := fun _ _ => rfl
  have we : ∀ o, ∀ p, p < w1.heap.size → (w1.alloc o).drew.heap[p]? = w1.heap[p]? := fun o p hp => Below.heap_alloc _ _ _ hp
  have lt1 : w.heap.size < w1.heap.size := by omega
  have lt2 : b0 < w.heap.size + 1 := by omega
  have lt3 : b0 ≤ w.heap.size := by omega
  clear r0 r1 r2 r3 r4 f2
  go_cut [9] (fun p wx => p = .pointer (some ⟨w.heap.size + 1, 0, none⟩) ∧ wx = (w1.alloc (.cells #[.int .i64 x.toNat, .string q, .int .i64 n, .slice none 0 0, .slice none 0 0] 27)).drew)
  case first =>
    go_region_law (first
      | (go_simp; go_at_call 37; refine (hn1 _ wd).mono ?_; rintro e w2 ⟨rfl, rfl⟩)
      | (go_simp; go_at_call 37; refine (hn1 _ (we _)).mono ?_; rintro e w2 ⟨rfl, rfl⟩)
      | fail)
    all_goals (go_wp2_with fail; go_meet; exact ⟨rfl, rfl⟩)
  case rest =>
    obtain ⟨rfl, rfl⟩ := hcut
    obtain ⟨X, hX⟩ : ∃ X, X = (w1.alloc (.cells #[.int .i64 x.toNat, .string q, .int .i64 n, .slice none 0 0, .slice none 0 0] 27)).drew := ⟨_, rfl⟩
    have XB : Below w.heap.size w X := by rw [hX]; exact (b1.alloc (by omega) _).drew
    have XZ : X.heap.size = w.heap.size + 2 := by rw [hX]; simp; omega
    have X6 : X.heap[w.heap.size + 1]? = some (.cells #[.int .i64 x.toNat, .string q, .int .i64 n, .slice none 0 0, .slice none 0 0] 27 (0, 0)) := by
      have := heap_alloc_new w1 (.cells #[.int .i64 x.toNat, .string q, .int .i64 n, .slice none 0 0, .slice none 0 0] 27)
      rw [hze] at this
      rw [hX]; exact this
    have X2 : X.heap[w.heap.size]? = some (.cells #[.int .i64 0, .string ⟨#[]⟩, .int .i64 0, .slice none 0 0, .slice none 0 0] 27 (0, 0)) := by
      rw [hX]; exact (Below.heap_alloc _ _ _ lt1).trans R1
    have HS0 : ∀ W, Below X.heap.size X W → SliceB W.heap.size W (.slice (some ⟨b0, off, none⟩) i.length ic) i := fun W hW => by
      have h1 := hs1.below (below_alloc w1 (.cells #[.int .i64 x.toNat, .string q, .int .i64 n, .slice none 0 0, .slice none 0 0] 27))
      have h2 : SliceB X.heap.size X (.slice (some ⟨b0, off, none⟩) i.length ic) i := by rw [hX]; exact h1.same (fun _ _ => rfl)
      exact h2.below hW
    rw [← hX]
    clear hX hm1 hm2 hm3 hn1 wd we
    have c0 : X.cell? ⟨w.heap.size + 1, 0, none⟩ = some (.int .i64 x.toNat) := row_c X6 0
    have HS : ∀ W, Below X.heap.size X W → ∀ sa sn sc, (ic = y.toNat + 2 + 4 ∧ sa = some (⟨b0, off, none⟩ : Addr) ∨ ¬ ic = y.toNat + 2 + 4 ∧ sa = some ⟨b0, off + (y.toNat + 2 + 4), none⟩) → sn = i.length - (y.toNat + 2 + 4) → sc = ic - (y.toNat + 2 + 4) → SliceB W.heap.size W (.slice sa sn sc) (i.drop (6 + y.toNat)) := fun W hW sa sn sc h1 h2 h3 => by
      subst h2 h3
      exact slice_tail (HS0 W hW) (y.toNat + 2 + 4) _ (by omega) h1 (by omega)
    have H6 : Hid (X.heap[w.heap.size + 1]? = some (.cells #[.int .i64 x.toNat, .string q, .int .i64 n, .slice none 0 0, .slice none 0 0] 27 (0, 0))) := X6
    have H2 : Hid (X.heap[w.heap.size]? = some (.cells #[.int .i64 0, .string ⟨#[]⟩, .int .i64 0, .slice none 0 0, .slice none 0 0] 27 (0, 0))) := X2
    clear X6 X2 HS0
    have ht1 : 0 ≤ (y.toNat : Int) + 2 + 4 ∧ (y.toNat : Int) + 2 + 4 ≤ (i.length : Int) := by omega
    have ht2 : (y.toNat : Int) + 2 + 4 ≤ (i.length : Int) := by omega
    go_upto_region 8 with fail
    go_cut [10, 11] (fun p j wx => Mid w.heap.size 27 #[.int .i64 x.toNat, .string q, .int .i64 n, .slice none 0 0, .slice none 0 0] #[.int .i64 0, .string ⟨#[]⟩, .int .i64 0, .slice none 0 0, .slice none 0 0] N w p j wx)
    case first =>
      have bx : ∀ o, Below X.heap.size X (X.alloc o).drew := fun o => (below_alloc X o).drew
      by_cases hcap : ic = y.toNat + 2 + 4
      · subst hcap
        go_region_held3 (fun w' => w'.cell? ⟨w.heap.size + 1, 0, none⟩ = some (.int .i64 x.toNat)) (go_keep) (first
          | (go_at_call 38; refine (HNote _ _ (HS _ (by first | exact (Below.refl _ _).drew | exact bx _) _ _ _ (by first | exact Or.inl ⟨by omega, rfl⟩ | exact Or.inr ⟨by omega, rfl⟩) (by omega) (by omega))).mono ?_; rintro e w3 ⟨va, vc, ua, uc, rfl, hv3, hu3, hb3, hp3, hq3⟩; obtain ⟨hc3, hf3⟩ := bcell hb3; have hz3 := hb3.size; simp at hz3))
        all_goals (go_wp2_with fail; go_meet; first | exact mid_first XB XZ H6.out H2.out rfl hv3 hu3 hb3 hp3 hq3 | exact mid_last XB XZ H6.out H2.out hv3 hu3 hb3 hp3 hq3)
      · go_region_held3 (fun w' => w'.cell? ⟨w.heap.size + 1, 0, none⟩ = some (.int .i64 x.toNat)) (go_keep) (first
          | (go_at_call 38; refine (HNote _ _ (HS _ (by first | exact (Below.refl _ _).drew | exact bx _) _ _ _ (by first | exact Or.inl ⟨by omega, rfl⟩ | exact Or.inr ⟨by omega, rfl⟩) (by omega) (by omega))).mono ?_; rintro e w3 ⟨va, vc, ua, uc, rfl, hv3, hu3, hb3, hp3, hq3⟩; obtain ⟨hc3, hf3⟩ := bcell hb3; have hz3 := hb3.size; simp at hz3))
        all_goals (go_wp2_with fail; go_meet; first | exact mid_first XB XZ H6.out H2.out rfl hv3 hu3 hb3 hp3 hq3 | exact mid_last XB XZ H6.out H2.out hv3 hu3 hb3 hp3 hq3)
    case rest =>
      obtain ⟨pb, va, vc, ua, uc, rfl, rfl, hpb, B7, hv, hu, hp, hq, hbel, B6, B2⟩ := hcut
      have p0 := row_c B7 0
      have p1 := row_c B7 1
      simp only [List.getElem?_toArray, List.getElem?_cons_zero, List.getElem?_cons_succ] at p0 p1
      obtain ⟨q0, q1, q2, q3, q4, f6⟩ := box5 B6
      obtain ⟨r0, r1, r2, r3, r4, f2⟩ := box5 B2
      have n7 : pb ≠ w.heap.size := by omega
      have n8 : pb ≠ w.heap.size + 1 := by omega
      have ltA : w.heap.size + 1 < wc.heap.size := by
        rcases Nat.lt_or_ge (w.heap.size + 1) wc.heap.size with h | h
        · exact h
        · rw [Array.getElem?_eq_none h] at B6; cases B6
      clear B7
      obtain ⟨ps, body, just⟩ := N
      simp only at hv hu hp hq hNs HA hW1 p0 p1
      cases just with
      | false =>
        have HA2 : Hid (askF b = (2, AD.zero, 0)) := by have := HA.out; rw [if_pos rfl] at this; exact this
        clear HA
        go_wp2
        refine bodyPost_ret (v := .tuple #[.agg #[.int .i64 0, .string ⟨#[]⟩, .int .i64 0, .slice none 0 0, .slice none 0 0], .int .i64 0, .int .i64 2]) (by simp [results, Try.results14, go_sem, *]) rfl ?_
        rw [HA2.out]
        refine told_none_off ?_ hbel
        iterate 5 refine OffB.set ?_ (by omega) (by omega) _
        exact OffB.refl _ _
      | true =>
        have HV : ∀ W v u, SliceP W.heap.size W v ps → SliceB W.heap.size W u body → Calls Try.prog 8 #[.agg #[.int .i64 x.toNat, .string q, .int .i64 n, v, u]] W fun r w' => r = .returned (.int .i64 (AD.wrong ⟨x.toNat, q, n, ps, body⟩)) ∧ Below W.heap.size W w' := fun W v u h1 h2 => refWrongAsk_any _ n q v u ps body W hqs h1 h2 hW1 (by omega) (by omega)
        have hA2 := HA.out
        rw [if_neg (by simp)] at hA2
        obtain ⟨V, hVe⟩ : ∃ V, V = AD.wrong ⟨x.toNat, q, n, ps, body⟩ := ⟨_, rfl⟩
        rw [← hVe] at hA2 HV
        clear hVe HA hW1
        have OFF : OffB w.heap.size wc ((wc.setCell ⟨w.heap.size + 1, 3, none⟩ (.slice va ps.length vc)).setCell ⟨w.heap.size + 1, 4, none⟩ (.slice ua body.length uc)) := ((OffB.refl _ _).set (by omega) (by omega) _).set (by omega) (by omega) _
        have R6 : ((wc.setCell ⟨w.heap.size + 1, 3, none⟩ (.slice va ps.length vc)).setCell ⟨w.heap.size + 1, 4, none⟩ (.slice ua body.length uc)).heap[w.heap.size + 1]? = some (.cells #[.int .i64 x.toNat, .string q, .int .i64 n, .slice va ps.length vc, .slice ua body.length uc] 27 (0, 0)) := by
          rw [heap_put (heap_put B6 3 _) 4 _]; rfl
        have R2 : ((wc.setCell ⟨w.heap.size + 1, 3, none⟩ (.slice va ps.length vc)).setCell ⟨w.heap.size + 1, 4, none⟩ (.slice ua body.length uc)).heap[w.heap.size]? = some (.cells #[.int .i64 0, .string ⟨#[]⟩, .int .i64 0, .slice none 0 0, .slice none 0 0] 27 (0, 0)) := by
          rw [Below.heap_setCell _ _ _ _ (by simp), Below.heap_setCell _ _ _ _ (by simp)]; exact B2
        have hv' := off_props OFF hv hp
        have hu' := off_bytes OFF hu hq
        have bO := off_below OFF hbel
        have zO := OFF.size
        by_cases h0 : V = 0
        · subst h0
          rw [if_neg (by simp)] at hA2
          have HA2 : Hid (askF b = (0, ⟨x.toNat, q, n, ps, body⟩, 2 + i.length)) := hA2
          clear hA2
          go_wp2_with (go_at_call 8; refine (HV _ _ _ hv' hu').mono ?_; rintro e w3 ⟨rfl, hb3⟩; have hz3 := hb3.size; clear q0 q1 q2 q3 q4 f6 r0 r1 r2 r3 r4 f2; obtain ⟨q0, q1, q2, q3, q4, f6⟩ := box5 ((hb3.block _ (by omega)).trans R6); obtain ⟨r0, r1, r2, r3, r4, f2⟩ := box5 ((hb3.block _ (by omega)).trans R2); have b3 : Below w.heap.size w w3 := bO.trans (hb3.mono (by omega)))
          refine bodyPost_ret (v := .tuple #[.agg #[.int .i64 x.toNat, .string q, .int .i64 n, .slice va ps.length vc, .slice ua body.length uc], .int .i64 (2 + (i.length : Int)), .int .i64 0]) (by simp [results, Try.results14, go_sem, *]) rfl ?_
          rw [HA2.out]
          refine told_off2 rfl (wc := w3) ?_ (hv'.below hb3) (hu'.below hb3) b3 hp hq
          iterate 5 refine OffB.set ?_ (by omega) (by omega) _
          exact OffB.refl _ _
        · rw [if_pos h0] at hA2
          have HA2 : Hid (askF b = (V, AD.zero, 0)) := hA2
          clear hA2
          have h0' : (V != 0) = true := by simpa using h0
          go_wp2_with (go_at_call 8; refine (HV _ _ _ hv' hu').mono ?_; rintro e w3 ⟨rfl, hb3⟩; have hz3 := hb3.size; clear q0 q1 q2 q3 q4 f6 r0 r1 r2 r3 r4 f2; obtain ⟨r0, r1, r2, r3, r4, f2⟩ := box5 ((hb3.block _ (by omega)).trans R2); have b3 : Below w.heap.size w w3 := bO.trans (hb3.mono (by omega)))
          refine bodyPost_ret (v := .tuple #[.agg #[.int .i64 0, .string ⟨#[]⟩, .int .i64 0, .slice none 0 0, .slice none 0 0], .int .i64 0, .int .i64 V]) (by simp [results, Try.results14, go_sem, *]) rfl ?_
          rw [HA2.out]
          refine told_none_off ?_ b3
          iterate 5 refine OffB.set ?_ (by omega) (by omega) _
          exact OffB.refl _ _
end Go.Proofs.Ytnfmidbbelgldaa
