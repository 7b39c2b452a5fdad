/-
  RefEntC; RefEntP; JParsed: texts laid together.
-/
import Derived.Test.YtkddkpdfeeikhaaJTellsProofM40
import Derived.Deep.RegionHeld3
import Derived.Deep.RegionLaw
import Derived.Deep.DeepCutAuto
import Derived.Test.YtkddkpdfeeikhaaJTellsProofM36
import Derived.Test.YtkddkpdfeeikhaaJTellsProofM16
import Derived.Test.YtkddkpdfeeikhaaJTellsProofM28
/-
  tgref1.EntryParse: the rest.
-/
namespace Go.Proofs.Ytkddkpdfeeikhaa
open Go.RowKit
set_option linter.unusedVariables false
set_option linter.unusedSimpArgs false

attribute [local go_sem ↓] Go.wp_at_zero Go.wp_at_succ


set_option maxRecDepth 100000 in
set_option maxHeartbeats 6400000 in
theorem refEnt_C (blk off cap : Nat) (b : List UInt8) (k n : UInt8) (r : List UInt8) (w : World) (hb : NT.SliceB w.heap.size w (.slice (some ⟨blk, off, none⟩) b.length cap) b) (e : b = k :: n :: r) (hl : n.toNat ≤ r.length) (hbm : b.length ≤ 4194304) (hc2 : ¬ cap = 2) (hce : ¬ cap = 2 + n.toNat) (X : Int × ByteArray × Int × Int × List NT.PD × List UInt8 × Int) (hX : X = entF (k.toNat : Int) (bstr (r.take n.toNat)) (r.drop n.toNat)) :
    Calls Try.prog 9 #[.slice (some ⟨blk, off, none⟩) b.length cap] w (EAns X w) := by
  have HB : Hid (NT.SliceB w.heap.size w (.slice (some ⟨blk, off, none⟩) b.length cap) b) := hb
  have hbl : b.length = r.length + 2 := by rw [e]; simp
  have HD : Hid ((b.drop 2).take n.toNat = r.take n.toNat ∧ b.drop (2 + n.toNat) = r.drop n.toNat) := by
    refine ⟨by rw [e]; rfl, ?_⟩
    rw [e, Nat.add_comm, List.drop_succ_cons, List.drop_succ_cons]
  obtain ⟨_, _, e0, hcap, hmax, hnil, hbs⟩ := hb
  obtain ⟨b', off', e1, hs, hc1⟩ := hbs 1 (by omega)
  obtain ⟨b2, off2, e2, hs2, hc0⟩ := hbs 0 (by omega)
  simp only [Option.some.injEq, Addr.mk.injEq, Value.slice.injEq] at e0 e1
  obtain ⟨⟨rfl, rfl, -⟩, -, rfl⟩ := e0
  obtain ⟨rfl, rfl, -⟩ := e1
  simp only [Option.some.injEq, Addr.mk.injEq] at e2
  obtain ⟨rfl, rfl, -⟩ := e2
  have hc1' : w.cell? ⟨blk, off + 1, none⟩ = some (.int .u8 n.toNat) := by rw [hc1]; simp [e]
  have hc0' : w.cell? ⟨blk, off, none⟩ = some (.int .u8 k.toNat) := by have := hc0; simp [e] at this; exact this
  obtain ⟨n0, n1⟩ := NT.u8_bounds n
  obtain ⟨k0, k1⟩ := NT.u8_bounds k
  unfold maxLen at hmax
  obtain ⟨kk, hkk⟩ : ∃ kk, kk = (k.toNat : Int) := ⟨_, rfl⟩
  obtain ⟨q, hq⟩ : ∃ q, q = bstr (r.take n.toNat) := ⟨_, rfl⟩
  obtain ⟨t, ht⟩ : ∃ t, t = r.drop n.toNat := ⟨_, rfl⟩
  have HX : Hid (X = entF kk q t) := by rw [hkk, hq, ht]; exact hX
  have htl : t.length + n.toNat + 2 = b.length := by rw [ht, List.length_drop]; omega
  have HSB : Hid (∀ W : World, Below w.heap.size w W → NT.SliceB W.heap.size W (cutV blk off b.length cap (n.toNat + 2) b.length) t) := by
    show ∀ W : World, _ → _
    intro W hW
    have h := cut_is ((HB.out.same hW.block).mono hW.size) (n.toNat + 2) b.length (by omega) (by omega)
    rw [show n.toNat + 2 = 2 + n.toNat by omega, HD.out.2, ← ht, List.take_of_length_le (by omega)] at h
    rw [show n.toNat + 2 = 2 + n.toNat by omega]
    exact h
  have hcv0 : ∀ W : World, (∀ j, j < w.heap.size → W.heap[j]? = w.heap[j]?) → (convert 26 9 (cutV blk off b.length cap 2 (n.toNat + 2))).run Try.prog W = .ok (.string q) W := fun W hW => by
    have h := cut_is (HB.out.same (w' := W) hW) 2 (n.toNat + 2) (by omega) (by omega)
    rw [show n.toNat + 2 - 2 = n.toNat by omega, HD.out.1, ] at h
    rw [hq]
    exact NT.conv_str (B := w.heap.size) h
  obtain ⟨A, hA⟩ : ∃ A, A = w.alloc (.cells #[.int .i64 0, .string ⟨#[]⟩, .int .i64 0, .int .i64 0, .slice none 0 0, .slice none 0 0] 30) := ⟨_, rfl⟩
  have HAB : Hid (Below w.heap.size w A ∧ Blk A w.heap.size [.int .i64 0, .string ⟨#[]⟩, .int .i64 0, .int .i64 0, .slice none 0 0, .slice none 0 0] ∧ A.heap.size = w.heap.size + 1) := by rw [hA]; exact ⟨below_alloc _ _, Blk.new _ _ _, by simp⟩
  have hcv : (convert 26 9 (cutV blk off b.length cap 2 (n.toNat + 2))).run Try.prog A.drew = .ok (.string q) A.drew := hcv0 _ fun j hj => HAB.out.1.block j hj
  have hcv' : ∀ o, (convert 26 9 (cutV blk off b.length cap 2 (n.toNat + 2))).run Try.prog (A.alloc o).drew = .ok (.string q) (A.alloc o).drew := fun o => hcv0 _ fun j hj => (Below.heap_alloc _ _ _ (by have := HAB.out.2.2; omega)).trans (HAB.out.1.block j hj)

  rw [show cutV blk off b.length cap 2 (n.toNat + 2) = .slice (some ⟨blk, off + 2, none⟩) n.toNat (cap - 2) by simp [cutV, hc2]] at hcv hcv'
  rw [show cutV blk off b.length cap (n.toNat + 2) b.length = .slice (some ⟨blk, off + (n.toNat + 2), none⟩) t.length (cap - (n.toNat + 2)) by unfold cutV; rw [if_neg (by omega), show b.length - (n.toNat + 2) = t.length by omega]] at HSB
  have d0 := bel_c HAB.out.1 hs hc0'
  have d1 := bel_c HAB.out.1 hs hc1'
  have hsA : blk < A.heap.size := by have := HAB.out.2.2; omega
  rw [← hkk] at d0
  have kb : 0 ≤ kk ∧ kk ≤ 255 := by omega
  have h2 : ¬ (b.length : Int) < 2 := by omega
  have h3 : ¬ (b.length : Int) < (n.toNat : Int) + 2 := by omega
  have h4 : (1 : Int) < (b.length : Int) := by omega
  have h5 : 0 < b.length := by omega
  have w2 : IntKind.i64.wrap (n.toNat : Int) = (n.toNat : Int) := by rw [IntKind.wrap_i64]; omega
  have w4 : IntKind.i64.wrap kk = kk := by rw [IntKind.wrap_i64]; omega
  have w3 : IntKind.i64.wrap ((n.toNat : Int) + 2) = (n.toNat : Int) + 2 := by rw [IntKind.wrap_i64]; omega
  have f1 : 0 ≤ (n.toNat : Int) + 2 := by omega
  have f2 : (n.toNat : Int) + 2 ≤ (cap : Int) := by omega
  have f3 : 2 ≤ max ((n.toNat : Int) + 2) 0 := by omega
  have f4 : ((n.toNat : Int) + 2).toNat = n.toNat + 2 := by omega
  have f6 : 2 ≤ (n.toNat : Int) + 2 := by omega
  have f5 : n.toNat + 2 - 2 = n.toNat := by omega
  have f7 : (n.toNat : Int) + 2 ≤ (b.length : Int) := by omega
  have HTL : Hid (t.length + n.toNat + 2 = b.length ∧ b.length = r.length + 2) := ⟨htl, hbl⟩
  have htb : t.length ≤ b.length := by omega
  clear hc0 hc1 hc0' hc1' hbs hnil hq ht hkk hX e hcv0 HD htl hbl
  go_enter Try.func9, Try.ntmps9
  go_upto_region 1 with fail
  rw [← hA]
  clear hA
  go_upto_region 3 with fail
  go_cut [4] (fun p wx => p = .pointer (some ⟨A.heap.size, 0, none⟩) ∧ wx = (A.alloc (.cells #[.int .i64 kk, .string q, .int .i64 0, .int .i64 0, .slice none 0 0, .slice none 0 0] 30)).drew)
  case first =>
    go_region_law (fail)
    all_goals (go_wp2_with fail; go_meet; exact ⟨rfl, rfl⟩)
  case rest =>
    obtain ⟨rfl, hwc⟩ := hcut
    obtain ⟨eb, heb⟩ : ∃ eb, eb = A.heap.size := ⟨_, rfl⟩
    have HW : Hid (Below w.heap.size w wc ∧ Blk wc eb [.int .i64 kk, .string q, .int .i64 0, .int .i64 0, .slice none 0 0, .slice none 0 0] ∧ Blk wc w.heap.size [.int .i64 0, .string ⟨#[]⟩, .int .i64 0, .int .i64 0, .slice none 0 0, .slice none 0 0] ∧ eb = w.heap.size + 1 ∧ wc.heap.size = eb + 1) := by
      have hz := HAB.out.2.2
      rw [hwc, heb]
      refine ⟨(HAB.out.1.alloc (by omega) _).drew, (Blk.new _ _ _).drew, (HAB.out.2.1.alloc _).drew, hz, by simp⟩
    have d1' : wc.cell? ⟨blk, off + 1, none⟩ = some (.int .u8 n.toNat) := by
      rw [hwc]
      exact bel_c ((below_alloc A _).drew) hsA d1
    have heb2 : w.heap.size < eb := by have := HW.out.2.2.2.1; omega
    have hwz : eb < wc.heap.size := by have := HW.out.2.2.2.2; omega
    have hbw : blk < wc.heap.size := by have := HW.out.2.2.2; omega
    have HSB2 : Hid (NT.SliceB wc.heap.size wc (.slice (some ⟨blk, off + (n.toNat + 2), none⟩) t.length (cap - (n.toNat + 2))) t) := HSB.out wc HW.out.1
    have HSB3 : Hid (∀ W : World, Below w.heap.size w W → NT.SliceB W.heap.size W (.slice (some ⟨blk, off + (n.toNat + 2), none⟩) t.length (cap - (n.toNat + 2))) t) := HSB.out
    rw [← heb]
    clear hwc heb d0 d1 hcv hcv' hsA HB HAB HSB
    obtain ⟨tl, htl⟩ : ∃ tl, tl = t.length := ⟨_, rfl⟩
    have HTT : Hid (tl = t.length ∧ tl + n.toNat + 2 = b.length) := ⟨htl, by rw [htl]; exact HTL.out.1⟩
    rw [← htl] at HSB2 HSB3 htb
    clear htl
    go_upto_region 4 with fail
    go_cut [0] (fun v wx => v = (.slice (some ⟨blk, off + (n.toNat + 2), none⟩) tl (cap - (n.toNat + 2))) ∧ wx = wc)
    case first =>
      go_wp2_with fail
      go_meet
      refine ⟨?_, rfl⟩
      have h1 := HTT.out.2
      rw [show b.length - (n.toNat + 2) = tl by omega]
    case rest =>
      obtain ⟨rfl, rfl⟩ := hcut
      clear d1' HTL f1 f2 f3 f4 f5 f6 f7 w2 w3 h2 h3 h4 h5 hbw
      obtain ⟨tc, htc⟩ : ∃ tc, tc = cap - (n.toNat + 2) := ⟨_, rfl⟩
      obtain ⟨xo, hxo⟩ : ∃ xo, xo = off + (n.toNat + 2) := ⟨_, rfl⟩
      rw [← htc, ← hxo] at HSB2 HSB3
      rw [← htc, ← hxo]
      have htcl : tl ≤ tc := by
        obtain ⟨_, _, x0, x1, -⟩ := HSB2.out
        simp only [Value.slice.injEq] at x0
        omega
      clear htc hxo
      obtain ⟨c0, c1, c2, c3, c4, c5, c6, c7⟩ := HW.out.2.1.b6
      obtain ⟨r0, r1, r2, r3, r4, r5, r6, r7⟩ := HW.out.2.2.1.b6
      have m1 : w.heap.size ≠ eb := by omega
      have m2 : eb ≠ w.heap.size := by omega
      have HKB : Hid (0 ≤ kk ∧ kk ≤ 255) := kb
      clear kb
      by_cases k1 : kk = 1
      · subst k1
        by_cases l1 : tl = 1
        · obtain ⟨c, rfl⟩ : ∃ c, t = [c] := by
            have h1 : t.length = 1 := by rw [← HTT.out.1]; exact l1
            match t, h1 with
            | [c], _ => exact ⟨c, rfl⟩
          subst l1
          have hXv : X = (1, q, (c.toNat : Int), 0, [], [], 0) := by rw [HX.out]; simp [entF, kindOkB, restF, oneF]
          obtain ⟨_, _, x0, -, -, -, xs⟩ := HSB2.out
          obtain ⟨xb, xo, x1, -, xc⟩ := xs 0 (by simp)
          simp only [Value.slice.injEq] at x0
          obtain ⟨rfl, -, -⟩ := x0
          simp only [Option.some.injEq, Addr.mk.injEq] at x1
          obtain ⟨rfl, rfl, -⟩ := x1
          have y0 : wc.cell? ⟨blk, xo, none⟩ = some (.int .u8 c.toNat) := by simpa using xc
          obtain ⟨q0, q1⟩ := NT.u8_bounds c
          have yw : IntKind.i64.wrap (c.toNat : Int) = (c.toNat : Int) := by rw [IntKind.wrap_i64]; omega
          clear xs xc
          go_wp2_with fail
          refine bodyPost_ret (v := .tuple #[.agg #[.int .i64 1, .string q, .int .i64 c.toNat, .int .i64 0, .slice none 0 0, .slice none 0 0], .int .i64 0]) (by simp [results, Try.results9, go_sem, *]; done) rfl ?_
          try rw [hXv]
          refine ⟨.slice none 0 0, .slice none 0 0, rfl, NT.SliceP.nil _ _, NT.SliceB.nil _ _, ?_⟩
          iterate 6 refine Below.setCell ?_ (show w.heap.size ≤ w.heap.size from Nat.le_refl _) _
          iterate 1 refine Below.setCell ?_ (show w.heap.size ≤ eb by omega) _
          exact HW.out.1

        · have l1' : ¬ (tl : Int) = 1 := by omega
          have hXv : X = noE 2 := by rw [HX.out]; simp [entF, kindOkB, restF, show ¬ t.length = 1 by rw [← HTT.out.1]; exact l1]
          go_wp2_with fail
          refine bodyPost_ret (v := .tuple #[noEntry, .int .i64 2]) (by simp [results, Try.results9, go_sem, noEntry, *]; done) rfl ?_
          try rw [hXv]
          refine eans_no 2 ?_
          iterate 6 refine Below.setCell ?_ (show w.heap.size ≤ w.heap.size from Nat.le_refl _) _
          exact HW.out.1

      by_cases k2 : kk = 2
      · subst k2
        by_cases l2 : tl = 0
        · have ht0 : t = [] := List.eq_nil_of_length_eq_zero (by rw [← HTT.out.1]; exact l2)
          subst l2
          have hXv : X = (2, q, 0, 0, [], [], 0) := by rw [HX.out, ht0]; simp [entF, kindOkB, restF]
          go_wp2_with fail
          refine bodyPost_ret (v := .tuple #[.agg #[.int .i64 2, .string q, .int .i64 0, .int .i64 0, .slice none 0 0, .slice none 0 0], .int .i64 0]) (by simp [results, Try.results9, go_sem, *]; done) rfl ?_
          try rw [hXv]
          refine ⟨.slice none 0 0, .slice none 0 0, rfl, NT.SliceP.nil _ _, NT.SliceB.nil _ _, ?_⟩
          iterate 6 refine Below.setCell ?_ (show w.heap.size ≤ w.heap.size from Nat.le_refl _) _
          exact HW.out.1

        · have l2' : ¬ (tl : Int) = 0 := by omega
          have hXv : X = noE 2 := by rw [HX.out]; simp [entF, kindOkB, restF, show ¬ t = [] by intro h0; rw [h0] at HTT; exact l2 HTT.out.1]
          go_wp2_with fail
          refine bodyPost_ret (v := .tuple #[noEntry, .int .i64 2]) (by simp [results, Try.results9, go_sem, noEntry, *]; done) rfl ?_
          try rw [hXv]
          refine eans_no 2 ?_
          iterate 6 refine Below.setCell ?_ (show w.heap.size ≤ w.heap.size from Nat.le_refl _) _
          exact HW.out.1

      by_cases k4 : kk = 4
      · subst k4
        by_cases l4 : tl = 4
        · obtain ⟨V, hV⟩ : ∃ V : Int, V = (NT.valB (t.take 4) : Int) := ⟨_, rfl⟩
          have hV0 : 0 ≤ V ∧ V ≤ 4294967295 := by rw [hV]; exact ⟨by omega, NT.valB_lt4 _ (by simp; omega)⟩
          have HGET : Hid (Calls Try.prog 42 #[.slice (some ⟨blk, xo, none⟩) tl tc] wc fun e w' => e = .returned (.int .i64 (NT.int32 V)) ∧ w' = wc) := by
            have h1 := NT.refGet_any _ t wc.heap.size wc HSB2.out (by have := HTT.out.1; omega)
            rw [← hV] at h1
            exact h1
          have HV : Hid (V = (NT.valB (t.take 4) : Int)) := hV
          have z1 : IntKind.u32.wrap (NT.int32 V) = V := by unfold NT.int32; simp [IntKind.wrap, IntKind.bits, IntKind.signed]; split <;> omega
          have z2 : IntKind.i64.wrap V = V := by rw [IntKind.wrap_i64]; omega
          clear hV
          have ht4 : t.take 4 = t := List.take_of_length_le (by have := HTT.out.1; omega)
          have hXv : X = (4, q, 0, V, [], [], 0) := by
            rw [HX.out, HV.out, ht4]
            have h4 : t.length = 4 := by rw [← HTT.out.1]; exact l4
            simp [entF, kindOkB, restF, idF, h4]
          clear ht4
          subst l4
          go_wp2_with (go_at_call 42; refine HGET.out.mono ?_; rintro e w2 ⟨rfl, rfl⟩)
          refine bodyPost_ret (v := .tuple #[.agg #[.int .i64 4, .string q, .int .i64 0, .int .i64 V, .slice none 0 0, .slice none 0 0], .int .i64 0]) (by simp [results, Try.results9, go_sem, *]; done) rfl ?_
          try rw [hXv]
          refine ⟨.slice none 0 0, .slice none 0 0, rfl, NT.SliceP.nil _ _, NT.SliceB.nil _ _, ?_⟩
          iterate 6 refine Below.setCell ?_ (show w.heap.size ≤ w.heap.size from Nat.le_refl _) _
          iterate 1 refine Below.setCell ?_ (show w.heap.size ≤ eb by omega) _
          exact HW.out.1

        · have l4' : ¬ (tl : Int) = 4 := by omega
          have hXv : X = noE 2 := by rw [HX.out]; simp [entF, kindOkB, restF, show ¬ t.length = 4 by rw [← HTT.out.1]; exact l4]
          go_wp2_with fail
          refine bodyPost_ret (v := .tuple #[noEntry, .int .i64 2]) (by simp [results, Try.results9, go_sem, noEntry, *]; done) rfl ?_
          try rw [hXv]
          refine eans_no 2 ?_
          iterate 6 refine Below.setCell ?_ (show w.heap.size ≤ w.heap.size from Nat.le_refl _) _
          exact HW.out.1

      by_cases k3 : kk = 3
      · subst k3
        by_cases l3 : 4 ≤ tl
        · have l3' : (4 : Int) ≤ (tl : Int) := by omega
          obtain ⟨V, hV⟩ : ∃ V : Int, V = (NT.valB (t.take 4) : Int) := ⟨_, rfl⟩
          have hV0 : 0 ≤ V ∧ V ≤ 4294967295 := by rw [hV]; exact ⟨by omega, NT.valB_lt4 _ (by simp; omega)⟩
          have HGET : Hid (Calls Try.prog 42 #[.slice (some ⟨blk, xo, none⟩) tl tc] wc fun e w' => e = .returned (.int .i64 (NT.int32 V)) ∧ w' = wc) := by
            have h1 := NT.refGet_any _ t wc.heap.size wc HSB2.out (by have := HTT.out.1; omega)
            rw [← hV] at h1
            exact h1
          have HV : Hid (V = (NT.valB (t.take 4) : Int)) := hV
          have z1 : IntKind.u32.wrap (NT.int32 V) = V := by unfold NT.int32; simp [IntKind.wrap, IntKind.bits, IntKind.signed]; split <;> omega
          have z2 : IntKind.i64.wrap V = V := by rw [IntKind.wrap_i64]; omega
          clear hV
          obtain ⟨E, hE0⟩ : ∃ E, E = (NT.parseF (t.drop 4)).1 := ⟨_, rfl⟩
          obtain ⟨N, hN0⟩ : ∃ N, N = (NT.parseF (t.drop 4)).2.2.2 := ⟨_, rfl⟩
          obtain ⟨PS, hPS⟩ : ∃ PS, PS = (NT.parseF (t.drop 4)).2.1 := ⟨_, rfl⟩
          obtain ⟨BS, hBS⟩ : ∃ BS, BS = (NT.parseF (t.drop 4)).2.2.1 := ⟨_, rfl⟩
          have HPF : Hid (E = (NT.parseF (t.drop 4)).1 ∧ N = (NT.parseF (t.drop 4)).2.2.2 ∧ PS = (NT.parseF (t.drop 4)).2.1 ∧ BS = (NT.parseF (t.drop 4)).2.2.1) := ⟨hE0, hN0, hPS, hBS⟩
          clear hE0 hN0 hPS hBS
          have HPAR0 : ∀ W, Below w.heap.size w W → Calls Try.prog 43 #[cutV blk xo tl tc 4 tl] W fun e w' => ∃ v u, e = .returned (.tuple #[.agg #[v, u], .int .i64 N, .int .i64 E]) ∧ NT.SliceP w'.heap.size w' v PS ∧ NT.SliceB w'.heap.size w' u BS ∧ Below W.heap.size W w' := by
            intro W hW
            have h1 := HTT.out.1
            have h2 := HSB3.out W hW
            rw [h1] at h2 ⊢
            have h3 := cut_is h2 4 t.length (by omega) (Nat.le_refl _)
            rw [List.take_of_length_le (by rw [List.length_drop]; omega)] at h3
            obtain ⟨ra, rc, hv, -⟩ := id h3
            rw [hv] at h3 ⊢
            have h4 := refParse_all ra rc (t.drop 4) W h3 (by rw [List.length_drop]; omega)
            unfold NT.Told at h4
            rw [← HPF.out.1, ← HPF.out.2.1, ← HPF.out.2.2.1, ← HPF.out.2.2.2] at h4
            exact h4
          have HBS : Hid (∀ x, Below w.heap.size w (wc.setCell ⟨eb, 3, none⟩ x)) := fun x => HW.out.1.setCell (show w.heap.size ≤ eb by omega) _
          have hw4 : IntKind.i64.wrap ((tl : Int) - 4) = (tl : Int) - 4 := by rw [IntKind.wrap_i64]; omega
          by_cases hc4 : tc = 4
          · subst hc4
            have h44 : tl = 4 := by omega
            subst h44
            have HPAR : Hid (∀ W, Below w.heap.size w W → Calls Try.prog 43 #[.slice (some ⟨blk, xo, none⟩) 0 0] W fun e w' => ∃ v u, e = .returned (.tuple #[.agg #[v, u], .int .i64 N, .int .i64 E]) ∧ NT.SliceP w'.heap.size w' v PS ∧ NT.SliceB w'.heap.size w' u BS ∧ Below W.heap.size W w') := by
              rw [show cutV blk xo 4 4 4 4 = .slice (some ⟨blk, xo, none⟩) 0 0 by unfold cutV; rw [if_pos rfl]] at HPAR0
              exact HPAR0
            clear HPAR0
            go_wp2_with fail
            refine HGET.out.mono ?_
            rintro e w2 ⟨rfl, hw2⟩
            rw [hw2]
            clear hw2 w2
            go_wp2_with fail
            refine (HPAR.out (wc.setCell ⟨eb, 3, none⟩ (.int .i64 V)) (HBS.out _)).mono ?_
            rintro e w3 ⟨v, u, rfl, hv3, hu3, hb3⟩
            obtain ⟨va, vc, rfl, -⟩ := id hv3
            obtain ⟨ua, uc, rfl, -⟩ := id hu3
            have HW3 : Hid (NT.SliceP w3.heap.size w3 (.slice va PS.length vc) PS ∧ NT.SliceB w3.heap.size w3 (.slice ua BS.length uc) BS ∧ Below wc.heap.size (wc.setCell ⟨eb, 3, none⟩ (.int .i64 V)) w3) := ⟨hv3, hu3, ⟨hb3.os, hb3.tape, hb3.output, hb3.size, fun b hb => hb3.block b (by simpa using hb)⟩⟩
            have hz3 : wc.heap.size ≤ w3.heap.size := by have := hb3.size; simpa using this
            clear hv3 hu3 hb3
            go_upto_region 14 with fail
            have HE3 : Hid (Blk w3 eb [.int .i64 3, .string q, .int .i64 0, .int .i64 V, .slice none 0 0, .slice none 0 0] ∧ Blk w3 w.heap.size [.int .i64 0, .string ⟨#[]⟩, .int .i64 0, .int .i64 0, .slice none 0 0, .slice none 0 0] ∧ Below w.heap.size w w3) := by
              have h1 := HW3.out.2.2
              refine ⟨(HW.out.2.1.set 3 _).below h1 (by omega), (HW.out.2.2.1.same (Below.heap_setCell _ _ _ _ (show w.heap.size ≠ eb by omega))).below h1 (by omega), ?_⟩
              exact (HW.out.1.setCell (show w.heap.size ≤ eb by omega) _).trans (h1.mono (by omega))
            clear c0 c1 c2 c3 c4 c5 c6 c7 r0 r1 r2 r3 r4 r5 r6 r7
            obtain ⟨c0, c1, c2, c3, c4, c5, c6, c7⟩ := HE3.out.1.b6
            obtain ⟨r0, r1, r2, r3, r4, r5, r6, r7⟩ := HE3.out.2.1.b6
            have m3 : w3.heap.size ≠ eb := by omega
            have m4 : w3.heap.size ≠ w.heap.size := by omega
            by_cases hE : E = 0
            · by_cases hN : (N : Int) < 0
              · exfalso; omega
              · have hXv : X = (3, q, 0, V, PS, BS, 0) := by
                  rw [HX.out, HPF.out.2.2.1, HPF.out.2.2.2, HV.out]
                  have h1 := HTT.out.1
                  have h2 : ¬ t.length < 4 := by omega
                  have h5 := NT.parse_back (t.drop 4) (by rw [← HPF.out.1]; exact hE)
                  have h6 : (NT.parseF (t.drop 4)).2.2.2 ≤ t.length - 4 := by have := h5.2.2.1; rw [List.length_drop] at this; exact this
                  have h4 : ((NT.parseF (t.drop 4)).2.2.2 : Int) = (t.length : Int) - 4 := by have := HPF.out.2.1; omega
                  have h7 : (NT.parseF (t.drop 4)).1 = 0 := by rw [← HPF.out.1]; exact hE
                  simp [entF, kindOkB, restF, h2, h4, h7]
                subst hE
                go_wp2_with fail
                refine bodyPost_ret (v := .tuple #[.agg #[.int .i64 3, .string q, .int .i64 0, .int .i64 V, .slice va PS.length vc, .slice ua BS.length uc], .int .i64 0]) (by simp [results, Try.results9, go_sem, *]; done) rfl ?_
                try rw [hXv]
                have key : ∀ W : World, (∀ b, b < w3.heap.size → b ≠ eb → b ≠ w.heap.size → W.heap[b]? = w3.heap[b]?) → w3.heap.size ≤ W.heap.size → Below w.heap.size w W → EAns (3, q, 0, V, PS, BS, 0) w (.returned (.tuple #[.agg #[.int .i64 3, .string q, .int .i64 0, .int .i64 V, .slice va PS.length vc, .slice ua BS.length uc], .int .i64 0])) W := by
                  intro W g1 g2 g3
                  obtain ⟨o1, o2⟩ := nt_off HW3.out.1 HW3.out.2.1 HE3.out.1 HE3.out.2.1 g1 g2
                  exact ⟨_, _, rfl, o1, o2, g3⟩
                refine key _ (fun b h1 h2 h3 => ?_) ?_ ?_
                · rw [Below.heap_alloc _ _ _ (by simpa using h1)]
                  iterate 8 rw [Below.heap_setCell _ _ _ _ (by first | exact h2 | exact h3)]
                · simp
                · refine Below.alloc ?_ (by have := HE3.out.2.2.size; simp; omega) _
                  iterate 6 refine Below.setCell ?_ (show w.heap.size ≤ w.heap.size from Nat.le_refl _) _
                  iterate 2 refine Below.setCell ?_ (show w.heap.size ≤ eb by omega) _
                  exact HE3.out.2.2
            · have hXv : X = noE 2 := by
                rw [HX.out]
                have h1 := HTT.out.1
                have h2 : ¬ t.length < 4 := by omega
                have h7 : ¬ (NT.parseF (t.drop 4)).1 = 0 := by rw [← HPF.out.1]; exact hE
                simp [entF, kindOkB, restF, h2, h7]
              go_wp2_with fail
              refine bodyPost_ret (v := .tuple #[noEntry, .int .i64 2]) (by simp [results, Try.results9, go_sem, noEntry, *]; done) rfl ?_
              try rw [hXv]
              refine eans_no 2 ?_
              refine Below.alloc ?_ (by have := HE3.out.2.2.size; simp; omega) _
              iterate 6 refine Below.setCell ?_ (show w.heap.size ≤ w.heap.size from Nat.le_refl _) _
              exact HE3.out.2.2

          · have HPAR : Hid (∀ W, Below w.heap.size w W → Calls Try.prog 43 #[.slice (some ⟨blk, xo + 4, none⟩) (tl - 4) (tc - 4)] W fun e w' => ∃ v u, e = .returned (.tuple #[.agg #[v, u], .int .i64 N, .int .i64 E]) ∧ NT.SliceP w'.heap.size w' v PS ∧ NT.SliceB w'.heap.size w' u BS ∧ Below W.heap.size W w') := by
              rw [show cutV blk xo tl tc 4 tl = .slice (some ⟨blk, xo + 4, none⟩) (tl - 4) (tc - 4) by unfold cutV; rw [if_neg hc4]] at HPAR0
              exact HPAR0
            clear HPAR0
            go_wp2_with fail
            refine HGET.out.mono ?_
            rintro e w2 ⟨rfl, hw2⟩
            rw [hw2]
            clear hw2 w2
            go_wp2_with fail
            refine (HPAR.out (wc.setCell ⟨eb, 3, none⟩ (.int .i64 V)) (HBS.out _)).mono ?_
            rintro e w3 ⟨v, u, rfl, hv3, hu3, hb3⟩
            obtain ⟨va, vc, rfl, -⟩ := id hv3
            obtain ⟨ua, uc, rfl, -⟩ := id hu3
            have HW3 : Hid (NT.SliceP w3.heap.size w3 (.slice va PS.length vc) PS ∧ NT.SliceB w3.heap.size w3 (.slice ua BS.length uc) BS ∧ Below wc.heap.size (wc.setCell ⟨eb, 3, none⟩ (.int .i64 V)) w3) := ⟨hv3, hu3, ⟨hb3.os, hb3.tape, hb3.output, hb3.size, fun b hb => hb3.block b (by simpa using hb)⟩⟩
            have hz3 : wc.heap.size ≤ w3.heap.size := by have := hb3.size; simpa using this
            clear hv3 hu3 hb3
            go_upto_region 14 with fail
            have HE3 : Hid (Blk w3 eb [.int .i64 3, .string q, .int .i64 0, .int .i64 V, .slice none 0 0, .slice none 0 0] ∧ Blk w3 w.heap.size [.int .i64 0, .string ⟨#[]⟩, .int .i64 0, .int .i64 0, .slice none 0 0, .slice none 0 0] ∧ Below w.heap.size w w3) := by
              have h1 := HW3.out.2.2
              refine ⟨(HW.out.2.1.set 3 _).below h1 (by omega), (HW.out.2.2.1.same (Below.heap_setCell _ _ _ _ (show w.heap.size ≠ eb by omega))).below h1 (by omega), ?_⟩
              exact (HW.out.1.setCell (show w.heap.size ≤ eb by omega) _).trans (h1.mono (by omega))
            clear c0 c1 c2 c3 c4 c5 c6 c7 r0 r1 r2 r3 r4 r5 r6 r7
            obtain ⟨c0, c1, c2, c3, c4, c5, c6, c7⟩ := HE3.out.1.b6
            obtain ⟨r0, r1, r2, r3, r4, r5, r6, r7⟩ := HE3.out.2.1.b6
            have m3 : w3.heap.size ≠ eb := by omega
            have m4 : w3.heap.size ≠ w.heap.size := by omega
            by_cases hE : E = 0
            · by_cases hN : (N : Int) < (tl : Int) - 4
              · have hXv : X = noE 2 := by
                  rw [HX.out]
                  have h1 := HTT.out.1
                  have h2 : ¬ t.length < 4 := by omega
                  have h3 : ¬ (N : Int) = (t.length : Int) - 4 := by omega
                  rw [← h1] at h3
                  have h4 : ¬ ((NT.parseF (t.drop 4)).2.2.2 : Int) = (t.length : Int) - 4 := by rw [← HPF.out.2.1, ← h1]; exact h3
                  simp [entF, kindOkB, restF, h2, h4]
                subst hE
                go_wp2_with fail
                refine bodyPost_ret (v := .tuple #[noEntry, .int .i64 2]) (by simp [results, Try.results9, go_sem, noEntry, *]; done) rfl ?_
                try rw [hXv]
                refine eans_no 2 ?_
                refine Below.alloc ?_ (by have := HE3.out.2.2.size; simp; omega) _
                iterate 6 refine Below.setCell ?_ (show w.heap.size ≤ w.heap.size from Nat.le_refl _) _
                exact HE3.out.2.2
              · have hXv : X = (3, q, 0, V, PS, BS, 0) := by
                  rw [HX.out, HPF.out.2.2.1, HPF.out.2.2.2, HV.out]
                  have h1 := HTT.out.1
                  have h2 : ¬ t.length < 4 := by omega
                  have h5 := NT.parse_back (t.drop 4) (by rw [← HPF.out.1]; exact hE)
                  have h6 : (NT.parseF (t.drop 4)).2.2.2 ≤ t.length - 4 := by have := h5.2.2.1; rw [List.length_drop] at this; exact this
                  have h4 : ((NT.parseF (t.drop 4)).2.2.2 : Int) = (t.length : Int) - 4 := by have := HPF.out.2.1; omega
                  have h7 : (NT.parseF (t.drop 4)).1 = 0 := by rw [← HPF.out.1]; exact hE
                  simp [entF, kindOkB, restF, h2, h4, h7]
                subst hE
                go_wp2_with fail
                refine bodyPost_ret (v := .tuple #[.agg #[.int .i64 3, .string q, .int .i64 0, .int .i64 V, .slice va PS.length vc, .slice ua BS.length uc], .int .i64 0]) (by simp [results, Try.results9, go_sem, *]; done) rfl ?_
                try rw [hXv]
                have key : ∀ W : World, (∀ b, b < w3.heap.size → b ≠ eb → b ≠ w.heap.size → W.heap[b]? = w3.heap[b]?) → w3.heap.size ≤ W.heap.size → Below w.heap.size w W → EAns (3, q, 0, V, PS, BS, 0) w (.returned (.tuple #[.agg #[.int .i64 3, .string q, .int .i64 0, .int .i64 V, .slice va PS.length vc, .slice ua BS.length uc], .int .i64 0])) W := by
                  intro W g1 g2 g3
                  obtain ⟨o1, o2⟩ := nt_off HW3.out.1 HW3.out.2.1 HE3.out.1 HE3.out.2.1 g1 g2
                  exact ⟨_, _, rfl, o1, o2, g3⟩
                refine key _ (fun b h1 h2 h3 => ?_) ?_ ?_
                · rw [Below.heap_alloc _ _ _ (by simpa using h1)]
                  iterate 8 rw [Below.heap_setCell _ _ _ _ (by first | exact h2 | exact h3)]
                · simp
                · refine Below.alloc ?_ (by have := HE3.out.2.2.size; simp; omega) _
                  iterate 6 refine Below.setCell ?_ (show w.heap.size ≤ w.heap.size from Nat.le_refl _) _
                  iterate 2 refine Below.setCell ?_ (show w.heap.size ≤ eb by omega) _
                  exact HE3.out.2.2
            · have hXv : X = noE 2 := by
                rw [HX.out]
                have h1 := HTT.out.1
                have h2 : ¬ t.length < 4 := by omega
                have h7 : ¬ (NT.parseF (t.drop 4)).1 = 0 := by rw [← HPF.out.1]; exact hE
                simp [entF, kindOkB, restF, h2, h7]
              go_wp2_with fail
              refine bodyPost_ret (v := .tuple #[noEntry, .int .i64 2]) (by simp [results, Try.results9, go_sem, noEntry, *]; done) rfl ?_
              try rw [hXv]
              refine eans_no 2 ?_
              refine Below.alloc ?_ (by have := HE3.out.2.2.size; simp; omega) _
              iterate 6 refine Below.setCell ?_ (show w.heap.size ≤ w.heap.size from Nat.le_refl _) _
              exact HE3.out.2.2


        · have l3' : ¬ (4 : Int) ≤ (tl : Int) := by omega
          have hXv : X = noE 2 := by rw [HX.out]; simp [entF, kindOkB, restF, show t.length < 4 by rw [← HTT.out.1]; omega]
          go_wp2_with fail
          refine bodyPost_ret (v := .tuple #[noEntry, .int .i64 2]) (by simp [results, Try.results9, go_sem, noEntry, *]; done) rfl ?_
          try rw [hXv]
          refine eans_no 2 ?_
          iterate 6 refine Below.setCell ?_ (show w.heap.size ≤ w.heap.size from Nat.le_refl _) _
          exact HW.out.1

      have q1 : (kk == 1) = false := by simpa using k1
      have q2 : (kk == 2) = false := by simpa using k2
      have q3 : (kk == 3) = false := by simpa using k3
      have q4 : (kk == 4) = false := by simpa using k4
      have hXv : X = noE 1 := by
        rw [HX.out]
        have hk : kindOkB kk = false := by
          simp only [kindOkB, Bool.and_eq_false_iff, decide_eq_false_iff_not]
          have := HKB.out
          omega
        simp [entF, hk]
      by_cases k5 : kk < 1
      · go_wp2_with fail
        refine bodyPost_ret (v := .tuple #[noEntry, .int .i64 1]) (by simp [results, Try.results9, go_sem, noEntry, *]; done) rfl ?_
        try rw [hXv]
        refine eans_no 1 ?_
        iterate 6 refine Below.setCell ?_ (show w.heap.size ≤ w.heap.size from Nat.le_refl _) _
        exact HW.out.1
      · have k6 : 4 < kk := by have := HKB.out; omega
        go_wp2_with fail
        refine bodyPost_ret (v := .tuple #[noEntry, .int .i64 1]) (by simp [results, Try.results9, go_sem, noEntry, *]; done) rfl ?_
        try rw [hXv]
        refine eans_no 1 ?_
        iterate 6 refine Below.setCell ?_ (show w.heap.size ≤ w.heap.size from Nat.le_refl _) _
        exact HW.out.1

end Go.Proofs.Ytkddkpdfeeikhaa

/-
  tgref1.EntryParse reads what journal.Parse reads.
-/
namespace Go.Proofs.Ytkddkpdfeeikhaa
open Go.RowKit
set_option linter.unusedVariables false
set_option linter.unusedSimpArgs false

attribute [local go_sem ↓] Go.wp_at_zero Go.wp_at_succ


theorem refEnt_any (a : Option Addr) (cap : Nat) (b : List UInt8) (w : World) (hb : NT.SliceB w.heap.size w (.slice a b.length cap) b) (hbm : b.length ≤ 4194304) :
    Calls Try.prog 9 #[.slice a b.length cap] w (EAns (jparseF b) w) := by
  unfold jparseF headF
  match b, hb, hbm with
  | [], hb, hbm => exact refEnt_short a cap [] w (by simp)
  | [x], hb, hbm => exact refEnt_short a cap [x] w (by simp)
  | k :: n :: r, hb, hbm =>
    obtain ⟨blk, off, rfl⟩ : ∃ blk off, a = some ⟨blk, off, none⟩ := by
      obtain ⟨a', cap', e, _, _, _, h⟩ := hb
      obtain ⟨blk, off, e2, _⟩ := h 0 (by simp)
      simp only [Value.slice.injEq] at e
      exact ⟨blk, off, e.1.trans e2⟩
    by_cases hl : r.length < n.toNat
    · simp only [hl, if_true]
      exact refEnt_cut blk off cap _ k n r w hb rfl hl
    · simp only [hl, if_false]
      by_cases hc2 : cap = 2
      · subst hc2
        exact refEnt_A blk off _ k n r w hb rfl (by omega) hbm _ rfl
      · by_cases hce : cap = 2 + n.toNat
        · exact refEnt_B blk off cap _ k n r w hb rfl (by omega) hbm hc2 hce _ rfl
        · exact refEnt_C blk off cap _ k n r w hb rfl (by omega) hbm hc2 hce _ rfl
end Go.Proofs.Ytkddkpdfeeikhaa

/-
  What is read is an entry that may be applied; what records come to, plainly.
-/
namespace Go.Proofs.Ytkddkpdfeeikhaa
open Go.RowKit
set_option linter.unusedVariables false
set_option linter.unusedSimpArgs false

/-- The entry that bytes are read as. -/
def readE (b : List UInt8) : ED := ⟨(jparseF b).1, (jparseF b).2.1, (jparseF b).2.2.1, (jparseF b).2.2.2.1, ⟨(jparseF b).2.2.2.2.1.map upPD, (jparseF b).2.2.2.2.2.1⟩⟩
def readOk (b : List UInt8) : Bool := (jparseF b).2.2.2.2.2.2 == 0
/-- A record is applied, if it is an entry. -/
def stepF (h : HD) (r : List UInt8) : HD := if readOk r then applyF h (readE r) else h
def replayL (h : HD) (rs : List (List UInt8)) : HD := rs.foldl stepF h

theorem headF_len {b : List UInt8} {k : UInt8} {q r : List UInt8} (h : headF b = some (k, q, r)) : q.length ≤ 255 := by
  unfold headF at h
  split at h
  · rename_i k' n r'
    split at h
    · cases h
    · simp only [Option.some.injEq, Prod.mk.injEq] at h
      obtain ⟨-, rfl, -⟩ := h
      have := n.toNat_lt
      simp
      omega
  · cases h

theorem bstr_size (q : List UInt8) : (bstr q).size = q.length := by simp [bstr, ByteArray.size]

theorem readE_fits (b : List UInt8) : (readE b).fits ∧ (readE b).queue.size ≤ 255 := by
  unfold readE jparseF
  have hno : ED.fits ⟨0, ⟨#[]⟩, 0, 0, ⟨List.map upPD [], []⟩⟩ ∧ (⟨#[]⟩ : ByteArray).size ≤ 255 := ⟨⟨by simp [ByteArray.size, maxLen], by simp, by simp [ND.small]⟩, by simp [ByteArray.size]⟩
  cases hh : headF b with
  | none => exact hno
  | some x =>
    obtain ⟨k, q, r⟩ := x
    simp only
    have hq := headF_len hh
    split
    · split
      · rename_i hk hr
        have hqs : (bstr q).size ≤ 255 := by rw [bstr_size]; exact hq
        refine ⟨⟨by simp only; unfold maxLen; omega, ?_, ?_⟩, hqs⟩
        · simp only [restF]
          have h4 : ∀ l : List UInt8, l.length ≤ 4 → (0 : Int) ≤ NT.valB l ∧ (NT.valB l : Int) ≤ 4294967296 := fun l hl => ⟨by omega, by have := NT.valB_lt4 l hl; omega⟩
          split
          · simp
          · split
            · split
              · simp
              · exact h4 _ (by simp; omega)
            · split
              · simp only [idF]
                split
                · exact h4 _ (by omega)
                · simp
              · simp
        · simp only [restF] at hr ⊢
          by_cases h1 : (k.toNat : Int) = 1
          · simp [h1, ND.small]
          by_cases h3 : (k.toNat : Int) = 3
          · simp only [h3] at hr ⊢
            by_cases hl : r.length < 4
            · simp [hl] at hr
            · simp [hl] at hr ⊢
              have hb := NT.parse_back (r.drop 4) hr.1
              have hw := NT.wrongN_zero _ _ hb.1
              simp [ND.small]
              omega
          · simp only [h1, h3, if_false] at hr ⊢
            split <;> simp [ND.small]
      · exact hno
    · exact hno

/-- How much a hall holds grows by one a step. -/
theorem applyF_grow {c : Nat} {h : HD} {e : ED} (hf : h.fits c) (he : e.queue.size ≤ maxLen) : (applyF h e).fits (c + 1) := by
  obtain ⟨h1, h2, h3⟩ := hf
  have same : h.fits (c + 1) := ⟨by omega, fun q hq => by have := h2 q hq; omega, h3⟩
  cases hn : h.queues.findIdx? (nameB e.queue) with
  | none =>
    rw [applyF_none hn]
    split
    · refine ⟨by simp; omega, fun q hq => ?_, fun q hq => ?_⟩
      · rw [List.mem_append, List.mem_singleton] at hq
        rcases hq with hq | rfl
        · have := h2 q hq; omega
        · simp
      · rw [List.mem_append, List.mem_singleton] at hq
        rcases hq with hq | rfl
        · exact h3 q hq
        · exact he
    · exact same
  | some k =>
    have hk : k < h.queues.length := (List.findIdx?_eq_some_iff_getElem.1 hn).1
    have hm := List.getElem_mem hk
    have hset : ∀ its : List IT, its.length ≤ h.queues[k].items.length + 1 → ∀ nx, HD.fits (c + 1) ⟨h.queues.set k ⟨h.queues[k].name, h.queues[k].limit, its⟩, nx⟩ := fun its hi nx => by
      refine ⟨by simp; omega, fun q hq => ?_, fun q hq => ?_⟩
      · rcases List.mem_or_eq_of_mem_set hq with hq | rfl
        · have := h2 q hq; omega
        · have := h2 _ hm; simp only; omega
      · rcases List.mem_or_eq_of_mem_set hq with hq | rfl
        · exact h3 q hq
        · show h.queues[k].name.size ≤ maxLen
          exact h3 _ hm
    rw [applyF_some hk hn]
    split
    · refine ⟨by simp [List.length_eraseIdx, hk]; omega, fun q hq => ?_, fun q hq => ?_⟩
      · have := h2 q (List.mem_of_mem_eraseIdx hq); omega
      · exact h3 q (List.mem_of_mem_eraseIdx hq)
    · split
      · exact hset _ (by simp) _
      · split
        · exact hset _ (by have := List.length_filter_le (fun i => !idB e.id i) h.queues[k].items; omega) _
        · exact same

theorem stepF_grow {c : Nat} {h : HD} (hf : h.fits c) (r : List UInt8) : (stepF h r).fits (c + 1) := by
  unfold stepF
  split
  · exact applyF_grow hf (readE_fits r).1.queue
  · exact ⟨by have := hf.len; omega, fun q hq => by have := hf.items q hq; omega, hf.names⟩

theorem replayL_fits (rs : List (List UInt8)) : (replayL ⟨[], 0⟩ rs).fits (rs.length + 1) := by
  suffices H : ∀ (rs : List (List UInt8)) (h : HD) (c : Nat), h.fits c → (replayL h rs).fits (c + rs.length) by
    have := H rs ⟨[], 0⟩ 1 ⟨by simp, by simp, by simp⟩
    rwa [Nat.add_comm] at this
  intro rs
  induction rs with
  | nil => intro h c hf; exact hf
  | cons r rs ih =>
    intro h c hf
    have := ih _ _ (stepF_grow hf r)
    rw [show c + (r :: rs).length = c + 1 + rs.length by simp; omega]
    exact this
theorem replayL_take (rs : List (List UInt8)) (k : Nat) (hk : k < rs.length) : replayL ⟨[], 0⟩ (rs.take (k + 1)) = stepF (replayL ⟨[], 0⟩ (rs.take k)) rs[k] := by
  unfold replayL
  rw [List.take_succ_eq_append_getElem hk, List.foldl_append]
  rfl
end Go.Proofs.Ytkddkpdfeeikhaa
