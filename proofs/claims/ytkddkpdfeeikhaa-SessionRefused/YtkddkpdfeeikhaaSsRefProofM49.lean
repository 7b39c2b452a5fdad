/-
  SsSame; SrRef: texts laid together.
-/
import Derived.Test.YtkddkpdfeeikhaaSsRefProofM11
import Derived.Test.YtkddkpdfeeikhaaSsRefProofM43
import Derived.Test.YtkddkpdfeeikhaaSsRefProofM17
/-
  tglaw6.right, tgref6.SameSession.
-/
namespace Go.Proofs.Ytkddkpdfeeikhaa
open Go.RowKit
set_option linter.unusedVariables false
set_option linter.unusedSimpArgs false

attribute [local go_sem ↓] Go.wp_at_zero Go.wp_at_succ

set_option maxRecDepth 100000 in
set_option maxHeartbeats 3200000 in
theorem right6_any (v u tv : Value) (h : HD) (sure nx : Int) (l : List UInt8) (ts : List TD) (w : World) (hv : SliceQ (Under w.heap.size) w v h.queues) (hname : ∀ q ∈ h.queues, q.name.size ≤ maxLen) (hfit : ∀ q ∈ h.queues, ∀ i ∈ q.items, i.note.fitN) (hu : SliceB (Under w.heap.size) w u l) (ht : SliceT (Under w.heap.size) w tv ts) :
    Calls Try.prog 36 #[.agg #[v, .int .i64 h.next], .agg #[u, .int .i64 sure], .agg #[tv, .int .i64 nx]] w (AnsB w (h.sound ∧ 0 ≤ nx ∧ nx < 1000000)) := by
  obtain ⟨va, vc, rfl⟩ := hv.shp
  obtain ⟨ua, uc, rfl, -⟩ := SliceV.shape hu
  obtain ⟨ta, tc, rfl, -⟩ := SliceV.shape ht
  obtain ⟨A, hA⟩ : ∃ A, A = ((w.alloc (.cells #[.slice va h.queues.length vc, .int .i64 h.next] 24)).alloc (.cells #[.slice ua l.length uc, .int .i64 sure] 32)).alloc (.cells #[.slice ta ts.length tc, .int .i64 nx] 64) := ⟨_, rfl⟩
  have hAb : Below w.heap.size w A := by rw [hA]; exact ((below_alloc _ _).alloc (by simp) _).alloc (by simp; omega) _
  have HA : Hid (Below w.heap.size w A ∧ Blk A w.heap.size [.slice va h.queues.length vc, .int .i64 h.next] ∧ Blk A (w.heap.size + 1) [.slice ua l.length uc, .int .i64 sure] ∧ Blk A (w.heap.size + 2) [.slice ta ts.length tc, .int .i64 nx]) := by
    refine ⟨hAb, by rw [hA]; exact ((Blk.new _ _ _).alloc _).alloc _, ?_, ?_⟩
    · rw [hA]
      have := (Blk.new (w.alloc (.cells #[.slice va h.queues.length vc, .int .i64 h.next] 24)) [.slice ua l.length uc, .int .i64 sure] 32).alloc (.cells #[.slice ta ts.length tc, .int .i64 nx] 64)
      simpa using this
    · rw [hA]
      have := Blk.new ((w.alloc (.cells #[.slice va h.queues.length vc, .int .i64 h.next] 24)).alloc (.cells #[.slice ua l.length uc, .int .i64 sure] 32)) [.slice ta ts.length tc, .int .i64 nx] 64
      simpa using this
  have HR : Hid (Calls Try.prog 19 #[.agg #[.slice va h.queues.length vc, .int .i64 h.next]] A (AnsB A h.sound)) := rightH_any _ h A (hv.sub fun b hb => ⟨Nat.lt_of_lt_of_le hb hAb.size, hAb.block b hb⟩) hname hfit
  obtain ⟨a0, a1, a2, a3⟩ := HA.out.2.1.b2
  obtain ⟨sd, hsd⟩ : ∃ sd : Prop, sd = h.sound := ⟨_, rfl⟩
  rw [← hsd] at HR ⊢
  obtain ⟨PP, hPP⟩ : ∃ PP : Prop, PP = (sd ∧ 0 ≤ nx ∧ nx < 1000000) := ⟨_, rfl⟩
  have HPP : Hid (sd ∧ 0 ≤ nx ∧ nx < 1000000 → PP) := fun h => by rw [hPP]; exact h
  rw [← hPP]
  clear hv hu ht hname hfit hAb hsd hPP
  go_enter Try.func36, Try.ntmps36
  go_upto_region 1 with fail
  rw [← hA]
  clear hA
  by_cases n1 : 0 ≤ nx
  · by_cases n2 : nx < 1000000
    · go_wp2_with (first
        | (go_at_call 19; refine HR.out.mono ?_; rintro e w1 ⟨kb, rfl, hs, hb1⟩; have H1 : Hid ((kb = true → sd) ∧ Below w.heap.size w w1) := ⟨hs, HA.out.1.trans (hb1.mono HA.out.1.size)⟩; obtain ⟨b0, b1, b2, b3⟩ := (HA.out.2.2.1.below hb1 HA.out.2.2.1.lt).b2; obtain ⟨c0, c1, c2, c3⟩ := (HA.out.2.2.2.below hb1 HA.out.2.2.2.lt).b2; clear hs hb1 a0 a1 a2 a3; cases kb)
        | fail)
      all_goals
        go_ret
        exact ⟨_, rfl, fun hb => by first | exact HPP.out ⟨H1.out.1 rfl, n1, n2⟩ | exact HPP.out ⟨H1.out.1 trivial, n1, n2⟩ | (exfalso; simp_all; done) | (exfalso; simp_all; omega), H1.out.2⟩
    · go_wp2_with (first
        | (go_at_call 19; refine HR.out.mono ?_; rintro e w1 ⟨kb, rfl, hs, hb1⟩; have H1 : Hid ((kb = true → sd) ∧ Below w.heap.size w w1) := ⟨hs, HA.out.1.trans (hb1.mono HA.out.1.size)⟩; obtain ⟨b0, b1, b2, b3⟩ := (HA.out.2.2.1.below hb1 HA.out.2.2.1.lt).b2; obtain ⟨c0, c1, c2, c3⟩ := (HA.out.2.2.2.below hb1 HA.out.2.2.2.lt).b2; clear hs hb1 a0 a1 a2 a3; cases kb)
        | fail)
      all_goals
        go_ret
        exact ⟨_, rfl, fun hb => by first | (exfalso; simp_all; done) | (exfalso; simp_all; omega), H1.out.2⟩
  · go_wp2_with (first
      | (go_at_call 19; refine HR.out.mono ?_; rintro e w1 ⟨kb, rfl, hs, hb1⟩; have H1 : Hid ((kb = true → sd) ∧ Below w.heap.size w w1) := ⟨hs, HA.out.1.trans (hb1.mono HA.out.1.size)⟩; obtain ⟨b0, b1, b2, b3⟩ := (HA.out.2.2.1.below hb1 HA.out.2.2.1.lt).b2; obtain ⟨c0, c1, c2, c3⟩ := (HA.out.2.2.2.below hb1 HA.out.2.2.2.lt).b2; clear hs hb1 a0 a1 a2 a3; cases kb)
      | fail)
    all_goals
      go_ret
      exact ⟨_, rfl, fun hb => by first | (exfalso; simp_all; done) | (exfalso; simp_all; omega), H1.out.2⟩

set_option maxRecDepth 100000 in
set_option maxHeartbeats 3200000 in
theorem sameSession_true (v v' : Value) (nx : Int) (ts : List TD) (w : World) (hv : SliceT (Under w.heap.size) w v ts) (hv' : SliceT (Under w.heap.size) w v' ts) :
    Calls Try.prog 38 #[.agg #[v, .int .i64 nx], .agg #[v', .int .i64 nx]] w fun e w' => e = .returned (.bool true) ∧ Below w.heap.size w w' := by
  have HV : Hid (SliceT (Under w.heap.size) w v ts ∧ SliceT (Under w.heap.size) w v' ts) := ⟨hv, hv'⟩
  obtain ⟨va, vc, rfl, h1, h2, -⟩ := SliceV.shape hv
  obtain ⟨ua, uc, rfl, -⟩ := SliceV.shape hv'
  unfold maxLen at h2
  clear hv hv'
  have two : Hid (∀ o1 o2 : Obj, Below w.heap.size w ((w.alloc o1).alloc o2)) := fun o1 o2 => (below_alloc _ _).alloc (by simp) _
  go_enter Try.func38, Try.ntmps38
  go_wp2
  go_loopw [23] (fun i wr => ∃ k : Nat, k ≤ ts.length ∧ i = .int .i64 k ∧ Below w.heap.size w wr ∧ Blk wr w.heap.size [.slice va ts.length vc, .int .i64 nx] ∧ Blk wr (w.heap.size + 1) [.slice ua ts.length uc, .int .i64 nx]) (fun i _ => ts.length - (intOf i).toNat)
  case atStart =>
    refine ⟨0, Nat.zero_le _, rfl, two.out _ _, (Blk.new w _ 64).alloc _, ?_⟩
    have := Blk.new (w.alloc (.cells #[.slice va ts.length vc, .int .i64 nx] 64)) [.slice ua ts.length uc, .int .i64 nx] 64
    simpa using this
  case round =>
    obtain ⟨k, hk, rfl, hbr, hk0, hk1⟩ := hrel
    have HK : Hid (Below w.heap.size w wr ∧ Blk wr w.heap.size [.slice va ts.length vc, .int .i64 nx] ∧ Blk wr (w.heap.size + 1) [.slice ua ts.length uc, .int .i64 nx]) := ⟨hbr, hk0, hk1⟩
    by_cases hlt : k < ts.length
    · obtain ⟨a0, a1, a2, a3⟩ := hk0.b2
      obtain ⟨b0, b1, b2, b3⟩ := hk1.b2
      obtain ⟨b, off, rfl, hS, c0, c1, c2, c3⟩ := (SliceT.on HV.out.1 hbr).at k hlt
      obtain ⟨b', off', rfl, hS', d0, d1, d2, d3⟩ := (SliceT.on HV.out.2 hbr).at k hlt
      obtain ⟨t, ht⟩ : ∃ t, t = ts[k] := ⟨_, rfl⟩
      rw [← ht] at c0 c1 c2 c3 d0 d1 d2 d3
      clear hbr hk0 hk1 ht
      have hk1 : (k : Int) < (ts.length : Int) := by omega
      go_wp2_with fail
      go_region_law (fail)
      all_goals
        go_wp2
        go_roundw
        case rel => exact ⟨k + 1, by omega, by go_num, HK.out.1.drew, HK.out.2.1.drew, HK.out.2.2.drew⟩
        case measure => simp [intOf]; omega
    · clear hk0 hk1 hbr
      go_wp2
      go_ret
      exact ⟨rfl, HK.out.1⟩

set_option maxRecDepth 100000 in
set_option maxHeartbeats 3200000 in
/-- Of other lengths: no. -/
theorem sameSession_len (v v' : Value) (nx : Int) (ts ts' : List TD) (w : World) (hv : SliceT (Under w.heap.size) w v ts) (hv' : SliceT (Under w.heap.size) w v' ts') (hl : ts.length ≠ ts'.length) :
    Calls Try.prog 38 #[.agg #[v, .int .i64 nx], .agg #[v', .int .i64 nx]] w fun e w' => e = .returned (.bool false) ∧ Below w.heap.size w w' := by
  obtain ⟨va, vc, rfl, h1, h2, -⟩ := SliceV.shape hv
  obtain ⟨ua, uc, rfl, h3, h4, -⟩ := SliceV.shape hv'
  unfold maxLen at h2 h4
  have two : Hid (∀ o1 o2 : Obj, Below w.heap.size w ((w.alloc o1).alloc o2)) := fun o1 o2 => (below_alloc _ _).alloc (by simp) _
  have hne : ¬ (ts.length : Int) = (ts'.length : Int) := by omega
  clear hv hv' hl
  go_enter Try.func38, Try.ntmps38
  go_wp2
  go_ret
  exact ⟨rfl, two.out _ _⟩
end Go.Proofs.Ytkddkpdfeeikhaa

/-
  tgref1.Sum, Frame and SameLog answer what sumF and frameB say, and tell that two logs are the same.
-/
namespace Go.Proofs.Ytkddkpdfeeikhaa.SR
open Go.RowKit
set_option linter.unusedVariables false
set_option linter.unusedSimpArgs false

attribute [local go_sem ↓] Go.wp_at_zero Go.wp_at_succ

set_option maxRecDepth 100000 in
set_option maxHeartbeats 800000 in
theorem sameLog_eq (u v : Value) (s : Int) (l : List UInt8) (w : World) (hu : SliceB w.heap.size w u l) (hv : SliceB w.heap.size w v l) :
    Calls Try.prog 22 #[.agg #[u, .int .i64 s], .agg #[v, .int .i64 s]] w fun e w' => e = .returned (.bool true) ∧ Below w.heap.size w w' := by
  have hcu := fun o1 o2 => conv_str (hu.below ((below_alloc w o1).trans ((below_alloc _ o2).mono (by simp))))
  have hcv := fun o1 o2 => conv_str (hv.below ((below_alloc w o1).trans ((below_alloc _ o2).mono (by simp))))
  obtain ⟨ua, uc, rfl, -⟩ := hu
  obtain ⟨va, vc, rfl, -⟩ := hv
  go_enter Try.func22, Try.ntmps22
  go_wp2
  go_ret
  exact ⟨ret_bool (by simp), (below_alloc _ _).alloc (by simp) _⟩
end Go.Proofs.Ytkddkpdfeeikhaa.SR
