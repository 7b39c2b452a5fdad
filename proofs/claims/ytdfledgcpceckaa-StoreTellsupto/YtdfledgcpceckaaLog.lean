/-
  store.Frame, framed, Own, Sync and kept answer what frameB, sizeR and the log's own fields say.
-/
import Derived.Test.YtdfledgcpceckaaRecs
import Derived.Deep.RegionHeld3
import Derived.Deep.RegionLaw
import Derived.Deep.DrawnRows
namespace Go.Proofs.Ytdfledgcpceckaa
open Go.RowKit
set_option linter.unusedVariables false
set_option linter.unusedSimpArgs false

attribute [local go_sem ↓] Go.wp_at_zero Go.wp_at_succ

theorem none_below {w w' : World} (h : w.grownBy w' none) : Below w.heap.size w w' :=
  ⟨h.os, h.tape, h.output, h.size, fun k hk => h.block k hk (by simp)⟩

set_option maxRecDepth 100000 in
set_option maxHeartbeats 400000 in
theorem frame_any (B : Nat) (u : Value) (r : List UInt8) (w : World) (hu : SliceB w.heap.size w u r) (hr : r.length < 65536) :
    Calls Try.prog 22 #[u] w fun e w' => ∃ ao cap, e = .returned (.slice ao (frameB r).length cap) ∧ w'.ownsRow w.heap.size 5 1 (.slice ao (frameB r).length cap) (frameB r).length (u8s (frameB r)) ∧ Below w.heap.size w w' := by
  obtain ⟨i0, hi0, hz0, hz1, hz2⟩ := info_parts info5
  have HU : Hid (SliceB w.heap.size w u r) := hu
  obtain ⟨ua, uc, rfl, -⟩ := hu
  obtain ⟨F, hF⟩ : ∃ F, F = frameB r := ⟨_, rfl⟩
  have HF : Hid (F = frameB r) := hF
  rw [← hF]
  clear hF
  have hr1 : ¬ ((65536 : Int) ≤ (r.length : Int)) := by omega
  have HR : Hid (r.length < 65536) := hr
  clear hr
  go_enter Try.func22, Try.ntmps22
  go_wp2_with (first
    | (at_make; refine wpList_make_own _ rfl _ _ 23 rfl w.heap.size 5 i0 (.int .u8 0) 1 Try.underlying23 hi0 hz0 hz1 .i64 .i64 _ (r.length + 4) rfl rfl (by omega) (by rw [hz2]; omega) (by unfold maxLen; omega) (Nat.le_refl _) ?_; intro w0 hown0 hg0; have hz := hg0.size)
    | (go_at_call 45; refine (appendFrame_any w.heap.size _ _ [] r _ hown0 (by omega) (by simp) (HU.out.same (none_below hg0).block) HR.out).mono ?_; rw [← HF.out, List.nil_append]; rintro e w1 ⟨ao, cap, rfl, hown1, hg1, hm1⟩))
  go_ret
  exact ⟨_, _, rfl, hown1, (none_below hg0).trans (own_drop hown0 (by omega) hg1)⟩

set_option maxHeartbeats 400000 in
theorem framed_any (B : Nat) (v : Value) (rs : List (List UInt8)) (w : World) (hv : SliceS B w v rs) (hn : rs.length ≤ 8796093022208) (hr : ∀ r ∈ rs, r.length < 65536) :
    Calls Try.prog 47 #[v] w fun e w' => e = .returned (.int .i64 (sizeR rs)) ∧ w' = w := by
  have HV : Hid (SliceS B w v rs) := hv
  obtain ⟨a, cap, rfl, h1, h2⟩ := hv.shape
  have hsz := sizeR_bound rs 65535 (fun r h => by have := hr r h; omega)
  clear hv
  go_enter Try.func47, Try.ntmps47
  go_wp2
  go_loop [3, 8] (fun s i => ∃ k : Nat, k ≤ rs.length ∧ i = .int .i64 k ∧ s = .int .i64 (sizeR (rs.take k))) (fun _ i => rs.length - (intOf i).toNat)
  case atStart => exact ⟨0, Nat.zero_le _, rfl, rfl⟩
  case round =>
    obtain ⟨k, hk, rfl, rfl⟩ := hrel
    by_cases hlt : k < rs.length
    · obtain ⟨g, off, ua, uc, rfl, hc, hs, hg, hu1, hu2⟩ := HV.out.at k hlt
      obtain ⟨r, hrk⟩ : ∃ r, r = rs[k] := ⟨_, rfl⟩
      have hrl := hr rs[k] (List.getElem_mem _)
      have HK : Hid (sizeR (rs.take (k + 1)) = sizeR (rs.take k) + (rs[k].length + 4)) := sizeR_take rs k hlt
      rw [← hrk] at hc hs hu2 hrl HK
      clear hrk
      have hle := sizeR_le rs k
      obtain ⟨S, hS⟩ : ∃ S, S = sizeR (rs.take k) := ⟨_, rfl⟩
      rw [← hS] at HK hle ⊢
      clear hS
      go_wp2
      go_round
      case rel => exact ⟨k + 1, by omega, by go_num, by rw [HK.out]; go_num⟩
      case measure => simp [intOf]; omega
    · go_wp2
      go_ret
      have e : k = rs.length := by omega
      subst e
      exact ⟨ret_i64 (by rw [List.take_of_length_le (Nat.le_refl _)]), rfl⟩

theorem blk2 {X w' : World} {a b : Value} {t : TypeId} {g : Nat} (hg : g = X.heap.size) (hb : Below (X.alloc (.cells #[a, b] t)).heap.size (X.alloc (.cells #[a, b] t)) w') : w'.cell? ⟨g, 0, none⟩ = some a ∧ w'.cell? ⟨g, 1, none⟩ = some b ∧ g < w'.heap.size := by
  subst hg
  refine ⟨(hb.cell (by simp)).trans (by simp), (hb.cell (by simp)).trans (by simp), ?_⟩
  have := hb.size
  simp at this
  omega

set_option maxRecDepth 100000 in
set_option maxHeartbeats 800000 in
theorem own_any (u : Value) (sure : Int) (l : List UInt8) (w : World) (hu : SliceB w.heap.size w u l) (hl : l.length ≤ 140737488355328) :
    Calls Try.prog 25 #[.agg #[u, .int .i64 sure]] w fun e w' => ∃ ao cap, e = .returned (.agg #[.slice ao l.length cap, .int .i64 sure]) ∧ SliceB w'.heap.size w' (.slice ao l.length cap) l ∧ Below w.heap.size w w' := by
  have HU : Hid (∀ o1 o2 : Obj, SliceB (((w.alloc o1).alloc o2)).heap.size ((w.alloc o1).alloc o2) u l) := fun o1 o2 => (hu.below (below_alloc _ _)).below (below_alloc _ _)
  obtain ⟨ua, uc, rfl, -⟩ := hu
  go_enter Try.func25, Try.ntmps25
  go_wp2
  go_region_with (go_at_call 46; refine (copied_any _ _ l _ (HU.out _ _).drew hl).mono ?_; rintro e w1 ⟨ao, cap, rfl, hown1, hb1⟩; have hb1' := Below.trans (Below.drew (Below.refl _ _)) hb1; obtain ⟨k1, k2⟩ := bcell hb1; have hz1 := hb1.size; simp at hz1)
  all_goals go_wp2
  all_goals
    refine bodyPost_ret (v := .agg #[.slice ao l.length cap, .int .i64 sure]) (by simp [results, Try.results25, go_sem, *]; done) rfl ⟨_, _, rfl, own_slice (ownsRow_setCell_below (ownsRow_setCell_below hown1 (by simp) _) (by simp) _), ?_⟩
    exact ((((below_alloc _ _).alloc (by simp) _).drew.trans (hb1.mono (by simp; omega))).setCell (by simp) _).setCell (by simp) _

set_option maxRecDepth 100000 in
set_option maxHeartbeats 800000 in
theorem sync_any (u : Value) (sure : Int) (l : List UInt8) (w : World) (hu : SliceB w.heap.size w u l) (hl : l.length ≤ 140737488355328) :
    Calls Try.prog 26 #[.agg #[u, .int .i64 sure]] w fun e w' => ∃ ao cap, e = .returned (.agg #[.slice ao l.length cap, .int .i64 l.length]) ∧ SliceB w'.heap.size w' (.slice ao l.length cap) l ∧ Below w.heap.size w w' := by
  have HU : Hid (∀ o1 o2 : Obj, SliceB (((w.alloc o1).alloc o2)).heap.size ((w.alloc o1).alloc o2) u l) := fun o1 o2 => (hu.below (below_alloc _ _)).below (below_alloc _ _)
  obtain ⟨ua, uc, rfl, -⟩ := hu
  go_enter Try.func26, Try.ntmps26
  go_wp2
  go_region_with (go_at_call 46; refine (copied_any _ _ l _ (HU.out _ _).drew hl).mono ?_; rintro e w1 ⟨ao, cap, rfl, hown1, hb1⟩; have hb1' := Below.trans (Below.drew (Below.refl _ _)) hb1; obtain ⟨k1, k2⟩ := bcell hb1; have hz1 := hb1.size; simp at hz1)
  all_goals go_wp2
  all_goals
    refine bodyPost_ret (v := .agg #[.slice ao l.length cap, .int .i64 l.length]) (by simp [results, Try.results26, go_sem, *]; done) rfl ⟨_, _, rfl, own_slice (ownsRow_setCell_below (ownsRow_setCell_below hown1 (by simp) _) (by simp) _), ?_⟩
    exact ((((below_alloc _ _).alloc (by simp) _).drew.trans (hb1.mono (by simp; omega))).setCell (by simp) _).setCell (by simp) _

/-- How many bytes a crash leaves. -/
def keptN (n : Nat) (sure keep : Int) : Int := max sure 0 + min (max keep 0) (n - max sure 0)

set_option maxHeartbeats 400000 in
theorem kept_any (B : Nat) (u : Value) (sure keep : Int) (l : List UInt8) (w : World) (hu : SliceB B w u l) (hs : 0 ≤ sure) (hs2 : sure ≤ l.length) (hk : keep ≤ 9223372036854775807) (hk2 : -9223372036854775808 ≤ keep) :
    Calls Try.prog 48 #[.agg #[u, .int .i64 sure], .int .i64 keep] w fun e w' => e = .returned (.int .i64 (keptN l.length sure keep)) ∧ Below w.heap.size w w' := by
  obtain ⟨ua, uc, rfl, u1, u2, -⟩ := hu
  unfold maxLen at u2
  go_enter Try.func48, Try.ntmps48
  go_wp2
  all_goals go_ret
  all_goals exact ⟨ret_i64 (by unfold keptN; omega), below_alloc _ _⟩

theorem keptN_bounds (n : Nat) (sure keep : Int) (hs : 0 ≤ sure) (hs2 : sure ≤ n) : 0 ≤ keptN n sure keep ∧ keptN n sure keep ≤ n ∧ sure ≤ keptN n sure keep := by
  unfold keptN; omega
end Go.Proofs.Ytdfledgcpceckaa
