/-
  store.Crash leaves what crashB says of a log.
-/
import Derived.Test.YtdfledgcpceckaaLog
namespace Go.Proofs.Ytdfledgcpceckaa
open Go.RowKit
set_option linter.unusedVariables false
set_option linter.unusedSimpArgs false

attribute [local go_sem ↓] Go.wp_at_zero Go.wp_at_succ

theorem drew_below {w w' : World} (h : Below w.drew.heap.size w.drew w') : Below w.heap.size w w' := (Below.drew (Below.refl _ _)).trans h
theorem slice_take' {B : Nat} {w : World} {a : Option Addr} {c len : Nat} {b : List UInt8} (h : SliceB B w (.slice a len c) b) (k : Nat) (hk : k ≤ len) : SliceB B w (.slice a k c) (b.take k) := by
  obtain ⟨a', c', e, h1, h2, h3, h4⟩ := h
  simp only [Value.slice.injEq] at e
  obtain ⟨rfl, rfl, rfl⟩ := e
  exact ⟨_, _, by simp; omega, by simp; omega, h2, h3, bytes_take h4 k⟩

/-- What a crash leaves of a log's bytes. -/
def leftB (l : List UInt8) (sure keep : Int) : List UInt8 := l.take (keptN l.length sure keep).toNat
def crashB (l : List UInt8) (sure keep : Int) : List UInt8 := (leftB l sure keep).take (sizeR (recsF (leftB l sure keep)))

set_option maxRecDepth 100000 in
set_option maxHeartbeats 1600000 in
theorem crash_any (u : Value) (sure keep : Int) (l : List UInt8) (w : World) (hu : SliceB w.heap.size w u l) (hs : 0 ≤ sure) (hs2 : sure ≤ l.length) (hk : keep ≤ 9223372036854775807) (hk2 : -9223372036854775808 ≤ keep) (hl : l.length ≤ 1000000000) :
    Calls Try.prog 29 #[.agg #[u, .int .i64 sure], .int .i64 keep] w fun e w' => ∃ ao cap, e = .returned (.agg #[.slice ao (crashB l sure keep).length cap, .int .i64 (crashB l sure keep).length]) ∧ SliceB w'.heap.size w' (.slice ao (crashB l sure keep).length cap) (crashB l sure keep) ∧ Below w.heap.size w w' := by
  obtain ⟨kb0, kb1, kb2⟩ := keptN_bounds l.length sure keep hs hs2
  obtain ⟨n, hn⟩ : ∃ n : Nat, keptN l.length sure keep = n := ⟨(keptN l.length sure keep).toNat, by omega⟩
  have hnl : n ≤ l.length := by omega
  have HC : Hid (crashB l sure keep = (l.take n).take (sizeR (recsF (l.take n)))) := by show _ = _; rw [crashB, leftB, hn]; simp
  have hz := recsF_size (l.take n)
  rw [List.length_take, Nat.min_eq_left hnl] at hz
  obtain ⟨S, hS⟩ : ∃ S, S = sizeR (recsF (l.take n)) := ⟨_, rfl⟩
  have HS : Hid (S = sizeR (recsF (l.take n))) := hS
  rw [← hS] at hz
  obtain ⟨C, hC⟩ : ∃ C, C = (l.take n).take S := ⟨_, rfl⟩
  have hCl : C.length = S := by rw [hC]; simp; omega
  have HCL : Hid (C.length = S) := hCl
  have HCC : Hid (C = (l.take n).take S) := hC
  have HCB : Hid (crashB l sure keep = C) := by show _ = _; rw [HC.out, hC, hS]
  rw [HCB.out]
  clear hS hC
  have HKN : Hid (keptN l.length sure keep = n) := hn
  clear hn kb0 kb1 kb2
  have X2 : Hid (∀ o1 o2 W, Below ((w.alloc o1).alloc o2).heap.size ((w.alloc o1).alloc o2) W → SliceB W.heap.size W u l) := fun o1 o2 W h => ((hu.below (below_alloc _ o1)).below (below_alloc _ o2)).below h
  obtain ⟨ua, uc, rfl, hu1, hu2, -⟩ := hu
  unfold maxLen at hu2
  have hnc : (n : Int) ≤ (uc : Int) := by omega
  have hn0 : (0 : Int) ≤ (n : Int) := by omega
  go_enter Try.func29, Try.ntmps29
  go_wp2
  go_region_with (go_at_call 48; refine (kept_any _ _ _ _ l _ (X2.out _ _ _ (Below.drew (Below.refl _ _))) hs hs2 hk hk2).mono ?_; rw [HKN.out]; rintro e w1 ⟨rfl, hb1⟩; have b1 := drew_below hb1; obtain ⟨k1, k2⟩ := bcell hb1; have hz1 := hb1.size; simp at hz1)
  all_goals
    have hs1 : SliceB w1.heap.size w1 (.slice ua n uc) (l.take n) := slice_take (X2.out _ _ _ b1) n hnl
    have H1 : Hid (SliceB w1.heap.size w1 (.slice ua n uc) (l.take n)) := hs1
    clear hs1 k1 k2
    have hS0 : (S : Int) ≤ (uc : Int) := by omega
    go_wp2_with (first
      | (go_at_call 31; refine (records_any _ (l.take n) _ H1.out (by simp; omega)).mono ?_; rintro e w2 ⟨ra, rc, rfl, hr2, hb2⟩; rw [← HS.out]; have b2 := b1.trans (hb2.mono b1.size))
      | (go_at_call 46; refine (copied_any w2.heap.size _ C _ (by rw [HCC.out]; exact slice_take' (H1.out.below hb2) S (by omega)) (by omega)).mono ?_; rw [hCl]; rintro e w3 ⟨ao, cap, rfl, hown3, hb3⟩; have b3 := b2.trans (hb3.mono b2.size); obtain ⟨k1, k2⟩ := bcell b3; have hz3 := b3.size; simp at hz3))
  all_goals
    refine bodyPost_ret (v := .agg #[.slice ao S cap, .int .i64 S]) (by simp [results, Try.results29, go_sem, *]; done) rfl ?_
    rw [HCL.out]
    refine ⟨_, _, rfl, ?_, ?_⟩
    · have := own_slice (bs := C) (by rw [HCL.out]; exact ownsRow_setCell_below (ownsRow_setCell_below hown3 (a := ⟨w.heap.size + 1, 0, none⟩) (by have := b2.size; simp at this; simp; omega) (.slice ao S cap)) (a := ⟨w.heap.size + 1, 1, none⟩) (by have := b2.size; simp at this; simp; omega) (.int .i64 S))
      exact this
    · exact (((((below_alloc _ _).alloc (by simp) _)).trans (b3.mono (by simp; omega))).setCell (by simp) _).setCell (by simp) _
end Go.Proofs.Ytdfledgcpceckaa
