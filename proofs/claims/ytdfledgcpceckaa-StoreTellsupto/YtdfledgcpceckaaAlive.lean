/-
  tglaw2.alive answers true.
-/
import Derived.Test.YtdfledgcpceckaaAppend
import Derived.Lib.SmallJoins
namespace Go.Proofs.Ytdfledgcpceckaa
open Go.RowKit
set_option linter.unusedVariables false
set_option linter.unusedSimpArgs false

attribute [local go_sem ↓] Go.wp_at_zero Go.wp_at_succ

def rs0 : List (List UInt8) := [[97, 98], []]
theorem rs0_small : ∀ r ∈ rs0, r.length < 65536 := by decide
theorem rs0_E : appE [] rs0 = 0 := by decide
theorem rs0_B : appB [] rs0 = framesB rs0 := by simp [appB, rs0_E]
theorem rs0_len : (framesB rs0).length = 10 := by decide
theorem rs0_recs : recsF (framesB rs0) = rs0 := by
  have := recsF_frames rs0 [] rs0_small
  simpa [recsF_nil] using this
theorem rs0_size : sizeR rs0 = 10 := by decide
theorem rs0_left : leftB (framesB rs0) 0 7 = frameB [97, 98] ++ [0] := by decide
theorem rs0_left_recs : recsF (leftB (framesB rs0) 0 7) = [[97, 98]] := by
  rw [rs0_left, recsF_frame _ _ (by decide), recsF_stop _ (by decide)]
theorem rs0_crash : (crashB (framesB rs0) 0 7).length = 6 := by
  unfold crashB
  rw [rs0_left_recs, rs0_left]
  decide

theorem run_field0 (a : Option Addr) (n c : Nat) (s : Int) (w : World) : (Instr.field 38 (.agg #[.slice a n c, .int .i64 s]) 0).run Try.prog w = .ok (.slice a n c) w := by
  unfold Instr.field
  simp [go_sem, Sem.run_bind, asAgg]

/-- The records of 'alive', as they are laid. -/
theorem alive_recs (w : World) :
    SliceS ((w.alloc (.cells #[.int .u8 97, .int .u8 98] 5 (2, 3))).alloc (.cells #[.slice (some ⟨w.heap.size, 0, none⟩) 2 2, .slice none 0 0] 23)).heap.size ((w.alloc (.cells #[.int .u8 97, .int .u8 98] 5 (2, 3))).alloc (.cells #[.slice (some ⟨w.heap.size, 0, none⟩) 2 2, .slice none 0 0] 23)) (.slice (some ⟨w.heap.size + 1, 0, none⟩) 2 2) rs0 := by
  have c : ∀ i, ((w.alloc (.cells #[.int .u8 97, .int .u8 98] 5 (2, 3))).alloc (.cells #[.slice (some ⟨w.heap.size, 0, none⟩) 2 2, .slice none 0 0] 23)).cell? ⟨w.heap.size + 1, i, none⟩ = (#[Value.slice (some ⟨w.heap.size, 0, none⟩) 2 2, .slice none 0 0] : Array Value)[i]? := fun i => Joins.cell_alloc_mark_at _ _ _ _ _ _ (by simp)
  have d : ∀ i, ((w.alloc (.cells #[.int .u8 97, .int .u8 98] 5 (2, 3))).alloc (.cells #[.slice (some ⟨w.heap.size, 0, none⟩) 2 2, .slice none 0 0] 23)).cell? ⟨w.heap.size, i, none⟩ = (#[Value.int .u8 97, .int .u8 98] : Array Value)[i]? := fun i => by
    rw [World.cell?_alloc_lt _ _ _ (by simp)]; exact Joins.cell_alloc_mark_at _ _ _ _ _ _ rfl
  refine ⟨[.slice (some ⟨w.heap.size, 0, none⟩) 2 2, .slice none 0 0], ⟨_, _, rfl, Nat.le_refl _, by simp [maxLen], fun h => by simp at h, fun i hi => ?_⟩, rfl, fun i hi => ?_⟩
  · refine ⟨_, 0, rfl, by simp, ?_⟩
    have : i = 0 ∨ i = 1 := by simp at hi; omega
    rcases this with rfl | rfl
    · exact c 0
    · exact c 1
  · have : i = 0 ∨ i = 1 := by simp [rs0] at hi; omega
    rcases this with rfl | rfl
    · refine ⟨_, rfl, _, _, rfl, Nat.le_refl _, by simp [maxLen], fun h => by simp at h, fun j hj => ⟨_, 0, rfl, by simp; omega, ?_⟩⟩
      have : j = 0 ∨ j = 1 := by simp [rs0] at hj; omega
      rcases this with rfl | rfl
      · exact d 0
      · exact d 1
    · exact ⟨_, rfl, SliceB.nil _ _⟩

set_option maxRecDepth 100000 in
set_option maxHeartbeats 3200000 in
theorem alive_any (w : World) :
    Calls Try.prog 33 #[] w fun e w' => e = .returned (.bool true) ∧ Below w.heap.size w w' := by
  have kc := Joins.run_convert_bytes_const_at (P := Try.prog) w 23 5 #[.int .u8 97, .int .u8 98] 2 2 w.heap.size rfl Try.underlying23 Try.underlying5
  have AR : Hid _ := alive_recs w
  have hfl := run_field0
  have HE : Hid (appE [] rs0 = 0 ∧ appB [] rs0 = framesB rs0) := ⟨rs0_E, rs0_B⟩
  have HL : Hid ((framesB rs0).length = 10) := rs0_len
  have HR : Hid (recsF (framesB rs0) = rs0 ∧ sizeR rs0 = 10) := ⟨rs0_recs, rs0_size⟩
  have HC : Hid ((crashB (framesB rs0) 0 7).length = 6) := rs0_crash
  obtain ⟨L, hL⟩ : ∃ L, L = framesB rs0 := ⟨_, rfl⟩
  rw [← hL] at HE HL HR HC
  clear hL
  go_enter Try.func33, Try.ntmps33
  go_wp2_with (first
    | (go_at_call 27; refine (append_any _ _ 0 [] rs0 _ (SliceB.nil _ _) AR.out (by decide) (by decide)).mono ?_; rw [HE.out.1, HE.out.2]; rintro e w1 ⟨ao1, cap1, rfl, hs1, hb1⟩; rw [HL.out] at hs1 ⊢; have H1 : Hid (SliceB w1.heap.size w1 (.slice ao1 10 cap1) L) := hs1; clear hs1)
    | (go_at_call 31; refine (records_any _ L _ (H1.out.below (below_alloc _ _)) (by rw [HL.out]; decide)).mono ?_; rw [HR.out.1, HR.out.2]; rintro e w2 ⟨ra, rc, rfl, hr2, hb2⟩; obtain ⟨k21, k22, k23⟩ := blk2 (g := w1.heap.size) rfl hb2; obtain ⟨g, off, ua, uc, hra, hcell, hsl, hg, -, -⟩ := hr2.at 0 (by decide); rw [Nat.add_zero] at hcell; subst hra; have hcell' : w2.cell? ⟨g, off, none⟩ = some (.slice ua 2 uc) := hcell; have HSL : Hid (SliceB w2.heap.size w2 (.slice ua 2 uc) [97, 98]) := hsl; clear hcell hsl)
    | (go_at_call 29; refine (crash_any _ 0 7 L _ ((H1.out.below (below_alloc _ _)).below hb2) (by decide) (by rw [HL.out]; decide) (by decide) (by decide) (by rw [HL.out]; decide)).mono ?_; rw [HC.out]; rintro e w3 ⟨ao3, cap3, rfl, hs3, hb3⟩; have c3 := hb2.trans (hb3.mono hb2.size); obtain ⟨k31, k32, k33⟩ := blk2 (g := w1.heap.size) rfl c3)
    | (go_at_call 26; refine (sync_any _ 0 L _ (((H1.out.below (below_alloc _ _)).below c3).below (below_alloc _ _)) (by rw [HL.out]; decide)).mono ?_; rw [HL.out]; rintro e w4 ⟨ao4, cap4, rfl, hs4, hb4⟩; have c4 := (c3.alloc c3.size _).trans (hb4.mono (by have := c3.size; simp at this ⊢; omega)); obtain ⟨k41, k42, k43⟩ := blk2 (g := w1.heap.size) rfl c4; obtain ⟨k44, k45, k46⟩ := blk2 (g := w3.heap.size) rfl hb4; have d4 : Below w2.heap.size w2 w4 := (hb3.alloc hb3.size _).trans (hb4.mono (by have := hb3.size; simp; omega)); have k47 : w4.cell? ⟨g, off, none⟩ = some (.slice ua 2 uc) := (d4.cell hg).trans hcell'; have k48 : g < w4.heap.size := (by have := d4.size; omega); have hcv : ∀ o, (convert 23 9 (.slice ua 2 uc)).run Try.prog (w4.alloc o) = .ok (.string ⟨#[97, 98]⟩) (w4.alloc o) := fun o => conv_str ((HSL.out.below d4).below (below_alloc _ o)))
    | (go_at_call 25; refine (own_any _ 0 L _ (((H1.out.below (below_alloc _ _)).below c4).below (below_alloc _ _)) (by rw [HL.out]; decide)).mono ?_; rw [HL.out]; rintro e w5 ⟨ao5, cap5, rfl, hs5, hb5⟩)
    | (go_at_call 22; refine (frame_any 0 _ [] _ (SliceB.nil _ _) (by decide)).mono ?_; rintro e w6 ⟨ao6, cap6, rfl, hs6, hb6⟩)
    | (go_at_call 20; refine (sum_any 0 _ [] _ (SliceB.nil _ _)).mono ?_; rintro e w7 ⟨rfl, rfl⟩))
  go_ret
  refine ⟨ret_bool (by decide), ?_⟩
  have a1 : Below w.heap.size w w1 := ((below_alloc _ _).alloc (by simp) _).trans (hb1.mono (by simp; omega))
  have a2 : Below w.heap.size w w4 := (a1.alloc a1.size _).trans (c4.mono (by have := a1.size; simp; omega))
  have a3 := (a2.alloc a2.size _).trans (hb5.mono (by have := a2.size; simp; omega))
  exact a3.trans (hb6.mono a3.size)
end Go.Proofs.Ytdfledgcpceckaa
