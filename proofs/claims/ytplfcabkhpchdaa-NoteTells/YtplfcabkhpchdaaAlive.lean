/-
  tglaw1.alive answers true.
-/
import Derived.Test.YtplfcabkhpchdaaMath
import Derived.Lib.SmallJoins
namespace Go.Proofs.Ytplfcabkhpchdaa
open Go.RowKit
set_option linter.unusedVariables false
set_option linter.unusedSimpArgs false

theorem bytes_v (v u : Value) (ps : List PD) (body : List UInt8) (w : World) (hv : SliceP w.heap.size w v ps) (hu : SliceB w.heap.size w u body) (h : wrongN ps body.length = 0) :
    Calls Try.prog 12 #[.agg #[v, u]] w fun e w' => ∃ ao cap, e = .returned (.slice ao (bytesF ps body).length cap) ∧ w'.ownsRow w.heap.size 5 1 (.slice ao (bytesF ps body).length cap) (bytesF ps body).length (u8s (bytesF ps body)) ∧ Below w.heap.size w w' := by
  obtain ⟨h1, h2, h3⟩ := wrongN_zero ps _ h
  obtain ⟨va, vc, rfl, v1, v2, v3, v4⟩ := hv
  have hu' := hu
  obtain ⟨ua, uc, rfl, -⟩ := hu'
  refine (bytes_any va vc ps ua uc body w v4 hu h1 (by omega) (fun p hp => (right_prop p (h2 p hp)).1)).mono ?_
  rintro e w' ⟨v', rfl, ho, hb⟩
  obtain ⟨ao, cap, rfl, _⟩ := own_shape ho
  exact ⟨ao, cap, rfl, ho, hb⟩
theorem wrong_v (v u : Value) (ps : List PD) (body : List UInt8) (w : World) (hv : SliceP w.heap.size w v ps) (hu : SliceB w.heap.size w u body) (hf : ∀ p ∈ ps, p.fits) :
    Calls Try.prog 5 #[.agg #[v, u]] w fun e w' => e = .returned (.int .i64 (wrongN ps body.length)) ∧ Below w.heap.size w w' := by
  obtain ⟨va, vc, rfl, v1, v2, v3, v4⟩ := hv
  obtain ⟨ua, uc, rfl, u1, u2, u3, u4⟩ := hu
  exact wrong_any va vc ps ua body.length uc w v4 hf (by omega) (by omega)
theorem parse_v (v : Value) (b : List UInt8) (w : World) (hb : SliceB w.heap.size w v b) :
    Calls Try.prog 14 #[v] w fun e w' => ∃ va vc ua uc, e = .returned (.tuple #[.agg #[.slice va (parseF b).2.1.length vc, .slice ua (parseF b).2.2.1.length uc], .int .i64 (parseF b).2.2.2, .int .i64 (parseF b).1]) ∧
      SliceP w'.heap.size w' (.slice va (parseF b).2.1.length vc) (parseF b).2.1 ∧ SliceB w'.heap.size w' (.slice ua (parseF b).2.2.1.length uc) (parseF b).2.2.1 ∧ Below w.heap.size w w' := by
  have hb' := hb
  obtain ⟨a, c, rfl, -⟩ := hb'
  refine (parse_any a c b w hb).mono ?_
  rintro e w' ⟨v, u, rfl, hv, hu, hw⟩
  obtain ⟨va, vc, rfl, -⟩ := id hv
  obtain ⟨ua, uc, rfl, -⟩ := id hu
  exact ⟨va, vc, ua, uc, rfl, hv, hu, hw⟩

def p0 : PD := ⟨⟨#[97]⟩, 1, -2, ⟨#[]⟩⟩
theorem p0_right : wrongN [p0] 2 = 0 := by decide +kernel
theorem p0_bytes : bytesF [p0] [120, 121] = [1, 1, 97, 1, 255, 255, 255, 254, 2, 120, 121] := by decide

theorem p0_fits : ∀ p ∈ [p0], p.fits := by
  intro p hp
  simp only [List.mem_singleton] at hp
  subst hp
  exact ⟨by decide, by decide⟩

/-- The note of 'alive', as it is laid. -/
theorem alive_note (w : World) (o3 : Obj) :
    SliceP (((w.alloc (.cells #[.string ⟨#[97]⟩, .int .i64 1, .int .i64 (-2), .string ⟨#[]⟩] 38)).alloc (.cells #[.int .u8 120, .int .u8 121] 5 (2, 3))).alloc o3).heap.size
      (((w.alloc (.cells #[.string ⟨#[97]⟩, .int .i64 1, .int .i64 (-2), .string ⟨#[]⟩] 38)).alloc (.cells #[.int .u8 120, .int .u8 121] 5 (2, 3))).alloc o3) (.slice (some ⟨w.heap.size, 0, none⟩) 1 1) [p0] ∧
    SliceB (((w.alloc (.cells #[.string ⟨#[97]⟩, .int .i64 1, .int .i64 (-2), .string ⟨#[]⟩] 38)).alloc (.cells #[.int .u8 120, .int .u8 121] 5 (2, 3))).alloc o3).heap.size
      (((w.alloc (.cells #[.string ⟨#[97]⟩, .int .i64 1, .int .i64 (-2), .string ⟨#[]⟩] 38)).alloc (.cells #[.int .u8 120, .int .u8 121] 5 (2, 3))).alloc o3) (.slice (some ⟨w.heap.size + 1, 0, none⟩) 2 2) [120, 121] := by
  have c : ∀ i, (((w.alloc (.cells #[.string ⟨#[97]⟩, .int .i64 1, .int .i64 (-2), .string ⟨#[]⟩] 38)).alloc (.cells #[.int .u8 120, .int .u8 121] 5 (2, 3))).alloc o3).cell? ⟨w.heap.size, i, none⟩ = (#[Value.string ⟨#[97]⟩, .int .i64 1, .int .i64 (-2), .string ⟨#[]⟩] : Array Value)[i]? := fun i => by
    rw [World.cell?_alloc_lt _ _ _ (by simp; omega), World.cell?_alloc_lt _ _ _ (by simp)]; simp
  have d : ∀ i, (((w.alloc (.cells #[.string ⟨#[97]⟩, .int .i64 1, .int .i64 (-2), .string ⟨#[]⟩] 38)).alloc (.cells #[.int .u8 120, .int .u8 121] 5 (2, 3))).alloc o3).cell? ⟨w.heap.size + 1, i, none⟩ = (#[Value.int .u8 120, .int .u8 121] : Array Value)[i]? := fun i => by
    rw [World.cell?_alloc_lt _ _ _ (by simp)]; exact Joins.cell_alloc_mark_at _ _ _ _ _ _ (by simp)
  refine ⟨⟨_, _, rfl, Nat.le_refl _, by simp [maxLen], fun h => by simp at h, fun i hi => ?_⟩, ⟨_, _, rfl, Nat.le_refl _, by simp [maxLen], fun h => by simp at h, fun i hi => ?_⟩⟩
  · have : i = 0 := by simpa using hi
    subst this
    exact ⟨_, 0, rfl, by simp; omega, c 0, c 1, c 2, c 3⟩
  · refine ⟨_, 0, rfl, by simp, ?_⟩
    have : i = 0 ∨ i = 1 := by simp at hi; omega
    rcases this with rfl | rfl
    · exact d 0
    · exact d 1

theorem run_field0 (a b : Option Addr) (n m c d : Nat) (w : World) : (Instr.field 25 (.agg #[.slice a n c, .slice b m d]) 0).run Try.prog w = .ok (.slice a n c) w := by
  unfold Instr.field
  simp [go_sem, Sem.run_bind, asAgg]

/-- Behind the append to what Bytes made. -/
theorem alive_step {X w1 w2 : World} {o : Obj} {v : Value} {n : Nat} {xs : List Value} (hb : Below X.heap.size X w1) (hown : w1.ownsRow X.heap.size 5 1 v n xs) (hg : (w1.alloc o).grownBy w2 v.ownBlock) : Below X.heap.size X w2 := by
  have hz := hb.size
  refine (hb.alloc hz o).trans ⟨hg.os, hg.tape, hg.output, hg.size, fun k hk => hg.block k (by simp; omega) (fun e => ?_)⟩
  have := (hown.lt k e.symm).1
  omega

theorem blk_cells {X w' : World} {a b : Value} {g : Nat} (hg : g = X.heap.size) (hb : Below (X.alloc (.cells #[a, b] 25)).heap.size (X.alloc (.cells #[a, b] 25)) w') : w'.cell? ⟨g, 0, none⟩ = some a ∧ w'.cell? ⟨g, 1, none⟩ = some b ∧ g < w'.heap.size := by
  subst hg
  refine ⟨(hb.cell (by simp)).trans (by simp), (hb.cell (by simp)).trans (by simp), ?_⟩
  have := hb.size
  simp at this
  omega

set_option maxRecDepth 100000 in
set_option maxHeartbeats 1600000 in
theorem alive_any (w : World) :
    Calls Try.prog 16 #[] w fun e w' => e = .returned (.bool true) ∧ Below w.heap.size w w' := by
  have kc := Joins.run_convert_bytes_const_at (P := Try.prog) (w.alloc (.cells #[.string ⟨#[97]⟩, .int .i64 1, .int .i64 (-2), .string ⟨#[]⟩] 38)) 23 5 #[.int .u8 120, .int .u8 121] 2 2 (w.heap.size + 1) (by simp) Try.underlying23 Try.underlying5
  have an := fun o3 => alive_note w o3
  have hrt : wrongN [p0] ([120, 121] : List UInt8).length = 0 := p0_right
  have hbl : (bytesF [p0] [120, 121]).length = 11 := by rw [p0_bytes]; rfl
  have hpf := parse_there [p0] [120, 121] [9] hrt
  have AN : Hid (∀ o3, _ ∧ _) := an
  clear an
  have HR : Hid (wrongN [p0] ([120, 121] : List UInt8).length = 0) := hrt
  have HL : Hid ((bytesF [p0] [120, 121]).length = 11) := hbl
  have HP : Hid (parseF (bytesF [p0] [120, 121] ++ [9]) = (0, [p0], [120, 121], (bytesF [p0] [120, 121]).length)) := hpf
  clear hrt hbl hpf
  have hfl := run_field0
  have HKEY : Hid (keyB ⟨#[97, 98]⟩ = true) := by show keyB _ = true; decide
  go_enter Try.func16, Try.ntmps16
  go_wp2_with (first
    | (go_at_call 12; refine (bytes_v _ _ [p0] [120, 121] _ (AN.out _).1 (AN.out _).2 HR.out).mono ?_; rintro e w1 ⟨ao, cap, rfl, hown1, hb1⟩; have hown1' := hown1; rw [HL.out] at hown1' ⊢; have hz1 := hb1.size)
    | (at_builtin; refine wpList_app rfl (.tmp 14) (.tmp 15) rfl _ _ 11 (u8s (bytesF [p0] [120, 121])) rfl (hown1'.alloc _) (w1.heap.size + 1) _ [9] rfl (new_bytes w1 [9] _ (by simp [maxLen]) (by simp [u8s])) (by simp) (by simp at hz1 ⊢; omega) ?_; intro ao2 cap2 w2 hown2 hg2 hm2; have b2 := alive_step hb1 hown1' hg2)
    | (go_at_call 14; refine (parse_v _ (bytesF [p0] [120, 121] ++ [9]) _ (own_slice (by rw [List.length_append, HL.out, u8s_append]; exact hown2))).mono ?_; rintro e w3 ⟨va, vc, ua, uc, rfl, hv3, hu3, hb3⟩; rw [HP.out] at hv3 hu3 ⊢; rw [HL.out]; have b3 := b2.trans (hb3.mono b2.size); obtain ⟨k31, k32, k33⟩ := blk_cells (g := w.heap.size + 1 + 1) (by simp) b3)
    | (go_at_call 9; refine (same_any _ _ _ _ [p0] [p0] [120, 121] [120, 121] _ (((AN.out _).1.below b3).below (below_alloc _ _)) (((AN.out _).2.below b3).below (below_alloc _ _)) (hv3.below (below_alloc _ _)) (hu3.below (below_alloc _ _))).mono ?_; rintro e w4 ⟨rfl, hb4⟩; have b4 := b3.trans (((below_alloc _ _).trans (hb4.mono (by simp))).mono b3.size); obtain ⟨k41, k42, k43⟩ := blk_cells (g := w.heap.size + 1 + 1) (by simp) b4)
    | (go_at_call 5; refine (wrong_v _ _ [p0] [120, 121] _ ((AN.out _).1.below b4) ((AN.out _).2.below b4) p0_fits).mono ?_; rintro e w5 ⟨rfl, hb5⟩; rw [HR.out]; have b5 := b4.trans (hb5.mono b4.size); obtain ⟨k51, k52, k53⟩ := blk_cells (g := w.heap.size + 1 + 1) (by simp) b5)
    | (go_at_call 7; refine (key_any _ _ (by decide)).mono ?_; rintro e w6 ⟨rfl, rfl⟩; rw [HKEY.out])
    | (go_at_call 11; refine (own_any _ _ [p0] [120, 121] _ ((AN.out _).1.below b5) ((AN.out _).2.below b5) (by decide) (by decide)).mono ?_; rintro e w7 ⟨v7, u7, rfl, hv7, hu7, hb7⟩; obtain ⟨v7a, v7c, rfl, -⟩ := id hv7; obtain ⟨u7a, u7c, rfl, -⟩ := id hu7))
  go_ret
  exact ⟨rfl, (((below_alloc _ _).alloc (by simp) _).alloc (by simp; omega) _).trans ((b5.trans (hb7.mono b5.size)).mono (by simp; omega))⟩
end Go.Proofs.Ytplfcabkhpchdaa
