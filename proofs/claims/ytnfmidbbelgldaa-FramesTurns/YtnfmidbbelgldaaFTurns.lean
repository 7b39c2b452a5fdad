/-
  tglaw7.FramesTurns answers true for all asks, answers, bytes and numbers.
-/
import Derived.Test.YtnfmidbbelgldaaFRight
namespace Go.Proofs.Ytnfmidbbelgldaa
open Go.RowKit
set_option linter.unusedVariables false
set_option linter.unusedSimpArgs false

attribute [local go_sem ↓] Go.wp_at_zero Go.wp_at_succ

theorem slice_take {B : Nat} {w : World} {a : Option Addr} {c n : Nat} {b : List UInt8} (h : SliceB B w (.slice a n c) b) (k : Nat) (hk : k ≤ b.length) : SliceB B w (.slice a k c) (b.take k) := by
  obtain ⟨a', c', e, h1, h2, h3, h4⟩ := h
  simp only [Value.slice.injEq] at e
  obtain ⟨rfl, -, rfl⟩ := e
  exact ⟨a, c, by simp; omega, by simp; omega, h2, h3, bytes_take h4 k⟩

/-- Two appends to a new row: what stands there then, and what is left. -/
theorem app_first {w3 w4 : World} {F : List UInt8} {ao4 : Option Addr} {cap4 : Nat}
    (own4 : w4.ownsRow w3.heap.size 5 1 (.slice ao4 (0 + F.length) cap4) (0 + F.length) ([] ++ u8s F)) (hg4 : (w3.alloc (.cells #[] 5)).grownBy w4 (Value.slice (some ⟨w3.heap.size, 0, none⟩) 0 0).ownBlock) :
    w4.ownsRow w3.heap.size 5 1 (.slice ao4 F.length cap4) F.length (u8s F) ∧ Below w3.heap.size w3 w4 := by
  rw [Nat.zero_add, List.nil_append] at own4
  exact ⟨own4, (below_alloc w3 _).grown hg4 (by simp) (fun k hk => by simp [Value.ownBlock] at hk; omega)⟩
theorem app_second {w3 w4 w5 : World} {F more : List UInt8} {ao4 ao5 : Option Addr} {cap4 cap5 : Nat}
    (own4 : w4.ownsRow w3.heap.size 5 1 (.slice ao4 F.length cap4) F.length (u8s F)) (b4 : Below w3.heap.size w3 w4)
    (own5 : w5.ownsRow w3.heap.size 5 1 (.slice ao5 (F.length + more.length) cap5) (F.length + more.length) (u8s F ++ u8s more)) (hg5 : w4.grownBy w5 (Value.slice ao4 F.length cap4).ownBlock) :
    SliceB w5.heap.size w5 (.slice ao5 (F.length + more.length) cap5) (F ++ more) ∧ Below w3.heap.size w3 w5 :=
  ⟨own_slice (app_zs own5), b4.grown hg5 b4.size (fun k hk => (own4.lt k hk).1)⟩

theorem slice_cap {B : Nat} {w : World} {a : Option Addr} {n c : Nat} {l : List UInt8} (h : SliceB B w (.slice a n c) l) : l.length ≤ c := by
  obtain ⟨a', c', e, h1, -⟩ := h
  simp only [Value.slice.injEq] at e
  omega
theorem B3b {w2 w3 w5 w6 : World} (h3 : Below w2.heap.size w2 w3) (h5 : Below w3.heap.size w3 w5) (h6 : Below w5.heap.size w5 w6) (b : Nat) (hb : b < w2.heap.size) : w6.heap[b]? = w2.heap[b]? := by
  have z3 := h3.size
  have z5 := h5.size
  exact (h6.block b (by omega)).trans ((h5.block b (by omega)).trans (h3.block b hb))

set_option maxRecDepth 100000 in
set_option maxHeartbeats 8000000 in
theorem turns_any (A : AD) (S : SD) (av au sv su mv : Value) (more : List UInt8) (k : Int) (w : World) (hav : SliceP w.heap.size w av A.ps) (hau : SliceB w.heap.size w au A.body) (hsv : SliceP w.heap.size w sv S.ps) (hsu : SliceB w.heap.size w su S.body) (hmv : SliceB w.heap.size w mv more)
    (hq : A.queue.size ≤ maxLen) (hfa : ∀ p ∈ A.ps, p.fits) (hfs : ∀ p ∈ S.ps, p.fits) (hl1 : A.ps.length ≤ 140737488355328) (hl2 : A.body.length ≤ 140737488355328) (hl3 : S.ps.length ≤ 140737488355328) (hl4 : S.body.length ≤ 140737488355328) (hml : more.length ≤ 140737488351232) :
    Calls Try.prog 4 #[.agg #[.int .i64 A.kind, .string A.queue, .int .i64 A.n, av, au], .agg #[.int .i64 S.kind, .int .i64 S.n, .int .i64 S.m, .int .i64 S.err, sv, su], mv, .int .i64 k] w fun e w' => e = .returned (.bool true) ∧ Below w.heap.size w w' := by
  have HM : Hid (SliceB w.heap.size w mv more) := hmv
  have HA : Hid (SliceP w.heap.size w av A.ps ∧ SliceB w.heap.size w au A.body) := ⟨hav, hau⟩
  have HS : Hid (SliceP w.heap.size w sv S.ps ∧ SliceB w.heap.size w su S.body) := ⟨hsv, hsu⟩
  obtain ⟨ma, mc, rfl, -⟩ := hmv
  obtain ⟨ava, avc, rfl, -⟩ := hav
  obtain ⟨aua, auc, rfl, -⟩ := hau
  obtain ⟨sva, svc, rfl, -⟩ := hsv
  obtain ⟨sua, suc, rfl, -⟩ := hsu
  have W8 : ∀ W, SliceP W.heap.size W (.slice ava A.ps.length avc) A.ps → SliceB W.heap.size W (.slice aua A.body.length auc) A.body → Calls Try.prog 8 #[.agg #[.int .i64 A.kind, .string A.queue, .int .i64 A.n, .slice ava A.ps.length avc, .slice aua A.body.length auc]] W fun r w' => r = .returned (.int .i64 A.wrong) ∧ Below W.heap.size W w' :=
    fun W h1 h2 => refWrongAsk_any A.kind A.n A.queue _ _ A.ps A.body W hq h1 h2 hfa hl1 hl2
  have W7 : ∀ W, SliceP W.heap.size W (.slice sva S.ps.length svc) S.ps → SliceB W.heap.size W (.slice sua S.body.length suc) S.body → Calls Try.prog 7 #[.agg #[.int .i64 S.kind, .int .i64 S.n, .int .i64 S.m, .int .i64 S.err, .slice sva S.ps.length svc, .slice sua S.body.length suc]] W fun r w' => r = .returned (.int .i64 S.wrong) ∧ Below W.heap.size W w' :=
    fun W h1 h2 => refWrongSay_any S.kind S.n S.m S.err _ _ S.ps S.body W h1 h2 hfs hl3 hl4
  have Y9 : A.wrong = 0 → ∀ W, SliceP W.heap.size W (.slice ava A.ps.length avc) A.ps → SliceB W.heap.size W (.slice aua A.body.length auc) A.body → _ := fun h W h1 h2 => askBytes_any A _ _ W h h1 h2
  have Y11 : S.wrong = 0 → ∀ W, SliceP W.heap.size W (.slice sva S.ps.length svc) S.ps → SliceB W.heap.size W (.slice sua S.body.length suc) S.body → _ := fun h W h1 h2 => sayBytes_any S _ _ W h h1 h2
  have Z13 : A.wrong = 0 → ∀ W v, SliceB W.heap.size W v (frameB A.inB ++ more) → Calls Try.prog 13 #[v] W (ToldAsk2 A (frameB A.inB).length 0 W) := fun h W v hv => by
    have := ask_any v _ W hv
    rw [ask_there A more h] at this
    exact this
  have Z16 : S.wrong = 0 → ∀ W v, SliceB W.heap.size W v (frameB S.inB ++ more) → Calls Try.prog 16 #[v] W (ToldSay2 S (frameB S.inB).length 0 W) := fun h W v hv => by
    have := say_any v _ W hv
    rw [say_there S more h] at this
    exact this
  have V13 : A.wrong = 0 → ∀ W v j, j < (frameB A.inB).length → SliceB W.heap.size W v ((frameB A.inB).take j) → Calls Try.prog 13 #[v] W (ToldAsk2 AD.zero (0 : Int) 9 W) := fun h W v j hj hv => by
    have := ask_any v _ W hv
    rw [ask_more A h j hj] at this
    exact this
  have V16 : S.wrong = 0 → ∀ W v j, j < (frameB S.inB).length → SliceB W.heap.size W v ((frameB S.inB).take j) → Calls Try.prog 16 #[v] W (ToldSay2 SD.zero (0 : Int) 9 W) := fun h W v j hj hv => by
    have := say_any v _ W hv
    rw [say_more S h j hj] at this
    exact this
  have la : A.wrong = 0 → (frameB A.inB).length ≤ 400 := fun h => by have := A.inB_len h; rw [frameB_len]; omega
  have ls : S.wrong = 0 → (frameB S.inB).length ≤ 400 := fun h => by have := S.inB_len h; rw [frameB_len]; omega
  obtain ⟨F, hF⟩ : ∃ F, F = frameB A.inB := ⟨_, rfl⟩
  obtain ⟨G, hG⟩ : ∃ G, G = frameB S.inB := ⟨_, rfl⟩
  rw [← hF] at Y9 Z13 V13 la
  rw [← hG] at Y11 Z16 V16 ls
  clear hF hG hfa hfs hl1 hl2 hl3 hl4 hq
  obtain ⟨wA, hwA⟩ : ∃ x, x = A.wrong := ⟨_, rfl⟩
  obtain ⟨wS, hwS⟩ : ∃ x, x = S.wrong := ⟨_, rfl⟩
  rw [← hwA] at W8 Y9 Z13 V13 la
  rw [← hwS] at W7 Y11 Z16 V16 ls
  clear hwA hwS
  obtain ⟨K, Q, N, PS, BODY⟩ := A
  obtain ⟨K2, N2, M2, E2, PS2, BODY2⟩ := S
  unfold ToldAsk2 at Z13 V13
  unfold ToldSay2 at Z16 V16
  simp only [AD.zero, SD.zero, List.length_nil] at HA HS W8 W7 Y9 Y11 Z13 Z16 V13 V16 ⊢
  have HX : Hid (_ ∧ _) := And.intro HA HS
  have HAl : Hid (∀ W, Calls Try.prog 19 #[] W fun e w' => e = .returned (.bool true) ∧ Below W.heap.size W w') := fun W => alive_any W
  go_enter Try.func4, Try.ntmps4
  go_upto_if 27 with (first
    | (go_at_call 19; refine (HAl.out _).mono ?_; rintro e w1 ⟨rfl, hb1⟩; have P1 := two_rows hb1; have hz1 := hb1.size; simp at hz1; have b1 : Below w.heap.size w w1 := ((below_alloc w _).alloc (by simp) _).trans (hb1.mono (by simp; omega)); clear hb1; obtain ⟨a0, a1, a2, a3, a4, fa⟩ := box5 P1.1)
    | (go_at_call 8; refine (W8 _ (HX.out.1.1.below b1) (HX.out.1.2.below b1)).mono ?_; rintro e w2 ⟨rfl, hb2⟩; clear a0 a1 a2 a3 a4 fa))
  have hz2 := hb2.size
  go_cut [9, 26, 27] (fun v x y wx => Below w1.heap.size w1 wx)
  case first =>
    have R2 := (hb2.block (w.heap.size) (by omega)).trans P1.1
    have B2 : Below w.heap.size w w2 := b1.trans (hb2.mono (by omega))
    obtain ⟨a0, a1, a2, a3, a4, fa⟩ := box5 R2
    by_cases h0 : wA = 0
    case neg =>
      have h0' : (wA == 0) = false := by simpa using h0
      clear Y9 Z13 V13 la
      go_wp2_with fail
      go_meet
      exact hb2
    case pos =>
      have y := Y9 h0
      have z := Z13 h0
      have vv := V13 h0
      have l4 := la h0
      have h0' : (wA == 0) = true := by simpa using h0
      clear Y9 Z13 V13 la
      have l4' : ¬ (400 : Int) < (F.length : Int) := by omega
      by_cases hk : 0 ≤ k ∧ k < (F.length : Int)
      · obtain ⟨j, rfl⟩ : ∃ j : Nat, k = j := ⟨k.toNat, by omega⟩
        have hj : j < F.length := by omega
        go_wp2_with (first
          | (go_at_call 9; refine (y _ (HX.out.1.1.below B2) (HX.out.1.2.below B2)).mono ?_; rintro e w3 ⟨ao3, cap3, rfl, own3, hb3⟩; have hz3 := hb3.size; have HF3 : Hid (SliceB w3.heap.size w3 (.slice ao3 F.length cap3) F) := own_slice own3; have hc3 := slice_cap HF3.out; have hj3 : (j : Int) ≤ (cap3 : Int) := (by omega); have B3 : Below w.heap.size w w3 := B2.trans (hb3.mono (by omega)))
          | (at_builtin; (refine wpList_app rfl (.tmp 31) (.tmp 32) rfl w3.heap.size (.slice (some ⟨w3.heap.size, 0, none⟩) 0 0) 0 [] rfl (new_own w3 w3.heap.size [] #[] (by simp [maxLen]) rfl (Nat.le_refl _)) w3.heap.size (.slice ao3 F.length cap3) F rfl (HF3.out.same (fun j hj => Below.heap_alloc _ _ _ hj)) (by omega) (by simp) ?_); intro ao4 cap4 w4 own4 hg4 hm4; obtain ⟨own4, b4⟩ := app_first own4 hg4)
          | (at_builtin; (refine wpList_app rfl (.tmp 33) (.tmp 34) rfl w3.heap.size (.slice ao4 F.length cap4) F.length (u8s F) (by simp [Act.eval]) own4 w4.heap.size (.slice ma more.length mc) more rfl ((HM.out.below B3).below b4) (by omega) b4.size ?_); intro ao5 cap5 w5 own5 hg5 hm5; obtain ⟨hs5, b5⟩ := app_second own4 b4 own5 hg5; have hz5 := b5.size)
          | (go_at_call_of 13 ao5; (refine (z _ _ hs5).mono ?_); rintro e w6 ⟨va6, vc6, ua6, uc6, rfl, hv6, hu6, hb6, -, -⟩; have hz6 := hb6.size; have B6 : Below w.heap.size w w6 := (B3.trans (b5.mono (by omega))).trans (hb6.mono (by omega)); have R6 := (B3b hb3 b5 hb6 (w.heap.size) (by omega)).trans R2; obtain ⟨a0, a1, a2, a3, a4, fa⟩ := box5 R6; have lt6 : w.heap.size < w6.heap.size := (by omega))
          | (go_at_call 15; (refine (sameAsk_eq K N Q _ _ _ _ PS BODY _ (hv6.below (below_alloc _ _)) (hu6.below (below_alloc _ _)) ((HX.out.1.1.below B6).below (below_alloc _ _)) ((HX.out.1.2.below B6).below (below_alloc _ _))).mono ?_); rintro e w7 ⟨rfl, hb7⟩; have hz7 := hb7.size; simp at hz7)
          | (go_at_call_of 13 ao3; (refine (vv _ _ j hj (slice_take ((((HF3.out.below b5).below hb6).below (below_alloc _ _)).below hb7) j (by omega))).mono ?_); rintro e w8 ⟨va8, vc8, ua8, uc8, rfl, -, -, hb8, -, -⟩; have hz8 := hb8.size))
        go_meet
        exact (((hb2.trans (hb3.mono (by omega))).trans (b5.mono (by omega))).trans (hb6.mono (by omega))).trans ((((below_alloc _ _).trans (hb7.mono (by simp))).trans (hb8.mono (by omega))).mono (by omega)) |>.alloc (by omega) _
      · have hk' : k < 0 ∨ (F.length : Int) ≤ k := by omega
        clear vv
        rcases hk' with hk1 | hk1
        all_goals
          go_wp2_with (first
            | (go_at_call 9; refine (y _ (HX.out.1.1.below B2) (HX.out.1.2.below B2)).mono ?_; rintro e w3 ⟨ao3, cap3, rfl, own3, hb3⟩; have hz3 := hb3.size; have HF3 : Hid (SliceB w3.heap.size w3 (.slice ao3 F.length cap3) F) := own_slice own3; have hc3 := slice_cap HF3.out; have B3 : Below w.heap.size w w3 := B2.trans (hb3.mono (by omega)))
            | (at_builtin; (refine wpList_app rfl (.tmp 31) (.tmp 32) rfl w3.heap.size (.slice (some ⟨w3.heap.size, 0, none⟩) 0 0) 0 [] rfl (new_own w3 w3.heap.size [] #[] (by simp [maxLen]) rfl (Nat.le_refl _)) w3.heap.size (.slice ao3 F.length cap3) F rfl (HF3.out.same (fun j hj => Below.heap_alloc _ _ _ hj)) (by omega) (by simp) ?_); intro ao4 cap4 w4 own4 hg4 hm4; obtain ⟨own4, b4⟩ := app_first own4 hg4)
            | (at_builtin; (refine wpList_app rfl (.tmp 33) (.tmp 34) rfl w3.heap.size (.slice ao4 F.length cap4) F.length (u8s F) (by simp [Act.eval]) own4 w4.heap.size (.slice ma more.length mc) more rfl ((HM.out.below B3).below b4) (by omega) b4.size ?_); intro ao5 cap5 w5 own5 hg5 hm5; obtain ⟨hs5, b5⟩ := app_second own4 b4 own5 hg5; have hz5 := b5.size)
            | (go_at_call_of 13 ao5; (refine (z _ _ hs5).mono ?_); rintro e w6 ⟨va6, vc6, ua6, uc6, rfl, hv6, hu6, hb6, -, -⟩; have hz6 := hb6.size; have B6 : Below w.heap.size w w6 := (B3.trans (b5.mono (by omega))).trans (hb6.mono (by omega)); have R6 := (B3b hb3 b5 hb6 (w.heap.size) (by omega)).trans R2; obtain ⟨a0, a1, a2, a3, a4, fa⟩ := box5 R6; have lt6 : w.heap.size < w6.heap.size := (by omega))
            | (go_at_call 15; (refine (sameAsk_eq K N Q _ _ _ _ PS BODY _ (hv6.below (below_alloc _ _)) (hu6.below (below_alloc _ _)) ((HX.out.1.1.below B6).below (below_alloc _ _)) ((HX.out.1.2.below B6).below (below_alloc _ _))).mono ?_); rintro e w7 ⟨rfl, hb7⟩; have hz7 := hb7.size; simp at hz7))
          go_meet
          exact ((((hb2.trans (hb3.mono (by omega))).trans (b5.mono (by omega))).trans (hb6.mono (by omega))).trans (((below_alloc _ _).trans (hb7.mono (by simp))).mono (by omega)))
  case rest =>
    have hzc := hcut.size
    have B0 : Below w.heap.size w wc := b1.trans (hcut.mono (by omega))
    have R0 := (hcut.block (w.heap.size + 1) (by omega)).trans P1.2
    obtain ⟨a0, a1, a2, a3, a4, a5, fa⟩ := box6 R0
    clear hb2 hz2 W8 Y9 Z13 V13 la
    go_upto_if 79 with (go_at_call 7; refine (W7 _ (HX.out.2.1.below B0) (HX.out.2.2.below B0)).mono ?_; rintro e w2 ⟨rfl, hb2⟩; clear a0 a1 a2 a3 a4 a5 fa)
    have hz2 := hb2.size
    go_cut [16, 78, 79] (fun v x y wx => Below wc.heap.size wc wx)
    case first =>
      have R2 := (hb2.block (w.heap.size + 1) (by omega)).trans ((hcut.block _ (by omega)).trans P1.2)
      have B2 : Below w.heap.size w w2 := B0.trans (hb2.mono (by omega))
      obtain ⟨a0, a1, a2, a3, a4, a5, fa⟩ := box6 R2
      by_cases h0 : wS = 0
      case neg =>
        have h0' : (wS == 0) = false := by simpa using h0
        clear Y11 Z16 V16 ls
        go_wp2_with fail
        go_meet
        exact hb2
      case pos =>
        have y := Y11 h0
        have z := Z16 h0
        have vv := V16 h0
        have l4 := ls h0
        have h0' : (wS == 0) = true := by simpa using h0
        clear Y11 Z16 V16 ls
        have l4' : ¬ (400 : Int) < (G.length : Int) := by omega
        by_cases hk : 0 ≤ k ∧ k < (G.length : Int)
        · obtain ⟨j, rfl⟩ : ∃ j : Nat, k = j := ⟨k.toNat, by omega⟩
          have hj : j < G.length := by omega
          go_wp2_with (first
            | (go_at_call 11; refine (y _ (HX.out.2.1.below B2) (HX.out.2.2.below B2)).mono ?_; rintro e w3 ⟨ao3, cap3, rfl, own3, hb3⟩; have hz3 := hb3.size; have HF3 : Hid (SliceB w3.heap.size w3 (.slice ao3 G.length cap3) G) := own_slice own3; have hc3 := slice_cap HF3.out; have hj3 : (j : Int) ≤ (cap3 : Int) := (by omega); have B3 : Below w.heap.size w w3 := B2.trans (hb3.mono (by omega)))
            | (at_builtin; (refine wpList_app rfl (.tmp 83) (.tmp 84) rfl w3.heap.size (.slice (some ⟨w3.heap.size, 0, none⟩) 0 0) 0 [] rfl (new_own w3 w3.heap.size [] #[] (by simp [maxLen]) rfl (Nat.le_refl _)) w3.heap.size (.slice ao3 G.length cap3) G rfl (HF3.out.same (fun j hj => Below.heap_alloc _ _ _ hj)) (by omega) (by simp) ?_); intro ao4 cap4 w4 own4 hg4 hm4; obtain ⟨own4, b4⟩ := app_first own4 hg4)
            | (at_builtin; (refine wpList_app rfl (.tmp 85) (.tmp 86) rfl w3.heap.size (.slice ao4 G.length cap4) G.length (u8s G) (by simp [Act.eval]) own4 w4.heap.size (.slice ma more.length mc) more rfl ((HM.out.below B3).below b4) (by omega) b4.size ?_); intro ao5 cap5 w5 own5 hg5 hm5; obtain ⟨hs5, b5⟩ := app_second own4 b4 own5 hg5; have hz5 := b5.size)
            | (go_at_call_of 16 ao5; (refine (z _ _ hs5).mono ?_); rintro e w6 ⟨va6, vc6, ua6, uc6, rfl, hv6, hu6, hb6, -, -⟩; have hz6 := hb6.size; have B6 : Below w.heap.size w w6 := (B3.trans (b5.mono (by omega))).trans (hb6.mono (by omega)); have R6 := (B3b hb3 b5 hb6 (w.heap.size + 1) (by omega)).trans R2; obtain ⟨a0, a1, a2, a3, a4, a5, fa⟩ := box6 R6; have lt6 : w.heap.size + 1 < w6.heap.size := (by omega))
            | (go_at_call 18; (refine (sameSay_eq K2 N2 M2 E2 _ _ _ _ PS2 BODY2 _ (hv6.below (below_alloc _ _)) (hu6.below (below_alloc _ _)) ((HX.out.2.1.below B6).below (below_alloc _ _)) ((HX.out.2.2.below B6).below (below_alloc _ _))).mono ?_); rintro e w7 ⟨rfl, hb7⟩; have hz7 := hb7.size; simp at hz7)
            | (go_at_call_of 16 ao3; (refine (vv _ _ j hj (slice_take ((((HF3.out.below b5).below hb6).below (below_alloc _ _)).below hb7) j (by omega))).mono ?_); rintro e w8 ⟨va8, vc8, ua8, uc8, rfl, -, -, hb8, -, -⟩; have hz8 := hb8.size))
          go_meet
          exact (((hb2.trans (hb3.mono (by omega))).trans (b5.mono (by omega))).trans (hb6.mono (by omega))).trans ((((below_alloc _ _).trans (hb7.mono (by simp))).trans (hb8.mono (by omega))).mono (by omega)) |>.alloc (by omega) _
        · have hk' : k < 0 ∨ (G.length : Int) ≤ k := by omega
          clear vv
          rcases hk' with hk1 | hk1
          all_goals
            go_wp2_with (first
              | (go_at_call 11; refine (y _ (HX.out.2.1.below B2) (HX.out.2.2.below B2)).mono ?_; rintro e w3 ⟨ao3, cap3, rfl, own3, hb3⟩; have hz3 := hb3.size; have HF3 : Hid (SliceB w3.heap.size w3 (.slice ao3 G.length cap3) G) := own_slice own3; have hc3 := slice_cap HF3.out; have B3 : Below w.heap.size w w3 := B2.trans (hb3.mono (by omega)))
              | (at_builtin; (refine wpList_app rfl (.tmp 83) (.tmp 84) rfl w3.heap.size (.slice (some ⟨w3.heap.size, 0, none⟩) 0 0) 0 [] rfl (new_own w3 w3.heap.size [] #[] (by simp [maxLen]) rfl (Nat.le_refl _)) w3.heap.size (.slice ao3 G.length cap3) G rfl (HF3.out.same (fun j hj => Below.heap_alloc _ _ _ hj)) (by omega) (by simp) ?_); intro ao4 cap4 w4 own4 hg4 hm4; obtain ⟨own4, b4⟩ := app_first own4 hg4)
              | (at_builtin; (refine wpList_app rfl (.tmp 85) (.tmp 86) rfl w3.heap.size (.slice ao4 G.length cap4) G.length (u8s G) (by simp [Act.eval]) own4 w4.heap.size (.slice ma more.length mc) more rfl ((HM.out.below B3).below b4) (by omega) b4.size ?_); intro ao5 cap5 w5 own5 hg5 hm5; obtain ⟨hs5, b5⟩ := app_second own4 b4 own5 hg5; have hz5 := b5.size)
              | (go_at_call_of 16 ao5; (refine (z _ _ hs5).mono ?_); rintro e w6 ⟨va6, vc6, ua6, uc6, rfl, hv6, hu6, hb6, -, -⟩; have hz6 := hb6.size; have B6 : Below w.heap.size w w6 := (B3.trans (b5.mono (by omega))).trans (hb6.mono (by omega)); have R6 := (B3b hb3 b5 hb6 (w.heap.size + 1) (by omega)).trans R2; obtain ⟨a0, a1, a2, a3, a4, a5, fa⟩ := box6 R6; have lt6 : w.heap.size + 1 < w6.heap.size := (by omega))
              | (go_at_call 18; (refine (sameSay_eq K2 N2 M2 E2 _ _ _ _ PS2 BODY2 _ (hv6.below (below_alloc _ _)) (hu6.below (below_alloc _ _)) ((HX.out.2.1.below B6).below (below_alloc _ _)) ((HX.out.2.2.below B6).below (below_alloc _ _))).mono ?_); rintro e w7 ⟨rfl, hb7⟩; have hz7 := hb7.size; simp at hz7))
            go_meet
            exact ((((hb2.trans (hb3.mono (by omega))).trans (b5.mono (by omega))).trans (hb6.mono (by omega))).trans (((below_alloc _ _).trans (hb7.mono (by simp))).mono (by omega)))
    case rest =>
      go_wp2
      refine bodyPost_ret (v := .bool true) (by simp [results, Try.results4, go_sem, *]) rfl ⟨rfl, B0.trans (hcut.mono (by omega))⟩
end Go.Proofs.Ytnfmidbbelgldaa
