/-
  tgref6.AskFrame and SayFrame write what AD.inB, SD.inB and frameB say.
-/
import Derived.Test.YtnfmidbbelgldaaFBytes
import Derived.Test.YtnfmidbbelgldaaFTellS
import Derived.Test.YtnfmidbbelgldaaRefBytes
import Derived.Deep.RegionHeld3
import Derived.Deep.RegionLaw
import Derived.Deep.DeepCutAuto
namespace Go.Proofs.Ytnfmidbbelgldaa
open Go.RowKit
set_option linter.unusedVariables false
set_option linter.unusedSimpArgs false

attribute [local go_sem ↓] Go.wp_at_zero Go.wp_at_succ

set_option maxHeartbeats 400000 in
theorem framed_any (v : Value) (l : List UInt8) (w : World) (hv : SliceB w.heap.size w v l) (hl : l.length ≤ 60000) :
    Calls Try.prog 32 #[v] w fun e w' => ∃ ao cap, e = .returned (.slice ao (frameB l).length cap) ∧ w'.ownsRow w.heap.size 5 1 (.slice ao (frameB l).length cap) (frameB l).length (u8s (frameB l)) ∧ Below w.heap.size w w' := by
  have HV := hv
  obtain ⟨a, c, rfl, v1, v2, v3, v4⟩ := hv
  clear v3 v4 v2
  go_enter Try.func32, Try.ntmps32
  go_wp2_with (
     (at_builtin; refine wpList_app rfl (.tmp 11) (.tmp 12) rfl w.heap.size (.slice (some ⟨w.heap.size, 0, none⟩) 2 2) 2 (u8s [UInt8.ofNat (l.length / 256), UInt8.ofNat l.length]) rfl (new_own w w.heap.size [UInt8.ofNat (l.length / 256), UInt8.ofNat l.length] _ (by simp [maxLen]) ?hcells (Nat.le_refl _)) (w.heap.size) _ l rfl (HV.same (fun k hk => Below.heap_alloc _ _ _ hk)) (by (try simp); omega) (by (try simp) <;> omega) ?_; rotate_left; intro ao cap w1 hown1 hg1 hm1))
  · go_ret
    obtain ⟨ao', cap', he, -⟩ := own_shape hown1
    simp only [Value.slice.injEq] at he
    obtain ⟨rfl, -, rfl⟩ := he
    have e : (frameB l).length = 2 + l.length := by rw [frameB_len]; omega
    have hown2 : w1.ownsRow w.heap.size 5 1 (.slice ao (2 + l.length) cap) (2 + l.length) (u8s (frameB l)) := by
      have : u8s (frameB l) = u8s [UInt8.ofNat (l.length / 256), UInt8.ofNat l.length] ++ u8s l := by rw [← u8s_append]; rfl
      rw [this]; exact hown1
    refine ⟨ao, cap, congrArg Ending.returned (by rw [e]; rfl), by rw [e]; exact hown2, ?_⟩
    exact (below_alloc w _).grown hg1 (by simp) (fun k hk => by simp [Value.ownBlock] at hk; omega)
  · simp only [u8s, List.map_cons, List.map_nil]
    rw [byte_of _ (by omega)]
    congr 2

theorem refBytes_v (v u : Value) (ps : List PD) (body : List UInt8) (w : World) (hv : SliceP w.heap.size w v ps) (hu : SliceB w.heap.size w u body) (h : wrongN ps body.length = 0) :
    Calls Try.prog 31 #[.agg #[v, u]] w fun e w' => ∃ ao cap, e = .returned (.slice ao (bytesF ps body).length cap) ∧ w'.ownsRow w.heap.size 5 1 (.slice ao (bytesF ps body).length cap) (bytesF ps body).length (u8s (bytesF ps body)) ∧ Below w.heap.size w w' := by
  obtain ⟨h1, h2, h3⟩ := wrongN_zero ps _ h
  obtain ⟨va, vc, rfl, v1, v2, v3, v4⟩ := hv
  have hu' := hu
  obtain ⟨ua, uc, rfl, -⟩ := hu'
  refine (refBytes_any va vc ps ua uc body w v4 hu h1 (by omega) (fun p hp => (right_prop p (h2 p hp)).1)).mono ?_
  rintro e w' ⟨v', rfl, ho, hb⟩
  obtain ⟨ao, cap, rfl, _⟩ := own_shape ho
  exact ⟨ao, cap, rfl, ho, hb⟩

/-- The kind's row, made ahead of a call; where it is made behind it, nothing is said. -/
theorem kind_row {w w1 : World} {o : Obj} {cs : Array Value} {c : UInt8} (hb : Below ((w.alloc o).alloc (.cells cs 5)).drew.heap.size ((w.alloc o).alloc (.cells cs 5)).drew w1) (h : cs.toList = u8s [c]) : w1.ownsRow (w.heap.size + 1) 5 1 (.slice (some ⟨w.heap.size + 1, 0, none⟩) 1 1) 1 (u8s [c]) :=
  own_bl (new_own1 w o [c] cs (by simp [maxLen]) h).drew hb
theorem box_row {w w1 : World} {cs cs2 : Array Value} {t : TypeId} (hb : Below ((w.alloc (.cells cs t)).alloc (.cells cs2 5)).drew.heap.size ((w.alloc (.cells cs t)).alloc (.cells cs2 5)).drew w1) : w1.heap[w.heap.size]? = some (.cells cs t (0, 0)) :=
  (hb.block _ (by simp; omega)).trans ((Below.heap_alloc _ _ _ (by simp)).trans (heap_alloc_new w _))
theorem box_below {w w1 : World} {o o2 : Obj} (hb : Below ((w.alloc o).alloc o2).drew.heap.size ((w.alloc o).alloc o2).drew w1) : Below w.heap.size w w1 :=
  (((below_alloc w _).alloc (by simp) _).drew).trans (hb.mono (by simp; omega))
theorem box_row' {w w1 : World} {cs : Array Value} {t : TypeId} (hb : Below (w.alloc (.cells cs t)).drew.heap.size (w.alloc (.cells cs t)).drew w1) : w1.heap[w.heap.size]? = some (.cells cs t (0, 0)) :=
  (hb.block _ (by simp)).trans (heap_alloc_new w _)
theorem box_below' {w w1 : World} {o : Obj} (hb : Below (w.alloc o).drew.heap.size (w.alloc o).drew w1) : Below w.heap.size w w1 :=
  ((below_alloc w _).drew).trans (hb.mono (by simp))
set_option maxHeartbeats 8000000 in
theorem askFrame_any (a : AD) (v u : Value) (w : World) (hr : a.wrong = 0) (hv : SliceP w.heap.size w v a.ps) (hu : SliceB w.heap.size w u a.body) :
    Calls Try.prog 10 #[.agg #[.int .i64 a.kind, .string a.queue, .int .i64 a.n, v, u]] w fun e w' => ∃ ao cap, e = .returned (.slice ao (frameB a.inB).length cap) ∧ w'.ownsRow w.heap.size 5 1 (.slice ao (frameB a.inB).length cap) (frameB a.inB).length (u8s (frameB a.inB)) ∧ Below w.heap.size w w' := by
  obtain ⟨g1, g2, g3, g4, g5, g6, g7⟩ := a.right hr
  have hin := a.inB_len hr
  have HL : Hid (a.inB.length ≤ 300) := hin
  clear hin
  have hkb : Hid (((UInt8.ofNat a.kind.toNat).toNat : Int) = a.kind) := byteI _ (by omega) (by omega)
  have hbl := bytesF_len a.ps a.body g6
  have htl := txt_len a.queue
  have HT : ∀ W, Calls Try.prog 29 #[.string a.queue] W fun e w' => ∃ ao cap, e = .returned (.slice ao (txt a.queue).length cap) ∧ w'.ownsRow W.heap.size 5 1 (.slice ao (txt a.queue).length cap) (txt a.queue).length (u8s (txt a.queue)) ∧ Below W.heap.size W w' := fun W => refText_any a.queue W (by omega)
  have HN : ∀ W, Calls Try.prog 30 #[.int .i64 a.n] W fun e w' => ∃ ao cap, e = .returned (.slice ao (num4 a.n).length cap) ∧ w'.ownsRow W.heap.size 5 1 (.slice ao (num4 a.n).length cap) (num4 a.n).length (u8s (num4 a.n)) ∧ Below W.heap.size W w' := fun W => refNum_any a.n W
  have HA : ∀ W, SliceP W.heap.size W v a.ps → SliceB W.heap.size W u a.body → Calls Try.prog 31 #[.agg #[v, u]] W fun e w' => ∃ ao cap, e = .returned (.slice ao (bytesF a.ps a.body).length cap) ∧ w'.ownsRow W.heap.size 5 1 (.slice ao (bytesF a.ps a.body).length cap) (bytesF a.ps a.body).length (u8s (bytesF a.ps a.body)) ∧ Below W.heap.size W w' := fun W h1 h2 => refBytes_v v u a.ps a.body W h1 h2 g6
  have W0 : Hid (SliceP w.heap.size w v a.ps ∧ SliceB w.heap.size w u a.body) := ⟨hv, hu⟩
  obtain ⟨va, vc, rfl, -⟩ := hv
  obtain ⟨ua, uc, rfl, -⟩ := hu
  have HC : ∀ x : Int, x = a.kind → (#[Value.int IntKind.u8 x] : Array Value).toList = u8s [UInt8.ofNat a.kind.toNat] := by
    intro x hx
    subst hx
    simp only [u8s, List.map_cons, List.map_nil, hkb.out]
  obtain ⟨T, hT⟩ : ∃ T, T = txt a.queue := ⟨_, rfl⟩
  obtain ⟨M, hM⟩ : ∃ M, M = num4 a.n := ⟨_, rfl⟩
  obtain ⟨nb, hnb⟩ : ∃ nb, nb = bytesF a.ps a.body := ⟨_, rfl⟩
  have hml : M.length ≤ 4 := by rw [hM]; simp [num4]
  rw [← hnb] at HA hbl
  rw [← hT] at HT htl
  rw [← hM] at HN
  have htl' : T.length ≤ 9 := by omega
  have hI : a.inB = UInt8.ofNat a.kind.toNat :: T ++ M ++ (if a.kind == 4 then nb else []) := by rw [hnb, hT, hM]; rfl
  have HI : Hid (a.inB = UInt8.ofNat a.kind.toNat :: T ++ M ++ (if a.kind == 4 then nb else [])) := hI
  clear hI hnb hr hT hM htl
  obtain ⟨XS, hXS⟩ : ∃ XS, XS = UInt8.ofNat a.kind.toNat :: T := ⟨_, rfl⟩
  have hwr : IntKind.u8.wrap a.kind = a.kind := by simp [IntKind.wrap, IntKind.bits, IntKind.signed]; omega
  go_enter Try.func10, Try.ntmps10
  go_upto_region 1 with fail
  go_cut [3] (fun v wx => ∃ ao cap, v = .slice ao (1 + T.length) cap ∧ wx.ownsRow (w.heap.size + 1) 5 1 (.slice ao (1 + T.length) cap) XS.length (u8s XS) ∧ Below w.heap.size w wx ∧ wx.heap[w.heap.size]? = some (.cells #[.int .i64 a.kind, .string a.queue, .int .i64 a.n, .slice va a.ps.length vc, .slice ua a.body.length uc] 27 (0, 0)))
  case first =>
    have g0 : ∀ o, w.heap.size < (w.alloc o).heap.size := fun o => by simp
    go_region_law (first
      | (go_simp; go_at_call 29; refine (HT _).mono ?_; rintro e w1 ⟨ao1, cap1, rfl, hown1, hb1⟩; have hka := kind_row hb1 (HC _ rfl); have R1 := box_row hb1; obtain ⟨a0, a1, a2, a3, a4, fa⟩ := box5 R1; have hz1 := hb1.size; simp at hz1; have lt1 : w.heap.size < w1.heap.size := (by omega); have b1 := box_below hb1)
      | (go_simp; go_at_call 29; refine (HT _).mono ?_; rintro e w1 ⟨ao1, cap1, rfl, hown1, hb1⟩; have R1 := box_row' hb1; obtain ⟨a0, a1, a2, a3, a4, fa⟩ := box5 R1; have hz1 := hb1.size; simp at hz1; have lt1 : w.heap.size < w1.heap.size := (by omega); have b1 := box_below' hb1)
      | (have hkax := hka; (refine step_appM (by rfl) (.tmp 7) (.tmp 10) (by rfl) (w.heap.size + 1) (.slice (some ⟨w.heap.size + 1, 0, none⟩) 1 1) 1 (u8s [UInt8.ofNat a.kind.toNat]) (by rfl) hka w1.heap.size (.slice ao1 T.length cap1) T (by rfl) (own_slice hown1) (by omega) (by omega) ?_); intro ao2 cap2 w2 hown2 hg2 hm2; obtain ⟨hc2, hf2⟩ := own_far hg2 w.heap.size lt1 (by simp [Value.ownBlock]))
      | (have hkax := hown1; (refine step_appM (by rfl) (.tmp 7) (.tmp 10) (by rfl) (w.heap.size + 1) (.slice (some ⟨w1.heap.size, 0, none⟩) 1 1) 1 (u8s [UInt8.ofNat a.kind.toNat]) (by rfl) (new_own w1 (w.heap.size + 1) [UInt8.ofNat a.kind.toNat] _ (by simp [maxLen]) (HC _ rfl) (by omega)) w1.heap.size (.slice ao1 T.length cap1) T (by rfl) ((own_slice hown1).same (fun j hj => Below.heap_alloc _ _ _ hj)) (by omega) (by simp; omega) ?_); intro ao2 cap2 w2 hown2 hg2 hm2; obtain ⟨hc2, hf2⟩ := own_far hg2 w.heap.size (by simp; omega) (by simp [Value.ownBlock]; omega))
      | fail)
    all_goals
      have hXS' : w2.ownsRow (w.heap.size + 1) 5 1 (.slice ao2 (1 + T.length) cap2) XS.length (u8s XS) := by
        have e : XS.length = 1 + T.length := by rw [hXS]; simp; omega
        have e2 : u8s XS = u8s [UInt8.ofNat a.kind.toNat] ++ u8s T := by rw [hXS, ← u8s_append]; rfl
        rw [e, e2]; exact hown2
      have R2 : w2.heap[w.heap.size]? = some (.cells #[.int .i64 a.kind, .string a.queue, .int .i64 a.n, .slice va a.ps.length vc, .slice ua a.body.length uc] 27 (0, 0)) := by
        first
          | exact (hg2.block _ lt1 (by simp [Value.ownBlock])).trans R1
          | exact (hg2.block _ (by simp; omega) (by simp [Value.ownBlock]; omega)).trans ((Below.heap_alloc _ _ _ lt1).trans R1)
      have b2 : Below w.heap.size w w2 := by
        first
          | exact b1.grown hg2 (by omega) (fun k hk => by simp [Value.ownBlock] at hk; omega)
          | exact (b1.alloc (by omega) _).grown hg2 (by simp; omega) (fun k hk => by simp [Value.ownBlock] at hk; omega)
      go_wp2_with fail
      go_meet
      exact ⟨ao2, cap2, rfl, hXS', b2, R2⟩
  case rest =>
    obtain ⟨ao1, cap1, rfl, hown1, b1, R1⟩ := hcut
    have HX : Hid (XS = UInt8.ofNat a.kind.toNat :: T) := hXS
    have hxl : XS.length ≤ 10 := by rw [hXS]; simp; omega
    clear hXS
    have hz1 := b1.size
    have lt1 : w.heap.size < wc.heap.size := by
      have := (hown1)
      rcases Nat.lt_or_ge w.heap.size wc.heap.size with h | h
      · exact h
      · rw [Array.getElem?_eq_none h] at R1; cases R1
    obtain ⟨a0, a1, a2, a3, a4, fa⟩ := box5 R1
    by_cases h4 : a.kind = 4
    · go_wp2_with (first
        | (go_at_call 30; refine (HN _).mono ?_; rintro e w2 ⟨ao2, cap2, rfl, hown2, hb2⟩; have hz2 := hb2.size; have b2 : Below w.heap.size w w2 := b1.trans (hb2.mono hz1); have R2 := (hb2.block _ lt1).trans R1; have hownx := own_bl hown1 hb2)
        | (at_builtin; (refine wpList_app rfl (.tmp 12) (.tmp 15) rfl (w.heap.size + 1) (.slice ao1 (1 + T.length) cap1) XS.length (u8s XS) rfl hownx w2.heap.size _ M rfl (own_slice hown2) (by omega) (by omega) ?_); intro ao3 cap3 w3 hown3 hg3 hm3; have R3 := (hg3.block _ (by omega) (fun e => (by have := (hownx.lt _ e.symm).1; omega))).trans R2; obtain ⟨a0, a1, a2, a3, a4, fa⟩ := box5 R3; have hz3 := hg3.size; have b3 : Below w.heap.size w w3 := b2.grown hg3 (by omega) (fun k hk => (by have := (hownx.lt k hk).1; omega)); have hown3' := app_zs hown3; obtain ⟨ZS, hZS⟩ : ∃ ZS, ZS = XS ++ M := ⟨_, rfl⟩; have HZ : Hid (ZS = XS ++ M) := hZS; rw [← hZS] at hown3'; have hzl : ZS.length ≤ 14 := (by rw [hZS, List.length_append]; omega); clear hZS)
        | (go_at_call 31; (refine (HA _ (W0.out.1.below b3) (W0.out.2.below b3)).mono ?_); rintro e w4 ⟨ao4, cap4, rfl, hown4, hb4⟩; have hz4 := hb4.size; have b4 : Below w.heap.size w w4 := b3.trans (hb4.mono (by omega)))
        | (at_builtin; (refine wpList_app rfl (.tmp 20) (.tmp 23) rfl (w.heap.size + 1) (.slice ao3 (XS.length + M.length) cap3) ZS.length (u8s ZS) rfl (own_bl hown3' hb4) w4.heap.size _ nb rfl (own_slice hown4) (by omega) (by omega) ?_); intro ao5 cap5 w5 hown5 hg5 hm5; have hown5' := own_slice (app_zs hown5); have b5 : Below w.heap.size w w5 := b4.grown hg5 (by omega) (fun k hk => (by have := ((own_bl hown3' hb4).lt k hk).1; omega)))
        | (go_at_call 32; (refine (framed_any _ _ _ hown5' ?_).mono ?_); (rw [List.length_append]; omega); rintro e w6 ⟨ao6, cap6, rfl, hown6, hb6⟩))
      go_ret
      have e : ZS ++ nb = a.inB := by rw [HZ.out, HX.out, HI.out, h4]; simp
      rw [e] at hown6
      exact ⟨ao6, cap6, by rw [e]; rfl, own_mono hown6 b5.size, b5.trans (hb6.mono b5.size)⟩
    · have h4' : (a.kind == 4) = false := by simpa using h4
      go_wp2_with (first
        | (go_at_call 30; refine (HN _).mono ?_; rintro e w2 ⟨ao2, cap2, rfl, hown2, hb2⟩; have hz2 := hb2.size; have b2 : Below w.heap.size w w2 := b1.trans (hb2.mono hz1); have R2 := (hb2.block _ lt1).trans R1; have hownx := own_bl hown1 hb2)
        | (at_builtin; refine wpList_app rfl (.tmp 12) (.tmp 15) rfl (w.heap.size + 1) (.slice ao1 (1 + T.length) cap1) XS.length (u8s XS) rfl hownx w2.heap.size _ M rfl (own_slice hown2) (by omega) (by omega) ?_; intro ao3 cap3 w3 hown3 hg3 hm3; have R3 := (hg3.block _ (by omega) (fun e => (by have := (hownx.lt _ e.symm).1; omega))).trans R2; obtain ⟨a0, a1, a2, a3, a4, fa⟩ := box5 R3; have hz3 := hg3.size; have b3 : Below w.heap.size w w3 := b2.grown hg3 (by omega) (fun k hk => (by have := (hownx.lt k hk).1; omega)); have hown3' := own_slice (app_zs hown3))
        | (go_at_call 32; refine (framed_any _ _ _ hown3' ?_).mono ?_; (rw [List.length_append]; omega); rintro e w6 ⟨ao6, cap6, rfl, hown6, hb6⟩))
      go_ret
      have e : XS ++ M = a.inB := by rw [HX.out, HI.out, h4']; simp
      rw [e] at hown6
      exact ⟨ao6, cap6, by rw [e]; rfl, own_mono hown6 b3.size, b3.trans (hb6.mono b3.size)⟩
end Go.Proofs.Ytnfmidbbelgldaa
