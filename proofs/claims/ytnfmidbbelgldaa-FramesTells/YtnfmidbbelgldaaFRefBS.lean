/-
  tgref6.SayFrame writes what SD.inB and frameB say.
-/
import Derived.Test.YtnfmidbbelgldaaFRefBA
namespace Go.Proofs.Ytnfmidbbelgldaa
open Go.RowKit
set_option linter.unusedVariables false
set_option linter.unusedSimpArgs false

attribute [local go_sem ↓] Go.wp_at_zero Go.wp_at_succ

set_option maxHeartbeats 8000000 in
theorem sayFrame_any (a : SD) (v u : Value) (w : World) (hr : a.wrong = 0) (hv : SliceP w.heap.size w v a.ps) (hu : SliceB w.heap.size w u a.body) :
    Calls Try.prog 12 #[.agg #[.int .i64 a.kind, .int .i64 a.n, .int .i64 a.m, .int .i64 a.err, v, u]] w fun e w' => ∃ ao cap, e = .returned (.slice ao (frameB a.inB).length cap) ∧ w'.ownsRow w.heap.size 5 1 (.slice ao (frameB a.inB).length cap) (frameB a.inB).length (u8s (frameB a.inB)) ∧ Below w.heap.size w w' := by
  obtain ⟨g1, g2, g3, g4, g5, g5', g6, g7, g8, g9⟩ := a.right hr
  have hin := a.inB_len hr
  have HL : Hid (a.inB.length ≤ 300) := hin
  clear hin
  have hkb : Hid (((UInt8.ofNat a.kind.toNat).toNat : Int) = a.kind) := byteI _ (by omega) (by omega)
  have hbl := bytesF_len a.ps a.body g8
  have hmb : Hid (((UInt8.ofNat a.m.toNat).toNat : Int) = a.m) := byteI _ (by omega) (by omega)
  have heb : Hid (((UInt8.ofNat a.err.toNat).toNat : Int) = a.err) := byteI _ (by omega) (by omega)
  have HN : ∀ W, Calls Try.prog 30 #[.int .i64 a.n] W fun e w' => ∃ ao cap, e = .returned (.slice ao (num4 a.n).length cap) ∧ w'.ownsRow W.heap.size 5 1 (.slice ao (num4 a.n).length cap) (num4 a.n).length (u8s (num4 a.n)) ∧ Below W.heap.size W w' := fun W => refNum_any a.n W
  have HA : ∀ W, SliceP W.heap.size W v a.ps → SliceB W.heap.size W u a.body → Calls Try.prog 31 #[.agg #[v, u]] W fun e w' => ∃ ao cap, e = .returned (.slice ao (bytesF a.ps a.body).length cap) ∧ w'.ownsRow W.heap.size 5 1 (.slice ao (bytesF a.ps a.body).length cap) (bytesF a.ps a.body).length (u8s (bytesF a.ps a.body)) ∧ Below W.heap.size W w' := fun W h1 h2 => refBytes_v v u a.ps a.body W h1 h2 g8
  have W0 : Hid (SliceP w.heap.size w v a.ps ∧ SliceB w.heap.size w u a.body) := ⟨hv, hu⟩
  obtain ⟨va, vc, rfl, -⟩ := hv
  obtain ⟨ua, uc, rfl, -⟩ := hu
  have HC : ∀ x : Int, x = a.kind → (#[Value.int IntKind.u8 x] : Array Value).toList = u8s [UInt8.ofNat a.kind.toNat] := by
    intro x hx
    subst hx
    simp only [u8s, List.map_cons, List.map_nil, hkb.out]
  have HD : ∀ x y : Int, x = a.m → y = a.err → (#[Value.int IntKind.u8 x, Value.int IntKind.u8 y] : Array Value).toList = u8s [UInt8.ofNat a.m.toNat, UInt8.ofNat a.err.toNat] := by
    intro x y hx hy
    subst hx hy
    simp only [u8s, List.map_cons, List.map_nil, hmb.out, heb.out]
  obtain ⟨M, hM⟩ : ∃ M, M = num4 a.n := ⟨_, rfl⟩
  obtain ⟨nb, hnb⟩ : ∃ nb, nb = bytesF a.ps a.body := ⟨_, rfl⟩
  have hml : M.length ≤ 4 := by rw [hM]; simp [num4]
  rw [← hnb] at HA hbl
  rw [← hM] at HN
  have hI : a.inB = UInt8.ofNat a.kind.toNat :: M ++ [UInt8.ofNat a.m.toNat, UInt8.ofNat a.err.toNat] ++ (if a.kind == 2 then nb else []) := by rw [hnb, hM]; rfl
  have HI : Hid (a.inB = UInt8.ofNat a.kind.toNat :: M ++ [UInt8.ofNat a.m.toNat, UInt8.ofNat a.err.toNat] ++ (if a.kind == 2 then nb else [])) := hI
  clear hI hnb hr hM
  obtain ⟨XS, hXS⟩ : ∃ XS, XS = UInt8.ofNat a.kind.toNat :: M := ⟨_, rfl⟩
  have hwr : IntKind.u8.wrap a.kind = a.kind := by simp [IntKind.wrap, IntKind.bits, IntKind.signed]; omega
  go_enter Try.func12, Try.ntmps12
  go_upto_region 1 with fail
  go_cut [3] (fun v wx => ∃ ao cap, v = .slice ao (1 + M.length) cap ∧ wx.ownsRow (w.heap.size + 1) 5 1 (.slice ao (1 + M.length) cap) XS.length (u8s XS) ∧ Below w.heap.size w wx ∧ wx.heap[w.heap.size]? = some (.cells #[.int .i64 a.kind, .int .i64 a.n, .int .i64 a.m, .int .i64 a.err, .slice va a.ps.length vc, .slice ua a.body.length uc] 30 (0, 0)))
  case first =>
    have g0 : ∀ o, w.heap.size < (w.alloc o).heap.size := fun o => by simp
    go_region_law (first
      | (go_simp; go_at_call 30; refine (HN _).mono ?_; rintro e w1 ⟨ao1, cap1, rfl, hown1, hb1⟩; have hka := kind_row hb1 (HC _ rfl); have R1 := box_row hb1; obtain ⟨a0, a1, a2, a3, a4, a5, fa⟩ := box6 R1; have hz1 := hb1.size; simp at hz1; have lt1 : w.heap.size < w1.heap.size := (by omega); have b1 := box_below hb1)
      | (go_simp; go_at_call 30; refine (HN _).mono ?_; rintro e w1 ⟨ao1, cap1, rfl, hown1, hb1⟩; have R1 := box_row' hb1; obtain ⟨a0, a1, a2, a3, a4, a5, fa⟩ := box6 R1; have hz1 := hb1.size; simp at hz1; have lt1 : w.heap.size < w1.heap.size := (by omega); have b1 := box_below' hb1)
      | (have hkax := hka; (refine step_appM (by rfl) (.tmp 7) (.tmp 10) (by rfl) (w.heap.size + 1) (.slice (some ⟨w.heap.size + 1, 0, none⟩) 1 1) 1 (u8s [UInt8.ofNat a.kind.toNat]) (by rfl) hka w1.heap.size (.slice ao1 M.length cap1) M (by rfl) (own_slice hown1) (by omega) (by omega) ?_); intro ao2 cap2 w2 hown2 hg2 hm2; obtain ⟨hc2, hf2⟩ := own_far hg2 w.heap.size lt1 (by simp [Value.ownBlock]))
      | (have hkax := hown1; (refine step_appM (by rfl) (.tmp 7) (.tmp 10) (by rfl) (w.heap.size + 1) (.slice (some ⟨w1.heap.size, 0, none⟩) 1 1) 1 (u8s [UInt8.ofNat a.kind.toNat]) (by rfl) (new_own w1 (w.heap.size + 1) [UInt8.ofNat a.kind.toNat] _ (by simp [maxLen]) (HC _ rfl) (by omega)) w1.heap.size (.slice ao1 M.length cap1) M (by rfl) ((own_slice hown1).same (fun j hj => Below.heap_alloc _ _ _ hj)) (by omega) (by simp; omega) ?_); intro ao2 cap2 w2 hown2 hg2 hm2; obtain ⟨hc2, hf2⟩ := own_far hg2 w.heap.size (by simp; omega) (by simp [Value.ownBlock]; omega))
      | fail)
    all_goals
      have hXS' : w2.ownsRow (w.heap.size + 1) 5 1 (.slice ao2 (1 + M.length) cap2) XS.length (u8s XS) := by
        have e : XS.length = 1 + M.length := by rw [hXS]; simp; omega
        have e2 : u8s XS = u8s [UInt8.ofNat a.kind.toNat] ++ u8s M := by rw [hXS, ← u8s_append]; rfl
        rw [e, e2]; exact hown2
      have R2 : w2.heap[w.heap.size]? = some (.cells #[.int .i64 a.kind, .int .i64 a.n, .int .i64 a.m, .int .i64 a.err, .slice va a.ps.length vc, .slice ua a.body.length uc] 30 (0, 0)) := by
        first
          | exact (hg2.block _ lt1 (by simp [Value.ownBlock])).trans R1
          | exact (hg2.block _ (by simp; omega) (by simp [Value.ownBlock]; omega)).trans ((Below.heap_alloc _ _ _ lt1).trans R1)
      have b2 : Below w.heap.size w w2 := by
        first
          | exact b1.grown hg2 (by omega) (fun k hk => by simp [Value.ownBlock] at hk; omega)
          | exact (b1.alloc (by omega) _).grown hg2 (by simp; omega) (fun k hk => by simp [Value.ownBlock] at hk; omega)
      go_wp2_with fail
      go_meet
      exact ⟨ao2, cap2, rfl, hXS', b2, R2⟩
  case rest =>
    obtain ⟨ao1, cap1, rfl, hown1, b1, R1⟩ := hcut
    have HX : Hid (XS = UInt8.ofNat a.kind.toNat :: M) := hXS
    have hxl : XS.length ≤ 10 := by rw [hXS]; simp; omega
    clear hXS
    have hz1 := b1.size
    have lt1 : w.heap.size < wc.heap.size := by
      have := (hown1)
      rcases Nat.lt_or_ge w.heap.size wc.heap.size with h | h
      · exact h
      · rw [Array.getElem?_eq_none h] at R1; cases R1
    obtain ⟨a0, a1, a2, a3, a4, a5, fa⟩ := box6 R1
    have hwm : IntKind.u8.wrap a.m = a.m := by simp [IntKind.wrap, IntKind.bits, IntKind.signed]; omega
    have hwe : IntKind.u8.wrap a.err = a.err := by simp [IntKind.wrap, IntKind.bits, IntKind.signed]; omega
    by_cases h4 : a.kind = 2
    · go_wp2_with (first
        | (at_builtin; refine wpList_app rfl (.tmp 12) (.tmp 19) rfl (w.heap.size + 1) (.slice ao1 (1 + M.length) cap1) XS.length (u8s XS) rfl (hown1.alloc _) (wc.heap.size + 1) _ [UInt8.ofNat a.m.toNat, UInt8.ofNat a.err.toNat] rfl (new_bytes wc [UInt8.ofNat a.m.toNat, UInt8.ofNat a.err.toNat] _ (by simp [maxLen]) (HD _ _ (by first | omega | exact hmb.out | rfl) (by first | omega | exact heb.out | rfl))) (by (try simp) <;> omega) (by (try simp) <;> omega) ?_; intro ao3 cap3 w3 hown3 hg3 hm3; have R3 := (hg3.block _ (by simp; omega) (fun e => (by have := (hown1.lt _ e.symm).1; omega))).trans ((Below.heap_alloc _ _ _ lt1).trans R1); obtain ⟨a0, a1, a2, a3, a4, a5, fa⟩ := box6 R3; have hz3 := hg3.size; simp at hz3; have b3 : Below w.heap.size w w3 := (b1.alloc (by omega) _).grown hg3 (by simp; omega) (fun k hk => (by have := (hown1.lt k hk).1; omega)); have hown3' := app_zs (ys := XS) (bs := [UInt8.ofNat a.m.toNat, UInt8.ofNat a.err.toNat]) hown3; obtain ⟨ZS, hZS⟩ : ∃ ZS, ZS = XS ++ [UInt8.ofNat a.m.toNat, UInt8.ofNat a.err.toNat] := ⟨_, rfl⟩; have HZ : Hid (ZS = XS ++ [UInt8.ofNat a.m.toNat, UInt8.ofNat a.err.toNat]) := hZS; rw [← hZS] at hown3'; have hzl : ZS.length ≤ 14 := (by rw [hZS, List.length_append]; simp; omega); clear hZS)
        | (go_at_call 31; refine (HA _ (W0.out.1.below b3) (W0.out.2.below b3)).mono ?_; rintro e w4 ⟨ao4, cap4, rfl, hown4, hb4⟩; have hz4 := hb4.size; have b4 : Below w.heap.size w w4 := b3.trans (hb4.mono (by omega)))
        | (at_builtin; refine wpList_app rfl (.tmp 24) (.tmp 27) rfl (w.heap.size + 1) _ ZS.length (u8s ZS) rfl (own_bl hown3' hb4) w4.heap.size _ nb rfl (own_slice hown4) (by omega) (by omega) ?_; intro ao5 cap5 w5 hown5 hg5 hm5; have hown5' := own_slice (app_zs hown5); have b5 : Below w.heap.size w w5 := b4.grown hg5 (by omega) (fun k hk => (by have := ((own_bl hown3' hb4).lt k hk).1; omega)))
        | (go_at_call 32; (refine (framed_any _ _ _ hown5' ?_).mono ?_); (rw [List.length_append]; omega); rintro e w6 ⟨ao6, cap6, rfl, hown6, hb6⟩))
      go_ret
      have e : ZS ++ nb = a.inB := by rw [HZ.out, HX.out, HI.out, h4]; simp
      rw [e] at hown6
      exact ⟨ao6, cap6, by rw [e]; rfl, own_mono hown6 b5.size, b5.trans (hb6.mono b5.size)⟩
    · have h4' : (a.kind == 2) = false := by simpa using h4
      go_wp2_with (first
        | (at_builtin; refine wpList_app rfl (.tmp 12) (.tmp 19) rfl (w.heap.size + 1) (.slice ao1 (1 + M.length) cap1) XS.length (u8s XS) rfl (hown1.alloc _) (wc.heap.size + 1) _ [UInt8.ofNat a.m.toNat, UInt8.ofNat a.err.toNat] rfl (new_bytes wc [UInt8.ofNat a.m.toNat, UInt8.ofNat a.err.toNat] _ (by simp [maxLen]) (HD _ _ (by first | omega | exact hmb.out | rfl) (by first | omega | exact heb.out | rfl))) (by (try simp) <;> omega) (by (try simp) <;> omega) ?_; intro ao3 cap3 w3 hown3 hg3 hm3; have R3 := (hg3.block _ (by simp; omega) (fun e => (by have := (hown1.lt _ e.symm).1; omega))).trans ((Below.heap_alloc _ _ _ lt1).trans R1); obtain ⟨a0, a1, a2, a3, a4, a5, fa⟩ := box6 R3; have hz3 := hg3.size; simp at hz3; have b3 : Below w.heap.size w w3 := (b1.alloc (by omega) _).grown hg3 (by simp; omega) (fun k hk => (by have := (hown1.lt k hk).1; omega)); have hown3' := app_zs (ys := XS) (bs := [UInt8.ofNat a.m.toNat, UInt8.ofNat a.err.toNat]) hown3; obtain ⟨ZS, hZS⟩ : ∃ ZS, ZS = XS ++ [UInt8.ofNat a.m.toNat, UInt8.ofNat a.err.toNat] := ⟨_, rfl⟩; have HZ : Hid (ZS = XS ++ [UInt8.ofNat a.m.toNat, UInt8.ofNat a.err.toNat]) := hZS; rw [← hZS] at hown3'; have hzl : ZS.length ≤ 14 := (by rw [hZS, List.length_append]; simp; omega); clear hZS)
        | (go_at_call 32; (refine (framed_any _ ZS _ (say_own hown3') ?_).mono ?_); omega; rintro e w6 ⟨ao6, cap6, rfl, hown6, hb6⟩))
      go_ret
      have e : ZS = a.inB := by rw [HZ.out, HX.out, HI.out, h4']; simp
      rw [e] at hown6
      exact ⟨ao6, cap6, by rw [e]; rfl, own_mono hown6 b3.size, b3.trans (hb6.mono b3.size)⟩

end Go.Proofs.Ytnfmidbbelgldaa
