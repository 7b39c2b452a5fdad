/-
  TellsC; Tick: texts laid together.
-/
import Derived.Test.YtpehkoompadpaaaHTellsProofM27
import Derived.Test.YtpehkoompadpaaaHTellsProofM31
import Derived.Test.YtpehkoompadpaaaHTellsProofM22
import Derived.Test.YtpehkoompadpaaaHTellsProofM15
/-
  tglaw4.HallTells: its closures.
-/
namespace Go.Proofs.Ytpehkoompadpaaa
open Go.RowKit
set_option linter.unusedVariables false
set_option linter.unusedSimpArgs false

attribute [local go_sem ↓] Go.wp_at_zero Go.wp_at_succ

set_option maxRecDepth 100000 in
set_option maxHeartbeats 1000000 in
theorem same1_any (okb : Nat) (va : Option Addr) (vn vc : Nat) (nx : Int) (ea : Option Addr) (el ec : Nat) (en : Int) (W : World) :
    Calls Try.prog 14 #[.agg #[.slice va vn vc, .int .i64 nx], .slice ea el ec, .int .i64 en, .pointer (some ⟨okb, 0, none⟩)] W fun e w' => e = .returned (.func (.func 15) #[] #[.pointer (some ⟨okb, 0, none⟩), .pointer (some ⟨W.heap.size + 1 + 1, 0, none⟩), .pointer (some ⟨W.heap.size, 0, none⟩), .pointer (some ⟨W.heap.size + 1, 0, none⟩)]) ∧
      Blk w' W.heap.size [.slice va vn vc, .int .i64 nx] ∧ Blk w' (W.heap.size + 1) [.slice ea el ec] ∧ Blk w' (W.heap.size + 1 + 1) [.int .i64 en] ∧ Below W.heap.size W w' := by
  go_enter Try.func14, Try.ntmps14
  go_wp2
  go_ret
  refine ⟨rfl, ((Blk.new _ _ _).alloc _).alloc _, ?_, ?_, ((below_alloc _ _).alloc (by simp) _).alloc (by simp; omega) _⟩
  · have := (Blk.new (W.alloc (.cells #[.slice va vn vc, .int .i64 nx] 24)) [.slice ea el ec] 35).alloc (.cells #[.int .i64 en] 36)
    simpa using this
  · have := Blk.new ((W.alloc (.cells #[.slice va vn vc, .int .i64 nx] 24)).alloc (.cells #[.slice ea el ec] 35)) [.int .i64 en] 36
    simpa using this

/-- A store of what is there already. -/
theorem below_same {B : Nat} {w w' : World} {b : Nat} {v : Value} (h : Below B w w') (hb : Blk w' b [v]) : Below B w (w'.setCell ⟨b, 0, none⟩ v) := by
  refine ⟨h.os, h.tape, h.output, by simpa using h.size, fun k hk => ?_⟩
  by_cases e : k = b
  · subst e
    obtain ⟨t, hb⟩ := hb
    rw [← h.block k hk]
    simp [World.setCell, Array.getElem?_modify, hb]
  · rw [Below.heap_setCell _ _ _ _ e]
    exact h.block k hk

set_option maxRecDepth 100000 in
set_option maxHeartbeats 1000000 in
theorem same2_any (okb eb ab sb : Nat) (h : HD) (hsm : smallQ h.queues) (es : List ED) (hlen : es.length ≤ 1000) (en : Int) (v ev v' ev' : Value) (W : World) (hok : Blk W okb [.bool true]) (heb : Blk W eb [.int .i64 en]) (hab : Blk W ab [v, .int .i64 h.next]) (hsb : Blk W sb [ev])
    (hv : SliceQ (Under W.heap.size) W v h.queues) (hv' : SliceQ (Under W.heap.size) W v' h.queues) (he : SliceE (Under W.heap.size) W ev es) (he' : SliceE (Under W.heap.size) W ev' es) :
    Calls Try.prog 15 #[.agg #[v', .int .i64 h.next], ev', .int .i64 en, .pointer (some ⟨okb, 0, none⟩), .pointer (some ⟨eb, 0, none⟩), .pointer (some ⟨ab, 0, none⟩), .pointer (some ⟨sb, 0, none⟩)] W fun e w' => (∃ x, e = .returned x) ∧ Below W.heap.size W w' := by
  have HM : Hid (smallQ h.queues) := hsm
  have HX : Hid (Blk W okb [.bool true] ∧ Blk W eb [.int .i64 en] ∧ Blk W ab [v, .int .i64 h.next] ∧ Blk W sb [ev]) := ⟨hok, heb, hab, hsb⟩
  have HV : Hid (SliceQ (Under W.heap.size) W v h.queues ∧ SliceQ (Under W.heap.size) W v' h.queues ∧ SliceE (Under W.heap.size) W ev es ∧ SliceE (Under W.heap.size) W ev' es) := ⟨hv, hv', he, he'⟩
  obtain ⟨va, vc, rfl⟩ := hv.shp
  obtain ⟨va', vc', rfl⟩ := hv'.shp
  obtain ⟨ea, ec, rfl⟩ := he.shp
  obtain ⟨ea', ec', rfl⟩ := he'.shp
  obtain ⟨a0, a1, a2⟩ := hok.b1
  obtain ⟨b0, b1, b2⟩ := heb.b1
  obtain ⟨c0, c1, c2, c3⟩ := hab.b2
  obtain ⟨d0, d1, d2⟩ := hsb.b1
  have n1 : okb ≠ W.heap.size := by omega
  have n2 : eb ≠ W.heap.size := by omega
  have n3 : ab ≠ W.heap.size := by omega
  have n4 : sb ≠ W.heap.size := by omega
  clear hv hv' he he' hok heb hab hsb
  go_enter Try.func15, Try.ntmps15
  go_wp2_with (first
    | (go_at_call 8; refine (sameHall_true _ _ h HM.out _ (HV.out.1.up' (below_alloc _ _)) (HV.out.2.1.up' (below_alloc _ _))).mono ?_; rintro e w1 ⟨rfl, hb1⟩; have hbn : Below W.heap.size W w1 := (below_alloc _ _).trans (hb1.mono (by simp)); have HB1 : Hid (Below W.heap.size W w1) := hbn; have f0 := bel_c hbn d2 d0; obtain ⟨g0, g1, g2⟩ := (HX.out.1.below hbn a2).b1; clear hb1 hbn)
    | (go_at_call 16; refine (sameEntries_true _ _ es hlen _ (HV.out.2.2.1.up' HB1.out) (HV.out.2.2.2.up' HB1.out)).mono ?_; rintro e w2 ⟨rfl, hb2⟩; have hbn : Below W.heap.size W w2 := HB1.out.trans (hb2.mono HB1.out.size); have HB2 : Hid (Below W.heap.size W w2) := hbn; obtain ⟨j0, j1, j2⟩ := (HX.out.1.below hbn a2).b1; clear hb2 hbn))
  exact bodyPost_end (by simp [results, Try.results15]; rfl) rfl ⟨⟨_, rfl⟩, below_same HB2.out (HX.out.1.below HB2.out a2)⟩
end Go.Proofs.Ytpehkoompadpaaa

/-
  hall.Tick.
-/
namespace Go.Proofs.Ytpehkoompadpaaa
open Go.RowKit
set_option linter.unusedVariables false
set_option linter.unusedSimpArgs false

attribute [local go_sem ↓] Go.wp_at_zero Go.wp_at_succ

theorem lateF_es {now : Int} {k : Nat} : ∀ (n : Nat) (h : HD), (lateF now k n h).2.length ≤ 2 * n
  | 0, h => by simp [lateF]
  | n + 1, h => by
    unfold lateF
    split
    · simp
    · split
      · simp
      · split
        · simp
        · rename_i q hq _ i hi _ it hit
          have h1 := backF_es h k q it.id it.turn
          have h2 := lateF_es (now := now) (k := k) n (backF h k q it.id it.turn).1
          simp only [List.length_append]
          omega

/-- What holds in the loop of 'Tick'. -/
structure TI (hb B : Nat) (w0 : World) (now : Int) (M : Int) (m : Nat) (h0 : HD) (k : Nat) (h : HD) (v : Value) (L : QuL) (P T : Nat → Prop) (es : List ED) (tv : Value) (wr : World) : Prop where
  hall : HallIn P hb wr v L h.next
  map : L.map Prod.fst = h.queues
  plo : ∀ b, P b → B ≤ b
  told : OwnT T wr tv es
  tlo : ∀ b, T b → B ≤ b
  tp : ∀ b, T b → ¬ P b
  tb : ¬ T hb
  keep : Below B w0 wr
  good : h.good (M + 8 * (k : Int))
  len : h.queues.length = m
  eq1 : (tickF now (m - k) k h).1 = (tickF now m 0 h0).1
  eq2 : es ++ (tickF now (m - k) k h).2 = (tickF now m 0 h0).2
  esl : es.length ≤ 16 * k

theorem TI.step {hb B : Nat} {w0 : World} {now : Int} {M : Int} {m : Nat} {h0 : HD} {k : Nat} {h : HD} {v : Value} {L : QuL} {P T : Nat → Prop} {es : List ED} {tv : Value} {wr : World} (H : TI hb B w0 now M m h0 k h v L P T es tv wr) (hk : k < m) {L2 : QuL} {P2 T2 : Nat → Prop} {tv2 : Value} {w2 w3 : World} (hlo : B ≤ hb) (hvP : ∀ b, v.ownBlock = some b → P b)
    (e2 : L2.map Prod.fst = (lateF now k (outs h k) h).1.queues) (h2 : ∀ b, P2 b → P b ∨ Made wr.heap.size w2.heap.size b) (hw : w2.heap.size ≤ w3.heap.size) (hlw : B ≤ wr.heap.size) (hH : HallIn P2 hb w3 v L2 (lateF now k (outs h k) h).1.next) (hT : OwnT T2 w3 tv2 (es ++ (lateF now k (outs h k) h).2)) (hTs : ∀ b, T2 b → T b ∨ Made wr.heap.size w3.heap.size b) (hTP : ∀ b, T2 b → ¬ P2 b) (hTb : ¬ T2 hb) (hK : Keep (fun b => b < wr.heap.size ∧ v.ownBlock ≠ some b ∧ b ≠ hb ∧ ¬ T b) wr w3) :
    TI hb B w0 now M m h0 (k + 1) (lateF now k (outs h k) h).1 v L2 P2 T2 (es ++ (lateF now k (outs h k) h).2) tv2 w3 := by
  have e1 := H.eq1
  have e3 := H.eq2
  have hmk : m - k = (m - (k + 1)) + 1 := by omega
  rw [hmk] at e1 e3
  simp only [tickF] at e1 e3
  have hg := lateF_good (now := now) (k := k) (outs h k) H.good
  have ho := outs_le H.good k
  have hes := lateF_es (now := now) (k := k) (outs h k) h
  have hel := H.esl
  refine ⟨hH, e2, fun b hb' => ?_, hT, fun b hb' => ?_, hTP, hTb, ⟨hK.os.trans H.keep.os, hK.tape.trans H.keep.tape, hK.output.trans H.keep.output, Nat.le_trans H.keep.size hK.size, fun b hb' => (hK.block b ⟨by omega, fun e => by have := H.plo b (hvP b e); omega, by omega, fun t => by have := H.tlo b t; omega⟩).trans (H.keep.block b hb')⟩, hg.1.mono (by omega), hg.2.trans H.len, e1, by rw [List.append_assoc]; exact e3, by rw [List.length_append]; omega⟩
  · rcases h2 b hb' with h | h
    · exact H.plo b h
    · have := h.1; omega
  · rcases hTs b hb' with h | h
    · exact H.tlo b h
    · have := h.1; omega

/-- A hall and entries are answered, in new memory. -/
def AnsHE (r : HD × List ED) (w : World) (e : Ending) (w' : World) : Prop :=
  ∃ va vc ea ec, e = .returned (.tuple #[.agg #[.slice va r.1.queues.length vc, .int .i64 r.1.next], .slice ea r.2.length ec]) ∧ SliceQ (Made w.heap.size w'.heap.size) w' (.slice va r.1.queues.length vc) r.1.queues ∧ SliceE (Made w.heap.size w'.heap.size) w' (.slice ea r.2.length ec) r.2

set_option maxRecDepth 100000 in
set_option maxHeartbeats 3200000 in
theorem hallTick_any (v : Value) (h : HD) (now : Int) (M : Int) (hM : M ≤ 10000000) (hg : h.good M) (w : World) (hv : SliceQ (Under w.heap.size) w v h.queues) :
    Calls Try.prog 29 #[.agg #[v, .int .i64 h.next], .int .i64 now] w fun e w' => AnsHE (tickF now h.queues.length 0 h) w e w' ∧ Below w.heap.size w w' := by
  obtain ⟨i0, hi0, hz0, hz1, hz2⟩ := info_parts info92
  have HV : Hid (SliceQ (Under w.heap.size) w v h.queues) := hv
  have HG : Hid (h.good M) := hg
  have hlen := hg.1
  obtain ⟨va, vc, rfl⟩ := hv.shp
  clear hv hg
  have two : Hid (∀ o1 o2 : Obj, Below w.heap.size w ((w.alloc o1).alloc o2)) := fun o1 o2 => (below_alloc _ _).alloc (by simp) _
  go_enter Try.func29, Try.ntmps29
  go_wp2_with (first
    | (go_at_call 9; refine (hallOwn_any _ h _ (HV.out.sub fun k hk => ⟨?_, (two.out _ _).block k hk⟩) HG.out.small).mono ?_; (simp [Under] at hk ⊢; omega); rintro e w1 ⟨vi, rfl, ho1, hb1⟩; obtain ⟨L, hL, hH1⟩ := ho1.box; obtain ⟨xa, xc, rfl, -⟩ := own_shape hH1.row; have hk1 := (Blk.new (w.alloc _) _ 24).below hb1 (by simp); simp only [World.size_alloc] at hk1 hH1; have hz1' : w.heap.size + 2 ≤ w1.heap.size := (by have := hb1.size; simpa using this); have HB1 : Hid (Below w.heap.size w w1) := (two.out _ _).trans (hb1.mono (by simp; omega)); have HR1 : Hid (Blk w1 (w.heap.size + 1) [.slice none 0 0, .int .i64 0]) := hk1; have HH : Hid (L.map Prod.fst = h.queues ∧ HallIn (Made (w.heap.size + 1 + 1) w1.heap.size) w1.heap.size (w1.alloc (.cells #[.slice xa L.length xc, .int .i64 h.next] 24)) (.slice xa L.length xc) L h.next) := ⟨hL, hH1⟩; have hll : L.length = h.queues.length := (by have := congrArg List.length hL; simpa using this); have HLL : Hid (L.length = h.queues.length) := hll; have hlL : L.length ≤ 4 := (by omega); clear hL hH1 hb1 hk1 ho1 hll))
  obtain ⟨W1, hW1⟩ : ∃ W1, W1 = w1.alloc (.cells #[.slice xa L.length xc, .int .i64 h.next] 24) := ⟨_, rfl⟩
  rw [← hW1] at HH
  rw [← hW1]
  have hzW : W1.heap.size = w1.heap.size + 1 := by rw [hW1]; simp
  have HBW : Hid (Below w.heap.size w W1 ∧ Blk W1 (w.heap.size + 1) [.slice none 0 0, .int .i64 0]) := by rw [hW1]; exact ⟨HB1.out.alloc (by omega) _, HR1.out.alloc _⟩
  clear hW1
  obtain ⟨m, hm⟩ : ∃ m, m = L.length := ⟨_, rfl⟩
  have H0 : TI w1.heap.size (w.heap.size + 2) W1 now M m h 0 h (.slice xa L.length xc) L (Made (w.heap.size + 1 + 1) w1.heap.size) (fun _ => False) [] (.slice none 0 0) W1 :=
    ⟨HH.out.2, HH.out.1, fun b hb => by have := hb.1; omega, OwnT.nil _, fun _ h => h.elim, fun _ h => h.elim, fun h => h, Below.refl _ _, by simpa using HG.out, by rw [hm]; exact HLL.out.symm, rfl, rfl, by simp⟩
  have HL0 : Hid _ := H0
  have HM : Hid (m = L.length ∧ m = h.queues.length) := ⟨hm, hm.trans HLL.out⟩
  rw [← hm] at HL0
  rw [← hm]
  have hmL : m ≤ 4 := by omega
  clear H0 hm hlL
  rw [← HM.out.2]
  go_loopw [7, 14] (fun tv i wr => ∃ k : Nat, k ≤ m ∧ i = .int .i64 k ∧ ∃ h' L' P' T es, TI w1.heap.size (w.heap.size + 2) W1 now M m h k h' (.slice xa m xc) L' P' T es tv wr) (fun _ i _ => m - (intOf i).toNat)
  case atStart => exact ⟨0, Nat.zero_le _, rfl, _, _, _, _, _, HL0.out⟩
  case round =>
    obtain ⟨k, hk, rfl, h', L', P', T, es, hI⟩ := hrel
    have hlen' : L'.length = m := by have h1 := congrArg List.length hI.map; have h2 := hI.len; simp at h1; omega
    have HI : Hid (TI w1.heap.size (w.heap.size + 2) W1 now M m h k h' (.slice xa m xc) L' P' T es u7 wr) := hI
    obtain ⟨LG, hLG, hTL⟩ := hI.told
    obtain ⟨ta, tc, htv, -⟩ := own_shape hTL.row
    subst htv
    have HTL : Hid (LG.map Prod.fst = es ∧ OwnTL T wr (.slice ta LG.length tc) LG) := ⟨hLG, hTL⟩
    obtain ⟨b0, b1, b2, b3⟩ := hI.hall.box.b2
    by_cases hlt : k < m
    · have HLG : Hid (LG.length ≤ 64) := by
        have h1 := congrArg List.length hLG
        have h2 := hI.esl
        simp at h1
        show LG.length ≤ 64
        omega
      obtain ⟨g, cap, e⟩ := hI.hall.row' (k := k) (by omega)
      simp only [Value.slice.injEq] at e
      obtain ⟨rfl, -, rfl⟩ := e
      have hgP := hI.hall.gl.2.2.2
      have hgd := hI.good
      have hkz := hI.keep.size
      have HLE' : Hid (L'.length = m) := hlen'
      have hkq : k < h'.queues.length := by have := hI.len; omega
      clear hI hLG hTL hlen'
      go_wp2_with (first
        | (go_at_call 77; refine (lateIn_any (h := h') (L := L') (g := g) (cap := xc) (P := P') (by have := HI.out.hall; rw [HLE'.out]; exact this) HI.out.map k hkq (M + 8 * (k : Int)) (by omega) HI.out.good now).mono ?_; rw [HLE'.out]; rintro r w2 ⟨ev, rfl, hA⟩; obtain ⟨L2, P2, e2, h12, h2', hH2, hES, hK2⟩ := hA; obtain ⟨LE, hLE, hEL⟩ := hES; obtain ⟨ea, ec, rfl, -⟩ := hEL.1.shape; have hle : LE.length ≤ 16 := (by have h1 := lateF_es (now := now) (k := k) (outs h' k) h'; have h3 := outs_le HI.out.good k; rw [← hLE] at h1; simp at h1; omega); have HA : Hid _ := And.intro e2 (And.intro h12 (And.intro h2' (And.intro hH2 (And.intro hLE (And.intro hEL hK2))))); have HR3 : Hid (w2.ownsRow 0 54 6 (.slice ta LG.length tc) LG.length (cellsE LG)) := own_same HTL.out.2.row (fun b e => hK2.block b (by have h1 := HTL.out.2.rowT b e; have h2 := HTL.out.2.lt b h1; refine ⟨h2, fun e' => ?_, fun e' => HI.out.tb (e' ▸ h1)⟩; simp [Value.ownBlock] at e'; exact HI.out.tp b h1 (e' ▸ hgP))); clear e2 h12 h2' hH2 hLE hK2)
        | (at_builtin; refine wpList_appV rfl (.tmp 17) (.tmp 20) 35 rfl 54 i0 _ 6 88 Try.underlying35 hi0 hz0 hz1 hz2 rfl (by omega) 0 (.slice ta LG.length tc) LG.length (cellsE LG) rfl HR3.out _ (.slice ea LE.length ec) LE.length (cellsE LE) rfl hEL.1 (cellsE_len LE) (cellsE_one LE hEL.2) (by have := HLG.out; unfold maxLen; omega) (by have := HLG.out; omega) (by omega) ?_; intro ao acap w3 ho3 hg3 hm3))
      obtain ⟨a1, a2, a3, a4, a5, a6, a7⟩ := HA.out
      obtain ⟨hH3, T2, hT2, hT2s, hT2P, hT2b, hK3⟩ := told_more (P1 := P') HTL.out.2 HI.out.tp HI.out.tb (fun b e => by simp [Value.ownBlock] at e; exact e ▸ hgP) a2 a3 a4 a6 a7 HI.out.hall.box.lt ho3 hg3 hm3
      have hNEW := HI.out.step hlt (by omega) (fun b e => by simp [Value.ownBlock] at e; exact e ▸ hgP) a1 a3 hg3.size (by omega) hH3 ⟨LG ++ LE, by rw [List.map_append, HTL.out.1, a5], hT2⟩ hT2s hT2P hT2b hK3
      clear a1 a2 a3 a4 a5 a6 a7 hT2 hT2s hT2P hT2b hK3 hH3 ho3 hg3 hm3 HA hEL
      have HNEW : Hid _ := hNEW
      clear hNEW
      go_wp2_with fail
      go_roundw
      case rel => exact ⟨k + 1, by omega, by go_num, _, _, _, _, _, HNEW.out⟩
      case measure => simp [intOf]; omega
    · obtain rfl : k = m := by omega
      obtain ⟨r0, r1, r2, r3⟩ := (HBW.out.2.below hI.keep (by omega)).b2
      have e1 := hI.eq1
      have e2 := hI.eq2
      rw [Nat.sub_self] at e1 e2
      simp only [tickF, List.append_nil] at e1 e2
      have hql : (tickF now k 0 h).1.queues.length = k := by rw [← e1]; exact hI.len
      have hel : (tickF now k 0 h).2.length = LG.length := by rw [← e2, ← hLG]; simp
      have hnx : (tickF now k 0 h).1.next = h'.next := by rw [← e1]
      have HQ : Hid (SliceQ P' wr (.slice xa k xc) (tickF now k 0 h).1.queues ∧ SliceE T wr (.slice ta LG.length tc) (tickF now k 0 h).2) := by
        refine ⟨?_, ?_⟩
        · have := hI.hall.slice
          rw [hI.map] at this
          rw [← e1]; exact this
        · rw [← e2]; exact hI.told.slice
      have HE : Hid ((tickF now k 0 h).1.queues.length = k ∧ (tickF now k 0 h).2.length = LG.length ∧ (tickF now k 0 h).1.next = h'.next) := ⟨hql, hel, hnx⟩
      have hkz := hI.keep.size
      clear hI e1 e2 hql hel hnx hLG hTL
      go_wp2_with fail
      have hfar : ∀ b, b ≠ w.heap.size + 1 → ((wr.setCell ⟨w.heap.size + 1, 0, none⟩ (.slice xa k xc)).setCell ⟨w.heap.size + 1, 1, none⟩ (.int .i64 h'.next)).heap[b]? = wr.heap[b]? := fun b hb => by
        rw [Below.heap_setCell _ _ _ _ hb, Below.heap_setCell _ _ _ _ hb]
      have hsz : ((wr.setCell ⟨w.heap.size + 1, 0, none⟩ (.slice xa k xc)).setCell ⟨w.heap.size + 1, 1, none⟩ (.int .i64 h'.next)).heap.size = wr.heap.size := by simp
      have hBW := HBW.out.1
      have hkp := HI.out.keep
      refine bodyPost_ret (v := .tuple #[.agg #[.slice xa k xc, .int .i64 h'.next], .slice ta LG.length tc]) (by simp [results, Try.results29, go_sem, *]; done) rfl ⟨⟨xa, xc, ta, tc, by rw [← HM.out.2, HE.out.1, HE.out.2.1, HE.out.2.2], ?_, ?_⟩, ?_⟩
      · rw [← HM.out.2, HE.out.1]
        exact HQ.out.1.sub fun b hb => ⟨⟨by have := HI.out.plo b hb; omega, by rw [hsz]; exact HI.out.hall.lt b hb⟩, hfar b (by have := HI.out.plo b hb; omega)⟩
      · rw [← HM.out.2, HE.out.2.1]
        exact HQ.out.2.sub fun b hb => ⟨⟨by have := HI.out.tlo b hb; omega, by rw [hsz]; exact HTL.out.2.lt b hb⟩, hfar b (by have := HI.out.tlo b hb; omega)⟩
      · exact ⟨hkp.os.trans hBW.os, hkp.tape.trans hBW.tape, hkp.output.trans hBW.output, by rw [hsz]; have := hBW.size; omega, fun b hb => (hfar b (by omega)).trans ((hkp.block b (by omega)).trans (hBW.block b hb))⟩
end Go.Proofs.Ytpehkoompadpaaa
