/-
  tglaw3.QueueTells answers true: its head (what is no right note or queue is passed by; Put; Own), then all its statements.
-/
import Derived.Test.YtefankjmlbkldaaTail
namespace Go.Proofs.Ytefankjmlbkldaa
open Go.RowKit
set_option linter.unusedVariables false
set_option linter.unusedSimpArgs false
attribute [local go_sem ↓] Go.wp_at_zero Go.wp_at_succ

set_option maxRecDepth 100000 in
set_option maxHeartbeats 3200000 in
theorem tells_in (v pv bv : Value) (name : ByteArray) (limit id turn now : Int) (its : List IT) (n : ND) (w : World) (hv : SliceI (Under w.heap.size) w v its) (hn : NoteIs (Under w.heap.size) w (pv, bv) n) (hname : name.size ≤ maxLen) (hfit : ∀ i ∈ its, i.note.fits) (hnf : n.fits) (h0 : ¬ now < 0) (h1 : ¬ 1000000 < now) :
    Calls Try.prog 8 #[.agg #[.string name, .int .i64 limit, v], .int .i64 id, .int .i64 turn, .int .i64 now, .agg #[pv, bv]] w fun e w' => e = .returned (.bool true) ∧ Below w.heap.size w w' := by
  obtain ⟨va, vc, rfl⟩ := hv.shp
  obtain ⟨pa, pc, e1, -⟩ := SliceV.shape hn.1
  obtain ⟨qa, qc, e2, -⟩ := SliceV.shape hn.2
  simp only at e1 e2
  subst e1 e2
  have HF : Hid ((∀ i ∈ its, i.note.fits) ∧ n.fits ∧ name.size ≤ maxLen) := ⟨hfit, hnf, hname⟩
  have HV : Hid (∀ W, Below w.heap.size w W → SliceI (Under W.heap.size) W (.slice va its.length vc) its ∧ NoteIs (Under W.heap.size) W (.slice pa n.props.length pc, .slice qa n.body.length qc) n) := fun W hW =>
    ⟨hv.sub fun k hk => ⟨Nat.lt_of_lt_of_le hk hW.size, hW.block k hk⟩, hn.sub fun k hk => ⟨Nat.lt_of_lt_of_le hk hW.size, hW.block k hk⟩⟩
  have HV0 : Hid (SliceI (Under w.heap.size) w (.slice va its.length vc) its) := hv
  clear hv hn hfit hnf hname
  obtain ⟨X, hX⟩ : ∃ X, X = (w.alloc (.cells #[.string name, .int .i64 limit, .slice va its.length vc] 54)).alloc (.cells #[.slice pa n.props.length pc, .slice qa n.body.length qc] 25) := ⟨_, rfl⟩
  have HX : Hid (X.heap.size = w.heap.size + 2 ∧ Below w.heap.size w X ∧ Blk X w.heap.size [.string name, .int .i64 limit, .slice va its.length vc] ∧ Blk X (w.heap.size + 1) [.slice pa n.props.length pc, .slice qa n.body.length qc]) := by
    subst hX
    refine ⟨by simp, (below_alloc _ _).alloc (by simp) _, (Blk.new _ _ _).alloc _, ?_⟩
    have := Blk.new (w.alloc (.cells #[.string name, .int .i64 limit, .slice va its.length vc] 54)) [.slice pa n.props.length pc, .slice qa n.body.length qc] 25
    simpa using this
  have hxz := HX.out.1
  go_enter Try.func8, Try.ntmps8
  go_wp2_with (first
    | (go_at_call 10; rw [← hX]; refine (refWrong_any _ _ n _ (HV.out _ HX.out.2.1).2 HF.out.2.1).mono ?_; rintro e w1 ⟨en, rfl, hP1, hb1⟩; have HP1 : Hid (en = 0 → n.small) := hP1; have hz1 := hb1.size; have HB1 : Hid (Below w.heap.size w w1) := HX.out.2.1.trans (hb1.mono (by omega)); have HK1 : Hid (Blk w1 w.heap.size [.string name, .int .i64 limit, .slice va its.length vc] ∧ Blk w1 (w.heap.size + 1) [.slice pa n.props.length pc, .slice qa n.body.length qc]) := ⟨HX.out.2.2.1.below hb1 (by omega), HX.out.2.2.2.below hb1 (by omega)⟩; obtain ⟨a0, a1, a2, a3, a4⟩ := HK1.out.1.b3; clear hX hP1 hb1; by_cases hen : en = 0)
    | (go_at_call 35; refine (right_any w1.heap.size name limit _ its _ (Blk.new w1 _ 54) ((HV.out _ HB1.out).1.up (below_alloc _ _)) HF.out.2.2 HF.out.1).mono ?_; rintro e w2 ⟨rb, rfl, hP2, hb2⟩; have HP2 : Hid (rb = true → RightI its) := hP2; have HB12 : Hid (Below w1.heap.size w1 w2) := (below_alloc _ _).trans (hb2.mono (by simp)); have HB2 : Hid (Below w.heap.size w w2) := HB1.out.trans (HB12.out.mono HB1.out.size); have HK2 : Hid (Blk w2 w.heap.size [.string name, .int .i64 limit, .slice va its.length vc] ∧ Blk w2 (w.heap.size + 1) [.slice pa n.props.length pc, .slice qa n.body.length qc]) := ⟨HK1.out.1.below HB12.out HK1.out.1.lt, HK1.out.2.below HB12.out HK1.out.2.lt⟩; obtain ⟨b0, b1, b2, b3, b4⟩ := HK2.out.1.b3; obtain ⟨c0, c1, c2, c3⟩ := HK2.out.2.b2; clear hP2 hb2 a0 a1 a2 a3; cases rb)
    | fail)
  all_goals (try (go_ret; exact ⟨rfl, HB2.out⟩))
  all_goals (try (go_wp2_with fail; go_ret; exact ⟨rfl, HB1.out⟩))
  have hsm : n.small := HP1.out hen
  have hR : RightI its := HP2.out (by simp)
  have HR : Hid (RightI its ∧ n.small) := ⟨hR, hsm⟩
  obtain ⟨qn, ql, ia, ea, la, PP⟩ := pair_put its hR n hsm name limit id
  have HPP : Hid _ := PP
  clear PP hsm hR HP1 HP2
  have hz2 := HB2.out.size
  go_upto_region 5 with (first
    | (go_at_call 36; refine (HPP.out _ _ _ _ (HV.out _ HB2.out).1 (HV.out _ HB2.out).2).1.mono ?_; rintro e w3 ⟨xa, xc, rfl, hs3, hb3⟩; have HS3 : Hid (SliceI (Under w3.heap.size) w3 (.slice xa ia.length xc) ia) := hs3; have HB3 : Hid (Below w2.heap.size w2 w3) := hb3; have HK3 : Hid (Blk w3 w.heap.size [.string name, .int .i64 limit, .slice va its.length vc] ∧ Blk w3 (w.heap.size + 1) [.slice pa n.props.length pc, .slice qa n.body.length qc]) := ⟨HK2.out.1.below hb3 HK2.out.1.lt, HK2.out.2.below hb3 HK2.out.2.lt⟩; clear hs3 hb3 b0 b1 b2 b3 c0 c1 c2; obtain ⟨d0, d1, d2, d3, d4⟩ := HK3.out.1.b3; obtain ⟨f0, f1, f2, f3⟩ := HK3.out.2.b2)
    | (go_at_call 37; have HB4' : Hid (∀ o, Below w.heap.size w (w3.alloc o)) := (fun o => (HB2.out.trans (HB3.out.mono hz2)).trans ((below_alloc _ _).mono (Nat.le_trans hz2 HB3.out.size))); refine (HPP.out _ _ _ _ (HV.out _ (HB4'.out _)).1 (HV.out _ (HB4'.out _)).2).2.mono ?_; rintro e w4 ⟨ya, yc, rfl, hs4, hb4⟩; have HS4 : Hid (SliceI (Under w4.heap.size) w4 (.slice ya ia.length yc) ia ∧ SliceI (Under w4.heap.size) w4 (.slice xa ia.length xc) ia) := ⟨hs4, (HS3.out.up (below_alloc _ _)).up hb4⟩; have HB4 : Hid (Below w.heap.size w w4) := (HB4'.out _).trans (hb4.mono (HB4'.out _).size); have HB34 : Hid (Below w3.heap.size w3 w4) := (below_alloc _ _).trans (hb4.mono (by simp)); have HA4 : Hid (Blk w4 w3.heap.size [.string qn, .int .i64 ql, .slice xa ia.length xc]) := (Blk.new w3 _ 54).below hb4 (by simp); have HK4 : Hid (Blk w4 w.heap.size [.string name, .int .i64 limit, .slice va its.length vc] ∧ Blk w4 (w.heap.size + 1) [.slice pa n.props.length pc, .slice qa n.body.length qc]) := ⟨HK3.out.1.below HB34.out HK3.out.1.lt, HK3.out.2.below HB34.out HK3.out.2.lt⟩; clear hs4 hb4 d0 d1 d2 d3 f0 f1 f2)
    | fail)
  obtain ⟨Z, hZ⟩ : ∃ Z, Z = w4.alloc (.cells #[.string qn, .int .i64 ql, .slice ya ia.length yc] 54) := ⟨_, rfl⟩
  have hzz : Z.heap.size = w4.heap.size + 1 := by rw [hZ]; simp
  have HZB : Hid (Below w4.heap.size w4 Z ∧ Blk Z w4.heap.size [.string qn, .int .i64 ql, .slice ya ia.length yc]) := by rw [hZ]; exact ⟨below_alloc _ _, Blk.new _ _ _⟩
  rw [← hZ]
  clear hZ
  obtain ⟨g0, g1, g2, g3, g4⟩ := (HA4.out.below HZB.out.1 HA4.out.lt).b3
  obtain ⟨i0, i1, i2, i3, i4⟩ := HZB.out.2.b3
  obtain ⟨d0, d1, d2, d3, d4⟩ := (HK4.out.1.below HZB.out.1 HK4.out.1.lt).b3
  have HBZ : Hid (Below w.heap.size w Z) := HB4.out.trans (HZB.out.1.mono HB4.out.size)
  go_cut [69] from 22 (fun c wx => c = .bool false ∧ Gq w [.string name, .int .i64 limit, .slice va its.length vc] wx ∧ Any3 wx w3.heap.size ∧ Any3 wx w4.heap.size)
  · have tok : Hid True := trivial
    have hne : (ea != ea) = false := by simp
    have HG : Hid (Gq w [.string name, .int .i64 limit, .slice va its.length vc] Z ∧ Any3 Z w3.heap.size ∧ Any3 Z w4.heap.size) := ⟨⟨HBZ.out, HK4.out.1.below HZB.out.1 HK4.out.1.lt⟩, ⟨_, _, _, _, _, HA4.out.below HZB.out.1 HA4.out.lt⟩, ⟨_, _, _, _, _, HZB.out.2⟩⟩
    go_region_law (first
    | (go_simp; go_at_call 38; clear tok; refine (sameQueue_true _ _ qn ql ia la _ ?_ ?_).mono ?_; (exact (HS4.out.2.up HZB.out.1).sub fun k hk => ⟨hk, rfl⟩); (exact (HS4.out.1.up HZB.out.1).sub fun k hk => ⟨hk, rfl⟩); rintro e w5 ⟨rfl, hb5⟩; have hb5' : Below Z.heap.size Z w5 := ⟨hb5.os, hb5.tape, hb5.output, hb5.size, hb5.block⟩; have HZ5 : Hid (Below Z.heap.size Z w5) := hb5'; have HB5 : Hid (Below w.heap.size w w5) := HBZ.out.trans (hb5'.mono HBZ.out.size); have HK5 : Hid (Blk w5 w.heap.size [.string name, .int .i64 limit, .slice va its.length vc]) := (HK4.out.1.below HZB.out.1 HK4.out.1.lt).below hb5' d4; obtain ⟨j0, j1, j2, j3, j4⟩ := HK5.out.b3; clear hb5 hb5')
    | (go_simp; go_at_call 39; refine (own_any _ _ _ its _ (HV.out _ HB5.out).1 (rightI_small HR.out.1)).mono ?_; rintro e w6 ⟨vi, rfl, ho6, hb6⟩; have hs6 := ho6.slice; obtain ⟨oa, oc, rfl⟩ := hs6.shp; have HZ6 : Hid (Below Z.heap.size Z w6) := HZ5.out.trans (hb6.mono HZ5.out.size); have HB6 : Hid (Below w.heap.size w w6) := HB5.out.trans (hb6.mono HB5.out.size); obtain ⟨m0, m1, m2, m3, m4⟩ := (HK5.out.below hb6 j4).b3; have HO6 : Hid (OwnI w5.heap.size w6 (.slice oa its.length oc) its) := ho6; clear ho6 hs6 hb6)
    | (go_simp; go_at_call 38; refine (sameQueue_true _ _ name limit its (rightI_small HR.out.1).1 _ ?_ ?_).mono ?_; (exact HO6.out.slice.sub fun k hk => ⟨by first | exact hk | exact hk.2 | exact hk.2.1, rfl⟩); (exact (HV.out _ HB6.out).1); rintro e w7 ⟨rfl, hb7⟩; have HZ7 : Hid (Below Z.heap.size Z w7) := HZ6.out.trans (hb7.mono HZ6.out.size); clear hb7))
    all_goals (go_wp2_with fail; go_meet; exact ⟨rfl, HG.out.1.up HZ7.out, HG.out.2.1.up HZ7.out, HG.out.2.2.up HZ7.out⟩)
  obtain ⟨rfl, HQ0⟩ := hcut
  have hAB : w.heap.size < w3.heap.size ∧ w3.heap.size < w4.heap.size := ⟨HK3.out.1.lt, HA4.out.lt⟩
  generalize w3.heap.size = A at *
  generalize w4.heap.size = B at *
  have HQ : Hid _ := HQ0
  have HW : Hid (∀ W, Below w.heap.size w W → SliceI (Under W.heap.size) W (.slice va its.length vc) its) := fun W hW => (HV.out W hW).1
  clear HQ0 HBZ HZB hzz HK4 HA4 HB34 HB4 HS4 HB4' HK3 HB3 HS3 hz2 HPP la c3 b4 HK2 HB2 HB12 a4 HK1 HB1 hz1 hxz HX g0 g1 g2 g3 g4 i0 i1 i2 i3 i4 d0 d1 d2 d3 d4 f3 hen
  obtain ⟨qT, lT, iT, tT, eT, laT, PT⟩ := pair_take its HR.out.1 name limit now ⟨by omega, by omega⟩
  have HPT : Hid _ := PT
  clear PT
  go_upto_region 7 with fail
  rename_i K7 hK7
  refine st7 laT HPT hAB HW HQ ?_ _ rfl
  intro e i u22 u23 u24 u25 u26 u27 u28 u29 u30 u31 u32 u33 u34 u35 u36 u37 u38 u39 u40 u41 u42 u43 u44 u45 u46 u47 u48 u49 u50 u51 u52 u53 u54 u55 u56 u57 u58 u59 u60 u61 u62 u63 u64 u65 u66 u67 u68 u69 u70 u71 u72 u73 u74 u75 u76 u77 u78 u79 u80 u81 u82 u83 u84 u85 u86 u87 u88 u89 u90 u91 u92 u93 u94 u95 u96 u97 u98 u99 u100 u101 u102 u103 u104 u105 u106 u107 u108 u109 u110 u111 u112 u113 u114 u115 u116 u117 u118 u119 u120 u121 u122 u123 u124 u125 u126 u127 u128 u129 u130 u131 u132 u133 u134 u135 u136 u137 u138 u139 u140 u141 u142 u143 u144 u145 u146 u147 u148 u149 u150 u151 u152 u153 u154 u155 u156 u157 u158 u159 u160 u161 u162 u163 u164 u165 u166 u167 u168 u169 u170 u171 u172 u173 u174 u175 u176 u177 u178 u179 u180 u181 u182 u183 u184 u185 u186 u187 u188 u189 u190 u191 u192 u193 u194 u195 u196 u197 u198 u199 u200 u201 u202 u203 u204 u205 u206 u207 u208 u209 u210 u211 u212 u213 u214 u215 u216 wx hc7
  obtain ⟨rfl, C, rfl, hBC, HQ7⟩ := hc7
  refine hK7 _ _ ?_
  exact tail8 laT HPT ⟨by omega, by omega⟩ HR.out.1 HV0.out hAB hBC HW HQ7 _ rfl

theorem tells_any (v pv bv : Value) (name : ByteArray) (limit id turn now : Int) (its : List IT) (n : ND) (w : World) (hv : SliceI (Under w.heap.size) w v its) (hn : NoteIs (Under w.heap.size) w (pv, bv) n) (hname : name.size ≤ maxLen) (hfit : ∀ i ∈ its, i.note.fits) (hnf : n.fits) :
    Calls Try.prog 8 #[.agg #[.string name, .int .i64 limit, v], .int .i64 id, .int .i64 turn, .int .i64 now, .agg #[pv, bv]] w fun e w' => e = .returned (.bool true) ∧ Below w.heap.size w w' := by
  by_cases h0 : now < 0
  · exact tells_out v pv bv name limit id turn now its n w hv hn (.inl h0)
  · by_cases h1 : 1000000 < now
    · exact tells_out v pv bv name limit id turn now its n w hv hn (.inr h1)
    · exact tells_in v pv bv name limit id turn now its n w hv hn hname hfit hnf h0 h1
end Go.Proofs.Ytefankjmlbkldaa
