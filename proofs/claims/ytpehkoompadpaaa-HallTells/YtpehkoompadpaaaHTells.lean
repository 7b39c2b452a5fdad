/-
  tglaw4.HallTells: the walk.
-/
import Derived.Test.YtpehkoompadpaaaHTellsProofM48
import Derived.Test.YtpehkoompadpaaaHTellsProofM49
import Derived.Test.YtpehkoompadpaaaHTellsProofM50
import Derived.Deep.DeepCutAuto
namespace Go.Proofs.Ytpehkoompadpaaa
open Go.RowKit
set_option linter.unusedVariables false
set_option linter.unusedSimpArgs false

attribute [local go_sem ↓] Go.wp_at_zero Go.wp_at_succ

set_option maxRecDepth 100000 in
set_option maxHeartbeats 6400000 in
theorem hallTells_any (v : Value) (h : HD) (name : ByteArray) (nn : Int) (pv bv : Value) (n : ND) (tn : Int) (tq : ByteArray) (id turn now : Int) (w : World) (hv : SliceQ (Under w.heap.size) w v h.queues) (hname : ∀ q ∈ h.queues, q.name.size ≤ maxLen) (hfit : ∀ q ∈ h.queues, ∀ i ∈ q.items, i.note.fitN) (hn : NoteIs (Under w.heap.size) w (pv, bv) n) (hf : n.fitN) (hnm : name.size ≤ maxLen) :
    Calls Try.prog 3 #[.agg #[v, .int .i64 h.next], .string name, .int .i64 nn, .agg #[pv, bv], .agg #[.int .i64 tn, .string tq, .int .i64 id, .int .i64 turn], .int .i64 now] w fun e w' => e = .returned (.bool true) ∧ Below w.heap.size w w' := by
  have HX : Hid ((∀ q ∈ h.queues, q.name.size ≤ maxLen) ∧ (∀ q ∈ h.queues, ∀ i ∈ q.items, i.note.fitN) ∧ n.fitN ∧ name.size ≤ maxLen) := ⟨hname, hfit, hf, hnm⟩
  obtain ⟨va, vc, rfl⟩ := hv.shp
  obtain ⟨pa, pc, rfl, -⟩ := SliceV.shape hn.1
  obtain ⟨ba, bc, rfl, -⟩ := SliceV.shape hn.2
  obtain ⟨X, hX⟩ : ∃ X, X = (((w.alloc (.cells #[.slice va h.queues.length vc, .int .i64 h.next] 24)).alloc (.cells #[.slice pa n.props.length pc, .slice ba n.body.length bc] 28)).alloc (.cells #[.int .i64 tn, .string tq, .int .i64 id, .int .i64 turn] 30)) := ⟨_, rfl⟩
  have K0 : Hid (EK w.heap.size (.slice va h.queues.length vc) h (.slice pa n.props.length pc) (.slice ba n.body.length bc) n tn tq id turn X) := by rw [hX]; exact EK.new w _ h _ _ n tn tq id turn hv hn
  have B0 : Hid (Below w.heap.size w X) := by rw [hX]; exact ((below_alloc _ _).alloc (by simp) _).alloc (by simp; omega) _
  clear hv hname hfit hn hf hnm
  obtain ⟨a0, a1, a2, a3⟩ := K0.out.k0.b2
  go_enter Try.func3, Try.ntmps3
  go_upto_region 1 with fail
  rw [← hX]
  clear hX
  by_cases n1 : now < 0
  · go_wp2_with (go_at_call 7; refine (rightH_any _ h _ K0.out.q HX.out.1 HX.out.2.1).mono ?_; rintro e w1 ⟨kb, rfl, -, hb1⟩; cases kb)
    all_goals
      go_ret
      exact ⟨rfl, B0.out.trans (hb1.mono B0.out.size)⟩
  by_cases n2 : 1000000 < now
  · go_wp2_with (go_at_call 7; refine (rightH_any _ h _ K0.out.q HX.out.1 HX.out.2.1).mono ?_; rintro e w1 ⟨kb, rfl, -, hb1⟩; cases kb)
    all_goals
      go_ret
      exact ⟨rfl, B0.out.trans (hb1.mono B0.out.size)⟩
  go_upto_region 3 with (go_at_call 7; refine (rightH_any _ h _ K0.out.q HX.out.1 HX.out.2.1).mono ?_; rintro e w1 ⟨kb, rfl, hs1, hb1⟩; cases kb)
  · go_ret
    exact ⟨rfl, B0.out.trans (hb1.mono B0.out.size)⟩
  have HS : Hid h.sound := hs1 (by first | trivial | rfl)
  have K : Hid (EK w.heap.size (.slice va h.queues.length vc) h (.slice pa n.props.length pc) (.slice ba n.body.length bc) n tn tq id turn w1) := K0.out.on hb1
  have B : Hid (Below w.heap.size w w1) := B0.out.trans (hb1.mono B0.out.size)
  clear hb1 hs1 K0 B0 a0 a1 a2 a3
  obtain ⟨a0, a1, a2, a3⟩ := K.out.k0.b2
  have ny : Hid True := trivial
  have HSP : Hid (smallQ (h.queues.map plainQ)) := plain_small HS.out.good.small
  go_cut [57] (fun v wx => v = .bool false ∧ Below w1.heap.size w1 wx)
  case first =>
    go_region_held3 (fun w' => w'.cell? ⟨w.heap.size, 0, none⟩ = some (.slice va h.queues.length vc) ∧ w'.cell? ⟨w.heap.size, 1, none⟩ = some (.int .i64 h.next)) (go_keep) (first
      | (go_at_call 9; refine (hallOwn_any _ h _ ?_ HS.out.good.small).mono ?_; (exact K.out.q.sub fun b hb => ⟨hb, rfl⟩); rintro e w2 ⟨vi, rfl, ho2, hb2⟩; obtain ⟨L2, hL2, hr2, hn2⟩ := ho2; obtain ⟨xa, xc, rfl, -⟩ := own_shape hr2; have hl2 : L2.length = h.queues.length := (by rw [← hL2]; simp); rw [hl2]; have hbn : Below w1.heap.size w1 w2 := ⟨hb2.os, hb2.tape, hb2.output, hb2.size, hb2.block⟩; have H2 : Hid (Below w1.heap.size w1 w2 ∧ SliceQ (Under w2.heap.size) w2 (.slice xa h.queues.length xc) h.queues) := ⟨hbn, by rw [← hl2]; exact ⟨L2, hL2, (own_slice hr2).sub fun b hb => ⟨(hr2.lt b hb).2, rfl⟩, fun x hx => (hn2 x hx).sub fun b hb => ⟨hb.2.1, rfl⟩⟩⟩; have c0 := bel_c hbn a3 a0; have c1 := bel_c hbn a3 a1; clear hb2 hL2 hr2 hn2 hbn hl2)
      | (clear ny; go_at_call 8; refine (sameHall_true _ _ h HS.out.good.small _ ?_ ?_).mono ?_; (exact H2.out.2.sub fun b hb => ⟨hb, rfl⟩); (exact (K.out.q.up' H2.out.1).sub fun b hb => ⟨hb, rfl⟩); rintro e w3 ⟨rfl, hb3⟩; have hbn : Below w1.heap.size w1 w3 := H2.out.1.trans (Below.mono ⟨hb3.os, hb3.tape, hb3.output, hb3.size, hb3.block⟩ H2.out.1.size); have H3 : Hid (Below w1.heap.size w1 w3) := hbn; have d0 := bel_c hbn a3 a0; have d1 := bel_c hbn a3 a1; clear hb3 hbn)
      | (go_at_call 10; refine (find_hall name _ h.next h.queues _ ?_).mono ?_; (exact (K.out.q.up' H3.out).sub fun b hb => ⟨hb, rfl⟩); rintro e w4 ⟨rfl, hb4⟩; have hbn : Below w1.heap.size w1 w4 := H3.out.trans (Below.mono ⟨hb4.os, hb4.tape, hb4.output, hb4.size, hb4.block⟩ H3.out.size); have H4 : Hid (Below w1.heap.size w1 w4) := hbn; have e0 := bel_c hbn a3 a0; have e1 := bel_c hbn a3 a1; clear hb4 hbn)
      | (go_at_call 11; refine (refFind_any name _ h.next h.queues _ ?_).mono ?_; (exact (K.out.q.up' H4.out).sub fun b hb => ⟨hb, rfl⟩); rintro e w5 ⟨rfl, hb5⟩; have hbn : Below w1.heap.size w1 w5 := H4.out.trans (Below.mono ⟨hb5.os, hb5.tape, hb5.output, hb5.size, hb5.block⟩ H4.out.size); have H5 : Hid (Below w1.heap.size w1 w5) := hbn; have f0 := bel_c hbn a3 a0; have f1 := bel_c hbn a3 a1; clear hb5 hbn)
      | (go_at_call 12; refine (hallPlain_any _ h _ ?_ HS.out.good.small).mono ?_; (exact (K.out.q.up' H5.out).sub fun b hb => ⟨hb, rfl⟩); rintro e w6 ⟨vi, rfl, ho6, hb6⟩; obtain ⟨L6, hL6, hr6, hn6⟩ := ho6; obtain ⟨ya, yc, rfl, -⟩ := own_shape hr6; have hl6 : L6.length = h.queues.length := (by have := congrArg List.length hL6; simpa using this); rw [hl6]; have hbn : Below w1.heap.size w1 w6 := H5.out.trans (Below.mono ⟨hb6.os, hb6.tape, hb6.output, hb6.size, hb6.block⟩ H5.out.size); have H6 : Hid (Below w1.heap.size w1 w6 ∧ SliceQ (Under w6.heap.size) w6 (.slice ya h.queues.length yc) (h.queues.map plainQ)) := ⟨hbn, by rw [← hl6]; exact ⟨L6, hL6, (own_slice hr6).sub fun b hb => ⟨(hr6.lt b hb).2, rfl⟩, fun x hx => (hn6 x hx).sub fun b hb => ⟨hb.2.1, rfl⟩⟩⟩; have g0 := bel_c hbn a3 a0; have g1 := bel_c hbn a3 a1; clear hb6 hL6 hr6 hn6 hbn hl6)
      | (go_at_call 13; refine (refPlain_any (Under w6.heap.size) _ h _ ?_ ?_ HS.out.good.small).mono ?_; (exact fun b hb => hb); (exact (K.out.q.up' H6.out.1).sub fun b hb => ⟨hb, rfl⟩); rintro e w7 ⟨v7, rfl, hv7, hb7⟩; obtain ⟨za, zc, e7⟩ := hv7.shp; have e7' : v7 = .slice za h.queues.length zc := (by rw [e7, List.length_map]); subst e7'; have hb7' : Below w6.heap.size w6 w7 := ⟨hb7.os, hb7.tape, hb7.output, hb7.size, hb7.block⟩; have hbn : Below w1.heap.size w1 w7 := H6.out.1.trans (hb7'.mono H6.out.1.size); have H7 : Hid (Below w1.heap.size w1 w7 ∧ SliceQ (Under w7.heap.size) w7 (.slice ya h.queues.length yc) (h.queues.map plainQ) ∧ SliceQ (Under w7.heap.size) w7 (.slice za h.queues.length zc) (h.queues.map plainQ)) := ⟨hbn, H6.out.2.up' hb7', hv7.sub fun b hb => ⟨by rcases hb with h | h; exact Nat.lt_of_lt_of_le h hb7'.size; exact h.2, rfl⟩⟩; have i0 := bel_c hbn a3 a0; have i1 := bel_c hbn a3 a1; clear hb7 hb7' hv7 hbn e7)
      | (go_at_call 8; refine (sameHall_true _ _ ⟨h.queues.map plainQ, h.next⟩ HSP.out _ ?_ ?_).mono ?_; (exact H7.out.2.1.sub fun b hb => ⟨hb, rfl⟩); (exact H7.out.2.2.sub fun b hb => ⟨hb, rfl⟩); rintro e w8 ⟨rfl, hb8⟩; have hbn : Below w1.heap.size w1 w8 := H7.out.1.trans (Below.mono ⟨hb8.os, hb8.tape, hb8.output, hb8.size, hb8.block⟩ H7.out.1.size); have H8 : Hid (Below w1.heap.size w1 w8) := hbn; have j0 := bel_c hbn a3 a0; have j1 := bel_c hbn a3 a1; clear hb8 hbn))
    all_goals
      go_wp2_with fail
      go_meet
      exact ⟨rfl, H8.out⟩
  case rest =>
    obtain ⟨rfl, hcut⟩ := hcut
    clear a0 a1 a2 a3 ny HSP
    go_upto_region 6 with fail
    obtain ⟨Y, hY⟩ : ∃ Y, Y = wc.alloc (.cells #[.bool true] 4) := ⟨_, rfl⟩
    obtain ⟨okb, hokb⟩ : ∃ okb, okb = wc.heap.size := ⟨_, rfl⟩
    have KY : Hid (∀ W, Below Y.heap.size Y W → EK w.heap.size (.slice va h.queues.length vc) h (.slice pa n.props.length pc) (.slice ba n.body.length bc) n tn tq id turn W ∧ Blk W okb [.bool true]) := by
      intro W hW
      have hb : Below w1.heap.size w1 Y := by rw [hY]; exact hcut.alloc hcut.size _
      have hk : Blk Y okb [.bool true] := by rw [hY, hokb]; exact Blk.new _ _ _
      exact ⟨(K.out.on hb).on hW, hk.below hW hk.lt⟩
    have BY : Hid (Below w.heap.size w Y) := by rw [hY]; exact B.out.trans ((hcut.alloc hcut.size _).mono B.out.size)
    rw [← hY, ← hokb]
    have C : Hid (Below Y.heap.size Y Y) := Below.refl _ _
    clear hcut hY hokb K B
    obtain ⟨Wc, hWc⟩ : ∃ Wc, Wc = Y := ⟨_, rfl⟩
    rw [← hWc]
    replace C : Hid (Below Y.heap.size Y Wc) := by rw [hWc]; exact C.out
    clear hWc
    obtain ⟨r7, hr⟩ := both_make HS.out name HX.out.2.2.2 nn
    have P7 : Hid (Both 17 18 h [.string name, .int .i64 nn] r7) := hr
    clear hr
    obtain ⟨a0, a1, a2, a3⟩ := (KY.out _ C.out).1.k0.b2
    have hC := C.out.size
    go_upto_region 7 with fail
    go_cut [] (fun wx => Below Wc.heap.size Wc wx)
    case first =>
      refine ht7 (Q' := _) P7 KY C ?_ _ rfl
      intro u59 u60 u61 u62 u63 u64 u65 u66 u67 u68 u69 u70 u71 u72 u73 u74 u75 wx hx
      go_wp2_with fail
      go_meet
      exact hx
    clear P7
    replace C : Hid (Below Y.heap.size Y wc) := C.out.trans (hcut.mono hC)
    clear hcut hC a0 a1 a2 a3
    obtain ⟨Wn, hWn⟩ : ∃ Wn, Wn = wc := ⟨_, rfl⟩
    rw [← hWn] at C
    rw [← hWn]
    clear hWn
    clear Wc
    obtain ⟨Wc, hWc⟩ : ∃ Wc, Wc = Wn := ⟨_, rfl⟩
    subst hWc
    obtain ⟨r8, hr⟩ := both_drop HS.out name
    have P8 : Hid (Both 19 20 h [.string name] r8) := hr
    clear hr
    obtain ⟨a0, a1, a2, a3⟩ := (KY.out _ C.out).1.k0.b2
    have hC := C.out.size
    go_upto_region 8 with fail
    go_cut [] (fun wx => Below Wc.heap.size Wc wx)
    case first =>
      refine ht8 (Q' := _) P8 KY C ?_ _ rfl
      intro u76 u77 u78 u79 u80 u81 u82 u83 u84 u85 u86 u87 u88 u89 u90 wx hx
      go_wp2_with fail
      go_meet
      exact hx
    clear P8
    replace C : Hid (Below Y.heap.size Y wc) := C.out.trans (hcut.mono hC)
    clear hcut hC a0 a1 a2 a3
    obtain ⟨Wn, hWn⟩ : ∃ Wn, Wn = wc := ⟨_, rfl⟩
    rw [← hWn] at C
    rw [← hWn]
    clear hWn
    clear Wc
    obtain ⟨Wc, hWc⟩ : ∃ Wc, Wc = Wn := ⟨_, rfl⟩
    subst hWc
    obtain ⟨r9, hr⟩ := both_put HS.out name n HX.out.2.2.1
    have P9 : Hid ((smallQ r9.1.queues ∧ r9.2.1.length ≤ 1000) ∧ ∀ (v pv bv : Value) (W : World), SliceQ (Under W.heap.size) W v h.queues → NoteIs (Under W.heap.size) W (pv, bv) n → Calls Try.prog 21 #[.agg #[v, .int .i64 h.next], .string name, .agg #[pv, bv]] W (AnsU r9 W) ∧ Calls Try.prog 22 #[.agg #[v, .int .i64 h.next], .string name, .agg #[pv, bv]] W (AnsU r9 W)) := hr
    clear hr
    obtain ⟨a0, a1, a2, a3⟩ := (KY.out _ C.out).1.k0.b2
    have hC := C.out.size
    obtain ⟨b0, b1, b2, b3⟩ := (KY.out _ C.out).1.k1.b2
    go_upto_region 9 with fail
    go_cut [] (fun wx => Below Wc.heap.size Wc wx)
    case first =>
      refine ht9 (Q' := _) P9 KY C ?_ _ rfl
      intro u91 u92 u93 u94 u95 u96 u97 u98 u99 u100 u101 u102 u103 u104 u105 u106 u107 wx hx
      go_wp2_with fail
      go_meet
      exact hx
    clear P9
    replace C : Hid (Below Y.heap.size Y wc) := C.out.trans (hcut.mono hC)
    clear hcut hC a0 a1 a2 a3 b0 b1 b2 b3
    obtain ⟨Wn, hWn⟩ : ∃ Wn, Wn = wc := ⟨_, rfl⟩
    rw [← hWn] at C
    rw [← hWn]
    clear hWn
    clear Wc
    obtain ⟨Wc, hWc⟩ : ∃ Wc, Wc = Wn := ⟨_, rfl⟩
    subst hWc
    obtain ⟨r10, hr⟩ := both_done HS.out tn tq id turn
    have P10 : Hid (Both 23 24 h [.agg #[.int .i64 tn, .string tq, .int .i64 id, .int .i64 turn]] r10) := hr
    clear hr
    obtain ⟨a0, a1, a2, a3⟩ := (KY.out _ C.out).1.k0.b2
    have hC := C.out.size
    obtain ⟨b0, b1, b2, b3, b4, b5⟩ := (KY.out _ C.out).1.k2.b4
    go_upto_region 10 with fail
    go_cut [] (fun wx => Below Wc.heap.size Wc wx)
    case first =>
      refine ht10 (Q' := _) P10 KY C ?_ _ rfl
      intro u108 u109 u110 u111 u112 u113 u114 u115 u116 u117 u118 u119 u120 u121 u122 wx hx
      go_wp2_with fail
      go_meet
      exact hx
    clear P10
    replace C : Hid (Below Y.heap.size Y wc) := C.out.trans (hcut.mono hC)
    clear hcut hC a0 a1 a2 a3 b0 b1 b2 b3 b4 b5
    obtain ⟨Wn, hWn⟩ : ∃ Wn, Wn = wc := ⟨_, rfl⟩
    rw [← hWn] at C
    rw [← hWn]
    clear hWn
    clear Wc
    obtain ⟨Wc, hWc⟩ : ∃ Wc, Wc = Wn := ⟨_, rfl⟩
    subst hWc
    obtain ⟨r11, hr⟩ := both_back HS.out tn tq id turn
    have P11 : Hid (Both 25 26 h [.agg #[.int .i64 tn, .string tq, .int .i64 id, .int .i64 turn]] r11) := hr
    clear hr
    obtain ⟨a0, a1, a2, a3⟩ := (KY.out _ C.out).1.k0.b2
    have hC := C.out.size
    obtain ⟨b0, b1, b2, b3, b4, b5⟩ := (KY.out _ C.out).1.k2.b4
    go_upto_region 11 with fail
    go_cut [] (fun wx => Below Wc.heap.size Wc wx)
    case first =>
      refine ht11 (Q' := _) P11 KY C ?_ _ rfl
      intro u123 u124 u125 u126 u127 u128 u129 u130 u131 u132 u133 u134 u135 u136 u137 wx hx
      go_wp2_with fail
      go_meet
      exact hx
    clear P11
    replace C : Hid (Below Y.heap.size Y wc) := C.out.trans (hcut.mono hC)
    clear hcut hC a0 a1 a2 a3 b0 b1 b2 b3 b4 b5
    obtain ⟨Wn, hWn⟩ : ∃ Wn, Wn = wc := ⟨_, rfl⟩
    rw [← hWn] at C
    rw [← hWn]
    clear hWn
    clear Wc
    obtain ⟨Wc, hWc⟩ : ∃ Wc, Wc = Wn := ⟨_, rfl⟩
    subst hWc
    obtain ⟨r12, hr⟩ := both_purge HS.out name
    have P12 : Hid (Both 27 28 h [.string name] r12) := hr
    clear hr
    obtain ⟨a0, a1, a2, a3⟩ := (KY.out _ C.out).1.k0.b2
    have hC := C.out.size
    go_upto_region 12 with fail
    go_cut [] (fun wx => Below Wc.heap.size Wc wx)
    case first =>
      refine ht12 (Q' := _) P12 KY C ?_ _ rfl
      intro u138 u139 u140 u141 u142 u143 u144 u145 u146 u147 u148 u149 u150 u151 u152 wx hx
      go_wp2_with fail
      go_meet
      exact hx
    clear P12
    replace C : Hid (Below Y.heap.size Y wc) := C.out.trans (hcut.mono hC)
    clear hcut hC a0 a1 a2 a3
    obtain ⟨Wn, hWn⟩ : ∃ Wn, Wn = wc := ⟨_, rfl⟩
    rw [← hWn] at C
    rw [← hWn]
    clear hWn
    clear Wc
    obtain ⟨Wc, hWc⟩ : ∃ Wc, Wc = Wn := ⟨_, rfl⟩
    subst hWc
    obtain ⟨rT, hrT⟩ := both_tick HS.out now
    have PT : Hid ((smallQ rT.1.queues ∧ rT.2.length ≤ 1000) ∧ ∀ (v : Value) (W : World), SliceQ (Under W.heap.size) W v h.queues → Calls Try.prog 29 #[.agg #[v, .int .i64 h.next], .int .i64 now] W (AnsUE rT W) ∧ Calls Try.prog 30 #[.agg #[v, .int .i64 h.next], .int .i64 now] W (AnsUE rT W)) := hrT
    clear hrT
    obtain ⟨a0, a1, a2, a3⟩ := (KY.out _ C.out).1.k0.b2
    have hC := C.out.size
    go_upto_region 14 with (go_at_call 29; refine (PT.out.2 _ _ (KY.out _ C.out).1.q).1.mono ?_; rintro e x1 ⟨va1, vc1, ea1, ec1, rfl, hq1, he1, hb1⟩)
    obtain ⟨Z, hZ⟩ : ∃ Z, Z = x1.alloc (.cells #[.slice va1 rT.1.queues.length vc1, .int .i64 rT.1.next] 24) := ⟨_, rfl⟩
    obtain ⟨zb, hzb⟩ : ∃ zb, zb = x1.heap.size := ⟨_, rfl⟩
    have HZ : Hid (Below Y.heap.size Y Z ∧ Blk Z zb [.slice va1 rT.1.queues.length vc1, .int .i64 rT.1.next] ∧ SliceQ (Under Z.heap.size) Z (.slice va1 rT.1.queues.length vc1) rT.1.queues ∧ SliceE (Under Z.heap.size) Z (.slice ea1 rT.2.length ec1) rT.2) := by
      rw [hZ, hzb]
      exact ⟨C.out.trans ((hb1.alloc hb1.size _).mono hC), Blk.new _ _ _, hq1.up' (below_alloc _ _), he1.up' (below_alloc _ _)⟩
    rw [← hZ, ← hzb]
    clear hZ hzb hq1 he1 hb1 a0 a1 a2 a3 hC C Wc
    obtain ⟨a0, a1, a2, a3⟩ := (KY.out _ HZ.out.1).1.k0.b2
    go_upto_region 15 with (go_at_call 30; refine (PT.out.2 _ _ (KY.out _ HZ.out.1).1.q).2.mono ?_; rintro e x2 ⟨va2, vc2, ea2, ec2, rfl, hq2, he2, hb2⟩)
    obtain ⟨V, hV⟩ : ∃ V, V = x2.alloc (.cells #[.slice va2 rT.1.queues.length vc2, .int .i64 rT.1.next] 24) := ⟨_, rfl⟩
    obtain ⟨yb, hyb⟩ : ∃ yb, yb = x2.heap.size := ⟨_, rfl⟩
    have HVV : Hid (Below Y.heap.size Y V ∧ Blk V zb [.slice va1 rT.1.queues.length vc1, .int .i64 rT.1.next] ∧ Blk V yb [.slice va2 rT.1.queues.length vc2, .int .i64 rT.1.next] ∧ SliceQ (Under V.heap.size) V (.slice va1 rT.1.queues.length vc1) rT.1.queues ∧ SliceE (Under V.heap.size) V (.slice ea1 rT.2.length ec1) rT.2 ∧ SliceQ (Under V.heap.size) V (.slice va2 rT.1.queues.length vc2) rT.1.queues ∧ SliceE (Under V.heap.size) V (.slice ea2 rT.2.length ec2) rT.2) := by
      rw [hV, hyb]
      have hb3 := hb2.alloc (o := .cells #[.slice va2 rT.1.queues.length vc2, .int .i64 rT.1.next] 24) hb2.size
      exact ⟨HZ.out.1.trans (hb3.mono HZ.out.1.size), HZ.out.2.1.below hb3 HZ.out.2.1.lt, Blk.new _ _ _, HZ.out.2.2.1.up' hb3, HZ.out.2.2.2.up' hb3, hq2.up' (below_alloc _ _), he2.up' (below_alloc _ _)⟩
    rw [← hV, ← hyb]
    clear hV hyb hq2 he2 hb2 a0 a1 a2 a3 HZ
    obtain ⟨p0, p1, p2, p3⟩ := HVV.out.2.1.b2
    obtain ⟨q0, q1, q2, q3⟩ := HVV.out.2.2.1.b2
    go_cut [] (fun wx => Below V.heap.size V wx)
    case first =>
      go_region_held3 (fun w' => w'.cell? ⟨zb, 0, none⟩ = some (.slice va1 rT.1.queues.length vc1) ∧ w'.cell? ⟨zb, 1, none⟩ = some (.int .i64 rT.1.next) ∧ w'.cell? ⟨yb, 0, none⟩ = some (.slice va2 rT.1.queues.length vc2) ∧ w'.cell? ⟨yb, 1, none⟩ = some (.int .i64 rT.1.next)) (go_keep) (first
        | (go_at_call 14; refine (same1_any okb va1 _ vc1 _ ea1 _ ec1 _ _).mono ?_; rintro e x3 ⟨rfl, k1, k2, k3, hb3⟩; have hbn : Below V.heap.size V x3 := ⟨hb3.os, hb3.tape, hb3.output, hb3.size, hb3.block⟩; have c0 := bel_c hbn p3 p0; have c1 := bel_c hbn p3 p1; have c2 := bel_c hbn q3 q0; have c3 := bel_c hbn q3 q1; have D : Hid (Below V.heap.size V x3 ∧ Blk x3 V.heap.size [.slice va1 rT.1.queues.length vc1, .int .i64 rT.1.next] ∧ Blk x3 (V.heap.size + 1) [.slice ea1 rT.2.length ec1] ∧ Blk x3 (V.heap.size + 1 + 1) [.int .i64 0]) := ⟨hbn, k1, k2, k3⟩; clear hb3 hbn k1 k2 k3)
        | (go_at_call 15; refine (same2_any okb (V.heap.size + 1 + 1) V.heap.size (V.heap.size + 1) rT.1 PT.out.1.1 rT.2 PT.out.1.2 0 (.slice va1 rT.1.queues.length vc1) (.slice ea1 rT.2.length ec1) _ _ _ ?_ ?_ ?_ ?_ ?_ ?_ ?_ ?_).mono ?_; (exact (KY.out _ (HVV.out.1.trans (D.out.1.mono HVV.out.1.size))).2); (exact D.out.2.2.2); (exact D.out.2.1); (exact D.out.2.2.1); (exact (HVV.out.2.2.2.1.up' D.out.1).sub fun b hb => ⟨hb, rfl⟩); (exact (HVV.out.2.2.2.2.2.1.up' D.out.1).sub fun b hb => ⟨hb, rfl⟩); (exact (HVV.out.2.2.2.2.1.up' D.out.1).sub fun b hb => ⟨hb, rfl⟩); (exact (HVV.out.2.2.2.2.2.2.up' D.out.1).sub fun b hb => ⟨hb, rfl⟩); rintro e x4 ⟨⟨xx, rfl⟩, hb4⟩; have hbn : Below V.heap.size V x4 := D.out.1.trans (Below.mono ⟨hb4.os, hb4.tape, hb4.output, hb4.size, hb4.block⟩ D.out.1.size); have d0 := bel_c hbn p3 p0; have d1 := bel_c hbn p3 p1; have d2 := bel_c hbn q3 q0; have d3 := bel_c hbn q3 q1; have G : Hid (Below V.heap.size V x4) := hbn; clear hb4 hbn))
      all_goals
        go_wp2_with fail
        go_meet
        exact G.out
    have C : Hid (Below Y.heap.size Y wc) := HVV.out.1.trans (hcut.mono HVV.out.1.size)
    clear hcut p0 p1 p2 p3 q0 q1 q2 q3 HVV PT
    obtain ⟨Wn, hWn⟩ : ∃ Wn, Wn = wc := ⟨_, rfl⟩
    rw [← hWn] at C
    rw [← hWn]
    clear hWn
    obtain ⟨rK, iK, hrK⟩ := both_take HS.out name now (by omega)
    have PK : Hid (smallQ rK.1.queues ∧ ∀ (v : Value) (W : World), SliceQ (Under W.heap.size) W v h.queues → Calls Try.prog 31 #[.agg #[v, .int .i64 h.next], .string name, .int .i64 now] W (AnsUT rK iK W) ∧ Calls Try.prog 32 #[.agg #[v, .int .i64 h.next], .string name, .int .i64 now] W (AnsUT rK iK W)) := hrK
    clear hrK
    obtain ⟨a0, a1, a2, a3⟩ := (KY.out _ C.out).1.k0.b2
    have hC := C.out.size
    go_upto_region 17 with (go_at_call 31; refine (PK.out.2 _ _ (KY.out _ C.out).1.q).1.mono ?_; rintro e x5 ⟨va5, vc5, pa5, pc5, qa5, qc5, rfl, hq5, hn5, hb5⟩)
    obtain ⟨Z5, hZ5⟩ : ∃ Z, Z = (x5.alloc (.cells #[.slice va5 rK.1.queues.length vc5, .int .i64 rK.1.next] 24)).alloc (.cells #[.int .i64 iK.id, .int .i64 iK.turn, .int .i64 iK.tries, .bool iK.out, .int .i64 iK.due, .slice pa5 iK.note.props.length pc5, .slice qa5 iK.note.body.length qc5] 48) := ⟨_, rfl⟩
    obtain ⟨b5, hb5e⟩ : ∃ b5, b5 = x5.heap.size := ⟨_, rfl⟩
    have H5 : Hid (Below Y.heap.size Y Z5 ∧ Blk Z5 b5 [.slice va5 rK.1.queues.length vc5, .int .i64 rK.1.next] ∧ Blk Z5 (b5 + 1) [.int .i64 iK.id, .int .i64 iK.turn, .int .i64 iK.tries, .bool iK.out, .int .i64 iK.due, .slice pa5 iK.note.props.length pc5, .slice qa5 iK.note.body.length qc5] ∧ SliceQ (Under Z5.heap.size) Z5 (.slice va5 rK.1.queues.length vc5) rK.1.queues ∧ NoteIs (Under Z5.heap.size) Z5 (.slice pa5 iK.note.props.length pc5, .slice qa5 iK.note.body.length qc5) iK.note) := by
      have hbb : Below x5.heap.size x5 Z5 := by rw [hZ5]; exact (below_alloc _ _).alloc (by simp) _
      refine ⟨C.out.trans ((hb5.trans (hbb.mono hb5.size)).mono hC), by rw [hZ5, hb5e]; exact (Blk.new _ _ _).alloc _, ?_, hq5.up' hbb, hn5.sub fun b hb => ⟨Nat.lt_of_lt_of_le hb hbb.size, hbb.block b hb⟩⟩
      rw [hZ5, hb5e]
      have hh := Blk.new (x5.alloc (.cells #[.slice va5 rK.1.queues.length vc5, .int .i64 rK.1.next] 24)) [.int .i64 iK.id, .int .i64 iK.turn, .int .i64 iK.tries, .bool iK.out, .int .i64 iK.due, .slice pa5 iK.note.props.length pc5, .slice qa5 iK.note.body.length qc5] 48
      rw [World.size_alloc] at hh
      exact hh
    rw [← hZ5, ← hb5e]
    clear hZ5 hb5e hq5 hn5 hb5 a0 a1 a2 a3 hC C Wn
    obtain ⟨a0, a1, a2, a3⟩ := (KY.out _ H5.out.1).1.k0.b2
    go_upto_region 18 with (go_at_call 32; refine (PK.out.2 _ _ (KY.out _ H5.out.1).1.q).2.mono ?_; rintro e x6 ⟨va6, vc6, pa6, pc6, qa6, qc6, rfl, hq6, hn6, hb6⟩)
    obtain ⟨Z6, hZ6⟩ : ∃ Z, Z = (x6.alloc (.cells #[.slice va6 rK.1.queues.length vc6, .int .i64 rK.1.next] 24)).alloc (.cells #[.int .i64 iK.id, .int .i64 iK.turn, .int .i64 iK.tries, .bool iK.out, .int .i64 iK.due, .slice pa6 iK.note.props.length pc6, .slice qa6 iK.note.body.length qc6] 48) := ⟨_, rfl⟩
    obtain ⟨b6, hb6e⟩ : ∃ b6, b6 = x6.heap.size := ⟨_, rfl⟩
    have H6 : Hid (Below Y.heap.size Y Z6 ∧ (Blk Z6 b5 [.slice va5 rK.1.queues.length vc5, .int .i64 rK.1.next] ∧ Blk Z6 (b5 + 1) [.int .i64 iK.id, .int .i64 iK.turn, .int .i64 iK.tries, .bool iK.out, .int .i64 iK.due, .slice pa5 iK.note.props.length pc5, .slice qa5 iK.note.body.length qc5] ∧ SliceQ (Under Z6.heap.size) Z6 (.slice va5 rK.1.queues.length vc5) rK.1.queues ∧ NoteIs (Under Z6.heap.size) Z6 (.slice pa5 iK.note.props.length pc5, .slice qa5 iK.note.body.length qc5) iK.note) ∧ Blk Z6 b6 [.slice va6 rK.1.queues.length vc6, .int .i64 rK.1.next] ∧ Blk Z6 (b6 + 1) [.int .i64 iK.id, .int .i64 iK.turn, .int .i64 iK.tries, .bool iK.out, .int .i64 iK.due, .slice pa6 iK.note.props.length pc6, .slice qa6 iK.note.body.length qc6] ∧ SliceQ (Under Z6.heap.size) Z6 (.slice va6 rK.1.queues.length vc6) rK.1.queues ∧ NoteIs (Under Z6.heap.size) Z6 (.slice pa6 iK.note.props.length pc6, .slice qa6 iK.note.body.length qc6) iK.note) := by
      have hbb : Below x6.heap.size x6 Z6 := by rw [hZ6]; exact (below_alloc _ _).alloc (by simp) _
      have hbz : Below Z5.heap.size Z5 Z6 := hb6.trans (hbb.mono hb6.size)
      refine ⟨H5.out.1.trans (hbz.mono H5.out.1.size), ⟨H5.out.2.1.below hbz H5.out.2.1.lt, H5.out.2.2.1.below hbz H5.out.2.2.1.lt, H5.out.2.2.2.1.up' hbz, H5.out.2.2.2.2.sub fun b hb => ⟨Nat.lt_of_lt_of_le hb hbz.size, hbz.block b hb⟩⟩, by rw [hZ6, hb6e]; exact (Blk.new _ _ _).alloc _, ?_, hq6.up' hbb, hn6.sub fun b hb => ⟨Nat.lt_of_lt_of_le hb hbb.size, hbb.block b hb⟩⟩
      rw [hZ6, hb6e]
      have hh := Blk.new (x6.alloc (.cells #[.slice va6 rK.1.queues.length vc6, .int .i64 rK.1.next] 24)) [.int .i64 iK.id, .int .i64 iK.turn, .int .i64 iK.tries, .bool iK.out, .int .i64 iK.due, .slice pa6 iK.note.props.length pc6, .slice qa6 iK.note.body.length qc6] 48
      rw [World.size_alloc] at hh
      exact hh
    rw [← hZ6, ← hb6e]
    clear hZ6 hb6e hq6 hn6 hb6 a0 a1 a2 a3 H5
    obtain ⟨p0, p1, p2, p3⟩ := H6.out.2.1.1.b2
    obtain ⟨q0, q1, q2, q3⟩ := H6.out.2.2.1.b2
    obtain ⟨⟨s0, s1, s2, s3⟩, ⟨s4, s5, s6⟩, s7, s8⟩ := H6.out.2.1.2.1.b7
    obtain ⟨⟨t0, t1, t2, t3⟩, ⟨t4, t5, t6⟩, t7, t8⟩ := H6.out.2.2.2.1.b7
    obtain ⟨o0, o1, o2⟩ := (KY.out _ H6.out.1).2.b1
    go_wp2_with (first
      | (go_at_call 8; refine (sameHall_true _ _ rK.1 PK.out.1 _ H6.out.2.1.2.2.1 H6.out.2.2.2.2.1).mono ?_; rintro e x7 ⟨rfl, hb7⟩; have G7 : Hid (Below Z6.heap.size Z6 x7) := hb7; have u0 := bel_c hb7 s8 s0; have u1 := bel_c hb7 s8 s1; have u2 := bel_c hb7 s8 s2; have u3 := bel_c hb7 s8 s3; have u4 := bel_c hb7 s8 s4; have u5 := bel_c hb7 s8 s5; have u6 := bel_c hb7 s8 s6; have v0 := bel_c hb7 t8 t0; have v1 := bel_c hb7 t8 t1; have v2 := bel_c hb7 t8 t2; have v3 := bel_c hb7 t8 t3; have v4 := bel_c hb7 t8 t4; have v5 := bel_c hb7 t8 t5; have v6 := bel_c hb7 t8 t6; clear hb7 p0 p1 p2 q0 q1 q2)
      | (go_at_call 33; refine (sameItem_true iK _ _ _ _ _ ?_ ?_).mono ?_; (exact H6.out.2.1.2.2.2.sub fun b hb => ⟨Nat.lt_of_lt_of_le hb G7.out.size, G7.out.block b hb⟩); (exact H6.out.2.2.2.2.2.sub fun b hb => ⟨Nat.lt_of_lt_of_le hb G7.out.size, G7.out.block b hb⟩); rintro e x8 ⟨rfl, hb8⟩; have G8 : Hid (Below Z6.heap.size Z6 x8) := G7.out.trans (hb8.mono G7.out.size); clear hb8))
    go_ret
    exact ⟨rfl, BY.out.trans ((H6.out.1.trans (G8.out.mono H6.out.1.size)).mono BY.out.size)⟩
end Go.Proofs.Ytpehkoompadpaaa
