/-
  JWrite; SrRefLog; RefWrite: texts laid together.
-/
import Derived.Test.YtkddkpdfeeikhaaJTellsProofM29
import Derived.Test.YtkddkpdfeeikhaaJTellsProofM28
import Derived.Test.YtkddkpdfeeikhaaJTellsProofM47
import Derived.Test.YtkddkpdfeeikhaaJTellsProofM48
/-
  journal.Write.
-/
namespace Go.Proofs.Ytkddkpdfeeikhaa
open Go.RowKit
set_option linter.unusedVariables false
set_option linter.unusedSimpArgs false

attribute [local go_sem ↓] Go.wp_at_zero Go.wp_at_succ

theorem rowS_below {base : Nat} {w w' : World} {v : Value} {vs : List Value} {rs : List (List UInt8)} (h : SR.RowS base w v vs rs) (hb : Below w.heap.size w w') : SR.RowS base w' v vs rs :=
  ⟨own_below h.1 hb, (h.2.1.same hb.block).mono hb.size, fun u hu g hg => ⟨Nat.lt_of_lt_of_le (h.2.2 u hu g hg).1 hb.size, (h.2.2 u hu g hg).2⟩⟩

/-- Bytes do not lie in a log's box: a store into it leaves them. -/
theorem bytes_off {w : World} {v : Value} {bs : List UInt8} {g : Nat} (h : SR.SliceB w.heap.size w v bs) (hg : Blk w g [.slice none 0 0, .int .i64 0]) {x y : Value} : SR.SliceB ((w.setCell ⟨g, 0, none⟩ x).setCell ⟨g, 1, none⟩ y).heap.size ((w.setCell ⟨g, 0, none⟩ x).setCell ⟨g, 1, none⟩ y) v bs := by
  obtain ⟨a, cap, rfl, h1, h2, h3, h4⟩ := h
  refine ⟨a, cap, rfl, h1, h2, h3, fun i hi => ?_⟩
  obtain ⟨b, off, rfl, hlt, hc⟩ := h4 i hi
  refine ⟨b, off, rfl, by simpa using hlt, ?_⟩
  have hne : b ≠ g := fun e => by
    subst e
    rw [hg.cell (off + i)] at hc
    have : off + i = 0 ∨ off + i = 1 ∨ 2 ≤ off + i := by omega
    rcases this with h | h | h
    · rw [h] at hc; simp at hc
    · rw [h] at hc; simp at hc
    · rw [List.getElem?_eq_none (by simpa using h)] at hc; cases hc
  rw [← hc]
  refine World.cell?_of_block ?_
  rw [Below.heap_setCell _ _ _ _ hne, Below.heap_setCell _ _ _ _ hne]

set_option maxRecDepth 100000 in
set_option maxHeartbeats 3200000 in
theorem write_any (u ev : Value) (sure : Int) (l : List UInt8) (es : List ED) (w : World) (hu : SliceB (Under w.heap.size) w u l) (he : SliceE (Under w.heap.size) w ev es) (hr : ∀ e ∈ es, e.right) (hel : es.length ≤ 4194304) (hll : l.length ≤ 140737488355328) :
    Calls Try.prog 20 #[.agg #[u, .int .i64 sure], ev] w fun r w' => SR.LogIs w w' r (SR.appB l (es.map entryB)) (if SR.appE l (es.map entryB) = 0 then sure else 0) (SR.appE l (es.map entryB)) := by
  have HU : Hid (SliceB (Under w.heap.size) w u l) := hu
  have HE : Hid (SliceE (Under w.heap.size) w ev es) := he
  have HR : Hid (∀ e ∈ es, e.right) := hr
  obtain ⟨ua, uc, rfl, -⟩ := SliceV.shape hu
  obtain ⟨va, vc, rfl, hv1, hv2, -⟩ := he.shape
  unfold maxLen at hv2
  clear hu he hr
  obtain ⟨n, hn⟩ : ∃ n, n = es.length := ⟨_, rfl⟩
  have HN : Hid (n = es.length) := hn
  rw [← hn] at hel hv1
  rw [← hn]
  clear hn
  obtain ⟨ans, hans⟩ : ∃ ans, ans = SR.appB l (es.map entryB) := ⟨_, rfl⟩
  obtain ⟨sr, hsr⟩ : ∃ sr, sr = (if SR.appE l (es.map entryB) = 0 then sure else 0) := ⟨_, rfl⟩
  obtain ⟨er, her⟩ : ∃ er, er = SR.appE l (es.map entryB) := ⟨_, rfl⟩
  have HANS : Hid (ans = SR.appB l (es.map entryB) ∧ sr = (if SR.appE l (es.map entryB) = 0 then sure else 0) ∧ er = SR.appE l (es.map entryB)) := ⟨hans, hsr, her⟩
  rw [← hans, ← hsr, ← her]
  clear hans hsr her
  obtain ⟨A, hA⟩ : ∃ A, A = (w.alloc (.cells #[.slice ua l.length uc, .int .i64 sure] 32)).alloc (.cells #[.slice none 0 0, .int .i64 0] 32) := ⟨_, rfl⟩
  have hAz : A.heap.size = w.heap.size + 2 := by rw [hA]; simp
  have hAB : Below w.heap.size w A := by rw [hA]; exact (below_alloc _ _).alloc (by simp) _
  have hA0 : Blk A w.heap.size [.slice ua l.length uc, .int .i64 sure] := by rw [hA]; exact (Blk.new _ _ _).alloc _
  have hA1 : Blk A (w.heap.size + 1) [.slice none 0 0, .int .i64 0] := by
    rw [hA]
    have := Blk.new (w.alloc (.cells #[.slice ua l.length uc, .int .i64 sure] 32)) [.slice none 0 0, .int .i64 0] 32
    simpa using this
  have HAB : Hid (Below w.heap.size w A ∧ Blk A w.heap.size [.slice ua l.length uc, .int .i64 sure] ∧ Blk A (w.heap.size + 1) [.slice none 0 0, .int .i64 0]) := ⟨hAB, hA0, hA1⟩
  clear hAB hA0 hA1
  go_enter Try.func20, Try.ntmps20
  go_upto_region 1 with fail
  rw [← hA]
  clear hA
  go_wp2_with fail
  go_loopw [6, 11] (fun v i wr => ∃ (k : Nat) (vs : List Value), k ≤ n ∧ i = .int .i64 k ∧ SR.RowS A.heap.size wr v vs ((es.take k).map entryB) ∧ Below A.heap.size A wr) (fun _ i _ => n - (intOf i).toNat)
  case atStart => exact ⟨0, [], Nat.zero_le _, rfl, SR.RowS.nil _ _, Below.refl _ _⟩
  case round =>
    obtain ⟨k, vs, hk, rfl, hrow, hbel⟩ := hrel
    have HW : Hid (SR.RowS A.heap.size wr _ vs ((es.take k).map entryB)) := hrow
    have HBL : Hid (Below A.heap.size A wr) := hbel
    obtain ⟨ra, rc, rfl, hr1, hr2, -⟩ := own_shape hrow.1
    have hz := hbel.size
    have hkl : ((es.take k).map entryB).length = k := by have := HN.out; simp; omega
    have hw1 := hrow.1
    rw [hkl] at HW hr1 hw1 ⊢
    have HO : Hid (wr.ownsRow A.heap.size 26 1 (.slice ra k rc) k vs) := hw1
    have HKL : Hid (((es.take k).map entryB).length = k) := hkl
    unfold maxLen at hr2
    have hBw : Below w.heap.size w wr := HAB.out.1.trans (hbel.mono (by omega))
    clear hrow hbel hkl hw1
    by_cases hlt : k < n
    · have hk2 : k < es.length := by rw [← HN.out]; exact hlt
      obtain ⟨b, off, pa, pc, qa, qc, rfl, hS, hnt, ⟨c0, c1, c2, c3⟩, c4, c5⟩ := (SliceE.sub (T := Under w.heap.size) HE.out (fun b hb => ⟨hb, hBw.block b hb⟩)).at k hk2
      have HNT : Hid (NoteIs (Under w.heap.size) wr (.slice pa es[k].note.props.length pc, .slice qa es[k].note.body.length qc) es[k].note) := hnt
      obtain ⟨e, hee⟩ : ∃ e, e = es[k] := ⟨_, rfl⟩
      have HEE : Hid (e = es[k]) := hee
      rw [← hee] at c0 c1 c2 c3 c4 c5 HNT
      have hbw : b < wr.heap.size := by have := hBw.size; have : b < w.heap.size := hS; omega
      clear hnt hee
      have HJB : Hid (∀ W, Below wr.heap.size wr W → Calls Try.prog 15 #[.agg #[.int .i64 e.kind, .string e.queue, .int .i64 e.n, .int .i64 e.id, .slice pa e.note.props.length pc, .slice qa e.note.body.length qc]] W fun r w' => ∃ v, r = .returned v ∧ w'.ownsRow W.heap.size 5 1 v (entryB e).length (u8s (entryB e)) ∧ Below W.heap.size W w') := by
        show ∀ W, Below wr.heap.size wr W → _
        intro W hW
        have h1 := hBw.size
        exact jbytes_any e (by rw [HEE.out]; exact HR.out _ (List.getElem_mem hk2)) _ _ W (HNT.out.sub fun b hb => ⟨by have := hW.size; have : b < w.heap.size := hb; show b < W.heap.size; omega, hW.block b (by have : b < w.heap.size := hb; omega)⟩)
      go_wp2_with (first
        | (go_at_call 15; refine (HJB.out _ (below_alloc _ _)).mono ?_; rintro r w2 ⟨x, rfl, hx2, hb2⟩; obtain ⟨xa, xc, rfl, hx3, hx4, -⟩ := own_shape hx2; have hz2 := hb2.size; simp only [World.size_alloc] at hz2)
        | (at_builtin; refine SR.wpList_appV rfl (.tmp 15) (.tmp 18) rfl A.heap.size _ k vs rfl ((own_below (own_below HO.out (below_alloc _ _)) hb2).alloc _) (w2.heap.size + 1) _ [.slice xa (entryB e).length xc] rfl (SR.new_row w2 _) (by intro x hx; simp at hx; subst hx; rfl) (by simp; omega) (by simp at hz2 ⊢; omega) ?_; intro ao cap4 w4 hown4 hg4 hm4))
      have hp := (rowS_below HW.out (below_alloc wr _)).push (r := entryB e) (by simp; omega) hb2 hx2 (by rw [HKL.out]; simpa using hown4) hg4 hm4
      have hbn : Below A.heap.size A w4 := by
        have c1 : Below A.heap.size A w2 := HBL.out.trans (((below_alloc wr _).trans (hb2.mono (by simp))).mono hz)
        exact (c1.alloc c1.size _).trans (SR.own_dropG ((own_below (own_below HO.out (below_alloc _ _)) hb2).alloc _) (by have := c1.size; simp; omega) hg4)
      have hst : (es.take k).map entryB ++ [entryB e] = (es.take (k + 1)).map entryB := by
        rw [List.take_succ_eq_append_getElem hk2, List.map_append, HEE.out]
        rfl
      rw [hst] at hp
      go_roundw
      case rel => exact ⟨k + 1, _, by omega, by go_num, hp, hbn⟩
      case measure => simp [intOf]; omega
    · obtain rfl : k = n := by omega
      have hes : (es.take k).map entryB = es.map entryB := by rw [List.take_of_length_le (by have := HN.out; omega)]
      rw [hes] at HW
      obtain ⟨a0, a1, a2, a3⟩ := (HAB.out.2.1.below HBL.out (by omega)).b2
      obtain ⟨b0, b1, b2, b3⟩ := (HAB.out.2.2.below HBL.out (by omega)).b2
      have HAP : Hid (Calls Try.prog 58 #[.agg #[.slice ua l.length uc, .int .i64 sure], .slice ra k rc] wr fun e w' => SR.LogIs wr w' e (SR.appB l (es.map entryB)) (if SR.appE l (es.map entryB) = 0 then sure else 0) (SR.appE l (es.map entryB))) :=
        SR.append_any _ _ sure l (es.map entryB) wr (bytes_sr (SliceV.sub HU.out fun b hb => ⟨Nat.lt_of_lt_of_le hb hBw.size, hBw.block b hb⟩)) HW.out.slice (by simp; have := HN.out; omega) hll
      have HBW : Hid (Below w.heap.size w wr ∧ A.heap.size ≤ wr.heap.size) := ⟨hBw, hz⟩
      clear hBw
      rw [← HANS.out.1, ← HANS.out.2.1, ← HANS.out.2.2] at HAP
      go_wp2_with (go_at_call 58; refine HAP.out.mono ?_; rintro r w5 ⟨ao, cap5, rfl, hs5, hb5⟩; have HB5 : Hid (SR.SliceB w5.heap.size w5 (.slice ao ans.length cap5) ans ∧ Below wr.heap.size wr w5) := ⟨hs5, hb5⟩; have hD := ((HAB.out.2.2.below HBL.out (by omega)).below hb5 b3); have HD : Hid (Blk w5 (w.heap.size + 1) [.slice none 0 0, .int .i64 0]) := hD; obtain ⟨d0, d1, d2, d3⟩ := hD.b2; clear hs5 hb5 hD)
      have hne : w.heap.size ≠ w.heap.size + 1 := by omega
      refine bodyPost_ret (v := .tuple #[.agg #[.slice ao ans.length cap5, .int .i64 sr], .int .i64 er]) (by simp [results, Try.results20, go_sem, *]; done) rfl ⟨ao, cap5, rfl, ?_, ?_⟩
      · exact bytes_off HB5.out.1 HD.out
      · iterate 2 refine Below.setCell ?_ (show w.heap.size ≤ w.heap.size + 1 by omega) _
        exact HBW.out.1.trans (HB5.out.2.mono (by have := HBW.out.1.size; omega))
end Go.Proofs.Ytkddkpdfeeikhaa

/-
  tgref1.Crash and Append answer what crashB, appE and appB say.
-/
namespace Go.Proofs.Ytkddkpdfeeikhaa.SR
open Go.RowKit
set_option linter.unusedVariables false
set_option linter.unusedSimpArgs false

attribute [local go_sem ↓] Go.wp_at_zero Go.wp_at_succ

theorem muchB_true (rs : List (List UInt8)) (k : Nat) (hk : k < rs.length) (h : 65536 ≤ rs[k].length) : muchB rs = true := by
  unfold muchB
  rw [List.any_eq_true]
  exact ⟨rs[k], List.getElem_mem _, by simpa using h⟩
theorem muchB_none (rs : List (List UInt8)) (h : ∀ j (hj : j < rs.length), rs[j].length < 65536) : muchB rs = false := by
  unfold muchB
  rw [List.any_eq_false]
  intro r hr
  obtain ⟨j, hj, rfl⟩ := List.getElem_of_mem hr
  have := h j hj
  simpa using this
theorem app_much (l : List UInt8) (rs : List (List UInt8)) (h : muchB rs = true) : appE l rs = 4 ∧ appB l rs = [] := by
  have e : appE l rs = 4 := by simp [appE, h]
  exact ⟨e, by simp [appB, e]⟩
theorem app_full (l : List UInt8) (rs : List (List UInt8)) (h : muchB rs = false) (hf : 6000 < l.length + sizeR rs) : appE l rs = 8 ∧ appB l rs = [] := by
  have e : appE l rs = 8 := by simp [appE, h, hf]
  exact ⟨e, by simp [appB, e]⟩
theorem app_ok (l : List UInt8) (rs : List (List UInt8)) (h : muchB rs = false) (hf : ¬ 6000 < l.length + sizeR rs) : appE l rs = 0 ∧ appB l rs = l ++ framesB rs := by
  have e : appE l rs = 0 := by simp [appE, h, hf]
  exact ⟨e, by simp [appB, e]⟩

set_option maxRecDepth 100000 in
set_option maxHeartbeats 1600000 in
theorem refAppend_at (u v : Value) (sure : Int) (l : List UInt8) (rs : List (List UInt8)) (w : World) (hu : SliceB w.heap.size w u l) (hv : SliceS w.heap.size w v rs) (hn : rs.length ≤ 1048576) (hll : l.length ≤ 4194304) (Bb : List UInt8) (s' E : Int) (hall : Hid (Bb = appB l rs ∧ s' = (if appE l rs = 0 then sure else 0) ∧ E = appE l rs)) :
    Calls Try.prog 59 #[.agg #[u, .int .i64 sure], v] w fun e w' => LogIs w w' e Bb s' E := by
  have HV : Hid (SliceS w.heap.size w v rs) := hv
  have HU : Hid (SliceB w.heap.size w u l) := hu
  obtain ⟨va, vc, rfl, hv1, hv2⟩ := hv.shape
  obtain ⟨ua, uc, rfl, hu1, hu2, -⟩ := hu
  unfold maxLen at hu2
  have hno : ∀ W : World, W.heap.size = w.heap.size + 1 + 1 → (W.alloc (.cells #[] 5)).ownsRow (w.heap.size + 2) 5 1 (.slice (some ⟨w.heap.size + 1 + 1, 0, none⟩) 0 0) ([] : List UInt8).length (u8s []) := fun W e => by rw [← e]; exact new_own W _ [] #[] (by simp [maxLen]) rfl (by omega)
  have HNO : Hid (∀ W : World, _ → _) := hno
  clear hno hv
  go_enter Try.func59, Try.ntmps59
  go_wp2_with (first
    | (at_builtin; refine wpList_appT rfl (.tmp 9) (.tmp 11) rfl (w.heap.size + 2) _ [] rfl (HNO.out _ (by simp)) w.heap.size _ l rfl (HU.out.same (fun k hk => (Below.heap_alloc _ _ _ (by simp; omega)).trans ((Below.heap_alloc _ _ _ (by simp; omega)).trans (Below.heap_alloc _ _ _ (by omega))))) l (by simp) (by omega) (by simp) ?_; intro ao1 cap1 w1 hown1 hw1))
  have c1 : Below (w.heap.size + 2) ((w.alloc (.cells #[.slice ua l.length uc, .int .i64 sure] 32)).alloc (.cells #[.slice none 0 0, .int .i64 0] 32)) w1 := ((Below.refl _ _).alloc (by simp) _).trans hw1
  have V2 : Hid (∀ W, Below (w.heap.size + 2) ((w.alloc (.cells #[.slice ua l.length uc, .int .i64 sure] 32)).alloc (.cells #[.slice none 0 0, .int .i64 0] 32)) W → SliceS W.heap.size W (.slice va rs.length vc) rs) := fun W h => by
    refine HV.out.below ⟨?_, ?_, ?_, ?_, ?_⟩
    · exact h.os
    · exact h.tape
    · exact h.output
    · have := h.size; simp at this; omega
    · intro j hj
      exact (h.block j (by omega)).trans ((Below.heap_alloc _ _ _ (by simp; omega)).trans (Below.heap_alloc _ _ _ hj))
  have hown1' : w1.ownsRow (w.heap.size + 2) 5 1 (.slice ao1 l.length cap1) (l ++ framesB (rs.take 0)).length (u8s (l ++ framesB (rs.take 0))) := by
    simpa [framesB] using hown1
  have H1 : Hid (w1.ownsRow (w.heap.size + 2) 5 1 (.slice ao1 l.length cap1) (l ++ framesB (rs.take 0)).length (u8s (l ++ framesB (rs.take 0)))) := hown1'
  clear hown1 hown1' hw1
  go_loopw [6, 15] (fun v i wr => ∃ k : Nat, k ≤ rs.length ∧ i = .int .i64 k ∧ Below (w.heap.size + 2) ((w.alloc (.cells #[.slice ua l.length uc, .int .i64 sure] 32)).alloc (.cells #[.slice none 0 0, .int .i64 0] 32)) wr ∧
      wr.ownsRow (w.heap.size + 2) 5 1 v (l ++ framesB (rs.take k)).length (u8s (l ++ framesB (rs.take k))) ∧ ∀ j (hj : j < rs.length), j < k → rs[j].length < 65536)
    (fun _ i _ => rs.length - (intOf i).toNat)
  case atStart => exact ⟨0, Nat.zero_le _, rfl, c1, H1.out, fun j hj h => by omega⟩
  case round =>
    obtain ⟨k, hk, rfl, cr, hown, hsm⟩ := hrel
    obtain ⟨xs, hxs⟩ : ∃ xs, xs = l ++ framesB (rs.take k) := ⟨_, rfl⟩
    have hxl : xs.length ≤ 70000000000 := by
      rw [hxs, List.length_append, framesB_len]
      have h1 := sizeR_bound (rs.take k) 65535 (fun r hr => by
        obtain ⟨j, hj, rfl⟩ := List.getElem_of_mem hr
        simp at hj
        have := hsm j (by omega) (by omega)
        simp
        omega)
      have h2 : (rs.take k).length ≤ 1048576 := by simp; omega
      have h3 := Nat.mul_le_mul_right 65539 h2
      omega
    have HSM : Hid (∀ j (hj : j < rs.length), j < k → rs[j].length < 65536) := hsm
    have HX : Hid (xs = l ++ framesB (rs.take k)) := hxs
    rw [← hxs] at hown
    clear hxs hsm
    have hzr := cr.size
    simp at hzr
    obtain ⟨va', vc', rfl, hcc1, hcc2, -⟩ := own_shape hown
    unfold maxLen at hcc2
    have k0 : wr.cell? ⟨w.heap.size, 1, none⟩ = some (.int .i64 sure) := (cr.cell (by simp)).trans (by simp)
    have k2 : ∀ o, wr.frozen? ⟨w.heap.size + 1, o, none⟩ = false := fun o => (cr.frozen (by simp)).trans (by simp)
    have k3 : wr.cell? ⟨w.heap.size + 1, 0, none⟩ = some (.slice none 0 0) := (cr.cell (by simp)).trans (by simp)
    have k4 : wr.cell? ⟨w.heap.size + 1, 1, none⟩ = some (.int .i64 0) := (cr.cell (by simp)).trans (by simp)
    have bw : Hid (∀ x y, Below w.heap.size w ((wr.setCell ⟨w.heap.size + 1, 0, none⟩ x).setCell ⟨w.heap.size + 1, 1, none⟩ y)) := fun x y => (((((below_alloc _ _).alloc (by simp) _)).trans (cr.mono (by omega))).setCell (by simp) _).setCell (by simp) _
    by_cases hlt : k < rs.length
    · obtain ⟨g, off, ra, rc, rfl, hc, hs, hg, hr1, hr2⟩ := (V2.out wr cr).at k hlt
      have HF : Hid (framesB (rs.take (k + 1)) = framesB (rs.take k) ++ frameB rs[k]) := framesB_take rs k hlt
      by_cases hmuch : 65536 ≤ rs[k].length
      · have HM : Hid (appE l rs = 4 ∧ appB l rs = []) := app_much l rs (muchB_true rs k hlt hmuch)
        obtain ⟨R, hR⟩ : ∃ R, R = rs[k].length := ⟨_, rfl⟩
        rw [← hR] at hc hr2 hmuch
        have hyes : (65536 : Int) ≤ (R : Int) := by omega
        clear hR hs hmuch
        go_wp2
        refine bodyPost_ret (v := .tuple #[.agg #[.slice none 0 0, .int .i64 0], .int .i64 4]) (by simp [results, Try.results59, go_sem, *]; done) rfl ?_
        obtain ⟨q1, q2, q3⟩ := hall.out
        rw [q1, q2, q3, HM.out.1, HM.out.2]
        exact ⟨_, _, rfl, SliceB.nil _ _, bw.out _ _⟩
      · obtain ⟨r, hr⟩ : ∃ r, r = rs[k] := ⟨_, rfl⟩
        rw [← hr] at hc hr2 hmuch HF hs
        have hnot : ¬ (65536 : Int) ≤ (r.length : Int) := by omega
        have HRL : Hid (r.length < 65536) := by show _ < _; omega
        have HSS : Hid (SliceB wr.heap.size wr (.slice ra r.length rc) r) := hs
        have HRR : Hid (r = rs[k]) := hr
        have hfb := frameB_len r
        obtain ⟨F, hF⟩ : ∃ F, F = frameB r := ⟨_, rfl⟩
        have HFF : Hid (F = frameB r) := hF
        rw [← hF] at hfb HF
        have hfb2 : F.length ≤ 70000 := by omega
        clear hr hs hF hfb hmuch
        go_wp2_with (first
          | (go_at_call 90; refine (refFrame_any _ r _ HSS.out HRL.out).mono ?_; rw [← HFF.out]; rintro e w2 ⟨ao2, cap2, rfl, hown2, hw2⟩)
          | (at_builtin; refine wpList_appT rfl (.tmp 23) (.tmp 25) rfl (w.heap.size + 2) _ xs rfl (own_below hown hw2) _ _ F rfl (own_slice hown2) (xs ++ F) rfl (by simp; omega) (by have := hw2.size; omega) ?_; intro ao3 cap3 w3 hown3 hw3))
        go_roundw
        case rel =>
          refine ⟨k + 1, by omega, by go_num, (cr.trans (hw2.mono (by omega))).trans hw3, ?_, fun j hj hjk => ?_⟩
          · have e1 : l ++ framesB (rs.take (k + 1)) = xs ++ F := by rw [HF.out, HX.out]; simp
            rw [e1, ← List.length_append]; exact hown3
          · by_cases hj2 : j < k
            · exact HSM.out j hj hj2
            · obtain rfl : j = k := by omega
              rw [← HRR.out]; exact HRL.out
        case measure => simp [intOf]; omega
    · have hmn : muchB rs = false := muchB_none rs (fun j hj => HSM.out j hj (by omega))
      have ej : xs = l ++ framesB rs := by rw [HX.out, show k = rs.length by omega, List.take_of_length_le (Nat.le_refl _)]
      have hxz : xs.length = l.length + sizeR rs := by rw [ej, List.length_append, framesB_len]
      have EJ : Hid (xs = l ++ framesB rs) := ej
      by_cases hf : 6000 < l.length + sizeR rs
      · have HM : Hid (appE l rs = 8 ∧ appB l rs = []) := app_full l rs hmn hf
        have hgt : (6000 : Int) < (xs.length : Int) := by omega
        clear ej hxz hf hmn
        go_wp2
        refine bodyPost_ret (v := .tuple #[.agg #[.slice none 0 0, .int .i64 0], .int .i64 8]) (by simp [results, Try.results59, go_sem, *]; done) rfl ?_
        obtain ⟨q1, q2, q3⟩ := hall.out
        rw [q1, q2, q3, HM.out.1, HM.out.2]
        exact ⟨_, _, rfl, SliceB.nil _ _, bw.out _ _⟩
      · have HM : Hid (appE l rs = 0 ∧ appB l rs = l ++ framesB rs) := app_ok l rs hmn hf
        have hgt : ¬ (6000 : Int) < (xs.length : Int) := by omega
        clear ej hxz hf hmn
        go_wp2
        refine bodyPost_ret (v := .tuple #[.agg #[.slice va' xs.length vc', .int .i64 sure], .int .i64 0]) (by simp [results, Try.results59, go_sem, *]; done) rfl ?_
        obtain ⟨q1, q2, q3⟩ := hall.out
        rw [q1, q2, q3, HM.out.1, HM.out.2, ← EJ.out]
        exact ⟨_, _, rfl, own_slice (ownsRow_setCell_below (ownsRow_setCell_below hown (by simp) _) (by simp) _), bw.out _ _⟩

theorem refAppend_any (u v : Value) (sure : Int) (l : List UInt8) (rs : List (List UInt8)) (w : World) (hu : SliceB w.heap.size w u l) (hv : SliceS w.heap.size w v rs) (hn : rs.length ≤ 1048576) (hll : l.length ≤ 4194304) :
    Calls Try.prog 59 #[.agg #[u, .int .i64 sure], v] w fun e w' => LogIs w w' e (appB l rs) (if appE l rs = 0 then sure else 0) (appE l rs) :=
  refAppend_at u v sure l rs w hu hv hn hll _ _ _ ⟨rfl, rfl, rfl⟩
end Go.Proofs.Ytkddkpdfeeikhaa.SR

/-
  tgref1.Write.
-/
namespace Go.Proofs.Ytkddkpdfeeikhaa
open Go.RowKit
set_option linter.unusedVariables false
set_option linter.unusedSimpArgs false

attribute [local go_sem ↓] Go.wp_at_zero Go.wp_at_succ

set_option maxRecDepth 100000 in
set_option maxHeartbeats 3200000 in
theorem refWrite_any (u ev : Value) (sure : Int) (l : List UInt8) (es : List ED) (w : World) (hu : SliceB (Under w.heap.size) w u l) (he : SliceE (Under w.heap.size) w ev es) (hr : ∀ e ∈ es, e.right) (hel : es.length ≤ 1048576) (hll : l.length ≤ 4194304) :
    Calls Try.prog 21 #[.agg #[u, .int .i64 sure], ev] w fun r w' => SR.LogIs w w' r (SR.appB l (es.map entryB)) (if SR.appE l (es.map entryB) = 0 then sure else 0) (SR.appE l (es.map entryB)) := by
  have HU : Hid (SliceB (Under w.heap.size) w u l) := hu
  have HE : Hid (SliceE (Under w.heap.size) w ev es) := he
  have HR : Hid (∀ e ∈ es, e.right) := hr
  obtain ⟨ua, uc, rfl, -⟩ := SliceV.shape hu
  obtain ⟨va, vc, rfl, hv1, hv2, -⟩ := he.shape
  unfold maxLen at hv2
  clear hu he hr
  obtain ⟨n, hn⟩ : ∃ n, n = es.length := ⟨_, rfl⟩
  have HN : Hid (n = es.length) := hn
  rw [← hn] at hel hv1
  rw [← hn]
  clear hn
  obtain ⟨ans, hans⟩ : ∃ ans, ans = SR.appB l (es.map entryB) := ⟨_, rfl⟩
  obtain ⟨sr, hsr⟩ : ∃ sr, sr = (if SR.appE l (es.map entryB) = 0 then sure else 0) := ⟨_, rfl⟩
  obtain ⟨er, her⟩ : ∃ er, er = SR.appE l (es.map entryB) := ⟨_, rfl⟩
  have HANS : Hid (ans = SR.appB l (es.map entryB) ∧ sr = (if SR.appE l (es.map entryB) = 0 then sure else 0) ∧ er = SR.appE l (es.map entryB)) := ⟨hans, hsr, her⟩
  rw [← hans, ← hsr, ← her]
  clear hans hsr her
  obtain ⟨A, hA⟩ : ∃ A, A = (w.alloc (.cells #[.slice ua l.length uc, .int .i64 sure] 32)).alloc (.cells #[.slice none 0 0, .int .i64 0] 32) := ⟨_, rfl⟩
  have hAz : A.heap.size = w.heap.size + 2 := by rw [hA]; simp
  have hAB : Below w.heap.size w A := by rw [hA]; exact (below_alloc _ _).alloc (by simp) _
  have hA0 : Blk A w.heap.size [.slice ua l.length uc, .int .i64 sure] := by rw [hA]; exact (Blk.new _ _ _).alloc _
  have hA1 : Blk A (w.heap.size + 1) [.slice none 0 0, .int .i64 0] := by
    rw [hA]
    have := Blk.new (w.alloc (.cells #[.slice ua l.length uc, .int .i64 sure] 32)) [.slice none 0 0, .int .i64 0] 32
    simpa using this
  have HAB : Hid (Below w.heap.size w A ∧ Blk A w.heap.size [.slice ua l.length uc, .int .i64 sure] ∧ Blk A (w.heap.size + 1) [.slice none 0 0, .int .i64 0]) := ⟨hAB, hA0, hA1⟩
  clear hAB hA0 hA1
  go_enter Try.func21, Try.ntmps21
  go_upto_region 1 with fail
  rw [← hA]
  clear hA
  go_wp2_with fail
  go_loopw [6, 11] (fun v i wr => ∃ (k : Nat) (vs : List Value), k ≤ n ∧ i = .int .i64 k ∧ SR.RowS A.heap.size wr v vs ((es.take k).map entryB) ∧ Below A.heap.size A wr) (fun _ i _ => n - (intOf i).toNat)
  case atStart => exact ⟨0, [], Nat.zero_le _, rfl, SR.RowS.nil _ _, Below.refl _ _⟩
  case round =>
    obtain ⟨k, vs, hk, rfl, hrow, hbel⟩ := hrel
    have HW : Hid (SR.RowS A.heap.size wr _ vs ((es.take k).map entryB)) := hrow
    have HBL : Hid (Below A.heap.size A wr) := hbel
    obtain ⟨ra, rc, rfl, hr1, hr2, -⟩ := own_shape hrow.1
    have hz := hbel.size
    have hkl : ((es.take k).map entryB).length = k := by have := HN.out; simp; omega
    have hw1 := hrow.1
    rw [hkl] at HW hr1 hw1 ⊢
    have HO : Hid (wr.ownsRow A.heap.size 26 1 (.slice ra k rc) k vs) := hw1
    have HKL : Hid (((es.take k).map entryB).length = k) := hkl
    unfold maxLen at hr2
    have hBw : Below w.heap.size w wr := HAB.out.1.trans (hbel.mono (by omega))
    clear hrow hbel hkl hw1
    by_cases hlt : k < n
    · have hk2 : k < es.length := by rw [← HN.out]; exact hlt
      obtain ⟨b, off, pa, pc, qa, qc, rfl, hS, hnt, ⟨c0, c1, c2, c3⟩, c4, c5⟩ := (SliceE.sub (T := Under w.heap.size) HE.out (fun b hb => ⟨hb, hBw.block b hb⟩)).at k hk2
      have HNT : Hid (NoteIs (Under w.heap.size) wr (.slice pa es[k].note.props.length pc, .slice qa es[k].note.body.length qc) es[k].note) := hnt
      obtain ⟨e, hee⟩ : ∃ e, e = es[k] := ⟨_, rfl⟩
      have HEE : Hid (e = es[k]) := hee
      rw [← hee] at c0 c1 c2 c3 c4 c5 HNT
      have hbw : b < wr.heap.size := by have := hBw.size; have : b < w.heap.size := hS; omega
      clear hnt hee
      have HJB : Hid (∀ W, Below wr.heap.size wr W → Calls Try.prog 16 #[.agg #[.int .i64 e.kind, .string e.queue, .int .i64 e.n, .int .i64 e.id, .slice pa e.note.props.length pc, .slice qa e.note.body.length qc]] W fun r w' => ∃ v, r = .returned v ∧ w'.ownsRow W.heap.size 5 1 v (entryB e).length (u8s (entryB e)) ∧ Below W.heap.size W w') := by
        show ∀ W, Below wr.heap.size wr W → _
        intro W hW
        have h1 := hBw.size
        exact NT.refEntryB_any e (by rw [HEE.out]; exact HR.out _ (List.getElem_mem hk2)) _ _ W (HNT.out.sub fun b hb => ⟨by have := hW.size; have : b < w.heap.size := hb; show b < W.heap.size; omega, hW.block b (by have : b < w.heap.size := hb; omega)⟩)
      go_wp2_with (first
        | (go_at_call 16; refine (HJB.out _ (below_alloc _ _)).mono ?_; rintro r w2 ⟨x, rfl, hx2, hb2⟩; obtain ⟨xa, xc, rfl, hx3, hx4, -⟩ := own_shape hx2; have hz2 := hb2.size; simp only [World.size_alloc] at hz2)
        | (at_builtin; refine SR.wpList_appV rfl (.tmp 15) (.tmp 18) rfl A.heap.size _ k vs rfl ((own_below (own_below HO.out (below_alloc _ _)) hb2).alloc _) (w2.heap.size + 1) _ [.slice xa (entryB e).length xc] rfl (SR.new_row w2 _) (by intro x hx; simp at hx; subst hx; rfl) (by simp; omega) (by simp at hz2 ⊢; omega) ?_; intro ao cap4 w4 hown4 hg4 hm4))
      have hp := (rowS_below HW.out (below_alloc wr _)).push (r := entryB e) (by simp; omega) hb2 hx2 (by rw [HKL.out]; simpa using hown4) hg4 hm4
      have hbn : Below A.heap.size A w4 := by
        have c1 : Below A.heap.size A w2 := HBL.out.trans (((below_alloc wr _).trans (hb2.mono (by simp))).mono hz)
        exact (c1.alloc c1.size _).trans (SR.own_dropG ((own_below (own_below HO.out (below_alloc _ _)) hb2).alloc _) (by have := c1.size; simp; omega) hg4)
      have hst : (es.take k).map entryB ++ [entryB e] = (es.take (k + 1)).map entryB := by
        rw [List.take_succ_eq_append_getElem hk2, List.map_append, HEE.out]
        rfl
      rw [hst] at hp
      go_roundw
      case rel => exact ⟨k + 1, _, by omega, by go_num, hp, hbn⟩
      case measure => simp [intOf]; omega
    · obtain rfl : k = n := by omega
      have hes : (es.take k).map entryB = es.map entryB := by rw [List.take_of_length_le (by have := HN.out; omega)]
      rw [hes] at HW
      obtain ⟨a0, a1, a2, a3⟩ := (HAB.out.2.1.below HBL.out (by omega)).b2
      obtain ⟨b0, b1, b2, b3⟩ := (HAB.out.2.2.below HBL.out (by omega)).b2
      have HAP : Hid (Calls Try.prog 59 #[.agg #[.slice ua l.length uc, .int .i64 sure], .slice ra k rc] wr fun e w' => SR.LogIs wr w' e (SR.appB l (es.map entryB)) (if SR.appE l (es.map entryB) = 0 then sure else 0) (SR.appE l (es.map entryB))) :=
        SR.refAppend_any _ _ sure l (es.map entryB) wr (bytes_sr (SliceV.sub HU.out fun b hb => ⟨Nat.lt_of_lt_of_le hb hBw.size, hBw.block b hb⟩)) HW.out.slice (by simp; have := HN.out; omega) hll
      have HBW : Hid (Below w.heap.size w wr ∧ A.heap.size ≤ wr.heap.size) := ⟨hBw, hz⟩
      clear hBw
      rw [← HANS.out.1, ← HANS.out.2.1, ← HANS.out.2.2] at HAP
      go_wp2_with (go_at_call 59; refine HAP.out.mono ?_; rintro r w5 ⟨ao, cap5, rfl, hs5, hb5⟩; have HB5 : Hid (SR.SliceB w5.heap.size w5 (.slice ao ans.length cap5) ans ∧ Below wr.heap.size wr w5) := ⟨hs5, hb5⟩; have hD := ((HAB.out.2.2.below HBL.out (by omega)).below hb5 b3); have HD : Hid (Blk w5 (w.heap.size + 1) [.slice none 0 0, .int .i64 0]) := hD; obtain ⟨d0, d1, d2, d3⟩ := hD.b2; clear hs5 hb5 hD)
      have hne : w.heap.size ≠ w.heap.size + 1 := by omega
      refine bodyPost_ret (v := .tuple #[.agg #[.slice ao ans.length cap5, .int .i64 sr], .int .i64 er]) (by simp [results, Try.results21, go_sem, *]; done) rfl ⟨ao, cap5, rfl, ?_, ?_⟩
      · exact bytes_off HB5.out.1 HD.out
      · iterate 2 refine Below.setCell ?_ (show w.heap.size ≤ w.heap.size + 1 by omega) _
        exact HBW.out.1.trans (HB5.out.2.mono (by have := HBW.out.1.size; omega))
end Go.Proofs.Ytkddkpdfeeikhaa
