/-
  tglaw4.HallDead answers true.
-/
import Derived.Test.YthdaccmjipomdabDeadF
import Derived.Test.YthdaccmjipomdabAlive
import Derived.Test.YthdaccmjipomdabRefX
import Derived.Deep.QuietTactic
import Derived.BigQuiet
namespace Go.Proofs.Ythdaccmjipomdab
open Go.RowKit
set_option linter.unusedVariables false
set_option linter.unusedSimpArgs false

attribute [local go_sem ↓] Go.wp_at_zero Go.wp_at_succ

theorem good_hW {its : List IT} {D : List QD} {n : Int} (hi : its.length ≤ 8 ∧ ∀ i ∈ its, i.good) (hD : D.length ≤ 3 ∧ ∀ q ∈ D, q.good) (hn : 0 ≤ n ∧ n ≤ 10) : (hW its D n).good 10 := by
  refine ⟨by have := hD.1; simp [hW]; omega, hn, fun q hq => ?_⟩
  simp only [hW, List.mem_cons] at hq
  rcases hq with rfl | hq
  · exact ⟨by simp, hi.1, hi.2⟩
  · exact hD.2 q hq
theorem good_iK {id : Int} {m : ND} (hm : m.small) {k : Int} (hk : 0 ≤ k ∧ k ≤ 2) : (iK id m k).good := ⟨hm, ⟨by simp [iK]; omega, by simp [iK]; omega⟩, by simp [iK]; omega⟩
theorem good_iT {id : Int} {m : ND} (hm : m.small) {k : Int} (hk : 0 ≤ k ∧ k ≤ 2) : (iT id m k).good := ⟨hm, ⟨by simp [iT]; omega, by simp [iT]; omega⟩, by simp [iT]; omega⟩
def DOk (D : List QD) : Prop := D.length ≤ 3 ∧ ∀ q ∈ D, q.good
theorem dok0 : DOk [] := ⟨by simp, by simp⟩
theorem dok1 : DOk [qD []] := ⟨by simp, fun q hq => by simp at hq; subst hq; exact ⟨by simp [qD], by simp [qD], by simp [qD]⟩⟩
theorem dok2 : DOk [qD [newI 0 nN]] := ⟨by simp, fun q hq => by
  simp at hq; subst hq
  exact ⟨by simp [qD], by simp [qD], fun i hi => by simp [qD] at hi; subst hi; exact ⟨by simp [newI, nN, ND.small], by simp [newI, IT.fits], by simp [newI]⟩⟩⟩

theorem c_make1 (w : World) : Calls Try.prog 23 #[.agg #[.slice none 0 0, .int .i64 0], .string workN, .int .i64 2] w fun e w' => ∃ va vc ea ec, e = .returned (.tuple #[.agg #[.slice va 1 vc, .int .i64 0], .slice ea 1 ec, .int .i64 0]) ∧ SliceQ (Made w.heap.size w'.heap.size) w' (.slice va 1 vc) (hW [] [] 0).queues ∧ Below w.heap.size w w' :=
  (hallMake_any (.slice none 0 0) ⟨[], 0⟩ workN 2 w (SliceQ.nil _ _) ⟨by simp, by simp⟩ (by show 4 ≤ maxLen; unfold maxLen; omega)).mono fun e w' h => by
    rw [dd1] at h
    obtain ⟨⟨va, vc, ea, ec, e, h1, -⟩, h3⟩ := h
    exact ⟨va, vc, ea, ec, e, h1, h3⟩
theorem c_make2 (v : Value) (w : World) (hv : SliceQ (Under w.heap.size) w v (hW [] [] 0).queues) : Calls Try.prog 23 #[.agg #[v, .int .i64 0], .string deadN, .int .i64 1] w fun e w' => ∃ va vc ea ec, e = .returned (.tuple #[.agg #[.slice va 2 vc, .int .i64 0], .slice ea 1 ec, .int .i64 0]) ∧ SliceQ (Made w.heap.size w'.heap.size) w' (.slice va 2 vc) (hW [] [qD []] 0).queues ∧ Below w.heap.size w w' :=
  (hallMake_any v (hW [] [] 0) deadN 1 w hv (good_hW ⟨by simp, by simp⟩ dok0 ⟨by omega, by omega⟩).small (by show 4 ≤ maxLen; unfold maxLen; omega)).mono fun e w' h => by
    rw [dd2] at h
    obtain ⟨⟨va, vc, ea, ec, e, h1, -⟩, h3⟩ := h
    exact ⟨va, vc, ea, ec, e, h1, h3⟩
theorem c_put0 (v : Value) (w : World) (hv : SliceQ (Under w.heap.size) w v (hW [] [qD []] 0).queues) : Calls Try.prog 27 #[.agg #[v, .int .i64 0], .string deadN, .agg #[.slice none 0 0, .slice none 0 0]] w fun e w' => ∃ va vc ea ec, e = .returned (.tuple #[.agg #[.slice va 2 vc, .int .i64 1], .slice ea 1 ec, .int .i64 0]) ∧ SliceQ (Made w.heap.size w'.heap.size) w' (.slice va 2 vc) (hW [] [qD [newI 0 nN]] 1).queues ∧ Below w.heap.size w w' :=
  (hallPut_any v (hW [] [qD []] 0) deadN (.slice none 0 0) (.slice none 0 0) nN w hv (good_hW ⟨by simp, by simp⟩ dok1 ⟨by omega, by omega⟩).small ⟨by simp [hW], by simp [hW]⟩ (NoteIs.nil _ _) (by intro p hp; simp [nN] at hp)).mono fun e w' h => by
    rw [dd3] at h
    obtain ⟨⟨va, vc, ea, ec, e, h1, -⟩, h3⟩ := h
    exact ⟨va, vc, ea, ec, e, h1, h3⟩
section
variable {D : List QD} {L : Nat} {m : ND}
theorem c_put (hL : D.length + 1 = L) (hD : DOk D) (hm : m.wrong = 0) (hf : m.fitN) (n : Int) (hn : 0 ≤ n ∧ n ≤ 9) (v pv bv : Value) (w : World) (hv : SliceQ (Under w.heap.size) w v (hW [] D n).queues) (hN : NoteIs (Under w.heap.size) w (pv, bv) m) : Calls Try.prog 27 #[.agg #[v, .int .i64 n], .string workN, .agg #[pv, bv]] w fun e w' => ∃ va vc ea ec, e = .returned (.tuple #[.agg #[.slice va L vc, .int .i64 (n + 1)], .slice ea 1 ec, .int .i64 0]) ∧ SliceQ (Made w.heap.size w'.heap.size) w' (.slice va L vc) (hW [iK n m 0] D (n + 1)).queues ∧ Below w.heap.size w w' :=
  (hallPut_any v (hW [] D n) workN pv bv m w hv (good_hW ⟨by simp, by simp⟩ hD ⟨by omega, by omega⟩).small ⟨hn.1, by have := hn.2; simp [hW]; omega⟩ hN hf).mono fun e w' h => by
    rw [dd4 D n m hm] at h
    subst hL
    obtain ⟨⟨va, vc, ea, ec, e, h1, -⟩, h3⟩ := h
    exact ⟨va, vc, ea, ec, e, h1, h3⟩
theorem c_take (hL : D.length + 1 = L) (hD : DOk D) (hm : m.wrong = 0) (n id k : Int) (hn : 0 ≤ n ∧ n ≤ 10) (hk : 0 ≤ k ∧ k ≤ 2) (v : Value) (w : World) (hv : SliceQ (Under w.heap.size) w v (hW [iK id m k] D n).queues) : Calls Try.prog 37 #[.agg #[v, .int .i64 n], .string workN, .int .i64 k] w fun e w' => ∃ va vc pa pc qa qc, e = .returned (.tuple #[.agg #[.slice va L vc, .int .i64 n], .agg #[.int .i64 id, .int .i64 (k + 1), .int .i64 k, .bool true, .int .i64 (k + 5), .slice pa m.props.length pc, .slice qa m.body.length qc], .int .i64 0]) ∧ SliceQ (Made w.heap.size w'.heap.size) w' (.slice va L vc) (hW [iT id m k] D n).queues ∧ NoteIs (Made w.heap.size w'.heap.size) w' (.slice pa m.props.length pc, .slice qa m.body.length qc) m ∧ Below w.heap.size w w' := by
  have hg := good_hW (its := [iK id m k]) (n := n) ⟨by simp, fun i hi => by simp at hi; subst hi; exact good_iK (wrong_small hm) hk⟩ hD hn
  refine (hallTake_any v (hW [iK id m k] D n) workN k ⟨by omega, by omega⟩ w hv hg.small hg.fits).mono fun e w' h => ?_
  rw [(dd5 D n id m k).1, (dd5 D n id m k).2] at h
  subst hL
  obtain ⟨⟨va, vc, pa, pc, qa, qc, e, h1, h2⟩, h3⟩ := h
  exact ⟨va, vc, pa, pc, qa, qc, e, h1, h2, h3⟩
theorem c_back (hL : D.length + 1 = L) (hD : DOk D) (hm : m.wrong = 0) (n id k : Int) (hn : 0 ≤ n ∧ n ≤ 10) (hk : 0 ≤ k ∧ k + 1 < 3) (v : Value) (w : World) (hv : SliceQ (Under w.heap.size) w v (hW [iT id m k] D n).queues) : Calls Try.prog 31 #[.agg #[v, .int .i64 n], .agg #[.int .i64 0, .string workN, .int .i64 id, .int .i64 (k + 1)]] w fun e w' => ∃ va vc ea el ec, e = .returned (.tuple #[.agg #[.slice va L vc, .int .i64 n], .slice ea el ec, .int .i64 0]) ∧ SliceQ (Made w.heap.size w'.heap.size) w' (.slice va L vc) (hW [iK id m (k + 1)] D n).queues ∧ Below w.heap.size w w' := by
  have hg := good_hW (its := [iT id m k]) (n := n) ⟨by simp, fun i hi => by simp at hi; subst hi; exact good_iT (wrong_small hm) ⟨hk.1, by omega⟩⟩ hD hn
  refine (hallBack_any v (hW [iT id m k] D n) 0 workN id (k + 1) w hv hg.small hg.fits ⟨hn.1, by have := hn.2; simp [hW]; omega⟩).mono fun e w' h => ?_
  rw [dd6 D n id m k hk.2] at h
  subst hL
  obtain ⟨⟨va, vc, ea, ec, e, h1, -⟩, h3⟩ := h
  exact ⟨va, vc, ea, _, ec, e, h1, h3⟩
theorem c_back2 (hL : D.length + 1 = L) (hD : DOk D) (hm : m.wrong = 0) {hF : HD} {es : List ED} (n id : Int) (hn : 0 ≤ n ∧ n ≤ 10) (has : asideF (hW [] D n) 0 m = (hF, es)) (hFL : hF.queues.length = L) (v : Value) (w : World) (hv : SliceQ (Under w.heap.size) w v (hW [iT id m 2] D n).queues) : Calls Try.prog 31 #[.agg #[v, .int .i64 n], .agg #[.int .i64 0, .string workN, .int .i64 id, .int .i64 3]] w fun e w' => ∃ va vc ea el ec, e = .returned (.tuple #[.agg #[.slice va L vc, .int .i64 hF.next], .slice ea el ec, .int .i64 0]) ∧ SliceQ (Made w.heap.size w'.heap.size) w' (.slice va L vc) hF.queues ∧ Below w.heap.size w w' := by
  have hg := good_hW (its := [iT id m 2]) (n := n) ⟨by simp, fun i hi => by simp at hi; subst hi; exact good_iT (wrong_small hm) ⟨by omega, by omega⟩⟩ hD hn
  have h7 := dd7 D n id m
  have e3 : (2 + 1 : Int) = 3 := rfl
  rw [e3] at h7
  refine (hallBack_any v (hW [iT id m 2] D n) 0 workN id 3 w hv hg.small hg.fits ⟨hn.1, by have := hn.2; simp [hW]; omega⟩).mono fun e w' h => ?_
  rw [h7, has] at h
  subst hFL
  obtain ⟨⟨va, vc, ea, ec, e, h1, -⟩, h3⟩ := h
  exact ⟨va, vc, ea, _, ec, e, h1, h3⟩
end

/-- The law's hall in its box. -/
structure DS (wm : World) (lo hbx : Nat) (h : HD) (L : Nat) (va : Option Addr) (vc : Nat) (W : World) : Prop where
  keep : Below lo wm W
  box : Blk W hbx [.slice va L vc, .int .i64 h.next]
  q : SliceQ (fun b => b < W.heap.size ∧ b ≠ hbx) W (.slice va L vc) h.queues
  hl : lo ≤ hbx
theorem DS.under {wm : World} {lo hbx : Nat} {h : HD} {L : Nat} {va : Option Addr} {vc : Nat} {W : World} (H : DS wm lo hbx h L va vc W) : SliceQ (Under W.heap.size) W (.slice va L vc) h.queues := H.q.sub fun b hb => ⟨hb.1, rfl⟩
theorem DS.up {wm : World} {lo hbx : Nat} {h : HD} {L : Nat} {va : Option Addr} {vc : Nat} {W W' : World} (H : DS wm lo hbx h L va vc W) (hb : Below W.heap.size W W') : DS wm lo hbx h L va vc W' :=
  ⟨H.keep.trans (hb.mono (by have := H.box.lt; have := H.hl; omega)), H.box.below hb H.box.lt, H.q.sub fun b hb' => ⟨⟨by have := hb.size; omega, hb'.2⟩, hb.block b hb'.1⟩, H.hl⟩
theorem DS.set {wm : World} {lo hbx : Nat} {h : HD} {L : Nat} {va : Option Addr} {vc : Nat} {W w' : World} (H : DS wm lo hbx h L va vc W) (hb : Below W.heap.size W w') {h' : HD} {L' : Nat} {va' : Option Addr} {vc' : Nat} (hQ : SliceQ (Made W.heap.size w'.heap.size) w' (.slice va' L' vc') h'.queues) :
    DS wm lo hbx h' L' va' vc' ((w'.setCell ⟨hbx, 0, none⟩ (.slice va' L' vc')).setCell ⟨hbx, 1, none⟩ (.int .i64 h'.next)) := by
  have H1 := H.up hb
  have hl := H.hl
  have hbl := H.box.lt
  refine ⟨(H1.keep.setCell (by simp; omega) _).setCell (by simp; omega) _, (H1.box.set 0 _).set 1 _, hQ.sub fun b hb' => ?_, hl⟩
  have hne : b ≠ hbx := by have := hb'.1; omega
  exact ⟨⟨by simpa using hb'.2, hne⟩, (Below.heap_setCell _ _ _ _ hne).trans (Below.heap_setCell _ _ _ _ hne)⟩
theorem DS.new {wm : World} {lo : Nat} {h : HD} {L : Nat} {va : Option Addr} {vc : Nat} {w' : World} (hk : Below lo wm w') (hl : lo ≤ w'.heap.size) (hQ : SliceQ (Under w'.heap.size) w' (.slice va L vc) h.queues) : DS wm lo w'.heap.size h L va vc (w'.alloc (.cells #[.slice va L vc, .int .i64 h.next] 43)) :=
  ⟨hk.alloc hl _, Blk.new _ _ _, hQ.sub fun b hb => ⟨⟨by have : b < w'.heap.size := hb; simp; omega, by have : b < w'.heap.size := hb; omega⟩, Below.heap_alloc _ _ _ hb⟩, hl⟩
theorem DS.drew {wm : World} {lo hbx : Nat} {h : HD} {L : Nat} {va : Option Addr} {vc : Nat} {W : World} (H : DS wm lo hbx h L va vc W) : DS wm lo hbx h L va vc W.drew := ⟨H.keep.drew, H.box, H.q.sub fun b hb => ⟨hb, rfl⟩, H.hl⟩

def stF (a b : HD) (k : Nat) : HD := if k < 3 then a else b
theorem stF_lt {a b : HD} {k : Nat} (h : k < 3) : stF a b k = a := if_pos h
theorem stF_3 {a b : HD} : stF a b 3 = b := rfl
theorem two_al (w : World) (o1 o2 : Obj) : Below w.heap.size w ((w.alloc o1).alloc o2) := (below_alloc _ _).alloc (by simp) _
theorem note_at {w wm W : World} {pv bv : Value} {m : ND} (hn : NoteIs (Under w.heap.size) w (pv, bv) m) (h0 : Below w.heap.size w wm) (hk : Below (w.heap.size + 1) wm W) : NoteIs (Under W.heap.size) W (pv, bv) m :=
  hn.sub fun b hb => ⟨by have : b < w.heap.size := hb; have := hk.size; have := h0.size; show b < _; omega, (hk.block b (by have : b < w.heap.size := hb; omega)).trans (h0.block b hb)⟩

set_option maxRecDepth 100000 in
set_option maxHeartbeats 4000000 in
theorem dead_0 (pv bv : Value) (m : ND) (hm : m.wrong = 0) (hf : m.fitN) (w : World) (hn : NoteIs (Under w.heap.size) w (pv, bv) m) (room : Bool) :
    Calls Try.prog 7 #[.agg #[pv, bv], .bool false, .bool room] w fun e w' => e = .returned (.bool true) ∧ Below w.heap.size w w' := by
  have HN : Hid (NoteIs (Under w.heap.size) w (pv, bv) m) := hn
  have HM : Hid (m.wrong = 0 ∧ m.fitN) := ⟨hm, hf⟩
  obtain ⟨pa, pc, rfl, -⟩ := SliceV.shape hn.1
  obtain ⟨ba, bc, rfl, -⟩ := SliceV.shape hn.2
  clear hn hm hf
  obtain ⟨wm, hwm⟩ : ∃ wm, wm = w.alloc (.cells #[.slice pa m.props.length pc, .slice ba m.body.length bc] 32) := ⟨_, rfl⟩
  have hzm : wm.heap.size = w.heap.size + 1 := by rw [hwm]; simp
  have HB0 : Hid (Below w.heap.size w wm) := by rw [hwm]; exact below_alloc _ _
  have HMB : Hid (Blk wm w.heap.size [.slice pa m.props.length pc, .slice ba m.body.length bc]) := by rw [hwm]; exact Blk.new _ _ _
  go_enter Try.func7, Try.ntmps7
  go_upto_region 1 with fail
  rw [← hwm]
  clear hwm
  go_upto_region 3 with (go_at_call 40; refine (alive_any _).mono ?_; rintro e w1 ⟨rfl, hb1⟩)
  have K1 : Hid (Below (w.heap.size + 1) wm w1) := by rw [← hzm]; exact hb1
  clear hb1
  obtain ⟨a0, a1, a2, a3⟩ := (HMB.out.below K1.out (by omega)).b2
  go_upto_region 5 with (go_at_call 43; refine (refWrongN_any _ _ m _ (note_at HN.out HB0.out K1.out) HM.out.2).mono ?_; rw [HM.out.1]; rintro e w2 ⟨rfl, hb2⟩)
  have K2 : Hid (Below (w.heap.size + 1) wm w2) := K1.out.trans (hb2.mono (by have := K1.out.size; omega))
  clear hb2 a0 a1 a2
  go_upto_region 6 with (go_at_call 23; refine (c_make1 _).mono ?_; rintro e w3 ⟨va3, vc3, ea3, ec3, rfl, q3, hb3⟩)
  have hz3 : w.heap.size + 1 ≤ w3.heap.size := by have h1 := K2.out.size; have h2 := hb3.size; omega
  obtain ⟨W3, hW3⟩ : ∃ W3, W3 = w3.alloc (.cells #[.slice va3 1 vc3, .int .i64 0] 43) := ⟨_, rfl⟩
  have S3 : Hid (DS wm (w.heap.size + 1) w3.heap.size (hW [] [] 0) 1 va3 vc3 W3) := by rw [hW3]; exact DS.new (K2.out.trans (hb3.mono (by have := K2.out.size; omega))) hz3 q3.under
  rw [← hW3]
  clear hW3 hb3 q3
  obtain ⟨X, hX⟩ : ∃ X, X = w3.heap.size := ⟨_, rfl⟩
  rw [← hX] at S3 hz3
  rw [← hX]
  clear hX
  obtain ⟨b0, b1, b2, b3x⟩ := S3.out.box.b2
  simp only [hW] at b1
  obtain ⟨a0, a1, a2, a3x⟩ := (HMB.out.below S3.out.keep (by omega)).b2
  go_upto_region 11 with (go_at_call 27; refine (c_put (D := []) (L := 1) rfl dok0 HM.out.1 HM.out.2 0 ⟨by omega, by omega⟩ _ _ _ _ S3.out.under (note_at HN.out HB0.out S3.out.keep)).mono ?_; rintro e w6 ⟨va6, vc6, ea6, ec6, rfl, q6, hb6⟩; obtain ⟨c0, c1, c2, c3⟩ := (S3.out.up hb6).box.b2; simp only [hW] at c1)
  have q6' : SliceQ (Made W3.heap.size w6.heap.size) w6 (.slice va6 1 vc6) (hW [iK 0 m 0] [] 1).queues := q6
  obtain ⟨W6, hW6⟩ : ∃ W6, W6 = (w6.setCell ⟨X, 0, none⟩ (.slice va6 1 vc6)).setCell ⟨X, 1, none⟩ (.int .i64 (0 + 1)) := ⟨_, rfl⟩
  have S6 : Hid (DS wm (w.heap.size + 1) X (hW [iK 0 m 0] [] 1) 1 va6 vc6 W6) := by rw [hW6]; exact S3.out.set hb6 (h' := hW [iK 0 m 0] [] 1) q6'
  first | rw [← hW6] | (simp only [Int.reduceAdd] at hW6; rw [← hW6])
  clear hW6 hb6 q6 q6' b0 b1 b2 c0 c1 c2 a0 a1 a2
  go_wp2_with fail
  go_loopw [53] (fun i wr => ∃ k : Nat, k ≤ 3 ∧ i = .int .i64 k ∧ ∃ va vc, DS wm (w.heap.size + 1) X (stF (hW [iK 0 m k] [] 1) (hW [] [] 1) k) 1 va vc wr) (fun i _ => 3 - (intOf i).toNat)
  case atStart => exact ⟨0, by omega, rfl, _, _, S6.out⟩
  case round =>
    obtain ⟨k, hk, rfl, va, vc, hI⟩ := hrel
    clear S6
    by_cases hlt : k < 3
    · rw [stF_lt hlt] at hI
      have HI : Hid (DS wm (w.heap.size + 1) X (hW [iK 0 m k] [] 1) 1 va vc wr) := hI
      obtain ⟨b0, b1, b2, b3y⟩ := hI.box.b2
      simp only [hW] at b1
      have hkk : ((k : Int) != (k : Int)) = false := by simp
      have hzr := hI.keep.size
      clear hI
      go_upto_region 19 with (first
        | (go_at_call 37; refine (c_take (D := []) (L := 1) rfl dok0 HM.out.1 1 0 k ⟨by omega, by omega⟩ ⟨by omega, by omega⟩ _ _ HI.out.under).mono ?_; rintro e w7 ⟨va7, vc7, pa7, pc7, qa7, qc7, rfl, q7, n7, hb7⟩; have HI7 : Hid (DS wm (w.heap.size + 1) X (hW [iK 0 m k] [] 1) 1 va vc w7) := HI.out.up hb7; have HQ7 : Hid (SliceQ (Under w7.heap.size) w7 (.slice va7 1 vc7) (hW [iT 0 m k] [] 1).queues ∧ NoteIs (Under w7.heap.size) w7 (.slice pa7 m.props.length pc7, .slice qa7 m.body.length qc7) m) := ⟨q7.under, n7.sub fun b hb => ⟨hb.2, rfl⟩⟩; obtain ⟨a0, a1, a2, a3z⟩ := (HMB.out.below HI7.out.keep (by omega)).b2; have hz7 := hb7.size; clear q7 n7 hb7 b0 b1 b2)
        | (go_at_call 44; refine (same_true _ _ _ _ m _ (HQ7.out.2.sub fun b hb => ⟨Nat.lt_of_lt_of_le hb (by simp; omega), (two_al w7 _ _).block b hb⟩) (note_at HN.out HB0.out (HI7.out.up (two_al w7 _ _)).keep)).mono ?_; rintro e w8 ⟨rfl, hb8⟩; have HB8 : Hid (Below w7.heap.size w7 w8) := (two_al w7 _ _).trans (hb8.mono (by simp; omega)); have x8 := ((Blk.new w7 _ 43).alloc _).below hb8 (by simp; omega); have i8 := (Blk.new (w7.alloc _) _ 34).below hb8 (by simp); simp only [World.size_alloc] at x8 i8; obtain ⟨x0, x1, x2, x3⟩ := x8.b2; obtain ⟨⟨i0, i1, i2, i3⟩, ⟨i4, i5, i6⟩, i7, i8'⟩ := i8.b7; clear hb8 x8 i8 a0 a1 a2))
      by_cases hk2 : k < 2
      · go_wp2_with (go_at_call 31; refine (c_back (D := []) (L := 1) rfl dok0 HM.out.1 1 0 k ⟨by omega, by omega⟩ ⟨by omega, by omega⟩ _ _ (HQ7.out.1.up HB8.out)).mono ?_; rintro e w9 ⟨va9, vc9, ea9, el9, ec9, rfl, q9, hb9⟩; obtain ⟨c0, c1, c2, c3z⟩ := ((HI7.out.up HB8.out).up hb9).box.b2; simp only [hW] at c1; have HNW : Hid (DS wm (w.heap.size + 1) X (stF (hW [iK 0 m ((k + 1 : Nat) : Int)] [] 1) (hW [] [] 1) (k + 1)) 1 va9 vc9 ((w9.setCell ⟨X, 0, none⟩ (.slice va9 1 vc9)).setCell ⟨X, 1, none⟩ (.int .i64 1))) := (by rw [stF_lt (by omega)]; exact (HI7.out.up HB8.out).set hb9 (h' := hW [iK 0 m ((k + 1 : Nat) : Int)] [] 1) (by rw [Int.natCast_succ]; exact q9)); clear q9 hb9)
        go_roundw
        case rel => exact ⟨k + 1, by omega, by go_num, _, _, HNW.out⟩
        case measure => simp [intOf]; omega
      · obtain rfl : k = 2 := by omega
        have has := as0 1 m
        go_wp2_with (go_at_call 31; refine (c_back2 (D := []) (L := 1) rfl dok0 HM.out.1 1 0 ⟨by omega, by omega⟩ has rfl _ _ (HQ7.out.1.up HB8.out)).mono ?_; rintro e w9 ⟨va9, vc9, ea9, el9, ec9, rfl, q9, hb9⟩; obtain ⟨c0, c1, c2, c3z⟩ := ((HI7.out.up HB8.out).up hb9).box.b2; simp only [hW] at c1; have HNW : Hid (DS wm (w.heap.size + 1) X (hW [] [] 1) 1 va9 vc9 ((w9.setCell ⟨X, 0, none⟩ (.slice va9 1 vc9)).setCell ⟨X, 1, none⟩ (.int .i64 1))) := ((HI7.out.up HB8.out).set hb9 (h' := hW [] [] 1) q9); clear q9 hb9)
        go_roundw
        case rel => exact ⟨3, by omega, by go_num, _, _, HNW.out⟩
        case measure => simp [intOf]
    · obtain rfl : k = 3 := by omega
      rw [stF_3] at hI
      have HI : Hid (DS wm (w.heap.size + 1) X (hW [] [] 1) 1 va vc wr) := hI
      obtain ⟨b0, b1, b2, b3y⟩ := hI.box.b2
      obtain ⟨rb, ro, ia, ic, ee, ss, -, -, -, cc⟩ := hI.under.at 0 (by simp [hW])
      subst ee
      have cc' : wr.cell? ⟨rb, ro + 2, none⟩ = some (.slice ia 0 ic) := by simpa [hW] using cc
      have ss' : rb < wr.heap.size := ss
      have HBE : Hid (Below w.heap.size w wr) := HB0.out.trans (hI.keep.mono (by omega))
      clear cc ss
      clear hI
      go_wp2_with fail
      go_ret
      exact ⟨rfl, HBE.out⟩

set_option maxRecDepth 100000 in
set_option maxHeartbeats 4000000 in
theorem dead_1 (pv bv : Value) (m : ND) (hm : m.wrong = 0) (hf : m.fitN) (w : World) (hn : NoteIs (Under w.heap.size) w (pv, bv) m) :
    Calls Try.prog 7 #[.agg #[pv, bv], .bool true, .bool true] w fun e w' => e = .returned (.bool true) ∧ Below w.heap.size w w' := by
  have HN : Hid (NoteIs (Under w.heap.size) w (pv, bv) m) := hn
  have HM : Hid (m.wrong = 0 ∧ m.fitN) := ⟨hm, hf⟩
  obtain ⟨pa, pc, rfl, -⟩ := SliceV.shape hn.1
  obtain ⟨ba, bc, rfl, -⟩ := SliceV.shape hn.2
  clear hn hm hf
  obtain ⟨wm, hwm⟩ : ∃ wm, wm = w.alloc (.cells #[.slice pa m.props.length pc, .slice ba m.body.length bc] 32) := ⟨_, rfl⟩
  have hzm : wm.heap.size = w.heap.size + 1 := by rw [hwm]; simp
  have HB0 : Hid (Below w.heap.size w wm) := by rw [hwm]; exact below_alloc _ _
  have HMB : Hid (Blk wm w.heap.size [.slice pa m.props.length pc, .slice ba m.body.length bc]) := by rw [hwm]; exact Blk.new _ _ _
  go_enter Try.func7, Try.ntmps7
  go_upto_region 1 with fail
  rw [← hwm]
  clear hwm
  go_upto_region 3 with (go_at_call 40; refine (alive_any _).mono ?_; rintro e w1 ⟨rfl, hb1⟩)
  have K1 : Hid (Below (w.heap.size + 1) wm w1) := by rw [← hzm]; exact hb1
  clear hb1
  obtain ⟨a0, a1, a2, a3⟩ := (HMB.out.below K1.out (by omega)).b2
  go_upto_region 5 with (go_at_call 43; refine (refWrongN_any _ _ m _ (note_at HN.out HB0.out K1.out) HM.out.2).mono ?_; rw [HM.out.1]; rintro e w2 ⟨rfl, hb2⟩)
  have K2 : Hid (Below (w.heap.size + 1) wm w2) := K1.out.trans (hb2.mono (by have := K1.out.size; omega))
  clear hb2 a0 a1 a2
  go_upto_region 6 with (go_at_call 23; refine (c_make1 _).mono ?_; rintro e w3 ⟨va3, vc3, ea3, ec3, rfl, q3, hb3⟩)
  have hz3 : w.heap.size + 1 ≤ w3.heap.size := by have h1 := K2.out.size; have h2 := hb3.size; omega
  obtain ⟨W3, hW3⟩ : ∃ W3, W3 = w3.alloc (.cells #[.slice va3 1 vc3, .int .i64 0] 43) := ⟨_, rfl⟩
  have S3 : Hid (DS wm (w.heap.size + 1) w3.heap.size (hW [] [] 0) 1 va3 vc3 W3) := by rw [hW3]; exact DS.new (K2.out.trans (hb3.mono (by have := K2.out.size; omega))) hz3 q3.under
  rw [← hW3]
  clear hW3 hb3 q3
  obtain ⟨X, hX⟩ : ∃ X, X = w3.heap.size := ⟨_, rfl⟩
  rw [← hX] at S3 hz3
  rw [← hX]
  clear hX
  obtain ⟨b0, b1, b2, b3⟩ := S3.out.box.b2
  simp only [hW] at b1
  go_upto_region 8 with (go_at_call 23; refine (c_make2 _ _ S3.out.under).mono ?_; rintro e w4 ⟨va4, vc4, ea4, ec4, rfl, q4, hb4⟩; obtain ⟨c0, c1, c2, c3⟩ := (S3.out.up hb4).box.b2; simp only [hW] at c1)
  obtain ⟨W4, hW4⟩ : ∃ W4, W4 = (w4.setCell ⟨X, 0, none⟩ (.slice va4 2 vc4)).setCell ⟨X, 1, none⟩ (.int .i64 0) := ⟨_, rfl⟩
  have S4 : Hid (DS wm (w.heap.size + 1) X (hW [] [qD []] 0) 2 va4 vc4 W4) := by rw [hW4]; exact S3.out.set hb4 (h' := hW [] [qD []] 0) q4
  rw [← hW4]
  clear hW4 hb4 q4 b0 b1 b2 c0 c1 c2
  obtain ⟨b0, b1, b2, b3x⟩ := S4.out.box.b2
  simp only [hW] at b1
  obtain ⟨a0, a1, a2, a3x⟩ := (HMB.out.below S4.out.keep (by omega)).b2
  go_upto_region 11 with (go_at_call 27; refine (c_put (D := [qD []]) (L := 2) rfl dok1 HM.out.1 HM.out.2 0 ⟨by omega, by omega⟩ _ _ _ _ S4.out.under (note_at HN.out HB0.out S4.out.keep)).mono ?_; rintro e w6 ⟨va6, vc6, ea6, ec6, rfl, q6, hb6⟩; obtain ⟨c0, c1, c2, c3⟩ := (S4.out.up hb6).box.b2; simp only [hW] at c1)
  have q6' : SliceQ (Made W4.heap.size w6.heap.size) w6 (.slice va6 2 vc6) (hW [iK 0 m 0] [qD []] 1).queues := q6
  obtain ⟨W6, hW6⟩ : ∃ W6, W6 = (w6.setCell ⟨X, 0, none⟩ (.slice va6 2 vc6)).setCell ⟨X, 1, none⟩ (.int .i64 (0 + 1)) := ⟨_, rfl⟩
  have S6 : Hid (DS wm (w.heap.size + 1) X (hW [iK 0 m 0] [qD []] 1) 2 va6 vc6 W6) := by rw [hW6]; exact S4.out.set hb6 (h' := hW [iK 0 m 0] [qD []] 1) q6'
  first | rw [← hW6] | (simp only [Int.reduceAdd] at hW6; rw [← hW6])
  clear hW6 hb6 q6 q6' b0 b1 b2 c0 c1 c2 a0 a1 a2
  go_wp2_with fail
  go_loopw [53] (fun i wr => ∃ k : Nat, k ≤ 3 ∧ i = .int .i64 k ∧ ∃ va vc, DS wm (w.heap.size + 1) X (stF (hW [iK 0 m k] [qD []] 1) (hW [] [qD [newI 1 m]] 2) k) 2 va vc wr) (fun i _ => 3 - (intOf i).toNat)
  case atStart => exact ⟨0, by omega, rfl, _, _, S6.out⟩
  case round =>
    obtain ⟨k, hk, rfl, va, vc, hI⟩ := hrel
    clear S6
    by_cases hlt : k < 3
    · rw [stF_lt hlt] at hI
      have HI : Hid (DS wm (w.heap.size + 1) X (hW [iK 0 m k] [qD []] 1) 2 va vc wr) := hI
      obtain ⟨b0, b1, b2, b3y⟩ := hI.box.b2
      simp only [hW] at b1
      have hkk : ((k : Int) != (k : Int)) = false := by simp
      have hzr := hI.keep.size
      clear hI
      go_upto_region 19 with (first
        | (go_at_call 37; refine (c_take (D := [qD []]) (L := 2) rfl dok1 HM.out.1 1 0 k ⟨by omega, by omega⟩ ⟨by omega, by omega⟩ _ _ HI.out.under).mono ?_; rintro e w7 ⟨va7, vc7, pa7, pc7, qa7, qc7, rfl, q7, n7, hb7⟩; have HI7 : Hid (DS wm (w.heap.size + 1) X (hW [iK 0 m k] [qD []] 1) 2 va vc w7) := HI.out.up hb7; have HQ7 : Hid (SliceQ (Under w7.heap.size) w7 (.slice va7 2 vc7) (hW [iT 0 m k] [qD []] 1).queues ∧ NoteIs (Under w7.heap.size) w7 (.slice pa7 m.props.length pc7, .slice qa7 m.body.length qc7) m) := ⟨q7.under, n7.sub fun b hb => ⟨hb.2, rfl⟩⟩; obtain ⟨a0, a1, a2, a3z⟩ := (HMB.out.below HI7.out.keep (by omega)).b2; have hz7 := hb7.size; clear q7 n7 hb7 b0 b1 b2)
        | (go_at_call 44; refine (same_true _ _ _ _ m _ (HQ7.out.2.sub fun b hb => ⟨Nat.lt_of_lt_of_le hb (by simp; omega), (two_al w7 _ _).block b hb⟩) (note_at HN.out HB0.out (HI7.out.up (two_al w7 _ _)).keep)).mono ?_; rintro e w8 ⟨rfl, hb8⟩; have HB8 : Hid (Below w7.heap.size w7 w8) := (two_al w7 _ _).trans (hb8.mono (by simp; omega)); have x8 := ((Blk.new w7 _ 43).alloc _).below hb8 (by simp; omega); have i8 := (Blk.new (w7.alloc _) _ 34).below hb8 (by simp); simp only [World.size_alloc] at x8 i8; obtain ⟨x0, x1, x2, x3⟩ := x8.b2; obtain ⟨⟨i0, i1, i2, i3⟩, ⟨i4, i5, i6⟩, i7, i8'⟩ := i8.b7; clear hb8 x8 i8 a0 a1 a2))
      by_cases hk2 : k < 2
      · go_wp2_with (go_at_call 31; refine (c_back (D := [qD []]) (L := 2) rfl dok1 HM.out.1 1 0 k ⟨by omega, by omega⟩ ⟨by omega, by omega⟩ _ _ (HQ7.out.1.up HB8.out)).mono ?_; rintro e w9 ⟨va9, vc9, ea9, el9, ec9, rfl, q9, hb9⟩; obtain ⟨c0, c1, c2, c3z⟩ := ((HI7.out.up HB8.out).up hb9).box.b2; simp only [hW] at c1; have HNW : Hid (DS wm (w.heap.size + 1) X (stF (hW [iK 0 m ((k + 1 : Nat) : Int)] [qD []] 1) (hW [] [qD [newI 1 m]] 2) (k + 1)) 2 va9 vc9 ((w9.setCell ⟨X, 0, none⟩ (.slice va9 2 vc9)).setCell ⟨X, 1, none⟩ (.int .i64 1))) := (by rw [stF_lt (by omega)]; exact (HI7.out.up HB8.out).set hb9 (h' := hW [iK 0 m ((k + 1 : Nat) : Int)] [qD []] 1) (by rw [Int.natCast_succ]; exact q9)); clear q9 hb9)
        go_roundw
        case rel => exact ⟨k + 1, by omega, by go_num, _, _, HNW.out⟩
        case measure => simp [intOf]; omega
      · obtain rfl : k = 2 := by omega
        have has := as1 1 m
        go_wp2_with (go_at_call 31; refine (c_back2 (D := [qD []]) (L := 2) rfl dok1 HM.out.1 1 0 ⟨by omega, by omega⟩ has rfl _ _ (HQ7.out.1.up HB8.out)).mono ?_; rintro e w9 ⟨va9, vc9, ea9, el9, ec9, rfl, q9, hb9⟩; obtain ⟨c0, c1, c2, c3z⟩ := ((HI7.out.up HB8.out).up hb9).box.b2; simp only [hW] at c1; have HNW : Hid (DS wm (w.heap.size + 1) X (hW [] [qD [newI 1 m]] 2) 2 va9 vc9 ((w9.setCell ⟨X, 0, none⟩ (.slice va9 2 vc9)).setCell ⟨X, 1, none⟩ (.int .i64 2))) := ((HI7.out.up HB8.out).set hb9 (h' := hW [] [qD [newI 1 m]] 2) q9); clear q9 hb9)
        go_roundw
        case rel => exact ⟨3, by omega, by go_num, _, _, HNW.out⟩
        case measure => simp [intOf]
    · obtain rfl : k = 3 := by omega
      rw [stF_3] at hI
      have HI : Hid (DS wm (w.heap.size + 1) X (hW [] [qD [newI 1 m]] 2) 2 va vc wr) := hI
      obtain ⟨b0, b1, b2, b3y⟩ := hI.box.b2
      obtain ⟨rb, ro, ia, ic, ee, ss, -, -, -, cc⟩ := hI.under.at 0 (by simp [hW])
      subst ee
      have cc' : wr.cell? ⟨rb, ro + 2, none⟩ = some (.slice ia 0 ic) := by simpa [hW] using cc
      have ss' : rb < wr.heap.size := ss
      have HBE : Hid (Below w.heap.size w wr) := HB0.out.trans (hI.keep.mono (by omega))
      clear cc ss
      obtain ⟨rb2, ro2, ia2, ic2, ee2, ss2, II2, -, -, cc2⟩ := hI.under.at 1 (by simp [hW])
      cases ee2
      have cc2' : wr.cell? ⟨rb, ro + 3 + 2, none⟩ = some (.slice ia2 1 ic2) := by simpa [hW, qD] using cc2
      have II : SliceI (Under wr.heap.size) wr (.slice ia2 1 ic2) [newI 1 m] := by simpa [hW, qD] using II2
      obtain ⟨tb, uo, xa, xc, ya, yc, ff, gg, NN, ⟨-, -, t2, -⟩, -, t5, t6⟩ := iAt II
      subst ff
      have gg' : tb < wr.heap.size := gg
      have t2' : wr.cell? ⟨tb, uo + 2, none⟩ = some (.int .i64 0) := t2
      have t5' : wr.cell? ⟨tb, uo + 5, none⟩ = some (.slice xa m.props.length xc) := t5
      have t6' : wr.cell? ⟨tb, uo + 6, none⟩ = some (.slice ya m.body.length yc) := t6
      have HNN : Hid (NoteIs (Under wr.heap.size) wr (.slice xa m.props.length xc, .slice ya m.body.length yc) m) := NN
      obtain ⟨a0, a1, a2, a3z⟩ := (HMB.out.below hI.keep (by omega)).b2
      have HKP : Hid (Below (w.heap.size + 1) wm wr) := hI.keep
      clear cc2 ss2 hI II II2 NN gg t2 t5 t6
      go_upto_region 28 with fail
      go_region_held3 (fun w' => w'.cell? ⟨tb, uo + 2, none⟩ = some (.int .i64 0) ∧ w'.cell? ⟨tb, uo + 5, none⟩ = some (.slice xa m.props.length xc) ∧ w'.cell? ⟨tb, uo + 6, none⟩ = some (.slice ya m.body.length yc) ∧ w'.cell? ⟨w.heap.size, 0, none⟩ = some (.slice pa m.props.length pc) ∧ w'.cell? ⟨w.heap.size, 1, none⟩ = some (.slice ba m.body.length bc)) (go_keep) (first
        | (go_at_call 44; refine (same_true _ _ _ _ m _ ?_ ?_).mono ?_; (exact HNN.out.sub fun b hb => ⟨hb, rfl⟩); (exact (note_at HN.out HB0.out HKP.out).sub fun b hb => ⟨hb, rfl⟩); rintro e w8 ⟨rfl, hb8⟩; have HB8 : Hid (Below wr.heap.size wr w8) := ⟨hb8.os, hb8.tape, hb8.output, hb8.size, hb8.block⟩; have hc2 := HB8.out.cell (p := ⟨tb, uo + 2, none⟩) gg'; have hc5 := HB8.out.cell (p := ⟨tb, uo + 5, none⟩) gg'; have hc6 := HB8.out.cell (p := ⟨tb, uo + 6, none⟩) gg'; have hca := HB8.out.cell (p := ⟨w.heap.size, 0, none⟩) a3z; have hcb := HB8.out.cell (p := ⟨w.heap.size, 1, none⟩) a3z; rw [t2'] at hc2; rw [t5'] at hc5; rw [t6'] at hc6; rw [a0] at hca; rw [a1] at hcb; clear hb8))
      all_goals
        go_wp2_with fail
        go_ret
        exact ⟨rfl, HBE.out.trans (HB8.out.mono (by have := HBE.out.size; omega))⟩

set_option maxRecDepth 100000 in
set_option maxHeartbeats 4000000 in
theorem dead_2 (pv bv : Value) (m : ND) (hm : m.wrong = 0) (hf : m.fitN) (w : World) (hn : NoteIs (Under w.heap.size) w (pv, bv) m) :
    Calls Try.prog 7 #[.agg #[pv, bv], .bool true, .bool false] w fun e w' => e = .returned (.bool true) ∧ Below w.heap.size w w' := by
  have HN : Hid (NoteIs (Under w.heap.size) w (pv, bv) m) := hn
  have HM : Hid (m.wrong = 0 ∧ m.fitN) := ⟨hm, hf⟩
  obtain ⟨pa, pc, rfl, -⟩ := SliceV.shape hn.1
  obtain ⟨ba, bc, rfl, -⟩ := SliceV.shape hn.2
  clear hn hm hf
  obtain ⟨wm, hwm⟩ : ∃ wm, wm = w.alloc (.cells #[.slice pa m.props.length pc, .slice ba m.body.length bc] 32) := ⟨_, rfl⟩
  have hzm : wm.heap.size = w.heap.size + 1 := by rw [hwm]; simp
  have HB0 : Hid (Below w.heap.size w wm) := by rw [hwm]; exact below_alloc _ _
  have HMB : Hid (Blk wm w.heap.size [.slice pa m.props.length pc, .slice ba m.body.length bc]) := by rw [hwm]; exact Blk.new _ _ _
  go_enter Try.func7, Try.ntmps7
  go_upto_region 1 with fail
  rw [← hwm]
  clear hwm
  go_upto_region 3 with (go_at_call 40; refine (alive_any _).mono ?_; rintro e w1 ⟨rfl, hb1⟩)
  have K1 : Hid (Below (w.heap.size + 1) wm w1) := by rw [← hzm]; exact hb1
  clear hb1
  obtain ⟨a0, a1, a2, a3⟩ := (HMB.out.below K1.out (by omega)).b2
  go_upto_region 5 with (go_at_call 43; refine (refWrongN_any _ _ m _ (note_at HN.out HB0.out K1.out) HM.out.2).mono ?_; rw [HM.out.1]; rintro e w2 ⟨rfl, hb2⟩)
  have K2 : Hid (Below (w.heap.size + 1) wm w2) := K1.out.trans (hb2.mono (by have := K1.out.size; omega))
  clear hb2 a0 a1 a2
  go_upto_region 6 with (go_at_call 23; refine (c_make1 _).mono ?_; rintro e w3 ⟨va3, vc3, ea3, ec3, rfl, q3, hb3⟩)
  have hz3 : w.heap.size + 1 ≤ w3.heap.size := by have h1 := K2.out.size; have h2 := hb3.size; omega
  obtain ⟨W3, hW3⟩ : ∃ W3, W3 = w3.alloc (.cells #[.slice va3 1 vc3, .int .i64 0] 43) := ⟨_, rfl⟩
  have S3 : Hid (DS wm (w.heap.size + 1) w3.heap.size (hW [] [] 0) 1 va3 vc3 W3) := by rw [hW3]; exact DS.new (K2.out.trans (hb3.mono (by have := K2.out.size; omega))) hz3 q3.under
  rw [← hW3]
  clear hW3 hb3 q3
  obtain ⟨X, hX⟩ : ∃ X, X = w3.heap.size := ⟨_, rfl⟩
  rw [← hX] at S3 hz3
  rw [← hX]
  clear hX
  obtain ⟨b0, b1, b2, b3⟩ := S3.out.box.b2
  simp only [hW] at b1
  go_upto_region 8 with (go_at_call 23; refine (c_make2 _ _ S3.out.under).mono ?_; rintro e w4 ⟨va4, vc4, ea4, ec4, rfl, q4, hb4⟩; obtain ⟨c0, c1, c2, c3⟩ := (S3.out.up hb4).box.b2; simp only [hW] at c1)
  obtain ⟨W4, hW4⟩ : ∃ W4, W4 = (w4.setCell ⟨X, 0, none⟩ (.slice va4 2 vc4)).setCell ⟨X, 1, none⟩ (.int .i64 0) := ⟨_, rfl⟩
  have S4 : Hid (DS wm (w.heap.size + 1) X (hW [] [qD []] 0) 2 va4 vc4 W4) := by rw [hW4]; exact S3.out.set hb4 (h' := hW [] [qD []] 0) q4
  rw [← hW4]
  clear hW4 hb4 q4 b0 b1 b2 c0 c1 c2
  obtain ⟨b0, b1, b2, b3'⟩ := S4.out.box.b2
  simp only [hW] at b1
  go_upto_region 10 with (go_at_call 27; refine (c_put0 _ _ S4.out.under).mono ?_; rintro e w5 ⟨va5, vc5, ea5, ec5, rfl, q5, hb5⟩; obtain ⟨c0, c1, c2, c3⟩ := (S4.out.up hb5).box.b2; simp only [hW] at c1)
  obtain ⟨W5, hW5⟩ : ∃ W5, W5 = (w5.setCell ⟨X, 0, none⟩ (.slice va5 2 vc5)).setCell ⟨X, 1, none⟩ (.int .i64 1) := ⟨_, rfl⟩
  have S5 : Hid (DS wm (w.heap.size + 1) X (hW [] [qD [newI 0 nN]] 1) 2 va5 vc5 W5) := by rw [hW5]; exact S4.out.set hb5 (h' := hW [] [qD [newI 0 nN]] 1) q5
  rw [← hW5]
  clear hW5 hb5 q5 b0 b1 b2 c0 c1 c2
  obtain ⟨b0, b1, b2, b3x⟩ := S5.out.box.b2
  simp only [hW] at b1
  obtain ⟨a0, a1, a2, a3x⟩ := (HMB.out.below S5.out.keep (by omega)).b2
  go_upto_region 11 with (go_at_call 27; refine (c_put (D := [qD [newI 0 nN]]) (L := 2) rfl dok2 HM.out.1 HM.out.2 1 ⟨by omega, by omega⟩ _ _ _ _ S5.out.under (note_at HN.out HB0.out S5.out.keep)).mono ?_; rintro e w6 ⟨va6, vc6, ea6, ec6, rfl, q6, hb6⟩; obtain ⟨c0, c1, c2, c3⟩ := (S5.out.up hb6).box.b2; simp only [hW] at c1)
  have q6' : SliceQ (Made W5.heap.size w6.heap.size) w6 (.slice va6 2 vc6) (hW [iK 1 m 0] [qD [newI 0 nN]] 2).queues := q6
  obtain ⟨W6, hW6⟩ : ∃ W6, W6 = (w6.setCell ⟨X, 0, none⟩ (.slice va6 2 vc6)).setCell ⟨X, 1, none⟩ (.int .i64 (1 + 1)) := ⟨_, rfl⟩
  have S6 : Hid (DS wm (w.heap.size + 1) X (hW [iK 1 m 0] [qD [newI 0 nN]] 2) 2 va6 vc6 W6) := by rw [hW6]; exact S5.out.set hb6 (h' := hW [iK 1 m 0] [qD [newI 0 nN]] 2) q6'
  first | rw [← hW6] | (simp only [Int.reduceAdd] at hW6; rw [← hW6])
  clear hW6 hb6 q6 q6' b0 b1 b2 c0 c1 c2 a0 a1 a2
  go_wp2_with fail
  go_loopw [53] (fun i wr => ∃ k : Nat, k ≤ 3 ∧ i = .int .i64 k ∧ ∃ va vc, DS wm (w.heap.size + 1) X (stF (hW [iK 1 m k] [qD [newI 0 nN]] 2) (hW [] [qD [newI 0 nN]] 2) k) 2 va vc wr) (fun i _ => 3 - (intOf i).toNat)
  case atStart => exact ⟨0, by omega, rfl, _, _, S6.out⟩
  case round =>
    obtain ⟨k, hk, rfl, va, vc, hI⟩ := hrel
    clear S6
    by_cases hlt : k < 3
    · rw [stF_lt hlt] at hI
      have HI : Hid (DS wm (w.heap.size + 1) X (hW [iK 1 m k] [qD [newI 0 nN]] 2) 2 va vc wr) := hI
      obtain ⟨b0, b1, b2, b3y⟩ := hI.box.b2
      simp only [hW] at b1
      have hkk : ((k : Int) != (k : Int)) = false := by simp
      have hzr := hI.keep.size
      clear hI
      go_upto_region 19 with (first
        | (go_at_call 37; refine (c_take (D := [qD [newI 0 nN]]) (L := 2) rfl dok2 HM.out.1 2 1 k ⟨by omega, by omega⟩ ⟨by omega, by omega⟩ _ _ HI.out.under).mono ?_; rintro e w7 ⟨va7, vc7, pa7, pc7, qa7, qc7, rfl, q7, n7, hb7⟩; have HI7 : Hid (DS wm (w.heap.size + 1) X (hW [iK 1 m k] [qD [newI 0 nN]] 2) 2 va vc w7) := HI.out.up hb7; have HQ7 : Hid (SliceQ (Under w7.heap.size) w7 (.slice va7 2 vc7) (hW [iT 1 m k] [qD [newI 0 nN]] 2).queues ∧ NoteIs (Under w7.heap.size) w7 (.slice pa7 m.props.length pc7, .slice qa7 m.body.length qc7) m) := ⟨q7.under, n7.sub fun b hb => ⟨hb.2, rfl⟩⟩; obtain ⟨a0, a1, a2, a3z⟩ := (HMB.out.below HI7.out.keep (by omega)).b2; have hz7 := hb7.size; clear q7 n7 hb7 b0 b1 b2)
        | (go_at_call 44; refine (same_true _ _ _ _ m _ (HQ7.out.2.sub fun b hb => ⟨Nat.lt_of_lt_of_le hb (by simp; omega), (two_al w7 _ _).block b hb⟩) (note_at HN.out HB0.out (HI7.out.up (two_al w7 _ _)).keep)).mono ?_; rintro e w8 ⟨rfl, hb8⟩; have HB8 : Hid (Below w7.heap.size w7 w8) := (two_al w7 _ _).trans (hb8.mono (by simp; omega)); have x8 := ((Blk.new w7 _ 43).alloc _).below hb8 (by simp; omega); have i8 := (Blk.new (w7.alloc _) _ 34).below hb8 (by simp); simp only [World.size_alloc] at x8 i8; obtain ⟨x0, x1, x2, x3⟩ := x8.b2; obtain ⟨⟨i0, i1, i2, i3⟩, ⟨i4, i5, i6⟩, i7, i8'⟩ := i8.b7; clear hb8 x8 i8 a0 a1 a2))
      by_cases hk2 : k < 2
      · go_wp2_with (go_at_call 31; refine (c_back (D := [qD [newI 0 nN]]) (L := 2) rfl dok2 HM.out.1 2 1 k ⟨by omega, by omega⟩ ⟨by omega, by omega⟩ _ _ (HQ7.out.1.up HB8.out)).mono ?_; rintro e w9 ⟨va9, vc9, ea9, el9, ec9, rfl, q9, hb9⟩; obtain ⟨c0, c1, c2, c3z⟩ := ((HI7.out.up HB8.out).up hb9).box.b2; simp only [hW] at c1; have HNW : Hid (DS wm (w.heap.size + 1) X (stF (hW [iK 1 m ((k + 1 : Nat) : Int)] [qD [newI 0 nN]] 2) (hW [] [qD [newI 0 nN]] 2) (k + 1)) 2 va9 vc9 ((w9.setCell ⟨X, 0, none⟩ (.slice va9 2 vc9)).setCell ⟨X, 1, none⟩ (.int .i64 2))) := (by rw [stF_lt (by omega)]; exact (HI7.out.up HB8.out).set hb9 (h' := hW [iK 1 m ((k + 1 : Nat) : Int)] [qD [newI 0 nN]] 2) (by rw [Int.natCast_succ]; exact q9)); clear q9 hb9)
        go_roundw
        case rel => exact ⟨k + 1, by omega, by go_num, _, _, HNW.out⟩
        case measure => simp [intOf]; omega
      · obtain rfl : k = 2 := by omega
        have has := as2 2 m
        go_wp2_with (go_at_call 31; refine (c_back2 (D := [qD [newI 0 nN]]) (L := 2) rfl dok2 HM.out.1 2 1 ⟨by omega, by omega⟩ has rfl _ _ (HQ7.out.1.up HB8.out)).mono ?_; rintro e w9 ⟨va9, vc9, ea9, el9, ec9, rfl, q9, hb9⟩; obtain ⟨c0, c1, c2, c3z⟩ := ((HI7.out.up HB8.out).up hb9).box.b2; simp only [hW] at c1; have HNW : Hid (DS wm (w.heap.size + 1) X (hW [] [qD [newI 0 nN]] 2) 2 va9 vc9 ((w9.setCell ⟨X, 0, none⟩ (.slice va9 2 vc9)).setCell ⟨X, 1, none⟩ (.int .i64 2))) := ((HI7.out.up HB8.out).set hb9 (h' := hW [] [qD [newI 0 nN]] 2) q9); clear q9 hb9)
        go_roundw
        case rel => exact ⟨3, by omega, by go_num, _, _, HNW.out⟩
        case measure => simp [intOf]
    · obtain rfl : k = 3 := by omega
      rw [stF_3] at hI
      have HI : Hid (DS wm (w.heap.size + 1) X (hW [] [qD [newI 0 nN]] 2) 2 va vc wr) := hI
      obtain ⟨b0, b1, b2, b3y⟩ := hI.box.b2
      obtain ⟨rb, ro, ia, ic, ee, ss, -, -, -, cc⟩ := hI.under.at 0 (by simp [hW])
      subst ee
      have cc' : wr.cell? ⟨rb, ro + 2, none⟩ = some (.slice ia 0 ic) := by simpa [hW] using cc
      have ss' : rb < wr.heap.size := ss
      have HBE : Hid (Below w.heap.size w wr) := HB0.out.trans (hI.keep.mono (by omega))
      clear cc ss
      obtain ⟨rb2, ro2, ia2, ic2, ee2, ss2, II2, -, -, cc2⟩ := hI.under.at 1 (by simp [hW])
      cases ee2
      have cc2' : wr.cell? ⟨rb, ro + 3 + 2, none⟩ = some (.slice ia2 1 ic2) := by simpa [hW, qD] using cc2
      clear cc2 II2 ss2 hI
      go_upto_region 28 with fail
      go_quiet (fail)
      go_wp2
      go_ret
      exact ⟨rfl, below_drewN HBE.out _⟩

set_option maxRecDepth 100000 in
set_option maxHeartbeats 1000000 in
theorem dead_wrong (pv bv : Value) (m : ND) (hm : ¬ m.wrong = 0) (hf : m.fitN) (dead room : Bool) (w : World) (hn : NoteIs (Under w.heap.size) w (pv, bv) m) :
    Calls Try.prog 7 #[.agg #[pv, bv], .bool dead, .bool room] w fun e w' => e = .returned (.bool true) ∧ Below w.heap.size w w' := by
  have HN : Hid (NoteIs (Under w.heap.size) w (pv, bv) m) := hn
  have HF : Hid m.fitN := hf
  obtain ⟨pa, pc, rfl, -⟩ := SliceV.shape hn.1
  obtain ⟨ba, bc, rfl, -⟩ := SliceV.shape hn.2
  have hmb : (m.wrong != 0) = true := by simpa using hm
  clear hn hf
  go_enter Try.func7, Try.ntmps7
  go_wp2_with (first
    | (go_at_call 40; refine (alive_any _).mono ?_; rintro e w1 ⟨rfl, hb1⟩; have K1 : Hid (Below w.heap.size w w1) := (below_alloc _ _).trans (hb1.mono (by simp)); obtain ⟨a0, a1, a2, a3⟩ := ((Blk.new w _ 32).below hb1 (by simp)).b2; clear hb1)
    | (go_at_call 43; refine (refWrongN_any _ _ m _ (HN.out.sub fun b hb => ⟨Nat.lt_of_lt_of_le hb K1.out.size, K1.out.block b hb⟩) HF.out).mono ?_; rintro e w2 ⟨rfl, hb2⟩))
  go_ret
  exact ⟨rfl, K1.out.trans (hb2.mono K1.out.size)⟩

theorem dead_any (pv bv : Value) (m : ND) (hf : m.fitN) (dead room : Bool) (w : World) (hn : NoteIs (Under w.heap.size) w (pv, bv) m) :
    Calls Try.prog 7 #[.agg #[pv, bv], .bool dead, .bool room] w fun e w' => e = .returned (.bool true) ∧ Below w.heap.size w w' := by
  by_cases hm : m.wrong = 0
  · cases dead
    · exact dead_0 pv bv m hm hf w hn room
    · cases room
      · exact dead_2 pv bv m hm hf w hn
      · exact dead_1 pv bv m hm hf w hn
  · exact dead_wrong pv bv m hm hf dead room w hn
end Go.Proofs.Ythdaccmjipomdab
