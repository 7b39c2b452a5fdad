/-
  FaceB; FaceP; DeleteQ: texts laid together.
-/
import Derived.Test.YtkddkpdfeeikhaaSsTagProofM08
import Derived.Test.YtkddkpdfeeikhaaSsTagProofM09
import Derived.Test.YtkddkpdfeeikhaaSsTagProofM06
/-
  hall.Put and hall.Back.
-/
namespace Go.Proofs.Ytkddkpdfeeikhaa
open Go.RowKit
set_option linter.unusedVariables false
set_option linter.unusedSimpArgs false

attribute [local go_sem ↓] Go.wp_at_zero Go.wp_at_succ

/-- What a change in the box comes to, for 'changed'. -/
theorem in_alter {P G : Nat → Prop} {hb B : Nat} {W w' : World} {g n cap : Nat} {h : HD} {es : List ED} {ev : Value} (H : InAns P hb W (.slice (some ⟨g, 0, none⟩) n cap) h es ev w') (hP : ∀ b, P b → B ≤ b) (hg : P g) (hbB : B ≤ hb) (hB : B ≤ W.heap.size) :
    ∃ ea en ec, ev = .slice ea en ec ∧ (∃ va vn vc, Blk w' hb [.slice va vn vc, .int .i64 h.next] ∧ SliceQ (fun b => B ≤ b ∧ b < w'.heap.size) w' (.slice va vn vc) h.queues ∧ SliceE (fun b => B ≤ b ∧ b < w'.heap.size) w' (.slice ea en ec) es) ∧ Keep (fun b => b < B ∧ ¬ G b) W w' := by
  obtain ⟨ea, ec, rfl⟩ := H.shp
  obtain ⟨L, P', e, h1, h2, hH, hE, hK⟩ := H
  have hPB : ∀ b, P' b → B ≤ b := fun b hb' => by
    rcases h2 b hb' with h | h
    · exact hP b h
    · have := h.1; omega
  refine ⟨ea, _, ec, rfl, ⟨_, _, _, hH.box, ?_, hE.sub fun b hb' => ⟨⟨by have := hb'.1.1; omega, hb'.1.2⟩, rfl⟩⟩, ⟨hK.os, hK.tape, hK.output, hK.size, fun b hb' => hK.block b ⟨by omega, fun e' => ?_, by omega⟩⟩⟩
  · rw [← e]; exact hH.slice.sub fun b hb' => ⟨⟨hPB b hb', hH.lt b hb'⟩, rfl⟩
  · simp [Value.ownBlock] at e'
    have := hP g hg
    omega

theorem enter66 (args : Array Value) (W : World) : (callFunc 143 args).run Try.prog W = .ok (.enter 143 args) W := by go_simp
theorem enter73 (args : Array Value) (W : World) : (callFunc 132 args).run Try.prog W = .ok (.enter 132 args) W := by go_simp

theorem smallQ_at {qs : List QD} (h : smallQ qs) {k : Nat} (hk : k < qs.length) : smallI qs[k].items := h.2 _ (List.getElem_mem hk)

set_option maxRecDepth 100000 in
set_option maxHeartbeats 1000000 in
theorem put_alters (w : World) (nb : Nat) (pv bv : Value) (n : ND) (hb : Blk w nb [pv, bv]) (hn : NoteIs (Under w.heap.size) w (pv, bv) n) (hsn : n.small) (h : HD) (k : Nat) (hk : k < h.queues.length) (hsm : smallQ h.queues) (hnx : 0 ≤ h.next ∧ h.next ≤ 1000000000) :
    Alters w (fun _ => False) 143 [.pointer (some ⟨nb, 0, none⟩)] h k (putF h k h.queues[k] n) (fun _ _ => True) := by
  refine ⟨enter66, fun _ _ _ _ _ _ => trivial, fun B P hb' W g cap L hH e hP hbB hwB hW => ?_⟩
  have HH : Hid (HallIn P hb' W (.slice (some ⟨g, 0, none⟩) L.length cap) L h.next) := hH
  have HX : Hid (smallQ h.queues ∧ L.map Prod.fst = h.queues ∧ (∀ b, P b → B ≤ b) ∧ n.small) := ⟨hsm, e, hP, hsn⟩
  have HN : Hid (NoteIs (Under w.heap.size) w (pv, bv) n) := hn
  have HW : Hid (Below w.heap.size w W) := hW
  obtain ⟨pa, pc, rfl, -⟩ := SliceV.shape hn.1
  obtain ⟨ba, bc, rfl, -⟩ := SliceV.shape hn.2
  obtain ⟨c0, c1, c2, c3⟩ := (hb.below hW hb.lt).b2
  have hgB := hP g hH.gl.2.2.2
  have hbl := hH.gl.2.2.1
  have hgP := hH.gl.2.2.2
  have hzW := hW.size
  clear hH e hP hsm hn hsn hb hW
  go_enter Try.func143, Try.ntmps143
  go_wp2_with (go_at_call 144; refine (putIn_any HH.out HX.out.2.1 k hk HX.out.1.1 hnx (smallQ_at HX.out.1 hk) _ _ n (HN.out.sub fun b hb => ⟨⟨Nat.lt_of_lt_of_le hb hzW, by have : b < w.heap.size := hb; omega, by have : b < w.heap.size := hb; omega⟩, HW.out.block b hb⟩) HX.out.2.2.2).mono ?_; rintro r w1 ⟨ev, rfl, hA⟩; obtain ⟨ea, en, ec, rfl, hA1, hA2⟩ := in_alter (G := fun _ => False) hA HX.out.2.2.1 hgP hbB (by omega); have HA : Hid _ := And.intro hA1 hA2; clear hA hA1 hA2)
  refine bodyPost_ret (v := .tuple #[.slice ea en ec, .int .i64 (putF h k h.queues[k] n).2.2]) (by simp [results, Try.results143, go_sem, *]; done) rfl ⟨ea, en, ec, rfl, fun _ => HA.out.1, trivial, HA.out.2⟩

set_option maxRecDepth 100000 in
set_option maxHeartbeats 1000000 in
theorem back_alters (w : World) (tb : Nat) (tn : Int) (tq : ByteArray) (id turn : Int) (hb : Blk w tb [.int .i64 tn, .string tq, .int .i64 id, .int .i64 turn]) (h : HD) (k : Nat) (hk : k < h.queues.length) (hsm : smallQ h.queues) (hfit : ∀ q ∈ h.queues, ∀ i ∈ q.items, i.fits) (hnx : 0 ≤ h.next ∧ h.next ≤ 1000000000) :
    Alters w (fun _ => False) 132 [.pointer (some ⟨tb, 0, none⟩)] h k (backF h k h.queues[k] id turn) (fun _ _ => True) := by
  refine ⟨enter73, fun _ _ _ _ _ _ => trivial, fun B P hb' W g cap L hH e hP hbB hwB hW => ?_⟩
  have HH : Hid (HallIn P hb' W (.slice (some ⟨g, 0, none⟩) L.length cap) L h.next) := hH
  have HX : Hid (smallQ h.queues ∧ L.map Prod.fst = h.queues ∧ (∀ b, P b → B ≤ b) ∧ ∀ q ∈ h.queues, ∀ i ∈ q.items, i.fits) := ⟨hsm, e, hP, hfit⟩
  have hk4 := hb.below hW hb.lt
  obtain ⟨c0, c1, c2, c3⟩ : W.cell? ⟨tb, 2, none⟩ = some (.int .i64 id) ∧ W.cell? ⟨tb, 3, none⟩ = some (.int .i64 turn) ∧ (∀ o, W.frozen? ⟨tb, o, none⟩ = false) ∧ tb < W.heap.size := ⟨hk4.cell 2, hk4.cell 3, hk4.f, hk4.lt⟩
  have hbl := hH.gl.2.2.1
  have hgP := hH.gl.2.2.2
  clear hH e hP hsm hfit hb hW hk4
  go_enter Try.func132, Try.ntmps132
  go_wp2_with (go_at_call 133; refine (backIn_any HH.out HX.out.2.1 k hk HX.out.1.1 hnx (fun q hq => ⟨HX.out.1.2 q hq, HX.out.2.2.2 q hq⟩) id turn).mono ?_; rintro r w1 ⟨ev, rfl, hA⟩; obtain ⟨ea, en, ec, rfl, hA1, hA2⟩ := in_alter (G := fun _ => False) hA HX.out.2.2.1 hgP hbB (by omega); have HA : Hid _ := And.intro hA1 hA2; clear hA hA1 hA2)
  refine bodyPost_ret (v := .tuple #[.slice ea en ec, .int .i64 (backF h k h.queues[k] id turn).2.2]) (by simp [results, Try.results132, go_sem, *]; done) rfl ⟨ea, en, ec, rfl, fun _ => HA.out.1, trivial, HA.out.2⟩

/-- What is done at the place of a queue; there may be none. -/
def faceF (h : HD) (name : ByteArray) (f : Nat → QD → HD × List ED × Int) : HD × List ED × Int :=
  match h.queues.findIdx? (nameB name) with
  | none => refuse 6
  | some k => match h.queues[k]? with
    | none => refuse 6
    | some q => failF (f k q)
theorem faceF_none {h : HD} {name : ByteArray} {f : Nat → QD → HD × List ED × Int} (hd : idxQ name h.queues = -1) : faceF h name f = refuse 6 := by
  unfold faceF
  cases hf : h.queues.findIdx? (nameB name) with
  | none => rfl
  | some k => simp [idxQ, hf] at hd
theorem faceF_some {h : HD} {name : ByteArray} {f : Nat → QD → HD × List ED × Int} {k : Nat} (hd : idxQ name h.queues = (k : Int)) (hk : k < h.queues.length) : faceF h name f = failF (f k h.queues[k]) := by
  unfold faceF
  cases hf : h.queues.findIdx? (nameB name) with
  | none => simp [idxQ, hf] at hd
  | some j =>
    simp only [idxQ, hf] at hd
    have : j = k := by omega
    subst this
    simp [List.getElem?_eq_getElem hk]

theorem changed_face (F : Nat) (caps : List Value) (v : Value) (name : ByteArray) (h : HD) (f : Nat → QD → HD × List ED × Int) (w : World) (hv : SliceQ (Under w.heap.size) w v h.queues) (hsm : smallQ h.queues)
    (hA : ∀ k (hk : k < h.queues.length), h.queues[k].name = name → Alters w (fun _ => False) F caps h k (f k h.queues[k]) (fun _ _ => True)) :
    Calls Try.prog 131 #[.agg #[v, .int .i64 h.next], .string name, .func (.func F) #[] caps.toArray] w fun e w' => AnsH (faceF h name f) w e w' ∧ Below w.heap.size w w' := by
  rcases idxQ_cases name h.queues with ⟨hd, -⟩ | ⟨k, hk, hd, hn, -⟩
  · rw [faceF_none hd]
    exact changed_none _ v name h w hv hd
  · rw [faceF_some hd hk]
    refine (changed_ok (fun _ => False) F caps v name h k hk _ _ w hv hsm hd (hA k hk hn) (fun _ h => h.elim)).mono ?_
    rintro e w' ⟨h1, -, h3⟩
    exact ⟨h1, h3.below fun b hb => ⟨hb, fun h => h⟩⟩

/-- The end of a face: the answer is stored in its box. -/
theorem face_end {r : HD × List ED × Int} {w W w1 : World} {va ea : Option Addr} {vc ec : Nat} (hW : Below w.heap.size w W) (hz : w.heap.size + 3 ≤ W.heap.size) (h1 : Below W.heap.size W w1) (hQ : SliceQ (Made W.heap.size w1.heap.size) w1 (.slice va r.1.queues.length vc) r.1.queues) (hE : SliceE (Made W.heap.size w1.heap.size) w1 (.slice ea r.2.1.length ec) r.2.1) (x y : Value) :
    AnsH r w (.returned (.tuple #[.agg #[.slice va r.1.queues.length vc, .int .i64 r.1.next], .slice ea r.2.1.length ec, .int .i64 r.2.2])) ((w1.setCell ⟨w.heap.size + 1 + 1, 0, none⟩ x).setCell ⟨w.heap.size + 1 + 1, 1, none⟩ y) ∧ Below w.heap.size w ((w1.setCell ⟨w.heap.size + 1 + 1, 0, none⟩ x).setCell ⟨w.heap.size + 1 + 1, 1, none⟩ y) := by
  have hfar : ∀ b, b ≠ w.heap.size + 1 + 1 → ((w1.setCell ⟨w.heap.size + 1 + 1, 0, none⟩ x).setCell ⟨w.heap.size + 1 + 1, 1, none⟩ y).heap[b]? = w1.heap[b]? := fun b hb => by
    rw [Below.heap_setCell _ _ _ _ hb, Below.heap_setCell _ _ _ _ hb]
  have hsz : ((w1.setCell ⟨w.heap.size + 1 + 1, 0, none⟩ x).setCell ⟨w.heap.size + 1 + 1, 1, none⟩ y).heap.size = w1.heap.size := by simp
  refine ⟨⟨va, vc, ea, ec, rfl, hQ.sub fun b hb => ⟨⟨by have := hb.1; omega, by rw [hsz]; exact hb.2⟩, hfar b (by have := hb.1; omega)⟩, hE.sub fun b hb => ⟨⟨by have := hb.1; omega, by rw [hsz]; exact hb.2⟩, hfar b (by have := hb.1; omega)⟩⟩, ?_⟩
  exact ((hW.trans (h1.mono (by omega))).setCell (by simp; omega) _).setCell (by simp; omega) _

set_option maxRecDepth 100000 in
set_option maxHeartbeats 1000000 in
theorem hallBack_any (v : Value) (h : HD) (tn : Int) (tq : ByteArray) (id turn : Int) (w : World) (hv : SliceQ (Under w.heap.size) w v h.queues) (hsm : smallQ h.queues) (hfit : ∀ q ∈ h.queues, ∀ i ∈ q.items, i.fits) (hnx : 0 ≤ h.next ∧ h.next ≤ 1000000000) :
    Calls Try.prog 113 #[.agg #[v, .int .i64 h.next], .agg #[.int .i64 tn, .string tq, .int .i64 id, .int .i64 turn]] w fun e w' => AnsH (faceF h tq (fun k q => backF h k q id turn)) w e w' ∧ Below w.heap.size w w' := by
  have HV : Hid (SliceQ (Under w.heap.size) w v h.queues) := hv
  have HX : Hid (smallQ h.queues ∧ ∀ q ∈ h.queues, ∀ i ∈ q.items, i.fits) := ⟨hsm, hfit⟩
  obtain ⟨va, vc, rfl⟩ := hv.shp
  clear hv hsm hfit
  have three : Hid (∀ o1 o2 o3 : Obj, Below w.heap.size w (((w.alloc o1).alloc o2).alloc o3)) := fun o1 o2 o3 => ((below_alloc _ _).alloc (by simp) _).alloc (by simp; omega) _
  go_enter Try.func113, Try.ntmps113
  go_wp2_with (go_at_call 131; refine (changed_face 132 [.pointer (some ⟨w.heap.size + 1, 0, none⟩)] _ tq h (fun k q => backF h k q id turn) _ (HV.out.sub fun k hk => ⟨?_, (three.out _ _ _).block k hk⟩) HX.out.1 (fun k hk hn => back_alters _ _ tn tq id turn ?_ h k hk HX.out.1 HX.out.2 hnx)).mono ?_; (simp [Under] at hk ⊢; omega); (have := (Blk.new (w.alloc (.cells #[.slice va h.queues.length vc, .int .i64 h.next] 24)) [.int .i64 tn, .string tq, .int .i64 id, .int .i64 turn] 50).alloc (.cells #[.slice none 0 0, .int .i64 0] 24); simpa using this); rintro e w1 ⟨⟨va1, vc1, ea1, ec1, rfl, hQ1, hE1⟩, hb1⟩; obtain ⟨b0, b1, b2, b3⟩ := ((Blk.new ((w.alloc _).alloc _) _ 24).below hb1 (by simp)).b2; simp only [World.size_alloc] at b0 b1 b2 b3; have H1 : Hid _ := And.intro hQ1 (And.intro hE1 hb1); clear hQ1 hE1 hb1)
  refine bodyPost_ret (v := .tuple #[.agg #[.slice va1 (faceF h tq (fun k q => backF h k q id turn)).1.queues.length vc1, .int .i64 (faceF h tq (fun k q => backF h k q id turn)).1.next], .slice ea1 (faceF h tq (fun k q => backF h k q id turn)).2.1.length ec1, .int .i64 (faceF h tq (fun k q => backF h k q id turn)).2.2]) (by simp [results, Try.results113, go_sem, *]; done) rfl (face_end (three.out _ _ _) (by simp) H1.out.2.2 H1.out.1 H1.out.2.1 _ _)
end Go.Proofs.Ytkddkpdfeeikhaa

/-
  hall.Put.
-/
namespace Go.Proofs.Ytkddkpdfeeikhaa
open Go.RowKit
set_option linter.unusedVariables false
set_option linter.unusedSimpArgs false

attribute [local go_sem ↓] Go.wp_at_zero Go.wp_at_succ

theorem cellsL_at (L : List PD) (k j : Nat) (hk : k < L.length) (hj : j < 4) : (cellsL L)[k * 4 + j]? = (L[k].cells)[j]? := flat_at _ 4 (fun _ => rfl) L k j hk hj

theorem props_at {B : Nat} {w : World} {a : Option Addr} {n c : Nat} {ps : List PD} (h : SliceP (Under B) w (.slice a n c) ps) : PropsAt B w a ps := by
  intro i hi
  obtain ⟨a', cap', e, _, _, _, h3⟩ := h
  simp only [Value.slice.injEq] at e
  obtain ⟨rfl, -, rfl⟩ := e
  have hl := cellsL_len ps
  obtain ⟨b, off, rfl, hs, _⟩ := h3 (i * 4) (by omega)
  have key : ∀ j (hj : j < 4), w.cell? ⟨b, off + i * 4 + j, none⟩ = (ps[i].cells)[j]? := fun j hj => by
    obtain ⟨b', off', e, _, hc⟩ := h3 (i * 4 + j) (by omega)
    simp only [Option.some.injEq, Addr.mk.injEq] at e
    obtain ⟨rfl, rfl, -⟩ := e
    rw [← cellsL_at ps i j hi hj, List.getElem?_eq_getElem (by omega), ← hc]
    congr 2; omega
  exact ⟨b, off, rfl, hs, key 0 (by omega), key 1 (by omega), key 2 (by omega), key 3 (by omega)⟩

def ND.wrong (n : ND) : Int := wrongN n.props n.body.length
def ND.fitN (n : ND) : Prop := ∀ p ∈ n.props, p.fitN

theorem wrong_small {n : ND} (h : n.wrong = 0) : n.small := by
  unfold ND.wrong wrongN at h
  split at h
  · simp at h
  · split at h
    · split at h
      · simp at h
      · exact ⟨by omega, by omega⟩
    · rename_i h1 h2
      simp [h] at h2

theorem noteWrong_any (pv bv : Value) (n : ND) (w : World) (hn : NoteIs (Under w.heap.size) w (pv, bv) n) (hf : n.fitN) :
    Calls Try.prog 97 #[.agg #[pv, bv]] w fun e w' => e = .returned (.int .i64 n.wrong) ∧ Below w.heap.size w w' := by
  obtain ⟨pa, pc, rfl, h1, h2, -⟩ := SliceV.shape hn.1
  obtain ⟨ba, bc, rfl, h3, h4, -⟩ := SliceV.shape hn.2
  exact wrong_any pa pc n.props ba n.body.length bc w (props_at hn.1) hf (by omega) (by omega)

/-- Put. -/
def hallPutF (h : HD) (name : ByteArray) (n : ND) : HD × List ED × Int := if n.wrong = 0 then faceF h name (fun k q => putF h k q n) else refuse n.wrong

set_option maxRecDepth 100000 in
set_option maxHeartbeats 1000000 in
theorem hallPut_any (v : Value) (h : HD) (name : ByteArray) (pv bv : Value) (n : ND) (w : World) (hv : SliceQ (Under w.heap.size) w v h.queues) (hsm : smallQ h.queues) (hnx : 0 ≤ h.next ∧ h.next ≤ 1000000000) (hn : NoteIs (Under w.heap.size) w (pv, bv) n) (hf : n.fitN) :
    Calls Try.prog 125 #[.agg #[v, .int .i64 h.next], .string name, .agg #[pv, bv]] w fun e w' => AnsH (hallPutF h name n) w e w' ∧ Below w.heap.size w w' := by
  have HV : Hid (SliceQ (Under w.heap.size) w v h.queues) := hv
  have HN : Hid (NoteIs (Under w.heap.size) w (pv, bv) n) := hn
  have HX : Hid (smallQ h.queues ∧ n.fitN) := ⟨hsm, hf⟩
  obtain ⟨va, vc, rfl⟩ := hv.shp
  obtain ⟨pa, pc, rfl, -⟩ := SliceV.shape hn.1
  obtain ⟨ba, bc, rfl, -⟩ := SliceV.shape hn.2
  clear hv hsm hn hf
  have three : Hid (∀ o1 o2 o3 : Obj, Below w.heap.size w (((w.alloc o1).alloc o2).alloc o3)) := fun o1 o2 o3 => ((below_alloc _ _).alloc (by simp) _).alloc (by simp; omega) _
  unfold hallPutF
  by_cases hw : n.wrong = 0
  · rw [if_pos hw]
    have HW : Hid (n.wrong = 0) := hw
    have HS : Hid n.small := wrong_small hw
    go_enter Try.func125, Try.ntmps125
    go_wp2_with (first
      | (go_at_call 97; refine (noteWrong_any _ _ n _ (HN.out.sub fun k hk => ⟨?_, (three.out _ _ _).block k hk⟩) HX.out.2).mono ?_; (simp [Under] at hk ⊢; omega); rw [HW.out]; rintro e w0 ⟨rfl, hb0⟩; have hk0 := (((Blk.new w _ 24).alloc _).alloc _).below hb0 (by simp; omega); have hk1 := ((Blk.new (w.alloc _) _ 28).alloc _).below hb0 (by simp); have hk2 := (Blk.new ((w.alloc _).alloc _) _ 24).below hb0 (by simp); simp only [World.size_alloc] at hk0 hk1 hk2; obtain ⟨a0, a1, a2, a3⟩ := hk0.b2; obtain ⟨c0, c1, c2, c3⟩ := hk2.b2; have HB0 : Hid (Below w.heap.size w w0) := (three.out _ _ _).trans (hb0.mono (by simp; omega)); have HN1 : Hid (Blk w0 (w.heap.size + 1) [.slice pa n.props.length pc, .slice ba n.body.length bc] ∧ Blk w0 (w.heap.size + 1 + 1) [.slice none 0 0, .int .i64 0]) := ⟨hk1, hk2⟩; clear hb0 hk0 hk1 hk2)
      | (go_at_call 131; refine (changed_face 143 [.pointer (some ⟨w.heap.size + 1, 0, none⟩)] _ name h (fun k q => putF h k q n) _ (HV.out.sub fun k hk => ⟨Nat.lt_of_lt_of_le hk HB0.out.size, HB0.out.block k hk⟩) HX.out.1 (fun k hk hnm => put_alters _ _ _ _ n HN1.out.1 (HN.out.sub fun k hk => ⟨Nat.lt_of_lt_of_le hk HB0.out.size, HB0.out.block k hk⟩) HS.out h k hk HX.out.1 hnx)).mono ?_; rintro e w1 ⟨⟨va1, vc1, ea1, ec1, rfl, hQ1, hE1⟩, hb1⟩; obtain ⟨b0, b1, b2, b3⟩ := (HN1.out.2.below hb1 HN1.out.2.lt).b2; have H1 : Hid _ := And.intro hQ1 (And.intro hE1 hb1); clear hQ1 hE1 hb1))
    refine bodyPost_ret (v := .tuple #[.agg #[.slice va1 (faceF h name (fun k q => putF h k q n)).1.queues.length vc1, .int .i64 (faceF h name (fun k q => putF h k q n)).1.next], .slice ea1 (faceF h name (fun k q => putF h k q n)).2.1.length ec1, .int .i64 (faceF h name (fun k q => putF h k q n)).2.2]) (by simp [results, Try.results125, go_sem, *]; done) rfl (face_end HB0.out (by have := HN1.out.2.lt; omega) H1.out.2.2 H1.out.1 H1.out.2.1 _ _)
  · rw [if_neg hw]
    have hwb : (n.wrong != 0) = true := by simpa using hw
    go_enter Try.func125, Try.ntmps125
    go_wp2_with (first
      | (go_at_call 97; refine (noteWrong_any _ _ n _ (HN.out.sub fun k hk => ⟨?_, (three.out _ _ _).block k hk⟩) HX.out.2).mono ?_; (simp [Under] at hk ⊢; omega); rintro e w0 ⟨rfl, hb0⟩; have hk2 := (Blk.new ((w.alloc _).alloc _) _ 24).below hb0 (by simp); simp only [World.size_alloc] at hk2; obtain ⟨c0, c1, c2, c3⟩ := hk2.b2; have HB0 : Hid (Below w.heap.size w w0) := (three.out _ _ _).trans (hb0.mono (by simp; omega)); clear hb0 hk2))
    refine bodyPost_ret (v := .tuple #[.agg #[.slice none 0 0, .int .i64 0], .slice none 0 0, .int .i64 n.wrong]) (by simp [results, Try.results125, go_sem, *]; done) rfl ⟨AnsH.refuse _ _ _, ?_⟩
    iterate 2 refine Below.setCell ?_ (by simp; omega) _
    exact HB0.out
end Go.Proofs.Ytkddkpdfeeikhaa

/-
  slices.Delete of a row of queues.
-/
namespace Go.Proofs.Ytkddkpdfeeikhaa
open Go.RowKit
set_option linter.unusedVariables false
set_option linter.unusedSimpArgs false

attribute [local go_sem ↓] Go.wp_at_zero Go.wp_at_succ

theorem zero25q (w : World) : (zeroValue 76).run Try.prog w = .ok (.agg #[.string ⟨#[]⟩, .int .i64 0, .slice none 0 0]) w := by kernel_rfl

def zero3q : List Value := [.string ⟨#[]⟩, .int .i64 0, .slice none 0 0]

theorem run_clear3 (w : World) (ty : TypeId) (g off c : Nat) (cur : Array Value) (hg : w.heap[g]? = some (.cells cur 76 (0, 0))) (hf : off + 3 ≤ cur.size) :
    (Builtin.clear_ #[22] ty #[.slice (some ⟨g, off, none⟩) 1 c]).run Try.prog w = .ok (.tuple #[]) (w.setRow g (cur.toList.take off ++ zero3q ++ cur.toList.drop (off + 3)).toArray) := by
  have hst := run_storeCells_at Try.prog g off 76 zero3q 0 cur w hg (by simpa [zero3q] using hf) (by simp [zero3q, Value.oneCell'])
  simp only [Nat.add_zero] at hst
  have hz : (Builtin.zeroCells (Value.agg #[.string ⟨#[]⟩, .int .i64 0, .slice none 0 0]).cells 1).toList = zero3q := by simp [Builtin.zeroCells, Value.cells, zero3q]; rfl
  simp [Builtin.clear_, run_underlying Try.underlying22, zero25q, hz, hst]
  simp [zero3q]

/-- The row without one element. -/
theorem del_list3 {α : Type} (cs xs z : List α) (i m : Nat) (hx : cs.take ((i + m + 1) * 3) = xs) (hl : xs.length = (i + m + 1) * 3) (hz : z.length = 3) :
    let c1 := cs.take (i * 3) ++ xs.drop ((i + 1) * 3) ++ cs.drop (i * 3 + (xs.drop ((i + 1) * 3)).length)
    let c2 := c1.take ((i + m) * 3) ++ z ++ c1.drop ((i + m) * 3 + 3)
    c1.length = cs.length ∧ c2.length = cs.length ∧ c2.take ((i + m) * 3) = xs.take (i * 3) ++ xs.drop ((i + 1) * 3) := by
  have hcl : (i + m + 1) * 3 ≤ cs.length := by
    rw [← hx, List.length_take] at hl; omega
  have e1 : cs.take (i * 3) = xs.take (i * 3) := by
    rw [← hx, List.take_take]; congr 1; omega
  have l1 : (xs.drop ((i + 1) * 3)).length = m * 3 := by simp [hl]; omega
  intro c1 c2
  have hc1 : c1.length = cs.length := by simp only [c1, List.length_append, List.length_take, List.length_drop, hl]; omega
  have ht : c1.take ((i + m) * 3) = xs.take (i * 3) ++ xs.drop ((i + 1) * 3) := by
    simp only [c1, e1]
    rw [List.take_append_of_le_length (by simp [hl]; omega), List.take_of_length_le (by simp [hl]; omega)]
  refine ⟨hc1, ?_, ?_⟩
  · simp only [c2, List.length_append, List.length_take, List.length_drop, hc1, hz]; omega
  · simp only [c2]
    rw [List.append_assoc, List.take_append_of_le_length (by simp [hc1]; omega), List.take_take, Nat.min_self, ht]

set_option maxRecDepth 100000 in
set_option maxHeartbeats 3200000 in
theorem deleteQ_any (base g i m cap : Nat) (xs : List Value) (w : World) (h : w.ownsRow base 76 3 (.slice (some ⟨g, 0, none⟩) (i + m + 1) cap) (i + m + 1) xs) (h1 : ∀ u ∈ xs, u.oneCell' = true) (hn : i + m + 1 ≤ 4194304) :
    Calls Try.prog 79 #[.slice (some ⟨g, 0, none⟩) (i + m + 1) cap, .int .i64 i, .int .i64 (i + 1)] w fun e w' => e = .returned (.slice (some ⟨g, 0, none⟩) (i + m) cap) ∧
      w'.ownsRow base 76 3 (.slice (some ⟨g, 0, none⟩) (i + m) cap) (i + m) (xs.take (i * 3) ++ xs.drop ((i + 1) * 3)) ∧ w.grownBy w' (some g) := by
  obtain ⟨i0, hi0, hz0, hz1, hz2⟩ := info_parts info25
  obtain ⟨hl, hr⟩ := h
  rcases hr with ⟨e, -⟩ | ⟨g', cap', cur, e, hb, hg, hnc, hcm, hcs, hx⟩
  · simp at e
  simp only [Value.slice.injEq, Option.some.injEq, Addr.mk.injEq, and_true, true_and] at e
  obtain ⟨rfl, rfl⟩ := e
  obtain ⟨d1, d2, d3⟩ := del_list3 cur.toList xs zero3q i m hx hl rfl
  obtain ⟨c1, hc1⟩ : ∃ c1, c1 = cur.toList.take (i * 3) ++ xs.drop ((i + 1) * 3) ++ cur.toList.drop (i * 3 + (xs.drop ((i + 1) * 3)).length) := ⟨_, rfl⟩
  obtain ⟨c2, hc2⟩ : ∃ c2, c2 = c1.take ((i + m) * 3) ++ zero3q ++ c1.drop ((i + m) * 3 + 3) := ⟨_, rfl⟩
  rw [← hc1] at d1 d2 d3
  rw [← hc2] at d2 d3
  have hnews : ∀ j u, (xs.drop ((i + 1) * 3))[j]? = some u → w.drew.cell? ((⟨g, (i + 1) * 3, none⟩ : Addr).add j) = some u := by
    intro j u hj
    rw [List.getElem?_drop] at hj
    rw [add_none]
    show w.cell? _ = _
    rw [cell_of_row w g _ _ 76 (0, 0) hg, ← hj, ← hx, List.getElem?_take, if_pos (by have := (List.getElem?_eq_some_iff.1 hj).1; omega)]
    simp
  obtain ⟨A, hA, hnA⟩ : ∃ A : Addr, (if cap = i + 1 then some (⟨g, 0, none⟩ : Addr) else some ⟨g, (i + 1) * 3, none⟩) = some A ∧ ∀ j u, (xs.drop ((i + 1) * 3))[j]? = some u → w.drew.cell? (A.add j) = some u := by
    by_cases hc : cap = i + 1
    · refine ⟨⟨g, 0, none⟩, by simp [hc], fun j u hj => ?_⟩
      have := (List.getElem?_eq_some_iff.1 hj).1
      simp [hl] at this
      omega
    · exact ⟨⟨g, (i + 1) * 3, none⟩, by simp [hc], hnews⟩
  have hrun : ∀ ty, (Builtin.append_ #[22, 22] ty #[.slice (some ⟨g, 0, none⟩) i cap, .slice (some A) m (cap - (i + 1))]).run Try.prog w.drew = .ok (.slice (some ⟨g, 0, none⟩) (i + m) cap) (w.drew.setRow g c1.toArray) := fun ty => by
    have := run_append_room (P := Try.prog) w.drew 22 ty 76 i0 Try.underlying22 hi0 g i cap cur hg A m (cap - (i + 1)) (xs.drop ((i + 1) * 3)) (by rw [hz1]; simp [hl]; omega) hnA (fun u hu => h1 u (List.mem_of_mem_drop hu)) (by omega) (by rw [hz1]; simp [hl, hcs]; omega)
    rw [this, hc1, hz1]
  have hg1 : (w.drew.setRow g c1.toArray).heap[g]? = some (.cells c1.toArray 76 (0, 0)) := setRow_heap w.drew g cur _ 76 _ hg
  obtain ⟨W1, hW1⟩ : ∃ W1, W1 = w.drew.setRow g c1.toArray := ⟨_, rfl⟩
  have HW1 : Hid (W1 = w.drew.setRow g c1.toArray) := hW1
  rw [← hW1] at hrun hg1
  have hcl : ∀ ty, (Builtin.clear_ #[22] ty #[.slice (some ⟨g, (i + m) * 3, none⟩) 1 (cap - (i + m))]).run Try.prog W1 = .ok (.tuple #[]) (W1.setRow g c2.toArray) := fun ty => by
    have := run_clear3 W1 ty g ((i + m) * 3) (cap - (i + m)) c1.toArray hg1 (by simp [d1, hcs]; omega)
    rw [this, hc2]
  have HR : Hid (∀ ty, (Builtin.append_ #[22, 22] ty #[.slice (some ⟨g, 0, none⟩) i cap, .slice (some A) m (cap - (i + 1))]).run Try.prog w.drew = .ok (.slice (some ⟨g, 0, none⟩) (i + m) cap) W1) := hrun
  have HC : Hid (∀ ty, (Builtin.clear_ #[22] ty #[.slice (some ⟨g, (i + m) * 3, none⟩) 1 (cap - (i + m))]).run Try.prog W1 = .ok (.tuple #[]) (W1.setRow g c2.toArray)) := hcl
  have hne : ((i : Int) == (i : Int) + 1) = false := by simp; omega
  have HL : Hid (xs.length = (i + m + 1) * 3) := hl
  clear hrun hW1 hnA hnews hc1 hc2 hcl hx hl h1
  unfold maxLen at hcm
  have hic : i ≤ cap := by omega
  have hic1 : i + 1 ≤ cap := by omega
  have him : i + m ≤ cap := by omega
  have hnn : (0 : Int) ≤ (i : Int) + 1 := by omega
  have hnm : (i : Int) ≤ (i : Int) + (m : Int) := by omega
  have hne2 : ¬ cap = i + m := by omega
  go_enter Try.func79, Try.ntmps79
  go_wp2_with fail
  go_region_law (refine step_run (by rfl) _ _ (by rfl) (by rfl) (by rfl) (HR.out _) ?_)
  all_goals go_wp2_with (simp only [HC.out])
  go_ret
  refine ⟨rfl, ⟨?_, .inr ⟨g, cap, c2.toArray, rfl, hb, setRow_heap W1 g _ _ 76 _ hg1, him, by unfold maxLen; omega, by simp [d2, hcs], by simpa using d3⟩⟩, ?_⟩
  · have := HL.out
    simp [this]; omega
  · have e := HW1.out
    refine ⟨?_, ?_, ?_, ?_, fun k hk hn => ?_⟩
    · rw [e]; rfl
    · rw [e]; rfl
    · rw [e]; rfl
    · rw [e]; simp
    · have hkg : k ≠ g := fun h => hn (by rw [h])
      rw [setRow_other W1 g k _ hkg, e, setRow_other w.drew g k _ hkg]
      rfl
end Go.Proofs.Ytkddkpdfeeikhaa
