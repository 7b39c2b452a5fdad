/-
  hall.Put and hall.Back.
-/
import Derived.Test.YthdaccmjipomdabChanged
import Derived.Test.YthdaccmjipomdabBackIn
import Derived.Test.YthdaccmjipomdabNWrong
namespace Go.Proofs.Ythdaccmjipomdab
open Go.RowKit
set_option linter.unusedVariables false
set_option linter.unusedSimpArgs false

attribute [local go_sem ↓] Go.wp_at_zero Go.wp_at_succ

/-- What a change in the box comes to, for 'changed'. -/
theorem in_alter {P G : Nat → Prop} {hb B : Nat} {W w' : World} {g n cap : Nat} {h : HD} {es : List ED} {ev : Value} (H : InAns P hb W (.slice (some ⟨g, 0, none⟩) n cap) h es ev w') (hP : ∀ b, P b → B ≤ b) (hg : P g) (hbB : B ≤ hb) (hB : B ≤ W.heap.size) :
    ∃ ea en ec, ev = .slice ea en ec ∧ (∃ va vn vc, Blk w' hb [.slice va vn vc, .int .i64 h.next] ∧ SliceQ (fun b => B ≤ b ∧ b < w'.heap.size) w' (.slice va vn vc) h.queues ∧ SliceE (fun b => B ≤ b ∧ b < w'.heap.size) w' (.slice ea en ec) es) ∧ Keep (fun b => b < B ∧ ¬ G b) W w' := by
  obtain ⟨ea, ec, rfl⟩ := H.shp
  obtain ⟨L, P', e, h1, h2, hH, hE, hK⟩ := H
  have hPB : ∀ b, P' b → B ≤ b := fun b hb' => by
    rcases h2 b hb' with h | h
    · exact hP b h
    · have := h.1; omega
  refine ⟨ea, _, ec, rfl, ⟨_, _, _, hH.box, ?_, hE.sub fun b hb' => ⟨⟨by have := hb'.1.1; omega, hb'.1.2⟩, rfl⟩⟩, ⟨hK.os, hK.tape, hK.output, hK.size, fun b hb' => hK.block b ⟨by omega, fun e' => ?_, by omega⟩⟩⟩
  · rw [← e]; exact hH.slice.sub fun b hb' => ⟨⟨hPB b hb', hH.lt b hb'⟩, rfl⟩
  · simp [Value.ownBlock] at e'
    have := hP g hg
    omega

theorem enter66 (args : Array Value) (W : World) : (callFunc 66 args).run Try.prog W = .ok (.enter 66 args) W := by go_simp
theorem enter73 (args : Array Value) (W : World) : (callFunc 73 args).run Try.prog W = .ok (.enter 73 args) W := by go_simp

theorem smallQ_at {qs : List QD} (h : smallQ qs) {k : Nat} (hk : k < qs.length) : smallI qs[k].items := h.2 _ (List.getElem_mem hk)

set_option maxRecDepth 100000 in
set_option maxHeartbeats 1000000 in
theorem put_alters (w : World) (nb : Nat) (pv bv : Value) (n : ND) (hb : Blk w nb [pv, bv]) (hn : NoteIs (Under w.heap.size) w (pv, bv) n) (hsn : n.small) (h : HD) (k : Nat) (hk : k < h.queues.length) (hsm : smallQ h.queues) (hnx : 0 ≤ h.next ∧ h.next ≤ 1000000000) :
    Alters w (fun _ => False) 66 [.pointer (some ⟨nb, 0, none⟩)] h k (putF h k h.queues[k] n) (fun _ _ => True) := by
  refine ⟨enter66, fun _ _ _ _ _ _ => trivial, fun B P hb' W g cap L hH e hP hbB hwB hW => ?_⟩
  have HH : Hid (HallIn P hb' W (.slice (some ⟨g, 0, none⟩) L.length cap) L h.next) := hH
  have HX : Hid (smallQ h.queues ∧ L.map Prod.fst = h.queues ∧ (∀ b, P b → B ≤ b) ∧ n.small) := ⟨hsm, e, hP, hsn⟩
  have HN : Hid (NoteIs (Under w.heap.size) w (pv, bv) n) := hn
  have HW : Hid (Below w.heap.size w W) := hW
  obtain ⟨pa, pc, rfl, -⟩ := SliceV.shape hn.1
  obtain ⟨ba, bc, rfl, -⟩ := SliceV.shape hn.2
  obtain ⟨c0, c1, c2, c3⟩ := (hb.below hW hb.lt).b2
  have hgB := hP g hH.gl.2.2.2
  have hbl := hH.gl.2.2.1
  have hgP := hH.gl.2.2.2
  have hzW := hW.size
  clear hH e hP hsm hn hsn hb hW
  go_enter Try.func66, Try.ntmps66
  go_wp2_with (go_at_call 67; refine (putIn_any HH.out HX.out.2.1 k hk HX.out.1.1 hnx (smallQ_at HX.out.1 hk) _ _ n (HN.out.sub fun b hb => ⟨⟨Nat.lt_of_lt_of_le hb hzW, by have : b < w.heap.size := hb; omega, by have : b < w.heap.size := hb; omega⟩, HW.out.block b hb⟩) HX.out.2.2.2).mono ?_; rintro r w1 ⟨ev, rfl, hA⟩; obtain ⟨ea, en, ec, rfl, hA1, hA2⟩ := in_alter (G := fun _ => False) hA HX.out.2.2.1 hgP hbB (by omega); have HA : Hid _ := And.intro hA1 hA2; clear hA hA1 hA2)
  refine bodyPost_ret (v := .tuple #[.slice ea en ec, .int .i64 (putF h k h.queues[k] n).2.2]) (by simp [results, Try.results66, go_sem, *]; done) rfl ⟨ea, en, ec, rfl, fun _ => HA.out.1, trivial, HA.out.2⟩

set_option maxRecDepth 100000 in
set_option maxHeartbeats 1000000 in
theorem back_alters (w : World) (tb : Nat) (tn : Int) (tq : ByteArray) (id turn : Int) (hb : Blk w tb [.int .i64 tn, .string tq, .int .i64 id, .int .i64 turn]) (h : HD) (k : Nat) (hk : k < h.queues.length) (hsm : smallQ h.queues) (hfit : ∀ q ∈ h.queues, ∀ i ∈ q.items, i.fits) (hnx : 0 ≤ h.next ∧ h.next ≤ 1000000000) :
    Alters w (fun _ => False) 73 [.pointer (some ⟨tb, 0, none⟩)] h k (backF h k h.queues[k] id turn) (fun _ _ => True) := by
  refine ⟨enter73, fun _ _ _ _ _ _ => trivial, fun B P hb' W g cap L hH e hP hbB hwB hW => ?_⟩
  have HH : Hid (HallIn P hb' W (.slice (some ⟨g, 0, none⟩) L.length cap) L h.next) := hH
  have HX : Hid (smallQ h.queues ∧ L.map Prod.fst = h.queues ∧ (∀ b, P b → B ≤ b) ∧ ∀ q ∈ h.queues, ∀ i ∈ q.items, i.fits) := ⟨hsm, e, hP, hfit⟩
  have hk4 := hb.below hW hb.lt
  obtain ⟨c0, c1, c2, c3⟩ : W.cell? ⟨tb, 2, none⟩ = some (.int .i64 id) ∧ W.cell? ⟨tb, 3, none⟩ = some (.int .i64 turn) ∧ (∀ o, W.frozen? ⟨tb, o, none⟩ = false) ∧ tb < W.heap.size := ⟨hk4.cell 2, hk4.cell 3, hk4.f, hk4.lt⟩
  have hbl := hH.gl.2.2.1
  have hgP := hH.gl.2.2.2
  clear hH e hP hsm hfit hb hW hk4
  go_enter Try.func73, Try.ntmps73
  go_wp2_with (go_at_call 74; refine (backIn_any HH.out HX.out.2.1 k hk HX.out.1.1 hnx (fun q hq => ⟨HX.out.1.2 q hq, HX.out.2.2.2 q hq⟩) id turn).mono ?_; rintro r w1 ⟨ev, rfl, hA⟩; obtain ⟨ea, en, ec, rfl, hA1, hA2⟩ := in_alter (G := fun _ => False) hA HX.out.2.2.1 hgP hbB (by omega); have HA : Hid _ := And.intro hA1 hA2; clear hA hA1 hA2)
  refine bodyPost_ret (v := .tuple #[.slice ea en ec, .int .i64 (backF h k h.queues[k] id turn).2.2]) (by simp [results, Try.results73, go_sem, *]; done) rfl ⟨ea, en, ec, rfl, fun _ => HA.out.1, trivial, HA.out.2⟩

/-- What is done at the place of a queue; there may be none. -/
def faceF (h : HD) (name : ByteArray) (f : Nat → QD → HD × List ED × Int) : HD × List ED × Int :=
  match h.queues.findIdx? (nameB name) with
  | none => refuse 6
  | some k => match h.queues[k]? with
    | none => refuse 6
    | some q => failF (f k q)
theorem faceF_none {h : HD} {name : ByteArray} {f : Nat → QD → HD × List ED × Int} (hd : idxQ name h.queues = -1) : faceF h name f = refuse 6 := by
  unfold faceF
  cases hf : h.queues.findIdx? (nameB name) with
  | none => rfl
  | some k => simp [idxQ, hf] at hd
theorem faceF_some {h : HD} {name : ByteArray} {f : Nat → QD → HD × List ED × Int} {k : Nat} (hd : idxQ name h.queues = (k : Int)) (hk : k < h.queues.length) : faceF h name f = failF (f k h.queues[k]) := by
  unfold faceF
  cases hf : h.queues.findIdx? (nameB name) with
  | none => simp [idxQ, hf] at hd
  | some j =>
    simp only [idxQ, hf] at hd
    have : j = k := by omega
    subst this
    simp [List.getElem?_eq_getElem hk]

theorem changed_face (F : Nat) (caps : List Value) (v : Value) (name : ByteArray) (h : HD) (f : Nat → QD → HD × List ED × Int) (w : World) (hv : SliceQ (Under w.heap.size) w v h.queues) (hsm : smallQ h.queues)
    (hA : ∀ k (hk : k < h.queues.length), h.queues[k].name = name → Alters w (fun _ => False) F caps h k (f k h.queues[k]) (fun _ _ => True)) :
    Calls Try.prog 62 #[.agg #[v, .int .i64 h.next], .string name, .func (.func F) #[] caps.toArray] w fun e w' => AnsH (faceF h name f) w e w' ∧ Below w.heap.size w w' := by
  rcases idxQ_cases name h.queues with ⟨hd, -⟩ | ⟨k, hk, hd, hn, -⟩
  · rw [faceF_none hd]
    exact changed_none _ v name h w hv hd
  · rw [faceF_some hd hk]
    refine (changed_ok (fun _ => False) F caps v name h k hk _ _ w hv hsm hd (hA k hk hn) (fun _ h => h.elim)).mono ?_
    rintro e w' ⟨h1, -, h3⟩
    exact ⟨h1, h3.below fun b hb => ⟨hb, fun h => h⟩⟩

/-- The end of a face: the answer is stored in its box. -/
theorem face_end {r : HD × List ED × Int} {w W w1 : World} {va ea : Option Addr} {vc ec : Nat} (hW : Below w.heap.size w W) (hz : w.heap.size + 3 ≤ W.heap.size) (h1 : Below W.heap.size W w1) (hQ : SliceQ (Made W.heap.size w1.heap.size) w1 (.slice va r.1.queues.length vc) r.1.queues) (hE : SliceE (Made W.heap.size w1.heap.size) w1 (.slice ea r.2.1.length ec) r.2.1) (x y : Value) :
    AnsH r w (.returned (.tuple #[.agg #[.slice va r.1.queues.length vc, .int .i64 r.1.next], .slice ea r.2.1.length ec, .int .i64 r.2.2])) ((w1.setCell ⟨w.heap.size + 1 + 1, 0, none⟩ x).setCell ⟨w.heap.size + 1 + 1, 1, none⟩ y) ∧ Below w.heap.size w ((w1.setCell ⟨w.heap.size + 1 + 1, 0, none⟩ x).setCell ⟨w.heap.size + 1 + 1, 1, none⟩ y) := by
  have hfar : ∀ b, b ≠ w.heap.size + 1 + 1 → ((w1.setCell ⟨w.heap.size + 1 + 1, 0, none⟩ x).setCell ⟨w.heap.size + 1 + 1, 1, none⟩ y).heap[b]? = w1.heap[b]? := fun b hb => by
    rw [Below.heap_setCell _ _ _ _ hb, Below.heap_setCell _ _ _ _ hb]
  have hsz : ((w1.setCell ⟨w.heap.size + 1 + 1, 0, none⟩ x).setCell ⟨w.heap.size + 1 + 1, 1, none⟩ y).heap.size = w1.heap.size := by simp
  refine ⟨⟨va, vc, ea, ec, rfl, hQ.sub fun b hb => ⟨⟨by have := hb.1; omega, by rw [hsz]; exact hb.2⟩, hfar b (by have := hb.1; omega)⟩, hE.sub fun b hb => ⟨⟨by have := hb.1; omega, by rw [hsz]; exact hb.2⟩, hfar b (by have := hb.1; omega)⟩⟩, ?_⟩
  exact ((hW.trans (h1.mono (by omega))).setCell (by simp; omega) _).setCell (by simp; omega) _

set_option maxRecDepth 100000 in
set_option maxHeartbeats 1000000 in
theorem hallBack_any (v : Value) (h : HD) (tn : Int) (tq : ByteArray) (id turn : Int) (w : World) (hv : SliceQ (Under w.heap.size) w v h.queues) (hsm : smallQ h.queues) (hfit : ∀ q ∈ h.queues, ∀ i ∈ q.items, i.fits) (hnx : 0 ≤ h.next ∧ h.next ≤ 1000000000) :
    Calls Try.prog 31 #[.agg #[v, .int .i64 h.next], .agg #[.int .i64 tn, .string tq, .int .i64 id, .int .i64 turn]] w fun e w' => AnsH (faceF h tq (fun k q => backF h k q id turn)) w e w' ∧ Below w.heap.size w w' := by
  have HV : Hid (SliceQ (Under w.heap.size) w v h.queues) := hv
  have HX : Hid (smallQ h.queues ∧ ∀ q ∈ h.queues, ∀ i ∈ q.items, i.fits) := ⟨hsm, hfit⟩
  obtain ⟨va, vc, rfl⟩ := hv.shp
  clear hv hsm hfit
  have three : Hid (∀ o1 o2 o3 : Obj, Below w.heap.size w (((w.alloc o1).alloc o2).alloc o3)) := fun o1 o2 o3 => ((below_alloc _ _).alloc (by simp) _).alloc (by simp; omega) _
  go_enter Try.func31, Try.ntmps31
  go_wp2_with (go_at_call 62; refine (changed_face 73 [.pointer (some ⟨w.heap.size + 1, 0, none⟩)] _ tq h (fun k q => backF h k q id turn) _ (HV.out.sub fun k hk => ⟨?_, (three.out _ _ _).block k hk⟩) HX.out.1 (fun k hk hn => back_alters _ _ tn tq id turn ?_ h k hk HX.out.1 HX.out.2 hnx)).mono ?_; (simp [Under] at hk ⊢; omega); (have := (Blk.new (w.alloc (.cells #[.slice va h.queues.length vc, .int .i64 h.next] 43)) [.int .i64 tn, .string tq, .int .i64 id, .int .i64 turn] 47).alloc (.cells #[.slice none 0 0, .int .i64 0] 43); simpa using this); rintro e w1 ⟨⟨va1, vc1, ea1, ec1, rfl, hQ1, hE1⟩, hb1⟩; obtain ⟨b0, b1, b2, b3⟩ := ((Blk.new ((w.alloc _).alloc _) _ 43).below hb1 (by simp)).b2; simp only [World.size_alloc] at b0 b1 b2 b3; have H1 : Hid _ := And.intro hQ1 (And.intro hE1 hb1); clear hQ1 hE1 hb1)
  refine bodyPost_ret (v := .tuple #[.agg #[.slice va1 (faceF h tq (fun k q => backF h k q id turn)).1.queues.length vc1, .int .i64 (faceF h tq (fun k q => backF h k q id turn)).1.next], .slice ea1 (faceF h tq (fun k q => backF h k q id turn)).2.1.length ec1, .int .i64 (faceF h tq (fun k q => backF h k q id turn)).2.2]) (by simp [results, Try.results31, go_sem, *]; done) rfl (face_end (three.out _ _ _) (by simp) H1.out.2.2 H1.out.1 H1.out.2.1 _ _)
end Go.Proofs.Ythdaccmjipomdab
