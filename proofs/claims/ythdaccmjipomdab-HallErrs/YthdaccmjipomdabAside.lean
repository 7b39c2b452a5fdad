/-
  hall.putAside keeps the note of an item that came back too often.
-/
import Derived.Test.YthdaccmjipomdabPutIn
namespace Go.Proofs.Ythdaccmjipomdab
open Go.RowKit
set_option linter.unusedVariables false
set_option linter.unusedSimpArgs false

attribute [local go_sem ↓] Go.wp_at_zero Go.wp_at_succ

abbrev deadN : ByteArray := ⟨#[100, 101, 97, 100]⟩

/-- A hall with another queue in a place. -/
def HD.setQ (h : HD) (k : Nat) (q : QD) : HD := ⟨h.queues.set k q, h.next⟩

/-- Put, at a place. -/
def putF (h : HD) (k : Nat) (q : QD) (n : ND) : HD × List ED × Int :=
  if q.limit ≤ (q.items.length : Int) then (h, [], 8) else (⟨h.queues.set k ⟨q.name, q.limit, q.items ++ [newI h.next n]⟩, h.next + 1⟩, [putE q.name h.next n], 0)

/-- Put aside. -/
def asideF (h : HD) (from' : Nat) (n : ND) : HD × List ED :=
  match h.queues.findIdx? (nameB deadN) with
  | none => (h, [])
  | some k => if k = from' then (h, []) else match h.queues[k]? with
    | none => (h, [])
    | some q => ((putF h k q n).1, (putF h k q n).2.1)

theorem asideF_none {h : HD} {from' : Nat} {n : ND} (hd : idxQ deadN h.queues = -1) : asideF h from' n = (h, []) := by
  unfold asideF
  cases hf : h.queues.findIdx? (nameB deadN) with
  | none => rfl
  | some k => simp [idxQ, hf] at hd
theorem asideF_here {h : HD} {from' : Nat} {n : ND} (hd : idxQ deadN h.queues = (from' : Int)) : asideF h from' n = (h, []) := by
  unfold asideF
  cases hf : h.queues.findIdx? (nameB deadN) with
  | none => rfl
  | some k =>
    simp only [idxQ, hf] at hd
    have : k = from' := by omega
    simp [this]
theorem asideF_there {h : HD} {from' k : Nat} {n : ND} (hd : idxQ deadN h.queues = (k : Int)) (hne : k ≠ from') (hk : k < h.queues.length) : asideF h from' n = ((putF h k h.queues[k] n).1, (putF h k h.queues[k] n).2.1) := by
  unfold asideF
  cases hf : h.queues.findIdx? (nameB deadN) with
  | none => simp [idxQ, hf] at hd
  | some j =>
    simp only [idxQ, hf] at hd
    have : j = k := by omega
    subst this
    simp [hne, List.getElem?_eq_getElem hk]

/-- A hall in a box that was changed there, and entries that tell of it. -/
def InAns (P : Nat → Prop) (hb : Nat) (w : World) (v : Value) (h : HD) (es : List ED) (ev : Value) (w' : World) : Prop :=
  ∃ L P', L.map Prod.fst = h.queues ∧ (∀ b, P b → P' b) ∧ (∀ b, P' b → P b ∨ Made w.heap.size w'.heap.size b) ∧ HallIn P' hb w' v L h.next ∧ SliceE (fun b => Made w.heap.size w'.heap.size b ∧ ¬ P' b) w' ev es ∧ Keep (fun b => b < w.heap.size ∧ v.ownBlock ≠ some b ∧ b ≠ hb) w w'

theorem InAns.none {P : Nat → Prop} {hb : Nat} {w w' : World} {v : Value} {L : QuL} {h : HD} (H : HallIn P hb w v L h.next) (e : L.map Prod.fst = h.queues) (hB : Below w.heap.size w w') : InAns P hb w v h [] (.slice none 0 0) w' :=
  ⟨L, P, e, fun _ h => h, fun _ h => .inl h, H.below hB, SliceE.nil _ _, Keep.of hB fun k hk => hk.1⟩

theorem InAns.shp {P : Nat → Prop} {hb : Nat} {w w' : World} {v ev : Value} {h : HD} {es : List ED} (H : InAns P hb w v h es ev w') : ∃ a c, ev = .slice a es.length c := by
  obtain ⟨L, P', _, _, _, _, h5, _⟩ := H
  exact h5.shp

theorem putIn_any {P : Nat → Prop} {hb : Nat} {w : World} {g cap : Nat} {L : QuL} {h : HD} (H : HallIn P hb w (.slice (some ⟨g, 0, none⟩) L.length cap) L h.next) (e : L.map Prod.fst = h.queues) (k : Nat) (hk : k < h.queues.length) (hlen : h.queues.length ≤ 1000) (hnx : 0 ≤ h.next ∧ h.next ≤ 1000000000) (hs : smallI h.queues[k].items) (pv bv : Value) (n : ND) (hn : NoteIs (fun b => b < w.heap.size ∧ b ≠ g ∧ b ≠ hb) w (pv, bv) n) (hsm : n.small) :
    Calls Try.prog 67 #[.pointer (some ⟨hb, 0, none⟩), .int .i64 k, .agg #[pv, bv]] w fun r w' => ∃ ev, r = .returned (.tuple #[ev, .int .i64 (putF h k h.queues[k] n).2.2]) ∧ InAns P hb w (.slice (some ⟨g, 0, none⟩) L.length cap) (putF h k h.queues[k] n).1 (putF h k h.queues[k] n).2.1 ev w' := by
  have hl : L.length = h.queues.length := by rw [← e]; simp
  have hq : h.queues[k] = L[k].1 := by simp [← e]
  rw [hq] at hs ⊢
  unfold putF
  by_cases hf : L[k].1.limit ≤ (L[k].1.items.length : Int)
  · rw [if_pos hf]
    obtain ⟨pa, pc, rfl, -⟩ := SliceV.shape hn.1
    obtain ⟨ba, bc, rfl, -⟩ := SliceV.shape hn.2
    refine (putIn_full H k (by omega) (by omega) hf _ _ _ _ _ _).mono ?_
    rintro r w' ⟨rfl, hB⟩
    exact ⟨_, rfl, InAns.none H e hB⟩
  · rw [if_neg hf]
    refine (putIn_ok H k (by omega) (by omega) hnx hs hf pv bv n hn hsm).mono ?_
    rintro r w' ⟨ev, v', m, h1, h2, rfl, h3, h4, h5⟩
    refine ⟨ev, rfl, L.set k _, _, ?_, fun b hb => .inl hb, fun b hb => ?_, h3, h4.sub fun b hb => ⟨⟨⟨by have := hb.1; omega, hb.2⟩, fun hp => ?_⟩, rfl⟩, ⟨h5.os, h5.tape, h5.output, h5.size, fun b hb => h5.block b ⟨hb.1, fun e => hb.2.1 (by rw [e]; rfl), hb.2.2⟩⟩⟩
    · rw [List.map_set, e]
    · rcases hb with hb | hb
      · exact .inl hb
      · exact .inr ⟨hb.1, by have := hb.2; omega⟩
    · rcases hp with hp | hp
      · have := H.lt b hp; have := hb.1; omega
      · have := hb.1; have := hp.2; omega

set_option maxRecDepth 100000 in
set_option maxHeartbeats 3200000 in
theorem aside_any {P : Nat → Prop} {hb : Nat} {w : World} {g cap : Nat} {L : QuL} {h : HD} (H : HallIn P hb w (.slice (some ⟨g, 0, none⟩) L.length cap) L h.next) (e : L.map Prod.fst = h.queues) (from' : Nat) (hfr : from' < h.queues.length) (hlen : h.queues.length ≤ 1000) (hnx : 0 ≤ h.next ∧ h.next ≤ 1000000000) (hs : ∀ q ∈ h.queues, smallI q.items) (pv bv : Value) (n : ND) (hn : NoteIs (fun b => b < w.heap.size ∧ b ≠ g ∧ b ≠ hb) w (pv, bv) n) (hsm : n.small) :
    Calls Try.prog 92 #[.pointer (some ⟨hb, 0, none⟩), .int .i64 from', .agg #[pv, bv]] w fun r w' => ∃ ev, r = .returned ev ∧ InAns P hb w (.slice (some ⟨g, 0, none⟩) L.length cap) (asideF h from' n).1 (asideF h from' n).2 ev w' := by
  have HH : Hid (HallIn P hb w (.slice (some ⟨g, 0, none⟩) L.length cap) L h.next) := H
  have HE : Hid (L.map Prod.fst = h.queues) := e
  have HN : Hid (NoteIs (fun b => b < w.heap.size ∧ b ≠ g ∧ b ≠ hb) w (pv, bv) n) := hn
  have HM : Hid (n.small ∧ ∀ q ∈ h.queues, smallI q.items) := ⟨hsm, hs⟩
  obtain ⟨pa, pc, rfl, -⟩ := SliceV.shape hn.1
  obtain ⟨ba, bc, rfl, -⟩ := SliceV.shape hn.2
  obtain ⟨x0, x1, x2, x3⟩ := H.box.b2
  obtain ⟨hgl, hgb, -, -⟩ := H.gl
  have HQ : Hid (SliceQ (Under w.heap.size) w (.slice (some ⟨g, 0, none⟩) L.length cap) h.queues) := by rw [← e]; exact H.slice.sub fun b hb => ⟨H.lt b hb, rfl⟩
  have hll : L.length = h.queues.length := by rw [← e]; simp
  have HLL : Hid (L.length = h.queues.length) := hll
  clear hll
  clear H e hn hsm hs
  rcases idxQ_cases deadN h.queues with ⟨hd, -⟩ | ⟨k, hk, hd, -, -⟩
  · have HD' : Hid (idxQ deadN h.queues = -1) := hd
    clear hd
    go_enter Try.func92, Try.ntmps92
    go_wp2_with (go_at_call 16; refine (find_hall deadN _ h.next h.queues _ (HQ.out.sub fun k hk => ⟨Nat.lt_of_lt_of_le hk (by simp), Below.heap_alloc _ _ _ hk⟩)).mono ?_; rw [HD'.out]; rintro r w1 ⟨rfl, hb1⟩)
    go_ret
    rw [asideF_none HD'.out]
    exact ⟨_, rfl, InAns.none HH.out HE.out ((below_alloc _ _).trans (hb1.mono (by simp)))⟩
  · by_cases hkf : k = from'
    · subst hkf
      have HD' : Hid (idxQ deadN h.queues = (k : Int)) := hd
      clear hd
      go_enter Try.func92, Try.ntmps92
      go_wp2_with (go_at_call 16; refine (find_hall deadN _ h.next h.queues _ (HQ.out.sub fun k hk => ⟨Nat.lt_of_lt_of_le hk (by simp), Below.heap_alloc _ _ _ hk⟩)).mono ?_; rw [HD'.out]; rintro r w1 ⟨rfl, hb1⟩)
      go_ret
      rw [asideF_here HD'.out]
      exact ⟨_, rfl, InAns.none HH.out HE.out ((below_alloc _ _).trans (hb1.mono (by simp)))⟩
    · have HD' : Hid (idxQ deadN h.queues = (k : Int)) := hd
      have hkz : ((k : Int) == (from' : Int)) = false := by simp; omega
      have HKF : Hid (k ≠ from') := hkf
      clear hd
      go_enter Try.func92, Try.ntmps92
      go_wp2_with (first
        | (go_at_call 16; refine (find_hall deadN _ h.next h.queues _ (HQ.out.sub fun k hk => ⟨Nat.lt_of_lt_of_le hk (by simp), Below.heap_alloc _ _ _ hk⟩)).mono ?_; rw [HD'.out]; rintro r w1 ⟨rfl, hb1⟩; have hB1 : Below w.heap.size w w1 := (below_alloc _ _).trans (hb1.mono (by simp)); obtain ⟨n0, n1, n2, n3⟩ := ((Blk.new w _ 32).below hb1 (by simp)).b2; have HB1 : Hid (Below w.heap.size w w1) := hB1; clear hb1)
        | (go_at_call 67; refine (putIn_any (HH.out.below HB1.out) HE.out k hk hlen hnx (HM.out.2 _ (List.getElem_mem hk)) _ _ n (HN.out.sub fun b hb => ⟨⟨Nat.lt_of_lt_of_le hb.1 HB1.out.size, hb.2⟩, HB1.out.block b hb.1⟩) HM.out.1).mono ?_; rintro r w2 ⟨ev, rfl, hA⟩; obtain ⟨ea, ec, rfl⟩ : ∃ ea ec, ev = .slice ea (putF h k h.queues[k] n).2.1.length ec := hA.shp))
      go_ret
      rw [asideF_there HD'.out HKF.out hk]
      refine ⟨_, rfl, ?_⟩
      obtain ⟨L', P', h1, h2, h3, h4, h5, h6⟩ := hA
      have hz := HB1.out.size
      exact ⟨L', P', h1, h2, fun b hb => (h3 b hb).imp id (fun h => ⟨by have := h.1; omega, h.2⟩), h4, h5.sub fun b hb => ⟨⟨⟨by have := hb.1.1; omega, hb.1.2⟩, hb.2⟩, rfl⟩, ⟨h6.os.trans hB1.os, h6.tape.trans hB1.tape, h6.output.trans hB1.output, Nat.le_trans hz h6.size, fun b hb => (h6.block b ⟨by have := hb.1; omega, hb.2⟩).trans (hB1.block b hb.1)⟩⟩
end Go.Proofs.Ythdaccmjipomdab
