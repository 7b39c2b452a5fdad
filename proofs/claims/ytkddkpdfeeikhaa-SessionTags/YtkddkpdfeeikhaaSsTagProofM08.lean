/-
  Aside; Changed; Told; List; TurnList: texts laid together.
-/
import Derived.Test.YtkddkpdfeeikhaaSsTagProofM07
import Derived.Test.YtkddkpdfeeikhaaSsTagProofM01
import Derived.Test.YtkddkpdfeeikhaaSsTagProofM04
/-
  hall.putAside keeps the note of an item that came back too often.
-/
namespace Go.Proofs.Ytkddkpdfeeikhaa
open Go.RowKit
set_option linter.unusedVariables false
set_option linter.unusedSimpArgs false

attribute [local go_sem ↓] Go.wp_at_zero Go.wp_at_succ

abbrev deadN : ByteArray := ⟨#[100, 101, 97, 100]⟩

/-- A hall with another queue in a place. -/
def HD.setQ (h : HD) (k : Nat) (q : QD) : HD := ⟨h.queues.set k q, h.next⟩

/-- Put, at a place. -/
def putF (h : HD) (k : Nat) (q : QD) (n : ND) : HD × List ED × Int :=
  if q.limit ≤ (q.items.length : Int) then (h, [], 8) else (⟨h.queues.set k ⟨q.name, q.limit, q.items ++ [newI h.next n]⟩, h.next + 1⟩, [putE q.name h.next n], 0)

/-- Put aside. -/
def asideF (h : HD) (from' : Nat) (n : ND) : HD × List ED :=
  match h.queues.findIdx? (nameB deadN) with
  | none => (h, [])
  | some k => if k = from' then (h, []) else match h.queues[k]? with
    | none => (h, [])
    | some q => ((putF h k q n).1, (putF h k q n).2.1)

theorem asideF_none {h : HD} {from' : Nat} {n : ND} (hd : idxQ deadN h.queues = -1) : asideF h from' n = (h, []) := by
  unfold asideF
  cases hf : h.queues.findIdx? (nameB deadN) with
  | none => rfl
  | some k => simp [idxQ, hf] at hd
theorem asideF_here {h : HD} {from' : Nat} {n : ND} (hd : idxQ deadN h.queues = (from' : Int)) : asideF h from' n = (h, []) := by
  unfold asideF
  cases hf : h.queues.findIdx? (nameB deadN) with
  | none => rfl
  | some k =>
    simp only [idxQ, hf] at hd
    have : k = from' := by omega
    simp [this]
theorem asideF_there {h : HD} {from' k : Nat} {n : ND} (hd : idxQ deadN h.queues = (k : Int)) (hne : k ≠ from') (hk : k < h.queues.length) : asideF h from' n = ((putF h k h.queues[k] n).1, (putF h k h.queues[k] n).2.1) := by
  unfold asideF
  cases hf : h.queues.findIdx? (nameB deadN) with
  | none => simp [idxQ, hf] at hd
  | some j =>
    simp only [idxQ, hf] at hd
    have : j = k := by omega
    subst this
    simp [hne, List.getElem?_eq_getElem hk]

/-- A hall in a box that was changed there, and entries that tell of it. -/
def InAns (P : Nat → Prop) (hb : Nat) (w : World) (v : Value) (h : HD) (es : List ED) (ev : Value) (w' : World) : Prop :=
  ∃ L P', L.map Prod.fst = h.queues ∧ (∀ b, P b → P' b) ∧ (∀ b, P' b → P b ∨ Made w.heap.size w'.heap.size b) ∧ HallIn P' hb w' v L h.next ∧ SliceE (fun b => Made w.heap.size w'.heap.size b ∧ ¬ P' b) w' ev es ∧ Keep (fun b => b < w.heap.size ∧ v.ownBlock ≠ some b ∧ b ≠ hb) w w'

theorem InAns.none {P : Nat → Prop} {hb : Nat} {w w' : World} {v : Value} {L : QuL} {h : HD} (H : HallIn P hb w v L h.next) (e : L.map Prod.fst = h.queues) (hB : Below w.heap.size w w') : InAns P hb w v h [] (.slice none 0 0) w' :=
  ⟨L, P, e, fun _ h => h, fun _ h => .inl h, H.below hB, SliceE.nil _ _, Keep.of hB fun k hk => hk.1⟩

theorem InAns.shp {P : Nat → Prop} {hb : Nat} {w w' : World} {v ev : Value} {h : HD} {es : List ED} (H : InAns P hb w v h es ev w') : ∃ a c, ev = .slice a es.length c := by
  obtain ⟨L, P', _, _, _, _, h5, _⟩ := H
  exact h5.shp

theorem putIn_any {P : Nat → Prop} {hb : Nat} {w : World} {g cap : Nat} {L : QuL} {h : HD} (H : HallIn P hb w (.slice (some ⟨g, 0, none⟩) L.length cap) L h.next) (e : L.map Prod.fst = h.queues) (k : Nat) (hk : k < h.queues.length) (hlen : h.queues.length ≤ 4194304) (hnx : 0 ≤ h.next ∧ h.next ≤ 1000000000) (hs : smallI h.queues[k].items) (pv bv : Value) (n : ND) (hn : NoteIs (fun b => b < w.heap.size ∧ b ≠ g ∧ b ≠ hb) w (pv, bv) n) (hsm : n.small) :
    Calls Try.prog 144 #[.pointer (some ⟨hb, 0, none⟩), .int .i64 k, .agg #[pv, bv]] w fun r w' => ∃ ev, r = .returned (.tuple #[ev, .int .i64 (putF h k h.queues[k] n).2.2]) ∧ InAns P hb w (.slice (some ⟨g, 0, none⟩) L.length cap) (putF h k h.queues[k] n).1 (putF h k h.queues[k] n).2.1 ev w' := by
  have hl : L.length = h.queues.length := by rw [← e]; simp
  have hq : h.queues[k] = L[k].1 := by simp [← e]
  rw [hq] at hs ⊢
  unfold putF
  by_cases hf : L[k].1.limit ≤ (L[k].1.items.length : Int)
  · rw [if_pos hf]
    obtain ⟨pa, pc, rfl, -⟩ := SliceV.shape hn.1
    obtain ⟨ba, bc, rfl, -⟩ := SliceV.shape hn.2
    refine (putIn_full H k (by omega) (by omega) hf _ _ _ _ _ _).mono ?_
    rintro r w' ⟨rfl, hB⟩
    exact ⟨_, rfl, InAns.none H e hB⟩
  · rw [if_neg hf]
    refine (putIn_ok H k (by omega) (by omega) hnx hs hf pv bv n hn hsm).mono ?_
    rintro r w' ⟨ev, v', m, h1, h2, rfl, h3, h4, h5⟩
    refine ⟨ev, rfl, L.set k _, _, ?_, fun b hb => .inl hb, fun b hb => ?_, h3, h4.sub fun b hb => ⟨⟨⟨by have := hb.1; omega, hb.2⟩, fun hp => ?_⟩, rfl⟩, ⟨h5.os, h5.tape, h5.output, h5.size, fun b hb => h5.block b ⟨hb.1, fun e => hb.2.1 (by rw [e]; rfl), hb.2.2⟩⟩⟩
    · rw [List.map_set, e]
    · rcases hb with hb | hb
      · exact .inl hb
      · exact .inr ⟨hb.1, by have := hb.2; omega⟩
    · rcases hp with hp | hp
      · have := H.lt b hp; have := hb.1; omega
      · have := hb.1; have := hp.2; omega

set_option maxRecDepth 100000 in
set_option maxHeartbeats 3200000 in
theorem aside_any {P : Nat → Prop} {hb : Nat} {w : World} {g cap : Nat} {L : QuL} {h : HD} (H : HallIn P hb w (.slice (some ⟨g, 0, none⟩) L.length cap) L h.next) (e : L.map Prod.fst = h.queues) (from' : Nat) (hfr : from' < h.queues.length) (hlen : h.queues.length ≤ 4194304) (hnx : 0 ≤ h.next ∧ h.next ≤ 1000000000) (hs : ∀ q ∈ h.queues, smallI q.items) (pv bv : Value) (n : ND) (hn : NoteIs (fun b => b < w.heap.size ∧ b ≠ g ∧ b ≠ hb) w (pv, bv) n) (hsm : n.small) :
    Calls Try.prog 152 #[.pointer (some ⟨hb, 0, none⟩), .int .i64 from', .agg #[pv, bv]] w fun r w' => ∃ ev, r = .returned ev ∧ InAns P hb w (.slice (some ⟨g, 0, none⟩) L.length cap) (asideF h from' n).1 (asideF h from' n).2 ev w' := by
  have HH : Hid (HallIn P hb w (.slice (some ⟨g, 0, none⟩) L.length cap) L h.next) := H
  have HE : Hid (L.map Prod.fst = h.queues) := e
  have HN : Hid (NoteIs (fun b => b < w.heap.size ∧ b ≠ g ∧ b ≠ hb) w (pv, bv) n) := hn
  have HM : Hid (n.small ∧ ∀ q ∈ h.queues, smallI q.items) := ⟨hsm, hs⟩
  obtain ⟨pa, pc, rfl, -⟩ := SliceV.shape hn.1
  obtain ⟨ba, bc, rfl, -⟩ := SliceV.shape hn.2
  obtain ⟨x0, x1, x2, x3⟩ := H.box.b2
  obtain ⟨hgl, hgb, -, -⟩ := H.gl
  have HQ : Hid (SliceQ (Under w.heap.size) w (.slice (some ⟨g, 0, none⟩) L.length cap) h.queues) := by rw [← e]; exact H.slice.sub fun b hb => ⟨H.lt b hb, rfl⟩
  have hll : L.length = h.queues.length := by rw [← e]; simp
  have HLL : Hid (L.length = h.queues.length) := hll
  clear hll
  clear H e hn hsm hs
  rcases idxQ_cases deadN h.queues with ⟨hd, -⟩ | ⟨k, hk, hd, -, -⟩
  · have HD' : Hid (idxQ deadN h.queues = -1) := hd
    clear hd
    go_enter Try.func152, Try.ntmps152
    go_wp2_with (go_at_call 150; refine (find_hall deadN _ h.next h.queues _ (HQ.out.sub fun k hk => ⟨Nat.lt_of_lt_of_le hk (by simp), Below.heap_alloc _ _ _ hk⟩)).mono ?_; rw [HD'.out]; rintro r w1 ⟨rfl, hb1⟩)
    go_ret
    rw [asideF_none HD'.out]
    exact ⟨_, rfl, InAns.none HH.out HE.out ((below_alloc _ _).trans (hb1.mono (by simp)))⟩
  · by_cases hkf : k = from'
    · subst hkf
      have HD' : Hid (idxQ deadN h.queues = (k : Int)) := hd
      clear hd
      go_enter Try.func152, Try.ntmps152
      go_wp2_with (go_at_call 150; refine (find_hall deadN _ h.next h.queues _ (HQ.out.sub fun k hk => ⟨Nat.lt_of_lt_of_le hk (by simp), Below.heap_alloc _ _ _ hk⟩)).mono ?_; rw [HD'.out]; rintro r w1 ⟨rfl, hb1⟩)
      go_ret
      rw [asideF_here HD'.out]
      exact ⟨_, rfl, InAns.none HH.out HE.out ((below_alloc _ _).trans (hb1.mono (by simp)))⟩
    · have HD' : Hid (idxQ deadN h.queues = (k : Int)) := hd
      have hkz : ((k : Int) == (from' : Int)) = false := by simp; omega
      have HKF : Hid (k ≠ from') := hkf
      clear hd
      go_enter Try.func152, Try.ntmps152
      go_wp2_with (first
        | (go_at_call 150; refine (find_hall deadN _ h.next h.queues _ (HQ.out.sub fun k hk => ⟨Nat.lt_of_lt_of_le hk (by simp), Below.heap_alloc _ _ _ hk⟩)).mono ?_; rw [HD'.out]; rintro r w1 ⟨rfl, hb1⟩; have hB1 : Below w.heap.size w w1 := (below_alloc _ _).trans (hb1.mono (by simp)); obtain ⟨n0, n1, n2, n3⟩ := ((Blk.new w _ 28).below hb1 (by simp)).b2; have HB1 : Hid (Below w.heap.size w w1) := hB1; clear hb1)
        | (go_at_call 144; refine (putIn_any (HH.out.below HB1.out) HE.out k hk hlen hnx (HM.out.2 _ (List.getElem_mem hk)) _ _ n (HN.out.sub fun b hb => ⟨⟨Nat.lt_of_lt_of_le hb.1 HB1.out.size, hb.2⟩, HB1.out.block b hb.1⟩) HM.out.1).mono ?_; rintro r w2 ⟨ev, rfl, hA⟩; obtain ⟨ea, ec, rfl⟩ : ∃ ea ec, ev = .slice ea (putF h k h.queues[k] n).2.1.length ec := hA.shp))
      go_ret
      rw [asideF_there HD'.out HKF.out hk]
      refine ⟨_, rfl, ?_⟩
      obtain ⟨L', P', h1, h2, h3, h4, h5, h6⟩ := hA
      have hz := HB1.out.size
      exact ⟨L', P', h1, h2, fun b hb => (h3 b hb).imp id (fun h => ⟨by have := h.1; omega, h.2⟩), h4, h5.sub fun b hb => ⟨⟨⟨by have := hb.1.1; omega, hb.1.2⟩, hb.2⟩, rfl⟩, ⟨h6.os.trans hB1.os, h6.tape.trans hB1.tape, h6.output.trans hB1.output, Nat.le_trans hz h6.size, fun b hb => (h6.block b ⟨by have := hb.1; omega, hb.2⟩).trans (hB1.block b hb.1)⟩⟩
end Go.Proofs.Ytkddkpdfeeikhaa

/-
  hall.changed answers what a function makes of a copy of a hall.
-/
namespace Go.Proofs.Ytkddkpdfeeikhaa
open Go.RowKit
set_option linter.unusedVariables false
set_option linter.unusedSimpArgs false

attribute [local go_sem ↓] Go.wp_at_zero Go.wp_at_succ

/-- A function that changes a hall in its box, at a place; G are blocks of its own that it changes, Post what it says of them. -/
structure Alters (w : World) (G : Nat → Prop) (F : Nat) (caps : List Value) (h : HD) (k : Nat) (r : HD × List ED × Int) (Post : Nat → World → Prop) : Prop where
  enter : ∀ args W, (callFunc F args).run Try.prog W = .ok (.enter F args) W
  stable : ∀ B W W', Post B W → W.heap.size ≤ W'.heap.size → (∀ b, b < w.heap.size ∨ B ≤ b → W'.heap[b]? = W.heap[b]?) → Post B W'
  call : ∀ (B : Nat) (P : Nat → Prop) (hb : Nat) (W : World) (g cap : Nat) (L : QuL), HallIn P hb W (.slice (some ⟨g, 0, none⟩) L.length cap) L h.next → L.map Prod.fst = h.queues → (∀ b, P b → B ≤ b) → B ≤ hb → w.heap.size ≤ B → Below w.heap.size w W →
    Calls Try.prog F (Value.pointer (some ⟨hb, 0, none⟩) :: Value.int .i64 k :: caps).toArray W fun e w' => ∃ ea en ec, e = .returned (.tuple #[.slice ea en ec, .int .i64 r.2.2]) ∧
      (r.2.2 = 0 → ∃ va vn vc, Blk w' hb [.slice va vn vc, .int .i64 r.1.next] ∧ SliceQ (fun b => B ≤ b ∧ b < w'.heap.size) w' (.slice va vn vc) r.1.queues ∧ SliceE (fun b => B ≤ b ∧ b < w'.heap.size) w' (.slice ea en ec) r.2.1) ∧ Post B w' ∧ Keep (fun b => b < B ∧ ¬ G b) W w'

/-- Where there is an error there is no hall, and there are no entries. -/
def failF (r : HD × List ED × Int) : HD × List ED × Int := if r.2.2 = 0 then r else (⟨[], 0⟩, [], r.2.2)

/-- A hall, entries and an error are answered, in new memory. -/
def AnsH (r : HD × List ED × Int) (w : World) (e : Ending) (w' : World) : Prop :=
  ∃ va vc ea ec, e = .returned (.tuple #[.agg #[.slice va r.1.queues.length vc, .int .i64 r.1.next], .slice ea r.2.1.length ec, .int .i64 r.2.2]) ∧ SliceQ (Made w.heap.size w'.heap.size) w' (.slice va r.1.queues.length vc) r.1.queues ∧ SliceE (Made w.heap.size w'.heap.size) w' (.slice ea r.2.1.length ec) r.2.1

def refuse (en : Int) : HD × List ED × Int := (⟨[], 0⟩, [], en)

theorem AnsH.refuse (en : Int) (w w' : World) : AnsH (refuse en) w (.returned (.tuple #[.agg #[.slice none 0 0, .int .i64 0], .slice none 0 0, .int .i64 en])) w' :=
  ⟨none, 0, none, 0, rfl, SliceQ.nil _ _, SliceE.nil _ _⟩

set_option maxRecDepth 100000 in
set_option maxHeartbeats 3200000 in
theorem changed_none (f : Value) (v : Value) (name : ByteArray) (h : HD) (w : World) (hv : SliceQ (Under w.heap.size) w v h.queues) (hi : idxQ name h.queues = -1) :
    Calls Try.prog 131 #[.agg #[v, .int .i64 h.next], .string name, f] w fun e w' => AnsH (refuse 6) w e w' ∧ Below w.heap.size w w' := by
  have HV : Hid (SliceQ (Under w.heap.size) w v h.queues) := hv
  have HI : Hid (idxQ name h.queues = -1) := hi
  obtain ⟨va, vc, rfl⟩ := hv.shp
  clear hv hi
  have two : Hid (∀ o1 o2 : Obj, Below w.heap.size w ((w.alloc o1).alloc o2)) := fun o1 o2 => (below_alloc _ _).alloc (by simp) _
  go_enter Try.func131, Try.ntmps131
  go_wp2_with (go_at_call 150; refine (find_hall name _ h.next h.queues _ (HV.out.sub fun k hk => ⟨?_, (two.out _ _).block k hk⟩)).mono ?_; (simp [Under] at hk ⊢; omega); rw [HI.out]; rintro e w1 ⟨rfl, hb1⟩; obtain ⟨b0, b1, b2, b3⟩ := ((Blk.new (w.alloc _) _ 24).below hb1 (by simp)).b2; simp only [World.size_alloc] at b0 b1 b2 b3)
  refine bodyPost_ret (v := .tuple #[.agg #[.slice none 0 0, .int .i64 0], .slice none 0 0, .int .i64 6]) (by simp [results, Try.results131, go_sem, *]; done) rfl ⟨AnsH.refuse _ _ _, ?_⟩
  iterate 2 refine Below.setCell ?_ (by simp) _
  exact (two.out _ _).trans (hb1.mono (by simp; omega))

set_option maxRecDepth 100000 in
set_option maxHeartbeats 3200000 in
theorem changed_ok (G : Nat → Prop) (F : Nat) (caps : List Value) (v : Value) (name : ByteArray) (h : HD) (k : Nat) (hk : k < h.queues.length) (r : HD × List ED × Int) (Post : Nat → World → Prop) (w : World) (hv : SliceQ (Under w.heap.size) w v h.queues) (hsm : smallQ h.queues) (hi : idxQ name h.queues = (k : Int)) (hA : Alters w G F caps h k r Post) (hG : ∀ b, G b → b < w.heap.size) :
    Calls Try.prog 131 #[.agg #[v, .int .i64 h.next], .string name, .func (.func F) #[] caps.toArray] w fun e w' => AnsH (failF r) w e w' ∧ (∃ B, w.heap.size ≤ B ∧ Post B w') ∧ Keep (fun b => b < w.heap.size ∧ ¬ G b) w w' := by
  have HV : Hid (SliceQ (Under w.heap.size) w v h.queues) := hv
  have HI : Hid (idxQ name h.queues = (k : Int)) := hi
  have HM : Hid (smallQ h.queues) := hsm
  have HA : Hid (Alters w G F caps h k r Post) := hA
  have HG : Hid (∀ b, G b → b < w.heap.size) := hG
  obtain ⟨va, vc, rfl⟩ := hv.shp
  have hE := hA.enter
  clear hv hi hsm hA hG
  have two : Hid (∀ o1 o2 : Obj, Below w.heap.size w ((w.alloc o1).alloc o2)) := fun o1 o2 => (below_alloc _ _).alloc (by simp) _
  by_cases hr : r.2.2 = 0
  · have HR : Hid (r.2.2 = 0) := hr
    go_enter Try.func131, Try.ntmps131
    go_wp2_with (first
      | (go_at_call 150; refine (find_hall name _ h.next h.queues _ (HV.out.sub fun k hk => ⟨?_, (two.out _ _).block k hk⟩)).mono ?_; (simp [Under] at hk ⊢; omega); rw [HI.out]; rintro e w1 ⟨rfl, hb1⟩; have hk0 := ((Blk.new w _ 24).alloc _).below hb1 (by simp; omega); have hk1 := (Blk.new (w.alloc _) _ 24).below hb1 (by simp); simp only [World.size_alloc] at hk0 hk1; obtain ⟨a0, a1, a2, a3⟩ := hk0.b2; obtain ⟨b0, b1, b2, b3⟩ := hk1.b2; have HB1 : Hid (Below w.heap.size w w1) := (two.out _ _).trans (hb1.mono (by simp; omega)); have hz1 : w.heap.size + 2 ≤ w1.heap.size := (by have := hb1.size; simpa using this); have HR1 : Hid (Blk w1 (w.heap.size + 1) [.slice none 0 0, .int .i64 0]) := hk1; clear hb1 hk0 hk1)
      | (go_at_call 55; refine (hallOwn_any _ h _ (HV.out.sub fun k hk => ⟨Nat.lt_of_lt_of_le hk (by omega), HB1.out.block k hk⟩) HM.out).mono ?_; rintro e w2 ⟨vi, rfl, ho2, hb2⟩; obtain ⟨L, hL, hH2⟩ := ho2.box; have hkL : k < L.length := (by have := congrArg List.length hL; simp at this; omega); obtain ⟨g, cap, rfl⟩ := hH2.row' hkL; have hz2 := hb2.size; have HH : Hid (L.map Prod.fst = h.queues ∧ HallIn (Made w1.heap.size w2.heap.size) w2.heap.size (w2.alloc (.cells #[.slice (some ⟨g, 0, none⟩) L.length cap, .int .i64 h.next] 24)) (.slice (some ⟨g, 0, none⟩) L.length cap) L h.next) := ⟨hL, hH2⟩; have HB2 : Hid (Below w.heap.size w (w2.alloc (.cells #[.slice (some ⟨g, 0, none⟩) L.length cap, .int .i64 h.next] 24))) := HB1.out.trans ((hb2.mono (by omega)).alloc (by omega) _); have HR2 : Hid (Blk (w2.alloc (.cells #[.slice (some ⟨g, 0, none⟩) L.length cap, .int .i64 h.next] 24)) (w.heap.size + 1) [.slice none 0 0, .int .i64 0]) := (HR1.out.below hb2 (by omega)).alloc _; clear ho2 hb2 hL hH2 hkL)
      | ((with_reducible show Calls Try.prog F _ _ _); refine (HA.out.call w1.heap.size _ _ _ g cap L HH.out.2 HH.out.1 (fun b hb => hb.1) (by omega) (by omega) HB2.out).mono ?_; rw [HR.out]; rintro e w3 ⟨ea, en, ec, rfl, hA3, hP3, hK3⟩; obtain ⟨va3, vn3, vc3, hB3, hQ3, hE3⟩ := hA3 rfl; obtain ⟨d0, d1, d2, d3⟩ := hB3.b2; have hr3 := HR2.out.same (hK3.block _ ⟨by omega, fun hg => by have := HG.out _ hg; omega⟩); obtain ⟨e0, e1, e2, e3⟩ := hr3.b2; have H3 : Hid _ := And.intro hQ3 (And.intro hE3 (And.intro hP3 hK3)); clear hA3 hB3 hQ3 hE3 hP3 hK3 hr3))
    obtain ⟨hQ3, hE3, hP3, hK3⟩ := H3.out
    obtain rfl : vn3 = r.1.queues.length := by
      obtain ⟨a, c, e⟩ := hQ3.shp
      simp only [Value.slice.injEq] at e
      exact e.2.1
    obtain rfl : en = r.2.1.length := by
      obtain ⟨a, c, e⟩ := hE3.shp
      simp only [Value.slice.injEq] at e
      exact e.2.1
    have hfar : ∀ b, b ≠ w.heap.size + 1 → ((w3.setCell ⟨w.heap.size + 1, 0, none⟩ (.slice va3 r.1.queues.length vc3)).setCell ⟨w.heap.size + 1, 1, none⟩ (.int .i64 r.1.next)).heap[b]? = w3.heap[b]? := fun b hb => by
      rw [Below.heap_setCell _ _ _ _ hb, Below.heap_setCell _ _ _ _ hb]
    have hsz : ((w3.setCell ⟨w.heap.size + 1, 0, none⟩ (.slice va3 r.1.queues.length vc3)).setCell ⟨w.heap.size + 1, 1, none⟩ (.int .i64 r.1.next)).heap.size = w3.heap.size := by simp
    have hB2 := HB2.out
    have hz3 := hK3.size
    simp only [World.size_alloc] at hz3
    refine bodyPost_ret (v := .tuple #[.agg #[.slice va3 r.1.queues.length vc3, .int .i64 r.1.next], .slice ea r.2.1.length ec, .int .i64 0]) (by simp [results, Try.results131, go_sem, *]; done) rfl ⟨?_, ⟨w1.heap.size, by omega, HA.out.stable _ _ _ hP3 (by rw [hsz]; exact Nat.le_refl _) (fun b hb => hfar b (by omega))⟩, ⟨hK3.os.trans hB2.os, hK3.tape.trans hB2.tape, hK3.output.trans hB2.output, by rw [hsz]; omega, fun b hb => (hfar b (by omega)).trans ((hK3.block b ⟨by omega, hb.2⟩).trans (hB2.block b hb.1))⟩⟩
    unfold failF
    rw [if_pos HR.out]
    refine ⟨va3, vc3, ea, ec, by rw [HR.out], hQ3.sub fun b hb => ⟨⟨by have := hb.1; omega, by rw [hsz]; exact hb.2⟩, hfar b (by have := hb.1; omega)⟩, hE3.sub fun b hb => ⟨⟨by have := hb.1; omega, by rw [hsz]; exact hb.2⟩, hfar b (by have := hb.1; omega)⟩⟩
  · have HR : Hid (¬ r.2.2 = 0) := hr
    have hrb : (r.2.2 != 0) = true := by simpa using hr
    go_enter Try.func131, Try.ntmps131
    go_wp2_with (first
      | (go_at_call 150; refine (find_hall name _ h.next h.queues _ (HV.out.sub fun k hk => ⟨?_, (two.out _ _).block k hk⟩)).mono ?_; (simp [Under] at hk ⊢; omega); rw [HI.out]; rintro e w1 ⟨rfl, hb1⟩; have hk0 := ((Blk.new w _ 24).alloc _).below hb1 (by simp; omega); have hk1 := (Blk.new (w.alloc _) _ 24).below hb1 (by simp); simp only [World.size_alloc] at hk0 hk1; obtain ⟨a0, a1, a2, a3⟩ := hk0.b2; obtain ⟨b0, b1, b2, b3⟩ := hk1.b2; have HB1 : Hid (Below w.heap.size w w1) := (two.out _ _).trans (hb1.mono (by simp; omega)); have hz1 : w.heap.size + 2 ≤ w1.heap.size := (by have := hb1.size; simpa using this); have HR1 : Hid (Blk w1 (w.heap.size + 1) [.slice none 0 0, .int .i64 0]) := hk1; clear hb1 hk0 hk1)
      | (go_at_call 55; refine (hallOwn_any _ h _ (HV.out.sub fun k hk => ⟨Nat.lt_of_lt_of_le hk (by omega), HB1.out.block k hk⟩) HM.out).mono ?_; rintro e w2 ⟨vi, rfl, ho2, hb2⟩; obtain ⟨L, hL, hH2⟩ := ho2.box; have hkL : k < L.length := (by have := congrArg List.length hL; simp at this; omega); obtain ⟨g, cap, rfl⟩ := hH2.row' hkL; have hz2 := hb2.size; have HH : Hid (L.map Prod.fst = h.queues ∧ HallIn (Made w1.heap.size w2.heap.size) w2.heap.size (w2.alloc (.cells #[.slice (some ⟨g, 0, none⟩) L.length cap, .int .i64 h.next] 24)) (.slice (some ⟨g, 0, none⟩) L.length cap) L h.next) := ⟨hL, hH2⟩; have HB2 : Hid (Below w.heap.size w (w2.alloc (.cells #[.slice (some ⟨g, 0, none⟩) L.length cap, .int .i64 h.next] 24))) := HB1.out.trans ((hb2.mono (by omega)).alloc (by omega) _); have HR2 : Hid (Blk (w2.alloc (.cells #[.slice (some ⟨g, 0, none⟩) L.length cap, .int .i64 h.next] 24)) (w.heap.size + 1) [.slice none 0 0, .int .i64 0]) := (HR1.out.below hb2 (by omega)).alloc _; clear ho2 hb2 hL hH2 hkL)
      | ((with_reducible show Calls Try.prog F _ _ _); refine (HA.out.call w1.heap.size _ _ _ g cap L HH.out.2 HH.out.1 (fun b hb => hb.1) (by omega) (by omega) HB2.out).mono ?_; rintro e w3 ⟨ea, en, ec, rfl, hA3, hP3, hK3⟩; have hr3 := HR2.out.same (hK3.block _ ⟨by omega, fun hg => by have := HG.out _ hg; omega⟩); obtain ⟨e0, e1, e2, e3⟩ := hr3.b2; have H3 : Hid _ := And.intro hP3 hK3; clear hA3 hP3 hK3 hr3))
    obtain ⟨hP3, hK3⟩ := H3.out
    have hfar : ∀ b, b ≠ w.heap.size + 1 → ((w3.setCell ⟨w.heap.size + 1, 0, none⟩ (.slice none 0 0)).setCell ⟨w.heap.size + 1, 1, none⟩ (.int .i64 0)).heap[b]? = w3.heap[b]? := fun b hb => by
      rw [Below.heap_setCell _ _ _ _ hb, Below.heap_setCell _ _ _ _ hb]
    have hsz : ((w3.setCell ⟨w.heap.size + 1, 0, none⟩ (.slice none 0 0)).setCell ⟨w.heap.size + 1, 1, none⟩ (.int .i64 0)).heap.size = w3.heap.size := by simp
    have hB2 := HB2.out
    have hz3 := hK3.size
    simp only [World.size_alloc] at hz3
    refine bodyPost_ret (v := .tuple #[.agg #[.slice none 0 0, .int .i64 0], .slice none 0 0, .int .i64 r.2.2]) (by simp [results, Try.results131, go_sem, *]; done) rfl ⟨?_, ⟨w1.heap.size, by omega, HA.out.stable _ _ _ hP3 (by rw [hsz]; exact Nat.le_refl _) (fun b hb => hfar b (by omega))⟩, ⟨hK3.os.trans hB2.os, hK3.tape.trans hB2.tape, hK3.output.trans hB2.output, by rw [hsz]; omega, fun b hb => (hfar b (by omega)).trans ((hK3.block b ⟨by omega, hb.2⟩).trans (hB2.block b hb.1))⟩⟩
    unfold failF
    rw [if_neg HR.out]
    exact AnsH.refuse _ _ _
end Go.Proofs.Ytkddkpdfeeikhaa

/-
  Entries of one's own, and more behind them, beside a hall that is changed in its box.
-/
namespace Go.Proofs.Ytkddkpdfeeikhaa
open Go.RowKit
set_option linter.unusedVariables false
set_option linter.unusedSimpArgs false

/-- Entries of one's own, in the blocks of T. -/
structure OwnTL (T : Nat → Prop) (w : World) (tv : Value) (L : EnL) : Prop where
  row : w.ownsRow 0 30 6 tv L.length (cellsE L)
  rowT : ∀ b, tv.ownBlock = some b → T b
  notes : ∀ x ∈ L, NoteIs (fun b => T b ∧ tv.ownBlock ≠ some b) w x.2 x.1.note
  lt : ∀ b, T b → b < w.heap.size
def OwnT (T : Nat → Prop) (w : World) (tv : Value) (es : List ED) : Prop := ∃ L, L.map Prod.fst = es ∧ OwnTL T w tv L

theorem OwnT.nil (w : World) : OwnT (fun _ => False) w (.slice none 0 0) [] := ⟨[], rfl, World.ownsRow_nil _ _ _ _, fun b h => by simp [Value.ownBlock] at h, by simp, fun _ h => h.elim⟩
theorem OwnE.told {base : Nat} {w : World} {v : Value} {es : List ED} (h : OwnE base w v es) : OwnT (Made base w.heap.size) w v es := by
  obtain ⟨L, e, h1, h2⟩ := h
  exact ⟨L, e, own_mono h1 (Nat.zero_le _), fun b hb => h1.lt b hb, fun x hx => (h2 x hx).sub fun b hb => ⟨⟨⟨hb.1, hb.2.1⟩, hb.2.2⟩, rfl⟩, fun b hb => hb.2⟩
theorem OwnTL.on {T : Nat → Prop} {w W : World} {tv : Value} {L : EnL} (h : OwnTL T w tv L) (hz : w.heap.size ≤ W.heap.size) (hB : ∀ b, T b → W.heap[b]? = w.heap[b]?) : OwnTL T W tv L :=
  ⟨own_same h.row (fun b e => hB b (h.rowT b e)), h.rowT, fun x hx => (h.notes x hx).sub fun b hb => ⟨hb, hB b hb.1⟩, fun b hb => Nat.lt_of_lt_of_le (h.lt b hb) hz⟩
theorem OwnT.on {T : Nat → Prop} {w W : World} {tv : Value} {es : List ED} (h : OwnT T w tv es) (hz : w.heap.size ≤ W.heap.size) (hB : ∀ b, T b → W.heap[b]? = w.heap[b]?) : OwnT T W tv es := by
  obtain ⟨L, e, h⟩ := h
  exact ⟨L, e, h.on hz hB⟩
theorem OwnT.slice {T : Nat → Prop} {w : World} {tv : Value} {es : List ED} (h : OwnT T w tv es) : SliceE T w tv es := by
  obtain ⟨L, e, h⟩ := h
  exact ⟨L, e, (own_slice h.row).sub fun k hk => ⟨h.rowT k hk, rfl⟩, fun x hx => (h.notes x hx).sub fun b hb => ⟨hb.1, rfl⟩⟩

/-- Behind 'append(told, more...)'. -/
theorem told_more {T P1 P2 : Nat → Prop} {hb : Nat} {wA wB w3 : World} {v tv : Value} {L2 : QuL} {nx : Int} {LG LE : EnL} {ev : Value} {ao : Option Addr} {cap : Nat}
    (hT : OwnTL T wA tv LG) (hTP : ∀ b, T b → ¬ P1 b) (hTb : ¬ T hb) (hvP : ∀ b, v.ownBlock = some b → P1 b)
    (hP12 : ∀ b, P1 b → P2 b) (hP2 : ∀ b, P2 b → P1 b ∨ Made wA.heap.size wB.heap.size b) (hH : HallIn P2 hb wB v L2 nx)
    (hE : SliceEL (fun b => Made wA.heap.size wB.heap.size b ∧ ¬ P2 b) wB ev LE) (hK : Keep (fun b => b < wA.heap.size ∧ v.ownBlock ≠ some b ∧ b ≠ hb) wA wB) (hbl : hb < wA.heap.size)
    (h3 : w3.ownsRow 0 30 6 (.slice ao (LG.length + LE.length) cap) (LG.length + LE.length) (cellsE LG ++ cellsE LE)) (hg : wB.grownBy w3 tv.ownBlock) (hm : Moved wB tv (.slice ao (LG.length + LE.length) cap)) :
    HallIn P2 hb w3 v L2 nx ∧ ∃ T2 : Nat → Prop, OwnTL T2 w3 (.slice ao (LG.length + LE.length) cap) (LG ++ LE) ∧ (∀ b, T2 b → T b ∨ Made wA.heap.size w3.heap.size b) ∧ (∀ b, T2 b → ¬ P2 b) ∧ ¬ T2 hb ∧ Keep (fun b => b < wA.heap.size ∧ v.ownBlock ≠ some b ∧ b ≠ hb ∧ ¬ T b) wA w3 := by
  have zAB := hK.size
  have zB3 := hg.size
  have hTl := hT.lt
  have keepB : ∀ b, T b → wB.heap[b]? = wA.heap[b]? := fun b hb' => hK.block b ⟨hTl b hb', fun e => hTP b hb' (hvP b e), fun e => hTb (e ▸ hb')⟩
  have hTP2 : ∀ b, T b → ¬ P2 b := fun b hb' hp => by
    rcases hP2 b hp with h | h
    · exact hTP b hb' h
    · have := hTl b hb'; have := h.1; omega
  have hrow : ∀ b, tv.ownBlock = some b → T b := hT.rowT
  have far : ∀ b, b < wB.heap.size → ¬ T b → w3.heap[b]? = wB.heap[b]? := fun b hb' hn => hg.block b hb' (fun e => hn (hrow b e.symm))
  refine ⟨hH.on zB3 (fun b hb' => ?_), fun b => T b ∨ (Made wA.heap.size w3.heap.size b ∧ ¬ P2 b ∧ b ≠ hb), ⟨?_, fun b e => ?_, fun x hx => ?_, fun b hb' => ?_⟩, fun b hb' => ?_, fun b hb' => ?_, fun hb' => ?_, ⟨?_, ?_, ?_, by omega, fun b hb' => ?_⟩⟩
  · rcases hb' with h | rfl
    · exact far b (hH.lt b h) (fun t => hTP2 b t h)
    · exact far b hH.box.lt hTb
  · rw [List.length_append, cellsE_append]; exact h3
  · rcases hm b e with h | h
    · exact .inl (hrow b h)
    · refine .inr ⟨⟨by omega, (h3.lt b e).2⟩, fun hp => ?_, by omega⟩
      have := hH.lt b hp
      omega
  · have hne : ∀ b, b < wB.heap.size → (tv.ownBlock ≠ some b) → (Value.slice ao (LG.length + LE.length) cap).ownBlock ≠ some b := fun b hb1 hb2 e => by
      rcases hm b e with h | h
      · exact hb2 h
      · omega
    rw [List.mem_append] at hx
    rcases hx with hx | hx
    · refine (hT.notes x hx).sub fun b hb' => ?_
      have hl := hTl b hb'.1
      exact ⟨⟨.inl hb'.1, hne b (by omega) hb'.2⟩, (hg.block b (by omega) (fun e => hb'.2 e.symm)).trans (keepB b hb'.1)⟩
    · refine (hE.2 x hx).sub fun b hb' => ?_
      obtain ⟨⟨h1, h2⟩, h4⟩ := hb'
      have hnT : ¬ T b := fun t => by have := hTl b t; omega
      exact ⟨⟨.inr ⟨⟨h1, by omega⟩, h4, by omega⟩, hne b h2 (fun e => hnT (hrow b e))⟩, far b h2 hnT⟩
  · rcases hb' with h | h
    · have := hTl b h; omega
    · exact h.1.2
  · rcases hb' with h | h
    · exact .inl h
    · exact .inr h.1
  · rcases hb' with h | h
    · exact hTP2 b h
    · exact h.2.1
  · rcases hb' with h | h
    · exact hTb h
    · exact h.2.2 rfl
  · exact hg.os.trans hK.os
  · exact hg.tape.trans hK.tape
  · exact hg.output.trans hK.output
  · exact (far b (by omega) hb'.2.2.2).trans (hK.block b ⟨hb'.1, hb'.2.1, hb'.2.2.1⟩)
end Go.Proofs.Ytkddkpdfeeikhaa

/-
  The lists of QueueFirst.
-/
namespace Go.Proofs.Ytkddkpdfeeikhaa
set_option linter.unusedVariables false
set_option linter.unusedSimpArgs false

theorem idx_eq (p : IT → Bool) (l : List IT) (k : Nat) (hk : k < l.length) (hp : p l[k] = true) (hn : ∀ j (h : j < k), p (l[j]'(by omega)) = false) : idxI p l = k := by
  have : l.findIdx? p = some k := by
    rw [List.findIdx?_eq_some_iff_getElem]
    exact ⟨hk, hp, fun j hj => by simp [hn j hj]⟩
  simp [idxI, this]
end Go.Proofs.Ytkddkpdfeeikhaa

/-
  The lists of QueueTurn.
-/
namespace Go.Proofs.Ytkddkpdfeeikhaa
set_option linter.unusedVariables false
set_option linter.unusedSimpArgs false

theorem idxI_cases (p : IT → Bool) (l : List IT) : idxI p l = -1 ∨ ∃ k, ∃ h : k < l.length, idxI p l = (k : Int) ∧ p l[k] = true ∧ ∀ j (hj : j < k), p (l[j]'(by omega)) = false := by
  cases h : l.findIdx? p with
  | none => exact .inl (by simp [idxI, h])
  | some k =>
    rw [List.findIdx?_eq_some_iff_getElem] at h
    obtain ⟨h1, h2, h3⟩ := h
    refine .inr ⟨k, h1, ?_, h2, fun j hj => by simpa using h3 j hj⟩
    exact idx_eq p l k h1 h2 (fun j hj => by simpa using h3 j hj)

/-- No two have one number. -/
def Apart (its : List IT) : Prop := its.Pairwise (fun a b => a.id < b.id)

theorem Apart.ne {its : List IT} (h : Apart its) {i j : Nat} (hi : i < its.length) (hj : j < its.length) (hne : j ≠ i) : its[j].id ≠ its[i].id := by
  have h' := List.pairwise_iff_getElem.1 h
  rcases Nat.lt_or_ge j i with h1 | h1
  · have := h' j i hj hi h1; omega
  · have := h' i j hi hj (by omega); omega

theorem small_erase {its : List IT} (h : smallI its) (i : Nat) : smallI (its.eraseIdx i) :=
  ⟨Nat.le_trans (List.length_eraseIdx_le _ _) h.1, fun x hx => h.2 x (List.mem_of_mem_eraseIdx hx)⟩
end Go.Proofs.Ytkddkpdfeeikhaa
