/-
  hall.changed answers what a function makes of a copy of a hall.
-/
import Derived.Test.YthdaccmjipomdabAside
namespace Go.Proofs.Ythdaccmjipomdab
open Go.RowKit
set_option linter.unusedVariables false
set_option linter.unusedSimpArgs false

attribute [local go_sem ↓] Go.wp_at_zero Go.wp_at_succ

/-- A function that changes a hall in its box, at a place; G are blocks of its own that it changes, Post what it says of them. -/
structure Alters (w : World) (G : Nat → Prop) (F : Nat) (caps : List Value) (h : HD) (k : Nat) (r : HD × List ED × Int) (Post : Nat → World → Prop) : Prop where
  enter : ∀ args W, (callFunc F args).run Try.prog W = .ok (.enter F args) W
  stable : ∀ B W W', Post B W → W.heap.size ≤ W'.heap.size → (∀ b, b < w.heap.size ∨ B ≤ b → W'.heap[b]? = W.heap[b]?) → Post B W'
  call : ∀ (B : Nat) (P : Nat → Prop) (hb : Nat) (W : World) (g cap : Nat) (L : QuL), HallIn P hb W (.slice (some ⟨g, 0, none⟩) L.length cap) L h.next → L.map Prod.fst = h.queues → (∀ b, P b → B ≤ b) → B ≤ hb → w.heap.size ≤ B → Below w.heap.size w W →
    Calls Try.prog F (Value.pointer (some ⟨hb, 0, none⟩) :: Value.int .i64 k :: caps).toArray W fun e w' => ∃ ea en ec, e = .returned (.tuple #[.slice ea en ec, .int .i64 r.2.2]) ∧
      (r.2.2 = 0 → ∃ va vn vc, Blk w' hb [.slice va vn vc, .int .i64 r.1.next] ∧ SliceQ (fun b => B ≤ b ∧ b < w'.heap.size) w' (.slice va vn vc) r.1.queues ∧ SliceE (fun b => B ≤ b ∧ b < w'.heap.size) w' (.slice ea en ec) r.2.1) ∧ Post B w' ∧ Keep (fun b => b < B ∧ ¬ G b) W w'

/-- Where there is an error there is no hall, and there are no entries. -/
def failF (r : HD × List ED × Int) : HD × List ED × Int := if r.2.2 = 0 then r else (⟨[], 0⟩, [], r.2.2)

/-- A hall, entries and an error are answered, in new memory. -/
def AnsH (r : HD × List ED × Int) (w : World) (e : Ending) (w' : World) : Prop :=
  ∃ va vc ea ec, e = .returned (.tuple #[.agg #[.slice va r.1.queues.length vc, .int .i64 r.1.next], .slice ea r.2.1.length ec, .int .i64 r.2.2]) ∧ SliceQ (Made w.heap.size w'.heap.size) w' (.slice va r.1.queues.length vc) r.1.queues ∧ SliceE (Made w.heap.size w'.heap.size) w' (.slice ea r.2.1.length ec) r.2.1

def refuse (en : Int) : HD × List ED × Int := (⟨[], 0⟩, [], en)

theorem AnsH.refuse (en : Int) (w w' : World) : AnsH (refuse en) w (.returned (.tuple #[.agg #[.slice none 0 0, .int .i64 0], .slice none 0 0, .int .i64 en])) w' :=
  ⟨none, 0, none, 0, rfl, SliceQ.nil _ _, SliceE.nil _ _⟩

set_option maxRecDepth 100000 in
set_option maxHeartbeats 3200000 in
theorem changed_none (f : Value) (v : Value) (name : ByteArray) (h : HD) (w : World) (hv : SliceQ (Under w.heap.size) w v h.queues) (hi : idxQ name h.queues = -1) :
    Calls Try.prog 62 #[.agg #[v, .int .i64 h.next], .string name, f] w fun e w' => AnsH (refuse 6) w e w' ∧ Below w.heap.size w w' := by
  have HV : Hid (SliceQ (Under w.heap.size) w v h.queues) := hv
  have HI : Hid (idxQ name h.queues = -1) := hi
  obtain ⟨va, vc, rfl⟩ := hv.shp
  clear hv hi
  have two : Hid (∀ o1 o2 : Obj, Below w.heap.size w ((w.alloc o1).alloc o2)) := fun o1 o2 => (below_alloc _ _).alloc (by simp) _
  go_enter Try.func62, Try.ntmps62
  go_wp2_with (go_at_call 16; refine (find_hall name _ h.next h.queues _ (HV.out.sub fun k hk => ⟨?_, (two.out _ _).block k hk⟩)).mono ?_; (simp [Under] at hk ⊢; omega); rw [HI.out]; rintro e w1 ⟨rfl, hb1⟩; obtain ⟨b0, b1, b2, b3⟩ := ((Blk.new (w.alloc _) _ 43).below hb1 (by simp)).b2; simp only [World.size_alloc] at b0 b1 b2 b3)
  refine bodyPost_ret (v := .tuple #[.agg #[.slice none 0 0, .int .i64 0], .slice none 0 0, .int .i64 6]) (by simp [results, Try.results62, go_sem, *]; done) rfl ⟨AnsH.refuse _ _ _, ?_⟩
  iterate 2 refine Below.setCell ?_ (by simp) _
  exact (two.out _ _).trans (hb1.mono (by simp; omega))

set_option maxRecDepth 100000 in
set_option maxHeartbeats 3200000 in
theorem changed_ok (G : Nat → Prop) (F : Nat) (caps : List Value) (v : Value) (name : ByteArray) (h : HD) (k : Nat) (hk : k < h.queues.length) (r : HD × List ED × Int) (Post : Nat → World → Prop) (w : World) (hv : SliceQ (Under w.heap.size) w v h.queues) (hsm : smallQ h.queues) (hi : idxQ name h.queues = (k : Int)) (hA : Alters w G F caps h k r Post) (hG : ∀ b, G b → b < w.heap.size) :
    Calls Try.prog 62 #[.agg #[v, .int .i64 h.next], .string name, .func (.func F) #[] caps.toArray] w fun e w' => AnsH (failF r) w e w' ∧ (∃ B, w.heap.size ≤ B ∧ Post B w') ∧ Keep (fun b => b < w.heap.size ∧ ¬ G b) w w' := by
  have HV : Hid (SliceQ (Under w.heap.size) w v h.queues) := hv
  have HI : Hid (idxQ name h.queues = (k : Int)) := hi
  have HM : Hid (smallQ h.queues) := hsm
  have HA : Hid (Alters w G F caps h k r Post) := hA
  have HG : Hid (∀ b, G b → b < w.heap.size) := hG
  obtain ⟨va, vc, rfl⟩ := hv.shp
  have hE := hA.enter
  clear hv hi hsm hA hG
  have two : Hid (∀ o1 o2 : Obj, Below w.heap.size w ((w.alloc o1).alloc o2)) := fun o1 o2 => (below_alloc _ _).alloc (by simp) _
  by_cases hr : r.2.2 = 0
  · have HR : Hid (r.2.2 = 0) := hr
    go_enter Try.func62, Try.ntmps62
    go_wp2_with (first
      | (go_at_call 16; refine (find_hall name _ h.next h.queues _ (HV.out.sub fun k hk => ⟨?_, (two.out _ _).block k hk⟩)).mono ?_; (simp [Under] at hk ⊢; omega); rw [HI.out]; rintro e w1 ⟨rfl, hb1⟩; have hk0 := ((Blk.new w _ 43).alloc _).below hb1 (by simp; omega); have hk1 := (Blk.new (w.alloc _) _ 43).below hb1 (by simp); simp only [World.size_alloc] at hk0 hk1; obtain ⟨a0, a1, a2, a3⟩ := hk0.b2; obtain ⟨b0, b1, b2, b3⟩ := hk1.b2; have HB1 : Hid (Below w.heap.size w w1) := (two.out _ _).trans (hb1.mono (by simp; omega)); have hz1 : w.heap.size + 2 ≤ w1.heap.size := (by have := hb1.size; simpa using this); have HR1 : Hid (Blk w1 (w.heap.size + 1) [.slice none 0 0, .int .i64 0]) := hk1; clear hb1 hk0 hk1)
      | (go_at_call 15; refine (hallOwn_any _ h _ (HV.out.sub fun k hk => ⟨Nat.lt_of_lt_of_le hk (by omega), HB1.out.block k hk⟩) HM.out).mono ?_; rintro e w2 ⟨vi, rfl, ho2, hb2⟩; obtain ⟨L, hL, hH2⟩ := ho2.box; have hkL : k < L.length := (by have := congrArg List.length hL; simp at this; omega); obtain ⟨g, cap, rfl⟩ := hH2.row' hkL; have hz2 := hb2.size; have HH : Hid (L.map Prod.fst = h.queues ∧ HallIn (Made w1.heap.size w2.heap.size) w2.heap.size (w2.alloc (.cells #[.slice (some ⟨g, 0, none⟩) L.length cap, .int .i64 h.next] 43)) (.slice (some ⟨g, 0, none⟩) L.length cap) L h.next) := ⟨hL, hH2⟩; have HB2 : Hid (Below w.heap.size w (w2.alloc (.cells #[.slice (some ⟨g, 0, none⟩) L.length cap, .int .i64 h.next] 43))) := HB1.out.trans ((hb2.mono (by omega)).alloc (by omega) _); have HR2 : Hid (Blk (w2.alloc (.cells #[.slice (some ⟨g, 0, none⟩) L.length cap, .int .i64 h.next] 43)) (w.heap.size + 1) [.slice none 0 0, .int .i64 0]) := (HR1.out.below hb2 (by omega)).alloc _; clear ho2 hb2 hL hH2 hkL)
      | ((with_reducible show Calls Try.prog F _ _ _); refine (HA.out.call w1.heap.size _ _ _ g cap L HH.out.2 HH.out.1 (fun b hb => hb.1) (by omega) (by omega) HB2.out).mono ?_; rw [HR.out]; rintro e w3 ⟨ea, en, ec, rfl, hA3, hP3, hK3⟩; obtain ⟨va3, vn3, vc3, hB3, hQ3, hE3⟩ := hA3 rfl; obtain ⟨d0, d1, d2, d3⟩ := hB3.b2; have hr3 := HR2.out.same (hK3.block _ ⟨by omega, fun hg => by have := HG.out _ hg; omega⟩); obtain ⟨e0, e1, e2, e3⟩ := hr3.b2; have H3 : Hid _ := And.intro hQ3 (And.intro hE3 (And.intro hP3 hK3)); clear hA3 hB3 hQ3 hE3 hP3 hK3 hr3))
    obtain ⟨hQ3, hE3, hP3, hK3⟩ := H3.out
    obtain rfl : vn3 = r.1.queues.length := by
      obtain ⟨a, c, e⟩ := hQ3.shp
      simp only [Value.slice.injEq] at e
      exact e.2.1
    obtain rfl : en = r.2.1.length := by
      obtain ⟨a, c, e⟩ := hE3.shp
      simp only [Value.slice.injEq] at e
      exact e.2.1
    have hfar : ∀ b, b ≠ w.heap.size + 1 → ((w3.setCell ⟨w.heap.size + 1, 0, none⟩ (.slice va3 r.1.queues.length vc3)).setCell ⟨w.heap.size + 1, 1, none⟩ (.int .i64 r.1.next)).heap[b]? = w3.heap[b]? := fun b hb => by
      rw [Below.heap_setCell _ _ _ _ hb, Below.heap_setCell _ _ _ _ hb]
    have hsz : ((w3.setCell ⟨w.heap.size + 1, 0, none⟩ (.slice va3 r.1.queues.length vc3)).setCell ⟨w.heap.size + 1, 1, none⟩ (.int .i64 r.1.next)).heap.size = w3.heap.size := by simp
    have hB2 := HB2.out
    have hz3 := hK3.size
    simp only [World.size_alloc] at hz3
    refine bodyPost_ret (v := .tuple #[.agg #[.slice va3 r.1.queues.length vc3, .int .i64 r.1.next], .slice ea r.2.1.length ec, .int .i64 0]) (by simp [results, Try.results62, go_sem, *]; done) rfl ⟨?_, ⟨w1.heap.size, by omega, HA.out.stable _ _ _ hP3 (by rw [hsz]; exact Nat.le_refl _) (fun b hb => hfar b (by omega))⟩, ⟨hK3.os.trans hB2.os, hK3.tape.trans hB2.tape, hK3.output.trans hB2.output, by rw [hsz]; omega, fun b hb => (hfar b (by omega)).trans ((hK3.block b ⟨by omega, hb.2⟩).trans (hB2.block b hb.1))⟩⟩
    unfold failF
    rw [if_pos HR.out]
    refine ⟨va3, vc3, ea, ec, by rw [HR.out], hQ3.sub fun b hb => ⟨⟨by have := hb.1; omega, by rw [hsz]; exact hb.2⟩, hfar b (by have := hb.1; omega)⟩, hE3.sub fun b hb => ⟨⟨by have := hb.1; omega, by rw [hsz]; exact hb.2⟩, hfar b (by have := hb.1; omega)⟩⟩
  · have HR : Hid (¬ r.2.2 = 0) := hr
    have hrb : (r.2.2 != 0) = true := by simpa using hr
    go_enter Try.func62, Try.ntmps62
    go_wp2_with (first
      | (go_at_call 16; refine (find_hall name _ h.next h.queues _ (HV.out.sub fun k hk => ⟨?_, (two.out _ _).block k hk⟩)).mono ?_; (simp [Under] at hk ⊢; omega); rw [HI.out]; rintro e w1 ⟨rfl, hb1⟩; have hk0 := ((Blk.new w _ 43).alloc _).below hb1 (by simp; omega); have hk1 := (Blk.new (w.alloc _) _ 43).below hb1 (by simp); simp only [World.size_alloc] at hk0 hk1; obtain ⟨a0, a1, a2, a3⟩ := hk0.b2; obtain ⟨b0, b1, b2, b3⟩ := hk1.b2; have HB1 : Hid (Below w.heap.size w w1) := (two.out _ _).trans (hb1.mono (by simp; omega)); have hz1 : w.heap.size + 2 ≤ w1.heap.size := (by have := hb1.size; simpa using this); have HR1 : Hid (Blk w1 (w.heap.size + 1) [.slice none 0 0, .int .i64 0]) := hk1; clear hb1 hk0 hk1)
      | (go_at_call 15; refine (hallOwn_any _ h _ (HV.out.sub fun k hk => ⟨Nat.lt_of_lt_of_le hk (by omega), HB1.out.block k hk⟩) HM.out).mono ?_; rintro e w2 ⟨vi, rfl, ho2, hb2⟩; obtain ⟨L, hL, hH2⟩ := ho2.box; have hkL : k < L.length := (by have := congrArg List.length hL; simp at this; omega); obtain ⟨g, cap, rfl⟩ := hH2.row' hkL; have hz2 := hb2.size; have HH : Hid (L.map Prod.fst = h.queues ∧ HallIn (Made w1.heap.size w2.heap.size) w2.heap.size (w2.alloc (.cells #[.slice (some ⟨g, 0, none⟩) L.length cap, .int .i64 h.next] 43)) (.slice (some ⟨g, 0, none⟩) L.length cap) L h.next) := ⟨hL, hH2⟩; have HB2 : Hid (Below w.heap.size w (w2.alloc (.cells #[.slice (some ⟨g, 0, none⟩) L.length cap, .int .i64 h.next] 43))) := HB1.out.trans ((hb2.mono (by omega)).alloc (by omega) _); have HR2 : Hid (Blk (w2.alloc (.cells #[.slice (some ⟨g, 0, none⟩) L.length cap, .int .i64 h.next] 43)) (w.heap.size + 1) [.slice none 0 0, .int .i64 0]) := (HR1.out.below hb2 (by omega)).alloc _; clear ho2 hb2 hL hH2 hkL)
      | ((with_reducible show Calls Try.prog F _ _ _); refine (HA.out.call w1.heap.size _ _ _ g cap L HH.out.2 HH.out.1 (fun b hb => hb.1) (by omega) (by omega) HB2.out).mono ?_; rintro e w3 ⟨ea, en, ec, rfl, hA3, hP3, hK3⟩; have hr3 := HR2.out.same (hK3.block _ ⟨by omega, fun hg => by have := HG.out _ hg; omega⟩); obtain ⟨e0, e1, e2, e3⟩ := hr3.b2; have H3 : Hid _ := And.intro hP3 hK3; clear hA3 hP3 hK3 hr3))
    obtain ⟨hP3, hK3⟩ := H3.out
    have hfar : ∀ b, b ≠ w.heap.size + 1 → ((w3.setCell ⟨w.heap.size + 1, 0, none⟩ (.slice none 0 0)).setCell ⟨w.heap.size + 1, 1, none⟩ (.int .i64 0)).heap[b]? = w3.heap[b]? := fun b hb => by
      rw [Below.heap_setCell _ _ _ _ hb, Below.heap_setCell _ _ _ _ hb]
    have hsz : ((w3.setCell ⟨w.heap.size + 1, 0, none⟩ (.slice none 0 0)).setCell ⟨w.heap.size + 1, 1, none⟩ (.int .i64 0)).heap.size = w3.heap.size := by simp
    have hB2 := HB2.out
    have hz3 := hK3.size
    simp only [World.size_alloc] at hz3
    refine bodyPost_ret (v := .tuple #[.agg #[.slice none 0 0, .int .i64 0], .slice none 0 0, .int .i64 r.2.2]) (by simp [results, Try.results62, go_sem, *]; done) rfl ⟨?_, ⟨w1.heap.size, by omega, HA.out.stable _ _ _ hP3 (by rw [hsz]; exact Nat.le_refl _) (fun b hb => hfar b (by omega))⟩, ⟨hK3.os.trans hB2.os, hK3.tape.trans hB2.tape, hK3.output.trans hB2.output, by rw [hsz]; omega, fun b hb => (hfar b (by omega)).trans ((hK3.block b ⟨by omega, hb.2⟩).trans (hB2.block b hb.1))⟩⟩
    unfold failF
    rw [if_neg HR.out]
    exact AnsH.refuse _ _ _
end Go.Proofs.Ythdaccmjipomdab
