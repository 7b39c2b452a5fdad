/-
  RightH; JSize: texts laid together.
-/
import Derived.Test.YtkddkpdfeeikhaaSsTagProofM21
import Derived.Test.YtkddkpdfeeikhaaRefX
import Derived.Test.YtkddkpdfeeikhaaSsTagProofM30
import Derived.Test.YtkddkpdfeeikhaaSsTagProofM41
import Derived.Test.YtkddkpdfeeikhaaSsTagProofM17
/-
  tgref1.Right answers true only of a hall that is right.
-/
namespace Go.Proofs.Ytkddkpdfeeikhaa
open Go.RowKit
set_option linter.unusedVariables false
set_option linter.unusedSimpArgs false

attribute [local go_sem ↓] Go.wp_at_zero Go.wp_at_succ

def IT.sound (next : Int) (i : IT) : Prop := i.note.wrong = 0 ∧ (0 ≤ i.id ∧ i.id < next) ∧ (0 ≤ i.turn ∧ i.turn ≤ 1000) ∧ (0 ≤ i.tries ∧ i.tries ≤ 2) ∧ (0 ≤ i.due ∧ i.due ≤ 1000000)
/-- Sound so far, the last number. -/
def SoundP (next : Int) (l : List IT) (last : Int) : Prop := -1 ≤ last ∧ (∀ i ∈ l, i.sound next ∧ i.id ≤ last) ∧ l.Pairwise (fun a b => a.id < b.id)
def QD.sound (next : Int) (q : QD) : Prop := keyB q.name = true ∧ (1 ≤ q.limit ∧ q.limit ≤ 8) ∧ (q.items.length : Int) ≤ q.limit ∧ (∀ i ∈ q.items, i.sound next) ∧ q.items.Pairwise (fun a b => a.id < b.id)
def HD.sound (h : HD) : Prop := h.queues.length ≤ 4 ∧ (0 ≤ h.next ∧ h.next ≤ 1000000) ∧ ∀ k (hk : k < h.queues.length), h.queues[k].sound h.next ∧ idxQ h.queues[k].name h.queues = k

theorem IT.sound.good {next : Int} {i : IT} (h : i.sound next) : i.good := ⟨wrong_small h.1, ⟨⟨h.2.2.1.1, by have := h.2.2.1.2; omega⟩, h.2.2.2.1.1, by have := h.2.2.2.1.2; omega⟩, h.2.2.2.1.2⟩
theorem HD.sound.good {h : HD} (s : h.sound) : h.good 1000000 := by
  refine ⟨s.1, s.2.1, fun q hq => ?_⟩
  obtain ⟨k, hk, rfl⟩ := List.getElem_of_mem hq
  obtain ⟨⟨-, ⟨-, l⟩, n, g, -⟩, -⟩ := s.2.2 k hk
  exact ⟨l, by omega, fun i hi => (g i hi).good⟩

theorem SoundP.step {next : Int} {its : List IT} {k : Nat} {last : Int} (h : SoundP next (its.take k) last) (hk : k < its.length) (hr : -1 ≤ last → its[k].sound next) (hl : ¬ its[k].id ≤ last) : SoundP next (its.take (k + 1)) its[k].id := by
  have hr := hr h.1
  rw [List.take_succ_eq_append_getElem hk]
  refine ⟨by have := h.1; omega, fun i hi => ?_, ?_⟩
  · rw [List.mem_append, List.mem_singleton] at hi
    rcases hi with hi | rfl
    · have := h.2.1 i hi
      exact ⟨this.1, by omega⟩
    · exact ⟨hr, by omega⟩
  · rw [List.pairwise_append]
    refine ⟨h.2.2, by simp, fun a ha b hb => ?_⟩
    rw [List.mem_singleton] at hb
    subst hb
    have := (h.2.1 a ha).2
    omega

set_option maxRecDepth 100000 in
set_option maxHeartbeats 12800000 in
theorem rightH_any (v : Value) (h : HD) (w : World) (hv : SliceQ (Under w.heap.size) w v h.queues) (hname : ∀ q ∈ h.queues, q.name.size ≤ maxLen) (hfit : ∀ q ∈ h.queues, ∀ i ∈ q.items, i.note.fitN) :
    Calls Try.prog 19 #[.agg #[v, .int .i64 h.next]] w (AnsB w h.sound) := by
  obtain ⟨qs, next⟩ := h
  simp only at hv hname hfit ⊢
  have HV : Hid (SliceQ (Under w.heap.size) w v qs) := hv
  have HN : Hid (∀ q ∈ qs, q.name.size ≤ maxLen) := hname
  have HF : Hid (∀ q ∈ qs, ∀ i ∈ q.items, i.note.fitN) := hfit
  obtain ⟨va, vc, rfl, h1, h2, -⟩ := hv.shape
  unfold maxLen at h2
  clear hv hname hfit
  by_cases l1 : (4 : Int) < (qs.length : Int)
  · go_enter Try.func19, Try.ntmps19
    go_wp2
    go_ret
    exact AnsB.no (below_alloc _ _)
  by_cases l2 : next < 0
  · go_enter Try.func19, Try.ntmps19
    go_wp2
    go_ret
    exact AnsB.no (below_alloc _ _)
  by_cases l3 : 1000000 < next
  · go_enter Try.func19, Try.ntmps19
    go_wp2
    go_ret
    exact AnsB.no (below_alloc _ _)
  go_enter Try.func19, Try.ntmps19
  go_wp2
  go_loopw [25] (fun i wr => ∃ k : Nat, k ≤ qs.length ∧ i = .int .i64 k ∧ Below w.heap.size w wr ∧ Blk wr w.heap.size [.slice va qs.length vc, .int .i64 next] ∧ ∀ j (hj : j < qs.length), j < k → qs[j].sound next ∧ idxQ qs[j].name qs = j)
    (fun i _ => qs.length - (intOf i).toNat)
  case atStart => exact ⟨0, Nat.zero_le _, rfl, below_alloc _ _, Blk.new w _ 24, fun j _ h => by omega⟩
  case round =>
    obtain ⟨k, hk, rfl, hb, hbk, hno⟩ := hrel
    obtain ⟨wo, hwo⟩ : ∃ wo, wo = wr := ⟨_, rfl⟩
    subst hwo
    have HP : Hid (∀ j (hj : j < qs.length), j < k → qs[j].sound next ∧ idxQ qs[j].name qs = j) := hno
    have HB : Hid (Below w.heap.size w wo) := hb
    have HK : Hid (Blk wo w.heap.size [.slice va qs.length vc, .int .i64 next]) := hbk
    have hzr := hb.size
    obtain ⟨x0, x1, x2, x3⟩ := hbk.b2
    clear hno hbk
    by_cases hlt : k < qs.length
    · obtain ⟨b, off, ia, ic, rfl, hS, hq, c0, c1, c2⟩ := (SliceQ.sub (T := Under wo.heap.size) HV.out (fun b hb' => ⟨Nat.lt_of_lt_of_le hb' hzr, hb.block b hb'⟩)).at k hlt
      have HQ : Hid (SliceI (Under wo.heap.size) wo (.slice ia qs[k].items.length ic) qs[k].items) := hq
      have hnm : qs[k].name.size ≤ maxLen := HN.out _ (List.getElem_mem hlt)
      have HFK : Hid (∀ i ∈ qs[k].items, i.note.fitN) := HF.out _ (List.getElem_mem hlt)
      have HVr : Hid (SliceQ (Under wo.heap.size) wo (.slice (some ⟨b, off, none⟩) qs.length vc) qs) := HV.out.sub (fun b hb' => ⟨Nat.lt_of_lt_of_le hb' hzr, hb.block b hb'⟩)
      obtain ⟨q, hqq⟩ : ∃ q, q = qs[k] := ⟨_, rfl⟩
      rw [← hqq] at c0 c1 c2 HQ hnm HFK
      have HE : Hid (q = qs[k]) := hqq
      clear hq hb hqq
      obtain ⟨q1, q2, q3⟩ := q
      simp only at c0 c1 c2 HQ hnm HFK
      cases hkb : keyB q1
      · have HKB : Hid (keyB q1 = false) := hkb
        clear hkb
        go_wp2_with (first
          | (go_at_call 49; refine (refKey_is q1 _ hnm).mono ?_; rw [HKB.out]; rintro e w1 ⟨rfl, hb1⟩; have HB1 : Hid (Below wo.heap.size wo w1) := (below_alloc _ _).trans (hb1.mono (by simp)); have hk0 := (HK.out.alloc (.cells #[.string q1, .int .i64 q2, .slice ia q3.length ic] 76)).below hb1 (by simp; omega); have hk1 := (Blk.new wo [.string q1, .int .i64 q2, .slice ia q3.length ic] 76).below hb1 (by simp); have HK1 : Hid (Blk w1 w.heap.size [.slice (some ⟨b, off, none⟩) qs.length vc, .int .i64 next] ∧ Blk w1 wo.heap.size [.string q1, .int .i64 q2, .slice ia q3.length ic]) := ⟨hk0, hk1⟩; obtain ⟨x0, x1, x2, x3⟩ := hk0.b2; obtain ⟨y0, y1, y2, y3, y4⟩ := hk1.b3; clear hb1 hk0 hk1)
          | (go_at_call 56; refine (refFind_any q1 _ next qs _ (HVr.out.sub fun k hk => ⟨Nat.lt_of_lt_of_le hk HB1.out.size, HB1.out.block k hk⟩)).mono ?_; rw [HFI.out]; rintro e w2 ⟨rfl, hb2⟩; have HB2 : Hid (Below wo.heap.size wo w2) := HB1.out.trans (hb2.mono HB1.out.size); have hk0 := HK1.out.1.below hb2 HK1.out.1.lt; have hk1 := HK1.out.2.below hb2 HK1.out.2.lt; have HK2 : Hid (Blk w2 w.heap.size [.slice (some ⟨b, off, none⟩) qs.length vc, .int .i64 next] ∧ Blk w2 wo.heap.size [.string q1, .int .i64 q2, .slice ia q3.length ic]) := ⟨hk0, hk1⟩; obtain ⟨z0, z1, z2, z3⟩ := hk0.b2; obtain ⟨t0, t1, t2, t3, t4⟩ := hk1.b3; clear hb2 hk0 hk1 x0 x1 x2 x3 y0 y1 y2 y3))
        go_ret
        exact AnsB.no (HB.out.trans (HB1.out.mono hzr))
      have HKB : Hid (keyB q1 = true) := hkb
      clear hkb
      by_cases hfi : idxQ q1 qs = (k : Int)
      case neg =>
        obtain ⟨z, hz⟩ : ∃ z, z = idxQ q1 qs := ⟨_, rfl⟩
        have HFI : Hid (idxQ q1 qs = z) := hz.symm
        rw [← hz] at hfi
        clear hz
        go_wp2_with (first
          | (go_at_call 49; refine (refKey_is q1 _ hnm).mono ?_; rw [HKB.out]; rintro e w1 ⟨rfl, hb1⟩; have HB1 : Hid (Below wo.heap.size wo w1) := (below_alloc _ _).trans (hb1.mono (by simp)); have hk0 := (HK.out.alloc (.cells #[.string q1, .int .i64 q2, .slice ia q3.length ic] 76)).below hb1 (by simp; omega); have hk1 := (Blk.new wo [.string q1, .int .i64 q2, .slice ia q3.length ic] 76).below hb1 (by simp); have HK1 : Hid (Blk w1 w.heap.size [.slice (some ⟨b, off, none⟩) qs.length vc, .int .i64 next] ∧ Blk w1 wo.heap.size [.string q1, .int .i64 q2, .slice ia q3.length ic]) := ⟨hk0, hk1⟩; obtain ⟨x0, x1, x2, x3⟩ := hk0.b2; obtain ⟨y0, y1, y2, y3, y4⟩ := hk1.b3; clear hb1 hk0 hk1)
          | (go_at_call 56; refine (refFind_any q1 _ next qs _ (HVr.out.sub fun k hk => ⟨Nat.lt_of_lt_of_le hk HB1.out.size, HB1.out.block k hk⟩)).mono ?_; rw [HFI.out]; rintro e w2 ⟨rfl, hb2⟩; have HB2 : Hid (Below wo.heap.size wo w2) := HB1.out.trans (hb2.mono HB1.out.size); have hk0 := HK1.out.1.below hb2 HK1.out.1.lt; have hk1 := HK1.out.2.below hb2 HK1.out.2.lt; have HK2 : Hid (Blk w2 w.heap.size [.slice (some ⟨b, off, none⟩) qs.length vc, .int .i64 next] ∧ Blk w2 wo.heap.size [.string q1, .int .i64 q2, .slice ia q3.length ic]) := ⟨hk0, hk1⟩; obtain ⟨z0, z1, z2, z3⟩ := hk0.b2; obtain ⟨t0, t1, t2, t3, t4⟩ := hk1.b3; clear hb2 hk0 hk1 x0 x1 x2 x3 y0 y1 y2 y3))
        go_ret
        exact AnsB.no (HB.out.trans (HB2.out.mono hzr))
      have HFI : Hid (idxQ q1 qs = (k : Int)) := hfi
      clear hfi
      by_cases d0 : q2 < 1
      · go_wp2_with (first
          | (go_at_call 49; refine (refKey_is q1 _ hnm).mono ?_; rw [HKB.out]; rintro e w1 ⟨rfl, hb1⟩; have HB1 : Hid (Below wo.heap.size wo w1) := (below_alloc _ _).trans (hb1.mono (by simp)); have hk0 := (HK.out.alloc (.cells #[.string q1, .int .i64 q2, .slice ia q3.length ic] 76)).below hb1 (by simp; omega); have hk1 := (Blk.new wo [.string q1, .int .i64 q2, .slice ia q3.length ic] 76).below hb1 (by simp); have HK1 : Hid (Blk w1 w.heap.size [.slice (some ⟨b, off, none⟩) qs.length vc, .int .i64 next] ∧ Blk w1 wo.heap.size [.string q1, .int .i64 q2, .slice ia q3.length ic]) := ⟨hk0, hk1⟩; obtain ⟨x0, x1, x2, x3⟩ := hk0.b2; obtain ⟨y0, y1, y2, y3, y4⟩ := hk1.b3; clear hb1 hk0 hk1)
          | (go_at_call 56; refine (refFind_any q1 _ next qs _ (HVr.out.sub fun k hk => ⟨Nat.lt_of_lt_of_le hk HB1.out.size, HB1.out.block k hk⟩)).mono ?_; rw [HFI.out]; rintro e w2 ⟨rfl, hb2⟩; have HB2 : Hid (Below wo.heap.size wo w2) := HB1.out.trans (hb2.mono HB1.out.size); have hk0 := HK1.out.1.below hb2 HK1.out.1.lt; have hk1 := HK1.out.2.below hb2 HK1.out.2.lt; have HK2 : Hid (Blk w2 w.heap.size [.slice (some ⟨b, off, none⟩) qs.length vc, .int .i64 next] ∧ Blk w2 wo.heap.size [.string q1, .int .i64 q2, .slice ia q3.length ic]) := ⟨hk0, hk1⟩; obtain ⟨z0, z1, z2, z3⟩ := hk0.b2; obtain ⟨t0, t1, t2, t3, t4⟩ := hk1.b3; clear hb2 hk0 hk1 x0 x1 x2 x3 y0 y1 y2 y3))
        go_ret
        exact AnsB.no (HB.out.trans (HB2.out.mono hzr))
      by_cases d1 : 8 < q2
      · go_wp2_with (first
          | (go_at_call 49; refine (refKey_is q1 _ hnm).mono ?_; rw [HKB.out]; rintro e w1 ⟨rfl, hb1⟩; have HB1 : Hid (Below wo.heap.size wo w1) := (below_alloc _ _).trans (hb1.mono (by simp)); have hk0 := (HK.out.alloc (.cells #[.string q1, .int .i64 q2, .slice ia q3.length ic] 76)).below hb1 (by simp; omega); have hk1 := (Blk.new wo [.string q1, .int .i64 q2, .slice ia q3.length ic] 76).below hb1 (by simp); have HK1 : Hid (Blk w1 w.heap.size [.slice (some ⟨b, off, none⟩) qs.length vc, .int .i64 next] ∧ Blk w1 wo.heap.size [.string q1, .int .i64 q2, .slice ia q3.length ic]) := ⟨hk0, hk1⟩; obtain ⟨x0, x1, x2, x3⟩ := hk0.b2; obtain ⟨y0, y1, y2, y3, y4⟩ := hk1.b3; clear hb1 hk0 hk1)
          | (go_at_call 56; refine (refFind_any q1 _ next qs _ (HVr.out.sub fun k hk => ⟨Nat.lt_of_lt_of_le hk HB1.out.size, HB1.out.block k hk⟩)).mono ?_; rw [HFI.out]; rintro e w2 ⟨rfl, hb2⟩; have HB2 : Hid (Below wo.heap.size wo w2) := HB1.out.trans (hb2.mono HB1.out.size); have hk0 := HK1.out.1.below hb2 HK1.out.1.lt; have hk1 := HK1.out.2.below hb2 HK1.out.2.lt; have HK2 : Hid (Blk w2 w.heap.size [.slice (some ⟨b, off, none⟩) qs.length vc, .int .i64 next] ∧ Blk w2 wo.heap.size [.string q1, .int .i64 q2, .slice ia q3.length ic]) := ⟨hk0, hk1⟩; obtain ⟨z0, z1, z2, z3⟩ := hk0.b2; obtain ⟨t0, t1, t2, t3, t4⟩ := hk1.b3; clear hb2 hk0 hk1 x0 x1 x2 x3 y0 y1 y2 y3))
        go_ret
        exact AnsB.no (HB.out.trans (HB2.out.mono hzr))
      by_cases d2 : q2 < q3.length
      · go_wp2_with (first
          | (go_at_call 49; refine (refKey_is q1 _ hnm).mono ?_; rw [HKB.out]; rintro e w1 ⟨rfl, hb1⟩; have HB1 : Hid (Below wo.heap.size wo w1) := (below_alloc _ _).trans (hb1.mono (by simp)); have hk0 := (HK.out.alloc (.cells #[.string q1, .int .i64 q2, .slice ia q3.length ic] 76)).below hb1 (by simp; omega); have hk1 := (Blk.new wo [.string q1, .int .i64 q2, .slice ia q3.length ic] 76).below hb1 (by simp); have HK1 : Hid (Blk w1 w.heap.size [.slice (some ⟨b, off, none⟩) qs.length vc, .int .i64 next] ∧ Blk w1 wo.heap.size [.string q1, .int .i64 q2, .slice ia q3.length ic]) := ⟨hk0, hk1⟩; obtain ⟨x0, x1, x2, x3⟩ := hk0.b2; obtain ⟨y0, y1, y2, y3, y4⟩ := hk1.b3; clear hb1 hk0 hk1)
          | (go_at_call 56; refine (refFind_any q1 _ next qs _ (HVr.out.sub fun k hk => ⟨Nat.lt_of_lt_of_le hk HB1.out.size, HB1.out.block k hk⟩)).mono ?_; rw [HFI.out]; rintro e w2 ⟨rfl, hb2⟩; have HB2 : Hid (Below wo.heap.size wo w2) := HB1.out.trans (hb2.mono HB1.out.size); have hk0 := HK1.out.1.below hb2 HK1.out.1.lt; have hk1 := HK1.out.2.below hb2 HK1.out.2.lt; have HK2 : Hid (Blk w2 w.heap.size [.slice (some ⟨b, off, none⟩) qs.length vc, .int .i64 next] ∧ Blk w2 wo.heap.size [.string q1, .int .i64 q2, .slice ia q3.length ic]) := ⟨hk0, hk1⟩; obtain ⟨z0, z1, z2, z3⟩ := hk0.b2; obtain ⟨t0, t1, t2, t3, t4⟩ := hk1.b3; clear hb2 hk0 hk1 x0 x1 x2 x3 y0 y1 y2 y3))
        go_ret
        exact AnsB.no (HB.out.trans (HB2.out.mono hzr))
      go_wp2_with (first
          | (go_at_call 49; refine (refKey_is q1 _ hnm).mono ?_; rw [HKB.out]; rintro e w1 ⟨rfl, hb1⟩; have HB1 : Hid (Below wo.heap.size wo w1) := (below_alloc _ _).trans (hb1.mono (by simp)); have hk0 := (HK.out.alloc (.cells #[.string q1, .int .i64 q2, .slice ia q3.length ic] 76)).below hb1 (by simp; omega); have hk1 := (Blk.new wo [.string q1, .int .i64 q2, .slice ia q3.length ic] 76).below hb1 (by simp); have HK1 : Hid (Blk w1 w.heap.size [.slice (some ⟨b, off, none⟩) qs.length vc, .int .i64 next] ∧ Blk w1 wo.heap.size [.string q1, .int .i64 q2, .slice ia q3.length ic]) := ⟨hk0, hk1⟩; obtain ⟨x0, x1, x2, x3⟩ := hk0.b2; obtain ⟨y0, y1, y2, y3, y4⟩ := hk1.b3; clear hb1 hk0 hk1)
          | (go_at_call 56; refine (refFind_any q1 _ next qs _ (HVr.out.sub fun k hk => ⟨Nat.lt_of_lt_of_le hk HB1.out.size, HB1.out.block k hk⟩)).mono ?_; rw [HFI.out]; rintro e w2 ⟨rfl, hb2⟩; have HB2 : Hid (Below wo.heap.size wo w2) := HB1.out.trans (hb2.mono HB1.out.size); have hk0 := HK1.out.1.below hb2 HK1.out.1.lt; have hk1 := HK1.out.2.below hb2 HK1.out.2.lt; have HK2 : Hid (Blk w2 w.heap.size [.slice (some ⟨b, off, none⟩) qs.length vc, .int .i64 next] ∧ Blk w2 wo.heap.size [.string q1, .int .i64 q2, .slice ia q3.length ic]) := ⟨hk0, hk1⟩; obtain ⟨z0, z1, z2, z3⟩ := hk0.b2; obtain ⟨t0, t1, t2, t3, t4⟩ := hk1.b3; clear hb2 hk0 hk1 x0 x1 x2 x3 y0 y1 y2 y3))
      have hlen8 : q3.length ≤ 8 := by omega
      have hz2 := HB2.out.size
      go_loopw [5, 63] (fun last i ws => ∃ m : Nat, m ≤ q3.length ∧ i = .int .i64 m ∧ ∃ l : Int, last = .int .i64 l ∧ SoundP next (q3.take m) l ∧ Below w2.heap.size w2 ws)
        (fun _ i _ => q3.length - (intOf i).toNat)
      case atStart => exact ⟨0, Nat.zero_le _, rfl, -1, rfl, ⟨by omega, by simp, by simp⟩, Below.refl _ _⟩
      case round =>
        obtain ⟨m, hm, rfl, l, rfl, hrp, hbs⟩ := hrel
        have HRP : Hid (SoundP next (q3.take m) l) := hrp
        have hzs := hbs.size
        have HBS : Hid (∀ W, Below wr.heap.size wr W → Below w.heap.size w W) := fun W hW => HB.out.trans ((HB2.out.trans ((hbs.trans (hW.mono hzs)).mono hz2)).mono hzr)
        have HKs : Hid (Blk wr w.heap.size [.slice (some ⟨b, off, none⟩) qs.length vc, .int .i64 next]) := HK2.out.1.below hbs HK2.out.1.lt
        obtain ⟨z0, z1, z2, z3⟩ := HKs.out.b2
        clear hrp t0 t1 t2 t3
        by_cases hlm : m < q3.length
        · obtain ⟨b', off', pa, pc, qa, qc, rfl, hS', hn, ⟨e0, e1, e2, e3⟩, e4, e5, e6⟩ := (SliceI.sub (T := Under wr.heap.size) HQ.out (fun b hb => ⟨Nat.lt_of_lt_of_le hb (by omega), (hbs.block b (Nat.lt_of_lt_of_le hb hz2)).trans (HB2.out.block b hb)⟩)).at m hlm
          have hfk0 : q3[m].note.fitN := HFK.out _ (List.getElem_mem hlm)
          obtain ⟨it, hit⟩ : ∃ it, it = q3[m] := ⟨_, rfl⟩
          rw [← hit] at e0 e1 e2 e3 e4 e5 e6 hfk0 hn
          have HIT : Hid (it = q3[m]) := hit
          have hfk : Hid it.note.fitN := hfk0
          have HNI : Hid (NoteIs (Under wr.heap.size) wr (.slice pa it.note.props.length pc, .slice qa it.note.body.length qc) it.note) := hn
          clear hn hit hfk0
          by_cases f1 : it.id ≤ l
          · go_wp2
            go_ret
            exact AnsB.no (HBS.out _ (below_alloc _ _))
          by_cases f2 : next ≤ it.id
          · go_wp2
            go_ret
            exact AnsB.no (HBS.out _ (below_alloc _ _))
          by_cases hwr : it.note.wrong = 0
          case neg =>
            have hwb : (it.note.wrong != 0) = true := by simpa using hwr
            go_wp2_with (go_at_call 14; refine (refWrongN_any _ _ it.note _ (HNI.out.sub fun b hb => ⟨Nat.lt_of_lt_of_le hb (by simp), Below.heap_alloc _ _ _ hb⟩) hfk.out).mono ?_; rintro e w3 ⟨rfl, hb3⟩; have HB3 : Hid (Below wr.heap.size wr w3) := (below_alloc _ _).trans (hb3.mono (by simp)); have hk0 := (HKs.out.alloc (.cells #[.int .i64 it.id, .int .i64 it.turn, .int .i64 it.tries, .bool it.out, .int .i64 it.due, .slice pa it.note.props.length pc, .slice qa it.note.body.length qc] 78)).below hb3 (by simp; omega); have hk1 := (Blk.new wr [.int .i64 it.id, .int .i64 it.turn, .int .i64 it.tries, .bool it.out, .int .i64 it.due, .slice pa it.note.props.length pc, .slice qa it.note.body.length qc] 78).below hb3 (by simp); obtain ⟨r0, r1, r2, r3⟩ := hk0.b2; obtain ⟨⟨s0, s1, s2, s3⟩, ⟨s4, s5, s6⟩, s7, s8⟩ := hk1.b7; clear hb3 hk0 hk1)
            go_ret
            exact AnsB.no (HBS.out _ HB3.out)
          have HWR : Hid (it.note.wrong = 0) := hwr
          clear hwr
          by_cases g0 : it.turn < 0
          · go_wp2_with (go_at_call 14; refine (refWrongN_any _ _ it.note _ (HNI.out.sub fun b hb => ⟨Nat.lt_of_lt_of_le hb (by simp), Below.heap_alloc _ _ _ hb⟩) hfk.out).mono ?_; rw [HWR.out]; rintro e w3 ⟨rfl, hb3⟩; have HB3 : Hid (Below wr.heap.size wr w3) := (below_alloc _ _).trans (hb3.mono (by simp)); have hk0 := (HKs.out.alloc (.cells #[.int .i64 it.id, .int .i64 it.turn, .int .i64 it.tries, .bool it.out, .int .i64 it.due, .slice pa it.note.props.length pc, .slice qa it.note.body.length qc] 78)).below hb3 (by simp; omega); have hk1 := (Blk.new wr [.int .i64 it.id, .int .i64 it.turn, .int .i64 it.tries, .bool it.out, .int .i64 it.due, .slice pa it.note.props.length pc, .slice qa it.note.body.length qc] 78).below hb3 (by simp); obtain ⟨r0, r1, r2, r3⟩ := hk0.b2; obtain ⟨⟨s0, s1, s2, s3⟩, ⟨s4, s5, s6⟩, s7, s8⟩ := hk1.b7; clear hb3 hk0 hk1)
            go_ret
            exact AnsB.no (HBS.out _ HB3.out)
          by_cases g1 : 1000 < it.turn
          · go_wp2_with (go_at_call 14; refine (refWrongN_any _ _ it.note _ (HNI.out.sub fun b hb => ⟨Nat.lt_of_lt_of_le hb (by simp), Below.heap_alloc _ _ _ hb⟩) hfk.out).mono ?_; rw [HWR.out]; rintro e w3 ⟨rfl, hb3⟩; have HB3 : Hid (Below wr.heap.size wr w3) := (below_alloc _ _).trans (hb3.mono (by simp)); have hk0 := (HKs.out.alloc (.cells #[.int .i64 it.id, .int .i64 it.turn, .int .i64 it.tries, .bool it.out, .int .i64 it.due, .slice pa it.note.props.length pc, .slice qa it.note.body.length qc] 78)).below hb3 (by simp; omega); have hk1 := (Blk.new wr [.int .i64 it.id, .int .i64 it.turn, .int .i64 it.tries, .bool it.out, .int .i64 it.due, .slice pa it.note.props.length pc, .slice qa it.note.body.length qc] 78).below hb3 (by simp); obtain ⟨r0, r1, r2, r3⟩ := hk0.b2; obtain ⟨⟨s0, s1, s2, s3⟩, ⟨s4, s5, s6⟩, s7, s8⟩ := hk1.b7; clear hb3 hk0 hk1)
            go_ret
            exact AnsB.no (HBS.out _ HB3.out)
          by_cases g2 : it.tries < 0
          · go_wp2_with (go_at_call 14; refine (refWrongN_any _ _ it.note _ (HNI.out.sub fun b hb => ⟨Nat.lt_of_lt_of_le hb (by simp), Below.heap_alloc _ _ _ hb⟩) hfk.out).mono ?_; rw [HWR.out]; rintro e w3 ⟨rfl, hb3⟩; have HB3 : Hid (Below wr.heap.size wr w3) := (below_alloc _ _).trans (hb3.mono (by simp)); have hk0 := (HKs.out.alloc (.cells #[.int .i64 it.id, .int .i64 it.turn, .int .i64 it.tries, .bool it.out, .int .i64 it.due, .slice pa it.note.props.length pc, .slice qa it.note.body.length qc] 78)).below hb3 (by simp; omega); have hk1 := (Blk.new wr [.int .i64 it.id, .int .i64 it.turn, .int .i64 it.tries, .bool it.out, .int .i64 it.due, .slice pa it.note.props.length pc, .slice qa it.note.body.length qc] 78).below hb3 (by simp); obtain ⟨r0, r1, r2, r3⟩ := hk0.b2; obtain ⟨⟨s0, s1, s2, s3⟩, ⟨s4, s5, s6⟩, s7, s8⟩ := hk1.b7; clear hb3 hk0 hk1)
            go_ret
            exact AnsB.no (HBS.out _ HB3.out)
          by_cases g3 : 2 < it.tries
          · go_wp2_with (go_at_call 14; refine (refWrongN_any _ _ it.note _ (HNI.out.sub fun b hb => ⟨Nat.lt_of_lt_of_le hb (by simp), Below.heap_alloc _ _ _ hb⟩) hfk.out).mono ?_; rw [HWR.out]; rintro e w3 ⟨rfl, hb3⟩; have HB3 : Hid (Below wr.heap.size wr w3) := (below_alloc _ _).trans (hb3.mono (by simp)); have hk0 := (HKs.out.alloc (.cells #[.int .i64 it.id, .int .i64 it.turn, .int .i64 it.tries, .bool it.out, .int .i64 it.due, .slice pa it.note.props.length pc, .slice qa it.note.body.length qc] 78)).below hb3 (by simp; omega); have hk1 := (Blk.new wr [.int .i64 it.id, .int .i64 it.turn, .int .i64 it.tries, .bool it.out, .int .i64 it.due, .slice pa it.note.props.length pc, .slice qa it.note.body.length qc] 78).below hb3 (by simp); obtain ⟨r0, r1, r2, r3⟩ := hk0.b2; obtain ⟨⟨s0, s1, s2, s3⟩, ⟨s4, s5, s6⟩, s7, s8⟩ := hk1.b7; clear hb3 hk0 hk1)
            go_ret
            exact AnsB.no (HBS.out _ HB3.out)
          by_cases g4 : it.due < 0
          · go_wp2_with (go_at_call 14; refine (refWrongN_any _ _ it.note _ (HNI.out.sub fun b hb => ⟨Nat.lt_of_lt_of_le hb (by simp), Below.heap_alloc _ _ _ hb⟩) hfk.out).mono ?_; rw [HWR.out]; rintro e w3 ⟨rfl, hb3⟩; have HB3 : Hid (Below wr.heap.size wr w3) := (below_alloc _ _).trans (hb3.mono (by simp)); have hk0 := (HKs.out.alloc (.cells #[.int .i64 it.id, .int .i64 it.turn, .int .i64 it.tries, .bool it.out, .int .i64 it.due, .slice pa it.note.props.length pc, .slice qa it.note.body.length qc] 78)).below hb3 (by simp; omega); have hk1 := (Blk.new wr [.int .i64 it.id, .int .i64 it.turn, .int .i64 it.tries, .bool it.out, .int .i64 it.due, .slice pa it.note.props.length pc, .slice qa it.note.body.length qc] 78).below hb3 (by simp); obtain ⟨r0, r1, r2, r3⟩ := hk0.b2; obtain ⟨⟨s0, s1, s2, s3⟩, ⟨s4, s5, s6⟩, s7, s8⟩ := hk1.b7; clear hb3 hk0 hk1)
            go_ret
            exact AnsB.no (HBS.out _ HB3.out)
          by_cases g5 : 1000000 < it.due
          · go_wp2_with (go_at_call 14; refine (refWrongN_any _ _ it.note _ (HNI.out.sub fun b hb => ⟨Nat.lt_of_lt_of_le hb (by simp), Below.heap_alloc _ _ _ hb⟩) hfk.out).mono ?_; rw [HWR.out]; rintro e w3 ⟨rfl, hb3⟩; have HB3 : Hid (Below wr.heap.size wr w3) := (below_alloc _ _).trans (hb3.mono (by simp)); have hk0 := (HKs.out.alloc (.cells #[.int .i64 it.id, .int .i64 it.turn, .int .i64 it.tries, .bool it.out, .int .i64 it.due, .slice pa it.note.props.length pc, .slice qa it.note.body.length qc] 78)).below hb3 (by simp; omega); have hk1 := (Blk.new wr [.int .i64 it.id, .int .i64 it.turn, .int .i64 it.tries, .bool it.out, .int .i64 it.due, .slice pa it.note.props.length pc, .slice qa it.note.body.length qc] 78).below hb3 (by simp); obtain ⟨r0, r1, r2, r3⟩ := hk0.b2; obtain ⟨⟨s0, s1, s2, s3⟩, ⟨s4, s5, s6⟩, s7, s8⟩ := hk1.b7; clear hb3 hk0 hk1)
            go_ret
            exact AnsB.no (HBS.out _ HB3.out)
          go_wp2_with (go_at_call 14; refine (refWrongN_any _ _ it.note _ (HNI.out.sub fun b hb => ⟨Nat.lt_of_lt_of_le hb (by simp), Below.heap_alloc _ _ _ hb⟩) hfk.out).mono ?_; rw [HWR.out]; rintro e w3 ⟨rfl, hb3⟩; have HB3 : Hid (Below wr.heap.size wr w3) := (below_alloc _ _).trans (hb3.mono (by simp)); have hk0 := (HKs.out.alloc (.cells #[.int .i64 it.id, .int .i64 it.turn, .int .i64 it.tries, .bool it.out, .int .i64 it.due, .slice pa it.note.props.length pc, .slice qa it.note.body.length qc] 78)).below hb3 (by simp; omega); have hk1 := (Blk.new wr [.int .i64 it.id, .int .i64 it.turn, .int .i64 it.tries, .bool it.out, .int .i64 it.due, .slice pa it.note.props.length pc, .slice qa it.note.body.length qc] 78).below hb3 (by simp); obtain ⟨r0, r1, r2, r3⟩ := hk0.b2; obtain ⟨⟨s0, s1, s2, s3⟩, ⟨s4, s5, s6⟩, s7, s8⟩ := hk1.b7; clear hb3 hk0 hk1)
          go_roundw
          case rel =>
            have hi := HIT.out
            refine ⟨m + 1, by omega, by go_num, it.id, rfl, ?_, hbs.trans (HB3.out.mono hzs)⟩
            rw [hi]
            refine HRP.out.step hlm (fun hl => ?_) (by rw [← hi]; omega)
            rw [← hi]
            exact ⟨HWR.out, ⟨by omega, by omega⟩, ⟨by omega, by omega⟩, ⟨by omega, by omega⟩, by omega, by omega⟩
          case measure => simp [intOf]; omega
        · obtain rfl : m = q3.length := by omega
          go_wp2
          go_roundw
          case rel =>
            refine ⟨k + 1, by omega, by go_num, HBS.out _ (Below.refl _ _), HKs.out, fun j hj hjk => ?_⟩
            by_cases hje : j < k
            · exact HP.out j hj hje
            · obtain rfl : j = k := by omega
              have he := HE.out
              have hr := HRP.out
              rw [List.take_of_length_le (Nat.le_refl _)] at hr
              rw [← he]
              exact ⟨⟨HKB.out, ⟨by show 1 ≤ q2; omega, by show q2 ≤ 8; omega⟩, by show (q3.length : Int) ≤ q2; omega, fun i hi => (hr.2.1 i hi).1, hr.2.2⟩, HFI.out⟩
          case measure => simp [intOf]; omega
    · clear hb
      go_wp2
      go_ret
      exact AnsB.yes _ ⟨by show qs.length ≤ 4; omega, ⟨by show 0 ≤ next; omega, by show next ≤ 1000000; omega⟩, fun j hj => HP.out j hj (by have : j < qs.length := hj; omega)⟩ HB.out
end Go.Proofs.Ytkddkpdfeeikhaa

/-
  The entries of 'Short' of a right hall are right, and find room in a log; what comes of them. Plain.
-/
namespace Go.Proofs.Ytkddkpdfeeikhaa
open Go.RowKit
set_option linter.unusedVariables false
set_option linter.unusedSimpArgs false

theorem key_size {s : ByteArray} (h : keyB s = true) : s.size ≤ 8 := by
  simp only [keyB, Bool.and_eq_true, decide_eq_true_eq] at h
  exact h.1.2

theorem nN_wrong : nN.wrong = 0 := rfl

section
variable {q : QD} {next : Int}
end

theorem sound_each {h : HD} (s : h.sound) : ∀ q ∈ h.queues, q.sound h.next := fun q hq => by
  obtain ⟨k, hk, rfl⟩ := List.mem_iff_getElem.1 hq
  exact (s.2.2 k hk).1

end Go.Proofs.Ytkddkpdfeeikhaa
