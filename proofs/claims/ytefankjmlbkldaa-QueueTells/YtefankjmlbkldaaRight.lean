/-
  tgref1.Right answers true only of a hall whose one queue is right.
-/
import Derived.Test.YtefankjmlbkldaaRef
namespace Go.Proofs.Ytefankjmlbkldaa
open Go.RowKit
set_option linter.unusedVariables false
set_option linter.unusedSimpArgs false

attribute [local go_sem ↓] Go.wp_at_zero Go.wp_at_succ

def IT.right (i : IT) : Prop := i.note.small ∧ (0 ≤ i.turn ∧ i.turn ≤ 1000) ∧ (0 ≤ i.tries ∧ i.tries ≤ 2) ∧ (0 ≤ i.due ∧ i.due ≤ 1000000)

/-- Right so far, the last number. -/
def RightP (l : List IT) (last : Int) : Prop := (∀ i ∈ l, i.right ∧ i.id ≤ last) ∧ l.Pairwise (fun a b => a.id < b.id)

def RightI (its : List IT) : Prop := its.length ≤ 8 ∧ (∀ i ∈ its, i.right) ∧ its.Pairwise (fun a b => a.id < b.id)

theorem RightP.step {its : List IT} {k : Nat} {last : Int} (h : RightP (its.take k) last) (hk : k < its.length) (hr : its[k].right) (hl : ¬ its[k].id ≤ last) : RightP (its.take (k + 1)) its[k].id := by
  rw [List.take_succ_eq_append_getElem hk]
  refine ⟨fun i hi => ?_, ?_⟩
  · rw [List.mem_append, List.mem_singleton] at hi
    rcases hi with hi | rfl
    · have := h.1 i hi
      exact ⟨this.1, by omega⟩
    · exact ⟨hr, by omega⟩
  · rw [List.pairwise_append]
    refine ⟨h.2, by simp, fun a ha b hb => ?_⟩
    rw [List.mem_singleton] at hb
    subst hb
    have := (h.1 a ha).2
    omega

theorem SliceI.at' {S : Nat → Prop} {w : World} {a : Option Addr} {n cap : Nat} {its : List IT} (h : SliceI S w (.slice a n cap) its) (k : Nat) (hk : k < its.length) :
    ∃ b off pa pc qa qc, a = some ⟨b, off, none⟩ ∧ S b ∧ NoteIs S w (.slice pa its[k].note.props.length pc, .slice qa its[k].note.body.length qc) its[k].note ∧ (w.cell? ⟨b, off + k * 7, none⟩ = some (.int .i64 its[k].id) ∧ w.cell? ⟨b, off + k * 7 + 1, none⟩ = some (.int .i64 its[k].turn) ∧ w.cell? ⟨b, off + k * 7 + 2, none⟩ = some (.int .i64 its[k].tries) ∧ w.cell? ⟨b, off + k * 7 + 3, none⟩ = some (.bool its[k].out)) ∧
      (w.cell? ⟨b, off + k * 7 + 4, none⟩ = some (.int .i64 its[k].due) ∧ w.cell? ⟨b, off + k * 7 + 5, none⟩ = some (.slice pa its[k].note.props.length pc) ∧ w.cell? ⟨b, off + k * 7 + 6, none⟩ = some (.slice qa its[k].note.body.length qc)) := by
  obtain ⟨L, rfl, hL⟩ := h
  have hk' : k < L.length := by simpa using hk
  obtain ⟨b, off, e, hS, ⟨c0, c1, c2, c3⟩, c4, c5, c6⟩ := hL.at k hk'
  have hn := hL.2 L[k] (List.getElem_mem hk')
  obtain ⟨pa, pc, e1, -⟩ := SliceV.shape hn.1
  obtain ⟨qa, qc, e2, -⟩ := SliceV.shape hn.2
  have hg : (L.map Prod.fst)[k] = L[k].1 := by simp
  rw [e1] at c5
  rw [e2] at c6
  rw [hg]
  refine ⟨b, off, pa, pc, qa, qc, e, hS, ?_, ⟨c0, c1, c2, c3⟩, c4, c5, c6⟩
  rw [← e1, ← e2]
  exact hn

theorem SliceI.shape' {S : Nat → Prop} {w : World} {v : Value} {its : List IT} (h : SliceI S w v its) : ∃ a cap, v = .slice a its.length cap ∧ its.length ≤ cap ∧ cap ≤ maxLen := by
  obtain ⟨L, rfl, h, -⟩ := h
  obtain ⟨a, cap, rfl, h1, h2, h3⟩ := h.shape
  exact ⟨a, cap, by simp, by simpa using h1, h2⟩

set_option maxRecDepth 100000 in
set_option maxHeartbeats 6400000 in
theorem right_any (g : Nat) (name : ByteArray) (limit : Int) (v : Value) (its : List IT) (w : World) (hg : Blk w g [.string name, .int .i64 limit, v]) (hv : SliceI (Under w.heap.size) w v its) (hname : name.size ≤ maxLen) (hfit : ∀ i ∈ its, i.note.fits) :
    Calls Try.prog 35 #[.agg #[.slice (some ⟨g, 0, none⟩) 1 1, .int .i64 1000000]] w (AnsB w (RightI its)) := by
  have HG : Hid (Blk w g [.string name, .int .i64 limit, v]) := hg
  have HV : Hid (SliceI (Under w.heap.size) w v its) := hv
  have HF : Hid (∀ i ∈ its, i.note.fits) := hfit
  obtain ⟨va, vc, rfl, h1, h2⟩ := hv.shape'
  unfold maxLen at h2
  have hgl := hg.lt
  obtain ⟨g0, g1, g2, g3, g4⟩ := (hg.alloc (.cells #[.slice (some ⟨g, 0, none⟩) 1 1, .int .i64 1000000] 58)).b3
  clear hv hfit hg
  go_enter Try.func35, Try.ntmps35
  go_wp2
  refine wp_loop_rounds 2 ?_
  rw [rounds_succ]
  have ny : Hid True := trivial
  by_cases l1 : limit < 1
  · go_wp2_with (first
      | (go_at_call 12; refine (refKey_any _ _ hname).mono ?_; rintro e w1 ⟨kb, rfl, -, hb1⟩; have HB1 : Hid (Below w.heap.size w w1) := ((below_alloc _ _).alloc (by simp) _).trans (hb1.mono (by simp; omega)); have hk0 := ((Blk.new w _ 58).alloc _).below hb1 (by simp <;> omega); have hk1 := (Blk.new (w.alloc _) _ 54).below hb1 (by simp <;> omega); simp only [World.size_alloc] at hk0 hk1; have HK : Hid _ := And.intro hk0 hk1; obtain ⟨x0, x1, x2, x3⟩ := hk0.b2; obtain ⟨y0, y1, y2, y3, y4⟩ := hk1.b3; clear hb1 hk0 hk1; cases kb)
      | (go_at_call 67; refine (find_any g name limit 1000000 va its.length vc _ (HG.out.below HB1.out hgl)).mono ?_; rintro e w2 ⟨rfl, hb2⟩; have HB2 : Hid (Below w.heap.size w w2) := HB1.out.trans (hb2.mono HB1.out.size); have hk0 := HK.out.1.below hb2 HK.out.1.lt; have hk1 := HK.out.2.below hb2 HK.out.2.lt; have HK2 : Hid (Blk w2 w.heap.size [.slice (some ⟨g, 0, none⟩) 1 1, .int .i64 1000000] ∧ Blk w2 (w.heap.size + 1) [.string name, .int .i64 limit, .slice va its.length vc]) := ⟨hk0, hk1⟩; obtain ⟨z0, z1, z2, z3⟩ := hk0.b2; obtain ⟨t0, t1, t2, t3, t4⟩ := hk1.b3; clear hb2 hk0 hk1 x0 x1 x2 x3 y0 y1 y2 y3))
    · go_ret
      exact AnsB.no HB1.out
    · go_ret
      exact AnsB.no HB2.out
  by_cases l2 : 8 < limit
  · go_wp2_with (first
      | (go_at_call 12; refine (refKey_any _ _ hname).mono ?_; rintro e w1 ⟨kb, rfl, -, hb1⟩; have HB1 : Hid (Below w.heap.size w w1) := ((below_alloc _ _).alloc (by simp) _).trans (hb1.mono (by simp; omega)); have hk0 := ((Blk.new w _ 58).alloc _).below hb1 (by simp <;> omega); have hk1 := (Blk.new (w.alloc _) _ 54).below hb1 (by simp <;> omega); simp only [World.size_alloc] at hk0 hk1; have HK : Hid _ := And.intro hk0 hk1; obtain ⟨x0, x1, x2, x3⟩ := hk0.b2; obtain ⟨y0, y1, y2, y3, y4⟩ := hk1.b3; clear hb1 hk0 hk1; cases kb)
      | (go_at_call 67; refine (find_any g name limit 1000000 va its.length vc _ (HG.out.below HB1.out hgl)).mono ?_; rintro e w2 ⟨rfl, hb2⟩; have HB2 : Hid (Below w.heap.size w w2) := HB1.out.trans (hb2.mono HB1.out.size); have hk0 := HK.out.1.below hb2 HK.out.1.lt; have hk1 := HK.out.2.below hb2 HK.out.2.lt; have HK2 : Hid (Blk w2 w.heap.size [.slice (some ⟨g, 0, none⟩) 1 1, .int .i64 1000000] ∧ Blk w2 (w.heap.size + 1) [.string name, .int .i64 limit, .slice va its.length vc]) := ⟨hk0, hk1⟩; obtain ⟨z0, z1, z2, z3⟩ := hk0.b2; obtain ⟨t0, t1, t2, t3, t4⟩ := hk1.b3; clear hb2 hk0 hk1 x0 x1 x2 x3 y0 y1 y2 y3))
    · go_ret
      exact AnsB.no HB1.out
    · go_ret
      exact AnsB.no HB2.out
  by_cases l3 : limit < its.length
  · go_wp2_with (first
      | (go_at_call 12; refine (refKey_any _ _ hname).mono ?_; rintro e w1 ⟨kb, rfl, -, hb1⟩; have HB1 : Hid (Below w.heap.size w w1) := ((below_alloc _ _).alloc (by simp) _).trans (hb1.mono (by simp; omega)); have hk0 := ((Blk.new w _ 58).alloc _).below hb1 (by simp <;> omega); have hk1 := (Blk.new (w.alloc _) _ 54).below hb1 (by simp <;> omega); simp only [World.size_alloc] at hk0 hk1; have HK : Hid _ := And.intro hk0 hk1; obtain ⟨x0, x1, x2, x3⟩ := hk0.b2; obtain ⟨y0, y1, y2, y3, y4⟩ := hk1.b3; clear hb1 hk0 hk1; cases kb)
      | (go_at_call 67; refine (find_any g name limit 1000000 va its.length vc _ (HG.out.below HB1.out hgl)).mono ?_; rintro e w2 ⟨rfl, hb2⟩; have HB2 : Hid (Below w.heap.size w w2) := HB1.out.trans (hb2.mono HB1.out.size); have hk0 := HK.out.1.below hb2 HK.out.1.lt; have hk1 := HK.out.2.below hb2 HK.out.2.lt; have HK2 : Hid (Blk w2 w.heap.size [.slice (some ⟨g, 0, none⟩) 1 1, .int .i64 1000000] ∧ Blk w2 (w.heap.size + 1) [.string name, .int .i64 limit, .slice va its.length vc]) := ⟨hk0, hk1⟩; obtain ⟨z0, z1, z2, z3⟩ := hk0.b2; obtain ⟨t0, t1, t2, t3, t4⟩ := hk1.b3; clear hb2 hk0 hk1 x0 x1 x2 x3 y0 y1 y2 y3))
    · go_ret
      exact AnsB.no HB1.out
    · go_ret
      exact AnsB.no HB2.out
  go_wp2_with (first
      | (go_at_call 12; refine (refKey_any _ _ hname).mono ?_; rintro e w1 ⟨kb, rfl, -, hb1⟩; have HB1 : Hid (Below w.heap.size w w1) := ((below_alloc _ _).alloc (by simp) _).trans (hb1.mono (by simp; omega)); have hk0 := ((Blk.new w _ 58).alloc _).below hb1 (by simp <;> omega); have hk1 := (Blk.new (w.alloc _) _ 54).below hb1 (by simp <;> omega); simp only [World.size_alloc] at hk0 hk1; have HK : Hid _ := And.intro hk0 hk1; obtain ⟨x0, x1, x2, x3⟩ := hk0.b2; obtain ⟨y0, y1, y2, y3, y4⟩ := hk1.b3; clear hb1 hk0 hk1; cases kb)
      | (go_at_call 67; refine (find_any g name limit 1000000 va its.length vc _ (HG.out.below HB1.out hgl)).mono ?_; rintro e w2 ⟨rfl, hb2⟩; have HB2 : Hid (Below w.heap.size w w2) := HB1.out.trans (hb2.mono HB1.out.size); have hk0 := HK.out.1.below hb2 HK.out.1.lt; have hk1 := HK.out.2.below hb2 HK.out.2.lt; have HK2 : Hid (Blk w2 w.heap.size [.slice (some ⟨g, 0, none⟩) 1 1, .int .i64 1000000] ∧ Blk w2 (w.heap.size + 1) [.string name, .int .i64 limit, .slice va its.length vc]) := ⟨hk0, hk1⟩; obtain ⟨z0, z1, z2, z3⟩ := hk0.b2; obtain ⟨t0, t1, t2, t3, t4⟩ := hk1.b3; clear hb2 hk0 hk1 x0 x1 x2 x3 y0 y1 y2 y3))
  · go_ret
    exact AnsB.no HB1.out
  have hlen8 : its.length ≤ 8 := by omega
  have hz2 := HB2.out.size
  go_loopw [5, 63] (fun last i wr => ∃ k : Nat, k ≤ its.length ∧ i = .int .i64 k ∧ ∃ l : Int, last = .int .i64 l ∧ RightP (its.take k) l ∧ Below w2.heap.size w2 wr)
    (fun _ i _ => its.length - (intOf i).toNat)
  case atStart => exact ⟨0, Nat.zero_le _, rfl, -1, rfl, ⟨by simp, by simp⟩, Below.refl _ _⟩
  case round =>
    obtain ⟨k, hk, rfl, l, rfl, hrp, hbr⟩ := hrel
    have HRP : Hid (RightP (its.take k) l) := hrp
    have hzr := hbr.size
    have HBR : Hid (∀ W, Below wr.heap.size wr W → Below w.heap.size w W) := fun W hW => HB2.out.trans ((hbr.trans (hW.mono hzr)).mono hz2)
    have HK3 : Hid (Blk wr w.heap.size [.slice (some ⟨g, 0, none⟩) 1 1, .int .i64 1000000]) := HK2.out.1.below hbr HK2.out.1.lt
    have HKQ : Hid (Blk wr (w.heap.size + 1) [.string name, .int .i64 limit, .slice va its.length vc]) := HK2.out.2.below hbr HK2.out.2.lt
    obtain ⟨z0', z1', z2', z3'⟩ := HK3.out.b2
    clear hrp z0 z1 z2 z3 t0 t1 t2 t3
    by_cases hlt : k < its.length
    · obtain ⟨b, off, pa, pc, qa, qc, rfl, hS, hn, ⟨c0, c1, c2, c3⟩, c4, c5, c6⟩ := (SliceI.sub (T := Under wr.heap.size) HV.out (fun b hb => ⟨Nat.lt_of_lt_of_le hb (by omega), (hbr.block b (Nat.lt_of_lt_of_le hb hz2)).trans (HB2.out.block b hb)⟩)).at' k hlt
      have HN : Hid (NoteIs (Under wr.heap.size) wr (.slice pa its[k].note.props.length pc, .slice qa its[k].note.body.length qc) its[k].note) := hn
      have hfk : Hid its[k].note.fits := HF.out _ (List.getElem_mem hlt)
      clear hn
      by_cases d1 : its[k].id ≤ l
      · go_wp2
        go_ret
        exact AnsB.no (HBR.out _ (below_alloc _ _))
      by_cases d2 : 1000000 ≤ its[k].id
      · go_wp2
        go_ret
        exact AnsB.no (HBR.out _ (below_alloc _ _))
      by_cases d3 : its[k].turn < 0
      · go_wp2_with (go_at_call 10; refine (refWrong_any _ _ its[k].note _ (HN.out.sub fun b hb => ⟨Nat.lt_of_lt_of_le hb (by simp), Below.heap_alloc _ _ _ hb⟩) hfk.out).mono ?_; rintro e w3 ⟨we, rfl, hwp, hb3⟩; have HB3 : Hid (Below wr.heap.size wr w3) := (below_alloc _ _).trans (hb3.mono (by simp)); have hk0 := (HK3.out.alloc (.cells #[.int .i64 its[k].id, .int .i64 its[k].turn, .int .i64 its[k].tries, .bool its[k].out, .int .i64 its[k].due, .slice pa its[k].note.props.length pc, .slice qa its[k].note.body.length qc] 64)).below hb3 (by simp; omega); have hk1 := (Blk.new wr _ 64).below hb3 (by simp <;> omega); obtain ⟨r0, r1, r2, r3⟩ := hk0.b2; obtain ⟨⟨s0, s1, s2, s3⟩, ⟨s4, s5, s6⟩, s7, s8⟩ := hk1.b7; have HWP : Hid (we = 0 → its[k].note.small) := hwp; clear hb3 hk0 hk1 hwp)
        all_goals
          go_ret
          exact AnsB.no (HBR.out _ HB3.out)
      by_cases d4 : 1000 < its[k].turn
      · go_wp2_with (go_at_call 10; refine (refWrong_any _ _ its[k].note _ (HN.out.sub fun b hb => ⟨Nat.lt_of_lt_of_le hb (by simp), Below.heap_alloc _ _ _ hb⟩) hfk.out).mono ?_; rintro e w3 ⟨we, rfl, hwp, hb3⟩; have HB3 : Hid (Below wr.heap.size wr w3) := (below_alloc _ _).trans (hb3.mono (by simp)); have hk0 := (HK3.out.alloc (.cells #[.int .i64 its[k].id, .int .i64 its[k].turn, .int .i64 its[k].tries, .bool its[k].out, .int .i64 its[k].due, .slice pa its[k].note.props.length pc, .slice qa its[k].note.body.length qc] 64)).below hb3 (by simp; omega); have hk1 := (Blk.new wr _ 64).below hb3 (by simp <;> omega); obtain ⟨r0, r1, r2, r3⟩ := hk0.b2; obtain ⟨⟨s0, s1, s2, s3⟩, ⟨s4, s5, s6⟩, s7, s8⟩ := hk1.b7; have HWP : Hid (we = 0 → its[k].note.small) := hwp; clear hb3 hk0 hk1 hwp)
        all_goals
          go_ret
          exact AnsB.no (HBR.out _ HB3.out)
      by_cases d5 : its[k].tries < 0
      · go_wp2_with (go_at_call 10; refine (refWrong_any _ _ its[k].note _ (HN.out.sub fun b hb => ⟨Nat.lt_of_lt_of_le hb (by simp), Below.heap_alloc _ _ _ hb⟩) hfk.out).mono ?_; rintro e w3 ⟨we, rfl, hwp, hb3⟩; have HB3 : Hid (Below wr.heap.size wr w3) := (below_alloc _ _).trans (hb3.mono (by simp)); have hk0 := (HK3.out.alloc (.cells #[.int .i64 its[k].id, .int .i64 its[k].turn, .int .i64 its[k].tries, .bool its[k].out, .int .i64 its[k].due, .slice pa its[k].note.props.length pc, .slice qa its[k].note.body.length qc] 64)).below hb3 (by simp; omega); have hk1 := (Blk.new wr _ 64).below hb3 (by simp <;> omega); obtain ⟨r0, r1, r2, r3⟩ := hk0.b2; obtain ⟨⟨s0, s1, s2, s3⟩, ⟨s4, s5, s6⟩, s7, s8⟩ := hk1.b7; have HWP : Hid (we = 0 → its[k].note.small) := hwp; clear hb3 hk0 hk1 hwp)
        all_goals
          go_ret
          exact AnsB.no (HBR.out _ HB3.out)
      by_cases d6 : 2 < its[k].tries
      · go_wp2_with (go_at_call 10; refine (refWrong_any _ _ its[k].note _ (HN.out.sub fun b hb => ⟨Nat.lt_of_lt_of_le hb (by simp), Below.heap_alloc _ _ _ hb⟩) hfk.out).mono ?_; rintro e w3 ⟨we, rfl, hwp, hb3⟩; have HB3 : Hid (Below wr.heap.size wr w3) := (below_alloc _ _).trans (hb3.mono (by simp)); have hk0 := (HK3.out.alloc (.cells #[.int .i64 its[k].id, .int .i64 its[k].turn, .int .i64 its[k].tries, .bool its[k].out, .int .i64 its[k].due, .slice pa its[k].note.props.length pc, .slice qa its[k].note.body.length qc] 64)).below hb3 (by simp; omega); have hk1 := (Blk.new wr _ 64).below hb3 (by simp <;> omega); obtain ⟨r0, r1, r2, r3⟩ := hk0.b2; obtain ⟨⟨s0, s1, s2, s3⟩, ⟨s4, s5, s6⟩, s7, s8⟩ := hk1.b7; have HWP : Hid (we = 0 → its[k].note.small) := hwp; clear hb3 hk0 hk1 hwp)
        all_goals
          go_ret
          exact AnsB.no (HBR.out _ HB3.out)
      by_cases d7 : its[k].due < 0
      · go_wp2_with (go_at_call 10; refine (refWrong_any _ _ its[k].note _ (HN.out.sub fun b hb => ⟨Nat.lt_of_lt_of_le hb (by simp), Below.heap_alloc _ _ _ hb⟩) hfk.out).mono ?_; rintro e w3 ⟨we, rfl, hwp, hb3⟩; have HB3 : Hid (Below wr.heap.size wr w3) := (below_alloc _ _).trans (hb3.mono (by simp)); have hk0 := (HK3.out.alloc (.cells #[.int .i64 its[k].id, .int .i64 its[k].turn, .int .i64 its[k].tries, .bool its[k].out, .int .i64 its[k].due, .slice pa its[k].note.props.length pc, .slice qa its[k].note.body.length qc] 64)).below hb3 (by simp; omega); have hk1 := (Blk.new wr _ 64).below hb3 (by simp <;> omega); obtain ⟨r0, r1, r2, r3⟩ := hk0.b2; obtain ⟨⟨s0, s1, s2, s3⟩, ⟨s4, s5, s6⟩, s7, s8⟩ := hk1.b7; have HWP : Hid (we = 0 → its[k].note.small) := hwp; clear hb3 hk0 hk1 hwp)
        all_goals
          go_ret
          exact AnsB.no (HBR.out _ HB3.out)
      by_cases d8 : 1000000 < its[k].due
      · go_wp2_with (go_at_call 10; refine (refWrong_any _ _ its[k].note _ (HN.out.sub fun b hb => ⟨Nat.lt_of_lt_of_le hb (by simp), Below.heap_alloc _ _ _ hb⟩) hfk.out).mono ?_; rintro e w3 ⟨we, rfl, hwp, hb3⟩; have HB3 : Hid (Below wr.heap.size wr w3) := (below_alloc _ _).trans (hb3.mono (by simp)); have hk0 := (HK3.out.alloc (.cells #[.int .i64 its[k].id, .int .i64 its[k].turn, .int .i64 its[k].tries, .bool its[k].out, .int .i64 its[k].due, .slice pa its[k].note.props.length pc, .slice qa its[k].note.body.length qc] 64)).below hb3 (by simp; omega); have hk1 := (Blk.new wr _ 64).below hb3 (by simp <;> omega); obtain ⟨r0, r1, r2, r3⟩ := hk0.b2; obtain ⟨⟨s0, s1, s2, s3⟩, ⟨s4, s5, s6⟩, s7, s8⟩ := hk1.b7; have HWP : Hid (we = 0 → its[k].note.small) := hwp; clear hb3 hk0 hk1 hwp)
        all_goals
          go_ret
          exact AnsB.no (HBR.out _ HB3.out)
      go_wp2_with (go_at_call 10; refine (refWrong_any _ _ its[k].note _ (HN.out.sub fun b hb => ⟨Nat.lt_of_lt_of_le hb (by simp), Below.heap_alloc _ _ _ hb⟩) hfk.out).mono ?_; rintro e w3 ⟨we, rfl, hwp, hb3⟩; have HB3 : Hid (Below wr.heap.size wr w3) := (below_alloc _ _).trans (hb3.mono (by simp)); have hk0 := (HK3.out.alloc (.cells #[.int .i64 its[k].id, .int .i64 its[k].turn, .int .i64 its[k].tries, .bool its[k].out, .int .i64 its[k].due, .slice pa its[k].note.props.length pc, .slice qa its[k].note.body.length qc] 64)).below hb3 (by simp; omega); have hk1 := (Blk.new wr _ 64).below hb3 (by simp <;> omega); obtain ⟨r0, r1, r2, r3⟩ := hk0.b2; obtain ⟨⟨s0, s1, s2, s3⟩, ⟨s4, s5, s6⟩, s7, s8⟩ := hk1.b7; have HWP : Hid (we = 0 → its[k].note.small) := hwp; clear hb3 hk0 hk1 hwp)
      · go_roundw
        case rel => exact ⟨k + 1, by omega, by go_num, _, rfl, HRP.out.step hlt ⟨HWP.out (by assumption), ⟨by omega, by omega⟩, ⟨by omega, by omega⟩, by omega, by omega⟩ (by omega), hbr.trans (HB3.out.mono hzr)⟩
        case measure => simp [intOf]; omega
      · go_ret
        exact AnsB.no (HBR.out _ HB3.out)
    · obtain rfl : k = its.length := by omega
      have HR : Hid (RightI its) := by
        have h := HRP.out
        rw [List.take_of_length_le (Nat.le_refl _)] at h
        exact ⟨hlen8, fun i hi => (h.1 i hi).1, h.2⟩
      go_wp2
      rw [rounds_succ]
      go_wp2
      go_ret
      exact AnsB.yes _ HR.out (HBR.out _ (Below.refl _ _))
end Go.Proofs.Ytefankjmlbkldaa
