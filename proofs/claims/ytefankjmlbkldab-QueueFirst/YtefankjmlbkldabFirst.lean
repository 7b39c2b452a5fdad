/-
  tglaw3.QueueFirst answers true.
-/
import Derived.Test.YtefankjmlbkldabAlive
import Derived.Test.YtefankjmlbkldabList
namespace Go.Proofs.Ytefankjmlbkldab
open Go.RowKit
set_option linter.unusedVariables false
set_option linter.unusedSimpArgs false

attribute [local go_sem ↓] Go.wp_at_zero Go.wp_at_succ

/-- The queue's variable, and what it reads as. -/
def QVar (w1 : World) (wr : World) (its : List IT) : Prop :=
  ∃ va vc, Blk wr w1.heap.size [.string ⟨#[97]⟩, .int .i64 8, .slice va its.length vc] ∧ SliceI (fun b => b < wr.heap.size ∧ b ≠ w1.heap.size) wr (.slice va its.length vc) its ∧ Below w1.heap.size w1 wr

theorem note_bodyN (w : World) (k : Nat) (hk : k ≤ 255) (g : Nat) (hg : w.heap.size = g) : NoteIs (Under (w.alloc (.cells #[.int .u8 k] 5)).heap.size) (w.alloc (.cells #[.int .u8 k] 5)) (.slice none 0 0, .slice (some ⟨g, 0, none⟩) 1 1) (bodyN k) := by
  subst hg
  refine ⟨SliceV.nil _ _, ⟨_, _, rfl, Nat.le_refl _, by simp [maxLen], fun h => by simp at h, fun i hi => ⟨w.heap.size, 0, rfl, by simp [Under], ?_⟩⟩⟩
  have : i = 0 := by simpa [bodyN, u8s] using hi
  subst this
  have := (Blk.new w [.int .u8 k] 5).cell 0
  rw [this]
  simp [bodyN, u8s]
  omega

/-- The variable is given another queue. -/
theorem QVar.put {w1 w2 : World} {its : List IT} {n lo : Nat} {va v2 : Option Addr} {vc c2 m : Nat} (hq : Blk w2 w1.heap.size [.string ⟨#[97]⟩, .int .i64 8, .slice va m vc]) (hs : SliceI (Made lo w2.heap.size) w2 (.slice v2 n c2) its) (hlo : w1.heap.size < lo) (hn : n = its.length) (hb : Below w1.heap.size w1 w2) :
    QVar w1 (((w2.setCell ⟨w1.heap.size, 0, none⟩ (.string ⟨#[97]⟩)).setCell ⟨w1.heap.size, 1, none⟩ (.int .i64 8)).setCell ⟨w1.heap.size, 2, none⟩ (.slice v2 n c2)) its := by
  subst hn
  refine ⟨v2, c2, ((hq.set 0 _).set 1 _).set 2 _, hs.sub fun b h => ?_, ?_⟩
  · obtain ⟨h1, h2⟩ := h
    refine ⟨⟨by simp; omega, by omega⟩, ?_⟩
    iterate 3 rw [Below.heap_setCell _ _ _ _ (by simp; omega)]
  · iterate 3 refine Below.setCell ?_ (by simp) _
    exact hb

theorem QVar.alloc {w1 W : World} {its : List IT} (h : QVar w1 W its) (o : Obj) : QVar w1 (W.alloc o) its := by
  obtain ⟨va, vc, h1, h2, h3⟩ := h
  exact ⟨va, vc, h1.alloc o, h2.sub fun b hb => ⟨⟨by simp; omega, hb.2⟩, Below.heap_alloc _ _ _ hb.1⟩, h3.alloc h3.size o⟩

theorem bodyN_small (k : Nat) : (bodyN k).small := by simp [bodyN, ND.small]

theorem body_at {S : Nat → Prop} {w : World} {p : Value × Value} {k : Nat} (hk : k ≤ 255) (h : NoteIs S w p (bodyN k)) : ∃ pa pc b off c, p.1 = .slice pa 0 pc ∧ p.2 = .slice (some ⟨b, off, none⟩) 1 c ∧ S b ∧ w.cell? ⟨b, off, none⟩ = some (.int .u8 k) := by
  obtain ⟨pa, pc, e, -⟩ := SliceV.shape h.1
  obtain ⟨a, c, e2, h1, h2, hn, h3⟩ := h.2
  obtain ⟨b, off, rfl, hS, hc⟩ := h3 0 (by simp [bodyN, u8s])
  refine ⟨pa, pc, b, off, c, e, e2, hS, ?_⟩
  rw [Nat.add_zero] at hc
  rw [hc]
  simp [bodyN, u8s]
  omega

theorem take_itemN (k : Nat) : takeI 0 (itemN k) = tookN k := rfl
theorem itemN_fits (k : Nat) : (itemN k).fits := by simp [itemN, IT.fits]
theorem tookN_fits (k : Nat) : (tookN k).fits := by simp [tookN, IT.fits]
theorem backN_fits (k : Nat) : (backN k).fits := by simp [backN, IT.fits]
theorem back_tookN (k : Nat) : backI (tookN k) = backN k := rfl

set_option maxRecDepth 100000 in
set_option maxHeartbeats 3200000 in
theorem first_out (n back : Int) (w : World) (h : n < 0 ∨ 8 < n) :
    Calls Try.prog 3 #[.int .i64 n, .int .i64 back] w fun e w' => e = .returned (.bool true) ∧ Below w.heap.size w w' := by
  rcases h with h | h
  · go_enter Try.func3, Try.ntmps3
    go_wp2_with (go_at_call 5; refine (alive_any _).mono ?_; rintro e w1 ⟨rfl, hb1⟩)
    go_ret
    exact ⟨rfl, hb1⟩
  · have h0 : ¬ n < 0 := by omega
    go_enter Try.func3, Try.ntmps3
    go_wp2_with (go_at_call 5; refine (alive_any _).mono ?_; rintro e w1 ⟨rfl, hb1⟩)
    go_ret
    exact ⟨rfl, hb1⟩

set_option maxRecDepth 100000 in
set_option maxHeartbeats 3200000 in
theorem first_in (N : Nat) (hN : N ≤ 8) (back : Int) (w : World) :
    Calls Try.prog 3 #[.int .i64 N, .int .i64 back] w fun e w' => e = .returned (.bool true) ∧ Below w.heap.size w w' := by
  go_enter Try.func3, Try.ntmps3
  go_wp2_with (go_at_call 5; refine (alive_any _).mono ?_; rintro e w1 ⟨rfl, hb1⟩)
  go_loopw [31] (fun i wr => ∃ k : Nat, k ≤ N ∧ i = .int .i64 k ∧ QVar w1 wr (putL k)) (fun i _ => N - (intOf i).toNat)
  case atStart =>
    refine ⟨0, Nat.zero_le _, rfl, none, 0, Blk.new w1 _ 25, SliceI.nil _ _, below_alloc _ _⟩
  case round =>
    obtain ⟨k, hk, rfl, va, vc, hq, hs, hb⟩ := hrel
    rw [putL_len] at hq hs
    by_cases hlt : k < N
    · obtain ⟨q0, q1, q2, q3, q4⟩ := hq.b3
      have HQ : Hid (Blk wr w1.heap.size [.string ⟨#[97]⟩, .int .i64 8, .slice va k vc]) := hq
      have HS : Hid (SliceI (fun b => b < wr.heap.size ∧ b ≠ w1.heap.size) wr (.slice va k vc) (putL k)) := hs
      clear hq hs
      have HB : Hid (Below w1.heap.size w1 wr) := hb
      clear hb
      go_wp2_with (go_at_call 6; refine (put_new _ _ _ _ 8 k (putL k) (bodyN k) _ (HS.out.sub fun b hb => ⟨?_, Below.heap_alloc _ _ _ hb.1⟩) ⟨by rw [putL_len]; omega, puts_small k⟩ (note_bodyN _ k (by omega) _ rfl) (bodyN_small k) (by rw [putL_len]; omega)).mono ?_; (simp [Under]; omega); rintro e w2 ⟨v2, rfl, hs2, hb2⟩; obtain ⟨va2, vc2, e2⟩ := hs2.shp; have e2' : v2 = .slice va2 (k + 1) vc2 := (by rw [e2, List.length_append, putL_len]; rfl); subst e2'; have hq2 := (HQ.out.alloc (.cells #[.int .u8 k] 5)).below hb2 (by simp; omega); have HQ2 : Hid (Blk w2 w1.heap.size [.string ⟨#[97]⟩, .int .i64 8, .slice va k vc]) := hq2; obtain ⟨p0, p1, p2, p3, p4⟩ := hq2.b3; have HS2 : Hid (SliceI (Made (wr.heap.size + 1) w2.heap.size) w2 (.slice va2 (k + 1) vc2) (putL (k + 1))) := (by have h := hs2; rw [World.size_alloc] at h; rw [putL_succ]; exact h); have HB2 : Hid (Below w1.heap.size w1 w2) := HB.out.trans ((below_alloc wr _).trans (hb2.mono (by simp)) |>.mono HB.out.size); clear hs2 hb2 e2 hq2 q0 q1 q2 q3)
      go_roundw
      case rel =>
        refine ⟨k + 1, by omega, by go_num, (QVar.put HQ2.out HS2.out (by omega) (by rw [putL_len]) HB2.out).alloc _⟩
      case measure => simp [intOf]; omega
    · obtain rfl : k = N := by omega
      have HQV : Hid (QVar w1 wr (takL k 0)) := ⟨va, vc, by rw [takL_len]; exact hq, by rw [takL_len, takL_zero]; exact hs, hb⟩
      clear hq hs hb
      go_wp2
      go_loopw [49] (fun i wr => ∃ j : Nat, j ≤ k ∧ i = .int .i64 j ∧ QVar w1 wr (takL k j)) (fun i _ => k - (intOf i).toNat)
      case atStart => exact ⟨0, Nat.zero_le _, rfl, HQV.out⟩
      case round =>
        clear HQV
        obtain ⟨j, hj, rfl, va, vc, hq, hs, hb⟩ := hrel
        rw [takL_len] at hq hs
        by_cases hltj : j < k
        · obtain ⟨q0, q1, q2, q3, q4⟩ := hq.b3
          have HQ : Hid (Blk wr w1.heap.size [.string ⟨#[97]⟩, .int .i64 8, .slice va k vc]) := hq
          have HS : Hid (SliceI (Under wr.heap.size) wr (.slice va k vc) (takL k j)) := hs.sub fun b hb => ⟨hb.1, rfl⟩
          have HB : Hid (Below w1.heap.size w1 wr) := hb
          have hjl : j < (takL k j).length := by rw [takL_len]; exact hltj
          have HX : Hid ((takL k j)[j] = itemN j) := takL_at k j hjl
          have hFT : Hid ((takL k j)[j].fits) := by rw [HX.out]; exact itemN_fits j
          clear hq hs hb
          go_wp2_with (go_at_call 7; refine (take_new _ _ 8 0 (by omega) (takL k j) j hjl _ HS.out ⟨by rw [takL_len]; omega, notes_small k j⟩ (takL_in k j hltj) hFT.out).mono ?_; rintro e w2 ⟨v2, ⟨q21, q22⟩, rfl, hs2, hn2, hb2⟩; rw [HX.out] at hs2 hn2 ⊢; rw [take_itemN] at hs2 ⊢; rw [takL_set k j hltj] at hs2; obtain ⟨va2, vc2, e2⟩ := hs2.shp; have e2' : v2 = .slice va2 k vc2 := (by rw [e2, takL_len]); subst e2'; obtain ⟨pa2, pc2, bb, bo, bc, f2, g2, hbS, hbc⟩ := body_at (k := j) (by omega) hn2; simp only at f2 g2; subst f2 g2; have ev2 : (tookN j).val (.slice pa2 0 pc2, .slice (some ⟨bb, bo, none⟩) 1 bc) = .agg #[.int .i64 j, .int .i64 1, .int .i64 0, .bool true, .int .i64 5, .slice pa2 0 pc2, .slice (some ⟨bb, bo, none⟩) 1 bc] := rfl; rw [ev2]; have hq2 := HQ.out.below hb2 q4; have HQ2 : Hid (Blk w2 w1.heap.size [.string ⟨#[97]⟩, .int .i64 8, .slice va k vc]) := hq2; obtain ⟨p0, p1, p2, p3⟩ := hq2.c3; have hbl : bb < w2.heap.size := hbS.2; have hcb : ∀ o1 o2, ((w2.alloc o1).alloc o2).cell? ⟨bb, bo, none⟩ = some (.int .u8 j) := (fun o1 o2 => (((below_alloc _ _).alloc (by simp) _).cell hbl).trans hbc); have HS2 : Hid (SliceI (Made wr.heap.size w2.heap.size) w2 (.slice va2 k vc2) (takL k (j + 1))) := hs2; have HB2 : Hid (Below w1.heap.size w1 w2) := HB.out.trans (hb2.mono HB.out.size); clear hs2 hb2 e2 hq2 q0 q1 q2 q3 hn2 hbS ev2)
          go_roundw
          case rel =>
            refine ⟨j + 1, by omega, by go_num, QVar.put ((HQ2.out.alloc _).alloc _) (lo := wr.heap.size) (HS2.out.sub fun b hb => ⟨⟨hb.1, by simp; have := hb.2; omega⟩, ((below_alloc _ _).alloc (by simp) _).block b hb.2⟩) (by omega) (by rw [takL_len]) ((HB2.out.alloc HB2.out.size _).alloc (by simp; have := HB2.out.size; omega) _)⟩
          case measure => simp [intOf]; omega
        · obtain rfl : j = k := by omega
          obtain ⟨q0, q1, q2, q3, q4⟩ := hq.b3
          have HQ : Hid (Blk wr w1.heap.size [.string ⟨#[97]⟩, .int .i64 8, .slice va j vc]) := hq
          have HS : Hid (SliceI (Under wr.heap.size) wr (.slice va j vc) (takL j j)) := hs.sub fun b hb => ⟨hb.1, rfl⟩
          have HS' : Hid (SliceI (fun b => b < wr.heap.size ∧ b ≠ w1.heap.size) wr (.slice va j vc) (takL j j)) := hs
          have HB : Hid (Below w1.heap.size w1 wr) := hb
          have ny : Hid True := trivial
          clear hq hs hb
          by_cases hk1 : back < 0
          · go_wp2_with (go_at_call 7; clear ny; refine (take_none _ _ 8 0 (takL j j) _ HS.out (takL_none j)).mono ?_; rintro e w2 ⟨rfl, hb2⟩; have hq2 := HQ.out.below hb2 q4; have HQ2 : Hid (Blk w2 w1.heap.size [.string ⟨#[97]⟩, .int .i64 8, .slice va j vc]) := hq2; obtain ⟨p0, p1, p2, p3⟩ := hq2.c3; have HS2 : Hid (SliceI (fun b => b < w2.heap.size ∧ b ≠ w1.heap.size) w2 (.slice va j vc) (takL j j)) := HS'.out.sub (fun b hb => ⟨⟨Nat.lt_of_lt_of_le hb.1 hb2.size, hb.2⟩, hb2.block b hb.1⟩); have HB2 : Hid (Below w1.heap.size w1 w2) := HB.out.trans (hb2.mono HB.out.size); clear hb2 hq2 q0 q1 q2 q3)
            go_ret
            exact ⟨rfl, hb1.trans (((HB2.out.alloc HB2.out.size _).alloc (by simp; have := HB2.out.size; omega) _).mono hb1.size)⟩
          · by_cases hk2 : (j : Int) ≤ back
            · go_wp2_with (go_at_call 7; clear ny; refine (take_none _ _ 8 0 (takL j j) _ HS.out (takL_none j)).mono ?_; rintro e w2 ⟨rfl, hb2⟩; have hq2 := HQ.out.below hb2 q4; have HQ2 : Hid (Blk w2 w1.heap.size [.string ⟨#[97]⟩, .int .i64 8, .slice va j vc]) := hq2; obtain ⟨p0, p1, p2, p3⟩ := hq2.c3; have HS2 : Hid (SliceI (fun b => b < w2.heap.size ∧ b ≠ w1.heap.size) w2 (.slice va j vc) (takL j j)) := HS'.out.sub (fun b hb => ⟨⟨Nat.lt_of_lt_of_le hb.1 hb2.size, hb.2⟩, hb2.block b hb.1⟩); have HB2 : Hid (Below w1.heap.size w1 w2) := HB.out.trans (hb2.mono HB.out.size); clear hb2 hq2 q0 q1 q2 q3)
              go_ret
              exact ⟨rfl, hb1.trans (((HB2.out.alloc HB2.out.size _).alloc (by simp; have := HB2.out.size; omega) _).mono hb1.size)⟩
            · obtain ⟨b, rfl⟩ : ∃ b : Nat, back = b := ⟨back.toNat, by omega⟩
              have hbj : b < j := by omega
              have hbl : b < (takL j j).length := by rw [takL_len]; exact hbj
              have HX : Hid ((takL j j)[b] = tookN b) := takL_all j b hbl
              have hFT : Hid ((takL j j)[b].fits) := by rw [HX.out]; exact tookN_fits b
              have hTR : Hid ((backI (takL j j)[b]).tries < 3) := by rw [HX.out]; show (0 + 1 : Int) < 3; decide
              have hbl' : b < (bakL j b).length := by rw [bakL_len]; exact hbj
              have HY : Hid ((bakL j b)[b] = backN b) := bakL_at j b hbl'
              have hFB : Hid ((bakL j b)[b].fits) := by rw [HY.out]; exact backN_fits b
              go_wp2_with (first
                | (go_at_call 7; clear ny; refine (take_none _ _ 8 0 (takL j j) _ HS.out (takL_none j)).mono ?_; rintro e w2 ⟨rfl, hb2⟩; have hq2 := HQ.out.below hb2 q4; have HQ2 : Hid (Blk w2 w1.heap.size [.string ⟨#[97]⟩, .int .i64 8, .slice va j vc]) := hq2; obtain ⟨p0, p1, p2, p3⟩ := hq2.c3; have HS2 : Hid (SliceI (fun b => b < w2.heap.size ∧ b ≠ w1.heap.size) w2 (.slice va j vc) (takL j j)) := HS'.out.sub (fun b hb => ⟨⟨Nat.lt_of_lt_of_le hb.1 hb2.size, hb.2⟩, hb2.block b hb.1⟩); have HB2 : Hid (Below w1.heap.size w1 w2) := HB.out.trans (hb2.mono HB.out.size); clear hb2 hq2 q0 q1 q2 q3)
                | (go_at_call 8; refine (back_new _ _ 8 b 1 (takL j j) b hbl _ (HS2.out.sub fun i hi => ⟨?_, ((below_alloc _ _).alloc (by simp) _).block i hi.1⟩) ⟨by rw [takL_len]; omega, notes_small j j⟩ (takL_given j b hbj) hFT.out hTR.out).mono ?_; (simp [Under]; omega); rintro e w3 ⟨v3, rfl, hs3, hb3⟩; rw [HX.out, back_tookN] at hs3; obtain ⟨va3, vc3, e3⟩ := hs3.shp; have e3' : v3 = .slice va3 j vc3 := (by rw [e3, List.length_set, takL_len]); subst e3'; have hz2 := HB2.out.size; have hq3 := ((HQ2.out.alloc _).alloc _).below hb3 (by simp <;> omega); obtain ⟨s0, s1, s2, s3, s4⟩ := hq3.b3; have HS3 : Hid (SliceI (Made (w2.heap.size + 1 + 1) w3.heap.size) w3 (.slice va3 j vc3) (bakL j b)) := (by have h := hs3; simp only [World.size_alloc] at h; exact h); have HB3 : Hid (Below w1.heap.size w1 w3) := ((HB2.out.alloc hz2 _).alloc (by simp; omega) _).trans (hb3.mono (by simp; omega)); clear hs3 hb3 e3 hq3 p0 p1 p2 p3)
                | (go_at_call 7; refine (take_new _ _ 8 0 (by omega) (bakL j b) b hbl' _ (HS3.out.sub fun i hi => ⟨?_, ?_⟩) ⟨by rw [bakL_len]; omega, bakL_small j b⟩ (bakL_in j b hbj) hFB.out).mono ?_; (obtain ⟨h1, h2⟩ := hi; simp [Under]; omega); (obtain ⟨h1, h2⟩ := hi; refine (Below.heap_alloc _ _ _ (by simp; omega)).trans ?_; iterate 3 rw [Below.heap_setCell _ _ _ _ (by simp; omega)]); rintro e w4 ⟨v4, ⟨q41, q42⟩, rfl, hs4, hn4, hb4⟩; rw [HY.out] at hn4 ⊢; obtain ⟨va4, vc4, e4⟩ := hs4.shp; have e4' : v4 = .slice va4 j vc4 := (by rw [e4, List.length_set, bakL_len]); subst e4'; obtain ⟨pa4, pc4, cb, co, cc, f4, g4, -, -⟩ := body_at (k := b) (by omega) hn4; simp only at f4 g4; subst f4 g4; have ev4 : (takeI 0 (backN b)).val (.slice pa4 0 pc4, .slice (some ⟨cb, co, none⟩) 1 cc) = .agg #[.int .i64 b, .int .i64 2, .int .i64 1, .bool true, .int .i64 5, .slice pa4 0 pc4, .slice (some ⟨cb, co, none⟩) 1 cc] := rfl; rw [ev4]; have hz3 := HB3.out.size; have HB4 : Hid (Below w1.heap.size w1 w4) := (((((HB3.out.setCell (by simp) _).setCell (by simp) _).setCell (by simp) _).alloc (by simp; omega) _).trans (hb4.mono (by simp; omega))); clear hs4 hn4 hb4 e4 ev4))
              go_ret
              refine ⟨ret_bool (by simp), ?_⟩
              have hz4 := HB4.out.size
              exact hb1.trans (((HB4.out.alloc hz4 _).alloc (by simp; omega) _).mono hb1.size)

theorem first_any (n back : Int) (w : World) :
    Calls Try.prog 3 #[.int .i64 n, .int .i64 back] w fun e w' => e = .returned (.bool true) ∧ Below w.heap.size w w' := by
  by_cases h : n < 0 ∨ 8 < n
  · exact first_out n back w h
  · obtain ⟨N, rfl⟩ : ∃ N : Nat, n = N := ⟨n.toNat, by omega⟩
    exact first_in N (by omega) back w
end Go.Proofs.Ytefankjmlbkldab
