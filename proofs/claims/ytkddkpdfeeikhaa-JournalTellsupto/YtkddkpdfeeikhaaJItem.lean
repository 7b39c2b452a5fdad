/-
  journal.withItem, of any bytes behind the name.
-/
import Derived.Test.YtkddkpdfeeikhaaJTellsProofM34
namespace Go.Proofs.Ytkddkpdfeeikhaa
open Go.RowKit
set_option linter.unusedVariables false
set_option linter.unusedSimpArgs false

theorem withItem_short (k : Int) (q : ByteArray) (a : Option Addr) (cap : Nat) (r : List UInt8) (w : World) (hl : r.length < 4) :
    Calls Try.prog 72 #[.agg #[.int .i64 k, .string q, .int .i64 0, .int .i64 0, .slice none 0 0, .slice none 0 0], .slice a r.length cap] w fun e w' => e = .returned (.tuple #[entV k q 0 0 (.slice none 0 0) (.slice none 0 0), .bool false]) ∧ Below w.heap.size w w' := by
  have hl2 : (r.length : Int) < 4 := by omega
  go_enter Try.func72, Try.ntmps72
  go_wp2_with fail
  exact bodyPost_ret (v := .tuple #[entV k q 0 0 (.slice none 0 0) (.slice none 0 0), .bool false]) (by simp [results, Try.results72, go_sem, entV, *]) rfl ⟨rfl, (below_alloc _ _).alloc (by simp) _⟩

theorem nt_take {B : Nat} {w : World} {a : Option Addr} {cap : Nat} {b : List UInt8} (h : NT.SliceB B w (.slice a b.length cap) b) (n : Nat) (hn : n ≤ b.length) : NT.SliceB B w (.slice a n cap) (b.take n) := by
  obtain ⟨a', c', e, h1, h2, h3, h4⟩ := h
  simp only [Value.slice.injEq] at e
  obtain ⟨rfl, -, rfl⟩ := e
  have hl : (b.take n).length = n := by simp; omega
  exact ⟨a, cap, by rw [hl], by rw [hl]; omega, h2, h3, NT.bytes_take h4 n⟩

theorem wi_end {w W2 w3 W' : World} {k : Int} {q : ByteArray} {I : Nat} {A a : Bool} {va ua : Option Addr} {vc uc : Nat} {PS : List NT.PD} {BS : List UInt8} {P1 P2 : Prop} (hA : A = a) (hW2 : Below w.heap.size w W2)
    (h3 : NT.SliceP w3.heap.size w3 (.slice va PS.length vc) PS ∧ NT.SliceB w3.heap.size w3 (.slice ua BS.length uc) BS ∧ Below W2.heap.size W2 w3 ∧ P1 ∧ P2 ∧ NT.FreshV W2.heap.size (.slice va PS.length vc) ∧ NT.FreshV W2.heap.size (.slice ua BS.length uc))
    (hb : ∀ k, W2.heap.size ≤ k → k < w3.heap.size → W'.heap[k]? = w3.heap[k]?) (hbel : Below w.heap.size w3 W') :
    ∃ v u, Ending.returned (.tuple #[entV k q 0 I (.slice va PS.length vc) (.slice ua BS.length uc), .bool a]) = .returned (.tuple #[entV k q 0 I v u, .bool A]) ∧ NT.SliceP W'.heap.size W' v PS ∧ NT.SliceB W'.heap.size W' u BS ∧ Below w.heap.size w W' ∧ NT.FreshV w.heap.size v ∧ NT.FreshV w.heap.size u := by
  obtain ⟨g1, g2, g3, -, -, g4, g5⟩ := h3
  subst hA
  exact ⟨_, _, rfl, (NT.SliceP.from_ g1 g4 hb).mono hbel.size, (NT.SliceB.from_ g2 g5 hb).mono hbel.size, hW2.trans ((g3.mono hW2.size).trans hbel), g4.mono hW2.size, g5.mono hW2.size⟩

set_option maxHeartbeats 2000000 in
theorem withItem_ok (k : Int) (q : ByteArray) (blk off : Nat) (cap : Nat) (r : List UInt8) (w : World) (hb : NT.SliceB w.heap.size w (.slice (some ⟨blk, off, none⟩) r.length cap) r) (hl : 4 ≤ r.length) :
    Calls Try.prog 72 #[.agg #[.int .i64 k, .string q, .int .i64 0, .int .i64 0, .slice none 0 0, .slice none 0 0], .slice (some ⟨blk, off, none⟩) r.length cap] w fun e w' => ∃ v u, e = .returned (.tuple #[entV k q 0 (NT.valB (r.take 4)) v u, .bool (decide ((NT.parseF (r.drop 4)).1 = 0) && decide (((NT.parseF (r.drop 4)).2.2.2 : Int) = (r.length : Int) - 4))]) ∧ NT.SliceP w'.heap.size w' v (NT.parseF (r.drop 4)).2.1 ∧ NT.SliceB w'.heap.size w' u (NT.parseF (r.drop 4)).2.2.1 ∧ Below w.heap.size w w' ∧ NT.FreshV w.heap.size v ∧ NT.FreshV w.heap.size u := by
  have HB : Hid (NT.SliceB w.heap.size w (.slice (some ⟨blk, off, none⟩) r.length cap) r) := hb
  obtain ⟨E, hE⟩ : ∃ E, E = (NT.parseF (r.drop 4)).1 := ⟨_, rfl⟩
  obtain ⟨N, hN⟩ : ∃ N, N = (NT.parseF (r.drop 4)).2.2.2 := ⟨_, rfl⟩
  obtain ⟨PS, hPS⟩ : ∃ PS, PS = (NT.parseF (r.drop 4)).2.1 := ⟨_, rfl⟩
  obtain ⟨BS, hBS⟩ : ∃ BS, BS = (NT.parseF (r.drop 4)).2.2.1 := ⟨_, rfl⟩
  obtain ⟨I, hI⟩ : ∃ I : Nat, I = NT.valB (r.take 4) := ⟨_, rfl⟩
  have hcap : r.length ≤ cap := by obtain ⟨_, _, e, h1, _⟩ := id hb; simp only [Value.slice.injEq] at e; omega
  have hmx : cap ≤ maxLen := by obtain ⟨_, _, e, h1, h2, _⟩ := id hb; simp only [Value.slice.injEq] at e; omega
  unfold maxLen at hmx
  have h116 : Hid (∀ W, Below w.heap.size w W → Calls Try.prog 73 #[.agg #[.int .i64 k, .string q, .int .i64 0, .int .i64 0, .slice none 0 0, .slice none 0 0], .slice (some ⟨blk, off, none⟩) 4 cap] W fun e w' => e = .returned (.tuple #[.agg #[.int .i64 k, .string q, .int .i64 0, .int .i64 I, .slice none 0 0, .slice none 0 0], .bool true]) ∧ Below W.heap.size W w') := by
    intro W hW
    have h0 : NT.SliceB w.heap.size w (.slice (some ⟨blk, off, none⟩) 4 cap) (r.take 4) := nt_take HB.out 4 hl
    have hlt : (r.take 4).length = 4 := by simp; omega
    have h1 : NT.SliceB W.heap.size W (.slice (some ⟨blk, off, none⟩) (r.take 4).length cap) (r.take 4) := by rw [hlt]; exact (h0.same hW.block).mono hW.size
    have h := withID_any k q (some ⟨blk, off, none⟩) cap (r.take 4) W h1
    rw [hlt] at h
    refine h.mono fun e w' hh => ⟨?_, hh.2⟩
    rw [hh.1]
    simp only [entV, idF, hlt, if_true, hI, decide_true]
  have h138 : Hid (∀ W, Below w.heap.size w W → Calls Try.prog 102 #[cutV blk off r.length cap 4 r.length] W fun e w' => ∃ v u, e = .returned (.tuple #[.agg #[v, u], .int .i64 N, .int .i64 E]) ∧ NT.SliceP w'.heap.size w' v PS ∧ NT.SliceB w'.heap.size w' u BS ∧ Below W.heap.size W w' ∧ NT.FreshV W.heap.size v ∧ NT.FreshV W.heap.size u) := by
    intro W hW
    have h0 := cut_is HB.out 4 r.length hl (Nat.le_refl _)
    have he : (r.drop 4).take (r.length - 4) = r.drop 4 := List.take_of_length_le (by simp)
    rw [he] at h0
    have h1 := (h0.same hW.block).mono hW.size
    obtain ⟨ra, rc, hv, -⟩ := id h1
    rw [hv] at h1 ⊢
    have h := NT.parse_fresh ra rc (r.drop 4) W h1
    rw [← hE, ← hN, ← hPS, ← hBS] at h
    exact h
  rw [← hE, ← hN, ← hPS, ← hBS, ← hI]
  clear hE hN hPS hBS hI hb
  obtain ⟨A, hA⟩ : ∃ A, A = (decide (E = 0) && decide ((N : Int) = (r.length : Int) - 4)) := ⟨_, rfl⟩
  rw [← hA]
  have HA : Hid (A = (decide (E = 0) && decide ((N : Int) = (r.length : Int) - 4))) := hA
  clear hA
  have hl2 : (4 : Int) ≤ (r.length : Int) := by omega
  have hl3 : (4 : Int) ≤ (cap : Int) := by omega
  have hw4 : IntKind.i64.wrap ((r.length : Int) - 4) = (r.length : Int) - 4 := by rw [IntKind.wrap_i64]; omega
  have two : Hid (∀ o1 o2 : Obj, Below w.heap.size w ((w.alloc o1).alloc o2)) := fun o1 o2 => (below_alloc _ _).alloc (by simp) _
  have HK : Hid (∀ W, Below (w.heap.size + 2) ((w.alloc (.cells #[.int .i64 k, .string q, .int .i64 0, .int .i64 0, .slice none 0 0, .slice none 0 0] 30)).alloc (.cells #[.int .i64 0, .string ⟨#[]⟩, .int .i64 0, .int .i64 0, .slice none 0 0, .slice none 0 0] 30)) W → Blk W w.heap.size [.int .i64 k, .string q, .int .i64 0, .int .i64 0, .slice none 0 0, .slice none 0 0] ∧ Blk W (w.heap.size + 1) [.int .i64 0, .string ⟨#[]⟩, .int .i64 0, .int .i64 0, .slice none 0 0, .slice none 0 0] ∧ Below w.heap.size w W) := by
    intro W hW
    refine ⟨(((Blk.new w [.int .i64 k, .string q, .int .i64 0, .int .i64 0, .slice none 0 0, .slice none 0 0] 30).alloc _).below hW (by omega)), ?_, (two.out _ _).trans (hW.mono (by omega))⟩
    have h := Blk.new (w.alloc (.cells #[.int .i64 k, .string q, .int .i64 0, .int .i64 0, .slice none 0 0, .slice none 0 0] 30)) [.int .i64 0, .string ⟨#[]⟩, .int .i64 0, .int .i64 0, .slice none 0 0, .slice none 0 0] 30
    rw [World.size_alloc] at h
    exact h.below hW (by omega)
  by_cases hc4 : cap = 4
  · subst hc4
    clear hmx
    have hcv : cutV blk off r.length 4 4 r.length = .slice (some ⟨blk, off, none⟩) 0 0 := by simp [cutV]; omega
    rw [hcv] at h138
    clear hcv
    go_enter Try.func72, Try.ntmps72
    go_upto_region 3 with fail
    go_region_law
      (first | (go_simp; go_at_call 73; refine (h116.out _ ?_).mono ?_; (exact (two.out _ _).drew); rintro e w1 ⟨rfl, hb1⟩; have hb1' := HK.out w1 ⟨hb1.os, hb1.tape, hb1.output, (by have := hb1.size; simp at this ⊢; omega), fun b hb => hb1.block b (by simp; omega)⟩; have HK1 : Hid (Blk w1 w.heap.size [.int .i64 k, .string q, .int .i64 0, .int .i64 0, .slice none 0 0, .slice none 0 0] ∧ Blk w1 (w.heap.size + 1) [.int .i64 0, .string ⟨#[]⟩, .int .i64 0, .int .i64 0, .slice none 0 0, .slice none 0 0] ∧ Below w.heap.size w w1) := hb1'; obtain ⟨c0, c1, c2, c3, c4, c5, c6, c7⟩ := hb1'.1.b6; clear hb1 hb1'))
    obtain ⟨W2, hW2⟩ : ∃ W2, ((((((w1.setCell ⟨w.heap.size, 0, none⟩ (.int .i64 k)).setCell ⟨w.heap.size, 1, none⟩ (.string q)).setCell ⟨w.heap.size, 2, none⟩ (.int .i64 0)).setCell ⟨w.heap.size, 3, none⟩ (.int .i64 I)).setCell ⟨w.heap.size, 4, none⟩ (.slice none 0 0)).setCell ⟨w.heap.size, 5, none⟩ (.slice none 0 0)) = W2 := ⟨_, rfl⟩
    rw [hW2]
    have HW : Hid (Blk W2 w.heap.size [.int .i64 k, .string q, .int .i64 0, .int .i64 I, .slice none 0 0, .slice none 0 0] ∧ Blk W2 (w.heap.size + 1) [.int .i64 0, .string ⟨#[]⟩, .int .i64 0, .int .i64 0, .slice none 0 0, .slice none 0 0] ∧ Below w.heap.size w W2) := by
      rw [← hW2]
      refine ⟨((((((HK1.out.1.set 0 _).set 1 _).set 2 _).set 3 _).set 4 _).set 5 _), ((((((HK1.out.2.1.far (by simp) _).far (by simp) _).far (by simp) _).far (by simp) _).far (by simp) _).far (by simp) _), ((((((HK1.out.2.2.setCell (by simp) _).setCell (by simp) _).setCell (by simp) _).setCell (by simp) _).setCell (by simp) _).setCell (by simp) _)⟩
    clear hW2 c0 c1 c2 c3 c4 c5 c6 c7 HK1
    obtain ⟨c0, c1, c2, c3, c4, c5, c6, c7⟩ := HW.out.1.b6
    obtain ⟨d0, d1, d2, d3, d4, d5, d6, d7⟩ := HW.out.2.1.b6
    by_cases hE0 : E = 0
    · subst hE0
      by_cases hNN : (N : Int) = (r.length : Int) - 4
      · have hAv : Hid (A = true) := by show A = true; rw [HA.out]; simp [hNN]
        have hN1 : ((N : Int) == (r.length : Int) - 4) = true := by simpa using hNN
        go_wp2_with (go_at_call 102; refine (h138.out _ HW.out.2.2).mono ?_; rintro e w3 ⟨v, u, rfl, hv3, hu3, hb3, hfv, hfu⟩; obtain ⟨va, vc, rfl, -⟩ := id hv3; obtain ⟨ua, uc, rfl, -⟩ := id hu3; have HW3 : Hid (NT.SliceP w3.heap.size w3 (.slice va PS.length vc) PS ∧ NT.SliceB w3.heap.size w3 (.slice ua BS.length uc) BS ∧ Below W2.heap.size W2 w3 ∧ Blk w3 w.heap.size [.int .i64 k, .string q, .int .i64 0, .int .i64 I, .slice none 0 0, .slice none 0 0] ∧ Blk w3 (w.heap.size + 1) [.int .i64 0, .string ⟨#[]⟩, .int .i64 0, .int .i64 0, .slice none 0 0, .slice none 0 0] ∧ NT.FreshV W2.heap.size (.slice va PS.length vc) ∧ NT.FreshV W2.heap.size (.slice ua BS.length uc)) := ⟨hv3, hu3, hb3, HW.out.1.below hb3 c7, HW.out.2.1.below hb3 d7, hfv, hfu⟩; clear hv3 hu3 hb3 hfv hfu; obtain ⟨e0, e1, e2, e3, e4, e5, e6, e7⟩ := HW3.out.2.2.2.1.b6; obtain ⟨f0, f1, f2, f3, f4, f5, f6, f7⟩ := HW3.out.2.2.2.2.1.b6)
        refine bodyPost_ret (v := .tuple #[entV k q 0 I (.slice va PS.length vc) (.slice ua BS.length uc), .bool true]) (by simp [results, Try.results72, go_sem, entV, *]) rfl ?_
        refine wi_end hAv.out HW.out.2.2 HW3.out (fun b hb1 hb2 => ?_) ?_
        rotate_left
        · exact (((((((((Below.refl _ _).setCell (by simp) _).setCell (by simp) _).setCell (by simp) _).setCell (by simp) _).setCell (by simp) _).setCell (by simp) _).setCell (by simp) _).setCell (by simp) _).alloc (by simp; omega) _
        · rw [Below.heap_alloc _ _ _ (by simpa using hb2)]
          iterate 8 rw [Below.heap_setCell _ _ _ _ (by simp; omega)]
      · have hAv : Hid (A = false) := by show A = false; rw [HA.out]; simp [hNN]
        have hN1 : ((N : Int) == (r.length : Int) - 4) = false := by simpa using hNN
        go_wp2_with (go_at_call 102; refine (h138.out _ HW.out.2.2).mono ?_; rintro e w3 ⟨v, u, rfl, hv3, hu3, hb3, hfv, hfu⟩; obtain ⟨va, vc, rfl, -⟩ := id hv3; obtain ⟨ua, uc, rfl, -⟩ := id hu3; have HW3 : Hid (NT.SliceP w3.heap.size w3 (.slice va PS.length vc) PS ∧ NT.SliceB w3.heap.size w3 (.slice ua BS.length uc) BS ∧ Below W2.heap.size W2 w3 ∧ Blk w3 w.heap.size [.int .i64 k, .string q, .int .i64 0, .int .i64 I, .slice none 0 0, .slice none 0 0] ∧ Blk w3 (w.heap.size + 1) [.int .i64 0, .string ⟨#[]⟩, .int .i64 0, .int .i64 0, .slice none 0 0, .slice none 0 0] ∧ NT.FreshV W2.heap.size (.slice va PS.length vc) ∧ NT.FreshV W2.heap.size (.slice ua BS.length uc)) := ⟨hv3, hu3, hb3, HW.out.1.below hb3 c7, HW.out.2.1.below hb3 d7, hfv, hfu⟩; clear hv3 hu3 hb3 hfv hfu; obtain ⟨e0, e1, e2, e3, e4, e5, e6, e7⟩ := HW3.out.2.2.2.1.b6; obtain ⟨f0, f1, f2, f3, f4, f5, f6, f7⟩ := HW3.out.2.2.2.2.1.b6)
        refine bodyPost_ret (v := .tuple #[entV k q 0 I (.slice va PS.length vc) (.slice ua BS.length uc), .bool false]) (by simp [results, Try.results72, go_sem, entV, *]) rfl ?_
        refine wi_end hAv.out HW.out.2.2 HW3.out (fun b hb1 hb2 => ?_) ?_
        rotate_left
        · exact (((((((((Below.refl _ _).setCell (by simp) _).setCell (by simp) _).setCell (by simp) _).setCell (by simp) _).setCell (by simp) _).setCell (by simp) _).setCell (by simp) _).setCell (by simp) _).alloc (by simp; omega) _
        · rw [Below.heap_alloc _ _ _ (by simpa using hb2)]
          iterate 8 rw [Below.heap_setCell _ _ _ _ (by simp; omega)]
    · have hE1 : (E == 0) = false := by simpa using hE0
      have hAv : Hid (A = false) := by show A = false; rw [HA.out]; simp [hE0]
      go_wp2_with (go_at_call 102; refine (h138.out _ HW.out.2.2).mono ?_; rintro e w3 ⟨v, u, rfl, hv3, hu3, hb3, hfv, hfu⟩; obtain ⟨va, vc, rfl, -⟩ := id hv3; obtain ⟨ua, uc, rfl, -⟩ := id hu3; have HW3 : Hid (NT.SliceP w3.heap.size w3 (.slice va PS.length vc) PS ∧ NT.SliceB w3.heap.size w3 (.slice ua BS.length uc) BS ∧ Below W2.heap.size W2 w3 ∧ Blk w3 w.heap.size [.int .i64 k, .string q, .int .i64 0, .int .i64 I, .slice none 0 0, .slice none 0 0] ∧ Blk w3 (w.heap.size + 1) [.int .i64 0, .string ⟨#[]⟩, .int .i64 0, .int .i64 0, .slice none 0 0, .slice none 0 0] ∧ NT.FreshV W2.heap.size (.slice va PS.length vc) ∧ NT.FreshV W2.heap.size (.slice ua BS.length uc)) := ⟨hv3, hu3, hb3, HW.out.1.below hb3 c7, HW.out.2.1.below hb3 d7, hfv, hfu⟩; clear hv3 hu3 hb3 hfv hfu; obtain ⟨e0, e1, e2, e3, e4, e5, e6, e7⟩ := HW3.out.2.2.2.1.b6; obtain ⟨f0, f1, f2, f3, f4, f5, f6, f7⟩ := HW3.out.2.2.2.2.1.b6)
      refine bodyPost_ret (v := .tuple #[entV k q 0 I (.slice va PS.length vc) (.slice ua BS.length uc), .bool false]) (by simp [results, Try.results72, go_sem, entV, *]) rfl ?_
      refine wi_end hAv.out HW.out.2.2 HW3.out (fun b hb1 hb2 => ?_) ?_
      rotate_left
      · exact (((((((((Below.refl _ _).setCell (by simp) _).setCell (by simp) _).setCell (by simp) _).setCell (by simp) _).setCell (by simp) _).setCell (by simp) _).setCell (by simp) _).setCell (by simp) _).alloc (by simp; omega) _
      · rw [Below.heap_alloc _ _ _ (by simpa using hb2)]
        iterate 8 rw [Below.heap_setCell _ _ _ _ (by simp; omega)]
  · have hcv : cutV blk off r.length cap 4 r.length = .slice (some ⟨blk, off + 4, none⟩) (r.length - 4) (cap - 4) := by simp [cutV, hc4]
    rw [hcv] at h138
    clear hcv
    go_enter Try.func72, Try.ntmps72
    go_upto_region 3 with fail
    go_region_law
      (first | (go_simp; go_at_call 73; refine (h116.out _ ?_).mono ?_; (exact (two.out _ _).drew); rintro e w1 ⟨rfl, hb1⟩; have hb1' := HK.out w1 ⟨hb1.os, hb1.tape, hb1.output, (by have := hb1.size; simp at this ⊢; omega), fun b hb => hb1.block b (by simp; omega)⟩; have HK1 : Hid (Blk w1 w.heap.size [.int .i64 k, .string q, .int .i64 0, .int .i64 0, .slice none 0 0, .slice none 0 0] ∧ Blk w1 (w.heap.size + 1) [.int .i64 0, .string ⟨#[]⟩, .int .i64 0, .int .i64 0, .slice none 0 0, .slice none 0 0] ∧ Below w.heap.size w w1) := hb1'; obtain ⟨c0, c1, c2, c3, c4, c5, c6, c7⟩ := hb1'.1.b6; clear hb1 hb1'))
    obtain ⟨W2, hW2⟩ : ∃ W2, ((((((w1.setCell ⟨w.heap.size, 0, none⟩ (.int .i64 k)).setCell ⟨w.heap.size, 1, none⟩ (.string q)).setCell ⟨w.heap.size, 2, none⟩ (.int .i64 0)).setCell ⟨w.heap.size, 3, none⟩ (.int .i64 I)).setCell ⟨w.heap.size, 4, none⟩ (.slice none 0 0)).setCell ⟨w.heap.size, 5, none⟩ (.slice none 0 0)) = W2 := ⟨_, rfl⟩
    rw [hW2]
    have HW : Hid (Blk W2 w.heap.size [.int .i64 k, .string q, .int .i64 0, .int .i64 I, .slice none 0 0, .slice none 0 0] ∧ Blk W2 (w.heap.size + 1) [.int .i64 0, .string ⟨#[]⟩, .int .i64 0, .int .i64 0, .slice none 0 0, .slice none 0 0] ∧ Below w.heap.size w W2) := by
      rw [← hW2]
      refine ⟨((((((HK1.out.1.set 0 _).set 1 _).set 2 _).set 3 _).set 4 _).set 5 _), ((((((HK1.out.2.1.far (by simp) _).far (by simp) _).far (by simp) _).far (by simp) _).far (by simp) _).far (by simp) _), ((((((HK1.out.2.2.setCell (by simp) _).setCell (by simp) _).setCell (by simp) _).setCell (by simp) _).setCell (by simp) _).setCell (by simp) _)⟩
    clear hW2 c0 c1 c2 c3 c4 c5 c6 c7 HK1
    obtain ⟨c0, c1, c2, c3, c4, c5, c6, c7⟩ := HW.out.1.b6
    obtain ⟨d0, d1, d2, d3, d4, d5, d6, d7⟩ := HW.out.2.1.b6
    by_cases hE0 : E = 0
    · subst hE0
      by_cases hNN : (N : Int) = (r.length : Int) - 4
      · have hAv : Hid (A = true) := by show A = true; rw [HA.out]; simp [hNN]
        have hN1 : ((N : Int) == (r.length : Int) - 4) = true := by simpa using hNN
        go_wp2_with (go_at_call 102; refine (h138.out _ HW.out.2.2).mono ?_; rintro e w3 ⟨v, u, rfl, hv3, hu3, hb3, hfv, hfu⟩; obtain ⟨va, vc, rfl, -⟩ := id hv3; obtain ⟨ua, uc, rfl, -⟩ := id hu3; have HW3 : Hid (NT.SliceP w3.heap.size w3 (.slice va PS.length vc) PS ∧ NT.SliceB w3.heap.size w3 (.slice ua BS.length uc) BS ∧ Below W2.heap.size W2 w3 ∧ Blk w3 w.heap.size [.int .i64 k, .string q, .int .i64 0, .int .i64 I, .slice none 0 0, .slice none 0 0] ∧ Blk w3 (w.heap.size + 1) [.int .i64 0, .string ⟨#[]⟩, .int .i64 0, .int .i64 0, .slice none 0 0, .slice none 0 0] ∧ NT.FreshV W2.heap.size (.slice va PS.length vc) ∧ NT.FreshV W2.heap.size (.slice ua BS.length uc)) := ⟨hv3, hu3, hb3, HW.out.1.below hb3 c7, HW.out.2.1.below hb3 d7, hfv, hfu⟩; clear hv3 hu3 hb3 hfv hfu; obtain ⟨e0, e1, e2, e3, e4, e5, e6, e7⟩ := HW3.out.2.2.2.1.b6; obtain ⟨f0, f1, f2, f3, f4, f5, f6, f7⟩ := HW3.out.2.2.2.2.1.b6)
        refine bodyPost_ret (v := .tuple #[entV k q 0 I (.slice va PS.length vc) (.slice ua BS.length uc), .bool true]) (by simp [results, Try.results72, go_sem, entV, *]) rfl ?_
        refine wi_end hAv.out HW.out.2.2 HW3.out (fun b hb1 hb2 => ?_) ?_
        rotate_left
        · exact (((((((((Below.refl _ _).setCell (by simp) _).setCell (by simp) _).setCell (by simp) _).setCell (by simp) _).setCell (by simp) _).setCell (by simp) _).setCell (by simp) _).setCell (by simp) _).alloc (by simp; omega) _
        · rw [Below.heap_alloc _ _ _ (by simpa using hb2)]
          iterate 8 rw [Below.heap_setCell _ _ _ _ (by simp; omega)]
      · have hAv : Hid (A = false) := by show A = false; rw [HA.out]; simp [hNN]
        have hN1 : ((N : Int) == (r.length : Int) - 4) = false := by simpa using hNN
        go_wp2_with (go_at_call 102; refine (h138.out _ HW.out.2.2).mono ?_; rintro e w3 ⟨v, u, rfl, hv3, hu3, hb3, hfv, hfu⟩; obtain ⟨va, vc, rfl, -⟩ := id hv3; obtain ⟨ua, uc, rfl, -⟩ := id hu3; have HW3 : Hid (NT.SliceP w3.heap.size w3 (.slice va PS.length vc) PS ∧ NT.SliceB w3.heap.size w3 (.slice ua BS.length uc) BS ∧ Below W2.heap.size W2 w3 ∧ Blk w3 w.heap.size [.int .i64 k, .string q, .int .i64 0, .int .i64 I, .slice none 0 0, .slice none 0 0] ∧ Blk w3 (w.heap.size + 1) [.int .i64 0, .string ⟨#[]⟩, .int .i64 0, .int .i64 0, .slice none 0 0, .slice none 0 0] ∧ NT.FreshV W2.heap.size (.slice va PS.length vc) ∧ NT.FreshV W2.heap.size (.slice ua BS.length uc)) := ⟨hv3, hu3, hb3, HW.out.1.below hb3 c7, HW.out.2.1.below hb3 d7, hfv, hfu⟩; clear hv3 hu3 hb3 hfv hfu; obtain ⟨e0, e1, e2, e3, e4, e5, e6, e7⟩ := HW3.out.2.2.2.1.b6; obtain ⟨f0, f1, f2, f3, f4, f5, f6, f7⟩ := HW3.out.2.2.2.2.1.b6)
        refine bodyPost_ret (v := .tuple #[entV k q 0 I (.slice va PS.length vc) (.slice ua BS.length uc), .bool false]) (by simp [results, Try.results72, go_sem, entV, *]) rfl ?_
        refine wi_end hAv.out HW.out.2.2 HW3.out (fun b hb1 hb2 => ?_) ?_
        rotate_left
        · exact (((((((((Below.refl _ _).setCell (by simp) _).setCell (by simp) _).setCell (by simp) _).setCell (by simp) _).setCell (by simp) _).setCell (by simp) _).setCell (by simp) _).setCell (by simp) _).alloc (by simp; omega) _
        · rw [Below.heap_alloc _ _ _ (by simpa using hb2)]
          iterate 8 rw [Below.heap_setCell _ _ _ _ (by simp; omega)]
    · have hE1 : (E == 0) = false := by simpa using hE0
      have hAv : Hid (A = false) := by show A = false; rw [HA.out]; simp [hE0]
      go_wp2_with (go_at_call 102; refine (h138.out _ HW.out.2.2).mono ?_; rintro e w3 ⟨v, u, rfl, hv3, hu3, hb3, hfv, hfu⟩; obtain ⟨va, vc, rfl, -⟩ := id hv3; obtain ⟨ua, uc, rfl, -⟩ := id hu3; have HW3 : Hid (NT.SliceP w3.heap.size w3 (.slice va PS.length vc) PS ∧ NT.SliceB w3.heap.size w3 (.slice ua BS.length uc) BS ∧ Below W2.heap.size W2 w3 ∧ Blk w3 w.heap.size [.int .i64 k, .string q, .int .i64 0, .int .i64 I, .slice none 0 0, .slice none 0 0] ∧ Blk w3 (w.heap.size + 1) [.int .i64 0, .string ⟨#[]⟩, .int .i64 0, .int .i64 0, .slice none 0 0, .slice none 0 0] ∧ NT.FreshV W2.heap.size (.slice va PS.length vc) ∧ NT.FreshV W2.heap.size (.slice ua BS.length uc)) := ⟨hv3, hu3, hb3, HW.out.1.below hb3 c7, HW.out.2.1.below hb3 d7, hfv, hfu⟩; clear hv3 hu3 hb3 hfv hfu; obtain ⟨e0, e1, e2, e3, e4, e5, e6, e7⟩ := HW3.out.2.2.2.1.b6; obtain ⟨f0, f1, f2, f3, f4, f5, f6, f7⟩ := HW3.out.2.2.2.2.1.b6)
      refine bodyPost_ret (v := .tuple #[entV k q 0 I (.slice va PS.length vc) (.slice ua BS.length uc), .bool false]) (by simp [results, Try.results72, go_sem, entV, *]) rfl ?_
      refine wi_end hAv.out HW.out.2.2 HW3.out (fun b hb1 hb2 => ?_) ?_
      rotate_left
      · exact (((((((((Below.refl _ _).setCell (by simp) _).setCell (by simp) _).setCell (by simp) _).setCell (by simp) _).setCell (by simp) _).setCell (by simp) _).setCell (by simp) _).setCell (by simp) _).alloc (by simp; omega) _
      · rw [Below.heap_alloc _ _ _ (by simpa using hb2)]
        iterate 8 rw [Below.heap_setCell _ _ _ _ (by simp; omega)]
end Go.Proofs.Ytkddkpdfeeikhaa
