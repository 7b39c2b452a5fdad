/-
  The closure of HallErrs.
-/
import Derived.Test.YthdaccmjipomdabErrsF
namespace Go.Proofs.Ythdaccmjipomdab
open Go.RowKit
set_option linter.unusedVariables false
set_option linter.unusedSimpArgs false

attribute [local go_sem ↓] Go.wp_at_zero Go.wp_at_succ

theorem dead_list : deadN.toList = [100, 101, 97, 100] := by rw [ByteArray.toList_eq]
theorem name_ne {a b : ByteArray} (h : (a.toList == b.toList) = false) : a ≠ b := fun e => by subst e; simp at h

set_option maxRecDepth 100000 in
set_option maxHeartbeats 6400000 in
theorem fine_any (g : Nat) (hv : Value) (h : HD) (of : ByteArray) (r : HD × List ED × Int) (va ea : Option Addr) (vc ec : Nat) (w : World) (hg : Blk w g [hv, .int .i64 h.next]) (hq : SliceQ (Under w.heap.size) w hv h.queues) (hr : SliceQ (Under w.heap.size) w (.slice va r.1.queues.length vc) r.1.queues) (hsm : smallQ h.queues) (fine : FineR h of r) :
    Calls Try.prog 41 #[.agg #[.slice va r.1.queues.length vc, .int .i64 r.1.next], .slice ea r.2.1.length ec, .int .i64 r.2.2, .string of, .pointer (some ⟨g, 0, none⟩)] w fun e w' => e = .returned (.bool true) ∧ Below w.heap.size w w' := by
  obtain ⟨⟨xs, nx⟩, es, er⟩ := r
  obtain ⟨qs, next⟩ := h
  simp only at hg hq hr hsm fine ⊢
  by_cases he : er = 0
  case neg =>
    obtain ⟨e1, e2⟩ := fine.1 he
    simp only at e1 e2
    subst e1 e2
    have heb : (er != 0) = true := by simpa using he
    clear fine hr hq hg
    go_enter Try.func41, Try.ntmps41
    go_wp2
    go_ret
    exact ⟨rfl, below_alloc _ _⟩
  subst he
  have HFN : Hid (∀ q ∈ qs, q.name ≠ of → q.name ≠ deadN → Only xs q) := fine.2 rfl
  have HQ : Hid (SliceQ (Under w.heap.size) w hv qs) := hq
  have HR : Hid (SliceQ (Under w.heap.size) w (.slice va xs.length vc) xs) := hr
  have HG : Hid (Blk w g [hv, .int .i64 next]) := hg
  have HS : Hid (smallQ qs) := hsm
  obtain ⟨ha, hc, rfl, h1, h2, -⟩ := hq.shape
  have hql := hsm.1
  obtain ⟨g0, g1, g2, g3⟩ := (hg.alloc (.cells #[.slice va xs.length vc, .int .i64 nx] 43)).b2
  have hgl := hg.lt
  clear fine hr hq hg hsm
  unfold maxLen at h2
  go_enter Try.func41, Try.ntmps41
  go_wp2
  go_loopw [27] (fun i wr => ∃ k : Nat, k ≤ qs.length ∧ i = .int .i64 k ∧ Below w.heap.size w wr ∧ Blk wr w.heap.size [.slice va xs.length vc, .int .i64 nx])
    (fun i _ => qs.length - (intOf i).toNat)
  case atStart => exact ⟨0, Nat.zero_le _, rfl, below_alloc _ _, Blk.new w _ 43⟩
  case round =>
    obtain ⟨k, hk, rfl, hb, hbk⟩ := hrel
    have HB : Hid (Below w.heap.size w wr) := hb
    have HK : Hid (Blk wr w.heap.size [.slice va xs.length vc, .int .i64 nx]) := hbk
    have hzr := hb.size
    obtain ⟨x0, x1, x2, x3⟩ := hbk.b2
    clear hbk
    by_cases hlt : k < qs.length
    · obtain ⟨b, off, ia, ic, rfl, hS, hq, c0, c1, c2⟩ := (SliceQ.sub (T := Under wr.heap.size) HQ.out (fun b hb' => ⟨Nat.lt_of_lt_of_le hb' hzr, hb.block b hb'⟩)).at k hlt
      have HI : Hid (SliceI (Under wr.heap.size) wr (.slice ia qs[k].items.length ic) qs[k].items) := hq
      have HRr : Hid (SliceQ (Under wr.heap.size) wr (.slice va xs.length vc) xs) := HR.out.sub (fun b hb' => ⟨Nat.lt_of_lt_of_le hb' hzr, hb.block b hb'⟩)
      have HO : Hid (qs[k].name ≠ of → qs[k].name ≠ deadN → Only xs qs[k]) := HFN.out _ (List.getElem_mem hlt)
      have HSK : Hid (smallI qs[k].items) := HS.out.2 _ (List.getElem_mem hlt)
      obtain ⟨q, hqq⟩ : ∃ q, q = qs[k] := ⟨_, rfl⟩
      rw [← hqq] at c0 c1 c2 HI HO HSK
      clear hq hb hqq
      cases p1 : (q.name.toList == of.toList)
      case true =>
        go_wp2
        go_roundw
        case rel => exact ⟨k + 1, by omega, by go_num, HB.out.alloc (by omega) _, HK.out.alloc _⟩
        case measure => simp [intOf]; omega
      cases p2 : (q.name.toList == deadN.toList)
      case true =>
        have p2' : (q.name.toList == [100, 101, 97, 100]) = true := by rw [← dead_list]; exact p2
        clear p2
        go_wp2
        go_roundw
        case rel => exact ⟨k + 1, by omega, by go_num, HB.out.alloc (by omega) _, HK.out.alloc _⟩
        case measure => simp [intOf]; omega
      have p2' : (q.name.toList == [100, 101, 97, 100]) = false := by rw [← dead_list]; exact p2
      obtain ⟨j, hj, hji, hje⟩ := (HO.out (name_ne p1) (name_ne p2)).find
      have HJ : Hid (idxQ q.name xs = (j : Int) ∧ xs[j] = q) := ⟨hji, hje⟩
      have hj' : (j : Int) < (xs.length : Int) := by omega
      clear hji hje p2
      go_wp2_with (go_at_call 17; refine (refFind_any q.name _ nx xs _ (HRr.out.sub fun k hk => ⟨Nat.lt_of_lt_of_le hk (by simp), Below.heap_alloc _ _ _ hk⟩)).mono ?_; rw [HJ.out.1]; rintro e w2 ⟨rfl, hb2⟩; have HB2 : Hid (Below wr.heap.size wr w2) := (below_alloc _ _).trans (hb2.mono (by simp)); have hk0 := (HK.out.alloc (.cells #[.string q.name, .int .i64 q.limit, .slice ia q.items.length ic] 25)).below hb2 (by simp; omega); have hk1 := (Blk.new wr [.string q.name, .int .i64 q.limit, .slice ia q.items.length ic] 25).below hb2 (by simp); have HK2 : Hid (Blk w2 w.heap.size [.slice va xs.length vc, .int .i64 nx] ∧ Blk w2 wr.heap.size [.string q.name, .int .i64 q.limit, .slice ia q.items.length ic]) := ⟨hk0, hk1⟩; obtain ⟨z0, z1, z2, z3⟩ := hk0.b2; obtain ⟨t0, t1, t2, t3, t4⟩ := hk1.b3; clear hb2 hk0 hk1 x0 x1 x2 x3)
      have hz2 := HB2.out.size
      obtain ⟨b', off', ja, jc, rfl, hS', hq', d0, d1, d2⟩ := (SliceQ.sub (T := Under w2.heap.size) HRr.out (fun b hb' => ⟨Nat.lt_of_lt_of_le hb' hz2, HB2.out.block b hb'⟩)).at j hj
      rw [HJ.out.2] at hq' d0 d1 d2
      have HI2 : Hid (SliceI (Under w2.heap.size) w2 (.slice ia q.items.length ic) q.items ∧ SliceI (Under w2.heap.size) w2 (.slice ja q.items.length jc) q.items) := ⟨HI.out.up HB2.out, hq'⟩
      clear hq' c0 c1 c2
      go_region_law (first
        | (go_simp; go_at_call 42; refine (sameQueue_true _ _ q.name q.limit q.items HSK.out.1 _ ?_ ?_).mono ?_; (exact HI2.out.1.sub fun b hb => ⟨hb, rfl⟩); (exact HI2.out.2.sub fun b hb => ⟨hb, rfl⟩); rintro e w3 ⟨rfl, hb3⟩; have hb3' : Below w2.heap.size w2 w3 := ⟨hb3.os, hb3.tape, hb3.output, hb3.size, hb3.block⟩; clear hb3))
      all_goals
        have HB3 : Hid (Below w.heap.size w w3) := HB.out.trans ((HB2.out.trans (hb3'.mono hz2)).mono hzr)
        have HK3 : Hid (Blk w3 w.heap.size [.slice (some ⟨b', off', none⟩) xs.length vc, .int .i64 nx]) := HK2.out.1.below hb3' z3
        clear hb3' z0 z1 z2 t0 t1 t2 t3 d0 d1 d2
        go_wp2
        go_roundw
        case rel => exact ⟨k + 1, by omega, by go_num, HB3.out, HK3.out⟩
        case measure => simp [intOf]; omega
    · clear hb
      go_wp2
      go_ret
      exact ⟨rfl, HB.out⟩
end Go.Proofs.Ythdaccmjipomdab
