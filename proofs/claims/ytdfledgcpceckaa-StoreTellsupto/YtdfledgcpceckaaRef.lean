/-
  tgref1.Sum, Frame and SameLog answer what sumF and frameB say, and tell that two logs are the same.
-/
import Derived.Test.YtdfledgcpceckaaAppend
namespace Go.Proofs.Ytdfledgcpceckaa
open Go.RowKit
set_option linter.unusedVariables false
set_option linter.unusedSimpArgs false

attribute [local go_sem ↓] Go.wp_at_zero Go.wp_at_succ

theorem sum_step' (s : Nat) (c : UInt8) : ((33 * (s : Int) + c.toNat + 1) % 65521) = ((sumStep s c : Nat) : Int) := by unfold sumStep; omega

set_option maxHeartbeats 400000 in
theorem refSum_any (B : Nat) (v : Value) (b : List UInt8) (w : World) (hb : SliceB B w v b) :
    Calls Try.prog 21 #[v] w fun e w' => e = .returned (.int .i64 (sumF b)) ∧ w' = w := by
  obtain ⟨a, cap, rfl, h1, h2, hn, h3⟩ := hb
  unfold maxLen at h2
  clear hn
  go_enter Try.func21, Try.ntmps21
  go_wp2
  go_loop [3, 8] (fun s i => ∃ k : Nat, k ≤ b.length ∧ i = .int .i64 k ∧ s = .int .i64 (sumF (b.take k))) (fun _ i => b.length - (intOf i).toNat)
  case atStart => exact ⟨0, Nat.zero_le _, rfl, rfl⟩
  case round =>
    obtain ⟨k, hk, rfl, rfl⟩ := hrel
    by_cases hlt : k < b.length
    · obtain ⟨g, off, rfl, hg, hcell⟩ := h3 k hlt
      obtain ⟨c, hc⟩ : ∃ c, c = b[k] := ⟨_, rfl⟩
      rw [← hc] at hcell
      obtain ⟨c0, c1⟩ := u8_bounds c
      obtain ⟨s, hs⟩ : ∃ s, s = sumF (b.take k) := ⟨_, rfl⟩
      have hsl : (s : Int) ≤ 65520 := by have := sumF_lt (b.take k); omega
      rw [← hs]
      have HS : Hid (s = sumF (b.take k)) := hs
      have HC : Hid (c = b[k]) := hc
      clear hs hc
      go_wp2
      go_round
      case rel => exact ⟨k + 1, by omega, by go_num, by rw [sumF_take b k hlt, ← HS.out, ← HC.out, ← sum_step']⟩
      case measure => simp [intOf]; omega
    · go_wp2
      go_ret
      have e : k = b.length := by omega
      subst e
      exact ⟨ret_i64 (by rw [List.take_of_length_le (Nat.le_refl _)]), rfl⟩

/-- 'append(out, b...)': out the call's own xs, the answer's own ys. -/
theorem wpList_appT {w : World} {ops : Array Oper} {rest : List Oper} {o : Oper} {a : Act} {Q : Exit → Act → World → Prop} (hgd : o.guard = none) (s x : Operand) (ho : o.op = .call { callee := .builtin .append, args := #[s, x], argTypes := #[23, 23] })
    (base : Nat) (v : Value) (xs : List UInt8) (hs : a.eval s = v) (hown : w.ownsRow base 5 1 v xs.length (u8s xs)) (B : Nat) (u : Value) (bs : List UInt8) (hx : a.eval x = u) (hu : SliceB B w u bs)
    (ys : List UInt8) (hy : ys = xs ++ bs) (hb : ys.length ≤ 140737488355328) (hbase : base ≤ w.heap.size)
    (h : ∀ ao cap w', w'.ownsRow base 5 1 (.slice ao ys.length cap) ys.length (u8s ys) → Below base w w' → wpList Try.prog ops Q rest (a.put o.dst (.slice ao ys.length cap)) w') :
    wpList Try.prog ops Q (o :: rest) a w := by
  have hl : xs.length + bs.length = ys.length := by rw [hy]; simp
  have he : u8s xs ++ u8s bs = u8s ys := by rw [hy, u8s_append]
  refine wpList_app hgd s x ho base v xs.length (u8s xs) hs hown B u bs hx hu (by omega) hbase ?_
  rw [hl, he]
  exact fun ao cap w' h1 h2 _ => h ao cap w' h1 (own_drop hown hbase h2)

set_option maxRecDepth 100000 in
set_option maxHeartbeats 800000 in
theorem refFrame_any (u : Value) (r : List UInt8) (w : World) (hu : SliceB w.heap.size w u r) (hr : r.length < 65536) :
    Calls Try.prog 23 #[u] w fun e w' => ∃ ao cap, e = .returned (.slice ao (frameB r).length cap) ∧ w'.ownsRow w.heap.size 5 1 (.slice ao (frameB r).length cap) (frameB r).length (u8s (frameB r)) ∧ Below w.heap.size w w' := by
  have HU : Hid (SliceB w.heap.size w u r) := hu
  obtain ⟨ua, uc, rfl, u1, u2, -⟩ := hu
  unfold maxLen at u2
  obtain ⟨S, hS⟩ : ∃ S, S = sumF (headB r) := ⟨_, rfl⟩
  obtain ⟨H, hH⟩ : ∃ H, H = headB r := ⟨_, rfl⟩
  obtain ⟨F, hF⟩ : ∃ F, F = frameB r := ⟨_, rfl⟩
  have hsl : (S : Int) ≤ 65520 := by rw [hS]; have := sumF_lt (headB r); omega
  have E1 : Hid (H = pairB r.length ++ r) := hH
  have E3 : Hid (F = H ++ pairB S) := by show _ = _; rw [hF, frameB, hH, hS]
  have E6 : Hid (sumF H = S) := by show _ = _; rw [hS, hH]
  have hHl0 : H.length = r.length + 2 := by rw [E1.out]; simp [pairB]
  have hFl0 : F.length = r.length + 4 := by rw [E3.out]; simp [pairB, hHl0]
  have hHl : H.length ≤ 65537 := by omega
  have hFl : F.length ≤ 65539 := by omega
  clear hHl0 hFl0
  rw [← hF]
  have hr1 : (r.length : Int) ≤ 65535 := by omega
  have HR : Hid (r.length < 65536) := hr
  clear hS hH hF hr
  have hno : ∀ W : World, (W.alloc (.cells #[.int .u8 ((r.length : Int) / 256), .int .u8 ((r.length : Int) % 256)] 5)).ownsRow W.heap.size 5 1 (.slice (some ⟨W.heap.size, 0, none⟩) 2 2) (pairB r.length).length (u8s (pairB r.length)) := fun W => new_own W _ (pairB r.length) _ (by simp [pairB, maxLen]) (pair_cells r.length HR.out) (Nat.le_refl _)
  have HNO : Hid (∀ W : World, _) := hno
  have HPS : Hid (∀ W : World, SliceB (W.heap.size + 1) (W.alloc (.cells #[.int .u8 ((S : Int) / 256), .int .u8 ((S : Int) % 256)] 5)) (.slice (some ⟨W.heap.size, 0, none⟩) 2 2) (pairB S)) := fun W => new_bytes W (pairB S) _ (by simp [pairB, maxLen]) (pair_cells S (by omega))
  clear hno
  go_enter Try.func23, Try.ntmps23
  go_wp2_with (first
    | (at_builtin; refine wpList_appT rfl (.tmp 13) (.tmp 14) rfl w.heap.size _ (pairB r.length) rfl (HNO.out w) w.heap.size _ r rfl (HU.out.same (below_alloc _ _).block) H E1.out (by omega) (by simp) ?_; intro ao2 cap2 w2 hown2 hw2; have b2 : Below w.heap.size w w2 := ((below_alloc _ _).trans hw2); have hz2 := b2.size)
    | (go_at_call 21; refine (refSum_any w2.heap.size _ H _ (own_slice hown2)).mono ?_; rw [E6.out]; rintro e w3 ⟨rfl, rfl⟩)
    | (at_builtin; refine wpList_appT rfl (.tmp 18) (.tmp 25) rfl w.heap.size _ H rfl (hown2.alloc _) _ _ (pairB S) rfl (HPS.out _) F E3.out (by omega) (by simp; omega) ?_; intro ao4 cap4 w4 hown4 hw4))
  go_ret
  exact ⟨_, _, rfl, hown4, (b2.alloc b2.size _).trans hw4⟩

set_option maxRecDepth 100000 in
set_option maxHeartbeats 800000 in
theorem sameLog_eq (u v : Value) (s : Int) (l : List UInt8) (w : World) (hu : SliceB w.heap.size w u l) (hv : SliceB w.heap.size w v l) :
    Calls Try.prog 24 #[.agg #[u, .int .i64 s], .agg #[v, .int .i64 s]] w fun e w' => e = .returned (.bool true) ∧ Below w.heap.size w w' := by
  have hcu := fun o1 o2 => conv_str (hu.below ((below_alloc w o1).trans ((below_alloc _ o2).mono (by simp))))
  have hcv := fun o1 o2 => conv_str (hv.below ((below_alloc w o1).trans ((below_alloc _ o2).mono (by simp))))
  obtain ⟨ua, uc, rfl, -⟩ := hu
  obtain ⟨va, vc, rfl, -⟩ := hv
  go_enter Try.func24, Try.ntmps24
  go_wp2
  go_ret
  exact ⟨ret_bool (by simp), (below_alloc _ _).alloc (by simp) _⟩
end Go.Proofs.Ytdfledgcpceckaa
