/-
  store.Sum, appendPair, appendFrame, copied and Frame answer what sumF, pairB and frameB say.
-/
import Derived.Test.YtdfledgcpceckaaBase
import Derived.Test.YtdfledgcpceckaaMath
namespace Go.Proofs.Ytdfledgcpceckaa
open Go.RowKit
set_option linter.unusedVariables false
set_option linter.unusedSimpArgs false

theorem sum_step (s : Nat) (c : UInt8) : (((s : Int) * 33 + c.toNat + 1) % 65521) = ((sumStep s c : Nat) : Int) := by unfold sumStep; omega

set_option maxHeartbeats 400000 in
theorem sum_any (B : Nat) (v : Value) (b : List UInt8) (w : World) (hb : SliceB B w v b) :
    Calls Try.prog 20 #[v] w fun e w' => e = .returned (.int .i64 (sumF b)) ∧ w' = w := by
  obtain ⟨a, cap, rfl, h1, h2, hn, h3⟩ := hb
  unfold maxLen at h2
  clear hn
  go_enter Try.func20, Try.ntmps20
  go_wp2
  go_loop [3, 8] (fun s i => ∃ k : Nat, k ≤ b.length ∧ i = .int .i64 k ∧ s = .int .i64 (sumF (b.take k))) (fun _ i => b.length - (intOf i).toNat)
  case atStart => exact ⟨0, Nat.zero_le _, rfl, rfl⟩
  case round =>
    obtain ⟨k, hk, rfl, rfl⟩ := hrel
    by_cases hlt : k < b.length
    · obtain ⟨g, off, rfl, hg, hcell⟩ := h3 k hlt
      obtain ⟨c, hc⟩ : ∃ c, c = b[k] := ⟨_, rfl⟩
      rw [← hc] at hcell
      obtain ⟨c0, c1⟩ := u8_bounds c
      obtain ⟨s, hs⟩ : ∃ s, s = sumF (b.take k) := ⟨_, rfl⟩
      have hsl : (s : Int) ≤ 65520 := by have := sumF_lt (b.take k); omega
      rw [← hs]
      have HS : Hid (s = sumF (b.take k)) := hs
      have HC : Hid (c = b[k]) := hc
      clear hs hc
      go_wp2
      go_round
      case rel => exact ⟨k + 1, by omega, by go_num, by rw [sumF_take b k hlt, ← HS.out, ← HC.out, ← sum_step]⟩
      case measure => simp [intOf]; omega
    · go_wp2
      go_ret
      have e : k = b.length := by omega
      subst e
      exact ⟨ret_i64 (by rw [List.take_of_length_le (Nat.le_refl _)]), rfl⟩

theorem pair_cells (n : Nat) (h : n < 65536) : [Value.int IntKind.u8 ((n : Int) / 256), Value.int IntKind.u8 ((n : Int) % 256)] = u8s (pairB n) := by
  simp only [u8s, pairB, List.map_cons, List.map_nil]
  rw [byte_of _ (by omega), byte_of _ (by omega)]
  rfl

set_option maxHeartbeats 400000 in
theorem appendPair_any (base : Nat) (v : Value) (xs : List UInt8) (n : Nat) (w : World) (hown : w.ownsRow base 5 1 v xs.length (u8s xs)) (hb : base ≤ w.heap.size) (hx : xs.length ≤ 1000000) (hn : n < 65536) :
    Calls Try.prog 57 #[v, .int .i64 n] w fun e w' => ∃ ao cap, e = .returned (.slice ao (xs ++ pairB n).length cap) ∧ w'.ownsRow base 5 1 (.slice ao (xs ++ pairB n).length cap) (xs ++ pairB n).length (u8s (xs ++ pairB n)) ∧ w.grownBy w' v.ownBlock ∧ Moved w v (.slice ao (xs ++ pairB n).length cap) := by
  have hn' : (n : Int) ≤ 65535 := by omega
  go_enter Try.func57, Try.ntmps57
  go_wp2_with (
     (at_builtin; refine wpList_app rfl (.tmp 5) (.tmp 11) rfl base v xs.length (u8s xs) rfl (hown.alloc _) (w.heap.size + 1) _ (pairB n) rfl (new_bytes w (pairB n) _ (by simp [pairB, maxLen]) ?hcells) (by simp [pairB]; omega) (by simp; omega) ?_; rotate_left; intro ao cap w1 hown1 hg1 hm1))
  · go_ret
    have e1 : (xs ++ pairB n).length = xs.length + (pairB n).length := by simp
    rw [e1]
    refine ⟨_, _, rfl, ?_, moved_grown (World.grownBy_alloc _ _ _) (Moved.refl _ _) hg1, hm1.of (by simp)⟩
    rw [u8s_append]
    exact hown1
  · exact pair_cells n hn

/-- A slice from a place on. -/
theorem slice_drop {B : Nat} {w : World} {a : Option Addr} {c len : Nat} {b : List UInt8} (h : SliceB B w (.slice a len c) b) (k : Nat) (hk : k ≤ len) : SliceB B w (.slice (a.map (fun x => x.add k)) (len - k) (c - k)) (b.drop k) := by
  obtain ⟨a', c', e, h1, h2, h3, h4⟩ := h
  simp only [Value.slice.injEq] at e
  obtain ⟨rfl, rfl, rfl⟩ := e
  exact ⟨_, c - k, by simp, by simp; omega, by unfold maxLen at *; omega, fun e => by have := h3 (by simpa using e); omega, bytes_drop h4 k⟩
theorem slice_drop0 {B : Nat} {w : World} {a : Option Addr} {c len : Nat} {b : List UInt8} (h : SliceB B w (.slice a len c) b) (k : Nat) (hk : len ≤ k) : SliceB B w (.slice a 0 0) (b.drop k) := by
  obtain ⟨a', c', e, h1, h2, h3, h4⟩ := h
  simp only [Value.slice.injEq] at e
  obtain ⟨rfl, rfl, rfl⟩ := e
  have e : b.drop k = [] := by simp; omega
  rw [e]
  exact ⟨_, _, rfl, by simp, by simp [maxLen], fun _ => rfl, fun i hi => by simp at hi⟩

theorem own_cap {w : World} {base : Nat} {e : TypeId} {size : Nat} {ao : Option Addr} {n cap : Nat} {xs : List Value} (h : w.ownsRow base e size (.slice ao n cap) n xs) : n ≤ cap ∧ cap ≤ 9223372036854775807 := by
  obtain ⟨a, c, e, h1, h2, _⟩ := own_shape h
  simp only [Value.slice.injEq] at e
  obtain ⟨_, _, rfl⟩ := e
  unfold maxLen at h2
  exact ⟨h1, by omega⟩

theorem kept_row {B base : Nat} {w w' : World} {v u : Value} {n : Nat} {xs : List Value} {r : List UInt8} (hu : SliceB B w u r) (hB : B ≤ base) (hbw : base ≤ w.heap.size) (hown : w.ownsRow base 5 1 v n xs) (hg : w.grownBy w' v.ownBlock) : SliceB B w' u r :=
  hu.same (fun k hk => hg.block k (by omega) (fun e => by have := (hown.lt k e.symm).1; omega))

set_option maxHeartbeats 800000 in
theorem appendFrame_any (base : Nat) (v u : Value) (xs r : List UInt8) (w : World) (hown : w.ownsRow base 5 1 v xs.length (u8s xs)) (hb : base ≤ w.heap.size) (hx : xs.length ≤ 900000) (hu : SliceB base w u r) (hr : r.length < 65536) :
    Calls Try.prog 45 #[v, u] w fun e w' => ∃ ao cap, e = .returned (.slice ao (xs ++ frameB r).length cap) ∧ w'.ownsRow base 5 1 (.slice ao (xs ++ frameB r).length cap) (xs ++ frameB r).length (u8s (xs ++ frameB r)) ∧ w.grownBy w' v.ownBlock ∧ Moved w v (.slice ao (xs ++ frameB r).length cap) := by
  obtain ⟨va, vc, rfl, hv1, hv2, hv3⟩ := own_shape hown
  have HU : Hid (SliceB base w u r) := hu
  obtain ⟨ua, uc, rfl, u1, u2, -⟩ := hu
  unfold maxLen at u2 hv2
  clear hv3
  obtain ⟨S, hS⟩ : ∃ S, S = sumF (headB r) := ⟨_, rfl⟩
  obtain ⟨H, hH⟩ : ∃ H, H = headB r := ⟨_, rfl⟩
  obtain ⟨F, hF⟩ : ∃ F, F = frameB r := ⟨_, rfl⟩
  have hsl : S < 65521 := by rw [hS]; exact sumF_lt (headB r)
  have e0 : (xs ++ pairB r.length).length = xs.length + 2 := by simp [pairB]
  have E1 : Hid (u8s (xs ++ pairB r.length) ++ u8s r = u8s (xs ++ H)) := by show _ = _; simp [u8s, hH, headB]
  have E2 : Hid (xs.length + 2 + r.length = (xs ++ H).length) := by show _ = _; simp [hH, headB, pairB]; omega
  have E3 : Hid ((xs ++ H) ++ pairB S = xs ++ F) := by show _ = _; simp [hF, frameB, hH, hS]
  have E4 : Hid ((xs ++ H).drop xs.length = H) := by show _ = _; simp
  have E6 : Hid (sumF H = S) := by show _ = _; rw [hS, hH]
  have e5 : (xs ++ H).length = xs.length + 2 + r.length := E2.out.symm
  rw [← hF]
  clear hS hH hF
  have hlt : (xs.length : Int) ≤ (xs.length : Int) + 2 + r.length := by omega
  go_enter Try.func45, Try.ntmps45
  go_wp2_with (first
    | (go_at_call_of 57 va; refine (appendPair_any base _ xs r.length _ hown hb (by omega) (by omega)).mono ?_; rintro e w1 ⟨ao1, cap1, rfl, hown1, hg1, hm1⟩; rw [e0] at hown1 hm1 ⊢; have hz1 := hg1.size)
    | (at_builtin; refine wpList_app rfl (.tmp 12) (.tmp 13) rfl base _ (xs.length + 2) (u8s (xs ++ pairB r.length)) rfl hown1 base _ r rfl (kept_row HU.out (Nat.le_refl _) hb hown hg1) (by omega) (by omega) ?_; intro ao2 cap2 w2 hown2 hg2 hm2; rw [E1.out] at hown2; obtain ⟨hc2, hc2'⟩ := own_cap hown2; have hz2 := hg2.size; have hne2 : ¬ (cap2 : Int) = (xs.length : Int) := (by omega))
    | (go_at_call 20; refine (sum_any w2.heap.size _ H _ (by have := slice_drop (own_slice (bs := xs ++ H) (by rw [← E2.out]; exact hown2)) xs.length (by omega); rw [E4.out] at this; exact this)).mono ?_; rw [E6.out]; rintro e w3 ⟨rfl, rfl⟩)
    | (go_at_call_of 57 ao2; refine (appendPair_any base _ (xs ++ H) S _ (by rw [← E2.out]; exact hown2) (by omega) (by omega) (by omega)).mono ?_; rintro e w4 ⟨ao4, cap4, rfl, hown4, hg4, hm4⟩))
  go_ret
  rw [E3.out] at hown4 hm4
  have g1 := moved_grown hg1 hm1 hg2
  have m1 := hm1.trans hz1 hm2
  have hl : xs.length + (H.length + (pairB S).length) = (xs ++ F).length := by rw [← E3.out]; simp
  rw [hl]
  exact ⟨_, _, rfl, hown4, moved_grown g1 m1 hg4, m1.trans g1.size hm4⟩

set_option maxHeartbeats 400000 in
theorem copied_any (B : Nat) (u : Value) (b : List UInt8) (w : World) (hu : SliceB B w u b) (hb : b.length ≤ 140737488355328) :
    Calls Try.prog 46 #[u] w fun e w' => ∃ ao cap, e = .returned (.slice ao b.length cap) ∧ w'.ownsRow w.heap.size 5 1 (.slice ao b.length cap) b.length (u8s b) ∧ Below w.heap.size w w' := by
  go_enter Try.func46, Try.ntmps46
  go_wp2_with (
    (at_builtin; refine wpList_app rfl (.const (.slice none 0 0)) (.tmp 3) rfl w.heap.size _ 0 [] rfl (World.ownsRow_nil _ _ _ _) B _ b rfl hu (by omega) (Nat.le_refl _) ?_; intro ao2 cap2 w2 hown2 hg2 hm2))
  go_ret
  have e : 0 + b.length = b.length := Nat.zero_add _
  rw [e, List.nil_append] at hown2
  exact ⟨_, _, rfl, hown2, own_drop (World.ownsRow_nil _ _ _ _) (Nat.le_refl _) hg2⟩
end Go.Proofs.Ytdfledgcpceckaa
