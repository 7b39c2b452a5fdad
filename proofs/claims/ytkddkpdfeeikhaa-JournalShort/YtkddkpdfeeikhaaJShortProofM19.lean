/-
  SrMath; SrFrame; SrRead: texts laid together.
-/
import Derived.WalkKit
import Derived.Test.YtkddkpdfeeikhaaSrBase
import Derived.BigQuiet
/-
  The log's bytes as plain lists: the sum, a frame, frames one behind the other, and what they are read as.
-/
namespace Go.Proofs.Ytkddkpdfeeikhaa.SR
set_option linter.unusedVariables false
set_option linter.unusedSimpArgs false

def sumStep (s : Nat) (c : UInt8) : Nat := (s * 33 + c.toNat + 1) % 65521
def sumF (b : List UInt8) : Nat := b.foldl sumStep 7
def pairB (n : Nat) : List UInt8 := [UInt8.ofNat (n / 256), UInt8.ofNat (n % 256)]
def headB (r : List UInt8) : List UInt8 := pairB r.length ++ r
def frameB (r : List UInt8) : List UInt8 := headB r ++ pairB (sumF (headB r))
def framesB (rs : List (List UInt8)) : List UInt8 := rs.flatMap frameB
def byteAt (b : List UInt8) (i : Nat) : Nat := (b.getD i 0).toNat
def pairN (b : List UInt8) : Nat := byteAt b 0 * 256 + byteAt b 1

def wholeB (b : List UInt8) : Bool := 4 ≤ b.length && (pairN b + 4 ≤ b.length && pairN (b.drop (2 + pairN b)) == sumF (b.take (2 + pairN b)))
def firstB (b : List UInt8) : List UInt8 := (b.take (2 + pairN b)).drop 2

theorem firstB_len (b : List UInt8) (h : wholeB b = true) : (firstB b).length = pairN b := by
  simp [wholeB] at h
  simp [firstB]; omega

def recsN : Nat → List UInt8 → List (List UInt8)
  | 0, _ => []
  | n + 1, b => if wholeB b = true then firstB b :: recsN n (b.drop (pairN b + 4)) else []
def recsF (b : List UInt8) : List (List UInt8) := recsN b.length b
theorem wholeB_drop (b : List UInt8) (h : wholeB b = true) : (b.drop (pairN b + 4)).length + 4 ≤ b.length := by
  simp [wholeB] at h
  rw [List.length_drop]; omega
theorem recsN_more : ∀ (n : Nat) (b : List UInt8), b.length ≤ n → recsN n b = recsN b.length b := by
  intro n
  induction n using Nat.strongRecOn with
  | _ n ih =>
    intro b hb
    match n, hb with
    | 0, hb => rw [Nat.le_zero.1 hb]
    | n + 1, hb =>
      by_cases hw : wholeB b = true
      · have hd := wholeB_drop b hw
        match hl : b.length with
        | 0 => omega
        | m + 1 =>
          show recsN (n + 1) b = recsN (m + 1) b
          simp only [recsN, if_pos hw]
          rw [ih n (by omega) _ (by omega), ih m (by omega) (b.drop (pairN b + 4)) (by omega)]
      · match hl : b.length with
        | 0 => simp only [recsN, if_neg hw]
        | m + 1 => simp only [recsN, if_neg hw]
theorem recsF_eq (b : List UInt8) : recsF b = if wholeB b = true then firstB b :: recsF (b.drop (pairN b + 4)) else [] := by
  by_cases hw : wholeB b = true
  · have hd := wholeB_drop b hw
    rw [if_pos hw]
    unfold recsF
    match hl : b.length with
    | 0 => omega
    | m + 1 =>
      simp only [recsN, if_pos hw]
      rw [recsN_more m _ (by omega)]
  · rw [if_neg hw]
    unfold recsF
    match hl : b.length with
    | 0 => rfl
    | m + 1 => simp only [recsN, if_neg hw]

def sizeR (rs : List (List UInt8)) : Nat := (rs.map fun r => r.length + 4).sum

theorem sizeR_append (a b : List (List UInt8)) : sizeR (a ++ b) = sizeR a + sizeR b := by simp [sizeR]
theorem sizeR_cons (r : List UInt8) (a : List (List UInt8)) : sizeR (r :: a) = r.length + 4 + sizeR a := by simp [sizeR]
theorem sizeR_take (rs : List (List UInt8)) (k : Nat) (h : k < rs.length) : sizeR (rs.take (k + 1)) = sizeR (rs.take k) + (rs[k].length + 4) := by
  rw [List.take_succ_eq_append_getElem h, sizeR_append]; simp [sizeR]
theorem sizeR_le (rs : List (List UInt8)) (k : Nat) : sizeR (rs.take k) ≤ sizeR rs := by
  conv => rhs; rw [← List.take_append_drop k rs]
  rw [sizeR_append]; omega
theorem sizeR_bound (rs : List (List UInt8)) (m : Nat) (h : ∀ r ∈ rs, r.length ≤ m) : sizeR rs ≤ rs.length * (m + 4) := by
  induction rs with
  | nil => simp [sizeR]
  | cons r rs ih =>
    have h1 := h r (by simp)
    have h2 := ih (fun q hq => h q (by simp [hq]))
    rw [sizeR_cons, List.length_cons, Nat.add_mul]; omega
theorem sizeR_len4 (rs : List (List UInt8)) : rs.length * 4 ≤ sizeR rs := by
  induction rs with
  | nil => simp
  | cons r rs ih => rw [sizeR_cons, List.length_cons]; omega
theorem pairB_len (n : Nat) : (pairB n).length = 2 := rfl
theorem frameB_len (r : List UInt8) : (frameB r).length = r.length + 4 := by simp [frameB, headB, pairB_len]; omega
theorem framesB_len (rs : List (List UInt8)) : (framesB rs).length = sizeR rs := by
  induction rs with
  | nil => rfl
  | cons r rs ih => simp only [framesB, List.flatMap_cons, List.length_append] at ih ⊢; rw [ih, frameB_len, sizeR_cons]
theorem framesB_cons (r : List UInt8) (rs : List (List UInt8)) : framesB (r :: rs) = frameB r ++ framesB rs := by simp [framesB]
theorem framesB_append (a b : List (List UInt8)) : framesB (a ++ b) = framesB a ++ framesB b := by simp [framesB]
theorem framesB_take (rs : List (List UInt8)) (k : Nat) (h : k < rs.length) : framesB (rs.take (k + 1)) = framesB (rs.take k) ++ frameB rs[k] := by
  rw [List.take_succ_eq_append_getElem h, framesB_append]; simp [framesB]

theorem sumF_lt (b : List UInt8) : sumF b < 65521 := by
  unfold sumF
  suffices h : ∀ s, s < 65521 → b.foldl sumStep s < 65521 from h 7 (by decide)
  induction b with
  | nil => intro s h; exact h
  | cons c r ih => intro s h; exact ih _ (Nat.mod_lt _ (by decide))
theorem sumF_snoc (b : List UInt8) (c : UInt8) : sumF (b ++ [c]) = sumStep (sumF b) c := by simp [sumF]
theorem sumF_take (b : List UInt8) (k : Nat) (h : k < b.length) : sumF (b.take (k + 1)) = sumStep (sumF (b.take k)) b[k] := by
  rw [List.take_succ_eq_append_getElem h, sumF_snoc]

theorem pairN_pairB (n : Nat) (h : n < 65536) (t : List UInt8) : pairN (pairB n ++ t) = n := by
  simp [pairN, pairB, byteAt, UInt8.toNat_ofNat]; omega

theorem take_two (r t : List UInt8) : (headB r ++ t).take (2 + r.length) = headB r := by
  have : (headB r).length = 2 + r.length := by simp [headB, pairB_len]
  rw [← this, List.take_left']; rfl
theorem drop_two (r t : List UInt8) : (headB r ++ t).drop (2 + r.length) = t := by
  have : (headB r).length = 2 + r.length := by simp [headB, pairB_len]
  rw [← this, List.drop_left']; rfl

theorem pairN_head (r t : List UInt8) (h : r.length < 65536) : pairN (headB r ++ t) = r.length := by
  rw [headB, List.append_assoc]; exact pairN_pairB _ h _

theorem whole_frame (r t : List UInt8) (h : r.length < 65536) : wholeB (frameB r ++ t) = true ∧ firstB (frameB r ++ t) = r ∧ pairN (frameB r ++ t) = r.length := by
  have e : frameB r ++ t = headB r ++ (pairB (sumF (headB r)) ++ t) := by simp [frameB]
  have hp := pairN_head r (pairB (sumF (headB r)) ++ t) h
  have hs := sumF_lt (headB r)
  refine ⟨?_, ?_, by rw [e, hp]⟩
  · have hl : (frameB r ++ t).length = r.length + 4 + t.length := by rw [List.length_append, frameB_len]
    have h1 : pairN (frameB r ++ t) = r.length := by rw [e, hp]
    unfold wholeB
    rw [h1, hl, e, drop_two, take_two, pairN_pairB _ (by omega)]
    simp; omega
  · have h1 : pairN (frameB r ++ t) = r.length := by rw [e, hp]
    unfold firstB
    rw [h1, e, take_two]
    simp [headB, pairB]

theorem recsF_frame (r t : List UInt8) (h : r.length < 65536) : recsF (frameB r ++ t) = r :: recsF t := by
  obtain ⟨h1, h2, h3⟩ := whole_frame r t h
  rw [recsF_eq, if_pos h1, h2, h3, ← frameB_len, List.drop_left']; rfl

theorem recsF_frames (rs : List (List UInt8)) (t : List UInt8) (h : ∀ r ∈ rs, r.length < 65536) : recsF (framesB rs ++ t) = rs ++ recsF t := by
  induction rs with
  | nil => rfl
  | cons r rs ih =>
    rw [framesB_cons, List.append_assoc, recsF_frame r _ (h r (by simp)), ih (fun q hq => h q (by simp [hq])), List.cons_append]

theorem recsF_stop (b : List UInt8) (h : wholeB b = false) : recsF b = [] := by rw [recsF_eq, if_neg (by simp [h])]

theorem recsF_size (b : List UInt8) : sizeR (recsF b) ≤ b.length := by
  generalize hn : b.length = n
  induction n using Nat.strongRecOn generalizing b with
  | ind n ih =>
    by_cases h : wholeB b = true
    · have h1 := firstB_len b h
      rw [recsF_eq, if_pos h, sizeR_cons, h1]
      have h2 : pairN b + 4 ≤ b.length := by simp [wholeB] at h; omega
      have := ih (b.drop (pairN b + 4)).length (by simp; omega) _ rfl
      simp at this
      omega
    · rw [recsF_eq, if_neg h]; simp [sizeR]

end Go.Proofs.Ytkddkpdfeeikhaa.SR

/-
  store.Sum, appendPair, appendFrame, copied and Frame answer what sumF, pairB and frameB say.
-/
namespace Go.Proofs.Ytkddkpdfeeikhaa.SR
open Go.RowKit
set_option linter.unusedVariables false
set_option linter.unusedSimpArgs false

theorem sum_step (s : Nat) (c : UInt8) : (((s : Int) * 33 + c.toNat + 1) % 65521) = ((sumStep s c : Nat) : Int) := by unfold sumStep; omega

set_option maxHeartbeats 400000 in
theorem sum_any (B : Nat) (v : Value) (b : List UInt8) (w : World) (hb : SliceB B w v b) :
    Calls Try.prog 106 #[v] w fun e w' => e = .returned (.int .i64 (sumF b)) ∧ w' = w := by
  obtain ⟨a, cap, rfl, h1, h2, hn, h3⟩ := hb
  unfold maxLen at h2
  clear hn
  go_enter Try.func106, Try.ntmps106
  go_wp2
  go_loop [3, 8] (fun s i => ∃ k : Nat, k ≤ b.length ∧ i = .int .i64 k ∧ s = .int .i64 (sumF (b.take k))) (fun _ i => b.length - (intOf i).toNat)
  case atStart => exact ⟨0, Nat.zero_le _, rfl, rfl⟩
  case round =>
    obtain ⟨k, hk, rfl, rfl⟩ := hrel
    by_cases hlt : k < b.length
    · obtain ⟨g, off, rfl, hg, hcell⟩ := h3 k hlt
      obtain ⟨c, hc⟩ : ∃ c, c = b[k] := ⟨_, rfl⟩
      rw [← hc] at hcell
      obtain ⟨c0, c1⟩ := u8_bounds c
      obtain ⟨s, hs⟩ : ∃ s, s = sumF (b.take k) := ⟨_, rfl⟩
      have hsl : (s : Int) ≤ 65520 := by have := sumF_lt (b.take k); omega
      rw [← hs]
      have HS : Hid (s = sumF (b.take k)) := hs
      have HC : Hid (c = b[k]) := hc
      clear hs hc
      go_wp2
      go_round
      case rel => exact ⟨k + 1, by omega, by go_num, by rw [sumF_take b k hlt, ← HS.out, ← HC.out, ← sum_step]⟩
      case measure => simp [intOf]; omega
    · go_wp2
      go_ret
      have e : k = b.length := by omega
      subst e
      exact ⟨ret_i64 (by rw [List.take_of_length_le (Nat.le_refl _)]), rfl⟩

theorem pair_cells (n : Nat) (h : n < 65536) : [Value.int IntKind.u8 ((n : Int) / 256), Value.int IntKind.u8 ((n : Int) % 256)] = u8s (pairB n) := by
  simp only [u8s, pairB, List.map_cons, List.map_nil]
  rw [byte_of _ (by omega), byte_of _ (by omega)]
  rfl

set_option maxHeartbeats 400000 in
theorem appendPair_any (base : Nat) (v : Value) (xs : List UInt8) (n : Nat) (w : World) (hown : w.ownsRow base 5 1 v xs.length (u8s xs)) (hb : base ≤ w.heap.size) (hx : xs.length ≤ 1000000) (hn : n < 65536) :
    Calls Try.prog 111 #[v, .int .i64 n] w fun e w' => ∃ ao cap, e = .returned (.slice ao (xs ++ pairB n).length cap) ∧ w'.ownsRow base 5 1 (.slice ao (xs ++ pairB n).length cap) (xs ++ pairB n).length (u8s (xs ++ pairB n)) ∧ w.grownBy w' v.ownBlock ∧ Moved w v (.slice ao (xs ++ pairB n).length cap) := by
  have hn' : (n : Int) ≤ 65535 := by omega
  go_enter Try.func111, Try.ntmps111
  go_wp2_with (
     (at_builtin; refine wpList_app rfl (.tmp 5) (.tmp 11) rfl base v xs.length (u8s xs) rfl (hown.alloc _) (w.heap.size + 1) _ (pairB n) rfl (new_bytes w (pairB n) _ (by simp [pairB, maxLen]) ?hcells) (by simp [pairB]; omega) (by simp; omega) ?_; rotate_left; intro ao cap w1 hown1 hg1 hm1))
  · go_ret
    have e1 : (xs ++ pairB n).length = xs.length + (pairB n).length := by simp
    rw [e1]
    refine ⟨_, _, rfl, ?_, moved_grown (World.grownBy_alloc _ _ _) (Moved.refl _ _) hg1, hm1.of (by simp)⟩
    rw [u8s_append]
    exact hown1
  · exact pair_cells n hn

/-- A slice from a place on. -/
theorem slice_drop {B : Nat} {w : World} {a : Option Addr} {c len : Nat} {b : List UInt8} (h : SliceB B w (.slice a len c) b) (k : Nat) (hk : k ≤ len) : SliceB B w (.slice (a.map (fun x => x.add k)) (len - k) (c - k)) (b.drop k) := by
  obtain ⟨a', c', e, h1, h2, h3, h4⟩ := h
  simp only [Value.slice.injEq] at e
  obtain ⟨rfl, rfl, rfl⟩ := e
  exact ⟨_, c - k, by simp, by simp; omega, by unfold maxLen at *; omega, fun e => by have := h3 (by simpa using e); omega, bytes_drop h4 k⟩
theorem slice_drop0 {B : Nat} {w : World} {a : Option Addr} {c len : Nat} {b : List UInt8} (h : SliceB B w (.slice a len c) b) (k : Nat) (hk : len ≤ k) : SliceB B w (.slice a 0 0) (b.drop k) := by
  obtain ⟨a', c', e, h1, h2, h3, h4⟩ := h
  simp only [Value.slice.injEq] at e
  obtain ⟨rfl, rfl, rfl⟩ := e
  have e : b.drop k = [] := by simp; omega
  rw [e]
  exact ⟨_, _, rfl, by simp, by simp [maxLen], fun _ => rfl, fun i hi => by simp at hi⟩

theorem own_cap {w : World} {base : Nat} {e : TypeId} {size : Nat} {ao : Option Addr} {n cap : Nat} {xs : List Value} (h : w.ownsRow base e size (.slice ao n cap) n xs) : n ≤ cap ∧ cap ≤ 9223372036854775807 := by
  obtain ⟨a, c, e, h1, h2, _⟩ := own_shape h
  simp only [Value.slice.injEq] at e
  obtain ⟨_, _, rfl⟩ := e
  unfold maxLen at h2
  exact ⟨h1, by omega⟩

theorem kept_row {B base : Nat} {w w' : World} {v u : Value} {n : Nat} {xs : List Value} {r : List UInt8} (hu : SliceB B w u r) (hB : B ≤ base) (hbw : base ≤ w.heap.size) (hown : w.ownsRow base 5 1 v n xs) (hg : w.grownBy w' v.ownBlock) : SliceB B w' u r :=
  hu.same (fun k hk => hg.block k (by omega) (fun e => by have := (hown.lt k e.symm).1; omega))

set_option maxHeartbeats 800000 in
theorem appendFrame_any (base : Nat) (v u : Value) (xs r : List UInt8) (w : World) (hown : w.ownsRow base 5 1 v xs.length (u8s xs)) (hb : base ≤ w.heap.size) (hx : xs.length ≤ 900000) (hu : SliceB base w u r) (hr : r.length < 65536) :
    Calls Try.prog 89 #[v, u] w fun e w' => ∃ ao cap, e = .returned (.slice ao (xs ++ frameB r).length cap) ∧ w'.ownsRow base 5 1 (.slice ao (xs ++ frameB r).length cap) (xs ++ frameB r).length (u8s (xs ++ frameB r)) ∧ w.grownBy w' v.ownBlock ∧ Moved w v (.slice ao (xs ++ frameB r).length cap) := by
  obtain ⟨va, vc, rfl, hv1, hv2, hv3⟩ := own_shape hown
  have HU : Hid (SliceB base w u r) := hu
  obtain ⟨ua, uc, rfl, u1, u2, -⟩ := hu
  unfold maxLen at u2 hv2
  clear hv3
  obtain ⟨S, hS⟩ : ∃ S, S = sumF (headB r) := ⟨_, rfl⟩
  obtain ⟨H, hH⟩ : ∃ H, H = headB r := ⟨_, rfl⟩
  obtain ⟨F, hF⟩ : ∃ F, F = frameB r := ⟨_, rfl⟩
  have hsl : S < 65521 := by rw [hS]; exact sumF_lt (headB r)
  have e0 : (xs ++ pairB r.length).length = xs.length + 2 := by simp [pairB]
  have E1 : Hid (u8s (xs ++ pairB r.length) ++ u8s r = u8s (xs ++ H)) := by show _ = _; simp [u8s, hH, headB]
  have E2 : Hid (xs.length + 2 + r.length = (xs ++ H).length) := by show _ = _; simp [hH, headB, pairB]; omega
  have E3 : Hid ((xs ++ H) ++ pairB S = xs ++ F) := by show _ = _; simp [hF, frameB, hH, hS]
  have E4 : Hid ((xs ++ H).drop xs.length = H) := by show _ = _; simp
  have E6 : Hid (sumF H = S) := by show _ = _; rw [hS, hH]
  have e5 : (xs ++ H).length = xs.length + 2 + r.length := E2.out.symm
  rw [← hF]
  clear hS hH hF
  have hlt : (xs.length : Int) ≤ (xs.length : Int) + 2 + r.length := by omega
  go_enter Try.func89, Try.ntmps89
  go_wp2_with (first
    | (go_at_call_of 111 va; refine (appendPair_any base _ xs r.length _ hown hb (by omega) (by omega)).mono ?_; rintro e w1 ⟨ao1, cap1, rfl, hown1, hg1, hm1⟩; rw [e0] at hown1 hm1 ⊢; have hz1 := hg1.size)
    | (at_builtin; refine wpList_app rfl (.tmp 12) (.tmp 13) rfl base _ (xs.length + 2) (u8s (xs ++ pairB r.length)) rfl hown1 base _ r rfl (kept_row HU.out (Nat.le_refl _) hb hown hg1) (by omega) (by omega) ?_; intro ao2 cap2 w2 hown2 hg2 hm2; rw [E1.out] at hown2; obtain ⟨hc2, hc2'⟩ := own_cap hown2; have hz2 := hg2.size; have hne2 : ¬ (cap2 : Int) = (xs.length : Int) := (by omega))
    | (go_at_call 106; refine (sum_any w2.heap.size _ H _ (by have := slice_drop (own_slice (bs := xs ++ H) (by rw [← E2.out]; exact hown2)) xs.length (by omega); rw [E4.out] at this; exact this)).mono ?_; rw [E6.out]; rintro e w3 ⟨rfl, rfl⟩)
    | (go_at_call_of 111 ao2; refine (appendPair_any base _ (xs ++ H) S _ (by rw [← E2.out]; exact hown2) (by omega) (by omega) (by omega)).mono ?_; rintro e w4 ⟨ao4, cap4, rfl, hown4, hg4, hm4⟩))
  go_ret
  rw [E3.out] at hown4 hm4
  have g1 := moved_grown hg1 hm1 hg2
  have m1 := hm1.trans hz1 hm2
  have hl : xs.length + (H.length + (pairB S).length) = (xs ++ F).length := by rw [← E3.out]; simp
  rw [hl]
  exact ⟨_, _, rfl, hown4, moved_grown g1 m1 hg4, m1.trans g1.size hm4⟩

set_option maxHeartbeats 400000 in
theorem copied_any (B : Nat) (u : Value) (b : List UInt8) (w : World) (hu : SliceB B w u b) (hb : b.length ≤ 140737488355328) :
    Calls Try.prog 83 #[u] w fun e w' => ∃ ao cap, e = .returned (.slice ao b.length cap) ∧ w'.ownsRow w.heap.size 5 1 (.slice ao b.length cap) b.length (u8s b) ∧ Below w.heap.size w w' := by
  go_enter Try.func83, Try.ntmps83
  go_wp2_with (
    (at_builtin; refine wpList_app rfl (.const (.slice none 0 0)) (.tmp 3) rfl w.heap.size _ 0 [] rfl (World.ownsRow_nil _ _ _ _) B _ b rfl hu (by omega) (Nat.le_refl _) ?_; intro ao2 cap2 w2 hown2 hg2 hm2))
  go_ret
  have e : 0 + b.length = b.length := Nat.zero_add _
  rw [e, List.nil_append] at hown2
  exact ⟨_, _, rfl, hown2, own_drop (World.ownsRow_nil _ _ _ _) (Nat.le_refl _) hg2⟩
end Go.Proofs.Ytkddkpdfeeikhaa.SR

/-
  store.pair and first read what pairN, wholeB and firstB say.
-/
namespace Go.Proofs.Ytkddkpdfeeikhaa.SR
open Go.RowKit
set_option linter.unusedVariables false
set_option linter.unusedSimpArgs false

theorem wraps_i64 (n : Int) (h₀ : 0 ≤ n) (h₁ : n < 2 ^ 63) : IntKind.i64.wrap n = n := by rw [IntKind.wrap_i64]; omega
theorem or_pair (c d : UInt8) : bits BinOp.or IntKind.i64 ((c.toNat : Int) * 256) (d.toNat : Int) = (c.toNat : Int) * 256 + d.toNat := by
  have := c.toNat_lt
  have := d.toNat_lt
  exact bits_join .i64 63 (by decide) wraps_i64 8 _ _ (by omega) (by omega) (by omega) (by omega) (by omega) (by omega)

/-- Two bytes of a slice that has them. -/
theorem SliceB.two {B : Nat} {w : World} {v : Value} {b : List UInt8} (h : SliceB B w v b) (hl : 2 ≤ b.length) :
    ∃ (g off cap : Nat) (c d : UInt8), v = .slice (some ⟨g, off, none⟩) b.length cap ∧ w.cell? ⟨g, off, none⟩ = some (.int .u8 c.toNat) ∧ w.cell? ⟨g, off + 1, none⟩ = some (.int .u8 d.toNat) ∧ pairN b = c.toNat * 256 + d.toNat ∧ b.length ≤ cap ∧ cap ≤ 9223372036854775807 := by
  obtain ⟨a, cap, rfl, h1, h2, _, h3⟩ := h
  obtain ⟨g, off, rfl, _, hc⟩ := h3 0 (by omega)
  obtain ⟨g', off', e, _, hd⟩ := h3 1 (by omega)
  simp only [Option.some.injEq, Addr.mk.injEq] at e
  obtain ⟨rfl, rfl, -⟩ := e
  refine ⟨g, off, cap, _, _, rfl, hc, hd, ?_, h1, by unfold maxLen at h2; omega⟩
  match b, hl with
  | x :: y :: t, _ => rfl

set_option maxHeartbeats 400000 in
theorem pair_any (B : Nat) (v : Value) (b : List UInt8) (w : World) (hb : SliceB B w v b) (hl : 2 ≤ b.length) :
    Calls Try.prog 105 #[v] w fun e w' => e = .returned (.int .i64 (pairN b)) ∧ ∃ m, w' = w.drewN m := by
  obtain ⟨g, off, cap, c, d, rfl, hc, hd, hp, h1, h2⟩ := hb.two hl
  have HP : Hid (pairN b = c.toNat * 256 + d.toNat) := hp
  have HO := or_pair c d
  obtain ⟨c0, c1⟩ := u8_bounds c
  obtain ⟨d0, d1⟩ := u8_bounds d
  have l0 : (0 : Int) < (b.length : Int) := by omega
  have l1 : (1 : Int) < (b.length : Int) := by omega
  clear hp hb
  go_enter Try.func105, Try.ntmps105
  go_wp2
  go_quiet (fail)
  go_wp2
  go_ret
  exact ⟨ret_i64 (by rw [HP.out]; simp), _, rfl⟩

theorem SliceB.drewN {B : Nat} {w : World} {v : Value} {b : List UInt8} (h : SliceB B w v b) (m : Nat) : SliceB B (w.drewN m) v b := h.same (fun _ _ => by simp)

/-- What 'first' gives of bytes. -/
def firstV (b : List UInt8) : List UInt8 := if wholeB b = true then firstB b else []

set_option maxHeartbeats 1000000 in
theorem first_any (B : Nat) (v : Value) (b : List UInt8) (w : World) (hb : SliceB B w v b) :
    Calls Try.prog 82 #[v] w fun e w' => ∃ u, e = .returned (.tuple #[u, .bool (wholeB b)]) ∧ SliceB B w u (firstV b) ∧ ∃ m, w' = w.drewN m := by
  have HB : Hid (SliceB B w v b) := hb
  obtain ⟨a, cap, rfl, h1, h2, hn, h3⟩ := hb
  unfold maxLen at h2
  clear hn
  have H3 : Hid (BytesAt B w a b) := h3
  clear h3
  by_cases h4 : b.length < 4
  · have hw : wholeB b = false := by simp [wholeB]; omega
    have HV : Hid (firstV b = []) := by show _ = _; simp [firstV, hw]
    rw [hw]
    clear hw
    go_enter Try.func82, Try.ntmps82
    go_wp2
    exact bodyPost_ret (v := .tuple #[.slice none 0 0, .bool false]) (by simp [results, Try.results82, go_sem, *]) rfl ⟨_, rfl, by rw [HV.out]; exact SliceB.nil _ _, 0, rfl⟩
  obtain ⟨N, hN⟩ : ∃ N, N = pairN b := ⟨_, rfl⟩
  have HN : Hid (N = pairN b) := hN
  have hNb : N < 65536 := by
    rw [hN]
    unfold pairN byteAt
    have := (b.getD 0 0).toNat_lt
    have := (b.getD 1 0).toNat_lt
    omega
  by_cases h5 : b.length < N + 4
  · have hw : wholeB b = false := by simp [wholeB, ← hN]; omega
    have HV : Hid (firstV b = []) := by show _ = _; simp [firstV, hw]
    rw [hw]
    clear hw hN
    have hg : decide ((b.length : Int) < 2 + (N : Int) + 2) = true := by simp; omega
    go_enter Try.func82, Try.ntmps82
    go_wp2_with (go_at_call 105; refine (pair_any B _ b _ HB.out (by omega)).mono ?_; rw [← HN.out]; rintro e w1 ⟨rfl, m, rfl⟩)
    go_quiet (fail)
    go_wp2
    exact bodyPost_ret (v := .tuple #[.slice none 0 0, .bool false]) (by simp [results, Try.results82, go_sem, *]) rfl ⟨_, rfl, by rw [HV.out]; exact SliceB.nil _ _, _, World.drewN_drewN _ _ _⟩
  obtain ⟨g, off, rfl, -, -⟩ := H3.out 0 (by omega)
  clear H3
  have hl2 : (b.drop (2 + N)).length = b.length - (2 + N) := by simp
  obtain ⟨M, hM⟩ : ∃ M, M = pairN (b.drop (2 + N)) := ⟨_, rfl⟩
  obtain ⟨S, hS⟩ : ∃ S, S = sumF (b.take (2 + N)) := ⟨_, rfl⟩
  have HM : Hid (M = pairN (b.drop (2 + N))) := hM
  have HS : Hid (S = sumF (b.take (2 + N))) := hS
  have hw : wholeB b = (M == S) := by
    unfold wholeB
    rw [← hN, ← hM, ← hS]
    simp [show 4 ≤ b.length by omega, show N + 4 ≤ b.length by omega]
  have HV : Hid (firstV b = if M = S then (b.take (2 + N)).drop 2 else []) := by
    show _ = _
    rw [firstV, hw, firstB, ← hN]; simp
  rw [hw]
  clear hw hN hM hS
  have hg : decide ((b.length : Int) < 2 + (N : Int) + 2) = false := by simp; omega
  have hc1 : ¬ (cap : Int) = 2 + (N : Int) := by omega
  have hc2 : (2 : Int) + (N : Int) ≤ (cap : Int) := by omega
  have hc3 : (2 : Int) + (N : Int) ≤ (b.length : Int) := by omega
  have hc4 : ¬ (cap : Int) = 2 := by omega
  have HD : ∀ m, SliceB B (w.drewN m) (.slice (some ⟨g, off + (2 + N), none⟩) (b.length - (2 + N)) (cap - (2 + N))) (b.drop (2 + N)) := fun m => by have := slice_drop (HB.out.drewN m) (2 + N) (by omega); simpa only [Option.map_some, add_none] using this
  have HT := fun m => (slice_take (HB.out.drewN m) (2 + N) (by omega))
  have HF : Hid (SliceB B w (.slice (some ⟨g, off + 2, none⟩) (2 + N - 2) (cap - 2)) ((b.take (2 + N)).drop 2)) := by have := slice_drop (slice_take HB.out (2 + N) (by omega)) 2 (by omega); show SliceB _ _ _ _; simpa only [Option.map_some, add_none] using this
  go_enter Try.func82, Try.ntmps82
  go_wp2_with (go_at_call 105; refine (pair_any B _ b _ HB.out (by omega)).mono ?_; rw [← HN.out]; rintro e w1 ⟨rfl, m, rfl⟩)
  go_quiet ((first
    | (go_at_call 105; refine (pair_any B _ (b.drop (2 + N)) _ (HD _) (by simp; omega)).mono ?_; rw [← HM.out]; rintro e w2 ⟨rfl, k, rfl⟩; exact ⟨rfl, _, by rw [World.drewN_drewN, Nat.add_assoc]⟩)
    | (go_at_call 106; refine (sum_any B _ (b.take (2 + N)) _ (HT _)).mono ?_; rw [← HS.out]; rintro e w2 ⟨rfl, rfl⟩; exact ⟨rfl, _, rfl⟩)))
  go_wp2
  · have hms : M ≠ S := fun e => by
      have : ((M : Int) != S) = true := by assumption
      subst e
      simp at this
    have hf : (M == S) = false := by simpa using hms
    rw [hf]
    refine bodyPost_ret (v := .tuple #[.slice none 0 0, .bool false]) (by simp [results, Try.results82, go_sem]) rfl ⟨_, rfl, ?_, _, World.drewN_drewN _ _ _⟩
    rw [HV.out, if_neg hms]
    exact SliceB.nil _ _
  · have hms : M = S := by
      have : ((M : Int) != S) = false := by assumption
      simp at this
      omega
    subst hms
    have hf : (M == M) = true := by simp
    rw [hf]
    refine bodyPost_ret (v := .tuple #[.slice (some ⟨g, off + 2, none⟩) (2 + N - 2) (cap - 2), .bool true]) (by simp [results, Try.results82, go_sem]) rfl ⟨_, rfl, ?_, _, rfl⟩
    rw [HV.out, if_pos rfl]
    exact HF.out
end Go.Proofs.Ytkddkpdfeeikhaa.SR
