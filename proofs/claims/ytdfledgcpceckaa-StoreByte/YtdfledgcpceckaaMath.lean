/-
  The log's bytes as plain lists: the sum, a frame, frames one behind the other, and what they are read as.
-/
import Derived.WalkKit
namespace Go.Proofs.Ytdfledgcpceckaa
set_option linter.unusedVariables false
set_option linter.unusedSimpArgs false

def sumStep (s : Nat) (c : UInt8) : Nat := (s * 33 + c.toNat + 1) % 65521
def sumF (b : List UInt8) : Nat := b.foldl sumStep 7
def pairB (n : Nat) : List UInt8 := [UInt8.ofNat (n / 256), UInt8.ofNat (n % 256)]
def headB (r : List UInt8) : List UInt8 := pairB r.length ++ r
def frameB (r : List UInt8) : List UInt8 := headB r ++ pairB (sumF (headB r))
def framesB (rs : List (List UInt8)) : List UInt8 := rs.flatMap frameB
def byteAt (b : List UInt8) (i : Nat) : Nat := (b.getD i 0).toNat
def pairN (b : List UInt8) : Nat := byteAt b 0 * 256 + byteAt b 1

def wholeB (b : List UInt8) : Bool := 4 ≤ b.length && (pairN b + 4 ≤ b.length && pairN (b.drop (2 + pairN b)) == sumF (b.take (2 + pairN b)))
def firstB (b : List UInt8) : List UInt8 := (b.take (2 + pairN b)).drop 2

theorem firstB_len (b : List UInt8) (h : wholeB b = true) : (firstB b).length = pairN b := by
  simp [wholeB] at h
  simp [firstB]; omega

def recsN : Nat → List UInt8 → List (List UInt8)
  | 0, _ => []
  | n + 1, b => if wholeB b = true then firstB b :: recsN n (b.drop (pairN b + 4)) else []
def recsF (b : List UInt8) : List (List UInt8) := recsN b.length b
theorem wholeB_drop (b : List UInt8) (h : wholeB b = true) : (b.drop (pairN b + 4)).length + 4 ≤ b.length := by
  simp [wholeB] at h
  rw [List.length_drop]; omega
theorem recsN_more : ∀ (n : Nat) (b : List UInt8), b.length ≤ n → recsN n b = recsN b.length b := by
  intro n
  induction n using Nat.strongRecOn with
  | _ n ih =>
    intro b hb
    match n, hb with
    | 0, hb => rw [Nat.le_zero.1 hb]
    | n + 1, hb =>
      by_cases hw : wholeB b = true
      · have hd := wholeB_drop b hw
        match hl : b.length with
        | 0 => omega
        | m + 1 =>
          show recsN (n + 1) b = recsN (m + 1) b
          simp only [recsN, if_pos hw]
          rw [ih n (by omega) _ (by omega), ih m (by omega) (b.drop (pairN b + 4)) (by omega)]
      · match hl : b.length with
        | 0 => simp only [recsN, if_neg hw]
        | m + 1 => simp only [recsN, if_neg hw]
theorem recsF_eq (b : List UInt8) : recsF b = if wholeB b = true then firstB b :: recsF (b.drop (pairN b + 4)) else [] := by
  by_cases hw : wholeB b = true
  · have hd := wholeB_drop b hw
    rw [if_pos hw]
    unfold recsF
    match hl : b.length with
    | 0 => omega
    | m + 1 =>
      simp only [recsN, if_pos hw]
      rw [recsN_more m _ (by omega)]
  · rw [if_neg hw]
    unfold recsF
    match hl : b.length with
    | 0 => rfl
    | m + 1 => simp only [recsN, if_neg hw]

def sizeR (rs : List (List UInt8)) : Nat := (rs.map fun r => r.length + 4).sum

theorem sizeR_append (a b : List (List UInt8)) : sizeR (a ++ b) = sizeR a + sizeR b := by simp [sizeR]
theorem sizeR_cons (r : List UInt8) (a : List (List UInt8)) : sizeR (r :: a) = r.length + 4 + sizeR a := by simp [sizeR]
theorem sizeR_take (rs : List (List UInt8)) (k : Nat) (h : k < rs.length) : sizeR (rs.take (k + 1)) = sizeR (rs.take k) + (rs[k].length + 4) := by
  rw [List.take_succ_eq_append_getElem h, sizeR_append]; simp [sizeR]
theorem sizeR_le (rs : List (List UInt8)) (k : Nat) : sizeR (rs.take k) ≤ sizeR rs := by
  conv => rhs; rw [← List.take_append_drop k rs]
  rw [sizeR_append]; omega
theorem sizeR_bound (rs : List (List UInt8)) (m : Nat) (h : ∀ r ∈ rs, r.length ≤ m) : sizeR rs ≤ rs.length * (m + 4) := by
  induction rs with
  | nil => simp [sizeR]
  | cons r rs ih =>
    have h1 := h r (by simp)
    have h2 := ih (fun q hq => h q (by simp [hq]))
    rw [sizeR_cons, List.length_cons, Nat.add_mul]; omega
theorem sizeR_len4 (rs : List (List UInt8)) : rs.length * 4 ≤ sizeR rs := by
  induction rs with
  | nil => simp
  | cons r rs ih => rw [sizeR_cons, List.length_cons]; omega
theorem sizeR_mem (rs : List (List UInt8)) (r : List UInt8) (h : r ∈ rs) : r.length ≤ sizeR rs := by
  induction rs with
  | nil => simp at h
  | cons q rs ih =>
    rw [sizeR_cons]
    rcases List.mem_cons.1 h with rfl | h
    · omega
    · have := ih h; omega

theorem pairB_len (n : Nat) : (pairB n).length = 2 := rfl
theorem frameB_len (r : List UInt8) : (frameB r).length = r.length + 4 := by simp [frameB, headB, pairB_len]; omega
theorem framesB_len (rs : List (List UInt8)) : (framesB rs).length = sizeR rs := by
  induction rs with
  | nil => rfl
  | cons r rs ih => simp only [framesB, List.flatMap_cons, List.length_append] at ih ⊢; rw [ih, frameB_len, sizeR_cons]
theorem framesB_cons (r : List UInt8) (rs : List (List UInt8)) : framesB (r :: rs) = frameB r ++ framesB rs := by simp [framesB]
theorem framesB_append (a b : List (List UInt8)) : framesB (a ++ b) = framesB a ++ framesB b := by simp [framesB]
theorem framesB_take (rs : List (List UInt8)) (k : Nat) (h : k < rs.length) : framesB (rs.take (k + 1)) = framesB (rs.take k) ++ frameB rs[k] := by
  rw [List.take_succ_eq_append_getElem h, framesB_append]; simp [framesB]

theorem sumF_lt (b : List UInt8) : sumF b < 65521 := by
  unfold sumF
  suffices h : ∀ s, s < 65521 → b.foldl sumStep s < 65521 from h 7 (by decide)
  induction b with
  | nil => intro s h; exact h
  | cons c r ih => intro s h; exact ih _ (Nat.mod_lt _ (by decide))
theorem sumF_snoc (b : List UInt8) (c : UInt8) : sumF (b ++ [c]) = sumStep (sumF b) c := by simp [sumF]
theorem sumF_take (b : List UInt8) (k : Nat) (h : k < b.length) : sumF (b.take (k + 1)) = sumStep (sumF (b.take k)) b[k] := by
  rw [List.take_succ_eq_append_getElem h, sumF_snoc]

theorem pairN_pairB (n : Nat) (h : n < 65536) (t : List UInt8) : pairN (pairB n ++ t) = n := by
  simp [pairN, pairB, byteAt, UInt8.toNat_ofNat]; omega

/-- What a frame's own first bytes say. -/
theorem pairN_prefix (b c : List UInt8) (k : Nat) (hk : 2 ≤ k) : pairN ((b ++ c).take k) = pairN (b ++ c) := by
  have h : ∀ l : List UInt8, pairN (l.take k) = pairN l := fun l => by
    unfold pairN byteAt
    simp only [List.getD, List.getElem?_take]
    rw [if_pos (by omega), if_pos (by omega)]
  exact h _

theorem take_two (r t : List UInt8) : (headB r ++ t).take (2 + r.length) = headB r := by
  have : (headB r).length = 2 + r.length := by simp [headB, pairB_len]
  rw [← this, List.take_left']; rfl
theorem drop_two (r t : List UInt8) : (headB r ++ t).drop (2 + r.length) = t := by
  have : (headB r).length = 2 + r.length := by simp [headB, pairB_len]
  rw [← this, List.drop_left']; rfl

theorem pairN_head (r t : List UInt8) (h : r.length < 65536) : pairN (headB r ++ t) = r.length := by
  rw [headB, List.append_assoc]; exact pairN_pairB _ h _

theorem whole_frame (r t : List UInt8) (h : r.length < 65536) : wholeB (frameB r ++ t) = true ∧ firstB (frameB r ++ t) = r ∧ pairN (frameB r ++ t) = r.length := by
  have e : frameB r ++ t = headB r ++ (pairB (sumF (headB r)) ++ t) := by simp [frameB]
  have hp := pairN_head r (pairB (sumF (headB r)) ++ t) h
  have hs := sumF_lt (headB r)
  refine ⟨?_, ?_, by rw [e, hp]⟩
  · have hl : (frameB r ++ t).length = r.length + 4 + t.length := by rw [List.length_append, frameB_len]
    have h1 : pairN (frameB r ++ t) = r.length := by rw [e, hp]
    unfold wholeB
    rw [h1, hl, e, drop_two, take_two, pairN_pairB _ (by omega)]
    simp; omega
  · have h1 : pairN (frameB r ++ t) = r.length := by rw [e, hp]
    unfold firstB
    rw [h1, e, take_two]
    simp [headB, pairB]

theorem recsF_frame (r t : List UInt8) (h : r.length < 65536) : recsF (frameB r ++ t) = r :: recsF t := by
  obtain ⟨h1, h2, h3⟩ := whole_frame r t h
  rw [recsF_eq, if_pos h1, h2, h3, ← frameB_len, List.drop_left']; rfl

theorem recsF_frames (rs : List (List UInt8)) (t : List UInt8) (h : ∀ r ∈ rs, r.length < 65536) : recsF (framesB rs ++ t) = rs ++ recsF t := by
  induction rs with
  | nil => rfl
  | cons r rs ih =>
    rw [framesB_cons, List.append_assoc, recsF_frame r _ (h r (by simp)), ih (fun q hq => h q (by simp [hq])), List.cons_append]

theorem recsF_nil : recsF [] = [] := by rw [recsF_eq, if_neg (by decide)]

theorem recsF_stop (b : List UInt8) (h : wholeB b = false) : recsF b = [] := by rw [recsF_eq, if_neg (by simp [h])]

/-- A frame of which a part is not there is none. -/
theorem short_frame (r t : List UInt8) (k : Nat) (h : r.length < 65536) (hk : k < r.length + 4) : recsF ((frameB r ++ t).take k) = [] := by
  refine recsF_stop _ ?_
  by_cases h4 : k < 4
  · simp [wholeB]; omega
  · obtain ⟨h1, h2, h3⟩ := whole_frame r t h
    have e : pairN ((frameB r ++ t).take k) = r.length := by rw [pairN_prefix _ _ _ (by omega), h3]
    simp [wholeB, e]
    intro _ _; omega

/-- What is left of frames of which only the first n bytes are there. -/
theorem recsF_cut (rs : List (List UInt8)) (n : Nat) (h : ∀ r ∈ rs, r.length < 65536) :
    ∃ j, j ≤ rs.length ∧ recsF ((framesB rs).take n) = rs.take j ∧ (∀ i, i ≤ rs.length → sizeR (rs.take i) ≤ n → i ≤ j) := by
  induction rs generalizing n with
  | nil => exact ⟨0, Nat.le_refl _, by simp [framesB, recsF_nil], fun i hi _ => by simpa using hi⟩
  | cons r rs ih =>
    by_cases hn : n < r.length + 4
    · refine ⟨0, Nat.zero_le _, ?_, fun i hi hs => ?_⟩
      · rw [framesB_cons, short_frame r _ n (h r (by simp)) hn]; rfl
      · cases i with
        | zero => omega
        | succ i => rw [List.take_succ_cons, sizeR_cons] at hs; omega
    · obtain ⟨j, hj, e, hi⟩ := ih (n - (r.length + 4)) (fun q hq => h q (by simp [hq]))
      refine ⟨j + 1, by simpa using hj, ?_, fun i hl hs => ?_⟩
      · rw [framesB_cons, List.take_append, List.take_of_length_le (by rw [frameB_len]; omega), recsF_frame _ _ (h r (by simp)), frameB_len, e, List.take_succ_cons]
      · cases i with
        | zero => omega
        | succ i =>
          rw [List.take_succ_cons, sizeR_cons] at hs
          have := hi i (by simpa using hl) (by omega)
          omega

theorem recsF_size (b : List UInt8) : sizeR (recsF b) ≤ b.length := by
  generalize hn : b.length = n
  induction n using Nat.strongRecOn generalizing b with
  | ind n ih =>
    by_cases h : wholeB b = true
    · have h1 := firstB_len b h
      rw [recsF_eq, if_pos h, sizeR_cons, h1]
      have h2 : pairN b + 4 ≤ b.length := by simp [wholeB] at h; omega
      have := ih (b.drop (pairN b + 4)).length (by simp; omega) _ rfl
      simp at this
      omega
    · rw [recsF_eq, if_neg h]; simp [sizeR]

/-- What a crash leaves of frames. -/
theorem crash_frames (rs : List (List UInt8)) (n : Nat) (h : ∀ r ∈ rs, r.length < 65536) :
    ∃ j, j ≤ rs.length ∧ recsF ((framesB rs).take n) = rs.take j ∧ (∀ i, i ≤ rs.length → sizeR (rs.take i) ≤ n → i ≤ j) ∧ ((framesB rs).take n).take (sizeR (rs.take j)) = framesB (rs.take j) ∧ recsF (framesB (rs.take j)) = rs.take j := by
  obtain ⟨j, hj, e, hi⟩ := recsF_cut rs n h
  refine ⟨j, hj, e, hi, ?_, ?_⟩
  · have hs := recsF_size ((framesB rs).take n)
    rw [e] at hs
    simp at hs
    rw [List.take_take, Nat.min_eq_left (by omega)]
    conv => lhs; rw [← List.take_append_drop j rs]
    rw [framesB_append, List.take_append_of_le_length (by rw [framesB_len]; simp), List.take_of_length_le (by rw [framesB_len]; simp)]
  · have := recsF_frames (rs.take j) [] (fun r hr => h r (List.mem_of_mem_take hr))
    simpa [recsF_nil] using this

/-- One byte turned: the sum is another one. -/
theorem step_inj (c : UInt8) (s t : Nat) (hs : s < 65521) (ht : t < 65521) (h : sumStep s c = sumStep t c) : s = t := by
  unfold sumStep at h
  omega
theorem fold_ne (l : List UInt8) (s t : Nat) (hs : s < 65521) (ht : t < 65521) (h : s ≠ t) : l.foldl sumStep s ≠ l.foldl sumStep t := by
  induction l generalizing s t with
  | nil => exact h
  | cons c r ih =>
    exact ih _ _ (Nat.mod_lt _ (by decide)) (Nat.mod_lt _ (by decide)) (fun e => h (step_inj c s t hs ht e))
theorem step_ne (s : Nat) (c d : UInt8) (h : c ≠ d) : sumStep s c ≠ sumStep s d := by
  intro e
  unfold sumStep at e
  have h1 := c.toNat_lt
  have h2 := d.toNat_lt
  apply h
  apply UInt8.toNat_inj.1
  omega
theorem sumF_turned (p q : List UInt8) (c d : UInt8) (h : c ≠ d) : sumF (p ++ c :: q) ≠ sumF (p ++ d :: q) := by
  unfold sumF
  rw [List.foldl_append, List.foldl_append, List.foldl_cons, List.foldl_cons]
  exact fold_ne q _ _ (Nat.mod_lt _ (by decide)) (Nat.mod_lt _ (by decide)) (step_ne _ c d h)

theorem turned_stop (p q t : List UInt8) (c d : UInt8) (h : c ≠ d) (hl : (p ++ c :: q).length < 65536) :
    recsF (pairB (p ++ c :: q).length ++ (p ++ d :: q) ++ pairB (sumF (headB (p ++ c :: q))) ++ t) = [] := by
  refine recsF_stop _ ?_
  have hl' : (p ++ d :: q).length = (p ++ c :: q).length := by simp
  have e : pairB (p ++ c :: q).length ++ (p ++ d :: q) ++ pairB (sumF (headB (p ++ c :: q))) ++ t = headB (p ++ d :: q) ++ (pairB (sumF (headB (p ++ c :: q))) ++ t) := by
    simp [headB]
  have hs := sumF_lt (headB (p ++ c :: q))
  rw [e]
  unfold wholeB
  rw [pairN_head _ _ (by omega), drop_two, take_two, pairN_pairB _ (by omega)]
  have hne : sumF (headB (p ++ c :: q)) ≠ sumF (headB (p ++ d :: q)) := by
    have := sumF_turned (pairB (p ++ c :: q).length ++ p) q c d h
    simpa [headB, hl'] using this
  simp [hne]

/-- The whole of StoreByte. -/
theorem turned_recs (a : List (List UInt8)) (k at_ : Nat) (c : UInt8) (hk : k < a.length) (hat : at_ < a[k].length) (hne : a[k][at_] ≠ c) (h : ∀ r ∈ a, r.length < 65536) :
    recsF ((framesB a).set (sizeR (a.take k) + 2 + at_) c) = a.take k := by
  have hs : a = a.take k ++ a[k] :: a.drop (k + 1) := by simp
  have e1 : framesB a = framesB (a.take k) ++ (frameB a[k] ++ framesB (a.drop (k + 1))) := by
    conv => lhs; rw [hs]
    rw [framesB_append, framesB_cons]
  have e2 : a[k] = a[k].take at_ ++ a[k][at_] :: a[k].drop (at_ + 1) := by simp
  obtain ⟨r, hr⟩ : ∃ r, r = a[k] := ⟨_, rfl⟩
  have hlr : r.length < 65536 := by rw [hr]; exact h _ (List.getElem_mem _)
  have e3 : (framesB a).set (sizeR (a.take k) + 2 + at_) c = framesB (a.take k) ++ (pairB a[k].length ++ (a[k].take at_ ++ c :: a[k].drop (at_ + 1)) ++ pairB (sumF (headB a[k])) ++ framesB (a.drop (k + 1))) := by
    rw [e1, List.set_append_right _ _ (by rw [framesB_len]; omega), framesB_len]
    congr 1
    have e4 : sizeR (a.take k) + 2 + at_ - sizeR (a.take k) = 2 + at_ := by omega
    rw [e4, List.set_append_left _ _ (by rw [frameB_len]; omega)]
    congr 1
    rw [frameB, List.set_append_left _ _ (by simp [headB, pairB_len]; omega)]
    congr 1
    rw [headB, List.set_append_right _ _ (by rw [pairB_len]; omega), pairB_len]
    congr 1
    rw [Nat.add_sub_cancel_left, List.set_eq_take_append_cons_drop, if_pos hat]
  rw [e3, recsF_frames _ _ (fun q hq => h q (List.mem_of_mem_take hq))]
  have := turned_stop (a[k].take at_) (a[k].drop (at_ + 1)) (framesB (a.drop (k + 1))) a[k][at_] c hne (by rw [← e2]; exact h _ (List.getElem_mem _))
  rw [← e2] at this
  rw [this, List.append_nil]
end Go.Proofs.Ytdfledgcpceckaa
