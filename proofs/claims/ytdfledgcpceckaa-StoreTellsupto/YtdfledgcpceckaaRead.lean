/-
  store.pair and first read what pairN, wholeB and firstB say.
-/
import Derived.Test.YtdfledgcpceckaaFrame
import Derived.BigQuiet
namespace Go.Proofs.Ytdfledgcpceckaa
open Go.RowKit
set_option linter.unusedVariables false
set_option linter.unusedSimpArgs false

theorem wraps_i64 (n : Int) (h₀ : 0 ≤ n) (h₁ : n < 2 ^ 63) : IntKind.i64.wrap n = n := by rw [IntKind.wrap_i64]; omega
theorem or_pair (c d : UInt8) : bits BinOp.or IntKind.i64 ((c.toNat : Int) * 256) (d.toNat : Int) = (c.toNat : Int) * 256 + d.toNat := by
  have := c.toNat_lt
  have := d.toNat_lt
  exact bits_join .i64 63 (by decide) wraps_i64 8 _ _ (by omega) (by omega) (by omega) (by omega) (by omega) (by omega)

theorem pairN_two (c d : UInt8) (t : List UInt8) : pairN (c :: d :: t) = c.toNat * 256 + d.toNat := rfl

/-- Two bytes of a slice that has them. -/
theorem SliceB.two {B : Nat} {w : World} {v : Value} {b : List UInt8} (h : SliceB B w v b) (hl : 2 ≤ b.length) :
    ∃ (g off cap : Nat) (c d : UInt8), v = .slice (some ⟨g, off, none⟩) b.length cap ∧ w.cell? ⟨g, off, none⟩ = some (.int .u8 c.toNat) ∧ w.cell? ⟨g, off + 1, none⟩ = some (.int .u8 d.toNat) ∧ pairN b = c.toNat * 256 + d.toNat ∧ b.length ≤ cap ∧ cap ≤ 9223372036854775807 := by
  obtain ⟨a, cap, rfl, h1, h2, _, h3⟩ := h
  obtain ⟨g, off, rfl, _, hc⟩ := h3 0 (by omega)
  obtain ⟨g', off', e, _, hd⟩ := h3 1 (by omega)
  simp only [Option.some.injEq, Addr.mk.injEq] at e
  obtain ⟨rfl, rfl, -⟩ := e
  refine ⟨g, off, cap, _, _, rfl, hc, hd, ?_, h1, by unfold maxLen at h2; omega⟩
  match b, hl with
  | x :: y :: t, _ => rfl

set_option maxHeartbeats 400000 in
theorem pair_any (B : Nat) (v : Value) (b : List UInt8) (w : World) (hb : SliceB B w v b) (hl : 2 ≤ b.length) :
    Calls Try.prog 58 #[v] w fun e w' => e = .returned (.int .i64 (pairN b)) ∧ ∃ m, w' = w.drewN m := by
  obtain ⟨g, off, cap, c, d, rfl, hc, hd, hp, h1, h2⟩ := hb.two hl
  have HP : Hid (pairN b = c.toNat * 256 + d.toNat) := hp
  have HO := or_pair c d
  obtain ⟨c0, c1⟩ := u8_bounds c
  obtain ⟨d0, d1⟩ := u8_bounds d
  have l0 : (0 : Int) < (b.length : Int) := by omega
  have l1 : (1 : Int) < (b.length : Int) := by omega
  clear hp hb
  go_enter Try.func58, Try.ntmps58
  go_wp2
  go_quiet (fail)
  go_wp2
  go_ret
  exact ⟨ret_i64 (by rw [HP.out]; simp), _, rfl⟩

theorem SliceB.drewN {B : Nat} {w : World} {v : Value} {b : List UInt8} (h : SliceB B w v b) (m : Nat) : SliceB B (w.drewN m) v b := h.same (fun _ _ => by simp)

/-- What 'first' gives of bytes. -/
def firstV (b : List UInt8) : List UInt8 := if wholeB b = true then firstB b else []

set_option maxHeartbeats 1000000 in
theorem first_any (B : Nat) (v : Value) (b : List UInt8) (w : World) (hb : SliceB B w v b) :
    Calls Try.prog 49 #[v] w fun e w' => ∃ u, e = .returned (.tuple #[u, .bool (wholeB b)]) ∧ SliceB B w u (firstV b) ∧ ∃ m, w' = w.drewN m := by
  have HB : Hid (SliceB B w v b) := hb
  obtain ⟨a, cap, rfl, h1, h2, hn, h3⟩ := hb
  unfold maxLen at h2
  clear hn
  have H3 : Hid (BytesAt B w a b) := h3
  clear h3
  by_cases h4 : b.length < 4
  · have hw : wholeB b = false := by simp [wholeB]; omega
    have HV : Hid (firstV b = []) := by show _ = _; simp [firstV, hw]
    rw [hw]
    clear hw
    go_enter Try.func49, Try.ntmps49
    go_wp2
    exact bodyPost_ret (v := .tuple #[.slice none 0 0, .bool false]) (by simp [results, Try.results49, go_sem, *]) rfl ⟨_, rfl, by rw [HV.out]; exact SliceB.nil _ _, 0, rfl⟩
  obtain ⟨N, hN⟩ : ∃ N, N = pairN b := ⟨_, rfl⟩
  have HN : Hid (N = pairN b) := hN
  have hNb : N < 65536 := by
    rw [hN]
    unfold pairN byteAt
    have := (b.getD 0 0).toNat_lt
    have := (b.getD 1 0).toNat_lt
    omega
  by_cases h5 : b.length < N + 4
  · have hw : wholeB b = false := by simp [wholeB, ← hN]; omega
    have HV : Hid (firstV b = []) := by show _ = _; simp [firstV, hw]
    rw [hw]
    clear hw hN
    have hg : decide ((b.length : Int) < 2 + (N : Int) + 2) = true := by simp; omega
    go_enter Try.func49, Try.ntmps49
    go_wp2_with (go_at_call 58; refine (pair_any B _ b _ HB.out (by omega)).mono ?_; rw [← HN.out]; rintro e w1 ⟨rfl, m, rfl⟩)
    go_quiet (fail)
    go_wp2
    exact bodyPost_ret (v := .tuple #[.slice none 0 0, .bool false]) (by simp [results, Try.results49, go_sem, *]) rfl ⟨_, rfl, by rw [HV.out]; exact SliceB.nil _ _, _, World.drewN_drewN _ _ _⟩
  obtain ⟨g, off, rfl, -, -⟩ := H3.out 0 (by omega)
  clear H3
  have hl2 : (b.drop (2 + N)).length = b.length - (2 + N) := by simp
  obtain ⟨M, hM⟩ : ∃ M, M = pairN (b.drop (2 + N)) := ⟨_, rfl⟩
  obtain ⟨S, hS⟩ : ∃ S, S = sumF (b.take (2 + N)) := ⟨_, rfl⟩
  have HM : Hid (M = pairN (b.drop (2 + N))) := hM
  have HS : Hid (S = sumF (b.take (2 + N))) := hS
  have hw : wholeB b = (M == S) := by
    unfold wholeB
    rw [← hN, ← hM, ← hS]
    simp [show 4 ≤ b.length by omega, show N + 4 ≤ b.length by omega]
  have HV : Hid (firstV b = if M = S then (b.take (2 + N)).drop 2 else []) := by
    show _ = _
    rw [firstV, hw, firstB, ← hN]; simp
  rw [hw]
  clear hw hN hM hS
  have hg : decide ((b.length : Int) < 2 + (N : Int) + 2) = false := by simp; omega
  have hc1 : ¬ (cap : Int) = 2 + (N : Int) := by omega
  have hc2 : (2 : Int) + (N : Int) ≤ (cap : Int) := by omega
  have hc3 : (2 : Int) + (N : Int) ≤ (b.length : Int) := by omega
  have hc4 : ¬ (cap : Int) = 2 := by omega
  have HD : ∀ m, SliceB B (w.drewN m) (.slice (some ⟨g, off + (2 + N), none⟩) (b.length - (2 + N)) (cap - (2 + N))) (b.drop (2 + N)) := fun m => by have := slice_drop (HB.out.drewN m) (2 + N) (by omega); simpa only [Option.map_some, add_none] using this
  have HT := fun m => (slice_take (HB.out.drewN m) (2 + N) (by omega))
  have HF : Hid (SliceB B w (.slice (some ⟨g, off + 2, none⟩) (2 + N - 2) (cap - 2)) ((b.take (2 + N)).drop 2)) := by have := slice_drop (slice_take HB.out (2 + N) (by omega)) 2 (by omega); show SliceB _ _ _ _; simpa only [Option.map_some, add_none] using this
  go_enter Try.func49, Try.ntmps49
  go_wp2_with (go_at_call 58; refine (pair_any B _ b _ HB.out (by omega)).mono ?_; rw [← HN.out]; rintro e w1 ⟨rfl, m, rfl⟩)
  go_quiet ((first
    | (go_at_call 58; refine (pair_any B _ (b.drop (2 + N)) _ (HD _) (by simp; omega)).mono ?_; rw [← HM.out]; rintro e w2 ⟨rfl, k, rfl⟩; exact ⟨rfl, _, by rw [World.drewN_drewN, Nat.add_assoc]⟩)
    | (go_at_call 20; refine (sum_any B _ (b.take (2 + N)) _ (HT _)).mono ?_; rw [← HS.out]; rintro e w2 ⟨rfl, rfl⟩; exact ⟨rfl, _, rfl⟩)))
  go_wp2
  · have hms : M ≠ S := fun e => by
      have : ((M : Int) != S) = true := by assumption
      subst e
      simp at this
    have hf : (M == S) = false := by simpa using hms
    rw [hf]
    refine bodyPost_ret (v := .tuple #[.slice none 0 0, .bool false]) (by simp [results, Try.results49, go_sem]) rfl ⟨_, rfl, ?_, _, World.drewN_drewN _ _ _⟩
    rw [HV.out, if_neg hms]
    exact SliceB.nil _ _
  · have hms : M = S := by
      have : ((M : Int) != S) = false := by assumption
      simp at this
      omega
    subst hms
    have hf : (M == M) = true := by simp
    rw [hf]
    refine bodyPost_ret (v := .tuple #[.slice (some ⟨g, off + 2, none⟩) (2 + N - 2) (cap - 2), .bool true]) (by simp [results, Try.results49, go_sem]) rfl ⟨_, rfl, ?_, _, rfl⟩
    rw [HV.out, if_pos rfl]
    exact HF.out
end Go.Proofs.Ytdfledgcpceckaa
