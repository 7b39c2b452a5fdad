/-
  tgref1.Get, and the two closures of tgref1.Parse.
-/
import Derived.Test.YtnfmidbbelgldaaRefLeaf
import Derived.Deep.QuietTactic
import Derived.BigQuiet
namespace Go.Proofs.Ytnfmidbbelgldaa
open Go.RowKit
set_option linter.unusedVariables false
set_option linter.unusedSimpArgs false

set_option maxHeartbeats 400000 in
theorem refGet_any (v : Value) (bs : List UInt8) (B : Nat) (w : World) (hv : SliceB B w v bs) (h4 : 4 ≤ bs.length) :
    Calls Try.prog 37 #[v] w fun e w' => e = .returned (.int .i64 (int32 (valB (bs.take 4)))) ∧ w' = w := by
  obtain ⟨a, cap, rfl, hc, hm, -, hby⟩ := hv
  unfold maxLen at hm
  go_enter Try.func37, Try.ntmps37
  go_wp2
  go_loop [3, 5] (fun u i => ∃ k : Nat, k ≤ 4 ∧ i = .int .i64 k ∧ u = .int .u32 (valB (bs.take k))) (fun _ i => 4 - (intOf i).toNat)
  case atStart => exact ⟨0, by omega, rfl, rfl⟩
  case round =>
    obtain ⟨k, hk, rfl, rfl⟩ := hrel
    by_cases hlt : k < 4
    · obtain ⟨b, off, rfl, hb, hcell⟩ := hby k (by omega)
      obtain ⟨c, hc'⟩ : ∃ c, c = bs[k] := ⟨_, rfl⟩
      rw [← hc'] at hcell
      obtain ⟨c0, c1⟩ := u8_bounds c
      have HC : Hid (c = bs[k]) := hc'
      clear hc'
      have hvb : (valB (bs.take k) : Int) ≤ 16777215 := valB_lt3 _ (by simp; omega)
      go_wp2
      go_round
      case rel => exact ⟨k + 1, by omega, by go_num, by rw [valB_take bs k (by omega), ← HC.out]; go_num⟩
      case measure => simp [intOf]; omega
    · have e : k = 4 := by omega
      subst e
      have hW : Hid (wrap64 (wrap32 (valB (bs.take 4))) = int32 (valB (bs.take 4))) := wrap_int32 _ (valB_lt4 _ (by simp; omega))
      go_wp2
      go_ret
      exact ⟨ret_i64 hW.out, rfl⟩

set_option maxHeartbeats 400000 in
theorem refNo_any (c : Int) (w : World) :
    Calls Try.prog 58 #[.int .i64 c] w fun e w' => e = .returned (.tuple #[.agg #[.slice none 0 0, .slice none 0 0], .int .i64 0, .int .i64 c]) ∧ Below w.heap.size w w' := by
  go_enter Try.func58, Try.ntmps58
  go_wp2
  exact bodyPost_ret (v := .tuple #[.agg #[.slice none 0 0, .slice none 0 0], .int .i64 0, .int .i64 c]) (by simp [results, Try.results58, go_sem]) rfl ⟨rfl, below_alloc _ _⟩

theorem slice_mid {B : Nat} {w : World} {a : Option Addr} {c : Nat} {b : List UInt8} (h : SliceB B w (.slice a b.length c) b) (i n : Nat) (hi : i + n ≤ b.length) (hc : i < c) : SliceB B w (.slice (a.map (fun x => x.add i)) n (c - i)) ((b.drop i).take n) := by
  obtain ⟨a', c', e, h1, h2, h3, h4⟩ := h
  simp only [Value.slice.injEq] at e
  obtain ⟨rfl, -, rfl⟩ := e
  have h1' := h1
  have hl : ((b.drop i).take n).length = n := by simp; omega
  refine ⟨a.map (fun x => x.add i), c - i, by rw [hl], by rw [hl]; omega, by unfold maxLen at *; omega, fun e => ?_, bytes_take (bytes_drop h4 i) n⟩
  have := h3 (by simpa using e)
  omega

set_option maxHeartbeats 1000000 in
theorem refTxt_no1 (A Bb S p : Nat) (ba : Option Addr) (bc n : Nat) (x : Value) (w : World) (hA : w.cell? ⟨A, 0, none⟩ = some (.int .i64 p)) (hB : w.cell? ⟨Bb, 0, none⟩ = some (.slice ba n bc)) (hS : w.cell? ⟨S, 0, none⟩ = some x) (fS : w.frozen? ⟨S, 0, none⟩ = false) (hp : n ≤ p) :
    Calls Try.prog 59 #[.pointer (some ⟨A, 0, none⟩), .pointer (some ⟨Bb, 0, none⟩), .pointer (some ⟨S, 0, none⟩)] w fun e w' => e = .returned (.string ⟨#[]⟩) ∧ ∃ k, w' = (w.setCell ⟨S, 0, none⟩ (.bool true)).drewN k := by
  have hp' : (n : Int) ≤ (p : Int) := by omega
  go_enter Try.func59, Try.ntmps59
  go_wp2_with fail
  go_quiet (fail)
  go_wp2
  go_ret
  exact ⟨rfl, nq, rfl⟩

set_option maxHeartbeats 1000000 in
theorem refTxt_no2 (A Bb S p : Nat) (ba : Option Addr) (bc : Nat) (bs : List UInt8) (x : Value) (w : World) (hA : w.cell? ⟨A, 0, none⟩ = some (.int .i64 p)) (hB : w.cell? ⟨Bb, 0, none⟩ = some (.slice ba bs.length bc)) (hS : w.cell? ⟨S, 0, none⟩ = some x) (fS : w.frozen? ⟨S, 0, none⟩ = false) (B0 : Nat) (hb : SliceB B0 w (.slice ba bs.length bc) bs) (hp : p < bs.length) (hbl : bs.length ≤ 140737488351232) (hm : bs.length < p + 1 + (bs[p]).toNat) :
    Calls Try.prog 59 #[.pointer (some ⟨A, 0, none⟩), .pointer (some ⟨Bb, 0, none⟩), .pointer (some ⟨S, 0, none⟩)] w fun e w' => e = .returned (.string ⟨#[]⟩) ∧ ∃ k, w' = (w.setCell ⟨S, 0, none⟩ (.bool true)).drewN k := by
  obtain ⟨_, _, e, hc, hmx, hn, hby⟩ := hb
  simp only [Value.slice.injEq] at e
  obtain ⟨rfl, -, rfl⟩ := e
  obtain ⟨b, off, rfl, _, hcell⟩ := hby p hp
  obtain ⟨c, hcc⟩ : ∃ c, c = bs[p] := ⟨_, rfl⟩
  rw [← hcc] at hcell hm
  obtain ⟨c0, c1⟩ := u8_bounds c
  clear hn hcc
  unfold maxLen at hmx
  have hp1 : (p : Int) < (bs.length : Int) := by omega
  have hd : decide ((bs.length : Int) ≤ (p : Int)) = false := by simp; omega
  have w1 : IntKind.i64.wrap ((p : Int) + 1) = (p : Int) + 1 := by rw [IntKind.wrap_i64]; omega
  have w2 : IntKind.i64.wrap (c.toNat : Int) = (c.toNat : Int) := by rw [IntKind.wrap_i64]; omega
  have w3 : IntKind.i64.wrap ((p : Int) + 1 + (c.toNat : Int)) = (p : Int) + 1 + (c.toNat : Int) := by rw [IntKind.wrap_i64]; omega
  go_enter Try.func59, Try.ntmps59
  go_wp2_with fail
  go_quiet (fail)
  go_wp2
  go_ret
  exact ⟨rfl, nq, rfl⟩

set_option maxHeartbeats 2000000 in
theorem refTxt_yes (A Bb S p : Nat) (ba : Option Addr) (bc : Nat) (bs : List UInt8) (w : World) (hA : w.cell? ⟨A, 0, none⟩ = some (.int .i64 p)) (fA : w.frozen? ⟨A, 0, none⟩ = false) (hB : w.cell? ⟨Bb, 0, none⟩ = some (.slice ba bs.length bc)) (hAB : A ≠ Bb) (B0 : Nat) (hA0 : B0 ≤ A) (hb : SliceB B0 w (.slice ba bs.length bc) bs) (hp : p < bs.length) (hbl : bs.length ≤ 140737488351232) (hm : p + 1 + (bs[p]).toNat ≤ bs.length) :
    Calls Try.prog 59 #[.pointer (some ⟨A, 0, none⟩), .pointer (some ⟨Bb, 0, none⟩), .pointer (some ⟨S, 0, none⟩)] w fun e w' => e = .returned (.string (bstr ((bs.drop (p + 1)).take (bs[p]).toNat))) ∧ ∃ k, w' = (w.setCell ⟨A, 0, none⟩ (.int .i64 (p + 1 + (bs[p]).toNat : Nat))).drewN k := by
  have hb' := hb
  obtain ⟨_, _, e, hc, hmx, hn, hby⟩ := hb'
  simp only [Value.slice.injEq] at e
  obtain ⟨rfl, -, rfl⟩ := e
  obtain ⟨b, off, rfl, hlt0, hcell⟩ := hby p hp
  obtain ⟨c, hcc⟩ : ∃ c, c = bs[p] := ⟨_, rfl⟩
  rw [← hcc] at hcell hm ⊢
  obtain ⟨c0, c1⟩ := u8_bounds c
  clear hn hcc hby
  unfold maxLen at hmx
  have hp1 : (p : Int) < (bs.length : Int) := by omega
  have hd : decide ((bs.length : Int) ≤ (p : Int)) = false := by simp; omega
  have w1 : IntKind.i64.wrap ((p : Int) + 1) = (p : Int) + 1 := by rw [IntKind.wrap_i64]; omega
  have w2 : IntKind.i64.wrap (c.toNat : Int) = (c.toNat : Int) := by rw [IntKind.wrap_i64]; omega
  have w3 : IntKind.i64.wrap ((p : Int) + 1 + (c.toNat : Int)) = (p : Int) + 1 + (c.toNat : Int) := by rw [IntKind.wrap_i64]; omega
  have hbA : ¬ b = A := by omega
  have e1 : ((p + 1 + c.toNat : Nat) : Int) = (p : Int) + 1 + (c.toNat : Int) := by omega
  have HC : Hid (∀ k, SliceB B0 ((w.drewN k).setCell ⟨A, 0, none⟩ (.int .i64 ((p : Int) + 1 + (c.toNat : Int)))) (.slice (some ⟨b, off, none⟩) bs.length bc) bs) := fun k => hb.same (fun j hj => Below.heap_setCell (w.drewN k) _ _ _ (by simp; omega))
  rw [e1]
  by_cases hbc : bc = p + 1
  · subst hbc
    have hc0 : c.toNat = 0 := by omega
    have hcv : ∀ k, (convert 23 9 (.slice (some ⟨b, off, none⟩) c.toNat 0)).run Try.prog ((w.drewN k).setCell ⟨A, 0, none⟩ (.int .i64 ((p : Int) + 1 + (c.toNat : Int)))) = .ok (.string (bstr ((bs.drop (p + 1)).take c.toNat))) ((w.drewN k).setCell ⟨A, 0, none⟩ (.int .i64 ((p : Int) + 1 + (c.toNat : Int)))) := fun k => by
      refine conv_str (B := B0) ⟨some ⟨b, off, none⟩, 0, ?_, ?_, by simp [maxLen], fun _ => rfl, fun i hi => ?_⟩
      · simp [hc0]
      · simp [hc0]
      · simp [hc0] at hi
    clear hc0
    go_enter Try.func59, Try.ntmps59
    go_wp2_with fail
    go_quiet (fail)
    go_wp2
    go_ret
    exact ⟨rfl, nq, rfl⟩
  · have hcv : ∀ k, (convert 23 9 (.slice (some ⟨b, off + (p + 1), none⟩) c.toNat (bc - (p + 1)))).run Try.prog ((w.drewN k).setCell ⟨A, 0, none⟩ (.int .i64 ((p : Int) + 1 + (c.toNat : Int)))) = .ok (.string (bstr ((bs.drop (p + 1)).take c.toNat))) ((w.drewN k).setCell ⟨A, 0, none⟩ (.int .i64 ((p : Int) + 1 + (c.toNat : Int)))) := fun k => by
      have := conv_str (slice_mid (HC.out k) (p + 1) c.toNat (by omega) (by omega))
      simpa [add_none] using this
    go_enter Try.func59, Try.ntmps59
    go_wp2_with fail
    go_quiet (fail)
    go_wp2
    go_ret
    exact ⟨rfl, nq, rfl⟩
end Go.Proofs.Ytnfmidbbelgldaa
