/-
  bytes.Equal, and slices.Equal at api.Prop, tell whether two slices read the same.
-/
import Derived.Test.YtplfcabkhpchdaaParse
import Derived.Deep.QuietTactic
import Derived.BigQuiet
import Derived.Laws.StructEq
namespace Go.Proofs.Ytplfcabkhpchdaa
open Go.RowKit
set_option linter.unusedVariables false
set_option linter.unusedSimpArgs false

theorem bstr_toList (a : List UInt8) : (bstr a).toList = a := by rw [ByteArray.toList_eq]; rfl

set_option maxHeartbeats 400000 in
theorem bytesEqual_any (a b : List UInt8) (va vb : Value) (B B' : Nat) (w : World) (ha : SliceB B w va a) (hb : SliceB B' w vb b) :
    Calls Try.prog 19 #[va, vb] w fun e w' => e = .returned (.bool (decide (a = b))) ∧ w' = w := by
  have h1 := conv_str ha
  have h2 := conv_str hb
  obtain ⟨aa, ca, rfl, _⟩ := ha
  obtain ⟨ab, cb, rfl, _⟩ := hb
  go_enter Try.func19, Try.ntmps19
  go_wp2
  go_ret
  refine ⟨ret_bool ?_, rfl⟩
  rw [bstr_toList, bstr_toList]
  by_cases h : a = b <;> simp [h]

open Classical

theorem fields38 : Try.prog.underlying 38 = some (.struct (Try.prog.fieldsOf 38)) := by kernel_rfl
theorem held38 : Try.prog.stoodInHeld 38 = false := by kernel_rfl

theorem ba_toList {a b : ByteArray} : a.toList = b.toList ↔ a = b := by
  rw [ByteArray.toList_eq, ByteArray.toList_eq]
  constructor
  · intro h
    obtain ⟨⟨x⟩⟩ := a
    obtain ⟨⟨y⟩⟩ := b
    simp only at h
    rw [h]
  · intro h; rw [h]

theorem prop_neq (k1 : ByteArray) (a1 b1 : Int) (t1 : ByteArray) (k2 : ByteArray) (a2 b2 : Int) (t2 : ByteArray) (w : World) :
    (binOp .neq 38 (.agg #[.string k1, .int .i64 a1, .int .i64 b1, .string t1]) (.agg #[.string k2, .int .i64 a2, .int .i64 b2, .string t2])).run Try.prog w = .ok (.bool (decide ((⟨k1, a1, b1, t1⟩ : PD) ≠ ⟨k2, a2, b2, t2⟩))) w := by
  rw [run_neq_struct, run_equalIn_agg w _ 38 _ _ fields38 held38]
  have hf : (Try.prog.fieldsOf 38).toList = [{ name := "Key", type := 9, offset := 0, embedded := false, tag := "", pkgPath := "", byteOffset := 0 },
        { name := "Kind", type := 3, offset := 1, embedded := false, tag := "", pkgPath := "", byteOffset := 16 },
        { name := "N", type := 3, offset := 2, embedded := false, tag := "", pkgPath := "", byteOffset := 24 },
        { name := "Text", type := 9, offset := 3, embedded := false, tag := "", pkgPath := "", byteOffset := 32 }] := by
    rw [Program.fieldsOf, Try.underlying38]
  rw [hf]
  by_cases e1 : k1 = k2
  · subst e1
    by_cases e2 : a1 = a2
    · subst e2
      by_cases e3 : b1 = b2
      · subst e3
        by_cases e4 : t1 = t2
        · subst e4
          simp [go_sem]
        · have e4' : ¬ t1.toList = t2.toList := fun h => e4 (ba_toList.1 h)
          simp [go_sem, e4, e4']
      · simp [go_sem, e3]
    · simp [go_sem, e2]
  · have e1' : ¬ k1.toList = k2.toList := fun h => e1 (ba_toList.1 h)
    simp [go_sem, e1, e1']

set_option maxHeartbeats 1000000 in
theorem propsEqual_any (a b : Option Addr) (ca cb : Nat) (ps qs : List PD) (B B' : Nat) (w : World) (ha : PropsAt B w a ps) (hb : PropsAt B' w b qs) (hpl : ps.length ≤ maxLen) (hql : qs.length ≤ maxLen) :
    Calls Try.prog 18 #[.slice a ps.length ca, .slice b qs.length cb] w fun e w' => e = .returned (.bool (decide (ps = qs))) ∧ Below w.heap.size w w' := by
  unfold maxLen at hpl hql
  by_cases hl : ps.length = qs.length
  case neg =>
    have hl' : ((ps.length : Int) == qs.length) = false := by simp; omega
    go_enter Try.func18, Try.ntmps18
    go_wp2
    go_ret
    exact ⟨ret_bool (by symm; simp; intro e; exact hl (by rw [e])), Below.refl _ _⟩
  go_enter Try.func18, Try.ntmps18
  go_wp2
  go_loopw [13] (fun i wr => ∃ k : Nat, k ≤ ps.length ∧ i = .int .i64 k ∧ (∃ n, wr = w.drewN n) ∧ ps.take k = qs.take k) (fun i _ => ps.length - (intOf i).toNat)
  case atStart => exact ⟨0, Nat.zero_le _, rfl, ⟨0, rfl⟩, rfl⟩
  case round =>
    obtain ⟨k, hk, rfl, ⟨n, rfl⟩, htk⟩ := hrel
    have HT : Hid (ps.take k = qs.take k) := htk
    clear htk
    by_cases hlt : k < ps.length
    · obtain ⟨b1, o1, rfl, _, c0, c1, c2, c3⟩ := ha k hlt
      obtain ⟨b2, o2, rfl, _, d0, d1, d2, d3⟩ := hb k (by omega)
      obtain ⟨p, hp⟩ : ∃ p, p = ps[k] := ⟨_, rfl⟩
      obtain ⟨q, hq⟩ : ∃ q, q = qs[k] := ⟨_, rfl⟩
      rw [← hp] at c0 c1 c2 c3
      rw [← hq] at d0 d1 d2 d3
      have HP : Hid (p = ps[k]) := hp
      have HQ : Hid (q = qs[k]) := hq
      clear hp hq
      have hk1 : (k : Int) < (ps.length : Int) := by omega
      have hk2 : (k : Int) < (qs.length : Int) := by omega
      by_cases hpq : p = q
      · have hne : ∀ W, (binOp .neq 38 (.agg #[.string p.key, .int .i64 p.kind, .int .i64 p.n, .string p.text]) (.agg #[.string q.key, .int .i64 q.kind, .int .i64 q.n, .string q.text])).run Try.prog W = .ok (.bool false) W := fun W => by
          rw [prop_neq]; subst hpq; simp
        have HE : Hid (p = q) := hpq
        clear hpq
        go_wp2_with fail
        go_quiet (fail)
        go_wp2
        go_roundw
        case rel =>
          refine ⟨k + 1, by omega, by go_num, ⟨_, rfl⟩, ?_⟩
          rw [List.take_succ_eq_append_getElem hlt, List.take_succ_eq_append_getElem (by omega : k < qs.length), HT.out, ← HP.out, ← HQ.out, HE.out]
        case measure => simp [intOf]; omega
      · have hne : ∀ W, (binOp .neq 38 (.agg #[.string p.key, .int .i64 p.kind, .int .i64 p.n, .string p.text]) (.agg #[.string q.key, .int .i64 q.kind, .int .i64 q.n, .string q.text])).run Try.prog W = .ok (.bool true) W := fun W => by
          rw [prop_neq]; congr 2; exact decide_eq_true hpq
        have HE : Hid (¬ p = q) := hpq
        clear hpq
        go_wp2_with fail
        go_quiet (fail)
        go_wp2
        go_ret
        refine ⟨ret_bool ?_, ?_⟩
        · symm; simp; intro e; subst e; exact HE.out (HP.out.trans HQ.out.symm)
        · rw [World.drewN_drewN]; exact below_drewN (Below.refl _ _) _
    · go_wp2
      go_ret
      refine ⟨ret_bool ?_, below_drewN (Below.refl _ _) _⟩
      have e : k = ps.length := by omega
      have h := HT.out
      rw [e, List.take_of_length_le (Nat.le_refl _), hl, List.take_of_length_le (Nat.le_refl _)] at h
      symm; simpa using h
end Go.Proofs.Ytplfcabkhpchdaa
