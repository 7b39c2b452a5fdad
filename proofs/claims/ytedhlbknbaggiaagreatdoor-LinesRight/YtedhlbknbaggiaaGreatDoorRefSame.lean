/-
  tgref1.Same tells whether two notes read the same.
-/
import Derived.Test.YtedhlbknbaggiaaGreatDoorLnRightCardM06
namespace Go.Proofs.YtedhlbknbaggiaaGreatDoor
open Go.RowKit Classical
set_option linter.unusedVariables false
set_option linter.unusedSimpArgs false

set_option maxRecDepth 100000 in
set_option maxHeartbeats 2000000 in
theorem refSame_any (v u v' u' : Value) (ps qs : List PD) (x y : List UInt8) (w : World) (hv : SliceP w.heap.size w v ps) (hu : SliceB w.heap.size w u x) (hv' : SliceP w.heap.size w v' qs) (hu' : SliceB w.heap.size w u' y) :
    Calls Tryz.prog 60 #[.agg #[v, u], .agg #[v', u']] w fun e w' => e = .returned (.bool (decide (ps = qs ∧ x = y))) ∧ Below w.heap.size w w' := by
  have hcx := fun o1 o2 => conv_str ((hu.below (below_alloc w o1)).below (below_alloc (w.alloc o1) o2))
  have hcy := fun o1 o2 => conv_str ((hu'.below (below_alloc w o1)).below (below_alloc (w.alloc o1) o2))
  obtain ⟨va, vc, rfl, v1, v2, v3, v4⟩ := hv
  obtain ⟨ua, uc, rfl, -⟩ := hu
  obtain ⟨xa, xc, rfl, x1, x2, x3, x4⟩ := hv'
  obtain ⟨ya, yc, rfl, -⟩ := hu'
  have hpl : ps.length ≤ 9223372036854775807 := by unfold maxLen at v2; omega
  have hql : qs.length ≤ 9223372036854775807 := by unfold maxLen at x2; omega
  clear v1 v2 v3 x1 x2 x3
  have two : ∀ o1 o2 : Obj, Below w.heap.size w ((w.alloc o1).alloc o2) := fun o1 o2 => (below_alloc _ _).alloc (by simp) _
  by_cases hl : ps.length = qs.length
  case neg =>
    have hl' : ((ps.length : Int) == qs.length) = false := by simp; omega
    clear hcx hcy
    go_enter Tryz.func60, Tryz.ntmps60
    go_wp2
    go_ret
    exact ⟨ret_bool (by symm; simp; intro e; exact absurd (by rw [e]) hl), two _ _⟩
  rw [← hl]
  have HLN : Hid (ps.length = qs.length) := hl
  clear hl hql
  cases hxy : (x == y) with
  | false =>
    have hb : ((bstr x).toList == (bstr y).toList) = false := by rw [bstr_toList, bstr_toList]; exact hxy
    have hne : ¬ x = y := by simpa using hxy
    go_enter Tryz.func60, Tryz.ntmps60
    go_wp2
    go_ret
    exact ⟨ret_bool (by symm; simp; intro _; exact hne), two _ _⟩
  | true =>
    have hb : ((bstr x).toList == (bstr y).toList) = true := by rw [bstr_toList, bstr_toList]; exact hxy
    have hxe : x = y := by simpa using hxy
    have HXE : Hid (x = y) := hxe
    clear hxe hxy
    have V4 : Hid (PropsAt w.heap.size w va ps) := v4
    have X4 : Hid (PropsAt w.heap.size w xa qs) := x4
    clear v4 x4
    go_enter Tryz.func60, Tryz.ntmps60
    go_wp2
    go_loopw [25] (fun i wr => ∃ k : Nat, k ≤ ps.length ∧ i = .int .i64 k ∧ (∃ n, wr = ((w.alloc (.cells #[.slice va ps.length vc, .slice ua x.length uc] 25)).alloc (.cells #[.slice xa ps.length xc, .slice ya y.length yc] 25)).drewN n) ∧ ps.take k = qs.take k) (fun i _ => ps.length - (intOf i).toNat)
    case atStart => exact ⟨0, Nat.zero_le _, rfl, ⟨0, rfl⟩, rfl⟩
    case round =>
      obtain ⟨k, hk, rfl, ⟨n, rfl⟩, htk⟩ := hrel
      have HT : Hid (ps.take k = qs.take k) := htk
      clear htk
      by_cases hlt : k < ps.length
      · obtain ⟨b1, o1, e1, _, c0, c1, c2, c3⟩ := (V4.out.same (two (.cells #[.slice va ps.length vc, .slice ua x.length uc] 25) (.cells #[.slice xa ps.length xc, .slice ya y.length yc] 25)).block) k hlt
        obtain ⟨b2, o2, e2, _, d0, d1, d2, d3⟩ := (X4.out.same (two (.cells #[.slice va ps.length vc, .slice ua x.length uc] 25) (.cells #[.slice xa ps.length xc, .slice ya y.length yc] 25)).block) k (by have := HLN.out; omega)
        subst e1 e2
        obtain ⟨p, hp⟩ : ∃ p, p = ps[k] := ⟨_, rfl⟩
        obtain ⟨q, hq⟩ : ∃ q, q = qs[k] := ⟨_, rfl⟩
        rw [← hp] at c0 c1 c2 c3
        rw [← hq] at d0 d1 d2 d3
        have HP : Hid (p = ps[k]) := hp
        have HQ : Hid (q = qs[k]) := hq
        clear hp hq
        have hk1 : (k : Int) < (ps.length : Int) := by omega
        have hk2 : Hid (k < qs.length) := by show k < qs.length; have := HLN.out; omega
        by_cases hpq : p = q
        · have hne : ∀ W, (binOp .neq 36 (.agg #[.string p.key, .int .i64 p.kind, .int .i64 p.n, .string p.text]) (.agg #[.string q.key, .int .i64 q.kind, .int .i64 q.n, .string q.text])).run Tryz.prog W = .ok (.bool false) W := fun W => by
            rw [prop_neq]; subst hpq; simp
          have HE : Hid (p = q) := hpq
          clear hpq
          go_wp2_with fail
          go_quiet (fail)
          go_wp2
          go_roundw
          case rel =>
            refine ⟨k + 1, by omega, by go_num, ⟨_, rfl⟩, ?_⟩
            rw [List.take_succ_eq_append_getElem hlt, List.take_succ_eq_append_getElem hk2.out, HT.out, ← HP.out, ← HQ.out, HE.out]
          case measure => simp [intOf]; omega
        · have hne : ∀ W, (binOp .neq 36 (.agg #[.string p.key, .int .i64 p.kind, .int .i64 p.n, .string p.text]) (.agg #[.string q.key, .int .i64 q.kind, .int .i64 q.n, .string q.text])).run Tryz.prog W = .ok (.bool true) W := fun W => by
            rw [prop_neq]; congr 2; exact decide_eq_true hpq
          have HE : Hid (¬ p = q) := hpq
          clear hpq
          go_wp2_with fail
          go_quiet (fail)
          go_wp2
          go_ret
          refine ⟨ret_bool ?_, ?_⟩
          · symm; simp; intro e; subst e; exact absurd (HP.out.trans HQ.out.symm) HE.out
          · rw [World.drewN_drewN]; exact below_drewN (two _ _) _
      · go_wp2
        go_ret
        refine ⟨ret_bool ?_, below_drewN (two _ _) _⟩
        have e : k = ps.length := by omega
        have h := HT.out
        rw [e, List.take_of_length_le (Nat.le_refl _), HLN.out, List.take_of_length_le (Nat.le_refl _)] at h
        symm; simp; exact ⟨h, HXE.out⟩
end Go.Proofs.YtedhlbknbaggiaaGreatDoor
