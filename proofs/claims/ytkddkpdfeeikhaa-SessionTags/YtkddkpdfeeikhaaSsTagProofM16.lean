/-
  SrFrame; SrRead; SrRecs; SrLog: texts laid together.
-/
import Derived.Test.YtkddkpdfeeikhaaSsTagProofM15
import Derived.BigQuiet
import Derived.Deep.RegionHeld3
import Derived.Deep.RegionLaw
import Derived.Deep.DrawnRows
/-
  store.Sum, appendPair, appendFrame, copied and Frame answer what sumF, pairB and frameB say.
-/
namespace Go.Proofs.Ytkddkpdfeeikhaa.SR
open Go.RowKit
set_option linter.unusedVariables false
set_option linter.unusedSimpArgs false

theorem sum_step (s : Nat) (c : UInt8) : (((s : Int) * 33 + c.toNat + 1) % 65521) = ((sumStep s c : Nat) : Int) := by unfold sumStep; omega

set_option maxHeartbeats 400000 in
theorem sum_any (B : Nat) (v : Value) (b : List UInt8) (w : World) (hb : SliceB B w v b) :
    Calls Try.prog 106 #[v] w fun e w' => e = .returned (.int .i64 (sumF b)) ∧ w' = w := by
  obtain ⟨a, cap, rfl, h1, h2, hn, h3⟩ := hb
  unfold maxLen at h2
  clear hn
  go_enter Try.func106, Try.ntmps106
  go_wp2
  go_loop [3, 8] (fun s i => ∃ k : Nat, k ≤ b.length ∧ i = .int .i64 k ∧ s = .int .i64 (sumF (b.take k))) (fun _ i => b.length - (intOf i).toNat)
  case atStart => exact ⟨0, Nat.zero_le _, rfl, rfl⟩
  case round =>
    obtain ⟨k, hk, rfl, rfl⟩ := hrel
    by_cases hlt : k < b.length
    · obtain ⟨g, off, rfl, hg, hcell⟩ := h3 k hlt
      obtain ⟨c, hc⟩ : ∃ c, c = b[k] := ⟨_, rfl⟩
      rw [← hc] at hcell
      obtain ⟨c0, c1⟩ := u8_bounds c
      obtain ⟨s, hs⟩ : ∃ s, s = sumF (b.take k) := ⟨_, rfl⟩
      have hsl : (s : Int) ≤ 65520 := by have := sumF_lt (b.take k); omega
      rw [← hs]
      have HS : Hid (s = sumF (b.take k)) := hs
      have HC : Hid (c = b[k]) := hc
      clear hs hc
      go_wp2
      go_round
      case rel => exact ⟨k + 1, by omega, by go_num, by rw [sumF_take b k hlt, ← HS.out, ← HC.out, ← sum_step]⟩
      case measure => simp [intOf]; omega
    · go_wp2
      go_ret
      have e : k = b.length := by omega
      subst e
      exact ⟨ret_i64 (by rw [List.take_of_length_le (Nat.le_refl _)]), rfl⟩

theorem pair_cells (n : Nat) (h : n < 65536) : [Value.int IntKind.u8 ((n : Int) / 256), Value.int IntKind.u8 ((n : Int) % 256)] = u8s (pairB n) := by
  simp only [u8s, pairB, List.map_cons, List.map_nil]
  rw [byte_of _ (by omega), byte_of _ (by omega)]
  rfl

set_option maxHeartbeats 400000 in
theorem appendPair_any (base : Nat) (v : Value) (xs : List UInt8) (n : Nat) (w : World) (hown : w.ownsRow base 5 1 v xs.length (u8s xs)) (hb : base ≤ w.heap.size) (hx : xs.length ≤ 1000000) (hn : n < 65536) :
    Calls Try.prog 111 #[v, .int .i64 n] w fun e w' => ∃ ao cap, e = .returned (.slice ao (xs ++ pairB n).length cap) ∧ w'.ownsRow base 5 1 (.slice ao (xs ++ pairB n).length cap) (xs ++ pairB n).length (u8s (xs ++ pairB n)) ∧ w.grownBy w' v.ownBlock ∧ Moved w v (.slice ao (xs ++ pairB n).length cap) := by
  have hn' : (n : Int) ≤ 65535 := by omega
  go_enter Try.func111, Try.ntmps111
  go_wp2_with (
     (at_builtin; refine wpList_app rfl (.tmp 5) (.tmp 11) rfl base v xs.length (u8s xs) rfl (hown.alloc _) (w.heap.size + 1) _ (pairB n) rfl (new_bytes w (pairB n) _ (by simp [pairB, maxLen]) ?hcells) (by simp [pairB]; omega) (by simp; omega) ?_; rotate_left; intro ao cap w1 hown1 hg1 hm1))
  · go_ret
    have e1 : (xs ++ pairB n).length = xs.length + (pairB n).length := by simp
    rw [e1]
    refine ⟨_, _, rfl, ?_, moved_grown (World.grownBy_alloc _ _ _) (Moved.refl _ _) hg1, hm1.of (by simp)⟩
    rw [u8s_append]
    exact hown1
  · exact pair_cells n hn

/-- A slice from a place on. -/
theorem slice_drop {B : Nat} {w : World} {a : Option Addr} {c len : Nat} {b : List UInt8} (h : SliceB B w (.slice a len c) b) (k : Nat) (hk : k ≤ len) : SliceB B w (.slice (a.map (fun x => x.add k)) (len - k) (c - k)) (b.drop k) := by
  obtain ⟨a', c', e, h1, h2, h3, h4⟩ := h
  simp only [Value.slice.injEq] at e
  obtain ⟨rfl, rfl, rfl⟩ := e
  exact ⟨_, c - k, by simp, by simp; omega, by unfold maxLen at *; omega, fun e => by have := h3 (by simpa using e); omega, bytes_drop h4 k⟩
theorem own_cap {w : World} {base : Nat} {e : TypeId} {size : Nat} {ao : Option Addr} {n cap : Nat} {xs : List Value} (h : w.ownsRow base e size (.slice ao n cap) n xs) : n ≤ cap ∧ cap ≤ 9223372036854775807 := by
  obtain ⟨a, c, e, h1, h2, _⟩ := own_shape h
  simp only [Value.slice.injEq] at e
  obtain ⟨_, _, rfl⟩ := e
  unfold maxLen at h2
  exact ⟨h1, by omega⟩

theorem kept_row {B base : Nat} {w w' : World} {v u : Value} {n : Nat} {xs : List Value} {r : List UInt8} (hu : SliceB B w u r) (hB : B ≤ base) (hbw : base ≤ w.heap.size) (hown : w.ownsRow base 5 1 v n xs) (hg : w.grownBy w' v.ownBlock) : SliceB B w' u r :=
  hu.same (fun k hk => hg.block k (by omega) (fun e => by have := (hown.lt k e.symm).1; omega))

set_option maxHeartbeats 800000 in
theorem appendFrame_any (base : Nat) (v u : Value) (xs r : List UInt8) (w : World) (hown : w.ownsRow base 5 1 v xs.length (u8s xs)) (hb : base ≤ w.heap.size) (hx : xs.length ≤ 900000) (hu : SliceB base w u r) (hr : r.length < 65536) :
    Calls Try.prog 89 #[v, u] w fun e w' => ∃ ao cap, e = .returned (.slice ao (xs ++ frameB r).length cap) ∧ w'.ownsRow base 5 1 (.slice ao (xs ++ frameB r).length cap) (xs ++ frameB r).length (u8s (xs ++ frameB r)) ∧ w.grownBy w' v.ownBlock ∧ Moved w v (.slice ao (xs ++ frameB r).length cap) := by
  obtain ⟨va, vc, rfl, hv1, hv2, hv3⟩ := own_shape hown
  have HU : Hid (SliceB base w u r) := hu
  obtain ⟨ua, uc, rfl, u1, u2, -⟩ := hu
  unfold maxLen at u2 hv2
  clear hv3
  obtain ⟨S, hS⟩ : ∃ S, S = sumF (headB r) := ⟨_, rfl⟩
  obtain ⟨H, hH⟩ : ∃ H, H = headB r := ⟨_, rfl⟩
  obtain ⟨F, hF⟩ : ∃ F, F = frameB r := ⟨_, rfl⟩
  have hsl : S < 65521 := by rw [hS]; exact sumF_lt (headB r)
  have e0 : (xs ++ pairB r.length).length = xs.length + 2 := by simp [pairB]
  have E1 : Hid (u8s (xs ++ pairB r.length) ++ u8s r = u8s (xs ++ H)) := by show _ = _; simp [u8s, hH, headB]
  have E2 : Hid (xs.length + 2 + r.length = (xs ++ H).length) := by show _ = _; simp [hH, headB, pairB]; omega
  have E3 : Hid ((xs ++ H) ++ pairB S = xs ++ F) := by show _ = _; simp [hF, frameB, hH, hS]
  have E4 : Hid ((xs ++ H).drop xs.length = H) := by show _ = _; simp
  have E6 : Hid (sumF H = S) := by show _ = _; rw [hS, hH]
  have e5 : (xs ++ H).length = xs.length + 2 + r.length := E2.out.symm
  rw [← hF]
  clear hS hH hF
  have hlt : (xs.length : Int) ≤ (xs.length : Int) + 2 + r.length := by omega
  go_enter Try.func89, Try.ntmps89
  go_wp2_with (first
    | (go_at_call_of 111 va; refine (appendPair_any base _ xs r.length _ hown hb (by omega) (by omega)).mono ?_; rintro e w1 ⟨ao1, cap1, rfl, hown1, hg1, hm1⟩; rw [e0] at hown1 hm1 ⊢; have hz1 := hg1.size)
    | (at_builtin; refine wpList_app rfl (.tmp 12) (.tmp 13) rfl base _ (xs.length + 2) (u8s (xs ++ pairB r.length)) rfl hown1 base _ r rfl (kept_row HU.out (Nat.le_refl _) hb hown hg1) (by omega) (by omega) ?_; intro ao2 cap2 w2 hown2 hg2 hm2; rw [E1.out] at hown2; obtain ⟨hc2, hc2'⟩ := own_cap hown2; have hz2 := hg2.size; have hne2 : ¬ (cap2 : Int) = (xs.length : Int) := (by omega))
    | (go_at_call 106; refine (sum_any w2.heap.size _ H _ (by have := slice_drop (own_slice (bs := xs ++ H) (by rw [← E2.out]; exact hown2)) xs.length (by omega); rw [E4.out] at this; exact this)).mono ?_; rw [E6.out]; rintro e w3 ⟨rfl, rfl⟩)
    | (go_at_call_of 111 ao2; refine (appendPair_any base _ (xs ++ H) S _ (by rw [← E2.out]; exact hown2) (by omega) (by omega) (by omega)).mono ?_; rintro e w4 ⟨ao4, cap4, rfl, hown4, hg4, hm4⟩))
  go_ret
  rw [E3.out] at hown4 hm4
  have g1 := moved_grown hg1 hm1 hg2
  have m1 := hm1.trans hz1 hm2
  have hl : xs.length + (H.length + (pairB S).length) = (xs ++ F).length := by rw [← E3.out]; simp
  rw [hl]
  exact ⟨_, _, rfl, hown4, moved_grown g1 m1 hg4, m1.trans g1.size hm4⟩

set_option maxHeartbeats 400000 in
theorem copied_any (B : Nat) (u : Value) (b : List UInt8) (w : World) (hu : SliceB B w u b) (hb : b.length ≤ 140737488355328) :
    Calls Try.prog 83 #[u] w fun e w' => ∃ ao cap, e = .returned (.slice ao b.length cap) ∧ w'.ownsRow w.heap.size 5 1 (.slice ao b.length cap) b.length (u8s b) ∧ Below w.heap.size w w' := by
  go_enter Try.func83, Try.ntmps83
  go_wp2_with (
    (at_builtin; refine wpList_app rfl (.const (.slice none 0 0)) (.tmp 3) rfl w.heap.size _ 0 [] rfl (World.ownsRow_nil _ _ _ _) B _ b rfl hu (by omega) (Nat.le_refl _) ?_; intro ao2 cap2 w2 hown2 hg2 hm2))
  go_ret
  have e : 0 + b.length = b.length := Nat.zero_add _
  rw [e, List.nil_append] at hown2
  exact ⟨_, _, rfl, hown2, own_drop (World.ownsRow_nil _ _ _ _) (Nat.le_refl _) hg2⟩
end Go.Proofs.Ytkddkpdfeeikhaa.SR

/-
  store.pair and first read what pairN, wholeB and firstB say.
-/
namespace Go.Proofs.Ytkddkpdfeeikhaa.SR
open Go.RowKit
set_option linter.unusedVariables false
set_option linter.unusedSimpArgs false

/-- Two bytes of a slice that has them. -/
theorem SliceB.two {B : Nat} {w : World} {v : Value} {b : List UInt8} (h : SliceB B w v b) (hl : 2 ≤ b.length) :
    ∃ (g off cap : Nat) (c d : UInt8), v = .slice (some ⟨g, off, none⟩) b.length cap ∧ w.cell? ⟨g, off, none⟩ = some (.int .u8 c.toNat) ∧ w.cell? ⟨g, off + 1, none⟩ = some (.int .u8 d.toNat) ∧ pairN b = c.toNat * 256 + d.toNat ∧ b.length ≤ cap ∧ cap ≤ 9223372036854775807 := by
  obtain ⟨a, cap, rfl, h1, h2, _, h3⟩ := h
  obtain ⟨g, off, rfl, _, hc⟩ := h3 0 (by omega)
  obtain ⟨g', off', e, _, hd⟩ := h3 1 (by omega)
  simp only [Option.some.injEq, Addr.mk.injEq] at e
  obtain ⟨rfl, rfl, -⟩ := e
  refine ⟨g, off, cap, _, _, rfl, hc, hd, ?_, h1, by unfold maxLen at h2; omega⟩
  match b, hl with
  | x :: y :: t, _ => rfl

theorem SliceB.drewN {B : Nat} {w : World} {v : Value} {b : List UInt8} (h : SliceB B w v b) (m : Nat) : SliceB B (w.drewN m) v b := h.same (fun _ _ => by simp)

end Go.Proofs.Ytkddkpdfeeikhaa.SR

/-
  store.Records reads what recsF says of any bytes that are not too many: rows of slices, append to such a row.
-/
namespace Go.Proofs.Ytkddkpdfeeikhaa.SR
open Go.RowKit
set_option linter.unusedVariables false
set_option linter.unusedSimpArgs false

theorem info23 : (Try.prog.info? 26).map (fun i => (i.zero, i.size, i.bytes)) = some (some (.slice none 0 0), 1, 24) := by kernel_rfl

/-- A slice of values that are one cell each. -/
def SliceV (B : Nat) (w : World) (v : Value) (vs : List Value) : Prop :=
  ∃ a cap, v = .slice a vs.length cap ∧ vs.length ≤ cap ∧ cap ≤ maxLen ∧ (a = none → cap = 0) ∧ ∀ i (h : i < vs.length), ∃ b off, a = some ⟨b, off, none⟩ ∧ b < B ∧ w.cell? ⟨b, off + i, none⟩ = some vs[i]
/-- Slices, each of which reads as bytes. -/
def Each (B : Nat) (w : World) (vs : List Value) (rs : List (List UInt8)) : Prop :=
  vs.length = rs.length ∧ ∀ i (h : i < rs.length), ∃ u, vs[i]? = some u ∧ SliceB B w u rs[i]
/-- A slice of slices of bytes. -/
def SliceS (B : Nat) (w : World) (v : Value) (rs : List (List UInt8)) : Prop := ∃ vs, SliceV B w v vs ∧ Each B w vs rs

theorem SliceV.same {B : Nat} {w w' : World} {v : Value} {vs : List Value} (h : SliceV B w v vs) (hb : ∀ k, k < B → w'.heap[k]? = w.heap[k]?) : SliceV B w' v vs := by
  obtain ⟨a, cap, rfl, h1, h2, hn, h3⟩ := h
  refine ⟨a, cap, rfl, h1, h2, hn, fun i hi => ?_⟩
  obtain ⟨b, off, rfl, hlt, h0⟩ := h3 i hi
  exact ⟨b, off, rfl, hlt, (World.cell?_of_block (hb b hlt)).trans h0⟩
theorem SliceV.mono {B B' : Nat} {w : World} {v : Value} {vs : List Value} (h : SliceV B w v vs) (hb : B ≤ B') : SliceV B' w v vs := by
  obtain ⟨a, cap, rfl, h1, h2, hn, h3⟩ := h
  refine ⟨a, cap, rfl, h1, h2, hn, fun i hi => ?_⟩
  obtain ⟨b, off, rfl, hlt, h0⟩ := h3 i hi
  exact ⟨b, off, rfl, by omega, h0⟩
theorem Each.same {B : Nat} {w w' : World} {vs : List Value} {rs : List (List UInt8)} (h : Each B w vs rs) (hb : ∀ k, k < B → w'.heap[k]? = w.heap[k]?) : Each B w' vs rs :=
  ⟨h.1, fun i hi => by obtain ⟨u, e, hu⟩ := h.2 i hi; exact ⟨u, e, hu.same hb⟩⟩
theorem Each.mono {B B' : Nat} {w : World} {vs : List Value} {rs : List (List UInt8)} (h : Each B w vs rs) (hb : B ≤ B') : Each B' w vs rs :=
  ⟨h.1, fun i hi => by obtain ⟨u, e, hu⟩ := h.2 i hi; exact ⟨u, e, hu.mono hb⟩⟩
theorem SliceS.same {B : Nat} {w w' : World} {v : Value} {rs : List (List UInt8)} (h : SliceS B w v rs) (hb : ∀ k, k < B → w'.heap[k]? = w.heap[k]?) : SliceS B w' v rs := by
  obtain ⟨vs, h1, h2⟩ := h
  exact ⟨vs, h1.same hb, h2.same hb⟩
theorem SliceS.mono {B B' : Nat} {w : World} {v : Value} {rs : List (List UInt8)} (h : SliceS B w v rs) (hb : B ≤ B') : SliceS B' w v rs := by
  obtain ⟨vs, h1, h2⟩ := h
  exact ⟨vs, h1.mono hb, h2.mono hb⟩
theorem SliceS.below {w w' : World} {v : Value} {rs : List (List UInt8)} (h : SliceS w.heap.size w v rs) (hb : Below w.heap.size w w') : SliceS w'.heap.size w' v rs := (h.same hb.block).mono hb.size
theorem SliceS.drew {w : World} {v : Value} {rs : List (List UInt8)} (h : SliceS w.heap.size w v rs) : SliceS w.drew.heap.size w.drew v rs := h.same (fun _ _ => rfl)
theorem SliceS.nil (B : Nat) (w : World) : SliceS B w (.slice none 0 0) [] := ⟨[], ⟨none, 0, rfl, Nat.le_refl _, by simp [maxLen], fun _ => rfl, fun i h => by simp at h⟩, rfl, fun i h => by simp at h⟩
theorem SliceS.shape {B : Nat} {w : World} {v : Value} {rs : List (List UInt8)} (h : SliceS B w v rs) : ∃ a cap, v = .slice a rs.length cap ∧ rs.length ≤ cap ∧ cap ≤ 9223372036854775807 := by
  obtain ⟨vs, ⟨a, cap, rfl, h1, h2, _⟩, h3, _⟩ := h
  exact ⟨a, cap, by rw [h3], by omega, by unfold maxLen at h2; omega⟩
/-- One of them. -/
theorem SliceS.at {B : Nat} {w : World} {a : Option Addr} {n cap : Nat} {rs : List (List UInt8)} (h : SliceS B w (.slice a n cap) rs) (i : Nat) (hi : i < rs.length) :
    ∃ (b off : Nat) (ua : Option Addr) (uc : Nat), a = some ⟨b, off, none⟩ ∧ w.cell? ⟨b, off + i, none⟩ = some (.slice ua rs[i].length uc) ∧ SliceB B w (.slice ua rs[i].length uc) rs[i] ∧ b < B ∧ uc ≤ 9223372036854775807 ∧ rs[i].length ≤ uc := by
  obtain ⟨vs, ⟨a', cap', e, h1, h2, _, h3⟩, h4, h5⟩ := h
  simp only [Value.slice.injEq] at e
  obtain ⟨rfl, -, -⟩ := e
  obtain ⟨b, off, rfl, hb, hc⟩ := h3 i (by omega)
  obtain ⟨u, hu, hs⟩ := h5 i hi
  have e : vs[i]'(by omega) = u := by rw [List.getElem?_eq_getElem (by omega)] at hu; simpa using hu
  rw [e] at hc
  obtain ⟨ua, uc, rfl, g1, g2, _⟩ := id hs
  exact ⟨b, off, ua, uc, rfl, hc, hs, hb, by unfold maxLen at g2; omega, g1⟩

theorem Each.one {B : Nat} {w : World} {vs : List Value} {rs : List (List UInt8)} (h : Each B w vs rs) : ∀ u ∈ vs, u.oneCell' = true := by
  intro u hu
  obtain ⟨i, hi, e⟩ := List.getElem_of_mem hu
  obtain ⟨u', e', hs⟩ := h.2 i (by have := h.1; omega)
  rw [List.getElem?_eq_getElem hi, e] at e'
  simp only [Option.some.injEq] at e'
  subst e'
  obtain ⟨a, c, rfl, _⟩ := hs
  rfl

theorem run_appV (w : World) (ty : TypeId) (base : Nat) (v : Value) (n : Nat) (xs : List Value) (hown : w.ownsRow base 26 1 v n xs) (B : Nat) (u : Value) (vs : List Value) (hu : SliceV B w u vs) (h1c : ∀ x ∈ vs, x.oneCell' = true)
    (hb : (n + vs.length) * 24 ≤ 140737488355328) (hbase : base ≤ w.heap.size) :
    ∃ ao cap w', (Builtin.append_ #[94, 94] ty #[v, u]).run Try.prog w = .ok (.slice ao (n + vs.length) cap) w' ∧ w'.ownsRow base 26 1 (.slice ao (n + vs.length) cap) (n + vs.length) (xs ++ vs) ∧ w.grownBy w' v.ownBlock ∧ Moved w v (.slice ao (n + vs.length) cap) := by
  obtain ⟨i0, hi0, hz0, hz1, hz2⟩ := info_parts info23
  obtain ⟨a, cap, rfl, h1, h2, hn, h3⟩ := hu
  cases a with
  | none =>
    have hc := hn rfl
    have hl : vs.length = 0 := by omega
    obtain rfl : vs = [] := List.length_eq_zero_iff.1 hl
    subst hc
    have hr := run_append_owned_none (P := Try.prog) (w := w) base 94 ty 26 i0 1 Try.underlying94 hi0 v n xs hown
    obtain ⟨ao, cp, rfl, _⟩ := own_shape hown
    exact ⟨ao, cp, w, hr, by simpa using hown, grownBy_refl _ _, Moved.refl _ _⟩
  | some ad =>
    have hnews : ∀ j x, vs[j]? = some x → w.cell? (ad.add j) = some x := by
      intro j x hj
      obtain ⟨hjl, hx⟩ := List.getElem?_eq_some_iff.1 hj
      obtain ⟨b, off, e, _, hc⟩ := h3 j hjl
      simp only [Option.some.injEq] at e
      subst e
      rw [add_none, hc, hx]
    obtain ⟨v', w', hr, ho, hg, _, hat⟩ := run_append_own_at (P := Try.prog) w base 94 ty 26 i0 (.slice none 0 0) 1 24 Try.underlying94 hi0 hz0 hz1 hz2 rfl (by omega) v n xs hown ad vs.length cap vs (by simp) hnews h1c (by unfold maxLen; omega) hb hbase
    have hm : Moved w v v' := by
      intro k hk
      rcases hat with h | h
      · exact .inl (h.symm.trans hk)
      · rw [h] at hk; simp at hk; exact .inr (by omega)
    obtain ⟨ao, cp, rfl, _⟩ := own_shape ho
    exact ⟨ao, cp, w', hr, ho, hg, hm⟩

theorem wpList_appV {w : World} {ops : Array Oper} {rest : List Oper} {o : Oper} {a : Act} {Q : Exit → Act → World → Prop} (hgd : o.guard = none) (s x : Operand) (ho : o.op = .call { callee := .builtin .append, args := #[s, x], argTypes := #[94, 94] })
    (base : Nat) (v : Value) (n : Nat) (xs : List Value) (hs : a.eval s = v) (hown : w.ownsRow base 26 1 v n xs) (B : Nat) (u : Value) (vs : List Value) (hx : a.eval x = u) (hu : SliceV B w u vs) (h1c : ∀ x ∈ vs, x.oneCell' = true)
    (hb : (n + vs.length) * 24 ≤ 140737488355328) (hbase : base ≤ w.heap.size)
    (h : ∀ ao cap w', w'.ownsRow base 26 1 (.slice ao (n + vs.length) cap) (n + vs.length) (xs ++ vs) → w.grownBy w' v.ownBlock → Moved w v (.slice ao (n + vs.length) cap) → wpList Try.prog ops Q rest (a.put o.dst (.slice ao (n + vs.length) cap)) w') :
    wpList Try.prog ops Q (o :: rest) a w := by
  refine wpList_plain hgd fun K hK => ?_
  obtain ⟨ao, cap, w', hr, h1, h2, h3⟩ := run_appV w o.type base v n xs hown B u vs hu h1c hb hbase
  exact wp_app_of s x ho hs hx hr (hK _ _ (h ao cap w' h1 h2 h3))

/-- What is owned reads as a slice of values. -/
theorem own_sliceV {w : World} {base : Nat} {v : Value} {vs : List Value} (h : w.ownsRow base 26 1 v vs.length vs) : SliceV w.heap.size w v vs := by
  have hl := h.lt
  obtain ⟨ao, cap, rfl, h1, h2, h3⟩ := own_shape h
  refine ⟨ao, cap, rfl, h1, h2, h3, fun i hi => ?_⟩
  rcases h.2 with ⟨e, h0⟩ | ⟨g, cap', cur, e, hb, hg, _⟩
  · omega
  · simp only [Value.slice.injEq] at e
    obtain ⟨rfl, _, _⟩ := e
    refine ⟨g, 0, rfl, (hl g rfl).2, ?_⟩
    have := h.cells (g := g) rfl i vs[i] (by simp [hi])
    rw [add_none] at this
    exact this

theorem SliceB.far {B : Nat} {w w' : World} {u : Value} {bs : List UInt8} {row : Option Nat} (h : SliceB B w u bs) (hg : w.grownBy w' row) (hB : B ≤ w.heap.size) (hn : ∀ g, u.ownBlock = some g → row ≠ some g) : SliceB B w' u bs := by
  obtain ⟨a, cap, rfl, h1, h2, h3, h4⟩ := h
  refine ⟨a, cap, rfl, h1, h2, h3, fun i hi => ?_⟩
  obtain ⟨b, off, rfl, hlt, hc⟩ := h4 i hi
  exact ⟨b, off, rfl, hlt, (World.cell?_of_block (hg.block b (by omega) (fun e => hn b rfl e.symm))).trans hc⟩

/-- A row of slices that the call made, each to bytes elsewhere. -/
def RowS (base : Nat) (w : World) (v : Value) (vs : List Value) (rs : List (List UInt8)) : Prop :=
  w.ownsRow base 26 1 v rs.length vs ∧ Each w.heap.size w vs rs ∧ ∀ u ∈ vs, ∀ g, u.ownBlock = some g → g < w.heap.size ∧ v.ownBlock ≠ some g

theorem RowS.nil (base : Nat) (w : World) : RowS base w (.slice none 0 0) [] [] := ⟨World.ownsRow_nil _ _ _ _, ⟨rfl, fun i h => by simp at h⟩, fun u h => by simp at h⟩
theorem RowS.slice {base : Nat} {w : World} {v : Value} {vs : List Value} {rs : List (List UInt8)} (h : RowS base w v vs rs) : SliceS w.heap.size w v rs :=
  ⟨vs, own_sliceV (by rw [h.2.1.1]; exact h.1), h.2.1⟩

theorem RowS.push {base : Nat} {w w2 w4 : World} {v x v' : Value} {o : Obj} {vs : List Value} {rs : List (List UInt8)} {r : List UInt8} (h : RowS base w v vs rs) (hbw : base ≤ w.heap.size) (hb : Below w.heap.size w w2)
    (hx : w2.ownsRow w.heap.size 5 1 x r.length (u8s r)) (hown : w4.ownsRow base 26 1 v' (rs.length + 1) (vs ++ [x])) (hg : (w2.alloc o).grownBy w4 v.ownBlock) (hm : Moved (w2.alloc o) v v') : RowS base w4 v' (vs ++ [x]) (rs ++ [r]) := by
  have z := hb.size
  have zg := hg.size
  simp at zg
  have hxs : SliceB w2.heap.size w2 x r := own_slice hx
  refine ⟨by simpa using hown, ⟨by simp [h.2.1.1], fun i hi => ?_⟩, fun u hu g hug => ?_⟩
  · by_cases hlt : i < rs.length
    · obtain ⟨u, e, hs⟩ := h.2.1.2 i hlt
      have e2 : (rs ++ [r])[i] = rs[i] := List.getElem_append_left hlt
      rw [e2]
      refine ⟨u, by rw [List.getElem?_append_left (by rw [h.2.1.1]; exact hlt)]; exact e, ?_⟩
      have hmem : u ∈ vs := List.mem_of_getElem? e
      have h1 := ((hs.below hb).below (below_alloc w2 o))
      exact (h1.far hg (Nat.le_refl _) (fun g hg' => (h.2.2 u hmem g hg').2)).mono hg.size
    · have : i = rs.length := by simp at hi; omega
      subst this
      have e2 : (rs ++ [r])[rs.length]'hi = r := by simp
      rw [e2]
      refine ⟨x, by rw [← h.2.1.1]; simp, ?_⟩
      have h1 := (hxs.below (below_alloc w2 o))
      refine (h1.far hg (Nat.le_refl _) (fun g hg' e => ?_)).mono hg.size
      have a1 := (hx.lt g hg').1
      have a2 := (h.1.lt g e).2
      omega
  · have hlt4 : g < w2.heap.size ∧ v.ownBlock ≠ some g := by
      rcases List.mem_append.1 hu with hu | hu
      · have := h.2.2 u hu g hug
        exact ⟨by omega, this.2⟩
      · simp only [List.mem_singleton] at hu
        subst hu
        have a1 := (hx.lt g hug)
        exact ⟨a1.2, fun e => by have := (h.1.lt g e).2; omega⟩
    refine ⟨by omega, fun e => ?_⟩
    rcases hm g e with h1 | h1
    · exact hlt4.2 h1
    · simp at h1; omega

theorem own_dropG {w w' : World} {base : Nat} {e : TypeId} {size : Nat} {v : Value} {n : Nat} {xs : List Value} (h : w.ownsRow base e size v n xs) (hb : base ≤ w.heap.size) (hg : w.grownBy w' v.ownBlock) : Below base w w' :=
  Below.grown (Below.refl _ _) hg hb (fun k hk => (h.lt k hk).1)

theorem RowS.drewN {base : Nat} {w : World} {v : Value} {vs : List Value} {rs : List (List UInt8)} (h : RowS base w v vs rs) (m : Nat) : RowS base (w.drewN m) v vs rs := by
  obtain ⟨h1, h2, h3⟩ := h
  refine ⟨?_, h2.same (fun _ _ => by simp), h3⟩
  exact h1

theorem new_row (w : World) (x : Value) : SliceV (w.heap.size + 1) (w.alloc (.cells #[x] 26)) (.slice (some ⟨w.heap.size, 0, none⟩) 1 1) [x] := by
  refine ⟨_, _, rfl, Nat.le_refl _, by simp [maxLen], fun h => by simp at h, fun i hi => ⟨w.heap.size, 0, rfl, by omega, ?_⟩⟩
  have : i = 0 := by simpa using hi
  subst this
  simp

end Go.Proofs.Ytkddkpdfeeikhaa.SR

/-
  store.Frame, framed, Own, Sync and kept answer what frameB, sizeR and the log's own fields say.
-/
namespace Go.Proofs.Ytkddkpdfeeikhaa.SR
open Go.RowKit
set_option linter.unusedVariables false
set_option linter.unusedSimpArgs false

attribute [local go_sem ↓] Go.wp_at_zero Go.wp_at_succ

set_option maxHeartbeats 400000 in
theorem framed_any (B : Nat) (v : Value) (rs : List (List UInt8)) (w : World) (hv : SliceS B w v rs) (hn : rs.length ≤ 8796093022208) (hr : ∀ r ∈ rs, r.length < 65536) :
    Calls Try.prog 88 #[v] w fun e w' => e = .returned (.int .i64 (sizeR rs)) ∧ w' = w := by
  have HV : Hid (SliceS B w v rs) := hv
  obtain ⟨a, cap, rfl, h1, h2⟩ := hv.shape
  have hsz := sizeR_bound rs 65535 (fun r h => by have := hr r h; omega)
  clear hv
  go_enter Try.func88, Try.ntmps88
  go_wp2
  go_loop [3, 8] (fun s i => ∃ k : Nat, k ≤ rs.length ∧ i = .int .i64 k ∧ s = .int .i64 (sizeR (rs.take k))) (fun _ i => rs.length - (intOf i).toNat)
  case atStart => exact ⟨0, Nat.zero_le _, rfl, rfl⟩
  case round =>
    obtain ⟨k, hk, rfl, rfl⟩ := hrel
    by_cases hlt : k < rs.length
    · obtain ⟨g, off, ua, uc, rfl, hc, hs, hg, hu1, hu2⟩ := HV.out.at k hlt
      obtain ⟨r, hrk⟩ : ∃ r, r = rs[k] := ⟨_, rfl⟩
      have hrl := hr rs[k] (List.getElem_mem _)
      have HK : Hid (sizeR (rs.take (k + 1)) = sizeR (rs.take k) + (rs[k].length + 4)) := sizeR_take rs k hlt
      rw [← hrk] at hc hs hu2 hrl HK
      clear hrk
      have hle := sizeR_le rs k
      obtain ⟨S, hS⟩ : ∃ S, S = sizeR (rs.take k) := ⟨_, rfl⟩
      rw [← hS] at HK hle ⊢
      clear hS
      go_wp2
      go_round
      case rel => exact ⟨k + 1, by omega, by go_num, by rw [HK.out]; go_num⟩
      case measure => simp [intOf]; omega
    · go_wp2
      go_ret
      have e : k = rs.length := by omega
      subst e
      exact ⟨ret_i64 (by rw [List.take_of_length_le (Nat.le_refl _)]), rfl⟩

/-- How many bytes a crash leaves. -/
def keptN (n : Nat) (sure keep : Int) : Int := max sure 0 + min (max keep 0) (n - max sure 0)

end Go.Proofs.Ytkddkpdfeeikhaa.SR
