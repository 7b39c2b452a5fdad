/-
  tgref1.Records reads what recsF says, by what is left.
-/
import Derived.Test.YtdfledgcpceckaaRef
import Derived.Test.YtdfledgcpceckaaKeeps
namespace Go.Proofs.Ytdfledgcpceckaa
open Go.RowKit
set_option linter.unusedVariables false
set_option linter.unusedSimpArgs false

attribute [local go_sem ↓] Go.wp_at_zero Go.wp_at_succ

theorem recsF_step (b : List UInt8) (h : wholeB b = true) : recsF b = firstB b :: recsF (b.drop (pairN b + 4)) := by rw [recsF_eq, if_pos h]

/-- What Records is asked to tell. -/
def RecsTold (b : List UInt8) (w : World) (e : Ending) (w' : World) : Prop :=
  ∃ a cap, e = .returned (.tuple #[.slice a (recsF b).length cap, .int .i64 (sizeR (recsF b))]) ∧ SliceS w'.heap.size w' (.slice a (recsF b).length cap) (recsF b) ∧ Below w.heap.size w w'

theorem told_none {b : List UInt8} {w w' : World} (h : recsF b = []) (hb : Below w.heap.size w w') : RecsTold b w (.returned (.tuple #[.slice none 0 0, .int .i64 0])) w' := by
  unfold RecsTold
  rw [h]
  exact ⟨_, _, rfl, SliceS.nil _ _, hb⟩

/-- Two bytes of a slice, from a place on. -/
theorem SliceB.pairAt {B : Nat} {w : World} {g off len cap : Nat} {b : List UInt8} (h : SliceB B w (.slice (some ⟨g, off, none⟩) len cap) b) (i : Nat) (hl : i + 2 ≤ b.length) :
    ∃ (c d : UInt8), w.cell? ⟨g, off + i, none⟩ = some (.int .u8 c.toNat) ∧ w.cell? ⟨g, off + (i + 1), none⟩ = some (.int .u8 d.toNat) ∧ pairN (b.drop i) = c.toNat * 256 + d.toNat := by
  obtain ⟨a, cap', e, h1, h2, _, h3⟩ := h
  simp only [Value.slice.injEq] at e
  obtain ⟨rfl, rfl, rfl⟩ := e
  obtain ⟨g', off', e, _, hc⟩ := h3 i (by omega)
  simp only [Option.some.injEq, Addr.mk.injEq] at e
  obtain ⟨rfl, rfl, -⟩ := e
  obtain ⟨g', off', e, _, hd⟩ := h3 (i + 1) (by omega)
  simp only [Option.some.injEq, Addr.mk.injEq] at e
  obtain ⟨rfl, rfl, -⟩ := e
  refine ⟨_, _, hc, hd, ?_⟩
  unfold pairN byteAt
  simp [List.getD, List.getElem?_eq_getElem (show i < b.length by omega), List.getElem?_eq_getElem (show i + 1 < b.length by omega)]

set_option maxRecDepth 100000 in
set_option maxHeartbeats 800000 in
theorem refRecords_short (v : Value) (b : List UInt8) (w : World) (hb : SliceB w.heap.size w v b) (h4 : b.length < 4) :
    Calls Try.prog 32 #[v] w (RecsTold b w) := by
  obtain ⟨a, cap, rfl, h1, h2, -⟩ := hb
  unfold maxLen at h2
  have HR : Hid (recsF b = []) := recsF_stop b (by simp [wholeB]; omega)
  go_enter Try.func32, Try.ntmps32
  go_wp2
  exact bodyPost_ret (v := .tuple #[.slice none 0 0, .int .i64 0]) (by simp [results, Try.results32, go_sem, *]) rfl (told_none HR.out (Below.refl _ _))

set_option maxRecDepth 100000 in
set_option maxHeartbeats 1600000 in
theorem refRecords_none (v : Value) (b : List UInt8) (w : World) (hb : SliceB w.heap.size w v b) (h4 : 4 ≤ b.length) (h5 : b.length < pairN b + 4) :
    Calls Try.prog 32 #[v] w (RecsTold b w) := by
  obtain ⟨g, off, cap, c, d, rfl, hc, hd, hp, h1, h2⟩ := hb.two (by omega)
  have HR : Hid (recsF b = []) := recsF_stop b (by simp [wholeB]; omega)
  obtain ⟨c0, c1⟩ := u8_bounds c
  obtain ⟨d0, d1⟩ := u8_bounds d
  have l0 : (0 : Int) < (b.length : Int) := by omega
  have l1 : (1 : Int) < (b.length : Int) := by omega
  have l4 : ¬ (b.length : Int) < 4 := by omega
  have hg : decide ((b.length : Int) < 256 * (c.toNat : Int) + d.toNat + 4) = true := by rw [hp] at h5; simp; omega
  clear hp hb h5
  go_enter Try.func32, Try.ntmps32
  go_wp2
  go_quiet (fail)
  go_wp2
  go_quiet (fail)
  go_wp2
  exact bodyPost_ret (v := .tuple #[.slice none 0 0, .int .i64 0]) (by simp [results, Try.results32, go_sem, *]) rfl (told_none HR.out (below_drewN (below_drewN (Below.refl _ _) _) _))

set_option maxRecDepth 100000 in
set_option maxHeartbeats 1600000 in
theorem refRecords_other (v : Value) (b : List UInt8) (w : World) (hb : SliceB w.heap.size w v b) (h4 : 4 ≤ b.length) (h5 : pairN b + 4 ≤ b.length) (h6 : pairN (b.drop (2 + pairN b)) ≠ sumF (b.take (2 + pairN b))) :
    Calls Try.prog 32 #[v] w (RecsTold b w) := by
  have HB : Hid (SliceB w.heap.size w v b) := hb
  obtain ⟨g, off, cap, c, d, rfl, hc, hd, hp, h1, h2⟩ := hb.two (by omega)
  have HR : Hid (recsF b = []) := recsF_stop b (by simp [wholeB, h6])
  obtain ⟨c0, c1⟩ := u8_bounds c
  obtain ⟨d0, d1⟩ := u8_bounds d
  obtain ⟨N, hN⟩ : ∃ N, N = pairN b := ⟨_, rfl⟩
  rw [← hN] at h5 h6 hp
  obtain ⟨c', d', hc', hd', hp'⟩ := hb.pairAt (N + 2) (by omega)
  obtain ⟨c0', c1'⟩ := u8_bounds c'
  obtain ⟨d0', d1'⟩ := u8_bounds d'
  obtain ⟨S, hS⟩ : ∃ S, S = sumF (b.take (N + 2)) := ⟨_, rfl⟩
  rw [Nat.add_comm 2 N, hp', ← hS] at h6
  have HS : Hid (S = sumF (b.take (N + 2))) := hS
  have hnm : 256 * (c.toNat : Int) + (d.toNat : Int) = (N : Int) := by omega
  have hne : ((S : Int) != 256 * (c'.toNat : Int) + (d'.toNat : Int)) = true := by simp; omega
  have l0 : (0 : Int) < (b.length : Int) := by omega
  have l1 : (1 : Int) < (b.length : Int) := by omega
  have l4 : ¬ (b.length : Int) < 4 := by omega
  have l5 : (N : Int) + 2 < (b.length : Int) := by omega
  have l6 : (N : Int) + 3 < (b.length : Int) := by omega
  have l7 : (N : Int) + 2 ≤ (cap : Int) := by omega
  have hg : decide ((b.length : Int) < (N : Int) + 4) = false := by simp; omega
  have HT := fun m => (slice_take (HB.out.drewN m) (N + 2) (by omega))
  have hd'' : w.cell? ⟨g, off + (N + 3), none⟩ = some (.int .u8 d'.toNat) := hd'
  clear hp hb h5 h6 hp' hS hN hd'
  go_enter Try.func32, Try.ntmps32
  go_wp2
  go_quiet (fail)
  go_wp2
  go_quiet ((go_at_call 21; refine (refSum_any _ _ (b.take (N + 2)) _ (HT _)).mono ?_; rw [← HS.out]; rintro e w2 ⟨rfl, rfl⟩; exact ⟨rfl, _, rfl⟩))
  go_wp2
  exact bodyPost_ret (v := .tuple #[.slice none 0 0, .int .i64 0]) (by simp [results, Try.results32, go_sem, *]) rfl (told_none HR.out (below_drewN (below_drewN (Below.refl _ _) _) _))

theorem each_one {B : Nat} {w : World} {u : Value} {r : List UInt8} (h : SliceB B w u r) : Each B w [u] [r] := by
  refine ⟨rfl, fun i hi => ?_⟩
  have : i = 0 := by simpa using hi
  subst this
  exact ⟨u, rfl, h⟩

/-- A row of one slice that is just made. -/
theorem row_one (W : World) (u : Value) : (W.alloc (.cells #[u] 23)).ownsRow W.heap.size 23 1 (.slice (some ⟨W.heap.size, 0, none⟩) 1 1) 1 [u] :=
  ⟨by simp, .inr ⟨W.heap.size, 1, #[u], rfl, Nat.le_refl _, heap_alloc_new W _, Nat.le_refl _, by simp [maxLen], by simp, by simp⟩⟩

theorem recs_end {b : List UInt8} {w w3 : World} {x : Value} {us : List Value} {X : List UInt8} {R : List (List UInt8)} {ao : Option Addr} {cap base : Nat} {n : Int} (hst : recsF b = X :: R) (hx : SliceB w3.heap.size w3 x X) (he : Each w3.heap.size w3 us R)
    (hown : w3.ownsRow base 23 1 (.slice ao (R.length + 1) cap) (R.length + 1) ([x] ++ us)) (hb : Below w.heap.size w w3) (hn : n = (sizeR (X :: R) : Nat)) : RecsTold b w (.returned (.tuple #[.slice ao (R.length + 1) cap, .int .i64 n])) w3 := by
  unfold RecsTold
  rw [hst, hn]
  refine ⟨ao, cap, rfl, ⟨[x] ++ us, own_sliceV (by rw [List.length_append, he.1, List.length_singleton, Nat.add_comm]; exact hown), ?_⟩, hb⟩
  exact (each_one hx).append he

set_option maxRecDepth 100000 in
set_option maxHeartbeats 1600000 in
theorem refRecords_far (a : Option Addr) (cap : Nat) (b : List UInt8) (w : World) (hb : SliceB w.heap.size w (.slice a b.length cap) b) (hbl : b.length ≤ 1000000000) (hw : wholeB b = true) (hcap : ¬ cap = pairN b + 4)
    (ih : ∀ (u : Value) (W : World), SliceB W.heap.size W u (b.drop (pairN b + 4)) → Calls Try.prog 32 #[u] W (RecsTold (b.drop (pairN b + 4)) W)) :
    Calls Try.prog 32 #[.slice a b.length cap] w (RecsTold b w) := by
  have hw' := hw
  simp [wholeB] at hw'
  obtain ⟨h4, h5, h6⟩ := hw'
  have HB : Hid (SliceB w.heap.size w (.slice a b.length cap) b) := hb
  have hst := recsF_step b hw
  have hfl := firstB_len b hw
  obtain ⟨g, off, cap0, c, d, ecap, hc, hd, hp, h1, h2⟩ := hb.two (by omega)
  simp only [Value.slice.injEq] at ecap
  obtain ⟨rfl, -, rfl⟩ := ecap
  obtain ⟨c0, c1⟩ := u8_bounds c
  obtain ⟨d0, d1⟩ := u8_bounds d
  obtain ⟨N, hN⟩ : ∃ N, N = pairN b := ⟨_, rfl⟩
  obtain ⟨X, hX⟩ : ∃ X, X = firstB b := ⟨_, rfl⟩
  have HXX : Hid (X = (b.take (N + 2)).drop 2) := by show _ = _; rw [hX, firstB, ← hN, Nat.add_comm 2 N]
  rw [← hX] at hst hfl
  rw [← hN] at h5 h6 hp ih hst hfl hcap
  obtain ⟨T, hT⟩ : ∃ T, T = b.drop (N + 4) := ⟨_, rfl⟩
  have HT0 : Hid (T = b.drop (N + 4)) := hT
  rw [← hT] at ih hst
  have IH : Hid (∀ (u : Value) (W : World), SliceB W.heap.size W u T → Calls Try.prog 32 #[u] W (RecsTold T W)) := ih
  have hTl : T.length ≤ b.length := by rw [hT]; simp
  have hRT := sizeR_len4 (recsF T)
  have hRT2 := recsF_size T
  obtain ⟨R, hR⟩ : ∃ R, R = recsF T := ⟨_, rfl⟩
  have HR : Hid (R = recsF T) := hR
  rw [← hR] at hst hRT hRT2
  have HST : Hid (recsF b = X :: R) := hst
  have hsz : sizeR (X :: R) = N + 4 + sizeR R := by rw [sizeR_cons, hfl]
  obtain ⟨Z, hZ⟩ : ∃ Z, Z = sizeR R := ⟨_, rfl⟩
  have HZ : Hid (Z = sizeR R) := hZ
  have HSZ : Hid (sizeR (X :: R) = N + 4 + Z) := by show _ = _; rw [hsz, hZ]
  have HFL : Hid (X.length = N) := hfl
  obtain ⟨c', d', hc', hd', hp'⟩ := hb.pairAt (N + 2) (by omega)
  obtain ⟨c0', c1'⟩ := u8_bounds c'
  obtain ⟨d0', d1'⟩ := u8_bounds d'
  obtain ⟨S, hS⟩ : ∃ S, S = sumF (b.take (N + 2)) := ⟨_, rfl⟩
  rw [Nat.add_comm 2 N, hp', ← hS] at h6
  have HS : Hid (S = sumF (b.take (N + 2))) := hS
  have hnm : 256 * (c.toNat : Int) + (d.toNat : Int) = (N : Int) := by omega
  have hne : ((S : Int) != 256 * (c'.toNat : Int) + (d'.toNat : Int)) = false := by simp; omega
  have l0 : (0 : Int) < (b.length : Int) := by omega
  have l1 : (1 : Int) < (b.length : Int) := by omega
  have l4 : ¬ (b.length : Int) < 4 := by omega
  have l5 : (N : Int) + 2 < (b.length : Int) := by omega
  have l6 : (N : Int) + 3 < (b.length : Int) := by omega
  have l7 : (N : Int) + 2 ≤ (cap : Int) := by omega
  have l8 : (N : Int) + 4 ≤ (cap : Int) := by omega
  have l9 : (N : Int) + 4 ≤ (b.length : Int) := by omega
  have hzb : Z ≤ b.length := by omega
  have hrb : R.length ≤ b.length := by omega
  have hg : decide ((b.length : Int) < (N : Int) + 4) = false := by simp; omega
  have HT := fun m => (slice_take (HB.out.drewN m) (N + 2) (by omega))
  have hd'' : w.cell? ⟨g, off + (N + 3), none⟩ = some (.int .u8 d'.toNat) := hd'
  have HF : Hid (SliceB w.heap.size w (.slice (some ⟨g, off + 2, none⟩) N (cap - 2)) X) := by
    have := slice_drop (slice_take HB.out (N + 2) (by omega)) 2 (by omega)
    show SliceB _ _ _ _
    rw [HXX.out]
    simpa only [Option.map_some, add_none, Nat.add_sub_cancel] using this
  have hc2 : ¬ (cap : Int) = 2 := by omega
  have hcap' : ¬ (cap : Int) = (N : Int) + 4 := by omega
  have HQ : Hid (∀ m, SliceB (w.drewN m).heap.size (w.drewN m) (.slice (some ⟨g, off + (N + 4), none⟩) (b.length - (N + 4)) (cap - (N + 4))) T) := by
    have := slice_drop HB.out (N + 4) (by omega)
    show ∀ m, SliceB _ _ _ _
    intro m
    rw [HT0.out]
    have this : SliceB w.heap.size w (.slice (some ⟨g, off + (N + 4), none⟩) (b.length - (N + 4)) (cap - (N + 4))) (b.drop (N + 4)) := by simpa only [Option.map_some, add_none] using this
    exact this.drewN m
  clear hp hb h5 h6 hp' hS hN hd' ih hst hfl hX hT hR hZ hsz hw hRT hRT2
  go_enter Try.func32, Try.ntmps32
  go_wp2
  go_quiet (fail)
  go_wp2
  go_quiet ((go_at_call 21; refine (refSum_any _ _ (b.take (N + 2)) _ (HT _)).mono ?_; rw [← HS.out]; rintro e w2 ⟨rfl, rfl⟩; exact ⟨rfl, _, rfl⟩))
  go_wp2_with (first
    | (go_at_call 32; refine (IH.out _ _ (HQ.out _)).mono ?_; rintro e w2 ⟨ra, rc, rfl, hs2, hw2⟩; rw [← HR.out] at hs2 ⊢; rw [← HZ.out]; obtain ⟨us, hv2, he2⟩ := hs2; have hlu := he2.1)
    | (at_builtin; refine wpList_appN rfl (.tmp 59) (.tmp 60) rfl w2.heap.size _ 1 (R.length + 1) _ rfl (row_one w2 _) _ _ us rfl ((hv2.same (below_alloc w2 _).block)) he2.one (by omega) (by omega) (by simp) ?_; intro ao3 cap3 w3 hown3 hw3))
  have c2 : Below w.heap.size w w2 := (below_drewN (Below.refl _ _) _).trans hw2
  have c3 : Below w2.heap.size w2 w3 := (below_alloc _ _).trans hw3
  have c4 := c2.trans (c3.mono c2.size)
  exact bodyPost_ret (v := .tuple #[.slice ao3 (R.length + 1) cap3, .int .i64 ((N : Int) + 4 + Z)]) (by simp [results, Try.results32, go_sem]) rfl (recs_end HST.out (HF.out.below c4) (he2.below c3) hown3 c4 (by rw [HSZ.out]; omega))

set_option maxRecDepth 100000 in
set_option maxHeartbeats 1600000 in
theorem refRecords_near (a : Option Addr) (cap : Nat) (b : List UInt8) (w : World) (hb : SliceB w.heap.size w (.slice a b.length cap) b) (hbl : b.length ≤ 1000000000) (hw : wholeB b = true) (hcap : cap = pairN b + 4)
    (ih : ∀ (u : Value) (W : World), SliceB W.heap.size W u (b.drop (pairN b + 4)) → Calls Try.prog 32 #[u] W (RecsTold (b.drop (pairN b + 4)) W)) :
    Calls Try.prog 32 #[.slice a b.length cap] w (RecsTold b w) := by
  have hw' := hw
  simp [wholeB] at hw'
  obtain ⟨h4, h5, h6⟩ := hw'
  have HB : Hid (SliceB w.heap.size w (.slice a b.length cap) b) := hb
  have hst := recsF_step b hw
  have hfl := firstB_len b hw
  obtain ⟨g, off, cap0, c, d, ecap, hc, hd, hp, h1, h2⟩ := hb.two (by omega)
  simp only [Value.slice.injEq] at ecap
  obtain ⟨rfl, -, rfl⟩ := ecap
  obtain ⟨c0, c1⟩ := u8_bounds c
  obtain ⟨d0, d1⟩ := u8_bounds d
  obtain ⟨N, hN⟩ : ∃ N, N = pairN b := ⟨_, rfl⟩
  obtain ⟨X, hX⟩ : ∃ X, X = firstB b := ⟨_, rfl⟩
  have HXX : Hid (X = (b.take (N + 2)).drop 2) := by show _ = _; rw [hX, firstB, ← hN, Nat.add_comm 2 N]
  rw [← hX] at hst hfl
  rw [← hN] at h5 h6 hp ih hst hfl hcap
  obtain ⟨T, hT⟩ : ∃ T, T = b.drop (N + 4) := ⟨_, rfl⟩
  have HT0 : Hid (T = b.drop (N + 4)) := hT
  rw [← hT] at ih hst
  have IH : Hid (∀ (u : Value) (W : World), SliceB W.heap.size W u T → Calls Try.prog 32 #[u] W (RecsTold T W)) := ih
  have hTl : T.length ≤ b.length := by rw [hT]; simp
  have hRT := sizeR_len4 (recsF T)
  have hRT2 := recsF_size T
  obtain ⟨R, hR⟩ : ∃ R, R = recsF T := ⟨_, rfl⟩
  have HR : Hid (R = recsF T) := hR
  rw [← hR] at hst hRT hRT2
  have HST : Hid (recsF b = X :: R) := hst
  have hsz : sizeR (X :: R) = N + 4 + sizeR R := by rw [sizeR_cons, hfl]
  obtain ⟨Z, hZ⟩ : ∃ Z, Z = sizeR R := ⟨_, rfl⟩
  have HZ : Hid (Z = sizeR R) := hZ
  have HSZ : Hid (sizeR (X :: R) = N + 4 + Z) := by show _ = _; rw [hsz, hZ]
  have HFL : Hid (X.length = N) := hfl
  obtain ⟨c', d', hc', hd', hp'⟩ := hb.pairAt (N + 2) (by omega)
  obtain ⟨c0', c1'⟩ := u8_bounds c'
  obtain ⟨d0', d1'⟩ := u8_bounds d'
  obtain ⟨S, hS⟩ : ∃ S, S = sumF (b.take (N + 2)) := ⟨_, rfl⟩
  rw [Nat.add_comm 2 N, hp', ← hS] at h6
  have HS : Hid (S = sumF (b.take (N + 2))) := hS
  have hnm : 256 * (c.toNat : Int) + (d.toNat : Int) = (N : Int) := by omega
  have hne : ((S : Int) != 256 * (c'.toNat : Int) + (d'.toNat : Int)) = false := by simp; omega
  have l0 : (0 : Int) < (b.length : Int) := by omega
  have l1 : (1 : Int) < (b.length : Int) := by omega
  have l4 : ¬ (b.length : Int) < 4 := by omega
  have l5 : (N : Int) + 2 < (b.length : Int) := by omega
  have l6 : (N : Int) + 3 < (b.length : Int) := by omega
  have l7 : (N : Int) + 2 ≤ (cap : Int) := by omega
  have l8 : (N : Int) + 4 ≤ (cap : Int) := by omega
  have l9 : (N : Int) + 4 ≤ (b.length : Int) := by omega
  have hzb : Z ≤ b.length := by omega
  have hrb : R.length ≤ b.length := by omega
  have hg : decide ((b.length : Int) < (N : Int) + 4) = false := by simp; omega
  have HT := fun m => (slice_take (HB.out.drewN m) (N + 2) (by omega))
  have hd'' : w.cell? ⟨g, off + (N + 3), none⟩ = some (.int .u8 d'.toNat) := hd'
  have HF : Hid (SliceB w.heap.size w (.slice (some ⟨g, off + 2, none⟩) N (cap - 2)) X) := by
    have := slice_drop (slice_take HB.out (N + 2) (by omega)) 2 (by omega)
    show SliceB _ _ _ _
    rw [HXX.out]
    simpa only [Option.map_some, add_none, Nat.add_sub_cancel] using this
  have hc2 : ¬ (cap : Int) = 2 := by omega
  have hcap' : (cap : Int) = (N : Int) + 4 := by omega
  have HQ : Hid (∀ m, SliceB (w.drewN m).heap.size (w.drewN m) (.slice (some ⟨g, off, none⟩) (b.length - (N + 4)) (cap - (N + 4))) T) := by
    show ∀ m, SliceB _ _ _ _
    intro m
    rw [HT0.out, show b.length - (N + 4) = 0 by omega, show cap - (N + 4) = 0 by omega]
    exact (slice_drop0 HB.out (N + 4) (by omega)).drewN m
  clear hcap hp hb h5 h6 hp' hS hN hd' ih hst hfl hX hT hR hZ hsz hw hRT hRT2
  go_enter Try.func32, Try.ntmps32
  go_wp2
  go_quiet (fail)
  go_wp2
  go_quiet ((go_at_call 21; refine (refSum_any _ _ (b.take (N + 2)) _ (HT _)).mono ?_; rw [← HS.out]; rintro e w2 ⟨rfl, rfl⟩; exact ⟨rfl, _, rfl⟩))
  go_wp2_with (first
    | (go_at_call 32; refine (IH.out _ _ (HQ.out _)).mono ?_; rintro e w2 ⟨ra, rc, rfl, hs2, hw2⟩; rw [← HR.out] at hs2 ⊢; rw [← HZ.out]; obtain ⟨us, hv2, he2⟩ := hs2; have hlu := he2.1)
    | (at_builtin; refine wpList_appN rfl (.tmp 59) (.tmp 60) rfl w2.heap.size _ 1 (R.length + 1) _ rfl (row_one w2 _) _ _ us rfl ((hv2.same (below_alloc w2 _).block)) he2.one (by omega) (by omega) (by simp) ?_; intro ao3 cap3 w3 hown3 hw3))
  have c2 : Below w.heap.size w w2 := (below_drewN (Below.refl _ _) _).trans hw2
  have c3 : Below w2.heap.size w2 w3 := (below_alloc _ _).trans hw3
  have c4 := c2.trans (c3.mono c2.size)
  exact bodyPost_ret (v := .tuple #[.slice ao3 (R.length + 1) cap3, .int .i64 ((N : Int) + 4 + Z)]) (by simp [results, Try.results32, go_sem]) rfl (recs_end HST.out (HF.out.below c4) (he2.below c3) hown3 c4 (by rw [HSZ.out]; omega))

theorem refRecords_any (v : Value) (b : List UInt8) (w : World) (hb : SliceB w.heap.size w v b) (hbl : b.length ≤ 1000000000) :
    Calls Try.prog 32 #[v] w (RecsTold b w) := by
  generalize hn : b.length = n
  induction n using Nat.strongRecOn generalizing b v w with
  | ind n ih =>
    by_cases h4 : b.length < 4
    · exact refRecords_short v b w hb h4
    by_cases h5 : b.length < pairN b + 4
    · exact refRecords_none v b w hb (by omega) h5
    by_cases h6 : pairN (b.drop (2 + pairN b)) = sumF (b.take (2 + pairN b))
    · have hw : wholeB b = true := by simp [wholeB, h6]; omega
      have hih : ∀ (u : Value) (W : World), SliceB W.heap.size W u (b.drop (pairN b + 4)) → Calls Try.prog 32 #[u] W (RecsTold (b.drop (pairN b + 4)) W) :=
        fun u W hu => ih (b.drop (pairN b + 4)).length (by simp; omega) u _ W hu (by simp; omega) rfl
      obtain ⟨a, cap, rfl, -⟩ := id hb
      by_cases hc : cap = pairN b + 4
      · exact refRecords_near a cap b w hb hbl hw hc hih
      · exact refRecords_far a cap b w hb hbl hw hc hih
    · exact refRecords_other v b w hb (by omega) (by omega) h6
end Go.Proofs.Ytdfledgcpceckaa
