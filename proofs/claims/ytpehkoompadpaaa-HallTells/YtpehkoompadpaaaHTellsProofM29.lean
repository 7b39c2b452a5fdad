/-
  RefDone; RefDoneS: texts laid together.
-/
import Derived.Test.YtpehkoompadpaaaHTellsProofM28
import Derived.Test.YtpehkoompadpaaaHTellsProofM06
/-
  tgref1.Done.
-/
namespace Go.Proofs.Ytpehkoompadpaaa
open Go.RowKit
set_option linter.unusedVariables false
set_option linter.unusedSimpArgs false

attribute [local go_sem ↓] Go.wp_at_zero Go.wp_at_succ

theorem given_out {id turn : Int} {x : IT} (h : givenB id turn x = true) : (x.id == id) = true ∧ (x.turn == turn) = true ∧ x.out = true := by
  simp only [givenB, Bool.and_eq_true] at h
  exact ⟨h.1.2, h.2, h.1.1⟩
theorem given_not {id turn : Int} {x : IT} (h : givenB id turn x = false) : (x.id == id) = false ∨ ((x.id == id) = true ∧ (x.turn == turn) = false) ∨ ((x.id == id) = true ∧ (x.turn == turn) = true ∧ x.out = false) := by
  simp only [givenB, Bool.and_eq_false_iff] at h
  cases h1 : (x.id == id)
  · exact .inl rfl
  · cases h2 : (x.turn == turn)
    · exact .inr (.inl ⟨rfl, rfl⟩)
    · cases h3 : x.out
      · exact .inr (.inr ⟨rfl, rfl, rfl⟩)
      · simp [h1, h2, h3] at h

set_option maxRecDepth 100000 in
set_option maxHeartbeats 3200000 in
theorem refDone_none (v : Value) (name : ByteArray) (limit id turn : Int) (its : List IT) (hlen : its.length ≤ 1000) (hno : ∀ x ∈ its, givenB id turn x = false) (w : World) (hv : SliceI (Under w.heap.size) w v its) :
    Calls Try.prog 70 #[.agg #[.string name, .int .i64 limit, v], .int .i64 id, .int .i64 turn] w fun e w' => e = .returned (.tuple #[.agg #[.string ⟨#[]⟩, .int .i64 0, .slice none 0 0], .int .i64 6]) ∧ Below w.heap.size w w' := by
  have HV : Hid (SliceI (Under w.heap.size) w v its) := hv
  have HNO : Hid (∀ x ∈ its, givenB id turn x = false) := hno
  obtain ⟨va, vc, rfl⟩ := hv.shp
  clear hv hno
  obtain ⟨X, hX⟩ : ∃ X, X = (w.alloc (.cells #[.string name, .int .i64 limit, .slice va its.length vc] 71)).alloc (.cells #[.string ⟨#[]⟩, .int .i64 0, .slice none 0 0] 71) := ⟨_, rfl⟩
  have HX : Hid (X.heap.size = w.heap.size + 2 ∧ Below w.heap.size w X ∧ Blk X w.heap.size [.string name, .int .i64 limit, .slice va its.length vc] ∧ Blk X (w.heap.size + 1) [.string ⟨#[]⟩, .int .i64 0, .slice none 0 0]) := by
    subst hX
    refine ⟨by simp, (below_alloc _ _).alloc (by simp) _, (Blk.new _ _ _).alloc _, ?_⟩
    have := Blk.new (w.alloc (.cells #[.string name, .int .i64 limit, .slice va its.length vc] 71)) [.string ⟨#[]⟩, .int .i64 0, .slice none 0 0] 71
    simpa using this
  go_enter Try.func70, Try.ntmps70
  go_wp2
  go_loopw [13] (fun x wr => ∃ k : Nat, k ≤ its.length ∧ x = .int .i64 k ∧ Below X.heap.size X wr) (fun x _ => its.length - (intOf x).toNat)
  case atStart => exact ⟨0, Nat.zero_le _, rfl, by rw [hX]; exact Below.refl _ _⟩
  case round =>
    obtain ⟨k, hk, rfl, hbr⟩ := hrel
    have hzr := hbr.size
    have hzx := HX.out.1
    clear hX
    have HB : Hid (Below w.heap.size w wr) := HX.out.2.1.trans (hbr.mono (by omega))
    by_cases hlt : k < its.length
    · have ho := HNO.out _ (List.getElem_mem hlt)
      obtain ⟨b, off, pa, pc, qa, qc, rfl, hS, hn, ⟨c0, c1, c2, c3⟩, c4, c5, c6⟩ := (SliceI.sub (T := Under w.heap.size) HV.out (fun x hx => ⟨hx, HB.out.block x hx⟩)).at k hlt
      clear hn
      rcases given_not ho with e1 | ⟨e1, e2⟩ | ⟨e1, e2, e3⟩
      · go_wp2
        go_roundw
        case rel => exact ⟨k + 1, by omega, by go_num, hbr.trans ((below_alloc _ _).mono hzr)⟩
        case measure => simp [intOf]; omega
      · go_wp2
        go_roundw
        case rel => exact ⟨k + 1, by omega, by go_num, hbr.trans ((below_alloc _ _).mono hzr)⟩
        case measure => simp [intOf]; omega
      · rw [e3] at c3
        go_wp2
        go_roundw
        case rel => exact ⟨k + 1, by omega, by go_num, hbr.trans ((below_alloc _ _).mono hzr)⟩
        case measure => simp [intOf]; omega
    · obtain ⟨b0, b1, b2, b3, b4⟩ := (HX.out.2.2.2.below hbr (by omega)).b3
      go_wp2
      refine bodyPost_ret (v := .tuple #[.agg #[.string ⟨#[]⟩, .int .i64 0, .slice none 0 0], .int .i64 6]) (by simp [results, Try.results70, go_sem, *]; done) rfl ⟨rfl, ?_⟩
      iterate 3 refine Below.setCell ?_ (by simp <;> omega) _
      exact HB.out

set_option maxRecDepth 100000 in
set_option maxHeartbeats 3200000 in
theorem refDone_ok (v : Value) (name : ByteArray) (limit id turn : Int) (its : List IT) (hlen : its.length ≤ 1000) (i : Nat) (hil : i < its.length) (hin : givenB id turn its[i] = true) (hbf : ∀ j (hj : j < i), givenB id turn (its[j]'(by omega)) = false) (w : World) (hv : SliceI (Under w.heap.size) w v its) :
    Calls Try.prog 70 #[.agg #[.string name, .int .i64 limit, v], .int .i64 id, .int .i64 turn] w fun e w' => ∃ v', e = .returned (.tuple #[.agg #[.string name, .int .i64 limit, v'], .int .i64 0]) ∧ SliceI (Under w'.heap.size) w' v' (its.eraseIdx i) ∧ Below w.heap.size w w' := by
  have HV : Hid (SliceI (Under w.heap.size) w v its) := hv
  have HBF : Hid (∀ j (hj : j < i), givenB id turn (its[j]'(by omega)) = false) := hbf
  obtain ⟨g1, g2, g3⟩ := given_out hin
  obtain ⟨va, vc, rfl⟩ := hv.shp
  clear hv hbf hin
  obtain ⟨X, hX⟩ : ∃ X, X = (w.alloc (.cells #[.string name, .int .i64 limit, .slice va its.length vc] 71)).alloc (.cells #[.string ⟨#[]⟩, .int .i64 0, .slice none 0 0] 71) := ⟨_, rfl⟩
  have HX : Hid (X.heap.size = w.heap.size + 2 ∧ Below w.heap.size w X ∧ Blk X w.heap.size [.string name, .int .i64 limit, .slice va its.length vc] ∧ Blk X (w.heap.size + 1) [.string ⟨#[]⟩, .int .i64 0, .slice none 0 0]) := by
    subst hX
    refine ⟨by simp, (below_alloc _ _).alloc (by simp) _, (Blk.new _ _ _).alloc _, ?_⟩
    have := Blk.new (w.alloc (.cells #[.string name, .int .i64 limit, .slice va its.length vc] 71)) [.string ⟨#[]⟩, .int .i64 0, .slice none 0 0] 71
    simpa using this
  go_enter Try.func70, Try.ntmps70
  go_wp2
  go_loopw [13] (fun x wr => ∃ k : Nat, k ≤ i ∧ x = .int .i64 k ∧ Below X.heap.size X wr) (fun x _ => its.length - (intOf x).toNat)
  case atStart => exact ⟨0, Nat.zero_le _, rfl, by rw [hX]; exact Below.refl _ _⟩
  case round =>
    obtain ⟨k, hk, rfl, hbr⟩ := hrel
    have hzr := hbr.size
    have hzx := HX.out.1
    clear hX
    have HB : Hid (Below w.heap.size w wr) := HX.out.2.1.trans (hbr.mono (by omega))
    have hlt : k < its.length := by omega
    obtain ⟨b, off, pa, pc, qa, qc, rfl, hS, hn, ⟨c0, c1, c2, c3⟩, c4, c5, c6⟩ := (SliceI.sub (T := Under w.heap.size) HV.out (fun x hx => ⟨hx, HB.out.block x hx⟩)).at k hlt
    by_cases hki : k < i
    · have ho := HBF.out k hki
      clear hn
      rcases given_not ho with e1 | ⟨e1, e2⟩ | ⟨e1, e2, e3⟩
      · go_wp2
        go_roundw
        case rel => exact ⟨k + 1, by omega, by go_num, hbr.trans ((below_alloc _ _).mono hzr)⟩
        case measure => simp [intOf]; omega
      · go_wp2
        go_roundw
        case rel => exact ⟨k + 1, by omega, by go_num, hbr.trans ((below_alloc _ _).mono hzr)⟩
        case measure => simp [intOf]; omega
      · rw [e3] at c3
        go_wp2
        go_roundw
        case rel => exact ⟨k + 1, by omega, by go_num, hbr.trans ((below_alloc _ _).mono hzr)⟩
        case measure => simp [intOf]; omega
    · obtain rfl : k = i := by omega
      rw [g3] at c3
      obtain ⟨a0, a1, a2, a3, a4⟩ := (HX.out.2.2.1.below hbr (by omega)).b3
      have HK : Hid (Blk wr (w.heap.size + 1) [.string ⟨#[]⟩, .int .i64 0, .slice none 0 0]) := HX.out.2.2.2.below hbr (by omega)
      have hkl := HK.out.lt
      have hzw := HB.out.size
      clear hn HX hbr
      go_wp2_with (go_at_call 106; refine (items_del _ name limit its k hil hlen _ (Under w.heap.size) (fun x hx => Nat.lt_of_lt_of_le hx (by simp; omega)) (HV.out.sub fun x hx => ⟨hx, (Below.heap_alloc _ _ _ (Nat.lt_of_lt_of_le hx hzw)).trans (HB.out.block x hx)⟩)).mono ?_; rintro e w1 ⟨v1, rfl, hs1, hb1⟩; obtain ⟨ra, rc, e1⟩ := hs1.shp; have e1' : v1 = .slice ra (its.eraseIdx k).length rc := e1; subst e1'; have hz1 := hb1.size; simp only [World.size_alloc] at hz1; obtain ⟨n0, n1, n2, n3, n4⟩ := ((HK.out.alloc _).below hb1 (by simp; omega)).b3; have HS1 : Hid (SliceI (fun x => Under w.heap.size x ∨ Made (wr.heap.size + 1) w1.heap.size x) w1 (.slice ra (its.eraseIdx k).length rc) (its.eraseIdx k)) := (by have h := hs1; simp only [World.size_alloc] at h; exact h); have HB1 : Hid (Below w.heap.size w w1) := HB.out.trans (((below_alloc _ _).trans (hb1.mono (by simp))).mono hzw); clear hb1 hs1 e1)
      refine bodyPost_ret (v := .tuple #[.agg #[.string name, .int .i64 limit, .slice ra (its.eraseIdx k).length rc], .int .i64 0]) (by simp [results, Try.results70, go_sem, *]; done) rfl ⟨_, rfl, ?_, ?_⟩
      · refine HS1.out.sub fun x hx => ?_
        have hx' : x < w.heap.size ∨ (wr.heap.size + 1 ≤ x ∧ x < w1.heap.size) := hx
        refine ⟨by show x < _; simp; omega, ?_⟩
        iterate 3 rw [Below.heap_setCell _ _ _ _ (by simp; omega)]
      · iterate 3 refine Below.setCell ?_ (by simp <;> omega) _
        exact HB1.out
end Go.Proofs.Ytpehkoompadpaaa

/-
  tgref1.Done: the answer's blocks are the argument's, or made.
-/
namespace Go.Proofs.Ytpehkoompadpaaa
open Go.RowKit
set_option linter.unusedVariables false
set_option linter.unusedSimpArgs false

attribute [local go_sem ↓] Go.wp_at_zero Go.wp_at_succ

set_option maxRecDepth 100000 in
set_option maxHeartbeats 3200000 in
theorem refDone_okS (S : Nat → Prop) (v : Value) (name : ByteArray) (limit id turn : Int) (its : List IT) (hlen : its.length ≤ 1000) (i : Nat) (hil : i < its.length) (hin : givenB id turn its[i] = true) (hbf : ∀ j (hj : j < i), givenB id turn (its[j]'(by omega)) = false) (w : World) (hSS : ∀ b, S b → b < w.heap.size) (hv : SliceI S w v its) :
    Calls Try.prog 70 #[.agg #[.string name, .int .i64 limit, v], .int .i64 id, .int .i64 turn] w fun e w' => ∃ v', e = .returned (.tuple #[.agg #[.string name, .int .i64 limit, v'], .int .i64 0]) ∧ SliceI (fun b => S b ∨ Made w.heap.size w'.heap.size b) w' v' (its.eraseIdx i) ∧ Below w.heap.size w w' := by
  have HV : Hid (SliceI S w v its) := hv
  have HBF : Hid (∀ j (hj : j < i), givenB id turn (its[j]'(by omega)) = false) := hbf
  obtain ⟨g1, g2, g3⟩ := given_out hin
  obtain ⟨va, vc, rfl⟩ := hv.shp
  clear hv hbf hin
  obtain ⟨X, hX⟩ : ∃ X, X = (w.alloc (.cells #[.string name, .int .i64 limit, .slice va its.length vc] 71)).alloc (.cells #[.string ⟨#[]⟩, .int .i64 0, .slice none 0 0] 71) := ⟨_, rfl⟩
  have HX : Hid (X.heap.size = w.heap.size + 2 ∧ Below w.heap.size w X ∧ Blk X w.heap.size [.string name, .int .i64 limit, .slice va its.length vc] ∧ Blk X (w.heap.size + 1) [.string ⟨#[]⟩, .int .i64 0, .slice none 0 0]) := by
    subst hX
    refine ⟨by simp, (below_alloc _ _).alloc (by simp) _, (Blk.new _ _ _).alloc _, ?_⟩
    have := Blk.new (w.alloc (.cells #[.string name, .int .i64 limit, .slice va its.length vc] 71)) [.string ⟨#[]⟩, .int .i64 0, .slice none 0 0] 71
    simpa using this
  go_enter Try.func70, Try.ntmps70
  go_wp2
  go_loopw [13] (fun x wr => ∃ k : Nat, k ≤ i ∧ x = .int .i64 k ∧ Below X.heap.size X wr) (fun x _ => its.length - (intOf x).toNat)
  case atStart => exact ⟨0, Nat.zero_le _, rfl, by rw [hX]; exact Below.refl _ _⟩
  case round =>
    obtain ⟨k, hk, rfl, hbr⟩ := hrel
    have hzr := hbr.size
    have hzx := HX.out.1
    clear hX
    have HB : Hid (Below w.heap.size w wr) := HX.out.2.1.trans (hbr.mono (by omega))
    have hlt : k < its.length := by omega
    obtain ⟨b, off, pa, pc, qa, qc, rfl, hS, hn, ⟨c0, c1, c2, c3⟩, c4, c5, c6⟩ := (SliceI.sub (T := S) HV.out (fun x hx => ⟨hx, HB.out.block x (hSS x hx)⟩)).at k hlt
    by_cases hki : k < i
    · have ho := HBF.out k hki
      clear hn
      rcases given_not ho with e1 | ⟨e1, e2⟩ | ⟨e1, e2, e3⟩
      · go_wp2
        go_roundw
        case rel => exact ⟨k + 1, by omega, by go_num, hbr.trans ((below_alloc _ _).mono hzr)⟩
        case measure => simp [intOf]; omega
      · go_wp2
        go_roundw
        case rel => exact ⟨k + 1, by omega, by go_num, hbr.trans ((below_alloc _ _).mono hzr)⟩
        case measure => simp [intOf]; omega
      · rw [e3] at c3
        go_wp2
        go_roundw
        case rel => exact ⟨k + 1, by omega, by go_num, hbr.trans ((below_alloc _ _).mono hzr)⟩
        case measure => simp [intOf]; omega
    · obtain rfl : k = i := by omega
      rw [g3] at c3
      obtain ⟨a0, a1, a2, a3, a4⟩ := (HX.out.2.2.1.below hbr (by omega)).b3
      have HK : Hid (Blk wr (w.heap.size + 1) [.string ⟨#[]⟩, .int .i64 0, .slice none 0 0]) := HX.out.2.2.2.below hbr (by omega)
      have hkl := HK.out.lt
      have hzw := HB.out.size
      clear hn HX hbr
      go_wp2_with (go_at_call 106; refine (items_del _ name limit its k hil hlen _ S (fun x hx => Nat.lt_of_lt_of_le (hSS x hx) (by simp; omega)) (HV.out.sub fun x hx => ⟨hx, (Below.heap_alloc _ _ _ (Nat.lt_of_lt_of_le (hSS x hx) hzw)).trans (HB.out.block x (hSS x hx))⟩)).mono ?_; rintro e w1 ⟨v1, rfl, hs1, hb1⟩; obtain ⟨ra, rc, e1⟩ := hs1.shp; have e1' : v1 = .slice ra (its.eraseIdx k).length rc := e1; subst e1'; have hz1 := hb1.size; simp only [World.size_alloc] at hz1; obtain ⟨n0, n1, n2, n3, n4⟩ := ((HK.out.alloc _).below hb1 (by simp; omega)).b3; have HS1 : Hid (SliceI (fun x => S x ∨ Made (wr.heap.size + 1) w1.heap.size x) w1 (.slice ra (its.eraseIdx k).length rc) (its.eraseIdx k)) := (by have h := hs1; simp only [World.size_alloc] at h; exact h); have HB1 : Hid (Below w.heap.size w w1) := HB.out.trans (((below_alloc _ _).trans (hb1.mono (by simp))).mono hzw); clear hb1 hs1 e1)
      refine bodyPost_ret (v := .tuple #[.agg #[.string name, .int .i64 limit, .slice ra (its.eraseIdx k).length rc], .int .i64 0]) (by simp [results, Try.results70, go_sem, *]; done) rfl ⟨_, rfl, ?_, ?_⟩
      · refine HS1.out.sub fun x hx => ?_
        have hx0 : S x ∨ (wr.heap.size + 1 ≤ x ∧ x < w1.heap.size) := hx
        have hx' : x < w.heap.size ∨ (wr.heap.size + 1 ≤ x ∧ x < w1.heap.size) := hx0.imp (hSS x) (fun h => h)
        refine ⟨hx0.imp (fun h => h) (fun h => ⟨by have := h.1; omega, by have := h.2; simp; omega⟩), ?_⟩
        iterate 3 rw [Below.heap_setCell _ _ _ _ (by simp; omega)]
      · iterate 3 refine Below.setCell ?_ (by simp <;> omega) _
        exact HB1.out
end Go.Proofs.Ytpehkoompadpaaa
