/-
  tgref6.unframe and rest read what insideF and noteOfF say.
-/
import Derived.Test.YtnfmidbbelgldaaFRead
import Derived.Test.YtnfmidbbelgldaaRefParse
namespace Go.Proofs.Ytnfmidbbelgldaa
open Go.RowKit
set_option linter.unusedVariables false
set_option linter.unusedSimpArgs false

attribute [local go_sem ↓] Go.wp_at_zero Go.wp_at_succ

set_option maxHeartbeats 1000000 in
theorem unframe_any (v : Value) (b : List UInt8) (w : World) (hb : SliceB w.heap.size w v b) :
    Calls Try.prog 36 #[v] w fun e w' => ∃ v' n, e = .returned (.tuple #[v', .int .i64 n, .int .i64 (insideF b).1]) ∧ ((insideF b).1 = 0 → n = 2 + (insideF b).2.length) ∧ SliceB w.heap.size w v' (insideF b).2 ∧ (∃ n, w' = w.drewN n) := by
  have hb' := hb
  obtain ⟨a, cap, rfl, i1, i2, i0, i3⟩ := hb
  unfold maxLen at i2
  by_cases h1 : b.length < 2
  · go_enter Try.func36, Try.ntmps36
    go_wp2
    refine bodyPost_ret (v := .tuple #[.slice none 0 0, .int .i64 0, .int .i64 9]) (by simp [results, Try.results36, go_sem, *]) rfl ?_
    have HF : insideF b = (9, []) := by unfold insideF; rw [if_pos h1]
    rw [HF]
    exact ⟨_, _, rfl, fun h => by simp at h, SliceB.nil _ _, 0, rfl⟩
  obtain ⟨b0, off, rfl, hlt, hc0⟩ := i3 0 (by omega)
  obtain ⟨_, _, e, -, hc1⟩ := i3 1 (by omega)
  simp only [Option.some.injEq, Addr.mk.injEq] at e
  obtain ⟨rfl, rfl, -⟩ := e
  obtain ⟨x, hx⟩ : ∃ x, x = b[0] := ⟨_, rfl⟩
  obtain ⟨y, hy⟩ : ∃ y, y = b[1] := ⟨_, rfl⟩
  rw [← hx] at hc0
  rw [← hy] at hc1
  rw [Nat.add_zero] at hc0
  have he : endF b = 2 + x.toNat * 256 + y.toNat := by
    unfold endF
    rw [hx, hy]
    simp [List.getD_eq_getElem?_getD, List.getElem?_eq_getElem, show 0 < b.length by omega, show 1 < b.length by omega]
  obtain ⟨x0, x1⟩ := u8_bounds x
  obtain ⟨y0, y1⟩ := u8_bounds y
  by_cases h2 : 400 < endF b
  · have HF : Hid (insideF b = (4, [])) := by show insideF b = _; unfold insideF; rw [if_neg h1, if_pos h2]
    have h2' : (400 : Int) < 256 * x.toNat + y.toNat + 2 := by omega
    clear h2 he hx hy
    go_enter Try.func36, Try.ntmps36
    go_wp2_with fail
    go_quiet (fail)
    go_wp2
    refine bodyPost_ret (v := .tuple #[.slice none 0 0, .int .i64 0, .int .i64 4]) (by simp [results, Try.results36, go_sem, *]) rfl ?_
    rw [HF.out]
    refine ⟨_, _, rfl, fun h => by simp at h, SliceB.nil _ _, _, rfl⟩
  · have h2' : decide ((400 : Int) < 256 * x.toNat + y.toNat + 2) = false := decide_eq_false (by omega)
    by_cases h3 : b.length < endF b
    · have HF : Hid (insideF b = (9, [])) := by show insideF b = _; unfold insideF; rw [if_neg h1, if_neg h2, if_pos h3]
      have h3' : decide ((b.length : Int) < 256 * x.toNat + y.toNat + 2) = true := decide_eq_true (by omega)
      clear h2 h3 he hx hy
      go_enter Try.func36, Try.ntmps36
      go_wp2_with fail
      go_quiet (fail)
      go_wp2
      refine bodyPost_ret (v := .tuple #[.slice none 0 0, .int .i64 0, .int .i64 9]) (by simp [results, Try.results36, go_sem, *]) rfl ?_
      rw [HF.out]
      refine ⟨_, _, rfl, fun h => by simp at h, SliceB.nil _ _, _, rfl⟩
    · have HF : Hid (insideF b = (0, (b.drop 2).take (endF b - 2))) := by show insideF b = _; unfold insideF; rw [if_neg h1, if_neg h2, if_neg h3]
      have h3' : decide ((b.length : Int) < 256 * x.toNat + y.toNat + 2) = false := decide_eq_false (by omega)
      have h4 : 256 * x.toNat + y.toNat + 2 ≤ b.length := by omega
      have HE : Hid (endF b = 2 + x.toNat * 256 + y.toNat) := he
      clear h2 h3 he hx hy
      go_enter Try.func36, Try.ntmps36
      go_wp2_with fail
      go_quiet (fail)
      go_wp2
      · rename_i hcap
        have hn : 256 * x.toNat + y.toNat = 0 := by omega
        refine bodyPost_ret (v := .tuple #[.slice (some ⟨b0, off, none⟩) (256 * x.toNat + y.toNat) 0, .int .i64 (256 * x.toNat + y.toNat + 2), .int .i64 0]) (by simp [results, Try.results36, go_sem, *]) rfl ?_
        have e : (b.drop 2).take (endF b - 2) = [] := by rw [HE.out]; rw [show 2 + x.toNat * 256 + y.toNat - 2 = 0 by omega]; simp
        rw [HF.out]
        refine ⟨_, _, rfl, fun _ => ?_, ?_, _, rfl⟩
        · show _ = 2 + (((b.drop 2).take (endF b - 2)).length : Int)
          rw [e]; simp; omega
        · show SliceB _ _ _ ((b.drop 2).take (endF b - 2))
          rw [e, hn]
          exact ⟨_, 0, rfl, by simp, by simp [maxLen], fun _ => rfl, fun i hi => by simp at hi⟩
      · rename_i hcap
        have hm := slice_mid hb' 2 (256 * x.toNat + y.toNat) (by omega) (by omega)
        rw [Option.map_some, add_none] at hm
        have e : endF b - 2 = 256 * x.toNat + y.toNat := by rw [HE.out]; omega
        refine bodyPost_ret (v := .tuple #[.slice (some ⟨b0, off + 2, none⟩) (256 * x.toNat + y.toNat) (cap - 2), .int .i64 (256 * x.toNat + y.toNat + 2), .int .i64 0]) (by simp [results, Try.results36, go_sem, *]) rfl ?_
        rw [HF.out]
        refine ⟨_, _, rfl, fun _ => ?_, ?_, _, rfl⟩
        · show _ = 2 + (((b.drop 2).take (endF b - 2)).length : Int)
          rw [e]
          have : ((b.drop 2).take (256 * x.toNat + y.toNat)).length = 256 * x.toNat + y.toNat := by simp; omega
          rw [this]; omega
        · show SliceB _ _ _ ((b.drop 2).take (endF b - 2))
          rw [e]; exact hm

theorem refParse_fv (v : Value) (b : List UInt8) (w : World) (hb : SliceB w.heap.size w v b) (hbl : b.length ≤ 140737488351232) :
    Calls Try.prog 50 #[v] w fun e w' => ∃ va vc ua uc, e = .returned (.tuple #[.agg #[.slice va (parseF b).2.1.length vc, .slice ua (parseF b).2.2.1.length uc], .int .i64 (parseF b).2.2.2, .int .i64 (parseF b).1]) ∧
      SliceP w'.heap.size w' (.slice va (parseF b).2.1.length vc) (parseF b).2.1 ∧ SliceB w'.heap.size w' (.slice ua (parseF b).2.2.1.length uc) (parseF b).2.2.1 ∧ Below w.heap.size w w' ∧ FreshV w.heap.size (.slice va (parseF b).2.1.length vc) ∧ FreshV w.heap.size (.slice ua (parseF b).2.2.1.length uc) := by
  have hb' := hb
  obtain ⟨a, c, rfl, -⟩ := hb'
  have main : Calls Try.prog 50 #[.slice a b.length c] w (Told b w) := by
    by_cases h : b = [] ∨ ∃ h0 : 0 < b.length, 4 < (b[0]).toNat
    · exact refParse_small a c b w hb h
    · have h0 : 0 < b.length := by
        rcases Nat.eq_zero_or_pos b.length with h0 | h0
        · exact absurd (Or.inl (List.length_eq_zero_iff.1 h0)) h
        · exact h0
      have h4 : (b[0]).toNat ≤ 4 := by
        rcases Nat.lt_or_ge 4 (b[0]).toNat with h4 | h4
        · exact absurd (Or.inr ⟨h0, h4⟩) h
        · exact h4
      exact refParse_any a c b w hb hbl h0 h4
  refine main.mono ?_
  rintro e w' ⟨v, u, rfl, hv, hu, hw⟩
  obtain ⟨va, vc, rfl, -⟩ := id hv
  obtain ⟨ua, uc, rfl, -⟩ := id hu
  exact ⟨va, vc, ua, uc, rfl, hv, hu, hw⟩

set_option maxHeartbeats 1000000 in
theorem rest_any (v : Value) (r : List UInt8) (has : Bool) (w : World) (hb : SliceB w.heap.size w v r) (hrl : r.length ≤ 140737488351232) :
    Calls Try.prog 38 #[v, .bool has] w fun e w' => ∃ va vc ua uc, e = .returned (.tuple #[.agg #[.slice va (noteOfF r has).1.length vc, .slice ua (noteOfF r has).2.1.length uc], .bool (noteOfF r has).2.2]) ∧
      SliceP w'.heap.size w' (.slice va (noteOfF r has).1.length vc) (noteOfF r has).1 ∧ SliceB w'.heap.size w' (.slice ua (noteOfF r has).2.1.length uc) (noteOfF r has).2.1 ∧ Below w.heap.size w w' ∧ FreshV w.heap.size (.slice va (noteOfF r has).1.length vc) ∧ FreshV w.heap.size (.slice ua (noteOfF r has).2.1.length uc) := by
  have hb' := hb
  obtain ⟨a, cap, rfl, i1, i2, -, -⟩ := hb
  clear i2
  cases has with
  | false =>
    have HF : Hid (noteOfF r false = ([], [], r.length == 0)) := by show noteOfF r false = _; simp [noteOfF]
    go_enter Try.func38, Try.ntmps38
    go_wp2
    refine bodyPost_ret (v := .tuple #[.agg #[.slice none 0 0, .slice none 0 0], .bool ((r.length : Int) == 0)]) (by simp [results, Try.results38, go_sem, *]) rfl ?_
    rw [HF.out]
    have e : ((r.length : Int) == 0) = (r.length == 0) := nat_beq r.length 0
    rw [e]
    exact ⟨_, _, _, _, rfl, SliceP.nil _ _, SliceB.nil _ _, below_alloc w _, fresh_nil _, fresh_nil _⟩
  | true =>
    have HF : Hid (noteOfF r true = ((parseF r).2.1, (parseF r).2.2.1, (parseF r).1 == 0 && (parseF r).2.2.2 == r.length)) := by show noteOfF r true = _; simp [noteOfF]
    have HP : ∀ W, SliceB W.heap.size W (.slice a r.length cap) r → _ := fun W h => refParse_fv (.slice a r.length cap) r W h hrl
    obtain ⟨P, hP⟩ : ∃ P, P = parseF r := ⟨_, rfl⟩
    rw [← hP] at HF HP
    clear hP
    obtain ⟨err, ps, body, size⟩ := P
    simp only at HF HP
    by_cases h0 : err = 0
    · subst h0
      go_enter Try.func38, Try.ntmps38
      go_wp2_with (go_at_call 50; refine (HP _ (hb'.below (below_alloc _ _))).mono ?_; rintro e w1 ⟨va, vc, ua, uc, rfl, hv1, hu1, hb1, hp1, hp2⟩; obtain ⟨hc1, hf1⟩ := bcell hb1; have hz1 := hb1.size; simp at hz1; have hlt1 : w.heap.size < w1.heap.size := (by omega))
      refine bodyPost_ret (v := .tuple #[.agg #[.slice va ps.length vc, .slice ua body.length uc], .bool ((size : Int) == r.length)]) (by simp [results, Try.results38, go_sem, *]) rfl ?_
      rw [HF.out]
      have e : ((size : Int) == r.length) = ((0 : Int) == 0 && size == r.length) := by rw [nat_beq]; rfl
      rw [e]
      refine ⟨_, _, _, _, rfl, ?_, ?_, ?_, hp1.mono (by simp), hp2.mono (by simp)⟩
      · exact (hv1.from_ hp1 (fun k h1 h2 => two_end _ _ _ hlt1 k (by simpa using h1) h2)).mono (by simp)
      · exact (hu1.from_ hp2 (fun k h1 h2 => two_end _ _ _ hlt1 k (by simpa using h1) h2)).mono (by simp)
      · exact ((((below_alloc w _).trans (hb1.mono (by simp))).setCell (by simp) _).setCell (by simp) _).alloc (by simp; omega) _
    · have h0' : (err == 0) = false := by simpa using h0
      go_enter Try.func38, Try.ntmps38
      go_wp2_with (go_at_call 50; refine (HP _ (hb'.below (below_alloc _ _))).mono ?_; rintro e w1 ⟨va, vc, ua, uc, rfl, hv1, hu1, hb1, hp1, hp2⟩; obtain ⟨hc1, hf1⟩ := bcell hb1; have hz1 := hb1.size; simp at hz1; have hlt1 : w.heap.size < w1.heap.size := (by omega))
      refine bodyPost_ret (v := .tuple #[.agg #[.slice va ps.length vc, .slice ua body.length uc], .bool false]) (by simp [results, Try.results38, go_sem, *]) rfl ?_
      rw [HF.out]
      have e : (err == 0 && size == r.length) = false := by rw [h0']; rfl
      rw [e]
      refine ⟨_, _, _, _, rfl, ?_, ?_, ?_, hp1.mono (by simp), hp2.mono (by simp)⟩
      · exact (hv1.from_ hp1 (fun k h1 h2 => two_end _ _ _ hlt1 k (by simpa using h1) h2)).mono (by simp)
      · exact (hu1.from_ hp2 (fun k h1 h2 => two_end _ _ _ hlt1 k (by simpa using h1) h2)).mono (by simp)
      · exact ((((below_alloc w _).trans (hb1.mono (by simp))).setCell (by simp) _).setCell (by simp) _).alloc (by simp; omega) _
end Go.Proofs.Ytnfmidbbelgldaa
