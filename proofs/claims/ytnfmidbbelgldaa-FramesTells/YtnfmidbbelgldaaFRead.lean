/-
  frames.inside, number, noteOf, askOf and sayOf read what insideF, noteOfF, askOfF and sayOfF say.
-/
import Derived.Test.YtnfmidbbelgldaaFMath
import Derived.Test.YtnfmidbbelgldaaAlive
import Derived.Test.YtnfmidbbelgldaaRefText
import Derived.Test.YtnfmidbbelgldaaFresh
import Derived.Deep.QuietTactic
namespace Go.Proofs.Ytnfmidbbelgldaa
open Go.RowKit
set_option linter.unusedVariables false
set_option linter.unusedSimpArgs false

attribute [local go_sem ↓] Go.wp_at_zero Go.wp_at_succ

set_option maxHeartbeats 1000000 in
theorem fnumber_any (v : Value) (bs : List UInt8) (B : Nat) (w : World) (hv : SliceB B w v bs) (hl : bs.length ≤ 4) :
    Calls Try.prog 45 #[v] w fun e w' => e = .returned (.int .i64 (int32 (valB bs))) ∧ w' = w := by
  obtain ⟨a, cap, rfl, i1, i2, _, i3⟩ := hv
  go_enter Try.func45, Try.ntmps45
  go_wp2
  go_loop [3, 8] (fun u i => ∃ k : Nat, k ≤ bs.length ∧ i = .int .i64 k ∧ u = .int .u32 (valB (bs.take k))) (fun _ i => bs.length - (intOf i).toNat)
  case atStart => exact ⟨0, Nat.zero_le _, rfl, rfl⟩
  case round =>
    obtain ⟨k, hk, rfl, rfl⟩ := hrel
    by_cases hlt : k < bs.length
    · obtain ⟨b, off, rfl, hb, hcell⟩ := i3 k hlt
      obtain ⟨c, hc⟩ : ∃ c, c = bs[k] := ⟨_, rfl⟩
      rw [← hc] at hcell
      obtain ⟨c0, c1⟩ := u8_bounds c
      have hvb : (valB (bs.take k) : Int) ≤ 16777215 := valB_lt3 _ (by simp; omega)
      go_wp2
      go_round
      case rel => exact ⟨k + 1, by omega, by go_num, by rw [valB_take bs k hlt, or_step _ _ hvb]⟩
      case measure => simp [intOf]; omega
    · have e : k = bs.length := by omega
      have hW : Hid (wrap64 (wrap32 (valB bs)) = int32 (valB bs)) := by
        show wrap64 (wrap32 (valB bs)) = int32 (valB bs)
        rw [wrap_int32 (valB bs) (valB_lt4 bs hl)]
      go_wp2
      go_ret
      exact ⟨ret_i64 hW.out, rfl⟩

set_option maxHeartbeats 1000000 in
theorem inside_any (v : Value) (b : List UInt8) (w : World) (hb : SliceB w.heap.size w v b) :
    Calls Try.prog 44 #[v] w fun e w' => ∃ v', e = .returned (.tuple #[v', .int .i64 (insideF b).1]) ∧ SliceB w.heap.size w v' (insideF b).2 ∧ (∃ n, w' = w.drewN n) := by
  have hb' := hb
  obtain ⟨a, cap, rfl, i1, i2, i0, i3⟩ := hb
  unfold maxLen at i2
  by_cases h1 : b.length < 2
  · go_enter Try.func44, Try.ntmps44
    go_wp2
    refine bodyPost_ret (v := .tuple #[.slice none 0 0, .int .i64 9]) (by simp [results, Try.results44, go_sem, *]) rfl ?_
    have HF : insideF b = (9, []) := by unfold insideF; rw [if_pos h1]
    rw [HF]
    exact ⟨_, rfl, SliceB.nil _ _, 0, rfl⟩
  obtain ⟨b0, off, rfl, hlt, hc0⟩ := i3 0 (by omega)
  obtain ⟨_, _, e, -, hc1⟩ := i3 1 (by omega)
  simp only [Option.some.injEq, Addr.mk.injEq] at e
  obtain ⟨rfl, rfl, -⟩ := e
  obtain ⟨x, hx⟩ : ∃ x, x = b[0] := ⟨_, rfl⟩
  obtain ⟨y, hy⟩ : ∃ y, y = b[1] := ⟨_, rfl⟩
  rw [← hx] at hc0
  rw [← hy] at hc1
  rw [Nat.add_zero] at hc0
  have he : endF b = 2 + x.toNat * 256 + y.toNat := by
    unfold endF
    rw [hx, hy]
    simp [List.getD_eq_getElem?_getD, List.getElem?_eq_getElem, show 0 < b.length by omega, show 1 < b.length by omega]
  obtain ⟨x0, x1⟩ := u8_bounds x
  obtain ⟨y0, y1⟩ := u8_bounds y
  by_cases h2 : 400 < endF b
  · have HF : Hid (insideF b = (4, [])) := by show insideF b = _; unfold insideF; rw [if_neg h1, if_pos h2]
    have h2' : (400 : Int) < 2 + x.toNat * 256 + y.toNat := by omega
    clear h2 he hx hy
    go_enter Try.func44, Try.ntmps44
    go_wp2_with fail
    go_quiet (fail)
    go_wp2
    refine bodyPost_ret (v := .tuple #[.slice none 0 0, .int .i64 4]) (by simp [results, Try.results44, go_sem, *]) rfl ?_
    rw [HF.out]
    refine ⟨_, rfl, SliceB.nil _ _, _, rfl⟩
  · have h2' : ¬ (400 : Int) < 2 + x.toNat * 256 + y.toNat := by omega
    by_cases h3 : b.length < endF b
    · have HF : Hid (insideF b = (9, [])) := by show insideF b = _; unfold insideF; rw [if_neg h1, if_neg h2, if_pos h3]
      have h3' : (b.length : Int) < 2 + x.toNat * 256 + y.toNat := by omega
      clear h2 h3 he hx hy
      go_enter Try.func44, Try.ntmps44
      go_wp2_with fail
      go_quiet (fail)
      go_wp2
      refine bodyPost_ret (v := .tuple #[.slice none 0 0, .int .i64 9]) (by simp [results, Try.results44, go_sem, *]) rfl ?_
      rw [HF.out]
      refine ⟨_, rfl, SliceB.nil _ _, _, rfl⟩
    · have HF : Hid (insideF b = (0, (b.drop 2).take (endF b - 2))) := by show insideF b = _; unfold insideF; rw [if_neg h1, if_neg h2, if_neg h3]
      have h3' : ¬ (b.length : Int) < 2 + x.toNat * 256 + y.toNat := by omega
      have HE : Hid (endF b = 2 + x.toNat * 256 + y.toNat) := he
      clear h2 h3 he hx hy
      go_enter Try.func44, Try.ntmps44
      go_wp2_with fail
      go_quiet (fail)
      go_wp2
      · rename_i hcap
        have hn : 2 + x.toNat * 256 + y.toNat - 2 = 0 := by omega
        refine bodyPost_ret (v := .tuple #[.slice (some ⟨b0, off, none⟩) 0 0, .int .i64 0]) (by simp [results, Try.results44, go_sem, *]) rfl ?_
        rw [HF.out]
        refine ⟨_, rfl, ?_, _, rfl⟩
        have e : (b.drop 2).take (endF b - 2) = [] := by rw [HE.out, hn]; simp
        show SliceB _ _ _ ((b.drop 2).take (endF b - 2))
        rw [e]
        exact ⟨_, 0, rfl, by simp, by simp [maxLen], fun _ => rfl, fun i hi => by simp at hi⟩
      · rename_i hcap
        have hm := slice_mid hb' 2 (2 + x.toNat * 256 + y.toNat - 2) (by omega) (by omega)
        rw [Option.map_some, add_none] at hm
        refine bodyPost_ret (v := .tuple #[.slice (some ⟨b0, off + 2, none⟩) (2 + x.toNat * 256 + y.toNat - 2) (cap - 2), .int .i64 0]) (by simp [results, Try.results44, go_sem, *]) rfl ?_
        rw [HF.out]
        refine ⟨_, rfl, ?_, _, rfl⟩
        show SliceB _ _ _ ((b.drop 2).take (endF b - 2))
        rw [HE.out]; exact hm

theorem nat_beq (a b : Nat) : ((a : Int) == (b : Int)) = (a == b) := by
  rw [Bool.eq_iff_iff]
  simp
  omega
/-- Behind the stores into the result's box, and a box more. -/
theorem two_end {B : Nat} {w1 : World} (a b : Value) (o : Obj) (hB : B < w1.heap.size) : ∀ k, B + 1 ≤ k → k < w1.heap.size → (((w1.setCell ⟨B, 0, none⟩ a).setCell ⟨B, 1, none⟩ b).alloc o).heap[k]? = w1.heap[k]? := fun k h1 h2 => by
  rw [Below.heap_alloc _ _ _ (by simpa using h2), Below.heap_setCell _ _ _ _ (by simp; omega), Below.heap_setCell _ _ _ _ (by simp; omega)]

set_option maxHeartbeats 1000000 in
theorem noteOf_any (v : Value) (r : List UInt8) (has : Bool) (w : World) (hb : SliceB w.heap.size w v r) :
    Calls Try.prog 46 #[v, .bool has] w fun e w' => ∃ va vc ua uc, e = .returned (.tuple #[.agg #[.slice va (noteOfF r has).1.length vc, .slice ua (noteOfF r has).2.1.length uc], .bool (noteOfF r has).2.2]) ∧
      SliceP w'.heap.size w' (.slice va (noteOfF r has).1.length vc) (noteOfF r has).1 ∧ SliceB w'.heap.size w' (.slice ua (noteOfF r has).2.1.length uc) (noteOfF r has).2.1 ∧ Below w.heap.size w w' ∧ FreshV w.heap.size (.slice va (noteOfF r has).1.length vc) ∧ FreshV w.heap.size (.slice ua (noteOfF r has).2.1.length uc) := by
  have hb' := hb
  obtain ⟨a, cap, rfl, i1, i2, -, -⟩ := hb
  clear i2
  cases has with
  | false =>
    have HF : Hid (noteOfF r false = ([], [], r.length == 0)) := by show noteOfF r false = _; simp [noteOfF]
    go_enter Try.func46, Try.ntmps46
    go_wp2
    refine bodyPost_ret (v := .tuple #[.agg #[.slice none 0 0, .slice none 0 0], .bool ((r.length : Int) == 0)]) (by simp [results, Try.results46, go_sem, *]) rfl ?_
    rw [HF.out]
    have e : ((r.length : Int) == 0) = (r.length == 0) := nat_beq r.length 0
    rw [e]
    exact ⟨_, _, _, _, rfl, SliceP.nil _ _, SliceB.nil _ _, below_alloc w _, fresh_nil _, fresh_nil _⟩
  | true =>
    have HF : Hid (noteOfF r true = ((parseF r).2.1, (parseF r).2.2.1, (parseF r).1 == 0 && (parseF r).2.2.2 == r.length)) := by show noteOfF r true = _; simp [noteOfF]
    have HP : ∀ W, SliceB W.heap.size W (.slice a r.length cap) r → _ := fun W h => parse_fv (.slice a r.length cap) r W h
    obtain ⟨P, hP⟩ : ∃ P, P = parseF r := ⟨_, rfl⟩
    rw [← hP] at HF HP
    clear hP
    obtain ⟨err, ps, body, size⟩ := P
    simp only at HF HP
    by_cases h0 : err = 0
    · subst h0
      go_enter Try.func46, Try.ntmps46
      go_wp2_with (go_at_call 57; refine (HP _ (hb'.below (below_alloc _ _))).mono ?_; rintro e w1 ⟨va, vc, ua, uc, rfl, hv1, hu1, hb1, hp1, hp2⟩; obtain ⟨hc1, hf1⟩ := bcell hb1; have hz1 := hb1.size; simp at hz1; have hlt1 : w.heap.size < w1.heap.size := (by omega))
      refine bodyPost_ret (v := .tuple #[.agg #[.slice va ps.length vc, .slice ua body.length uc], .bool ((size : Int) == r.length)]) (by simp [results, Try.results46, go_sem, *]) rfl ?_
      rw [HF.out]
      have e : ((size : Int) == r.length) = ((0 : Int) == 0 && size == r.length) := by rw [nat_beq]; rfl
      rw [e]
      refine ⟨_, _, _, _, rfl, ?_, ?_, ?_, hp1.mono (by simp), hp2.mono (by simp)⟩
      · exact (hv1.from_ hp1 (fun k h1 h2 => two_end _ _ _ hlt1 k (by simpa using h1) h2)).mono (by simp)
      · exact (hu1.from_ hp2 (fun k h1 h2 => two_end _ _ _ hlt1 k (by simpa using h1) h2)).mono (by simp)
      · exact ((((below_alloc w _).trans (hb1.mono (by simp))).setCell (by simp) _).setCell (by simp) _).alloc (by simp; omega) _
    · have h0' : (err == 0) = false := by simpa using h0
      go_enter Try.func46, Try.ntmps46
      go_wp2_with (go_at_call 57; refine (HP _ (hb'.below (below_alloc _ _))).mono ?_; rintro e w1 ⟨va, vc, ua, uc, rfl, hv1, hu1, hb1, hp1, hp2⟩; obtain ⟨hc1, hf1⟩ := bcell hb1; have hz1 := hb1.size; simp at hz1; have hlt1 : w.heap.size < w1.heap.size := (by omega))
      refine bodyPost_ret (v := .tuple #[.agg #[.slice va ps.length vc, .slice ua body.length uc], .bool false]) (by simp [results, Try.results46, go_sem, *]) rfl ?_
      rw [HF.out]
      have e : (err == 0 && size == r.length) = false := by rw [h0']; rfl
      rw [e]
      refine ⟨_, _, _, _, rfl, ?_, ?_, ?_, hp1.mono (by simp), hp2.mono (by simp)⟩
      · exact (hv1.from_ hp1 (fun k h1 h2 => two_end _ _ _ hlt1 k (by simpa using h1) h2)).mono (by simp)
      · exact (hu1.from_ hp2 (fun k h1 h2 => two_end _ _ _ hlt1 k (by simpa using h1) h2)).mono (by simp)
      · exact ((((below_alloc w _).trans (hb1.mono (by simp))).setCell (by simp) _).setCell (by simp) _).alloc (by simp; omega) _
end Go.Proofs.Ytnfmidbbelgldaa
