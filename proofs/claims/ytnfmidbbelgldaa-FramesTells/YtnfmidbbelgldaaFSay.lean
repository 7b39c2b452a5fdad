/-
  frames.sayOf reads what sayOfF says.
-/
import Derived.Test.YtnfmidbbelgldaaFAsk
namespace Go.Proofs.Ytnfmidbbelgldaa
open Go.RowKit
set_option linter.unusedVariables false
set_option linter.unusedSimpArgs false

attribute [local go_sem ↓] Go.wp_at_zero Go.wp_at_succ

/-- An answer that is told, and a word beside it. -/
def ToldSay (a : SD) (z : Value) (w : World) (e : Ending) (w' : World) : Prop :=
  ∃ va vc ua uc, e = .returned (.tuple #[.agg #[.int .i64 a.kind, .int .i64 a.n, .int .i64 a.m, .int .i64 a.err, .slice va a.ps.length vc, .slice ua a.body.length uc], z]) ∧
    SliceP w'.heap.size w' (.slice va a.ps.length vc) a.ps ∧ SliceB w'.heap.size w' (.slice ua a.body.length uc) a.body ∧ Below w.heap.size w w' ∧ FreshV w.heap.size (.slice va a.ps.length vc) ∧ FreshV w.heap.size (.slice ua a.body.length uc)
theorem told_say_off {a : SD} {z : Value} {w wc w' : World} {k n m e : Int} {ps : List PD} {body : List UInt8} {va ua : Option Addr} {vc uc : Nat} (ha : a = ⟨k, n, m, e, ps, body⟩) (off : OffB w.heap.size wc w') (hv : SliceP wc.heap.size wc (.slice va ps.length vc) ps) (hu : SliceB wc.heap.size wc (.slice ua body.length uc) body) (hb : Below w.heap.size w wc)
    (hp : FreshV (w.heap.size + 2) (.slice va ps.length vc)) (hq : FreshV (w.heap.size + 2) (.slice ua body.length uc)) :
    ToldSay a z w (.returned (.tuple #[.agg #[.int .i64 k, .int .i64 n, .int .i64 m, .int .i64 e, .slice va ps.length vc, .slice ua body.length uc], z])) w' := by
  subst ha
  refine ⟨va, vc, ua, uc, rfl, ?_, ?_, ?_, hp.mono (by omega), hq.mono (by omega)⟩
  · rw [off.size]; exact hv.from_ hp (fun k h1 _ => off.block k (.inr h1))
  · rw [off.size]; exact hu.from_ hq (fun k h1 _ => off.block k (.inr h1))
  · exact ⟨off.os.trans hb.os, off.tape.trans hb.tape, off.output.trans hb.output, by rw [off.size]; exact hb.size, fun k hk => (off.block k (.inl hk)).trans (hb.block k hk)⟩
theorem four_b {B : Nat} {w : World} {b0 off cap : Nat} {l : List UInt8} (hl : l.length = 4) (hc : 4 ≤ cap) (hm : cap ≤ maxLen) (hb : b0 < B) (h : ∀ j (hj : j < l.length), w.cell? ⟨b0, off + j, none⟩ = some (.int .u8 l[j].toNat)) : SliceB B w (.slice (some ⟨b0, off, none⟩) 4 cap) l := by
  refine ⟨_, cap, by rw [hl], by omega, hm, fun e => by simp at e, fun j hj => ⟨b0, off, rfl, hb, h j hj⟩⟩

set_option maxRecDepth 100000 in
set_option maxHeartbeats 4000000 in
theorem sayOf_any (v : Value) (i : List UInt8) (w : World) (hb : SliceB w.heap.size w v i) (hil : i.length ≤ 400) :
    Calls Try.prog 41 #[v] w (ToldSay (sayOfF i).1 (.bool (sayOfF i).2) w) := by
  have hb' := hb
  obtain ⟨a, cap, rfl, i1, i2, i0, i3⟩ := hb
  by_cases h1 : i.length < 7
  · have HF : Hid (sayOfF i = (SD.zero, false)) := by show sayOfF i = _; unfold sayOfF; rw [if_pos h1]
    go_enter Try.func41, Try.ntmps41
    go_wp2
    refine bodyPost_ret (v := .tuple #[.agg #[.int .i64 0, .int .i64 0, .int .i64 0, .int .i64 0, .slice none 0 0, .slice none 0 0], .bool false]) (by simp [results, Try.results41, go_sem, *]) rfl ?_
    rw [HF.out]
    exact ⟨_, _, _, _, rfl, SliceP.nil _ _, SliceB.nil _ _, below_alloc w _, fresh_nil _, fresh_nil _⟩
  obtain ⟨i2', e0⟩ : ∃ n, n = cap := ⟨_, rfl⟩
  obtain ⟨b0, off, rfl, hlt, hc0⟩ := i3 0 (by omega)
  have hcs : ∀ j (hj : j < i.length), w.cell? ⟨b0, off + j, none⟩ = some (.int .u8 i[j].toNat) := fun j hj => by
    obtain ⟨b', off', e, -, hc⟩ := i3 j hj
    simp only [Option.some.injEq, Addr.mk.injEq] at e
    obtain ⟨rfl, rfl, -⟩ := e
    exact hc
  clear hc0
  obtain ⟨x0, x1, x2, x3, x4, x5, x6, r, hr⟩ : ∃ x0 x1 x2 x3 x4 x5 x6 r, i = x0 :: x1 :: x2 :: x3 :: x4 :: x5 :: x6 :: r := by
    rcases i with _ | ⟨x0, _ | ⟨x1, _ | ⟨x2, _ | ⟨x3, _ | ⟨x4, _ | ⟨x5, _ | ⟨x6, r⟩⟩⟩⟩⟩⟩⟩
    all_goals first | (exfalso; revert h1; simp; done) | exact ⟨_, _, _, _, _, _, _, _, rfl⟩
  have hg : ∀ j (hj : j < 7), w.cell? ⟨b0, off + j, none⟩ = some (.int .u8 ([x0, x1, x2, x3, x4, x5, x6][j]).toNat) := fun j hj => by
    rw [hcs j (by omega)]
    subst hr
    rcases j with _ | _ | _ | _ | _ | _ | _ | j
    all_goals first | rfl | omega
  have d0 := hg 0 (by omega)
  have d1 := hg 1 (by omega)
  have d2 := hg 2 (by omega)
  have d3 := hg 3 (by omega)
  have d4 := hg 4 (by omega)
  have d5 := hg 5 (by omega)
  have d6 := hg 6 (by omega)
  simp only [List.getElem_cons_zero, List.getElem_cons_succ, Nat.add_zero] at d0 d1 d2 d3 d4 d5 d6
  have HR : Hid (i = x0 :: x1 :: x2 :: x3 :: x4 :: x5 :: x6 :: r) := hr
  clear hr hg hcs i3 i0 e0 i2'
  have hm := i2
  unfold maxLen at i2
  obtain ⟨k, hk⟩ : ∃ k : Int, k = x0.toNat := ⟨_, rfl⟩
  obtain ⟨m, hm'⟩ : ∃ m : Int, m = x5.toNat := ⟨_, rfl⟩
  obtain ⟨e, he⟩ : ∃ e : Int, e = x6.toNat := ⟨_, rfl⟩
  obtain ⟨k0, k1⟩ := u8_bounds x0
  obtain ⟨m0, m1⟩ := u8_bounds x5
  obtain ⟨e0, e1⟩ := u8_bounds x6
  obtain ⟨n, hn⟩ : ∃ n : Int, n = int32 (valB [x1, x2, x3, x4]) := ⟨_, rfl⟩
  rw [← hk] at d0 k0 k1
  rw [← hm'] at d5 m0 m1
  rw [← he] at d6 e0 e1
  have hw0 : IntKind.i64.wrap k = k := by rw [IntKind.wrap_i64]; omega
  have hw1 : IntKind.i64.wrap m = m := by rw [IntKind.wrap_i64]; omega
  have hw2 : IntKind.i64.wrap e = e := by rw [IntKind.wrap_i64]; omega
  have hn1 : ∀ W, Below w.heap.size w W → Calls Try.prog 45 #[.slice (some ⟨b0, off + 1, none⟩) 4 (cap - 1)] W fun e w' => e = .returned (.int .i64 n) ∧ w' = W := fun W hW => by
    have g1 := (hW.cell (p := ⟨b0, off + 1, none⟩) hlt).trans d1
    have g2 := (hW.cell (p := ⟨b0, off + 2, none⟩) hlt).trans d2
    have g3 := (hW.cell (p := ⟨b0, off + 3, none⟩) hlt).trans d3
    have g4 := (hW.cell (p := ⟨b0, off + 4, none⟩) hlt).trans d4
    rw [hn]
    refine fnumber_any _ [x1, x2, x3, x4] (b0 + 1) W (four_b rfl (by omega) (by unfold maxLen at *; omega) (by omega) ?_) (by simp)
    intro j hj
    rcases j with _ | _ | _ | _ | j
    · exact g1
    · exact g2
    · exact g3
    · exact g4
    · exfalso; simp at hj; omega
  have HN1 : Hid (k = x0.toNat ∧ m = x5.toNat ∧ e = x6.toNat ∧ n = int32 (valB [x1, x2, x3, x4])) := ⟨hk, hm', he, hn⟩
  clear hk hm' he hn
  have hi0 : 0 < i.length := by omega
  have hi5 : (5 : Int) < (i.length : Int) := by omega
  have hi6 : (6 : Int) < (i.length : Int) := by omega
  have hi7 : ¬ (i.length : Int) < 7 := by omega
  have hs1 : (5 : Int) ≤ (cap : Int) := by omega
  have hs2 : ¬ cap = 1 := by omega
  go_enter Try.func41, Try.ntmps41
  go_upto_region 3 with fail
  go_cut [4] (fun p wx => p = .pointer (some ⟨w.heap.size + 1, 0, none⟩) ∧ wx = ((w.alloc (.cells #[.int .i64 0, .int .i64 0, .int .i64 0, .int .i64 0, .slice none 0 0, .slice none 0 0] 30)).alloc (.cells #[.int .i64 k, .int .i64 n, .int .i64 m, .int .i64 e, .slice none 0 0, .slice none 0 0] 30)).drew)
  case first =>
    have g0 : ∀ o, b0 < (w.alloc o).heap.size := fun o => by simp; omega
    have gn : w.heap.size ≠ b0 := by omega
    have gn1 : w.heap.size + 1 ≠ b0 := by omega
    go_region_held3 (fun w' => w'.cell? ⟨b0, off, none⟩ = some (.int .u8 k) ∧ w'.cell? ⟨b0, off + 1, none⟩ = some (.int .u8 x1.toNat) ∧ w'.cell? ⟨b0, off + 2, none⟩ = some (.int .u8 x2.toNat) ∧ w'.cell? ⟨b0, off + 3, none⟩ = some (.int .u8 x3.toNat) ∧ w'.cell? ⟨b0, off + 4, none⟩ = some (.int .u8 x4.toNat) ∧ w'.cell? ⟨b0, off + 5, none⟩ = some (.int .u8 m) ∧ w'.cell? ⟨b0, off + 6, none⟩ = some (.int .u8 e)) (go_keep) (first
      | (go_at_call 45; refine (hn1 _ (by first | exact (below_alloc w _).drew | exact ((below_alloc w _).alloc (by simp) _).drew)).mono ?_; rintro e w1 ⟨rfl, rfl⟩))
    all_goals (go_wp2_with fail; go_meet; exact ⟨rfl, rfl⟩)
  case rest =>
    obtain ⟨rfl, rfl⟩ := hcut
    obtain ⟨X, hX⟩ : ∃ X, X = ((w.alloc (.cells #[.int .i64 0, .int .i64 0, .int .i64 0, .int .i64 0, .slice none 0 0, .slice none 0 0] 30)).alloc (.cells #[.int .i64 k, .int .i64 n, .int .i64 m, .int .i64 e, .slice none 0 0, .slice none 0 0] 30)).drew := ⟨_, rfl⟩
    have XB : Below w.heap.size w X := by rw [hX]; exact ((below_alloc w _).alloc (by simp) _).drew
    have XZ : X.heap.size = w.heap.size + 2 := by rw [hX]; simp
    have X6 : X.heap[w.heap.size + 1]? = some (.cells #[.int .i64 k, .int .i64 n, .int .i64 m, .int .i64 e, .slice none 0 0, .slice none 0 0] 30 (0, 0)) := by
      have := heap_alloc_new (w.alloc (.cells #[.int .i64 0, .int .i64 0, .int .i64 0, .int .i64 0, .slice none 0 0, .slice none 0 0] 30)) (.cells #[.int .i64 k, .int .i64 n, .int .i64 m, .int .i64 e, .slice none 0 0, .slice none 0 0] 30)
      rw [World.size_alloc] at this
      rw [hX]; exact this
    have X2 : X.heap[w.heap.size]? = some (.cells #[.int .i64 0, .int .i64 0, .int .i64 0, .int .i64 0, .slice none 0 0, .slice none 0 0] 30 (0, 0)) := by
      rw [hX]; exact (Below.heap_alloc _ _ _ (by simp)).trans (heap_alloc_new w _)
    rw [← hX]
    clear hX hn1 d0 d1 d2 d3 d4 d5 d6
    have c0 : X.cell? ⟨w.heap.size + 1, 0, none⟩ = some (.int .i64 k) := by rw [cell_of_row X (w.heap.size + 1) 0 _ 30 (0, 0) X6]; rfl
    have HS : ∀ W, Below w.heap.size w W → ∀ sa sn sc, (cap = 7 ∧ sa = some (⟨b0, off, none⟩ : Addr) ∨ ¬ cap = 7 ∧ sa = some ⟨b0, off + 7, none⟩) → sn = i.length - 7 → sc = cap - 7 → SliceB W.heap.size W (.slice sa sn sc) (i.drop 7) := fun W hW sa sn sc h1 h2 h3 => by
      subst h2 h3
      exact slice_tail (hb'.below hW) 7 _ (by omega) h1 rfl
    have H6 : Hid (X.heap[w.heap.size + 1]? = some (.cells #[.int .i64 k, .int .i64 n, .int .i64 m, .int .i64 e, .slice none 0 0, .slice none 0 0] 30 (0, 0))) := X6
    have H2 : Hid (X.heap[w.heap.size]? = some (.cells #[.int .i64 0, .int .i64 0, .int .i64 0, .int .i64 0, .slice none 0 0, .slice none 0 0] 30 (0, 0))) := X2
    clear X6 X2
    have ht2 : (7 : Int) ≤ (i.length : Int) := by omega
    obtain ⟨N, hN⟩ : ∃ N, N = noteOfF (i.drop 7) (k == 2) := ⟨_, rfl⟩
    have HNote : ∀ W v, SliceB W.heap.size W v (i.drop 7) → Calls Try.prog 46 #[v, .bool (k == 2)] W fun e w' => ∃ va vc ua uc, e = .returned (.tuple #[.agg #[.slice va N.1.length vc, .slice ua N.2.1.length uc], .bool N.2.2]) ∧
        SliceP w'.heap.size w' (.slice va N.1.length vc) N.1 ∧ SliceB w'.heap.size w' (.slice ua N.2.1.length uc) N.2.1 ∧ Below W.heap.size W w' ∧ FreshV W.heap.size (.slice va N.1.length vc) ∧ FreshV W.heap.size (.slice ua N.2.1.length uc) := by
      rw [hN]; exact fun W v h => noteOf_any v _ _ W h
    have HN : Hid (N = noteOfF (i.drop 7) (k == 2)) := hN
    clear hN
    go_upto_region 4 with fail
    go_cut [5, 6] (fun p j wx => Mid w.heap.size 30 #[.int .i64 k, .int .i64 n, .int .i64 m, .int .i64 e, .slice none 0 0, .slice none 0 0] #[.int .i64 0, .int .i64 0, .int .i64 0, .int .i64 0, .slice none 0 0, .slice none 0 0] N w p j wx)
    case first =>
      by_cases hcap : cap = 7
      · subst hcap
        go_region_held3 (fun w' => w'.cell? ⟨w.heap.size + 1, 0, none⟩ = some (.int .i64 k)) (go_keep) (first
          | (go_at_call 46; refine (HNote _ _ (HS _ (by first | exact XB | exact XB.drew | exact (XB.alloc (by omega) _).drew) _ _ _ (by first | exact Or.inl ⟨by omega, rfl⟩ | exact Or.inr ⟨by omega, rfl⟩) (by omega) (by omega))).mono ?_; rintro e w3 ⟨va, vc, ua, uc, rfl, hv3, hu3, hb3, hp3, hq3⟩; obtain ⟨hc3, hf3⟩ := bcell hb3; have hz3 := hb3.size; simp at hz3))
        all_goals (go_wp2_with fail; go_meet; first | exact mid_first XB XZ H6.out H2.out rfl hv3 hu3 hb3 hp3 hq3 | exact mid_last XB XZ H6.out H2.out hv3 hu3 hb3 hp3 hq3)
      · go_region_held3 (fun w' => w'.cell? ⟨w.heap.size + 1, 0, none⟩ = some (.int .i64 k)) (go_keep) (first
          | (go_at_call 46; refine (HNote _ _ (HS _ (by first | exact XB | exact XB.drew | exact (XB.alloc (by omega) _).drew) _ _ _ (by first | exact Or.inl ⟨by omega, rfl⟩ | exact Or.inr ⟨by omega, rfl⟩) (by omega) (by omega))).mono ?_; rintro e w3 ⟨va, vc, ua, uc, rfl, hv3, hu3, hb3, hp3, hq3⟩; obtain ⟨hc3, hf3⟩ := bcell hb3; have hz3 := hb3.size; simp at hz3))
        all_goals (go_wp2_with fail; go_meet; first | exact mid_first XB XZ H6.out H2.out rfl hv3 hu3 hb3 hp3 hq3 | exact mid_last XB XZ H6.out H2.out hv3 hu3 hb3 hp3 hq3)
    case rest =>
      obtain ⟨pb, va, vc, ua, uc, rfl, rfl, hpb, B7, hv, hu, hp, hq, hbel, B6, B2⟩ := hcut
      have p0 := row_c B7 0
      have p1 := row_c B7 1
      have q0 := row_c B6 0
      have q1 := row_c B6 1
      have q2 := row_c B6 2
      have q3 := row_c B6 3
      have q4 := row_c B6 4
      have q5 := row_c B6 5
      have r0 := row_c B2 0
      have r1 := row_c B2 1
      have r2 := row_c B2 2
      have r3 := row_c B2 3
      have r4 := row_c B2 4
      have r5 := row_c B2 5
      simp only [List.getElem?_toArray, List.getElem?_cons_zero, List.getElem?_cons_succ] at p0 p1 q0 q1 q2 q3 q4 q5 r0 r1 r2 r3 r4 r5
      have f6 := row_f B6
      have f2 := row_f B2
      have n7 : pb ≠ w.heap.size := by omega
      have n8 : pb ≠ w.heap.size + 1 := by omega
      clear B7 B6 B2
      go_wp2
      refine bodyPost_ret (v := .tuple #[.agg #[.int .i64 k, .int .i64 n, .int .i64 m, .int .i64 e, .slice va N.1.length vc, .slice ua N.2.1.length uc], .bool N.2.2]) (by simp [results, Try.results41, go_sem, *]) rfl ?_
      have HF : sayOfF i = (⟨k, n, m, e, N.1, N.2.1⟩, N.2.2) := by
        obtain ⟨a1, a2, a3, a4⟩ := HN1.out
        unfold sayOfF
        rw [HN.out, if_neg h1, a1, a2, a3, a4, HR.out]
        rfl
      rw [HF]
      refine told_say_off rfl ?_ hv hu hbel hp hq
      iterate 8 refine OffB.set ?_ (by omega) (by omega) _
      exact OffB.refl _ _
end Go.Proofs.Ytnfmidbbelgldaa
