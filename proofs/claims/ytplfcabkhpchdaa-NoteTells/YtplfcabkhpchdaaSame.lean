/-
  note.Same tells whether two notes read the same; note.Own answers a note that reads as the given one.
-/
import Derived.Test.YtplfcabkhpchdaaEqual
import Derived.Deep.RegionLaw
namespace Go.Proofs.Ytplfcabkhpchdaa
open Go.RowKit Classical
set_option linter.unusedVariables false
set_option linter.unusedSimpArgs false

attribute [local go_sem ↓] Go.wp_at_zero Go.wp_at_succ

theorem SliceP.below {w w' : World} {v : Value} {ps : List PD} (h : SliceP w.heap.size w v ps) (hb : Below w.heap.size w w') : SliceP w'.heap.size w' v ps := (h.same hb.block).mono hb.size
theorem SliceB.below {w w' : World} {v : Value} {bs : List UInt8} (h : SliceB w.heap.size w v bs) (hb : Below w.heap.size w w') : SliceB w'.heap.size w' v bs := (h.same hb.block).mono hb.size
theorem below_alloc (w : World) (o : Obj) : Below w.heap.size w (w.alloc o) := (Below.refl _ _).alloc (Nat.le_refl _) _

set_option maxHeartbeats 1000000 in
theorem same_any (v u v' u' : Value) (ps qs : List PD) (a b : List UInt8) (w : World) (hv : SliceP w.heap.size w v ps) (hu : SliceB w.heap.size w u a) (hv' : SliceP w.heap.size w v' qs) (hu' : SliceB w.heap.size w u' b) :
    Calls Try.prog 9 #[.agg #[v, u], .agg #[v', u']] w fun e w' => e = .returned (.bool (decide (ps = qs ∧ a = b))) ∧ Below w.heap.size w w' := by
  have k1 := fun o1 o2 => ((hv.below (below_alloc w o1)).below (below_alloc (w.alloc o1) o2))
  have k2 := fun o1 o2 => ((hu.below (below_alloc w o1)).below (below_alloc (w.alloc o1) o2))
  have k3 := fun o1 o2 => ((hv'.below (below_alloc w o1)).below (below_alloc (w.alloc o1) o2))
  have k4 := fun o1 o2 => ((hu'.below (below_alloc w o1)).below (below_alloc (w.alloc o1) o2))
  obtain ⟨va, vc, rfl, v1, v2, v3, v4⟩ := hv
  obtain ⟨ua, uc, rfl, u1, u2, u3, u4⟩ := hu
  obtain ⟨xa, xc, rfl, x1, x2, x3, x4⟩ := hv'
  obtain ⟨ya, yc, rfl, y1, y2, y3, y4⟩ := hu'
  have two : ∀ o1 o2 : Obj, ∀ k, k < w.heap.size → ((w.alloc o1).alloc o2).heap[k]? = w.heap[k]? := fun o1 o2 k hk => (Below.heap_alloc _ _ _ (by simp; omega)).trans (Below.heap_alloc _ _ _ hk)
  have z1 : Hid (ps.length ≤ maxLen ∧ qs.length ≤ maxLen) := ⟨by omega, by omega⟩
  have V4 : Hid (PropsAt w.heap.size w va ps) := v4
  have X4 : Hid (PropsAt w.heap.size w xa qs) := x4
  have K2 : Hid (∀ o1 o2 : Obj, SliceB ((w.alloc o1).alloc o2).heap.size ((w.alloc o1).alloc o2) (.slice ua a.length uc) a) := k2
  have K4 : Hid (∀ o1 o2 : Obj, SliceB ((w.alloc o1).alloc o2).heap.size ((w.alloc o1).alloc o2) (.slice ya b.length yc) b) := k4
  have TW : Hid (∀ o1 o2 : Obj, ∀ k, k < w.heap.size → ((w.alloc o1).alloc o2).heap[k]? = w.heap[k]?) := two
  clear v1 v2 v3 u1 u2 u3 x1 x2 x3 y1 y2 y3 k1 k2 k3 k4 v4 u4 x4 y4 two
  cases h : decide (ps = qs)
  · have hr : Hid (decide (ps = qs ∧ a = b) = false) := by show decide _ = false; simp at h ⊢; intro e; exact absurd e h
    go_enter Try.func9, Try.ntmps9
    go_wp2_with (go_at_call 18; refine (propsEqual_any va xa vc xc ps qs w.heap.size w.heap.size _ (V4.out.same (TW.out _ _)) (X4.out.same (TW.out _ _)) z1.out.1 z1.out.2).mono ?_; rintro e w1 ⟨rfl, hb1⟩)
    go_ret
    exact ⟨ret_bool hr.out.symm, ((below_alloc _ _).alloc (by simp) _).trans (hb1.mono (by simp; omega))⟩
  · have hr : Hid (decide (ps = qs ∧ a = b) = decide (a = b)) := by show decide _ = _; simp at h ⊢; intro _; exact h
    go_enter Try.func9, Try.ntmps9
    go_wp2_with (first
      | (go_at_call 18; refine (propsEqual_any va xa vc xc ps qs w.heap.size w.heap.size _ (V4.out.same (TW.out _ _)) (X4.out.same (TW.out _ _)) z1.out.1 z1.out.2).mono ?_; rintro e w1 ⟨rfl, hb1⟩; obtain ⟨c1, c2⟩ := bcell hb1)
      | (go_at_call 19; refine (bytesEqual_any a b _ _ _ _ _ ((K2.out _ _).below hb1) ((K4.out _ _).below hb1)).mono ?_; rintro e w2 ⟨rfl, rfl⟩))
    go_ret
    exact ⟨ret_bool hr.out.symm, ((below_alloc _ _).alloc (by simp) _).trans (hb1.mono (by simp; omega))⟩

theorem cells_one (p : PD) : ∀ u ∈ p.cells, u.oneCell' = true := by
  intro u hu
  simp only [PD.cells, List.mem_cons, List.not_mem_nil, or_false] at hu
  rcases hu with rfl | rfl | rfl | rfl <;> rfl
theorem cellsL_one (ps : List PD) : ∀ u ∈ cellsL ps, u.oneCell' = true := by
  intro u hu
  simp only [cellsL, List.mem_flatMap] at hu
  obtain ⟨p, _, hp⟩ := hu
  exact cells_one p u hp

theorem props_news {B : Nat} {w : World} {ad : Addr} {ps : List PD} (h : PropsAt B w (some ad) ps) : ∀ j x, (cellsL ps)[j]? = some x → w.cell? (ad.add j) = some x := by
  intro j x hj
  have hjl : j < ps.length * 4 := by
    rcases Nat.lt_or_ge j (ps.length * 4) with h | h
    · exact h
    · simp [List.getElem?_eq_none (show (cellsL ps).length ≤ j by rw [cellsL_len]; exact h)] at hj
  obtain ⟨b, off, e, _, c0, c1, c2, c3⟩ := h (j / 4) (by omega)
  simp only [Option.some.injEq] at e
  subst e
  have hje : j = j / 4 * 4 + j % 4 := by omega
  have hc := cellsL_at ps (j / 4) (j % 4) (by omega) (by omega)
  rw [← hje, hj] at hc
  have h4 : j % 4 = 0 ∨ j % 4 = 1 ∨ j % 4 = 2 ∨ j % 4 = 3 := by omega
  rw [add_none]
  rcases h4 with h4 | h4 | h4 | h4 <;> rw [h4] at hc <;> simp only [PD.cells, List.getElem?_cons_zero, List.getElem?_cons_succ, Option.some.injEq] at hc <;> rw [hc]
  · rw [show off + j = off + j / 4 * 4 by omega]; exact c0
  · rw [show off + j = off + j / 4 * 4 + 1 by omega]; exact c1
  · rw [show off + j = off + j / 4 * 4 + 2 by omega]; exact c2
  · rw [show off + j = off + j / 4 * 4 + 3 by omega]; exact c3

/-- 'append(out, props...)', out the call's own. -/
theorem run_appP (w : World) (ty : TypeId) (base : Nat) (v : Value) (n : Nat) (xs : List Value) (hown : w.ownsRow base 38 4 v n xs) (B : Nat) (u : Value) (ps : List PD) (hu : SliceP B w u ps)
    (hb : (n + ps.length) * 48 ≤ 140737488355328) (hbase : base ≤ w.heap.size) :
    ∃ ao cap w', (Builtin.append_ #[22, 22] ty #[v, u]).run Try.prog w = .ok (.slice ao (n + ps.length) cap) w' ∧ w'.ownsRow base 38 4 (.slice ao (n + ps.length) cap) (n + ps.length) (xs ++ cellsL ps) ∧ w.grownBy w' v.ownBlock := by
  obtain ⟨i0, hi0, hz0, hz1, hz2⟩ := info_parts info38
  obtain ⟨a, cap, rfl, h1, h2, hn, h3⟩ := hu
  cases a with
  | none =>
    have hc := hn rfl
    have hl : ps.length = 0 := by omega
    obtain rfl : ps = [] := List.length_eq_zero_iff.1 hl
    subst hc
    have hr := run_append_owned_none (P := Try.prog) (w := w) base 22 ty 38 i0 4 Try.underlying22 hi0 v n xs hown
    obtain ⟨ao, cp, rfl, _⟩ := own_shape hown
    exact ⟨ao, cp, w, hr, by simpa [cellsL] using hown, grownBy_refl _ _⟩
  | some ad =>
    obtain ⟨v', w', hr, ho, hg, _⟩ := run_append_own (P := Try.prog) w base 22 ty 38 i0 _ 4 48 Try.underlying22 hi0 hz0 hz1 hz2 rfl (by omega) v n xs hown ad ps.length cap (cellsL ps) (cellsL_len ps) (props_news h3) (cellsL_one ps) (by unfold maxLen; omega) (by omega) hbase
    obtain ⟨ao, cp, rfl, _⟩ := own_shape ho
    exact ⟨ao, cp, w', hr, ho, hg⟩

theorem step_appP {w : World} {ops : Array Oper} {o : Oper} {a : Act} {Q : Exit → Act → World → Prop} {K : Act → World → Prop} {E : Prop} (hgd : o.guard = none) (s x : Operand) (ho : o.op = .call { callee := .builtin .append, args := #[s, x], argTypes := #[22, 22] })
    (base : Nat) (v : Value) (n : Nat) (xs : List Value) (hs : a.eval s = v) (hown : w.ownsRow base 38 4 v n xs) (B : Nat) (u : Value) (ps : List PD) (hx : a.eval x = u) (hu : SliceP B w u ps)
    (hb : (n + ps.length) * 48 ≤ 140737488355328) (hbase : base ≤ w.heap.size)
    (h : ∀ ao cap w', w'.ownsRow base 38 4 (.slice ao (n + ps.length) cap) (n + ps.length) (xs ++ cellsL ps) → w.grownBy w' v.ownBlock → K (a.put o.dst (.slice ao (n + ps.length) cap)) w') :
    if Region.wanted o (yielded ops a.tmps) = true then Oper.wp Try.prog o a w K Q else E := by
  have hw : Region.wanted o (yielded ops a.tmps) = true := by simp [Region.wanted, hgd]
  rw [if_pos hw]
  obtain ⟨ao, cap, w', hr, h1, h2⟩ := run_appP w o.type base v n xs hown B u ps hu hb hbase
  exact wp_app_of s x ho hs hx hr (h ao cap w' h1 h2)

theorem nil_below {w w' : World} (h : w.grownBy w' (Value.slice none 0 0).ownBlock) : Below w.heap.size w w' :=
  ⟨h.os, h.tape, h.output, h.size, fun k hk => h.block k hk (by simp [Value.ownBlock])⟩

set_option maxRecDepth 100000 in
set_option maxHeartbeats 3200000 in
theorem own_any (v u : Value) (ps : List PD) (a : List UInt8) (w : World) (hv : SliceP w.heap.size w v ps) (hu : SliceB w.heap.size w u a) (hpl : ps.length * 48 ≤ 140737488355328) (hbl : a.length ≤ 140737488355328) :
    Calls Try.prog 11 #[.agg #[v, u]] w fun e w' => ∃ v' u', e = .returned (.agg #[v', u']) ∧ SliceP w'.heap.size w' v' ps ∧ SliceB w'.heap.size w' u' a ∧ Below w.heap.size w w' := by
  have KP : Hid (SliceP w.heap.size w v ps) := hv
  have KB : Hid (SliceB w.heap.size w u a) := hu
  obtain ⟨va, vc, rfl, -⟩ := hv
  obtain ⟨ua, uc, rfl, -⟩ := hu
  have two : Hid (∀ o1 o2 : Obj, Below w.heap.size w ((w.alloc o1).alloc o2)) := fun o1 o2 => (below_alloc _ _).alloc (by simp) _
  go_enter Try.func11, Try.ntmps11
  go_wp2_with fail
  go_region_held3 (fun w' => w'.cell? ⟨w.heap.size, 0, none⟩ = some (.slice va ps.length vc) ∧ w'.cell? ⟨w.heap.size, 1, none⟩ = some (.slice ua a.length uc)) (go_keep)
    (first
      | (refine step_appP (by rfl) _ _ (by rfl) (w.heap.size + 2) (.slice none 0 0) 0 [] (by rfl) (World.ownsRow_nil _ _ _ _) w.heap.size (.slice va ps.length vc) ps (by rfl) (KP.out.same (two.out _ _).block) (by omega) (by simp) ?_; intro ao cap wP hownP hgP; obtain ⟨p1, p2⟩ := bcellx hgP w.heap.size (by simp; omega); obtain ⟨p3, p4⟩ := bcellx hgP (w.heap.size + 1) (by simp); have hzP : w.heap.size + 2 ≤ wP.heap.size := (by have := hgP.size; simp at this; omega))
      | (refine step_app (by rfl) _ _ (by rfl) (w.heap.size + 2) (.slice none 0 0) 0 [] (by rfl) (World.ownsRow_nil _ _ _ _) w.heap.size (.slice ua a.length uc) a (by rfl) (KB.out.same (fun k hk => (hgP.block k (by simp; omega) (by simp [Value.ownBlock])).trans ((two.out _ _).block k hk))) (by omega) hzP ?_; intro ao2 cap2 wB hownB hgB; obtain ⟨q1, q2⟩ := bcellx hgB w.heap.size (by omega); obtain ⟨q3, q4⟩ := bcellx hgB (w.heap.size + 1) (by omega)))
  go_wp2
  have oP : wB.ownsRow (w.heap.size + 2) 38 4 (.slice ao ps.length cap) ps.length (cellsL ps) := by
    have := hownP.kept hgB (by simp [Value.ownBlock]; cases ao <;> simp [Value.ownBlock])
    simpa using this
  have oB : wB.ownsRow (w.heap.size + 2) 5 1 (.slice ao2 a.length cap2) a.length (u8s a) := by simpa using hownB
  have bel : Below w.heap.size w wB := by
    have b1 := (two.out (.cells #[.slice va ps.length vc, .slice ua a.length uc] 25) (.cells #[.slice none 0 0, .slice none 0 0] 25)).drew.trans ((nil_below hgP).mono (by simp; omega))
    exact b1.trans ((nil_below hgB).mono (by omega))
  refine bodyPost_ret (v := .agg #[.slice ao ps.length cap, .slice ao2 a.length cap2]) (by simp [results, Try.results11, go_sem, *]) rfl ⟨_, _, rfl, ?_, ?_, (bel.setCell (by simp) _).setCell (by simp) _⟩
  · exact own_props (ownsRow_setCell_below (ownsRow_setCell_below oP (by simp) _) (by simp) _)
  · exact own_slice (ownsRow_setCell_below (ownsRow_setCell_below oB (by simp) _) (by simp) _)
end Go.Proofs.Ytplfcabkhpchdaa
