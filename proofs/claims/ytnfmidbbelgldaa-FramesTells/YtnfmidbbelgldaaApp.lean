/-
  append to a row of bytes that the call itself made, from a slice of bytes and from a string.
-/
import Derived.Test.YtnfmidbbelgldaaProp
import Derived.Deep.AppendLies
import Derived.Lib.AppendStr
import Derived.Maps.AppendAt
import Derived.OwnWalk
namespace Go.Proofs.Ytnfmidbbelgldaa
open Go.RowKit
set_option linter.unusedVariables false
set_option linter.unusedSimpArgs false

theorem info38 : (Try.prog.info? 65).map (fun i => (i.zero, i.size, i.bytes)) = some (some (.agg #[.string ByteArray.empty, .int .i64 0, .int .i64 0, .string ByteArray.empty]), 4, 48) := by kernel_rfl
theorem info5 : (Try.prog.info? 5).map (fun i => (i.zero, i.size, i.bytes)) = some (some (.int .u8 0), 1, 1) := by kernel_rfl

def u8s (bs : List UInt8) : List Value := bs.map fun c => Value.int .u8 c.toNat
theorem u8s_len (bs : List UInt8) : (u8s bs).length = bs.length := by simp [u8s]
theorem u8s_append (a b : List UInt8) : u8s (a ++ b) = u8s a ++ u8s b := by simp [u8s]
theorem u8s_one (bs : List UInt8) : ∀ u ∈ u8s bs, u.oneCell' = true := by
  intro u hu
  simp only [u8s, List.mem_map] at hu
  obtain ⟨b, _, rfl⟩ := hu
  rfl

theorem own_shape {w : World} {base : Nat} {e : TypeId} {size : Nat} {v : Value} {n : Nat} {xs : List Value} (h : w.ownsRow base e size v n xs) : ∃ ao cap, v = .slice ao n cap ∧ n ≤ cap ∧ cap ≤ maxLen ∧ (ao = none → cap = 0) := by
  rcases h.2 with ⟨rfl, rfl⟩ | ⟨g, cap, cur, rfl, _, _, h1, h2, _⟩
  · exact ⟨none, 0, rfl, Nat.le_refl _, by simp [maxLen], fun _ => rfl⟩
  · exact ⟨_, cap, rfl, h1, h2, fun h => by simp at h⟩

/-- What is owned reads as a slice of bytes. -/
theorem own_slice {w : World} {base : Nat} {v : Value} {bs : List UInt8} (h : w.ownsRow base 5 1 v bs.length (u8s bs)) : SliceB w.heap.size w v bs := by
  have hl := h.lt
  obtain ⟨ao, cap, rfl, h1, h2, h3⟩ := own_shape h
  refine ⟨ao, cap, rfl, h1, h2, h3, fun i hi => ?_⟩
  rcases h.2 with ⟨e, h0⟩ | ⟨g, cap', cur, e, hb, hg, _⟩
  · omega
  · simp only [Value.slice.injEq] at e
    obtain ⟨rfl, _, _⟩ := e
    refine ⟨g, 0, rfl, (hl g rfl).2, ?_⟩
    have := h.cells (g := g) rfl i (.int .u8 bs[i].toNat) (by simp [u8s, hi])
    rw [add_none] at this
    exact this

/-- The block of v' is that of v, or a new one. -/
def Moved (w : World) (v v' : Value) : Prop := ∀ k, v'.ownBlock = some k → v.ownBlock = some k ∨ w.heap.size ≤ k

theorem Moved.refl (w : World) (v : Value) : Moved w v v := fun _ h => .inl h
theorem moved_grown {w w1 w2 : World} {v v1 : Value} (hg : w.grownBy w1 v.ownBlock) (hm : Moved w v v1) (hg2 : w1.grownBy w2 v1.ownBlock) : w.grownBy w2 v.ownBlock :=
  ⟨hg2.os.trans hg.os, hg2.tape.trans hg.tape, hg2.output.trans hg.output, Nat.le_trans hg.size hg2.size, fun k hk hn => by
    refine (hg2.block k (Nat.lt_of_lt_of_le hk hg.size) (fun e => ?_)).trans (hg.block k hk hn)
    rcases hm k e.symm with h | h
    · exact hn h.symm
    · omega⟩
theorem Moved.trans {w w1 : World} {v v1 v2 : Value} (hg : w.heap.size ≤ w1.heap.size) (h : Moved w v v1) (h2 : Moved w1 v1 v2) : Moved w v v2 := by
  intro k hk
  rcases h2 k hk with h3 | h3
  · exact h k h3
  · exact .inr (by omega)
theorem Moved.of {w w' : World} {v v' : Value} (h : Moved w' v v') (hz : w.heap.size ≤ w'.heap.size) : Moved w v v' := fun k hk => (h k hk).imp id (fun h => by omega)

/-- 'append(out, b...)', out the call's own. -/
theorem run_app (w : World) (ty : TypeId) (base : Nat) (v : Value) (n : Nat) (xs : List Value) (hown : w.ownsRow base 5 1 v n xs) (B : Nat) (u : Value) (bs : List UInt8) (hu : SliceB B w u bs)
    (hb : n + bs.length ≤ 140737488355328) (hbase : base ≤ w.heap.size) :
    ∃ ao cap w', (Builtin.append_ #[23, 23] ty #[v, u]).run Try.prog w = .ok (.slice ao (n + bs.length) cap) w' ∧ w'.ownsRow base 5 1 (.slice ao (n + bs.length) cap) (n + bs.length) (xs ++ u8s bs) ∧ w.grownBy w' v.ownBlock ∧ Moved w v (.slice ao (n + bs.length) cap) := by
  obtain ⟨i0, hi0, hz0, hz1, hz2⟩ := info_parts info5
  obtain ⟨a, cap, rfl, h1, h2, hn, h3⟩ := hu
  cases a with
  | none =>
    have hc := hn rfl
    have hl : bs.length = 0 := by omega
    obtain rfl : bs = [] := List.length_eq_zero_iff.1 hl
    subst hc
    have hr := run_append_owned_none (P := Try.prog) (w := w) base 23 ty 5 i0 1 Try.underlying23 hi0 v n xs hown
    obtain ⟨ao, cp, rfl, _⟩ := own_shape hown
    exact ⟨ao, cp, w, hr, by simpa [u8s] using hown, grownBy_refl _ _, Moved.refl _ _⟩
  | some ad =>
    have hnews : ∀ j x, (u8s bs)[j]? = some x → w.cell? (ad.add j) = some x := by
      intro j x hj
      have hjl : j < bs.length := by
        rcases Nat.lt_or_ge j bs.length with h | h
        · exact h
        · simp [List.getElem?_eq_none (show (u8s bs).length ≤ j by simpa [u8s] using h)] at hj
      obtain ⟨b, off, e, _, hc⟩ := h3 j hjl
      simp only [Option.some.injEq] at e
      subst e
      rw [add_none, hc]
      simp [u8s, hjl] at hj
      rw [hj]
    obtain ⟨v', w', hr, ho, hg, _, hat⟩ := run_append_own_at (P := Try.prog) w base 23 ty 5 i0 (.int .u8 0) 1 1 Try.underlying23 hi0 hz0 hz1 hz2 rfl (by omega) v n xs hown ad bs.length cap (u8s bs) (by simp [u8s]) hnews (u8s_one bs) (by unfold maxLen; omega) (by omega) hbase
    have hm : Moved w v v' := by
      intro k hk
      rcases hat with h | h
      · exact .inl (h.symm.trans hk)
      · rw [h] at hk; simp at hk; exact .inr (by omega)
    obtain ⟨ao, cp, rfl, _⟩ := own_shape ho
    exact ⟨ao, cp, w', hr, ho, hg, hm⟩

/-- 'append(out, s...)', s a string. -/
theorem run_app_str (w : World) (ty : TypeId) (base : Nat) (v : Value) (n : Nat) (xs : List Value) (hown : w.ownsRow base 5 1 v n xs) (s : ByteArray)
    (hb : n + s.size ≤ 140737488355328) (hbase : base ≤ w.heap.size) :
    ∃ ao cap w', (Builtin.append_ #[23, 9] ty #[v, .string s]).run Try.prog w = .ok (.slice ao (n + s.size) cap) w' ∧ w'.ownsRow base 5 1 (.slice ao (n + s.size) cap) (n + s.size) (xs ++ u8s s.data.toList) ∧ w.grownBy w' v.ownBlock ∧ Moved w v (.slice ao (n + s.size) cap) := by
  obtain ⟨i0, hi0, hz0, hz1, hz2⟩ := info_parts info5
  obtain ⟨v', w', hr, ho, hg, _⟩ := Lib.run_append_own_string (P := Try.prog) w base 23 9 ty 5 i0 Try.underlying23 Try.underlying9 hi0 hz0 hz1 hz2 v n xs hown s (by unfold maxLen; omega) hb hbase
  have hm : Moved w v v' := by
    intro k hk
    rcases id hown.2 with ⟨rfl, rfl⟩ | ⟨g, cap, cur, rfl, hbg, hgg, hnc, hcm, hcs, htake⟩
    · have hx : xs = [] := List.eq_nil_of_length_eq_zero (by simpa using hown.1)
      subst hx
      obtain ⟨v2, w2, hr2, ho2, _⟩ := Lib.run_append_own_string (P := Try.prog) w w.heap.size 23 9 ty 5 i0 Try.underlying23 Try.underlying9 hi0 hz0 hz1 hz2 (.slice none 0 0) 0 [] (World.ownsRow_nil _ _ _ _) s (by unfold maxLen; omega) hb (Nat.le_refl _)
      rw [hr] at hr2
      simp only [Result.ok.injEq] at hr2
      rw [hr2.1] at hk
      exact .inr (ho2.lt k hk).1
    · by_cases hroom : n + s.size ≤ cap
      · have hcs' : cur.size = cap := by simpa using hcs
        have hr2 := Lib.run_append_room_string (P := Try.prog) w 23 9 ty 5 i0 Try.underlying23 Try.underlying9 hi0 hz1 g n cap cur hgg s hroom (by omega)
        rw [hr] at hr2
        simp only [Result.ok.injEq] at hr2
        rw [hr2.1] at hk
        exact .inl hk
      · have holds : ∀ j u, xs[j]? = some u → w.cell? ((⟨g, 0, none⟩ : Addr).add j) = some u := hown.cells (g := g) rfl
        have hr2 := Lib.run_append_grow_string (P := Try.prog) w 23 9 ty 5 i0 (.int .u8 0) Try.underlying23 Try.underlying9 hi0 hz0 ⟨g, 0, none⟩ n cap xs (by rw [hz1]; exact hown.1) holds s (by omega) (by omega) (by rw [hz2]; exact growslice_fits (by omega) (by omega))
        rw [hr] at hr2
        simp only [Result.ok.injEq] at hr2
        rw [hr2.1] at hk
        simp [Value.ownBlock] at hk
        exact .inr (by omega)
  obtain ⟨ao, cp, rfl, _⟩ := own_shape ho
  exact ⟨ao, cp, w', hr, ho, hg, hm⟩

section
variable {w : World} {ops : Array Oper} {rest : List Oper} {o : Oper} {a : Act} {Q : Exit → Act → World → Prop} {K : Act → World → Prop} {E : Prop}

theorem wp_app_of {t u : TypeId} {v1 v2 : Value} (s x : Operand) (ho : o.op = .call { callee := .builtin .append, args := #[s, x], argTypes := #[t, u] }) (hs : a.eval s = v1) (hx : a.eval x = v2) {v' : Value} {w' : World}
    (hr : (Builtin.append_ #[t, u] o.type #[v1, v2]).run Try.prog w = .ok v' w') (h : K (a.put o.dst v') w') : o.wp Try.prog a w K Q := by
  unfold Oper.wp execOp
  simp only [ho, resolve, invoke, builtin, Sem.run_bind, Sem.run_pure, Result.andThen_ok, List.map_toArray, List.map_cons, List.map_nil, hs, hx, hr]
  exact h

theorem wpList_app (hgd : o.guard = none) (s x : Operand) (ho : o.op = .call { callee := .builtin .append, args := #[s, x], argTypes := #[23, 23] })
    (base : Nat) (v : Value) (n : Nat) (xs : List Value) (hs : a.eval s = v) (hown : w.ownsRow base 5 1 v n xs) (B : Nat) (u : Value) (bs : List UInt8) (hx : a.eval x = u) (hu : SliceB B w u bs)
    (hb : n + bs.length ≤ 140737488355328) (hbase : base ≤ w.heap.size)
    (h : ∀ ao cap w', w'.ownsRow base 5 1 (.slice ao (n + bs.length) cap) (n + bs.length) (xs ++ u8s bs) → w.grownBy w' v.ownBlock → Moved w v (.slice ao (n + bs.length) cap) → wpList Try.prog ops Q rest (a.put o.dst (.slice ao (n + bs.length) cap)) w') :
    wpList Try.prog ops Q (o :: rest) a w := by
  refine wpList_plain hgd fun K hK => ?_
  obtain ⟨ao, cap, w', hr, h1, h2, h3⟩ := run_app w o.type base v n xs hown B u bs hu hb hbase
  exact wp_app_of s x ho hs hx hr (hK _ _ (h ao cap w' h1 h2 h3))

theorem wpList_app_str (hgd : o.guard = none) (sl x : Operand) (ho : o.op = .call { callee := .builtin .append, args := #[sl, x], argTypes := #[23, 9] })
    (base : Nat) (v : Value) (n : Nat) (xs : List Value) (hs : a.eval sl = v) (hown : w.ownsRow base 5 1 v n xs) (s : ByteArray) (hx : a.eval x = .string s)
    (hb : n + s.size ≤ 140737488355328) (hbase : base ≤ w.heap.size)
    (h : ∀ ao cap w', w'.ownsRow base 5 1 (.slice ao (n + s.size) cap) (n + s.size) (xs ++ u8s s.data.toList) → w.grownBy w' v.ownBlock → Moved w v (.slice ao (n + s.size) cap) → wpList Try.prog ops Q rest (a.put o.dst (.slice ao (n + s.size) cap)) w') :
    wpList Try.prog ops Q (o :: rest) a w := by
  refine wpList_plain hgd fun K hK => ?_
  obtain ⟨ao, cap, w', hr, h1, h2, h3⟩ := run_app_str w o.type base v n xs hown s hb hbase
  exact wp_app_of sl x ho hs hx hr (hK _ _ (h ao cap w' h1 h2 h3))

theorem step_app (hgd : o.guard = none) (s x : Operand) (ho : o.op = .call { callee := .builtin .append, args := #[s, x], argTypes := #[23, 23] })
    (base : Nat) (v : Value) (n : Nat) (xs : List Value) (hs : a.eval s = v) (hown : w.ownsRow base 5 1 v n xs) (B : Nat) (u : Value) (bs : List UInt8) (hx : a.eval x = u) (hu : SliceB B w u bs)
    (hb : n + bs.length ≤ 140737488355328) (hbase : base ≤ w.heap.size)
    (h : ∀ ao cap w', w'.ownsRow base 5 1 (.slice ao (n + bs.length) cap) (n + bs.length) (xs ++ u8s bs) → w.grownBy w' v.ownBlock → K (a.put o.dst (.slice ao (n + bs.length) cap)) w') :
    if Region.wanted o (yielded ops a.tmps) = true then Oper.wp Try.prog o a w K Q else E := by
  have hw : Region.wanted o (yielded ops a.tmps) = true := by simp [Region.wanted, hgd]
  rw [if_pos hw]
  obtain ⟨ao, cap, w', hr, h1, h2, _⟩ := run_app w o.type base v n xs hown B u bs hu hb hbase
  exact wp_app_of s x ho hs hx hr (h ao cap w' h1 h2)
end
end Go.Proofs.Ytnfmidbbelgldaa
