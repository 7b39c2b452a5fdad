/-
  store.Records reads what recsF says of any bytes that are not too many: rows of slices, append to such a row.
-/
import Derived.Test.YtdfledgcpceckaaRead
namespace Go.Proofs.Ytdfledgcpceckaa
open Go.RowKit
set_option linter.unusedVariables false
set_option linter.unusedSimpArgs false

theorem info23 : (Try.prog.info? 23).map (fun i => (i.zero, i.size, i.bytes)) = some (some (.slice none 0 0), 1, 24) := by kernel_rfl

/-- A slice of values that are one cell each. -/
def SliceV (B : Nat) (w : World) (v : Value) (vs : List Value) : Prop :=
  ∃ a cap, v = .slice a vs.length cap ∧ vs.length ≤ cap ∧ cap ≤ maxLen ∧ (a = none → cap = 0) ∧ ∀ i (h : i < vs.length), ∃ b off, a = some ⟨b, off, none⟩ ∧ b < B ∧ w.cell? ⟨b, off + i, none⟩ = some vs[i]
/-- Slices, each of which reads as bytes. -/
def Each (B : Nat) (w : World) (vs : List Value) (rs : List (List UInt8)) : Prop :=
  vs.length = rs.length ∧ ∀ i (h : i < rs.length), ∃ u, vs[i]? = some u ∧ SliceB B w u rs[i]
/-- A slice of slices of bytes. -/
def SliceS (B : Nat) (w : World) (v : Value) (rs : List (List UInt8)) : Prop := ∃ vs, SliceV B w v vs ∧ Each B w vs rs

theorem SliceV.same {B : Nat} {w w' : World} {v : Value} {vs : List Value} (h : SliceV B w v vs) (hb : ∀ k, k < B → w'.heap[k]? = w.heap[k]?) : SliceV B w' v vs := by
  obtain ⟨a, cap, rfl, h1, h2, hn, h3⟩ := h
  refine ⟨a, cap, rfl, h1, h2, hn, fun i hi => ?_⟩
  obtain ⟨b, off, rfl, hlt, h0⟩ := h3 i hi
  exact ⟨b, off, rfl, hlt, (World.cell?_of_block (hb b hlt)).trans h0⟩
theorem SliceV.mono {B B' : Nat} {w : World} {v : Value} {vs : List Value} (h : SliceV B w v vs) (hb : B ≤ B') : SliceV B' w v vs := by
  obtain ⟨a, cap, rfl, h1, h2, hn, h3⟩ := h
  refine ⟨a, cap, rfl, h1, h2, hn, fun i hi => ?_⟩
  obtain ⟨b, off, rfl, hlt, h0⟩ := h3 i hi
  exact ⟨b, off, rfl, by omega, h0⟩
theorem Each.same {B : Nat} {w w' : World} {vs : List Value} {rs : List (List UInt8)} (h : Each B w vs rs) (hb : ∀ k, k < B → w'.heap[k]? = w.heap[k]?) : Each B w' vs rs :=
  ⟨h.1, fun i hi => by obtain ⟨u, e, hu⟩ := h.2 i hi; exact ⟨u, e, hu.same hb⟩⟩
theorem Each.mono {B B' : Nat} {w : World} {vs : List Value} {rs : List (List UInt8)} (h : Each B w vs rs) (hb : B ≤ B') : Each B' w vs rs :=
  ⟨h.1, fun i hi => by obtain ⟨u, e, hu⟩ := h.2 i hi; exact ⟨u, e, hu.mono hb⟩⟩
theorem SliceS.same {B : Nat} {w w' : World} {v : Value} {rs : List (List UInt8)} (h : SliceS B w v rs) (hb : ∀ k, k < B → w'.heap[k]? = w.heap[k]?) : SliceS B w' v rs := by
  obtain ⟨vs, h1, h2⟩ := h
  exact ⟨vs, h1.same hb, h2.same hb⟩
theorem SliceS.mono {B B' : Nat} {w : World} {v : Value} {rs : List (List UInt8)} (h : SliceS B w v rs) (hb : B ≤ B') : SliceS B' w v rs := by
  obtain ⟨vs, h1, h2⟩ := h
  exact ⟨vs, h1.mono hb, h2.mono hb⟩
theorem SliceS.below {w w' : World} {v : Value} {rs : List (List UInt8)} (h : SliceS w.heap.size w v rs) (hb : Below w.heap.size w w') : SliceS w'.heap.size w' v rs := (h.same hb.block).mono hb.size
theorem SliceS.drew {w : World} {v : Value} {rs : List (List UInt8)} (h : SliceS w.heap.size w v rs) : SliceS w.drew.heap.size w.drew v rs := h.same (fun _ _ => rfl)
theorem SliceS.nil (B : Nat) (w : World) : SliceS B w (.slice none 0 0) [] := ⟨[], ⟨none, 0, rfl, Nat.le_refl _, by simp [maxLen], fun _ => rfl, fun i h => by simp at h⟩, rfl, fun i h => by simp at h⟩
theorem SliceS.shape {B : Nat} {w : World} {v : Value} {rs : List (List UInt8)} (h : SliceS B w v rs) : ∃ a cap, v = .slice a rs.length cap ∧ rs.length ≤ cap ∧ cap ≤ 9223372036854775807 := by
  obtain ⟨vs, ⟨a, cap, rfl, h1, h2, _⟩, h3, _⟩ := h
  exact ⟨a, cap, by rw [h3], by omega, by unfold maxLen at h2; omega⟩
/-- One of them. -/
theorem SliceS.at {B : Nat} {w : World} {a : Option Addr} {n cap : Nat} {rs : List (List UInt8)} (h : SliceS B w (.slice a n cap) rs) (i : Nat) (hi : i < rs.length) :
    ∃ (b off : Nat) (ua : Option Addr) (uc : Nat), a = some ⟨b, off, none⟩ ∧ w.cell? ⟨b, off + i, none⟩ = some (.slice ua rs[i].length uc) ∧ SliceB B w (.slice ua rs[i].length uc) rs[i] ∧ b < B ∧ uc ≤ 9223372036854775807 ∧ rs[i].length ≤ uc := by
  obtain ⟨vs, ⟨a', cap', e, h1, h2, _, h3⟩, h4, h5⟩ := h
  simp only [Value.slice.injEq] at e
  obtain ⟨rfl, -, -⟩ := e
  obtain ⟨b, off, rfl, hb, hc⟩ := h3 i (by omega)
  obtain ⟨u, hu, hs⟩ := h5 i hi
  have e : vs[i]'(by omega) = u := by rw [List.getElem?_eq_getElem (by omega)] at hu; simpa using hu
  rw [e] at hc
  obtain ⟨ua, uc, rfl, g1, g2, _⟩ := id hs
  exact ⟨b, off, ua, uc, rfl, hc, hs, hb, by unfold maxLen at g2; omega, g1⟩

theorem Each.one {B : Nat} {w : World} {vs : List Value} {rs : List (List UInt8)} (h : Each B w vs rs) : ∀ u ∈ vs, u.oneCell' = true := by
  intro u hu
  obtain ⟨i, hi, e⟩ := List.getElem_of_mem hu
  obtain ⟨u', e', hs⟩ := h.2 i (by have := h.1; omega)
  rw [List.getElem?_eq_getElem hi, e] at e'
  simp only [Option.some.injEq] at e'
  subst e'
  obtain ⟨a, c, rfl, _⟩ := hs
  rfl

theorem run_appV (w : World) (ty : TypeId) (base : Nat) (v : Value) (n : Nat) (xs : List Value) (hown : w.ownsRow base 23 1 v n xs) (B : Nat) (u : Value) (vs : List Value) (hu : SliceV B w u vs) (h1c : ∀ x ∈ vs, x.oneCell' = true)
    (hb : (n + vs.length) * 24 ≤ 140737488355328) (hbase : base ≤ w.heap.size) :
    ∃ ao cap w', (Builtin.append_ #[39, 39] ty #[v, u]).run Try.prog w = .ok (.slice ao (n + vs.length) cap) w' ∧ w'.ownsRow base 23 1 (.slice ao (n + vs.length) cap) (n + vs.length) (xs ++ vs) ∧ w.grownBy w' v.ownBlock ∧ Moved w v (.slice ao (n + vs.length) cap) := by
  obtain ⟨i0, hi0, hz0, hz1, hz2⟩ := info_parts info23
  obtain ⟨a, cap, rfl, h1, h2, hn, h3⟩ := hu
  cases a with
  | none =>
    have hc := hn rfl
    have hl : vs.length = 0 := by omega
    obtain rfl : vs = [] := List.length_eq_zero_iff.1 hl
    subst hc
    have hr := run_append_owned_none (P := Try.prog) (w := w) base 39 ty 23 i0 1 Try.underlying39 hi0 v n xs hown
    obtain ⟨ao, cp, rfl, _⟩ := own_shape hown
    exact ⟨ao, cp, w, hr, by simpa using hown, grownBy_refl _ _, Moved.refl _ _⟩
  | some ad =>
    have hnews : ∀ j x, vs[j]? = some x → w.cell? (ad.add j) = some x := by
      intro j x hj
      obtain ⟨hjl, hx⟩ := List.getElem?_eq_some_iff.1 hj
      obtain ⟨b, off, e, _, hc⟩ := h3 j hjl
      simp only [Option.some.injEq] at e
      subst e
      rw [add_none, hc, hx]
    obtain ⟨v', w', hr, ho, hg, _, hat⟩ := run_append_own_at (P := Try.prog) w base 39 ty 23 i0 (.slice none 0 0) 1 24 Try.underlying39 hi0 hz0 hz1 hz2 rfl (by omega) v n xs hown ad vs.length cap vs (by simp) hnews h1c (by unfold maxLen; omega) hb hbase
    have hm : Moved w v v' := by
      intro k hk
      rcases hat with h | h
      · exact .inl (h.symm.trans hk)
      · rw [h] at hk; simp at hk; exact .inr (by omega)
    obtain ⟨ao, cp, rfl, _⟩ := own_shape ho
    exact ⟨ao, cp, w', hr, ho, hg, hm⟩

theorem wpList_appV {w : World} {ops : Array Oper} {rest : List Oper} {o : Oper} {a : Act} {Q : Exit → Act → World → Prop} (hgd : o.guard = none) (s x : Operand) (ho : o.op = .call { callee := .builtin .append, args := #[s, x], argTypes := #[39, 39] })
    (base : Nat) (v : Value) (n : Nat) (xs : List Value) (hs : a.eval s = v) (hown : w.ownsRow base 23 1 v n xs) (B : Nat) (u : Value) (vs : List Value) (hx : a.eval x = u) (hu : SliceV B w u vs) (h1c : ∀ x ∈ vs, x.oneCell' = true)
    (hb : (n + vs.length) * 24 ≤ 140737488355328) (hbase : base ≤ w.heap.size)
    (h : ∀ ao cap w', w'.ownsRow base 23 1 (.slice ao (n + vs.length) cap) (n + vs.length) (xs ++ vs) → w.grownBy w' v.ownBlock → Moved w v (.slice ao (n + vs.length) cap) → wpList Try.prog ops Q rest (a.put o.dst (.slice ao (n + vs.length) cap)) w') :
    wpList Try.prog ops Q (o :: rest) a w := by
  refine wpList_plain hgd fun K hK => ?_
  obtain ⟨ao, cap, w', hr, h1, h2, h3⟩ := run_appV w o.type base v n xs hown B u vs hu h1c hb hbase
  exact wp_app_of s x ho hs hx hr (hK _ _ (h ao cap w' h1 h2 h3))

/-- What is owned reads as a slice of values. -/
theorem own_sliceV {w : World} {base : Nat} {v : Value} {vs : List Value} (h : w.ownsRow base 23 1 v vs.length vs) : SliceV w.heap.size w v vs := by
  have hl := h.lt
  obtain ⟨ao, cap, rfl, h1, h2, h3⟩ := own_shape h
  refine ⟨ao, cap, rfl, h1, h2, h3, fun i hi => ?_⟩
  rcases h.2 with ⟨e, h0⟩ | ⟨g, cap', cur, e, hb, hg, _⟩
  · omega
  · simp only [Value.slice.injEq] at e
    obtain ⟨rfl, _, _⟩ := e
    refine ⟨g, 0, rfl, (hl g rfl).2, ?_⟩
    have := h.cells (g := g) rfl i vs[i] (by simp [hi])
    rw [add_none] at this
    exact this

theorem SliceB.far {B : Nat} {w w' : World} {u : Value} {bs : List UInt8} {row : Option Nat} (h : SliceB B w u bs) (hg : w.grownBy w' row) (hB : B ≤ w.heap.size) (hn : ∀ g, u.ownBlock = some g → row ≠ some g) : SliceB B w' u bs := by
  obtain ⟨a, cap, rfl, h1, h2, h3, h4⟩ := h
  refine ⟨a, cap, rfl, h1, h2, h3, fun i hi => ?_⟩
  obtain ⟨b, off, rfl, hlt, hc⟩ := h4 i hi
  exact ⟨b, off, rfl, hlt, (World.cell?_of_block (hg.block b (by omega) (fun e => hn b rfl e.symm))).trans hc⟩

/-- A row of slices that the call made, each to bytes elsewhere. -/
def RowS (base : Nat) (w : World) (v : Value) (vs : List Value) (rs : List (List UInt8)) : Prop :=
  w.ownsRow base 23 1 v rs.length vs ∧ Each w.heap.size w vs rs ∧ ∀ u ∈ vs, ∀ g, u.ownBlock = some g → g < w.heap.size ∧ v.ownBlock ≠ some g

theorem RowS.nil (base : Nat) (w : World) : RowS base w (.slice none 0 0) [] [] := ⟨World.ownsRow_nil _ _ _ _, ⟨rfl, fun i h => by simp at h⟩, fun u h => by simp at h⟩
theorem RowS.slice {base : Nat} {w : World} {v : Value} {vs : List Value} {rs : List (List UInt8)} (h : RowS base w v vs rs) : SliceS w.heap.size w v rs :=
  ⟨vs, own_sliceV (by rw [h.2.1.1]; exact h.1), h.2.1⟩

theorem RowS.push {base : Nat} {w w2 w4 : World} {v x v' : Value} {o : Obj} {vs : List Value} {rs : List (List UInt8)} {r : List UInt8} (h : RowS base w v vs rs) (hbw : base ≤ w.heap.size) (hb : Below w.heap.size w w2)
    (hx : w2.ownsRow w.heap.size 5 1 x r.length (u8s r)) (hown : w4.ownsRow base 23 1 v' (rs.length + 1) (vs ++ [x])) (hg : (w2.alloc o).grownBy w4 v.ownBlock) (hm : Moved (w2.alloc o) v v') : RowS base w4 v' (vs ++ [x]) (rs ++ [r]) := by
  have z := hb.size
  have zg := hg.size
  simp at zg
  have hxs : SliceB w2.heap.size w2 x r := own_slice hx
  refine ⟨by simpa using hown, ⟨by simp [h.2.1.1], fun i hi => ?_⟩, fun u hu g hug => ?_⟩
  · by_cases hlt : i < rs.length
    · obtain ⟨u, e, hs⟩ := h.2.1.2 i hlt
      have e2 : (rs ++ [r])[i] = rs[i] := List.getElem_append_left hlt
      rw [e2]
      refine ⟨u, by rw [List.getElem?_append_left (by rw [h.2.1.1]; exact hlt)]; exact e, ?_⟩
      have hmem : u ∈ vs := List.mem_of_getElem? e
      have h1 := ((hs.below hb).below (below_alloc w2 o))
      exact (h1.far hg (Nat.le_refl _) (fun g hg' => (h.2.2 u hmem g hg').2)).mono hg.size
    · have : i = rs.length := by simp at hi; omega
      subst this
      have e2 : (rs ++ [r])[rs.length]'hi = r := by simp
      rw [e2]
      refine ⟨x, by rw [← h.2.1.1]; simp, ?_⟩
      have h1 := (hxs.below (below_alloc w2 o))
      refine (h1.far hg (Nat.le_refl _) (fun g hg' e => ?_)).mono hg.size
      have a1 := (hx.lt g hg').1
      have a2 := (h.1.lt g e).2
      omega
  · have hlt4 : g < w2.heap.size ∧ v.ownBlock ≠ some g := by
      rcases List.mem_append.1 hu with hu | hu
      · have := h.2.2 u hu g hug
        exact ⟨by omega, this.2⟩
      · simp only [List.mem_singleton] at hu
        subst hu
        have a1 := (hx.lt g hug)
        exact ⟨a1.2, fun e => by have := (h.1.lt g e).2; omega⟩
    refine ⟨by omega, fun e => ?_⟩
    rcases hm g e with h1 | h1
    · exact hlt4.2 h1
    · simp at h1; omega

theorem own_dropG {w w' : World} {base : Nat} {e : TypeId} {size : Nat} {v : Value} {n : Nat} {xs : List Value} (h : w.ownsRow base e size v n xs) (hb : base ≤ w.heap.size) (hg : w.grownBy w' v.ownBlock) : Below base w w' :=
  Below.grown (Below.refl _ _) hg hb (fun k hk => (h.lt k hk).1)

theorem recs_push (b : List UInt8) (dn : List (List UInt8)) (r : List UInt8) (h : recsF b = dn ++ recsF (b.drop (sizeR dn))) (hw : wholeB (b.drop (sizeR dn)) = true) (hr : r = firstV (b.drop (sizeR dn))) :
    recsF b = (dn ++ [r]) ++ recsF (b.drop (sizeR (dn ++ [r]))) ∧ sizeR (dn ++ [r]) = sizeR dn + (r.length + 4) ∧ sizeR (dn ++ [r]) ≤ b.length := by
  have e : r = firstB (b.drop (sizeR dn)) := by rw [hr, firstV, if_pos hw]
  have hl := firstB_len _ hw
  have hs : sizeR (dn ++ [r]) = sizeR dn + (r.length + 4) := by rw [sizeR_append]; simp [sizeR]
  refine ⟨?_, hs, ?_⟩
  · rw [hs, h]
    conv => lhs; rw [recsF_eq, if_pos hw, ← e, List.drop_drop]
    rw [e, hl]
    simp
  · have h2 : pairN (b.drop (sizeR dn)) + 4 ≤ (b.drop (sizeR dn)).length := by simp [wholeB] at hw; simp; omega
    rw [hs, e, hl]
    simp at h2
    omega

theorem RowS.drewN {base : Nat} {w : World} {v : Value} {vs : List Value} {rs : List (List UInt8)} (h : RowS base w v vs rs) (m : Nat) : RowS base (w.drewN m) v vs rs := by
  obtain ⟨h1, h2, h3⟩ := h
  refine ⟨?_, h2.same (fun _ _ => by simp), h3⟩
  exact h1

theorem new_row (w : World) (x : Value) : SliceV (w.heap.size + 1) (w.alloc (.cells #[x] 23)) (.slice (some ⟨w.heap.size, 0, none⟩) 1 1) [x] := by
  refine ⟨_, _, rfl, Nat.le_refl _, by simp [maxLen], fun h => by simp at h, fun i hi => ⟨w.heap.size, 0, rfl, by omega, ?_⟩⟩
  have : i = 0 := by simpa using hi
  subst this
  simp

set_option maxHeartbeats 1000000 in
theorem records_any (v : Value) (b : List UInt8) (w : World) (hb : SliceB w.heap.size w v b) (hbl : b.length ≤ 1000000000) :
    Calls Try.prog 31 #[v] w fun e w' => ∃ a cap, e = .returned (.tuple #[.slice a (recsF b).length cap, .int .i64 (sizeR (recsF b))]) ∧ SliceS w'.heap.size w' (.slice a (recsF b).length cap) (recsF b) ∧ Below w.heap.size w w' := by
  have HB : Hid (SliceB w.heap.size w v b) := hb
  obtain ⟨a, cap, rfl, h1, h2, hn, h3⟩ := hb
  unfold maxLen at h2
  clear hn h3
  go_enter Try.func31, Try.ntmps31
  go_wp2
  go_loopw [4, 5] (fun v i wr => ∃ dn vs, i = .int .i64 (sizeR dn) ∧ RowS w.heap.size wr v vs dn ∧ recsF b = dn ++ recsF (b.drop (sizeR dn)) ∧ sizeR dn ≤ b.length ∧ Below w.heap.size w wr)
    (fun _ i _ => b.length - (intOf i).toNat)
  case atStart => exact ⟨[], [], rfl, RowS.nil _ _, rfl, Nat.zero_le _, Below.refl _ _⟩
  case round =>
    obtain ⟨dn, vs, rfl, hrow, hrec, hle, hbel⟩ := hrel
    obtain ⟨n, hn⟩ : ∃ n, n = sizeR dn := ⟨_, rfl⟩
    have HN : Hid (n = sizeR dn) := hn
    rw [← hn] at hrec hle ⊢
    have HR : Hid (recsF b = dn ++ recsF (b.drop n)) := hrec
    have HW : Hid (RowS w.heap.size wr _ vs dn) := hrow
    have hdl := sizeR_len4 dn
    rw [← hn] at hdl
    obtain ⟨va, vc, rfl, hv1, hv2, -⟩ := own_shape hrow.1
    clear hrec hn hrow
    have HS : Hid (SliceB w.heap.size wr (.slice a b.length cap) b) := HB.out.same hbel.block
    cases hwh : wholeB (b.drop n) with
    | false =>
      have HE : Hid (recsF b = dn) := by
        show recsF b = dn
        rw [HR.out, recsF_stop _ hwh, List.append_nil]
      have fin : ∀ m, Below w.heap.size w (wr.drewN m) := fun m => hbel.trans ⟨rfl, rfl, rfl, Nat.le_refl _, fun _ _ => rfl⟩
      have FIN : Hid (∀ m, ∃ a cap, Ending.returned (.tuple #[.slice va dn.length vc, .int .i64 n]) = .returned (.tuple #[.slice a (recsF b).length cap, .int .i64 (sizeR (recsF b))]) ∧ SliceS (wr.drewN m).heap.size (wr.drewN m) (.slice a (recsF b).length cap) (recsF b) ∧ Below w.heap.size w (wr.drewN m)) := by
        show ∀ m, _
        intro m
        rw [HE.out, ← HN.out]
        exact ⟨_, _, rfl, (HW.out.drewN m).slice, fin m⟩
      clear HE fin
      by_cases hc : cap = n
      · have hc' : (cap : Int) = (n : Int) := by omega
        have hX : SliceB w.heap.size wr (.slice a (b.length - n) 0) (b.drop n) := by
          have := slice_drop0 HS.out n (by omega)
          rw [show b.length - n = 0 by omega]
          exact this
        go_wp2_with (go_at_call 49; refine (first_any _ _ (b.drop n) _ hX).mono ?_; rw [hwh]; rintro e w1 ⟨u, rfl, hu, m, rfl⟩)
        exact bodyPost_ret (v := .tuple #[.slice va dn.length vc, .int .i64 n]) (by simp [results, Try.results31, go_sem]) rfl (FIN.out m)
      · have hc' : ¬ (cap : Int) = (n : Int) := by omega
        have hX := slice_drop HS.out n (by omega)
        go_wp2_with (go_at_call 49; refine (first_any _ _ (b.drop n) _ hX).mono ?_; rw [hwh]; rintro e w1 ⟨u, rfl, hu, m, rfl⟩)
        exact bodyPost_ret (v := .tuple #[.slice va dn.length vc, .int .i64 n]) (by simp [results, Try.results31, go_sem]) rfl (FIN.out m)
    | true =>
      obtain ⟨r, hr⟩ : ∃ r, r = firstV (b.drop n) := ⟨_, rfl⟩
      have HP : Hid (recsF b = (dn ++ [r]) ++ recsF (b.drop (sizeR (dn ++ [r]))) ∧ sizeR (dn ++ [r]) = n + (r.length + 4) ∧ sizeR (dn ++ [r]) ≤ b.length) := by
        show _ ∧ _
        rw [HN.out] at hwh hr ⊢
        exact recs_push b dn r (by rw [← HN.out]; exact HR.out) hwh hr
      have HRR : Hid (r = firstV (b.drop n)) := hr
      clear hr
      have hrl : n + (r.length + 4) ≤ b.length := by have := HP.out; omega
      have hc' : ¬ (cap : Int) = (n : Int) := by omega
      have hX := slice_drop HS.out n (by omega)
      have hz := hbel.size
      go_wp2_with (first
        | (go_at_call 49; refine (first_any _ _ (b.drop n) _ hX).mono ?_; rw [hwh, ← HRR.out]; rintro e w1 ⟨u, rfl, hu, m, rfl⟩; obtain ⟨ua, uc, rfl, u1, u2, -⟩ := id hu; unfold maxLen at u2; have HU : Hid (SliceB w.heap.size wr (.slice ua r.length uc) r) := hu; clear hu)
        | (go_at_call 46; refine (copied_any w.heap.size _ r _ (HU.out.drewN m) (by omega)).mono ?_; rintro e w2 ⟨xa, xc, rfl, hx2, hb2⟩; have hz2 := hb2.size)
        | (at_builtin; refine wpList_appV rfl (.tmp 19) (.tmp 22) rfl w.heap.size _ dn.length vs rfl ((own_below (HW.out.drewN m).1 hb2).alloc _) (w2.heap.size + 1) _ [.slice xa r.length xc] rfl (new_row w2 _) (by intro x hx; simp at hx; subst hx; rfl) (by simp; omega) (by simp at hz2 ⊢; omega) ?_; intro ao cap4 w4 hown4 hg4 hm4))
      have hp := (HW.out.drewN m).push (r := r) (by simp; omega) hb2 hx2 (by simpa using hown4) hg4 hm4
      obtain ⟨p1, p2, p3⟩ := HP.out
      go_roundw
      case rel =>
        refine ⟨dn ++ [r], _, ?_, hp, p1, p3, ?_⟩
        · rw [p2]; go_num
        · have c1 : Below w.heap.size w (wr.drewN m) := hbel.trans ⟨rfl, rfl, rfl, Nat.le_refl _, fun _ _ => rfl⟩
          have c2 := c1.trans (hb2.mono c1.size)
          exact (c2.alloc c2.size _).trans (own_dropG ((own_below (HW.out.drewN m).1 hb2).alloc _) (by have := c2.size; simp; omega) hg4)
      case measure => simp [intOf]; omega
end Go.Proofs.Ytdfledgcpceckaa
