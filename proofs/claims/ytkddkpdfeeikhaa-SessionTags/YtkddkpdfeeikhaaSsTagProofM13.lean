/-
  NtApp; NtAppend; NtNote: texts laid together.
-/
import Derived.Test.YtkddkpdfeeikhaaSsTagProofM12
import Derived.Deep.AppendLies
import Derived.Lib.AppendStr
import Derived.Maps.AppendAt
import Derived.OwnWalk
import Derived.Deep.RegionWith
import Derived.Deep.RegionHeld3
import Derived.Deep.RegionLaw
import Derived.Deep.DrawnRows
/-
  append to a row of bytes that the call itself made, from a slice of bytes and from a string.
-/
namespace Go.Proofs.Ytkddkpdfeeikhaa.NT
open Go.RowKit
set_option linter.unusedVariables false
set_option linter.unusedSimpArgs false

theorem info5 : (Try.prog.info? 5).map (fun i => (i.zero, i.size, i.bytes)) = some (some (.int .u8 0), 1, 1) := by kernel_rfl

def u8s (bs : List UInt8) : List Value := bs.map fun c => Value.int .u8 c.toNat
theorem u8s_len (bs : List UInt8) : (u8s bs).length = bs.length := by simp [u8s]
theorem u8s_append (a b : List UInt8) : u8s (a ++ b) = u8s a ++ u8s b := by simp [u8s]
theorem u8s_one (bs : List UInt8) : ∀ u ∈ u8s bs, u.oneCell' = true := by
  intro u hu
  simp only [u8s, List.mem_map] at hu
  obtain ⟨b, _, rfl⟩ := hu
  rfl

theorem own_shape {w : World} {base : Nat} {e : TypeId} {size : Nat} {v : Value} {n : Nat} {xs : List Value} (h : w.ownsRow base e size v n xs) : ∃ ao cap, v = .slice ao n cap ∧ n ≤ cap ∧ cap ≤ maxLen ∧ (ao = none → cap = 0) := by
  rcases h.2 with ⟨rfl, rfl⟩ | ⟨g, cap, cur, rfl, _, _, h1, h2, _⟩
  · exact ⟨none, 0, rfl, Nat.le_refl _, by simp [maxLen], fun _ => rfl⟩
  · exact ⟨_, cap, rfl, h1, h2, fun h => by simp at h⟩

/-- What is owned reads as a slice of bytes. -/
theorem own_slice {w : World} {base : Nat} {v : Value} {bs : List UInt8} (h : w.ownsRow base 5 1 v bs.length (u8s bs)) : SliceB w.heap.size w v bs := by
  have hl := h.lt
  obtain ⟨ao, cap, rfl, h1, h2, h3⟩ := own_shape h
  refine ⟨ao, cap, rfl, h1, h2, h3, fun i hi => ?_⟩
  rcases h.2 with ⟨e, h0⟩ | ⟨g, cap', cur, e, hb, hg, _⟩
  · omega
  · simp only [Value.slice.injEq] at e
    obtain ⟨rfl, _, _⟩ := e
    refine ⟨g, 0, rfl, (hl g rfl).2, ?_⟩
    have := h.cells (g := g) rfl i (.int .u8 bs[i].toNat) (by simp [u8s, hi])
    rw [add_none] at this
    exact this

/-- The block of v' is that of v, or a new one. -/
def Moved (w : World) (v v' : Value) : Prop := ∀ k, v'.ownBlock = some k → v.ownBlock = some k ∨ w.heap.size ≤ k

theorem Moved.refl (w : World) (v : Value) : Moved w v v := fun _ h => .inl h
theorem moved_grown {w w1 w2 : World} {v v1 : Value} (hg : w.grownBy w1 v.ownBlock) (hm : Moved w v v1) (hg2 : w1.grownBy w2 v1.ownBlock) : w.grownBy w2 v.ownBlock :=
  ⟨hg2.os.trans hg.os, hg2.tape.trans hg.tape, hg2.output.trans hg.output, Nat.le_trans hg.size hg2.size, fun k hk hn => by
    refine (hg2.block k (Nat.lt_of_lt_of_le hk hg.size) (fun e => ?_)).trans (hg.block k hk hn)
    rcases hm k e.symm with h | h
    · exact hn h.symm
    · omega⟩
theorem Moved.trans {w w1 : World} {v v1 v2 : Value} (hg : w.heap.size ≤ w1.heap.size) (h : Moved w v v1) (h2 : Moved w1 v1 v2) : Moved w v v2 := by
  intro k hk
  rcases h2 k hk with h3 | h3
  · exact h k h3
  · exact .inr (by omega)
theorem Moved.of {w w' : World} {v v' : Value} (h : Moved w' v v') (hz : w.heap.size ≤ w'.heap.size) : Moved w v v' := fun k hk => (h k hk).imp id (fun h => by omega)

/-- 'append(out, b...)', out the call's own. -/
theorem run_app (w : World) (ty : TypeId) (base : Nat) (v : Value) (n : Nat) (xs : List Value) (hown : w.ownsRow base 5 1 v n xs) (B : Nat) (u : Value) (bs : List UInt8) (hu : SliceB B w u bs)
    (hb : n + bs.length ≤ 140737488355328) (hbase : base ≤ w.heap.size) :
    ∃ ao cap w', (Builtin.append_ #[26, 26] ty #[v, u]).run Try.prog w = .ok (.slice ao (n + bs.length) cap) w' ∧ w'.ownsRow base 5 1 (.slice ao (n + bs.length) cap) (n + bs.length) (xs ++ u8s bs) ∧ w.grownBy w' v.ownBlock ∧ Moved w v (.slice ao (n + bs.length) cap) := by
  obtain ⟨i0, hi0, hz0, hz1, hz2⟩ := info_parts info5
  obtain ⟨a, cap, rfl, h1, h2, hn, h3⟩ := hu
  cases a with
  | none =>
    have hc := hn rfl
    have hl : bs.length = 0 := by omega
    obtain rfl : bs = [] := List.length_eq_zero_iff.1 hl
    subst hc
    have hr := run_append_owned_none (P := Try.prog) (w := w) base 26 ty 5 i0 1 Try.underlying26 hi0 v n xs hown
    obtain ⟨ao, cp, rfl, _⟩ := own_shape hown
    exact ⟨ao, cp, w, hr, by simpa [u8s] using hown, grownBy_refl _ _, Moved.refl _ _⟩
  | some ad =>
    have hnews : ∀ j x, (u8s bs)[j]? = some x → w.cell? (ad.add j) = some x := by
      intro j x hj
      have hjl : j < bs.length := by
        rcases Nat.lt_or_ge j bs.length with h | h
        · exact h
        · simp [List.getElem?_eq_none (show (u8s bs).length ≤ j by simpa [u8s] using h)] at hj
      obtain ⟨b, off, e, _, hc⟩ := h3 j hjl
      simp only [Option.some.injEq] at e
      subst e
      rw [add_none, hc]
      simp [u8s, hjl] at hj
      rw [hj]
    obtain ⟨v', w', hr, ho, hg, _, hat⟩ := run_append_own_at (P := Try.prog) w base 26 ty 5 i0 (.int .u8 0) 1 1 Try.underlying26 hi0 hz0 hz1 hz2 rfl (by omega) v n xs hown ad bs.length cap (u8s bs) (by simp [u8s]) hnews (u8s_one bs) (by unfold maxLen; omega) (by omega) hbase
    have hm : Moved w v v' := by
      intro k hk
      rcases hat with h | h
      · exact .inl (h.symm.trans hk)
      · rw [h] at hk; simp at hk; exact .inr (by omega)
    obtain ⟨ao, cp, rfl, _⟩ := own_shape ho
    exact ⟨ao, cp, w', hr, ho, hg, hm⟩

/-- 'append(out, s...)', s a string. -/
theorem run_app_str (w : World) (ty : TypeId) (base : Nat) (v : Value) (n : Nat) (xs : List Value) (hown : w.ownsRow base 5 1 v n xs) (s : ByteArray)
    (hb : n + s.size ≤ 140737488355328) (hbase : base ≤ w.heap.size) :
    ∃ ao cap w', (Builtin.append_ #[26, 9] ty #[v, .string s]).run Try.prog w = .ok (.slice ao (n + s.size) cap) w' ∧ w'.ownsRow base 5 1 (.slice ao (n + s.size) cap) (n + s.size) (xs ++ u8s s.data.toList) ∧ w.grownBy w' v.ownBlock ∧ Moved w v (.slice ao (n + s.size) cap) := by
  obtain ⟨i0, hi0, hz0, hz1, hz2⟩ := info_parts info5
  obtain ⟨v', w', hr, ho, hg, _⟩ := Lib.run_append_own_string (P := Try.prog) w base 26 9 ty 5 i0 Try.underlying26 Try.underlying9 hi0 hz0 hz1 hz2 v n xs hown s (by unfold maxLen; omega) hb hbase
  have hm : Moved w v v' := by
    intro k hk
    rcases id hown.2 with ⟨rfl, rfl⟩ | ⟨g, cap, cur, rfl, hbg, hgg, hnc, hcm, hcs, htake⟩
    · have hx : xs = [] := List.eq_nil_of_length_eq_zero (by simpa using hown.1)
      subst hx
      obtain ⟨v2, w2, hr2, ho2, _⟩ := Lib.run_append_own_string (P := Try.prog) w w.heap.size 26 9 ty 5 i0 Try.underlying26 Try.underlying9 hi0 hz0 hz1 hz2 (.slice none 0 0) 0 [] (World.ownsRow_nil _ _ _ _) s (by unfold maxLen; omega) hb (Nat.le_refl _)
      rw [hr] at hr2
      simp only [Result.ok.injEq] at hr2
      rw [hr2.1] at hk
      exact .inr (ho2.lt k hk).1
    · by_cases hroom : n + s.size ≤ cap
      · have hcs' : cur.size = cap := by simpa using hcs
        have hr2 := Lib.run_append_room_string (P := Try.prog) w 26 9 ty 5 i0 Try.underlying26 Try.underlying9 hi0 hz1 g n cap cur hgg s hroom (by omega)
        rw [hr] at hr2
        simp only [Result.ok.injEq] at hr2
        rw [hr2.1] at hk
        exact .inl hk
      · have holds : ∀ j u, xs[j]? = some u → w.cell? ((⟨g, 0, none⟩ : Addr).add j) = some u := hown.cells (g := g) rfl
        have hr2 := Lib.run_append_grow_string (P := Try.prog) w 26 9 ty 5 i0 (.int .u8 0) Try.underlying26 Try.underlying9 hi0 hz0 ⟨g, 0, none⟩ n cap xs (by rw [hz1]; exact hown.1) holds s (by omega) (by omega) (by rw [hz2]; exact growslice_fits (by omega) (by omega))
        rw [hr] at hr2
        simp only [Result.ok.injEq] at hr2
        rw [hr2.1] at hk
        simp [Value.ownBlock] at hk
        exact .inr (by omega)
  obtain ⟨ao, cp, rfl, _⟩ := own_shape ho
  exact ⟨ao, cp, w', hr, ho, hg, hm⟩

section
variable {w : World} {ops : Array Oper} {rest : List Oper} {o : Oper} {a : Act} {Q : Exit → Act → World → Prop} {K : Act → World → Prop} {E : Prop}

theorem wp_app_of {t u : TypeId} {v1 v2 : Value} (s x : Operand) (ho : o.op = .call { callee := .builtin .append, args := #[s, x], argTypes := #[t, u] }) (hs : a.eval s = v1) (hx : a.eval x = v2) {v' : Value} {w' : World}
    (hr : (Builtin.append_ #[t, u] o.type #[v1, v2]).run Try.prog w = .ok v' w') (h : K (a.put o.dst v') w') : o.wp Try.prog a w K Q := by
  unfold Oper.wp execOp
  simp only [ho, resolve, invoke, builtin, Sem.run_bind, Sem.run_pure, Result.andThen_ok, List.map_toArray, List.map_cons, List.map_nil, hs, hx, hr]
  exact h

theorem wpList_app (hgd : o.guard = none) (s x : Operand) (ho : o.op = .call { callee := .builtin .append, args := #[s, x], argTypes := #[26, 26] })
    (base : Nat) (v : Value) (n : Nat) (xs : List Value) (hs : a.eval s = v) (hown : w.ownsRow base 5 1 v n xs) (B : Nat) (u : Value) (bs : List UInt8) (hx : a.eval x = u) (hu : SliceB B w u bs)
    (hb : n + bs.length ≤ 140737488355328) (hbase : base ≤ w.heap.size)
    (h : ∀ ao cap w', w'.ownsRow base 5 1 (.slice ao (n + bs.length) cap) (n + bs.length) (xs ++ u8s bs) → w.grownBy w' v.ownBlock → Moved w v (.slice ao (n + bs.length) cap) → wpList Try.prog ops Q rest (a.put o.dst (.slice ao (n + bs.length) cap)) w') :
    wpList Try.prog ops Q (o :: rest) a w := by
  refine wpList_plain hgd fun K hK => ?_
  obtain ⟨ao, cap, w', hr, h1, h2, h3⟩ := run_app w o.type base v n xs hown B u bs hu hb hbase
  exact wp_app_of s x ho hs hx hr (hK _ _ (h ao cap w' h1 h2 h3))

theorem wpList_app_str (hgd : o.guard = none) (sl x : Operand) (ho : o.op = .call { callee := .builtin .append, args := #[sl, x], argTypes := #[26, 9] })
    (base : Nat) (v : Value) (n : Nat) (xs : List Value) (hs : a.eval sl = v) (hown : w.ownsRow base 5 1 v n xs) (s : ByteArray) (hx : a.eval x = .string s)
    (hb : n + s.size ≤ 140737488355328) (hbase : base ≤ w.heap.size)
    (h : ∀ ao cap w', w'.ownsRow base 5 1 (.slice ao (n + s.size) cap) (n + s.size) (xs ++ u8s s.data.toList) → w.grownBy w' v.ownBlock → Moved w v (.slice ao (n + s.size) cap) → wpList Try.prog ops Q rest (a.put o.dst (.slice ao (n + s.size) cap)) w') :
    wpList Try.prog ops Q (o :: rest) a w := by
  refine wpList_plain hgd fun K hK => ?_
  obtain ⟨ao, cap, w', hr, h1, h2, h3⟩ := run_app_str w o.type base v n xs hown s hb hbase
  exact wp_app_of sl x ho hs hx hr (hK _ _ (h ao cap w' h1 h2 h3))

theorem step_app (hgd : o.guard = none) (s x : Operand) (ho : o.op = .call { callee := .builtin .append, args := #[s, x], argTypes := #[26, 26] })
    (base : Nat) (v : Value) (n : Nat) (xs : List Value) (hs : a.eval s = v) (hown : w.ownsRow base 5 1 v n xs) (B : Nat) (u : Value) (bs : List UInt8) (hx : a.eval x = u) (hu : SliceB B w u bs)
    (hb : n + bs.length ≤ 140737488355328) (hbase : base ≤ w.heap.size)
    (h : ∀ ao cap w', w'.ownsRow base 5 1 (.slice ao (n + bs.length) cap) (n + bs.length) (xs ++ u8s bs) → w.grownBy w' v.ownBlock → K (a.put o.dst (.slice ao (n + bs.length) cap)) w') :
    if Region.wanted o (yielded ops a.tmps) = true then Oper.wp Try.prog o a w K Q else E := by
  have hw : Region.wanted o (yielded ops a.tmps) = true := by simp [Region.wanted, hgd]
  rw [if_pos hw]
  obtain ⟨ao, cap, w', hr, h1, h2, _⟩ := run_app w o.type base v n xs hown B u bs hu hb hbase
  exact wp_app_of s x ho hs hx hr (h ao cap w' h1 h2)
end
end Go.Proofs.Ytkddkpdfeeikhaa.NT

/-
  appendText, appendNumber and appendProp write what txt, num4 and propB say.
-/
namespace Go.Proofs.Ytkddkpdfeeikhaa.NT
open Go.RowKit
set_option linter.unusedVariables false
set_option linter.unusedSimpArgs false

theorem own_drop {w w' : World} {base : Nat} {v : Value} {n : Nat} {xs : List Value} (h : w.ownsRow base 5 1 v n xs) (hb : base ≤ w.heap.size) (hg : w.grownBy w' v.ownBlock) : Below base w w' :=
  Below.grown (Below.refl _ _) hg hb (fun k hk => (h.lt k hk).1)

/-- A new row of bytes. -/
theorem new_bytes (w : World) (bs : List UInt8) (cs : Array Value) (hl : bs.length ≤ maxLen) (h : cs.toList = u8s bs) : SliceB (w.heap.size + 1) (w.alloc (.cells cs 5)) (.slice (some ⟨w.heap.size, 0, none⟩) bs.length bs.length) bs := by
  refine ⟨_, _, rfl, Nat.le_refl _, hl, fun h => by simp at h, fun i hi => ⟨w.heap.size, 0, rfl, by omega, ?_⟩⟩
  have : cs[i]? = some (.int .u8 bs[i].toNat) := by
    rw [← Array.getElem?_toList, h]; simp [u8s, hi]
  simp [this]

def txt (s : ByteArray) : List UInt8 := UInt8.ofNat s.size :: s.data.toList
theorem size_list (s : ByteArray) : s.data.toList.length = s.size := by rw [Array.length_toList]; rfl

theorem byte_of (n : Nat) (h : n ≤ 255) : ((UInt8.ofNat n).toNat : Int) = n := by
  simp [UInt8.toNat_ofNat]; omega

set_option maxHeartbeats 400000 in
theorem appendText_any (base : Nat) (v : Value) (xs : List UInt8) (s : ByteArray) (w : World) (hown : w.ownsRow base 5 1 v xs.length (u8s xs)) (hb : base ≤ w.heap.size) (hx : xs.length ≤ 1000000) (hs : s.size ≤ 255) :
    Calls Try.prog 107 #[v, .string s] w fun e w' => ∃ v', e = .returned v' ∧ w'.ownsRow base 5 1 v' (xs ++ txt s).length (u8s (xs ++ txt s)) ∧ w.grownBy w' v.ownBlock ∧ Moved w v v' := by
  have hby := byte_of s.size hs
  have HB : Hid (((UInt8.ofNat s.size).toNat : Int) = s.size) := hby
  clear hby
  go_enter Try.func107, Try.ntmps107
  go_wp2_with (first
    | (at_builtin; refine wpList_app rfl (.tmp 5) (.tmp 9) rfl base v xs.length (u8s xs) rfl (hown.alloc _) (w.heap.size + 1) _ [UInt8.ofNat s.size] rfl (new_bytes w [UInt8.ofNat s.size] _ (by simp [maxLen]) (by simp [u8s, HB.out]; omega)) (by simp; omega) (by simp; omega) ?_; intro ao cap w1 hown1 hg1 hm1)
    | (at_builtin; refine wpList_app_str rfl (.tmp 11) (.tmp 12) rfl base _ _ _ rfl hown1 s rfl (by simp; omega) (by have := hg1.size; simp at this; omega) ?_; intro ao2 cap2 w2 hown2 hg2 hm2))
  go_ret
  have e1 : u8s (xs ++ txt s) = u8s xs ++ u8s [UInt8.ofNat s.size] ++ u8s s.data.toList := by simp [u8s, txt]
  have e2 : (xs ++ txt s).length = xs.length + [UInt8.ofNat s.size].length + s.size := by simp [txt, size_list]; omega
  have g1 : w.grownBy w1 v.ownBlock := moved_grown (World.grownBy_alloc _ _ _) (Moved.refl _ _) hg1
  have m1 : Moved w v _ := hm1.of (by simp)
  refine ⟨_, rfl, ?_, moved_grown g1 m1 hg2, m1.trans g1.size hm2⟩
  rw [e1, e2]
  exact hown2

def num4 (n : Int) : List UInt8 := [UInt8.ofNat (n % 4294967296 / 16777216).toNat, UInt8.ofNat (n % 4294967296 / 65536 % 256).toNat, UInt8.ofNat (n % 4294967296 / 256 % 256).toNat, UInt8.ofNat (n % 256).toNat]

theorem byteI (x : Int) (h0 : 0 ≤ x) (h1 : x ≤ 255) : ((UInt8.ofNat x.toNat).toNat : Int) = x := by
  simp [UInt8.toNat_ofNat]; omega
theorem num4_cells (n : Int) : [Value.int IntKind.u8 (n % 4294967296 / 16777216), Value.int IntKind.u8 (n % 4294967296 / 65536 % 256),
      Value.int IntKind.u8 (n % 4294967296 / 256 % 256), Value.int IntKind.u8 (n % 256)] = u8s (num4 n) := by
  simp only [u8s, num4, List.map_cons, List.map_nil]
  rw [byteI _ (by omega) (by omega), byteI _ (by omega) (by omega), byteI _ (by omega) (by omega), byteI _ (by omega) (by omega)]

set_option maxHeartbeats 400000 in
theorem appendNumber_any (base : Nat) (v : Value) (xs : List UInt8) (n : Int) (w : World) (hown : w.ownsRow base 5 1 v xs.length (u8s xs)) (hb : base ≤ w.heap.size) (hx : xs.length ≤ 1000000) :
    Calls Try.prog 108 #[v, .int .i64 n] w fun e w' => ∃ v', e = .returned v' ∧ w'.ownsRow base 5 1 v' (xs ++ num4 n).length (u8s (xs ++ num4 n)) ∧ w.grownBy w' v.ownBlock ∧ Moved w v v' := by
  go_enter Try.func108, Try.ntmps108
  go_wp2_with (
     (at_builtin; refine wpList_app rfl (.tmp 8) (.tmp 20) rfl base v xs.length (u8s xs) rfl (hown.alloc _) (w.heap.size + 1) _ (num4 n) rfl (new_bytes w (num4 n) _ (by simp [num4, maxLen]) ?hcells) (by simp [num4]; omega) (by simp; omega) ?_; rotate_left; intro ao cap w1 hown1 hg1 hm1))
  · go_ret
    refine ⟨_, rfl, ?_, moved_grown (World.grownBy_alloc _ _ _) (Moved.refl _ _) hg1, hm1.of (by simp)⟩
    rw [u8s_append, List.length_append]
    exact hown1
  · exact num4_cells n

def propB (p : PD) : List UInt8 := txt p.key ++ (UInt8.ofNat p.kind.toNat :: if p.kind == 2 then txt p.text else num4 p.n)
/-- What Bytes asks of a property (a right one has it). -/
def PD.small (p : PD) : Prop := p.key.size ≤ 8 ∧ 1 ≤ p.kind ∧ p.kind ≤ 3 ∧ (p.kind = 2 → p.text.size ≤ 12)

theorem txt_len (s : ByteArray) : (txt s).length = s.size + 1 := by simp [txt, size_list]
theorem propB_len (p : PD) (h : p.small) : (propB p).length ≤ 40 := by
  obtain ⟨h1, h2, h3, h4⟩ := h
  unfold propB
  split
  · have := h4 (eqb (by assumption))
    simp [txt_len]; omega
  · simp [txt_len, num4]; omega

theorem own_far {W w1 : World} {row : Option Nat} (hb : W.grownBy w1 row) (b : Nat) (h : b < W.heap.size) (hn : some b ≠ row) : (∀ o, w1.cell? ⟨b, o, none⟩ = W.cell? ⟨b, o, none⟩) ∧ (∀ o, w1.frozen? ⟨b, o, none⟩ = W.frozen? ⟨b, o, none⟩) :=
  ⟨fun o => World.cell?_of_block (a := ⟨b, o, none⟩) (hb.block b h hn), fun o => World.frozen?_of_block (a := ⟨b, o, none⟩) (hb.block b h hn)⟩
/-- The box that was laid ahead of the append is not the row. -/
theorem box_ne {w : World} {o : Obj} {v v1 : Value} (hv : v.ownBlock ≠ some w.heap.size) (hm : Moved (w.alloc o) v v1) : some w.heap.size ≠ v1.ownBlock := by
  intro e
  rcases hm _ e.symm with h | h
  · exact hv h
  · rw [World.size_alloc] at h; omega

set_option maxHeartbeats 400000 in
theorem appendProp_any (base : Nat) (v : Value) (xs : List UInt8) (p : PD) (w : World) (hown : w.ownsRow base 5 1 v xs.length (u8s xs)) (hb : base ≤ w.heap.size) (hx : xs.length ≤ 900000) (hp : p.small) :
    Calls Try.prog 85 #[v, .agg #[.string p.key, .int .i64 p.kind, .int .i64 p.n, .string p.text]] w fun e w' => ∃ v', e = .returned v' ∧ w'.ownsRow base 5 1 v' (xs ++ propB p).length (u8s (xs ++ propB p)) ∧ w.grownBy w' v.ownBlock ∧ Moved w v v' := by
  obtain ⟨h1, h2, h3, h4⟩ := hp
  have hkb : Hid (((UInt8.ofNat p.kind.toNat).toNat : Int) = p.kind) := byteI _ (by omega) (by omega)
  have HL : Hid ((txt p.key).length = p.key.size + 1) := txt_len p.key
  have hvb : v.ownBlock ≠ some w.heap.size := fun e => by have := (hown.lt _ e).2; omega
  cases hk2 : (p.kind == 2) with
  | true =>
    have hPB : Hid (propB p = txt p.key ++ (UInt8.ofNat p.kind.toNat :: txt p.text)) := by show propB p = _; rw [propB, hk2]; rfl
    have h5 := h4 (eqb hk2)
    go_enter Try.func85, Try.ntmps85
    go_wp2_with (first
      | (at_builtin; refine wpList_app rfl (.tmp 9) (.tmp 13) rfl base v1 (xs ++ txt p.key).length (u8s (xs ++ txt p.key)) rfl (hown1.alloc _) (w1.heap.size + 1) _ [UInt8.ofNat p.kind.toNat] rfl (new_bytes w1 [UInt8.ofNat p.kind.toNat] _ (by simp [maxLen]) (by simp [u8s, hkb.out] <;> omega)) (by simp [HL.out]; omega) (by simp; omega) ?_; intro ao cap w2 hown2 hg2 hm2; obtain ⟨k1, k2⟩ := own_far hg2 w.heap.size (by simp; omega) (box_ne hvb hm1))
      | (go_at_call_of 107 (Value.string p.key); refine (appendText_any base v xs p.key _ (hown.alloc _) (by simp; omega) (by omega) (by omega)).mono ?_; rintro e w1 ⟨v1, rfl, hown1, hg1, hm1⟩; have hz1 : w.heap.size < w1.heap.size := (by have := hg1.size; simp at this; omega); obtain ⟨j1, j2⟩ := own_far hg1 w.heap.size (by simp) (Ne.symm hvb))
      | (go_at_call_of 107 (Value.string p.text); refine (appendText_any base _ (xs ++ txt p.key ++ [UInt8.ofNat p.kind.toNat]) p.text _ (by simpa [u8s, Nat.add_assoc] using hown2) (by have := hg2.size; simp at this; omega) (by simp [HL.out]; omega) (by omega)).mono ?_; rintro e w3 ⟨v3, rfl, hown3, hg3, hm3⟩))
    go_ret
    have g1 : w.grownBy w1 v.ownBlock := moved_grown (World.grownBy_alloc _ _ _) (Moved.refl _ _) hg1
    have m1 : Moved w v v1 := hm1.of (by simp)
    have g2 : w1.grownBy w2 v1.ownBlock := moved_grown (World.grownBy_alloc _ _ _) (Moved.refl _ _) hg2
    have m2' : Moved w1 v1 (.slice ao ((xs ++ txt p.key).length + [UInt8.ofNat p.kind.toNat].length) cap) := hm2.of (by simp)
    have m2 : Moved w1 v1 (.slice ao (xs.length + (txt p.key).length + 1) cap) := by simpa only [List.length_append, List.length_cons, List.length_nil, Nat.zero_add] using m2'
    have g3 := moved_grown g1 m1 g2
    have m3 := m1.trans g1.size m2
    refine ⟨_, rfl, ?_, moved_grown g3 m3 hg3, m3.trans g3.size hm3⟩
    rw [hPB.out]
    simpa using hown3
  | false =>
    have hPB : Hid (propB p = txt p.key ++ (UInt8.ofNat p.kind.toNat :: num4 p.n)) := by show propB p = _; rw [propB, hk2]; rfl
    go_enter Try.func85, Try.ntmps85
    go_wp2_with (first
      | (at_builtin; refine wpList_app rfl (.tmp 9) (.tmp 13) rfl base v1 (xs ++ txt p.key).length (u8s (xs ++ txt p.key)) rfl (hown1.alloc _) (w1.heap.size + 1) _ [UInt8.ofNat p.kind.toNat] rfl (new_bytes w1 [UInt8.ofNat p.kind.toNat] _ (by simp [maxLen]) (by simp [u8s, hkb.out] <;> omega)) (by simp [HL.out]; omega) (by simp; omega) ?_; intro ao cap w2 hown2 hg2 hm2; obtain ⟨k1, k2⟩ := own_far hg2 w.heap.size (by simp; omega) (box_ne hvb hm1))
      | (go_at_call_of 107 (Value.string p.key); refine (appendText_any base v xs p.key _ (hown.alloc _) (by simp; omega) (by omega) (by omega)).mono ?_; rintro e w1 ⟨v1, rfl, hown1, hg1, hm1⟩; have hz1 : w.heap.size < w1.heap.size := (by have := hg1.size; simp at this; omega); obtain ⟨j1, j2⟩ := own_far hg1 w.heap.size (by simp) (Ne.symm hvb))
      | (go_at_call 108; refine (appendNumber_any base _ (xs ++ txt p.key ++ [UInt8.ofNat p.kind.toNat]) p.n _ (by simpa [u8s, Nat.add_assoc] using hown2) (by have := hg2.size; simp at this; omega) (by simp [HL.out]; omega)).mono ?_; rintro e w3 ⟨v3, rfl, hown3, hg3, hm3⟩))
    go_ret
    have g1 : w.grownBy w1 v.ownBlock := moved_grown (World.grownBy_alloc _ _ _) (Moved.refl _ _) hg1
    have m1 : Moved w v v1 := hm1.of (by simp)
    have g2 : w1.grownBy w2 v1.ownBlock := moved_grown (World.grownBy_alloc _ _ _) (Moved.refl _ _) hg2
    have m2' : Moved w1 v1 (.slice ao ((xs ++ txt p.key).length + [UInt8.ofNat p.kind.toNat].length) cap) := hm2.of (by simp)
    have m2 : Moved w1 v1 (.slice ao (xs.length + (txt p.key).length + 1) cap) := by simpa only [List.length_append, List.length_cons, List.length_nil, Nat.zero_add] using m2'
    have g3 := moved_grown g1 m1 g2
    have m3 := m1.trans g1.size m2
    refine ⟨_, rfl, ?_, moved_grown g3 m3 hg3, m3.trans g3.size hm3⟩
    rw [hPB.out]
    simpa using hown3
end Go.Proofs.Ytkddkpdfeeikhaa.NT

/-
  (*reader).note reads what noteF says.
-/
namespace Go.Proofs.Ytkddkpdfeeikhaa.NT
open Go.RowKit
set_option linter.unusedVariables false
set_option linter.unusedSimpArgs false

attribute [local go_sem ↓] Go.wp_at_zero Go.wp_at_succ

def PD.cells (p : PD) : List Value := [.string p.key, .int .i64 p.kind, .int .i64 p.n, .string p.text]
def cellsL (l : List PD) : List Value := l.flatMap PD.cells

def propsF : Nat → (List UInt8 × Bool) → List PD × (List UInt8 × Bool)
  | 0, s => ([], s)
  | k + 1, s => ((propsF k s).1 ++ [(propF (propsF k s).2).1], (propF (propsF k s).2).2)

def NoteBlk (w : World) (b : Nat) (v u : Value) : Prop := w.heap[b]? = some (.cells #[v, u] 28 (0, 0))
theorem NoteBlk.c0 {w : World} {b : Nat} {v u : Value} (h : NoteBlk w b v u) : w.cell? ⟨b, 0, none⟩ = some v := by
  rw [cell_of_row w b 0 _ 28 (0, 0) h]; rfl
theorem NoteBlk.c1 {w : World} {b : Nat} {v u : Value} (h : NoteBlk w b v u) : w.cell? ⟨b, 1, none⟩ = some u := by
  rw [cell_of_row w b 1 _ 28 (0, 0) h]; rfl
theorem NoteBlk.f {w : World} {b : Nat} {v u : Value} (h : NoteBlk w b v u) (o : Nat) : w.frozen? ⟨b, o, none⟩ = false := by
  unfold NoteBlk at h
  simp [World.frozen?, h]
theorem NoteBlk.lt {w : World} {b : Nat} {v u : Value} (h : NoteBlk w b v u) : b < w.heap.size := (Array.getElem?_eq_some_iff.1 h).1
theorem NoteBlk.same {w w' : World} {b : Nat} {v u : Value} (h : NoteBlk w b v u) (hb : w'.heap[b]? = w.heap[b]?) : NoteBlk w' b v u := hb.trans h
theorem NoteBlk.grown {w w' : World} {b : Nat} {v u : Value} {row : Option Nat} (h : NoteBlk w b v u) (hb : w.grownBy w' row) (hn : some b ≠ row) : NoteBlk w' b v u := h.same (hb.block b h.lt hn)

def noteF (many : Nat) (s : List UInt8 × Bool) : List PD × List UInt8 × (List UInt8 × Bool) :=
  ((propsF many s).1, (takeF (sizeF (propsF many s).2).1 (sizeF (propsF many s).2).2).1, (takeF (sizeF (propsF many s).2).1 (sizeF (propsF many s).2).2).2)

theorem own_mono {w : World} {base base' : Nat} {e : TypeId} {size : Nat} {v : Value} {n : Nat} {xs : List Value} (h : w.ownsRow base e size v n xs) (hb : base' ≤ base) : w.ownsRow base' e size v n xs := by
  obtain ⟨h1, h2⟩ := h
  refine ⟨h1, ?_⟩
  rcases h2 with h2 | ⟨g, cap, cur, hv, hg, r⟩
  · exact .inl h2
  · exact .inr ⟨g, cap, cur, hv, by omega, r⟩

theorem bcellx {W w1 : World} (hb : W.grownBy w1 (Value.slice none 0 0).ownBlock) (b : Nat) (h : b < W.heap.size) : (∀ o, w1.cell? ⟨b, o, none⟩ = W.cell? ⟨b, o, none⟩) ∧ (∀ o, w1.frozen? ⟨b, o, none⟩ = W.frozen? ⟨b, o, none⟩) :=
  ⟨fun o => World.cell?_of_block (a := ⟨b, o, none⟩) (hb.block b h (by simp [Value.ownBlock])), fun o => World.frozen?_of_block (a := ⟨b, o, none⟩) (hb.block b h (by simp [Value.ownBlock]))⟩

theorem Rd.drew {w : World} {R : Nat} {s} (h : Rd w R s) : Rd w.drew R s := h.kept (fun _ _ => rfl)

end Go.Proofs.Ytkddkpdfeeikhaa.NT
