/-
  SrBase; SrMath: texts laid together.
-/
import Derived.Test.YtkddkpdfeeikhaaRows
import Derived.WalkKit
import Derived.WalkSpells
import Derived.WalkLawsBesides
import Derived.Laws.BytesArg
import Derived.Lib.EndianBits
import Derived.Deep.AppendLies
import Derived.Lib.AppendStr
import Derived.Maps.AppendAt
import Derived.OwnWalk
import Derived.Deep.RegionWith
/-
  Memory of bytes: slices that read as a list of bytes, rows that a call made itself, append to them, bytes as a string.
-/
namespace Go.Proofs.Ytkddkpdfeeikhaa.SR
open Go.RowKit
set_option linter.unusedVariables false
set_option linter.unusedSimpArgs false

theorem bcell {W w1 : World} (hb : Below W.heap.size W w1) : (∀ b o, b < W.heap.size → w1.cell? ⟨b, o, none⟩ = W.cell? ⟨b, o, none⟩) ∧ (∀ b o, b < W.heap.size → w1.frozen? ⟨b, o, none⟩ = W.frozen? ⟨b, o, none⟩) :=
  ⟨fun b o h => hb.cell (p := ⟨b, o, none⟩) h, fun b o h => hb.frozen (p := ⟨b, o, none⟩) h⟩

theorem ret_bool {a b : Bool} (h : a = b) : Ending.returned (.bool a) = .returned (.bool b) := by rw [h]

theorem ret_i64 {a b : Int} (h : a = b) : Ending.returned (.int .i64 a) = .returned (.int .i64 b) := by rw [h]

def BytesAt (B : Nat) (w : World) (a : Option Addr) (bs : List UInt8) : Prop :=
  ∀ i (h : i < bs.length), ∃ b off, a = some ⟨b, off, none⟩ ∧ b < B ∧ w.cell? ⟨b, off + i, none⟩ = some (.int .u8 bs[i].toNat)

theorem BytesAt.mono {B B' : Nat} {w : World} {a : Option Addr} {bs : List UInt8} (h : BytesAt B w a bs) (hb : B ≤ B') : BytesAt B' w a bs := by
  intro i hi
  obtain ⟨b, off, rfl, hlt, h0⟩ := h i hi
  exact ⟨b, off, rfl, by omega, h0⟩

theorem BytesAt.same {B : Nat} {w w' : World} {a : Option Addr} {bs : List UInt8} (h : BytesAt B w a bs) (hb : ∀ k, k < B → w'.heap[k]? = w.heap[k]?) : BytesAt B w' a bs := by
  intro i hi
  obtain ⟨b, off, rfl, hlt, h0⟩ := h i hi
  exact ⟨b, off, rfl, hlt, (World.cell?_of_block (hb b hlt)).trans h0⟩

theorem BytesAt.below {B : Nat} {w w' : World} {a : Option Addr} {bs : List UInt8} (h : BytesAt B w a bs) (hb : Below B w w') : BytesAt B w' a bs := h.same hb.block

/-- A slice of bytes that reads as bs, out of blocks below B. -/
def SliceB (B : Nat) (w : World) (v : Value) (bs : List UInt8) : Prop :=
  ∃ a cap, v = .slice a bs.length cap ∧ bs.length ≤ cap ∧ cap ≤ maxLen ∧ (a = none → cap = 0) ∧ BytesAt B w a bs

theorem SliceB.same {B : Nat} {w w' : World} {v : Value} {bs : List UInt8} (h : SliceB B w v bs) (hb : ∀ k, k < B → w'.heap[k]? = w.heap[k]?) : SliceB B w' v bs := by
  obtain ⟨a, cap, rfl, h1, h2, hn, h3⟩ := h
  exact ⟨a, cap, rfl, h1, h2, hn, h3.same hb⟩

theorem SliceB.mono {B B' : Nat} {w : World} {v : Value} {bs : List UInt8} (h : SliceB B w v bs) (hb : B ≤ B') : SliceB B' w v bs := by
  obtain ⟨a, cap, rfl, h1, h2, hn, h3⟩ := h
  exact ⟨a, cap, rfl, h1, h2, hn, h3.mono hb⟩

theorem SliceB.nil (B : Nat) (w : World) : SliceB B w (.slice none 0 0) [] := ⟨none, 0, rfl, Nat.le_refl _, by simp [maxLen], fun _ => rfl, fun i h => by simp at h⟩

theorem grownBy_refl (w : World) (row : Option Nat) : w.grownBy w row := ⟨rfl, rfl, rfl, Nat.le_refl _, fun _ _ _ => rfl⟩

theorem grownBy_trans {a b c : World} {row : Option Nat} (h : a.grownBy b row) (k : b.grownBy c row) : a.grownBy c row :=
  ⟨k.os.trans h.os, k.tape.trans h.tape, k.output.trans h.output, Nat.le_trans h.size k.size, fun i hi hn => (k.block i (Nat.lt_of_lt_of_le hi h.size) hn).trans (h.block i hi hn)⟩

theorem grownBy_of_below {w w' : World} {row : Option Nat} (h : Below w.heap.size w w') : w.grownBy w' row :=
  ⟨h.os, h.tape, h.output, h.size, fun k hk _ => h.block k hk⟩

theorem add_none (b off n : Nat) : (⟨b, off, none⟩ : Addr).add n = ⟨b, off + n, none⟩ := by unfold Addr.add; split <;> simp_all

theorem bytes_drop {R : Nat} {w : World} {a : Option Addr} {bs : List UInt8} (h : BytesAt R w a bs) (n : Nat) : BytesAt R w (a.map (fun x => x.add n)) (bs.drop n) := by
  intro i hi
  obtain ⟨b, off, e, hlt, h0⟩ := h (n + i) (by simp at hi; omega)
  exact ⟨b, off + n, by simp [e, add_none], hlt, by rw [Nat.add_assoc]; simpa using h0⟩

def bstr (bs : List UInt8) : ByteArray := ⟨bs.toArray⟩

theorem SliceB.one {B : Nat} {w : World} {v : Value} {c : UInt8} (h : SliceB B w v [c]) : ∃ b off cap, v = .slice (some ⟨b, off, none⟩) 1 cap ∧ w.cell? ⟨b, off, none⟩ = some (.int .u8 c.toNat) := by
  obtain ⟨a, cap, rfl, h1, h2, _, h3⟩ := h
  obtain ⟨b, off, rfl, hlt, h4⟩ := h3 0 (by simp)
  exact ⟨b, off, cap, rfl, h4⟩

theorem u8_bounds (c : UInt8) : (0 : Int) ≤ c.toNat ∧ (c.toNat : Int) ≤ 255 := by
  have := c.toNat_lt; omega

theorem eqb {a b : Int} (h : (a == b) = true) : a = b := by simpa using h

theorem info5 : (Try.prog.info? 5).map (fun i => (i.zero, i.size, i.bytes)) = some (some (.int .u8 0), 1, 1) := by kernel_rfl

def u8s (bs : List UInt8) : List Value := bs.map fun c => Value.int .u8 c.toNat

theorem u8s_len (bs : List UInt8) : (u8s bs).length = bs.length := by simp [u8s]

theorem u8s_append (a b : List UInt8) : u8s (a ++ b) = u8s a ++ u8s b := by simp [u8s]

theorem u8s_one (bs : List UInt8) : ∀ u ∈ u8s bs, u.oneCell' = true := by
  intro u hu
  simp only [u8s, List.mem_map] at hu
  obtain ⟨b, _, rfl⟩ := hu
  rfl

theorem own_shape {w : World} {base : Nat} {e : TypeId} {size : Nat} {v : Value} {n : Nat} {xs : List Value} (h : w.ownsRow base e size v n xs) : ∃ ao cap, v = .slice ao n cap ∧ n ≤ cap ∧ cap ≤ maxLen ∧ (ao = none → cap = 0) := by
  rcases h.2 with ⟨rfl, rfl⟩ | ⟨g, cap, cur, rfl, _, _, h1, h2, _⟩
  · exact ⟨none, 0, rfl, Nat.le_refl _, by simp [maxLen], fun _ => rfl⟩
  · exact ⟨_, cap, rfl, h1, h2, fun h => by simp at h⟩

/-- What is owned reads as a slice of bytes. -/
theorem own_slice {w : World} {base : Nat} {v : Value} {bs : List UInt8} (h : w.ownsRow base 5 1 v bs.length (u8s bs)) : SliceB w.heap.size w v bs := by
  have hl := h.lt
  obtain ⟨ao, cap, rfl, h1, h2, h3⟩ := own_shape h
  refine ⟨ao, cap, rfl, h1, h2, h3, fun i hi => ?_⟩
  rcases h.2 with ⟨e, h0⟩ | ⟨g, cap', cur, e, hb, hg, _⟩
  · omega
  · simp only [Value.slice.injEq] at e
    obtain ⟨rfl, _, _⟩ := e
    refine ⟨g, 0, rfl, (hl g rfl).2, ?_⟩
    have := h.cells (g := g) rfl i (.int .u8 bs[i].toNat) (by simp [u8s, hi])
    rw [add_none] at this
    exact this

/-- The block of v' is that of v, or a new one. -/
def Moved (w : World) (v v' : Value) : Prop := ∀ k, v'.ownBlock = some k → v.ownBlock = some k ∨ w.heap.size ≤ k

theorem Moved.refl (w : World) (v : Value) : Moved w v v := fun _ h => .inl h

theorem moved_grown {w w1 w2 : World} {v v1 : Value} (hg : w.grownBy w1 v.ownBlock) (hm : Moved w v v1) (hg2 : w1.grownBy w2 v1.ownBlock) : w.grownBy w2 v.ownBlock :=
  ⟨hg2.os.trans hg.os, hg2.tape.trans hg.tape, hg2.output.trans hg.output, Nat.le_trans hg.size hg2.size, fun k hk hn => by
    refine (hg2.block k (Nat.lt_of_lt_of_le hk hg.size) (fun e => ?_)).trans (hg.block k hk hn)
    rcases hm k e.symm with h | h
    · exact hn h.symm
    · omega⟩

theorem Moved.trans {w w1 : World} {v v1 v2 : Value} (hg : w.heap.size ≤ w1.heap.size) (h : Moved w v v1) (h2 : Moved w1 v1 v2) : Moved w v v2 := by
  intro k hk
  rcases h2 k hk with h3 | h3
  · exact h k h3
  · exact .inr (by omega)

theorem Moved.of {w w' : World} {v v' : Value} (h : Moved w' v v') (hz : w.heap.size ≤ w'.heap.size) : Moved w v v' := fun k hk => (h k hk).imp id (fun h => by omega)

/-- 'append(out, b...)', out the call's own. -/
theorem run_app (w : World) (ty : TypeId) (base : Nat) (v : Value) (n : Nat) (xs : List Value) (hown : w.ownsRow base 5 1 v n xs) (B : Nat) (u : Value) (bs : List UInt8) (hu : SliceB B w u bs)
    (hb : n + bs.length ≤ 140737488355328) (hbase : base ≤ w.heap.size) :
    ∃ ao cap w', (Builtin.append_ #[26, 26] ty #[v, u]).run Try.prog w = .ok (.slice ao (n + bs.length) cap) w' ∧ w'.ownsRow base 5 1 (.slice ao (n + bs.length) cap) (n + bs.length) (xs ++ u8s bs) ∧ w.grownBy w' v.ownBlock ∧ Moved w v (.slice ao (n + bs.length) cap) := by
  obtain ⟨i0, hi0, hz0, hz1, hz2⟩ := info_parts info5
  obtain ⟨a, cap, rfl, h1, h2, hn, h3⟩ := hu
  cases a with
  | none =>
    have hc := hn rfl
    have hl : bs.length = 0 := by omega
    obtain rfl : bs = [] := List.length_eq_zero_iff.1 hl
    subst hc
    have hr := run_append_owned_none (P := Try.prog) (w := w) base 26 ty 5 i0 1 Try.underlying26 hi0 v n xs hown
    obtain ⟨ao, cp, rfl, _⟩ := own_shape hown
    exact ⟨ao, cp, w, hr, by simpa [u8s] using hown, grownBy_refl _ _, Moved.refl _ _⟩
  | some ad =>
    have hnews : ∀ j x, (u8s bs)[j]? = some x → w.cell? (ad.add j) = some x := by
      intro j x hj
      have hjl : j < bs.length := by
        rcases Nat.lt_or_ge j bs.length with h | h
        · exact h
        · simp [List.getElem?_eq_none (show (u8s bs).length ≤ j by simpa [u8s] using h)] at hj
      obtain ⟨b, off, e, _, hc⟩ := h3 j hjl
      simp only [Option.some.injEq] at e
      subst e
      rw [add_none, hc]
      simp [u8s, hjl] at hj
      rw [hj]
    obtain ⟨v', w', hr, ho, hg, _, hat⟩ := run_append_own_at (P := Try.prog) w base 26 ty 5 i0 (.int .u8 0) 1 1 Try.underlying26 hi0 hz0 hz1 hz2 rfl (by omega) v n xs hown ad bs.length cap (u8s bs) (by simp [u8s]) hnews (u8s_one bs) (by unfold maxLen; omega) (by omega) hbase
    have hm : Moved w v v' := by
      intro k hk
      rcases hat with h | h
      · exact .inl (h.symm.trans hk)
      · rw [h] at hk; simp at hk; exact .inr (by omega)
    obtain ⟨ao, cp, rfl, _⟩ := own_shape ho
    exact ⟨ao, cp, w', hr, ho, hg, hm⟩

/-- 'append(out, s...)', s a string. -/
theorem run_app_str (w : World) (ty : TypeId) (base : Nat) (v : Value) (n : Nat) (xs : List Value) (hown : w.ownsRow base 5 1 v n xs) (s : ByteArray)
    (hb : n + s.size ≤ 140737488355328) (hbase : base ≤ w.heap.size) :
    ∃ ao cap w', (Builtin.append_ #[26, 9] ty #[v, .string s]).run Try.prog w = .ok (.slice ao (n + s.size) cap) w' ∧ w'.ownsRow base 5 1 (.slice ao (n + s.size) cap) (n + s.size) (xs ++ u8s s.data.toList) ∧ w.grownBy w' v.ownBlock ∧ Moved w v (.slice ao (n + s.size) cap) := by
  obtain ⟨i0, hi0, hz0, hz1, hz2⟩ := info_parts info5
  obtain ⟨v', w', hr, ho, hg, _⟩ := Lib.run_append_own_string (P := Try.prog) w base 26 9 ty 5 i0 Try.underlying26 Try.underlying9 hi0 hz0 hz1 hz2 v n xs hown s (by unfold maxLen; omega) hb hbase
  have hm : Moved w v v' := by
    intro k hk
    rcases id hown.2 with ⟨rfl, rfl⟩ | ⟨g, cap, cur, rfl, hbg, hgg, hnc, hcm, hcs, htake⟩
    · have hx : xs = [] := List.eq_nil_of_length_eq_zero (by simpa using hown.1)
      subst hx
      obtain ⟨v2, w2, hr2, ho2, _⟩ := Lib.run_append_own_string (P := Try.prog) w w.heap.size 26 9 ty 5 i0 Try.underlying26 Try.underlying9 hi0 hz0 hz1 hz2 (.slice none 0 0) 0 [] (World.ownsRow_nil _ _ _ _) s (by unfold maxLen; omega) hb (Nat.le_refl _)
      rw [hr] at hr2
      simp only [Result.ok.injEq] at hr2
      rw [hr2.1] at hk
      exact .inr (ho2.lt k hk).1
    · by_cases hroom : n + s.size ≤ cap
      · have hcs' : cur.size = cap := by simpa using hcs
        have hr2 := Lib.run_append_room_string (P := Try.prog) w 26 9 ty 5 i0 Try.underlying26 Try.underlying9 hi0 hz1 g n cap cur hgg s hroom (by omega)
        rw [hr] at hr2
        simp only [Result.ok.injEq] at hr2
        rw [hr2.1] at hk
        exact .inl hk
      · have holds : ∀ j u, xs[j]? = some u → w.cell? ((⟨g, 0, none⟩ : Addr).add j) = some u := hown.cells (g := g) rfl
        have hr2 := Lib.run_append_grow_string (P := Try.prog) w 26 9 ty 5 i0 (.int .u8 0) Try.underlying26 Try.underlying9 hi0 hz0 ⟨g, 0, none⟩ n cap xs (by rw [hz1]; exact hown.1) holds s (by omega) (by omega) (by rw [hz2]; exact growslice_fits (by omega) (by omega))
        rw [hr] at hr2
        simp only [Result.ok.injEq] at hr2
        rw [hr2.1] at hk
        simp [Value.ownBlock] at hk
        exact .inr (by omega)
  obtain ⟨ao, cp, rfl, _⟩ := own_shape ho
  exact ⟨ao, cp, w', hr, ho, hg, hm⟩

theorem own_drop {w w' : World} {base : Nat} {v : Value} {n : Nat} {xs : List Value} (h : w.ownsRow base 5 1 v n xs) (hb : base ≤ w.heap.size) (hg : w.grownBy w' v.ownBlock) : Below base w w' :=
  Below.grown (Below.refl _ _) hg hb (fun k hk => (h.lt k hk).1)

/-- A new row of bytes. -/
theorem new_bytes (w : World) (bs : List UInt8) (cs : Array Value) (hl : bs.length ≤ maxLen) (h : cs.toList = u8s bs) : SliceB (w.heap.size + 1) (w.alloc (.cells cs 5)) (.slice (some ⟨w.heap.size, 0, none⟩) bs.length bs.length) bs := by
  refine ⟨_, _, rfl, Nat.le_refl _, hl, fun h => by simp at h, fun i hi => ⟨w.heap.size, 0, rfl, by omega, ?_⟩⟩
  have : cs[i]? = some (.int .u8 bs[i].toNat) := by
    rw [← Array.getElem?_toList, h]; simp [u8s, hi]
  simp [this]

theorem size_list (s : ByteArray) : s.data.toList.length = s.size := by rw [Array.length_toList]; rfl

theorem byte_of (n : Nat) (h : n ≤ 255) : ((UInt8.ofNat n).toNat : Int) = n := by
  simp [UInt8.toNat_ofNat]; omega

theorem byteI (x : Int) (h0 : 0 ≤ x) (h1 : x ≤ 255) : ((UInt8.ofNat x.toNat).toNat : Int) = x := by
  simp [UInt8.toNat_ofNat]; omega

theorem own_mono {w : World} {base base' : Nat} {e : TypeId} {size : Nat} {v : Value} {n : Nat} {xs : List Value} (h : w.ownsRow base e size v n xs) (hb : base' ≤ base) : w.ownsRow base' e size v n xs := by
  obtain ⟨h1, h2⟩ := h
  refine ⟨h1, ?_⟩
  rcases h2 with h2 | ⟨g, cap, cur, hv, hg, r⟩
  · exact .inl h2
  · exact .inr ⟨g, cap, cur, hv, by omega, r⟩

theorem new_own (w : World) (base : Nat) (bs : List UInt8) (cs : Array Value) (hl : bs.length ≤ maxLen) (h : cs.toList = u8s bs) (hb : base ≤ w.heap.size) : (w.alloc (.cells cs 5)).ownsRow base 5 1 (.slice (some ⟨w.heap.size, 0, none⟩) bs.length bs.length) bs.length (u8s bs) := by
  have hs : cs.size = bs.length := by rw [← Array.length_toList, h, u8s_len]
  refine ⟨by simp [u8s], .inr ⟨w.heap.size, bs.length, cs, rfl, hb, heap_alloc_new w _, Nat.le_refl _, hl, by simpa using hs, ?_⟩⟩
  rw [h, List.take_of_length_le (by simp [u8s])]

theorem SliceB.below {w w' : World} {v : Value} {bs : List UInt8} (h : SliceB w.heap.size w v bs) (hb : Below w.heap.size w w') : SliceB w'.heap.size w' v bs := (h.same hb.block).mono hb.size

theorem below_alloc (w : World) (o : Obj) : Below w.heap.size w (w.alloc o) := (Below.refl _ _).alloc (Nat.le_refl _) _

theorem SliceB.drew {w : World} {v : Value} {bs : List UInt8} (h : SliceB w.heap.size w v bs) : SliceB w.drew.heap.size w.drew v bs := h.same (fun _ _ => rfl)

theorem own_below {w w' : World} {base : Nat} {e : TypeId} {size : Nat} {v : Value} {n : Nat} {xs : List Value} (h : w.ownsRow base e size v n xs) (hb : Below w.heap.size w w') : w'.ownsRow base e size v n xs :=
  h.kept (row := none) (grownBy_of_below hb) (by cases v.ownBlock <;> simp)

section
variable {w : World} {ops : Array Oper} {rest : List Oper} {o : Oper} {a : Act} {Q : Exit → Act → World → Prop} {K : Act → World → Prop} {E : Prop}

theorem wp_app_of {t u : TypeId} {v1 v2 : Value} (s x : Operand) (ho : o.op = .call { callee := .builtin .append, args := #[s, x], argTypes := #[t, u] }) (hs : a.eval s = v1) (hx : a.eval x = v2) {v' : Value} {w' : World}
    (hr : (Builtin.append_ #[t, u] o.type #[v1, v2]).run Try.prog w = .ok v' w') (h : K (a.put o.dst v') w') : o.wp Try.prog a w K Q := by
  unfold Oper.wp execOp
  simp only [ho, resolve, invoke, builtin, Sem.run_bind, Sem.run_pure, Result.andThen_ok, List.map_toArray, List.map_cons, List.map_nil, hs, hx, hr]
  exact h

theorem wpList_app (hgd : o.guard = none) (s x : Operand) (ho : o.op = .call { callee := .builtin .append, args := #[s, x], argTypes := #[26, 26] })
    (base : Nat) (v : Value) (n : Nat) (xs : List Value) (hs : a.eval s = v) (hown : w.ownsRow base 5 1 v n xs) (B : Nat) (u : Value) (bs : List UInt8) (hx : a.eval x = u) (hu : SliceB B w u bs)
    (hb : n + bs.length ≤ 140737488355328) (hbase : base ≤ w.heap.size)
    (h : ∀ ao cap w', w'.ownsRow base 5 1 (.slice ao (n + bs.length) cap) (n + bs.length) (xs ++ u8s bs) → w.grownBy w' v.ownBlock → Moved w v (.slice ao (n + bs.length) cap) → wpList Try.prog ops Q rest (a.put o.dst (.slice ao (n + bs.length) cap)) w') :
    wpList Try.prog ops Q (o :: rest) a w := by
  refine wpList_plain hgd fun K hK => ?_
  obtain ⟨ao, cap, w', hr, h1, h2, h3⟩ := run_app w o.type base v n xs hown B u bs hu hb hbase
  exact wp_app_of s x ho hs hx hr (hK _ _ (h ao cap w' h1 h2 h3))

theorem wpList_app_str (hgd : o.guard = none) (sl x : Operand) (ho : o.op = .call { callee := .builtin .append, args := #[sl, x], argTypes := #[26, 9] })
    (base : Nat) (v : Value) (n : Nat) (xs : List Value) (hs : a.eval sl = v) (hown : w.ownsRow base 5 1 v n xs) (s : ByteArray) (hx : a.eval x = .string s)
    (hb : n + s.size ≤ 140737488355328) (hbase : base ≤ w.heap.size)
    (h : ∀ ao cap w', w'.ownsRow base 5 1 (.slice ao (n + s.size) cap) (n + s.size) (xs ++ u8s s.data.toList) → w.grownBy w' v.ownBlock → Moved w v (.slice ao (n + s.size) cap) → wpList Try.prog ops Q rest (a.put o.dst (.slice ao (n + s.size) cap)) w') :
    wpList Try.prog ops Q (o :: rest) a w := by
  refine wpList_plain hgd fun K hK => ?_
  obtain ⟨ao, cap, w', hr, h1, h2, h3⟩ := run_app_str w o.type base v n xs hown s hb hbase
  exact wp_app_of sl x ho hs hx hr (hK _ _ (h ao cap w' h1 h2 h3))

theorem step_app (hgd : o.guard = none) (s x : Operand) (ho : o.op = .call { callee := .builtin .append, args := #[s, x], argTypes := #[26, 26] })
    (base : Nat) (v : Value) (n : Nat) (xs : List Value) (hs : a.eval s = v) (hown : w.ownsRow base 5 1 v n xs) (B : Nat) (u : Value) (bs : List UInt8) (hx : a.eval x = u) (hu : SliceB B w u bs)
    (hb : n + bs.length ≤ 140737488355328) (hbase : base ≤ w.heap.size)
    (h : ∀ ao cap w', w'.ownsRow base 5 1 (.slice ao (n + bs.length) cap) (n + bs.length) (xs ++ u8s bs) → w.grownBy w' v.ownBlock → K (a.put o.dst (.slice ao (n + bs.length) cap)) w') :
    if Region.wanted o (yielded ops a.tmps) = true then Oper.wp Try.prog o a w K Q else E := by
  have hw : Region.wanted o (yielded ops a.tmps) = true := by simp [Region.wanted, hgd]
  rw [if_pos hw]
  obtain ⟨ao, cap, w', hr, h1, h2, _⟩ := run_app w o.type base v n xs hown B u bs hu hb hbase
  exact wp_app_of s x ho hs hx hr (h ao cap w' h1 h2)
end
end Go.Proofs.Ytkddkpdfeeikhaa.SR

/-
  The log's bytes as plain lists: the sum, a frame, frames one behind the other, and what they are read as.
-/
namespace Go.Proofs.Ytkddkpdfeeikhaa.SR
set_option linter.unusedVariables false
set_option linter.unusedSimpArgs false

def sumStep (s : Nat) (c : UInt8) : Nat := (s * 33 + c.toNat + 1) % 65521
def sumF (b : List UInt8) : Nat := b.foldl sumStep 7
def pairB (n : Nat) : List UInt8 := [UInt8.ofNat (n / 256), UInt8.ofNat (n % 256)]
def headB (r : List UInt8) : List UInt8 := pairB r.length ++ r
def frameB (r : List UInt8) : List UInt8 := headB r ++ pairB (sumF (headB r))
def framesB (rs : List (List UInt8)) : List UInt8 := rs.flatMap frameB
def byteAt (b : List UInt8) (i : Nat) : Nat := (b.getD i 0).toNat
def pairN (b : List UInt8) : Nat := byteAt b 0 * 256 + byteAt b 1

def wholeB (b : List UInt8) : Bool := 4 ≤ b.length && (pairN b + 4 ≤ b.length && pairN (b.drop (2 + pairN b)) == sumF (b.take (2 + pairN b)))
def firstB (b : List UInt8) : List UInt8 := (b.take (2 + pairN b)).drop 2

def recsN : Nat → List UInt8 → List (List UInt8)
  | 0, _ => []
  | n + 1, b => if wholeB b = true then firstB b :: recsN n (b.drop (pairN b + 4)) else []
def recsF (b : List UInt8) : List (List UInt8) := recsN b.length b
def sizeR (rs : List (List UInt8)) : Nat := (rs.map fun r => r.length + 4).sum

theorem sizeR_append (a b : List (List UInt8)) : sizeR (a ++ b) = sizeR a + sizeR b := by simp [sizeR]
theorem sizeR_cons (r : List UInt8) (a : List (List UInt8)) : sizeR (r :: a) = r.length + 4 + sizeR a := by simp [sizeR]
theorem sizeR_take (rs : List (List UInt8)) (k : Nat) (h : k < rs.length) : sizeR (rs.take (k + 1)) = sizeR (rs.take k) + (rs[k].length + 4) := by
  rw [List.take_succ_eq_append_getElem h, sizeR_append]; simp [sizeR]
theorem sizeR_le (rs : List (List UInt8)) (k : Nat) : sizeR (rs.take k) ≤ sizeR rs := by
  conv => rhs; rw [← List.take_append_drop k rs]
  rw [sizeR_append]; omega
theorem sizeR_bound (rs : List (List UInt8)) (m : Nat) (h : ∀ r ∈ rs, r.length ≤ m) : sizeR rs ≤ rs.length * (m + 4) := by
  induction rs with
  | nil => simp [sizeR]
  | cons r rs ih =>
    have h1 := h r (by simp)
    have h2 := ih (fun q hq => h q (by simp [hq]))
    rw [sizeR_cons, List.length_cons, Nat.add_mul]; omega
theorem sizeR_len4 (rs : List (List UInt8)) : rs.length * 4 ≤ sizeR rs := by
  induction rs with
  | nil => simp
  | cons r rs ih => rw [sizeR_cons, List.length_cons]; omega
theorem pairB_len (n : Nat) : (pairB n).length = 2 := rfl
theorem frameB_len (r : List UInt8) : (frameB r).length = r.length + 4 := by simp [frameB, headB, pairB_len]; omega
theorem framesB_len (rs : List (List UInt8)) : (framesB rs).length = sizeR rs := by
  induction rs with
  | nil => rfl
  | cons r rs ih => simp only [framesB, List.flatMap_cons, List.length_append] at ih ⊢; rw [ih, frameB_len, sizeR_cons]
theorem framesB_append (a b : List (List UInt8)) : framesB (a ++ b) = framesB a ++ framesB b := by simp [framesB]
theorem framesB_take (rs : List (List UInt8)) (k : Nat) (h : k < rs.length) : framesB (rs.take (k + 1)) = framesB (rs.take k) ++ frameB rs[k] := by
  rw [List.take_succ_eq_append_getElem h, framesB_append]; simp [framesB]

theorem sumF_lt (b : List UInt8) : sumF b < 65521 := by
  unfold sumF
  suffices h : ∀ s, s < 65521 → b.foldl sumStep s < 65521 from h 7 (by decide)
  induction b with
  | nil => intro s h; exact h
  | cons c r ih => intro s h; exact ih _ (Nat.mod_lt _ (by decide))
theorem sumF_snoc (b : List UInt8) (c : UInt8) : sumF (b ++ [c]) = sumStep (sumF b) c := by simp [sumF]
theorem sumF_take (b : List UInt8) (k : Nat) (h : k < b.length) : sumF (b.take (k + 1)) = sumStep (sumF (b.take k)) b[k] := by
  rw [List.take_succ_eq_append_getElem h, sumF_snoc]

end Go.Proofs.Ytkddkpdfeeikhaa.SR
