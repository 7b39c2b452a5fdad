/-
  append on slices of bytes and of strings that the call itself made.
-/
import Derived.Test.YtedhlbknbaggiaaGreatDoorLnBase
namespace Go.Proofs.YtedhlbknbaggiaaGreatDoor
open Go.RowKit
set_option linter.unusedVariables false
set_option linter.unusedSimpArgs false

theorem info9 : (Tryz.prog.info? 9).map (fun i => (i.zero, i.size, i.bytes)) = some (some (.string ByteArray.empty), 1, 16) := by kernel_rfl
theorem info36 : (Tryz.prog.info? 36).map (fun i => (i.zero, i.size, i.bytes)) = some (some (.agg #[.string ByteArray.empty, .int .i64 0, .int .i64 0, .string ByteArray.empty]), 4, 48) := by kernel_rfl
theorem info_of {t : TypeId} {z : Value} {n m : Nat} (h : (Tryz.prog.info? t).map (fun i => (i.zero, i.size, i.bytes)) = some (some z, n, m)) : ∃ i, Tryz.prog.info? t = some i ∧ i.zero = some z ∧ i.size = n ∧ i.bytes = m := by
  cases hi : Tryz.prog.info? t with
  | none => rw [hi] at h; cases h
  | some i =>
    rw [hi] at h
    simp only [Option.map_some, Option.some.injEq, Prod.mk.injEq] at h
    exact ⟨i, rfl, h.1, h.2.1, h.2.2⟩

section
variable {w : World} {ops : Array Oper} {rest : List Oper} {o : Oper} {a : Act} {Q : Exit → Act → World → Prop} {K : Act → World → Prop} {E : Prop}

/-- Bytes behind bytes. -/
theorem app23 (hgd : o.guard = none) (s x : Operand) (ho : o.op = .call { callee := .builtin .append, args := #[s, x], argTypes := #[23, 23] })
    (base : Nat) (v : Value) (n : Nat) (xs : List Value) (hs : a.eval s = v) (hown : w.ownsRow base 5 1 v n xs) (S : Nat → Prop) (u : Value) (m : Nat) (ys : List Value) (hx : a.eval x = u) (hu : SliceV S w u m ys) (hl : ys.length = m) (h1 : ∀ u ∈ ys, u.oneCell' = true)
    (hb : n + m ≤ 140737488355328) (hbase : base ≤ w.heap.size)
    (h : ∀ ao cap w', w'.ownsRow base 5 1 (.slice ao (n + m) cap) (n + m) (xs ++ ys) → w.grownBy w' v.ownBlock → Moved w v (.slice ao (n + m) cap) → wpList Tryz.prog ops Q rest (a.put o.dst (.slice ao (n + m) cap)) w') :
    wpList Tryz.prog ops Q (o :: rest) a w := by
  refine wpList_plain hgd fun K hK => ?_
  obtain ⟨i, hi, hz, hsz, hby⟩ := info_of info5
  obtain ⟨ao, cap, w', hr, g1, g2, g3⟩ := run_appV w 23 o.type 5 i _ 1 1 Tryz.underlying23 hi hz hsz hby rfl (by omega) base v n xs hown S u m ys hu (by omega) h1 (by unfold maxLen; omega) (by omega) hbase
  exact wp_app_of s x ho hs hx hr (hK _ _ (h ao cap w' g1 g2 g3))
/-- Strings behind strings. -/
theorem app74 (hgd : o.guard = none) (s x : Operand) (ho : o.op = .call { callee := .builtin .append, args := #[s, x], argTypes := #[74, 74] })
    (base : Nat) (v : Value) (n : Nat) (xs : List Value) (hs : a.eval s = v) (hown : w.ownsRow base 9 1 v n xs) (S : Nat → Prop) (u : Value) (m : Nat) (ys : List Value) (hx : a.eval x = u) (hu : SliceV S w u m ys) (hl : ys.length = m) (h1 : ∀ u ∈ ys, u.oneCell' = true)
    (hb : n + m ≤ 8796093022208) (hbase : base ≤ w.heap.size)
    (h : ∀ ao cap w', w'.ownsRow base 9 1 (.slice ao (n + m) cap) (n + m) (xs ++ ys) → w.grownBy w' v.ownBlock → Moved w v (.slice ao (n + m) cap) → wpList Tryz.prog ops Q rest (a.put o.dst (.slice ao (n + m) cap)) w') :
    wpList Tryz.prog ops Q (o :: rest) a w := by
  refine wpList_plain hgd fun K hK => ?_
  obtain ⟨i, hi, hz, hsz, hby⟩ := info_of info9
  obtain ⟨ao, cap, w', hr, g1, g2, g3⟩ := run_appV w 74 o.type 9 i _ 1 16 Tryz.underlying74 hi hz hsz hby rfl (by omega) base v n xs hown S u m ys hu (by omega) h1 (by unfold maxLen; omega) (by omega) hbase
  exact wp_app_of s x ho hs hx hr (hK _ _ (h ao cap w' g1 g2 g3))
theorem st74 (hgd : o.guard = none) (s x : Operand) (ho : o.op = .call { callee := .builtin .append, args := #[s, x], argTypes := #[74, 74] })
    (base : Nat) (v : Value) (n : Nat) (xs : List Value) (hs : a.eval s = v) (hown : w.ownsRow base 9 1 v n xs) (S : Nat → Prop) (u : Value) (m : Nat) (ys : List Value) (hx : a.eval x = u) (hu : SliceV S w u m ys) (hl : ys.length = m) (h1 : ∀ u ∈ ys, u.oneCell' = true)
    (hb : n + m ≤ 8796093022208) (hbase : base ≤ w.heap.size)
    (h : ∀ ao cap w', w'.ownsRow base 9 1 (.slice ao (n + m) cap) (n + m) (xs ++ ys) → w.grownBy w' v.ownBlock → Moved w v (.slice ao (n + m) cap) → K (a.put o.dst (.slice ao (n + m) cap)) w') :
    if Region.wanted o (yielded ops a.tmps) = true then Oper.wp Tryz.prog o a w K Q else E := by
  have hw : Region.wanted o (yielded ops a.tmps) = true := by simp [Region.wanted, hgd]
  rw [if_pos hw]
  obtain ⟨i, hi, hz, hsz, hby⟩ := info_of info9
  obtain ⟨ao, cap, w', hr, g1, g2, g3⟩ := run_appV w 74 o.type 9 i _ 1 16 Tryz.underlying74 hi hz hsz hby rfl (by omega) base v n xs hown S u m ys hu (by omega) h1 (by unfold maxLen; omega) (by omega) hbase
  exact wp_app_of s x ho hs hx hr (h ao cap w' g1 g2 g3)
/-- Properties behind properties. -/
theorem st22 (hgd : o.guard = none) (s x : Operand) (ho : o.op = .call { callee := .builtin .append, args := #[s, x], argTypes := #[22, 22] })
    (base : Nat) (v : Value) (n : Nat) (xs : List Value) (hs : a.eval s = v) (hown : w.ownsRow base 36 4 v n xs) (S : Nat → Prop) (u : Value) (m : Nat) (ys : List Value) (hx : a.eval x = u) (hu : SliceV S w u m ys) (hl : ys.length = m * 4) (h1 : ∀ u ∈ ys, u.oneCell' = true)
    (hb : n + m ≤ 2932031007402) (hbase : base ≤ w.heap.size)
    (h : ∀ ao cap w', w'.ownsRow base 36 4 (.slice ao (n + m) cap) (n + m) (xs ++ ys) → w.grownBy w' v.ownBlock → Moved w v (.slice ao (n + m) cap) → K (a.put o.dst (.slice ao (n + m) cap)) w') :
    if Region.wanted o (yielded ops a.tmps) = true then Oper.wp Tryz.prog o a w K Q else E := by
  have hw : Region.wanted o (yielded ops a.tmps) = true := by simp [Region.wanted, hgd]
  rw [if_pos hw]
  obtain ⟨i, hi, hz, hsz, hby⟩ := info_of info36
  obtain ⟨ao, cap, w', hr, g1, g2, g3⟩ := run_appV w 22 o.type 36 i _ 4 48 Tryz.underlying22 hi hz hsz hby rfl (by omega) base v n xs hown S u m ys hu (by omega) h1 (by unfold maxLen; omega) (by omega) hbase
  exact wp_app_of s x ho hs hx hr (h ao cap w' g1 g2 g3)
theorem st23 (hgd : o.guard = none) (s x : Operand) (ho : o.op = .call { callee := .builtin .append, args := #[s, x], argTypes := #[23, 23] })
    (base : Nat) (v : Value) (n : Nat) (xs : List Value) (hs : a.eval s = v) (hown : w.ownsRow base 5 1 v n xs) (S : Nat → Prop) (u : Value) (m : Nat) (ys : List Value) (hx : a.eval x = u) (hu : SliceV S w u m ys) (hl : ys.length = m) (h1 : ∀ u ∈ ys, u.oneCell' = true)
    (hb : n + m ≤ 140737488355328) (hbase : base ≤ w.heap.size)
    (h : ∀ ao cap w', w'.ownsRow base 5 1 (.slice ao (n + m) cap) (n + m) (xs ++ ys) → w.grownBy w' v.ownBlock → Moved w v (.slice ao (n + m) cap) → K (a.put o.dst (.slice ao (n + m) cap)) w') :
    if Region.wanted o (yielded ops a.tmps) = true then Oper.wp Tryz.prog o a w K Q else E := by
  have hw : Region.wanted o (yielded ops a.tmps) = true := by simp [Region.wanted, hgd]
  rw [if_pos hw]
  obtain ⟨i, hi, hz, hsz, hby⟩ := info_of info5
  obtain ⟨ao, cap, w', hr, g1, g2, g3⟩ := run_appV w 23 o.type 5 i _ 1 1 Tryz.underlying23 hi hz hsz hby rfl (by omega) base v n xs hown S u m ys hu (by omega) h1 (by unfold maxLen; omega) (by omega) hbase
  exact wp_app_of s x ho hs hx hr (h ao cap w' g1 g2 g3)
end

theorem own_base {w : World} {base : Nat} {e : TypeId} {size : Nat} {v : Value} {n : Nat} {xs : List Value} (h : w.ownsRow base e size v n xs) : ∀ j, v.ownBlock = some j → base ≤ j := by
  intro j hj
  rcases h.2 with ⟨rfl, -⟩ | ⟨g, cap, cur, rfl, hg, -⟩
  · simp [Value.ownBlock] at hj
  · simp only [Value.ownBlock, Option.some.injEq] at hj
    omega
/-- A block that reads as a slice. -/
theorem blk_slice {w : World} {b : Nat} {cs : List Value} (h : Blk w b cs) (n m : Nat) (hm : m * n = cs.length) (hn : n ≤ cs.length) (hl : cs.length ≤ maxLen) : SliceV (fun x => x = b) w (.slice (some ⟨b, 0, none⟩) n n) n cs := by
  refine ⟨_, _, rfl, Nat.le_refl _, by omega, fun h => (by cases h), fun i hi => ⟨b, 0, rfl, rfl, ?_⟩⟩
  rw [h.cell, Nat.zero_add]
  exact List.getElem?_eq_getElem hi
/-- The same out of a block that was just made. -/
theorem new_slice (w : World) (cs : List Value) (t : TypeId) (n : Nat) (hn : n ≤ cs.length) (hl : cs.length ≤ maxLen) : SliceV (fun x => x = w.heap.size) (w.alloc (.cells cs.toArray t)) (.slice (some ⟨w.heap.size, 0, none⟩) n n) n cs := by
  refine ⟨_, _, rfl, Nat.le_refl _, by omega, fun h => (by cases h), fun i hi => ⟨w.heap.size, 0, rfl, rfl, ?_⟩⟩
  rw [(Blk.new w cs t).cell, Nat.zero_add]
  exact List.getElem?_eq_getElem hi
end Go.Proofs.YtedhlbknbaggiaaGreatDoor
