/-
  lines.line answers what lineF says.
-/
import Derived.Test.YtedhlbknbaggiaaGreatDoorLnWords
import Derived.Test.YtedhlbknbaggiaaGreatDoorLnSplit
import Derived.ArgAppend
namespace Go.Proofs.YtedhlbknbaggiaaGreatDoor
open Go.RowKit
set_option linter.unusedVariables false
set_option linter.unusedSimpArgs false

attribute [local go_sem ↓] Go.wp_at_zero Go.wp_at_succ

/-- Words with a blank between, and a line feed behind. -/
def joinF (ws : List (List UInt8)) : List UInt8 := [32].intercalate ws
def lineF (ws : List (List UInt8)) : List UInt8 := joinF ws ++ [10]
def SliceS (w : World) (v : Value) (ws : List (List UInt8)) : Prop := SliceV (fun b => b < w.heap.size) w v ws.length (strs ws)
theorem SliceS.below {w w' : World} {v : Value} {ws : List (List UInt8)} (h : SliceS w v ws) (hb : Below w.heap.size w w') : SliceS w' v ws := SliceV.sub h fun b hlt => ⟨Nat.lt_of_lt_of_le hlt hb.size, hb.block b hlt⟩

section
variable {w : World} {ops : Array Oper} {rest : List Oper} {o : Oper} {a : Act} {Q : Exit → Act → World → Prop}
/-- An append whose run is known. -/
theorem appR (hgd : o.guard = none) (s x : Operand) (ho : o.op = .call { callee := .builtin .append, args := #[s, x], argTypes := #[23, 23] }) (v1 v2 : Value) (hs : a.eval s = v1) (hx : a.eval x = v2) {v' : Value} {w' : World}
    (hr : (Builtin.append_ #[23, 23] o.type #[v1, v2]).run Tryz.prog w = .ok v' w') (h : wpList Tryz.prog ops Q rest (a.put o.dst v') w') : wpList Tryz.prog ops Q (o :: rest) a w :=
  wpList_plain hgd fun K hK => wp_app_of s x ho hs hx hr (hK _ _ h)
end

theorem conv_cells (s : ByteArray) (w : World) (j : Nat) (hj : j < (Go.Lib.bytesCells w 5 s).size) : ((Go.Lib.bytesWorld w 5 s).cell? ⟨w.heap.size, j, none⟩).isSome = true ∧ (Go.Lib.bytesWorld w 5 s).frozen? ⟨w.heap.size, j, none⟩ = false := by
  have h := Go.Lib.bytesWorld_at_new w 5 s
  refine ⟨?_, ?_⟩
  · rw [cell_of_row _ _ _ _ _ _ h]
    simp [hj]
  · unfold World.frozen?
    rw [h]
    simp
    omega
theorem bytesCells_size (s : ByteArray) (w : World) : (Go.Lib.bytesCells w 5 s).size = grownCap w s.size 0 5 := by
  have := grownCap_ge w s.size 0 5
  simp [Go.Lib.bytesCells]
  have e : s.data.size = s.size := rfl
  omega

/-- '[]byte(s)', and one byte behind. -/
theorem conv_app (s : ByteArray) (c : UInt8) (w : World) (hs : s.size ≤ 1000000) :
    ∃ k W', (convert 9 23 (.string s)).run Tryz.prog w = .ok (.slice (some ⟨w.heap.size, 0, none⟩) s.size k) W' ∧ Below w.heap.size w W' ∧
      ∃ x W3, (Builtin.append_ #[23, 23] 23 #[.slice (some ⟨w.heap.size, 0, none⟩) s.size k, .slice (some ⟨W'.heap.size, 0, none⟩) 1 1]).run Tryz.prog (W'.alloc (.cells #[.int .u8 (c.toNat : Int)] 5)) = .ok x W3 ∧ SliceB W3.heap.size W3 x (s.data.toList ++ [c]) ∧ Below w.heap.size w W3 := by
  obtain ⟨i, hi, hz, hsz, hby⟩ := info_of info5
  have hcv := Go.Lib.run_convert_string_bytes w 9 23 5 s Tryz.underlying9 Tryz.underlying23 Tryz.underlying5
  have hge := grownCap_ge w s.size 0 5
  have hmx := grownCap_le_maxLen w s.size 0 5 (show s.size ≤ maxLen by unfold maxLen; omega)
  have hb : Below w.heap.size w (Go.Lib.bytesWorld w 5 s) := Go.Lib.bytesWorld_below w 5 s
  have hz1 := Go.Lib.bytesWorld_size w 5 s
  have hcs := bytesCells_size s w
  refine ⟨_, _, hcv, hb, ?_⟩
  obtain ⟨W1, hW1⟩ : ∃ W1, W1 = Go.Lib.bytesWorld w 5 s := ⟨_, rfl⟩
  obtain ⟨k, hk⟩ : ∃ k, k = grownCap w s.size 0 5 := ⟨_, rfl⟩
  have hold : ∀ j, j < k → (W1.cell? ⟨w.heap.size, j, none⟩).isSome = true ∧ W1.frozen? ⟨w.heap.size, j, none⟩ = false := fun j hj => by
    rw [hW1]
    exact conv_cells s w j (by rw [hcs, ← hk]; exact hj)
  have hval : ∀ j (h : j < s.size), W1.cell? ⟨w.heap.size, j, none⟩ = some (.int .u8 ((s.data.toList[j]'(by rw [size_list]; exact h)).toNat : Int)) := fun j h => by
    rw [hW1, Go.Lib.bytesWorld_cell _ _ _ _ h]
    have h2 : j < s.data.size := h
    simp [List.getD, Array.getElem?_eq_getElem h2]
  rw [← hW1] at hb hz1 ⊢
  rw [← hk] at hge hmx ⊢
  have hcell : ∀ j, (W1.alloc (.cells #[.int .u8 (c.toNat : Int)] 5)).cell? ⟨w.heap.size, j, none⟩ = W1.cell? ⟨w.heap.size, j, none⟩ := fun j => World.cell?_of_block (a := ⟨w.heap.size, j, none⟩) (Below.heap_alloc _ _ _ (by show w.heap.size < _; omega))
  have hfro : ∀ j, (W1.alloc (.cells #[.int .u8 (c.toNat : Int)] 5)).frozen? ⟨w.heap.size, j, none⟩ = W1.frozen? ⟨w.heap.size, j, none⟩ := fun j => World.frozen?_of_block (a := ⟨w.heap.size, j, none⟩) (Below.heap_alloc _ _ _ (by show w.heap.size < _; omega))
  have hnew : ∀ j u, [Value.int .u8 (c.toNat : Int)][j]? = some u → (W1.alloc (.cells #[.int .u8 (c.toNat : Int)] 5)).cell? ((⟨W1.heap.size, 0, none⟩ : Addr).add j) = some u := fun j u hu => by
    rw [add_none, Nat.zero_add, (Blk.new W1 [.int .u8 (c.toNat : Int)] 5).cell]
    exact hu
  have hb2 : Below w.heap.size w (W1.alloc (.cells #[.int .u8 (c.toNat : Int)] 5)) := hb.alloc (by omega) _
  by_cases hroom : s.size + 1 ≤ k
  · have hrun := run_append_room_cells (P := Tryz.prog) (W1.alloc (.cells #[.int .u8 (c.toNat : Int)] 5)) 23 23 5 i Tryz.underlying23 hi w.heap.size 0 s.size k ⟨W1.heap.size, 0, none⟩ 1 1 [.int .u8 (c.toNat : Int)] (by simp [hsz]) hnew (by simp [Value.oneCell']) hroom
      (fun j hj => by
        simp only [List.length_singleton] at hj
        rw [hsz, hcell]
        exact (hold _ (by omega)).1)
      (fun j hj => by
        simp only [List.length_singleton] at hj
        rw [hsz, hfro]
        exact (hold _ (by omega)).2)
    have hzz : ((W1.alloc (.cells #[.int .u8 (c.toNat : Int)] 5)).setCells w.heap.size (0 + s.size * i.size) [.int .u8 (c.toNat : Int)]).heap.size = W1.heap.size + 1 := by simp [World.setCells]
    refine ⟨_, _, hrun, ?_, ?_⟩
    · refine ⟨_, _, by rw [List.length_append, size_list]; rfl, by rw [List.length_append, size_list]; exact hroom, hmx, fun h => by simp at h, fun j hj => ⟨w.heap.size, 0, rfl, by rw [hzz]; omega, ?_⟩⟩
      rw [List.length_append, size_list, List.length_singleton] at hj
      have e0 : 0 + j = j := by omega
      rw [e0]
      by_cases hjs : j < s.size
      · rw [World.cell?_setCells_out _ _ _ _ _ (fun _ _ => .inl (by rw [hsz]; show j < _; omega)), hcell, hval j hjs, List.getElem_append_left (by rw [size_list]; exact hjs)]
      · have hje : j = s.size := by omega
        subst hje
        have := World.cell?_setCells_in w.heap.size [.int .u8 (c.toNat : Int)] (0 + s.size * i.size) (W1.alloc (.cells #[.int .u8 (c.toNat : Int)] 5)) (fun j hj => by
          simp only [List.length_singleton] at hj
          rw [hsz, hcell]
          exact (hold _ (by omega)).1) 0 (by simp)
        have e : 0 + s.size * i.size + 0 = s.size := by rw [hsz]; omega
        rw [e] at this
        rw [this, List.getElem_append_right (by rw [size_list]; omega)]
        simp
    · exact hb2.setCell (Nat.le_refl _) _
  · obtain ⟨v', w', hr, ho, hg⟩ := run_append_arg_grows (P := Tryz.prog) (W1.alloc (.cells #[.int .u8 (c.toNat : Int)] 5)) 23 23 5 i _ 1 1 Tryz.underlying23 hi hz hsz hby rfl (by omega) ⟨w.heap.size, 0, none⟩ s.size k (u8s s.data.toList) (by rw [u8s_len, size_list]; omega)
      (fun j u hu => by
        rw [add_none, Nat.zero_add, hcell]
        obtain ⟨hj, hv⟩ := List.getElem?_eq_some_iff.1 hu
        rw [u8s_len, size_list] at hj
        rw [hval j hj, ← hv]
        simp [u8s])
      ⟨W1.heap.size, 0, none⟩ 1 1 [.int .u8 (c.toNat : Int)] rfl hnew (by omega) (by unfold maxLen; omega) (by omega)
    refine ⟨v', w', hr, own_bytes (base := (W1.alloc (.cells #[.int .u8 (c.toNat : Int)] 5)).heap.size) (n := s.size + 1) (by simpa [u8s] using ho) (by rw [List.length_append, size_list]; rfl), ?_⟩
    exact hb2.grown hg hb2.size (fun k hk => by cases hk)

theorem strs_at (ws : List (List UInt8)) (j : Nat) (h : j < ws.length) : (strs ws)[j]'(by rw [strs_len]; exact h) = .string (bstr ws[j]) := by simp [strs]
theorem map_bstr (ws : List (List UInt8)) : (ws.map bstr).map (fun b => b.data.toList) = ws := by
  rw [List.map_map]
  have : (fun b : ByteArray => b.data.toList) ∘ bstr = id := by funext l; exact bstr_data l
  rw [this, List.map_id]

/-- strings.Join with a blank. -/
theorem join_any (v : Value) (ws : List (List UInt8)) (w : World) (hv : SliceS w v ws) (h0 : ws ≠ []) (hl : (joinF ws).length ≤ 1000000) (hn : ws.length ≤ 1000000) :
    Calls Tryz.prog 84 #[v, .string ⟨#[32]⟩] w fun e w' => e = .returned (.string (bstr (joinF ws))) ∧ Below w.heap.size w w' := by
  obtain ⟨a, cap, rfl, h1, h2, h3, h4⟩ := hv
  have hlen : 0 < ws.length := List.length_pos_iff.2 h0
  obtain ⟨b, off, rfl, hb, -⟩ := h4 0 (by rw [strs_len]; exact hlen)
  have hj := Sh.strings_Join b off cap (ws.map bstr) ⟨#[32]⟩ w (fun j x hx => by
    rw [List.getElem?_map] at hx
    cases hw : ws[j]? with
    | none => rw [hw] at hx; cases hx
    | some y =>
      rw [hw] at hx
      simp only [Option.map_some, Option.some.injEq] at hx
      obtain ⟨hjl, hy⟩ := List.getElem?_eq_some_iff.1 hw
      obtain ⟨b', off', e, _, hc⟩ := h4 j (by rw [strs_len]; exact hjl)
      simp only [Option.some.injEq, Addr.mk.injEq, and_true] at e
      obtain ⟨rfl, rfl⟩ := e
      rw [hc, strs_at ws j hjl, hy, hx]) hb (by rw [List.length_map]; omega) (by rw [List.length_map]; exact h1) (by rw [map_bstr]; unfold Go.Lib.join; show (joinF ws).length ≤ _; omega)
  rw [List.length_map, map_bstr] at hj
  exact hj

set_option maxHeartbeats 1600000 in
theorem line_any (v : Value) (ws : List (List UInt8)) (w : World) (hv : SliceS w v ws) (h0 : ws ≠ []) (hl : (joinF ws).length ≤ 1000000) (hn : ws.length ≤ 1000000) :
    Calls Tryz.prog 49 #[v] w fun e w' => (∃ x, e = .returned x ∧ SliceB w'.heap.size w' x (lineF ws)) ∧ Below w.heap.size w w' := by
  have P : Hid (Calls Tryz.prog 84 #[v, .string ⟨#[32]⟩] w fun e w' => e = .returned (.string (bstr (joinF ws))) ∧ Below w.heap.size w w') := join_any v ws w hv h0 hl hn
  have hsz : (bstr (joinF ws)).size ≤ 1000000 := by rw [bstr_size]; exact hl
  obtain ⟨a, cap, rfl, -⟩ := hv
  go_enter Tryz.func49, Tryz.ntmps49
  go_wp2_with (first
    | (go_at_call 84; refine P.out.mono ?_; rintro e w1 ⟨rfl, hb1⟩; obtain ⟨k, W2, hcv, hb2, x, W3, hap, hsl, hb3⟩ := conv_app (bstr (joinF ws)) 10 w1 hsz; have H3 : Hid (SliceB W3.heap.size W3 x ((bstr (joinF ws)).data.toList ++ [10]) ∧ Below w.heap.size w W3) := ⟨hsl, hb1.trans (hb3.mono hb1.size)⟩; clear hsl hb3 hb2)
    | (at_builtin; refine appR rfl (.tmp 5) (.tmp 6) rfl _ _ rfl rfl hap ?_)
    | fail)
  go_ret
  have := H3.out
  rw [bstr_data] at this
  exact ⟨⟨_, rfl, this.1⟩, this.2⟩
end Go.Proofs.YtedhlbknbaggiaaGreatDoor
