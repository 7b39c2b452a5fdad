/-
  lines.AskBytes.
-/
import Derived.Test.YtedhlbknbaggiaaGreatDoorLnAsk
namespace Go.Proofs.YtedhlbknbaggiaaGreatDoor
open Go.RowKit
set_option linter.unusedVariables false
set_option linter.unusedSimpArgs false

attribute [local go_sem ↓] Go.wp_at_zero Go.wp_at_succ

/-- An ask as a line. -/
def askLineF (a : AD) : List UInt8 := match shapesL.find? (fun s => s.kind == a.kind) with | some s => lineF (shapeW s a) | none => []

theorem shapes_kind : ∀ (k : Nat) (h : k < 9), (shapesL[k]'h).kind = (k : Int) + 1
  | 0, _ => rfl
  | 1, _ => rfl
  | 2, _ => rfl
  | 3, _ => rfl
  | 4, _ => rfl
  | 5, _ => rfl
  | 6, _ => rfl
  | 7, _ => rfl
  | 8, _ => rfl
  | k + 9, h => absurd h (by omega)
set_option maxRecDepth 100000 in
theorem idx_shape : ∀ (k : Nat) (h : k < 9) (w : World), (Instr.index 72 (.agg shapesC.toArray) (.int .i64 (k : Int))).run Tryz.prog w = .ok (.agg #[.int .i64 (shapesL[k]'h).kind, .string (shapesL[k]'h).word, .bool (shapesL[k]'h).queue, .bool (shapesL[k]'h).number, .bool (shapesL[k]'h).note]) w
  | 0, _, w => by kernel_rfl
  | 1, _, w => by kernel_rfl
  | 2, _, w => by kernel_rfl
  | 3, _, w => by kernel_rfl
  | 4, _, w => by kernel_rfl
  | 5, _, w => by kernel_rfl
  | 6, _, w => by kernel_rfl
  | 7, _, w => by kernel_rfl
  | 8, _, w => by kernel_rfl
  | k + 9, h, _ => absurd h (by omega)
theorem find_shape (a : AD) (k : Nat) (h : k < 9) (he : (shapesL[k]'h).kind = a.kind) : askLineF a = lineF (shapeW (shapesL[k]'h) a) := by
  have hf : shapesL.find? (fun s => s.kind == a.kind) = some (shapesL[k]'h) := by
    rw [List.find?_eq_some_iff_getElem]
    refine ⟨by simpa using he, k, h, rfl, fun j hj => ?_⟩
    have h1 := shapes_kind k h
    have h2 := shapes_kind j (by omega)
    have : ¬ (shapesL[j]'(by show j < 9; omega)).kind = a.kind := fun e => by
      have := h2.symm.trans (e.trans (he.symm.trans h1))
      omega
    simpa using this
  unfold askLineF
  rw [hf]
theorem join_len (c : UInt8) : ∀ (ws : List (List UInt8)) (m : Nat), (∀ x ∈ ws, x.length ≤ m) → ([c].intercalate ws).length ≤ ws.length * (m + 1)
  | [], m, _ => by simp [List.intercalate]
  | [x], m, h => by
    have := h x (by simp)
    simp [List.intercalate]
    omega
  | x :: y :: t, m, h => by
    have h1 := h x (by simp)
    have h2 := join_len c (y :: t) m (fun z hz => h z (by simp at hz ⊢; exact .inr hz))
    have e : [c].intercalate (x :: y :: t) = x ++ c :: [c].intercalate (y :: t) := by simp [List.intercalate, List.intersperse]
    rw [e]
    simp only [List.length_append, List.length_cons] at h2 ⊢
    have h3 : (t.length + 1 + 1) * (m + 1) = (t.length + 1) * (m + 1) + (m + 1) := by rw [Nat.add_mul (t.length + 1) 1 (m + 1)]; omega
    omega

theorem shapes_word : ∀ (k : Nat) (h : k < 9), (shapesL[k]'h).word.size ≤ 10
  | 0, _ => Nat.le_of_ble_eq_true rfl
  | 1, _ => Nat.le_of_ble_eq_true rfl
  | 2, _ => Nat.le_of_ble_eq_true rfl
  | 3, _ => Nat.le_of_ble_eq_true rfl
  | 4, _ => Nat.le_of_ble_eq_true rfl
  | 5, _ => Nat.le_of_ble_eq_true rfl
  | 6, _ => Nat.le_of_ble_eq_true rfl
  | 7, _ => Nat.le_of_ble_eq_true rfl
  | 8, _ => Nat.le_of_ble_eq_true rfl
  | k + 9, h => absurd h (by omega)
theorem shape_len (s : ShD) (a : AD) (hw : s.word.size ≤ 10) (hq : a.queue.size ≤ 1000) (hl : a.ps.length ≤ 100) (hb : a.body.length ≤ 1000) (hf : ∀ p ∈ a.ps, p.fitsW) (hn : -9999999999 ≤ a.n ∧ a.n ≤ 9999999999) :
    (joinF (shapeW s a)).length ≤ 1000000 ∧ (shapeW s a).length ≤ 1000000 := by
  have hi := (itoa_len a.n hn).2
  have hlen : (shapeW s a).length ≤ 104 := by
    unfold shapeW noteW
    cases s.queue <;> cases s.number <;> cases s.note <;> simp <;> omega
  have hall : ∀ x ∈ shapeW s a, x.length ≤ 5000 := by
    intro x hx
    unfold shapeW at hx
    simp only [List.mem_cons, List.mem_append] at hx
    rcases hx with rfl | hx | hx | hx
    · rw [size_list]; omega
    · split at hx
      · rw [List.mem_singleton] at hx; subst hx; rw [size_list]; omega
      · cases hx
    · split at hx
      · rw [List.mem_singleton] at hx; subst hx; omega
      · cases hx
    · split at hx
      · unfold noteW at hx
        rw [List.mem_append, List.mem_map, List.mem_singleton] at hx
        rcases hx with ⟨p, hp, rfl⟩ | rfl
        · have := hf p hp
          have hv := value_len p this
          unfold wordF
          rw [List.length_append, List.length_cons, size_list]
          have := this.1
          omega
        · rw [List.length_cons, hexF_len]; omega
      · cases hx
  have := join_len 32 (shapeW s a) 5000 hall
  unfold joinF
  have h2 : (shapeW s a).length * 5001 ≤ 104 * 5001 := Nat.mul_le_mul_right _ hlen
  omega

set_option maxRecDepth 100000 in
set_option maxHeartbeats 6400000 in
theorem askBytes_any (a : AD) (v u : Value) (w : World) (hv : SliceP w.heap.size w v a.ps) (hu : SliceB w.heap.size w u a.body) (hV : Vars w) (hl : a.ps.length ≤ 100) (hb : a.body.length ≤ 1000) (hf : ∀ p ∈ a.ps, p.fitsW) (hn : -9999999999 ≤ a.n ∧ a.n ≤ 9999999999) (hk : 1 ≤ a.kind ∧ a.kind ≤ 9) (hq : a.queue.size ≤ 1000) :
    Calls Tryz.prog 20 #[.agg #[.int .i64 a.kind, .string a.queue, .int .i64 a.n, v, u]] w fun e w' => (∃ x, e = .returned x ∧ SliceB w'.heap.size w' x (askLineF a)) ∧ Below w.heap.size w w' := by
  obtain ⟨ak, aq, an, ps, body⟩ := a
  simp only at hv hu hl hb hf hn hk hq ⊢
  have HPB : Hid (SliceP w.heap.size w v ps ∧ SliceB w.heap.size w u body) := ⟨hv, hu⟩
  have HF : Hid (∀ p ∈ ps, p.fitsW) := hf
  obtain ⟨va, vc, rfl, -⟩ := hv
  obtain ⟨ua, uc, rfl, -⟩ := hu
  have HV : Hid (Vars w) := hV
  obtain ⟨SC, hSC⟩ : ∃ SC : Array Value, SC = shapesC.toArray := ⟨_, rfl⟩
  have hrow : ∀ o, ∃ t f, (w.alloc o).heap[0]? = some (.cells SC t f) := fun o => by
    obtain ⟨t, f, hh⟩ := (hV.on (below_alloc w o)).shapes
    exact ⟨t, f, by rw [hh, hSC]⟩
  obtain ⟨rt, rf, hro⟩ := hrow (.cells #[.int .i64 ak, .string aq, .int .i64 an, .slice va ps.length vc, .slice ua body.length uc] 27)
  have HSC : Hid (SC = shapesC.toArray) := hSC
  have hsz72 : (Tryz.prog.info? 72).map (·.size) = some SC.size := by rw [hSC]; kernel_rfl
  clear hSC hrow hV
  have nl : Hid True := trivial
  go_enter Tryz.func20, Tryz.ntmps20
  go_upto_region 2 with (first
    | (clear nl; refine wpList_load_row rfl 72 (.global 0) rfl 0 rfl rt SC rf _ hro Tryz.underlying72 rfl hsz72 ?_)
    | fail)
  go_loopw [6] (fun i wr => ∃ k : Nat, k ≤ 9 ∧ i = .int .i64 (k : Int) ∧ Below w.heap.size w wr ∧ Blk wr w.heap.size [.int .i64 ak, .string aq, .int .i64 an, .slice va ps.length vc, .slice ua body.length uc] ∧ ∀ j (hj : j < 9), j < k → (shapesL[j]'hj).kind ≠ ak) (fun i _ => 9 - (intOf i).toNat)
  case atStart => exact ⟨0, by omega, rfl, below_alloc _ _, Blk.new w _ 27, fun j _ h => by omega⟩
  case round =>
    obtain ⟨k, hk9, rfl, hbel, hbk, hno⟩ := hrel
    by_cases hlt : k < 9
    · have hix := idx_shape k hlt wr
      rw [← HSC.out] at hix
      obtain ⟨s, hs⟩ : ∃ s, s = shapesL[k]'hlt := ⟨_, rfl⟩
      rw [← hs] at hix
      have HS : Hid (s = shapesL[k]'hlt) := hs
      have HNO : Hid (∀ j (hj : j < 9), j < k → (shapesL[j]'hj).kind ≠ ak) := hno
      have HB : Hid (Below w.heap.size w wr ∧ Blk wr w.heap.size [.int .i64 ak, .string aq, .int .i64 an, .slice va ps.length vc, .slice ua body.length uc]) := ⟨hbel, hbk⟩
      obtain ⟨⟨d0, d1, d2, d3, d4⟩, df, dz⟩ := hbk.b5
      clear hbel hbk hno hs
      by_cases he : s.kind = ak
      · have HK : Hid (s.kind = ak) := he
        have heb : (s.kind == ak) = true := by simpa using he
        clear he
        have HWF : Hid (Below w.heap.size w (wr.alloc (.cells #[.int .i64 s.kind, .string s.word, .bool s.queue, .bool s.number, .bool s.note] 71))) := HB.out.1.alloc HB.out.1.size _
        have P : Hid (∀ W : World, Below w.heap.size w W → Calls Tryz.prog 50 #[.agg #[.int .i64 s.kind, .string s.word, .bool s.queue, .bool s.number, .bool s.note], .agg #[.int .i64 ak, .string aq, .int .i64 an, .slice va ps.length vc, .slice ua body.length uc]] W fun e w' => (∃ x, e = .returned x ∧ SliceS w' x (shapeW s ⟨ak, aq, an, ps, body⟩)) ∧ Below W.heap.size W w') := fun W hW =>
          words_any s ⟨ak, aq, an, ps, body⟩ _ _ W (HPB.out.1.below hW) (HPB.out.2.below hW) (HV.out.on hW) (Nat.le_trans hl (by omega)) hb HF.out hn
        have hlen := shape_len s ⟨ak, aq, an, ps, body⟩ (by rw [HS.out]; exact shapes_word k hlt) hq hl hb HF.out hn
        go_wp2_with (first
          | (go_at_call 50; refine (P.out _ HWF.out).mono ?_; rintro e w2 ⟨⟨x, rfl, hx⟩, hb2⟩; have H2 : Hid (Below w.heap.size w w2) := HWF.out.trans (hb2.mono HWF.out.size); have HX : Hid (SliceS w2 x (shapeW s ⟨ak, aq, an, ps, body⟩)) := hx; obtain ⟨xa, xc, rfl, -⟩ := SliceV.shape hx; clear hb2 hx)
          | (go_at_call 49; refine (line_any _ _ _ HX.out (by simp [shapeW]) hlen.1 hlen.2).mono ?_; rintro e w3 ⟨⟨y, rfl, hy⟩, hb3⟩)
          | fail)
        go_ret
        have hfin := find_shape ⟨ak, aq, an, ps, body⟩ k hlt (by rw [← HS.out]; exact HK.out)
        rw [hfin, ← HS.out]
        exact ⟨⟨_, rfl, hy⟩, H2.out.trans (hb3.mono H2.out.size)⟩
      · have heb : (s.kind == ak) = false := by simpa using he
        have HK : Hid (¬ s.kind = ak) := he
        clear he
        go_wp2
        go_roundw
        case rel =>
          refine ⟨k + 1, by omega, by go_num, HB.out.1.trans ((below_alloc _ _).mono HB.out.1.size), HB.out.2.alloc _, fun j hj hjk => ?_⟩
          by_cases e : j = k
          · subst e; rw [← HS.out]; exact HK.out
          · exact HNO.out j hj (by omega)
        case measure => simp [intOf]; omega
    · exfalso
      have h9 : k = 9 := by omega
      have := hno (ak.toNat - 1) (by omega) (by omega)
      rw [shapes_kind] at this
      omega
end Go.Proofs.YtedhlbknbaggiaaGreatDoor
