/-
  tgref1.Key and tgref1.Wrong answer what keyB and wrongN say.
-/
import Derived.Test.YtkddkpdfeeikhaaSsTagProofM21
import Derived.Test.YtkddkpdfeeikhaaSsTagProofM10
namespace Go.Proofs.Ytkddkpdfeeikhaa
open Go.RowKit
set_option linter.unusedVariables false
set_option linter.unusedSimpArgs false

attribute [local go_sem ↓] Go.wp_at_zero Go.wp_at_succ

set_option maxHeartbeats 400000 in
theorem refKey_is (s : ByteArray) (w : World) (hs : s.size ≤ maxLen) :
    Calls Try.prog 49 #[.string s] w fun e w' => e = .returned (.bool (keyB s)) ∧ Below w.heap.size w w' := by
  have hcv := fun w => run_bytes_of_string (P := Try.prog) w 9 26 5 s Try.underlying9 Try.underlying26 Try.underlying5
  have HSL := bytesRow_at s w
  unfold maxLen at hs
  by_cases h1 : 1 ≤ s.size
  case neg =>
    have he : s.toList = [] := empty_of s (by omega)
    go_enter Try.func49, Try.ntmps49
    go_wp2
    all_goals (go_ret; exact ⟨ret_bool (by simp [keyB]; omega), Below.refl _ _⟩)
  have he : s.toList.isEmpty = false := isEmpty_of s h1
  by_cases h2 : s.size ≤ 8
  case neg =>
    go_enter Try.func49, Try.ntmps49
    go_wp2
    all_goals (go_ret; exact ⟨ret_bool (by simp [keyB]; omega), Below.refl _ _⟩)
  go_enter Try.func49, Try.ntmps49
  go_wp2
  go_loop [15] (fun i => ∃ k : Nat, k ≤ s.size ∧ i = .int .i64 k ∧ (s.data.toList.take k).all lowB = true) (fun i => s.size - (intOf i).toNat)
  case atStart => exact ⟨0, Nat.zero_le _, rfl, rfl⟩
  case round =>
    obtain ⟨k, hk, rfl, ha⟩ := hrel
    have HA : Hid ((s.data.toList.take k).all lowB = true) := ha
    clear ha
    by_cases hlt : k < s.size
    · have hcell := HSL k hlt
      by_cases h3 : (s[k].toNat : Int) < 97
      · go_wp2
        go_ret
        exact ⟨ret_bool (by simp [keyB, all_stop s k hlt (Or.inl h3)]), below_conv _ _⟩
      · by_cases h4 : (122 : Int) < s[k].toNat
        · go_wp2
          go_ret
          exact ⟨ret_bool (by simp [keyB, all_stop s k hlt (Or.inr h4)]), below_conv _ _⟩
        · go_wp2
          go_round
          case rel => exact ⟨k + 1, by omega, by go_num, all_step s k hlt HA.out h3 h4⟩
          case measure => simp [intOf]; omega
    · go_wp2
      go_ret
      have e : k = s.size := by omega
      have HB := HA.out
      rw [e, List.take_of_length_le (by simp)] at HB
      exact ⟨ret_bool (by simp [keyB, h1, h2, HB]), below_conv _ _⟩

theorem lknK (k : Int) (h : kindB k = false) (w : World) : (Instr.lookup 100 (.map (some w.heap.size)) (.int .i64 k) true).run Try.prog (w.alloc (.map mostE 3)) = .ok (.tuple #[.int .i64 0, .bool false]) (w.alloc (.map mostE 3)) := by
  simp only [kindB, Bool.or_eq_false_iff] at h
  obtain ⟨⟨h1, h2⟩, h3⟩ := h
  refine look_no w mostE 3 k true ?_
  simp only [mostE, Instr.findNow, Instr.sameNow, h1, h2, h3, if_true]

theorem wrong_out {ps : List PD} {k bl : Nat} {p : PD} {c : Int} (hlt : k < ps.length) (hw : wrongL ps = wrongL (ps.drop k)) (hp : p = ps[k]) (h1 : ¬ 4 < ps.length) (hc : p.wrong = c) (h0 : ¬ c = 0) : c = wrongN ps bl := by
  subst hp
  rw [wrongL_stop ps k hlt (by rw [hc]; exact h0), hc] at hw
  simp [wrongN, h1, hw, h0]
theorem wrong_next {ps : List PD} {k : Nat} {p : PD} (hlt : k < ps.length) (hw : wrongL ps = wrongL (ps.drop k)) (hp : p = ps[k]) (hc : p.wrong = 0) : wrongL ps = wrongL (ps.drop (k + 1)) := by
  subst hp
  rw [hw, wrongL_step ps k hlt hc]
set_option maxRecDepth 100000 in
set_option maxHeartbeats 4000000 in
theorem refWrong_is (pa : Option Addr) (pc : Nat) (ps : List PD) (ba : Option Addr) (bl bc : Nat) (w : World) (hps : PropsAt w.heap.size w pa ps) (hfit : ∀ p ∈ ps, p.fitN) (hpl : ps.length ≤ maxLen) (hbl : bl ≤ maxLen) :
    Calls Try.prog 14 #[.agg #[.slice pa ps.length pc, .slice ba bl bc]] w fun e w' => e = .returned (.int .i64 (wrongN ps bl)) ∧ Below w.heap.size w w' := by
  unfold maxLen at hpl hbl
  by_cases h1 : 4 < ps.length
  · go_enter Try.func14, Try.ntmps14
    go_wp2
    go_ret
    exact ⟨ret_i64 (by simp [wrongN, h1]), (Below.refl _ _).alloc (Nat.le_refl _) _⟩
  go_enter Try.func14, Try.ntmps14
  go_wp2
  go_loopw [15] (fun i wr => ∃ k : Nat, k ≤ ps.length ∧ i = .int .i64 k ∧ Below (w.heap.size + 1) (w.alloc (.cells #[.slice pa ps.length pc, .slice ba bl bc] 28)) wr ∧ wrongL ps = wrongL (ps.drop k))
    (fun i _ => ps.length - (intOf i).toNat)
  case atStart => exact ⟨0, Nat.zero_le _, rfl, Below.refl _ _, rfl⟩
  case round =>
    obtain ⟨k, hk, rfl, hnx, hwl⟩ := hrel
    have HW : Hid (wrongL ps = wrongL (ps.drop k)) := hwl
    clear hwl
    have hsz : w.heap.size + 1 ≤ wr.heap.size := by have := hnx.size; simpa using this
    have hn1 : wr.cell? ⟨w.heap.size, 1, none⟩ = some (.slice ba bl bc) := by rw [hnx.cell (by simp)]; simp
    by_cases hlt : k < ps.length
    · obtain ⟨b, off, rfl, hblt, h0, h1', h2, h3⟩ := hps k hlt
      obtain ⟨p, hp⟩ : ∃ p, p = ps[k] := ⟨_, rfl⟩
      have hfp := hfit ps[k] (List.getElem_mem _)
      rw [← hp] at h0 h1' h2 h3 hfp
      have cc : ∀ o, wr.cell? ⟨b, o, none⟩ = w.cell? ⟨b, o, none⟩ := fun o => by
        rw [hnx.cell (by show b < _; omega)]; exact World.cell?_alloc_lt _ _ _ hblt
      have g0 : wr.cell? ⟨b, off + k * 4, none⟩ = _ := (cc _).trans h0
      have g1 : wr.cell? ⟨b, off + k * 4 + 1, none⟩ = _ := (cc _).trans h1'
      have g2 : wr.cell? ⟨b, off + k * 4 + 2, none⟩ = _ := (cc _).trans h2
      have g3 : wr.cell? ⟨b, off + k * 4 + 3, none⟩ = _ := (cc _).trans h3
      clear cc h0 h1' h2 h3
      have HP : Hid (p = ps[k]) := hp
      clear hp
      obtain ⟨key, kind, n, text⟩ := p
      simp only at g0 g1 g2 g3
      have hmm := @run_makeMap Try.prog
      have u1 := up1
      have u2 := up2
      have u3 := up3
      have k1 := lk1
      have k2 := lk2
      have k3 := lk3
      have f1 := lf1
      have f3 := lf3
      cases hk1 : keyB key
      · go_wp2_with (go_at_call 49; refine (refKey_is _ _ hfp.1).mono ?_; rintro e w1 ⟨rfl, hb1⟩; obtain ⟨c1, c2⟩ := bcell hb1; have hz1 : wr.heap.size < w1.heap.size := (by have := hb1.size; simp at this; omega))
        go_ret
        exact ⟨ret_i64 (wrong_out hlt HW.out HP.out h1 (by simp [PD.wrong, wrongP, hk1]) (by decide)), ((Below.refl _ _).alloc (Nat.le_refl _) _).trans ((hnx.mono (by omega)).trans (((Below.refl _ _).alloc (by omega) _).trans (hb1.mono (by simp; omega))))⟩
      · cases hk2 : kindB kind
        · have kn := lknK kind hk2
          go_wp2_with (go_at_call 49; refine (refKey_is _ _ hfp.1).mono ?_; rintro e w1 ⟨rfl, hb1⟩; obtain ⟨c1, c2⟩ := bcell hb1; have hz1 : wr.heap.size < w1.heap.size := (by have := hb1.size; simp at this; omega))
          go_ret
          exact ⟨ret_i64 (wrong_out hlt HW.out HP.out h1 (by simp [PD.wrong, wrongP, hk1, hk2]) (by decide)), (((Below.refl _ _).alloc (Nat.le_refl _) _).trans ((hnx.mono (by omega)).trans (((Below.refl _ _).alloc (by omega) _).trans (hb1.mono (by simp; omega))))).alloc (by omega) _⟩
        · have hz0 := size0 text
          have hkk : kind = 1 ∨ kind = 2 ∨ kind = 3 := by simp [kindB] at hk2; omega
          rcases hkk with rfl | rfl | rfl
          · by_cases n1 : n < -1073741824
            · go_wp2_with (go_at_call 49; refine (refKey_is _ _ hfp.1).mono ?_; rintro e w1 ⟨rfl, hb1⟩; obtain ⟨c1, c2⟩ := bcell hb1; have hz1 : wr.heap.size < w1.heap.size := (by have := hb1.size; simp at this; omega))
              go_ret
              exact ⟨ret_i64 (wrong_out hlt HW.out HP.out h1 (by simp [PD.wrong, wrongP, hk1, hk2, rangeB]; omega) (by decide)), (((Below.refl _ _).alloc (Nat.le_refl _) _).trans ((hnx.mono (by omega)).trans (((Below.refl _ _).alloc (by omega) _).trans (hb1.mono (by simp; omega))))).alloc (by omega) _⟩
            · by_cases n2 : 1073741824 < n
              · go_wp2_with (go_at_call 49; refine (refKey_is _ _ hfp.1).mono ?_; rintro e w1 ⟨rfl, hb1⟩; obtain ⟨c1, c2⟩ := bcell hb1; have hz1 : wr.heap.size < w1.heap.size := (by have := hb1.size; simp at this; omega))
                go_ret
                exact ⟨ret_i64 (wrong_out hlt HW.out HP.out h1 (by simp [PD.wrong, wrongP, hk1, hk2, rangeB]; omega) (by decide)), (((Below.refl _ _).alloc (Nat.le_refl _) _).trans ((hnx.mono (by omega)).trans (((Below.refl _ _).alloc (by omega) _).trans (hb1.mono (by simp; omega))))).alloc (by omega) _⟩
              · have hr : rangeB 1 n = true := by simp [rangeB]; omega
                by_cases n3 : text.size = 0
                · go_wp2_with (go_at_call 49; refine (refKey_is _ _ hfp.1).mono ?_; rintro e w1 ⟨rfl, hb1⟩; obtain ⟨c1, c2⟩ := bcell hb1; have hz1 : wr.heap.size < w1.heap.size := (by have := hb1.size; simp at this; omega))
                  go_roundw
                  case rel => exact ⟨k + 1, by omega, by go_num, hnx.trans ((((Below.refl _ _).alloc hsz _).trans (hb1.mono (by simp; omega))).alloc (by omega) _), wrong_next hlt HW.out HP.out (by simp [PD.wrong, wrongP, hk1, hk2, hr, strayB, hz0, n3])⟩
                  case measure => simp [intOf]; omega
                · go_wp2_with (go_at_call 49; refine (refKey_is _ _ hfp.1).mono ?_; rintro e w1 ⟨rfl, hb1⟩; obtain ⟨c1, c2⟩ := bcell hb1; have hz1 : wr.heap.size < w1.heap.size := (by have := hb1.size; simp at this; omega))
                  go_ret
                  exact ⟨ret_i64 (wrong_out hlt HW.out HP.out h1 (by simp [PD.wrong, wrongP, hk1, hk2, hr, strayB, hz0, n3]) (by decide)), (((Below.refl _ _).alloc (Nat.le_refl _) _).trans ((hnx.mono (by omega)).trans (((Below.refl _ _).alloc (by omega) _).trans (hb1.mono (by simp; omega))))).alloc (by omega) _⟩
          · by_cases n1 : 12 < text.size
            · go_wp2_with (go_at_call 49; refine (refKey_is _ _ hfp.1).mono ?_; rintro e w1 ⟨rfl, hb1⟩; obtain ⟨c1, c2⟩ := bcell hb1; have hz1 : wr.heap.size < w1.heap.size := (by have := hb1.size; simp at this; omega))
              go_ret
              exact ⟨ret_i64 (wrong_out hlt HW.out HP.out h1 (by simp [PD.wrong, wrongP, hk1, hk2, rangeB, n1]) (by decide)), (((Below.refl _ _).alloc (Nat.le_refl _) _).trans ((hnx.mono (by omega)).trans (((Below.refl _ _).alloc (by omega) _).trans (hb1.mono (by simp; omega))))).alloc (by omega) _⟩
            · by_cases n2 : n = 0
              · subst n2
                go_wp2_with (go_at_call 49; refine (refKey_is _ _ hfp.1).mono ?_; rintro e w1 ⟨rfl, hb1⟩; obtain ⟨c1, c2⟩ := bcell hb1; have hz1 : wr.heap.size < w1.heap.size := (by have := hb1.size; simp at this; omega))
                go_roundw
                case rel => exact ⟨k + 1, by omega, by go_num, hnx.trans ((((Below.refl _ _).alloc hsz _).trans (hb1.mono (by simp; omega))).alloc (by omega) _), wrong_next hlt HW.out HP.out (by simp [PD.wrong, wrongP, hk1, hk2, rangeB, strayB, n1])⟩
                case measure => simp [intOf]; omega
              · have n2' : (n == 0) = false := by simpa using n2
                go_wp2_with (go_at_call 49; refine (refKey_is _ _ hfp.1).mono ?_; rintro e w1 ⟨rfl, hb1⟩; obtain ⟨c1, c2⟩ := bcell hb1; have hz1 : wr.heap.size < w1.heap.size := (by have := hb1.size; simp at this; omega))
                go_ret
                exact ⟨ret_i64 (wrong_out hlt HW.out HP.out h1 (by simp [PD.wrong, wrongP, hk1, hk2, rangeB, strayB, n1, n2]) (by decide)), (((Below.refl _ _).alloc (Nat.le_refl _) _).trans ((hnx.mono (by omega)).trans (((Below.refl _ _).alloc (by omega) _).trans (hb1.mono (by simp; omega))))).alloc (by omega) _⟩
          · by_cases n1 : n < 0
            · go_wp2_with (go_at_call 49; refine (refKey_is _ _ hfp.1).mono ?_; rintro e w1 ⟨rfl, hb1⟩; obtain ⟨c1, c2⟩ := bcell hb1; have hz1 : wr.heap.size < w1.heap.size := (by have := hb1.size; simp at this; omega))
              go_ret
              exact ⟨ret_i64 (wrong_out hlt HW.out HP.out h1 (by simp [PD.wrong, wrongP, hk1, hk2, rangeB]; omega) (by decide)), (((Below.refl _ _).alloc (Nat.le_refl _) _).trans ((hnx.mono (by omega)).trans (((Below.refl _ _).alloc (by omega) _).trans (hb1.mono (by simp; omega))))).alloc (by omega) _⟩
            · by_cases n2 : 1 < n
              · go_wp2_with (go_at_call 49; refine (refKey_is _ _ hfp.1).mono ?_; rintro e w1 ⟨rfl, hb1⟩; obtain ⟨c1, c2⟩ := bcell hb1; have hz1 : wr.heap.size < w1.heap.size := (by have := hb1.size; simp at this; omega))
                go_ret
                exact ⟨ret_i64 (wrong_out hlt HW.out HP.out h1 (by simp [PD.wrong, wrongP, hk1, hk2, rangeB]; omega) (by decide)), (((Below.refl _ _).alloc (Nat.le_refl _) _).trans ((hnx.mono (by omega)).trans (((Below.refl _ _).alloc (by omega) _).trans (hb1.mono (by simp; omega))))).alloc (by omega) _⟩
              · have hr : rangeB 3 n = true := by simp [rangeB]; omega
                by_cases n3 : text.size = 0
                · go_wp2_with (go_at_call 49; refine (refKey_is _ _ hfp.1).mono ?_; rintro e w1 ⟨rfl, hb1⟩; obtain ⟨c1, c2⟩ := bcell hb1; have hz1 : wr.heap.size < w1.heap.size := (by have := hb1.size; simp at this; omega))
                  go_roundw
                  case rel => exact ⟨k + 1, by omega, by go_num, hnx.trans ((((Below.refl _ _).alloc hsz _).trans (hb1.mono (by simp; omega))).alloc (by omega) _), wrong_next hlt HW.out HP.out (by simp [PD.wrong, wrongP, hk1, hk2, hr, strayB, hz0, n3])⟩
                  case measure => simp [intOf]; omega
                · go_wp2_with (go_at_call 49; refine (refKey_is _ _ hfp.1).mono ?_; rintro e w1 ⟨rfl, hb1⟩; obtain ⟨c1, c2⟩ := bcell hb1; have hz1 : wr.heap.size < w1.heap.size := (by have := hb1.size; simp at this; omega))
                  go_ret
                  exact ⟨ret_i64 (wrong_out hlt HW.out HP.out h1 (by simp [PD.wrong, wrongP, hk1, hk2, hr, strayB, hz0, n3]) (by decide)), (((Below.refl _ _).alloc (Nat.le_refl _) _).trans ((hnx.mono (by omega)).trans (((Below.refl _ _).alloc (by omega) _).trans (hb1.mono (by simp; omega))))).alloc (by omega) _⟩
    · have e : k = ps.length := by omega
      have e2 := HW.out
      rw [e, List.drop_of_length_le (by simp), wrongL] at e2
      have HE : Hid (wrongL ps = 0) := e2
      clear e2
      go_wp2
      · go_ret
        have h40 : (40 : Int) < bl := by assumption
        exact ⟨ret_i64 (by simp [wrongN, h1, HE.out]; omega), ((Below.refl _ _).alloc (Nat.le_refl _) _).trans (hnx.mono (by omega))⟩
      · go_ret
        have h40 : (bl : Int) ≤ 40 := by assumption
        exact ⟨ret_i64 (by simp [wrongN, h1, HE.out]; omega), ((Below.refl _ _).alloc (Nat.le_refl _) _).trans (hnx.mono (by omega))⟩

theorem refWrongN_any (pv bv : Value) (n : ND) (w : World) (hn : NoteIs (Under w.heap.size) w (pv, bv) n) (hf : n.fitN) :
    Calls Try.prog 14 #[.agg #[pv, bv]] w fun e w' => e = .returned (.int .i64 n.wrong) ∧ Below w.heap.size w w' := by
  obtain ⟨pa, pc, rfl, h1, h2, -⟩ := SliceV.shape hn.1
  obtain ⟨ba, bc, rfl, h3, h4, -⟩ := SliceV.shape hn.2
  exact refWrong_is pa pc n.props ba n.body.length bc w (props_at hn.1) hf (by omega) (by omega)
end Go.Proofs.Ytkddkpdfeeikhaa
