/-
  tgref1.Wrong answers what wrongN says of any note.
-/
import Derived.Test.YtedhlbknbaggiaaGreatDoorLnRightCardM06
import Derived.MapKept
namespace Go.Proofs.YtedhlbknbaggiaaGreatDoor
open Go.RowKit
set_option linter.unusedVariables false
set_option linter.unusedSimpArgs false

theorem run_checkInt (k : Int) (c : Bool) (w : World) : (Instr.checkKey c 10000 3 (.int .i64 k)).run Tryz.prog w = .ok () w := by
  exact MapKept.run_checkKey Tryz.underlying3 (by simp [MapKept.IsKey]) c 9999

theorem upd_new (w : World) (es : Array MapEntry) (clock : Nat) (k : Int) (v : Value) (hf : Instr.findNow (.int .i64) (.int .i64 k) es.toList 0 = some none) :
    (Instr.mapUpdate 115 (.map (some w.heap.size)) (.int .i64 k) v).run Tryz.prog (w.alloc (.map es clock)) = .ok () (w.alloc (.map (es.push { key := .int .i64 k, val := v, born := clock }) (clock + 1))) := by
  have hg : (w.alloc (.map es clock)).heap[w.heap.size]? = some (.map es clock) := heap_alloc_new w _
  unfold Instr.mapUpdate
  simp only [Sem.run_bind, run_underlying Tryz.underlying115, Result.andThen_ok, MapKept.run_getObj_map hg, run_checkInt, MapKept.run_findKey Tryz.underlying3 hf, MapKept.run_setObj_map _ hg]
  congr 1
  show ({ w.alloc (.map es clock) with heap := (w.heap.push (.map es clock)).setIfInBounds w.heap.size _ } : World) = _
  have : ∀ o, (w.heap.push (.map es clock)).setIfInBounds w.heap.size o = w.heap.push o := by
    intro o
    apply Array.ext_getElem?
    intro i
    rw [Array.getElem?_setIfInBounds, Array.getElem?_push, Array.getElem?_push]
    by_cases h : w.heap.size = i
    · subst h; simp
    · rw [if_neg h]; simp [Ne.symm h]
  rw [this]
  rfl

theorem look_yes (w : World) (es : Array MapEntry) (clock i : Nat) (k : Int) (v : Value) (c : Bool) (hf : Instr.findNow (.int .i64) (.int .i64 k) es.toList 0 = some (some (i, v))) :
    (Instr.lookup 115 (.map (some w.heap.size)) (.int .i64 k) c).run Tryz.prog (w.alloc (.map es clock)) = .ok (if c then .tuple #[v, .bool true] else v) (w.alloc (.map es clock)) := by
  have hg : (w.alloc (.map es clock)).heap[w.heap.size]? = some (.map es clock) := heap_alloc_new w _
  unfold Instr.lookup
  simp only [Sem.run_bind, run_underlying Tryz.underlying115, Result.andThen_ok, MapKept.run_getObj_map hg, run_checkInt, MapKept.run_findKey Tryz.underlying3 hf, Sem.run_pure]
theorem zero3 (w : World) : (zeroValue 3).run Tryz.prog w = .ok (.int .i64 0) w := by kernel_rfl
theorem look_no (w : World) (es : Array MapEntry) (clock : Nat) (k : Int) (c : Bool) (hf : Instr.findNow (.int .i64) (.int .i64 k) es.toList 0 = some none) :
    (Instr.lookup 115 (.map (some w.heap.size)) (.int .i64 k) c).run Tryz.prog (w.alloc (.map es clock)) = .ok (if c then .tuple #[.int .i64 0, .bool false] else .int .i64 0) (w.alloc (.map es clock)) := by
  have hg : (w.alloc (.map es clock)).heap[w.heap.size]? = some (.map es clock) := heap_alloc_new w _
  unfold Instr.lookup
  simp only [Sem.run_bind, run_underlying Tryz.underlying115, Result.andThen_ok, MapKept.run_getObj_map hg, run_checkInt, MapKept.run_findKey Tryz.underlying3 hf, Sem.run_pure, zero3]

/-- The map that a round of tgref1.Wrong makes. -/
def mostE : Array MapEntry := #[{ key := .int .i64 1, val := .int .i64 1073741824, born := 0 }, { key := .int .i64 2, val := .int .i64 0, born := 1 }, { key := .int .i64 3, val := .int .i64 1, born := 2 }]

theorem up1 (w : World) : (Instr.mapUpdate 115 (.map (some w.heap.size)) (.int .i64 1) (.int .i64 1073741824)).run Tryz.prog (w.alloc (.map #[] 0)) = .ok () (w.alloc (.map #[{ key := .int .i64 1, val := .int .i64 1073741824, born := 0 }] 1)) := upd_new w #[] 0 1 _ rfl
theorem up2 (w : World) : (Instr.mapUpdate 115 (.map (some w.heap.size)) (.int .i64 2) (.int .i64 0)).run Tryz.prog (w.alloc (.map #[{ key := .int .i64 1, val := .int .i64 1073741824, born := 0 }] 1)) = .ok () (w.alloc (.map #[{ key := .int .i64 1, val := .int .i64 1073741824, born := 0 }, { key := .int .i64 2, val := .int .i64 0, born := 1 }] 2)) := upd_new w _ 1 2 _ rfl
theorem up3 (w : World) : (Instr.mapUpdate 115 (.map (some w.heap.size)) (.int .i64 3) (.int .i64 1)).run Tryz.prog (w.alloc (.map #[{ key := .int .i64 1, val := .int .i64 1073741824, born := 0 }, { key := .int .i64 2, val := .int .i64 0, born := 1 }] 2)) = .ok () (w.alloc (.map mostE 3)) := upd_new w _ 2 3 _ rfl
theorem lk1 (w : World) : (Instr.lookup 115 (.map (some w.heap.size)) (.int .i64 1) true).run Tryz.prog (w.alloc (.map mostE 3)) = .ok (.tuple #[.int .i64 1073741824, .bool true]) (w.alloc (.map mostE 3)) := look_yes w mostE 3 0 1 _ true rfl
theorem lk2 (w : World) : (Instr.lookup 115 (.map (some w.heap.size)) (.int .i64 2) true).run Tryz.prog (w.alloc (.map mostE 3)) = .ok (.tuple #[.int .i64 0, .bool true]) (w.alloc (.map mostE 3)) := look_yes w mostE 3 1 2 _ true rfl
theorem lk3 (w : World) : (Instr.lookup 115 (.map (some w.heap.size)) (.int .i64 3) true).run Tryz.prog (w.alloc (.map mostE 3)) = .ok (.tuple #[.int .i64 1, .bool true]) (w.alloc (.map mostE 3)) := look_yes w mostE 3 2 3 _ true rfl
theorem lf1 (w : World) : (Instr.lookup 115 (.map (some w.heap.size)) (.int .i64 1) false).run Tryz.prog (w.alloc (.map mostE 3)) = .ok (.int .i64 1073741824) (w.alloc (.map mostE 3)) := look_yes w mostE 3 0 1 _ false rfl
theorem lf3 (w : World) : (Instr.lookup 115 (.map (some w.heap.size)) (.int .i64 3) false).run Tryz.prog (w.alloc (.map mostE 3)) = .ok (.int .i64 1) (w.alloc (.map mostE 3)) := look_yes w mostE 3 2 3 _ false rfl
theorem lkn (k : Int) (h : kindB k = false) (w : World) : (Instr.lookup 115 (.map (some w.heap.size)) (.int .i64 k) true).run Tryz.prog (w.alloc (.map mostE 3)) = .ok (.tuple #[.int .i64 0, .bool false]) (w.alloc (.map mostE 3)) := by
  simp only [kindB, Bool.or_eq_false_iff] at h
  obtain ⟨⟨h1, h2⟩, h3⟩ := h
  refine look_no w mostE 3 k true ?_
  simp only [mostE, Instr.findNow, Instr.sameNow, h1, h2, h3, if_true]

theorem wrong_out {ps : List PD} {k bl : Nat} {p : PD} {c : Int} (hlt : k < ps.length) (hw : wrongL ps = wrongL (ps.drop k)) (hp : p = ps[k]) (h1 : ¬ 4 < ps.length) (hc : p.wrong = c) (h0 : ¬ c = 0) : c = wrongN ps bl := by
  subst hp
  rw [wrongL_stop ps k hlt (by rw [hc]; exact h0), hc] at hw
  simp [wrongN, h1, hw, h0]
theorem wrong_next {ps : List PD} {k : Nat} {p : PD} (hlt : k < ps.length) (hw : wrongL ps = wrongL (ps.drop k)) (hp : p = ps[k]) (hc : p.wrong = 0) : wrongL ps = wrongL (ps.drop (k + 1)) := by
  subst hp
  rw [hw, wrongL_step ps k hlt hc]
theorem size0 (s : ByteArray) : s.toList.isEmpty = decide (s.size = 0) := by
  by_cases h : s.size = 0
  · rw [empty_of s h]; simp [h]
  · rw [isEmpty_of s (by omega)]; simp [h]

set_option maxRecDepth 100000 in
set_option maxHeartbeats 4000000 in
theorem refWrong_any (pa : Option Addr) (pc : Nat) (ps : List PD) (ba : Option Addr) (bl bc : Nat) (w : World) (hps : PropsAt w.heap.size w pa ps) (hfit : ∀ p ∈ ps, p.fits) (hpl : ps.length ≤ maxLen) (hbl : bl ≤ maxLen) :
    Calls Tryz.prog 48 #[.agg #[.slice pa ps.length pc, .slice ba bl bc]] w fun e w' => e = .returned (.int .i64 (wrongN ps bl)) ∧ Below w.heap.size w w' := by
  unfold maxLen at hpl hbl
  by_cases h1 : 4 < ps.length
  · go_enter Tryz.func48, Tryz.ntmps48
    go_wp2
    go_ret
    exact ⟨ret_i64 (by simp [wrongN, h1]), (Below.refl _ _).alloc (Nat.le_refl _) _⟩
  go_enter Tryz.func48, Tryz.ntmps48
  go_wp2
  go_loopw [15] (fun i wr => ∃ k : Nat, k ≤ ps.length ∧ i = .int .i64 k ∧ Below (w.heap.size + 1) (w.alloc (.cells #[.slice pa ps.length pc, .slice ba bl bc] 25)) wr ∧ wrongL ps = wrongL (ps.drop k))
    (fun i _ => ps.length - (intOf i).toNat)
  case atStart => exact ⟨0, Nat.zero_le _, rfl, Below.refl _ _, rfl⟩
  case round =>
    obtain ⟨k, hk, rfl, hnx, hwl⟩ := hrel
    have HW : Hid (wrongL ps = wrongL (ps.drop k)) := hwl
    clear hwl
    have hsz : w.heap.size + 1 ≤ wr.heap.size := by have := hnx.size; simpa using this
    have hn1 : wr.cell? ⟨w.heap.size, 1, none⟩ = some (.slice ba bl bc) := by rw [hnx.cell (by simp)]; simp
    by_cases hlt : k < ps.length
    · obtain ⟨b, off, rfl, hblt, h0, h1', h2, h3⟩ := hps k hlt
      obtain ⟨p, hp⟩ : ∃ p, p = ps[k] := ⟨_, rfl⟩
      have hfp := hfit ps[k] (List.getElem_mem _)
      rw [← hp] at h0 h1' h2 h3 hfp
      have cc : ∀ o, wr.cell? ⟨b, o, none⟩ = w.cell? ⟨b, o, none⟩ := fun o => by
        rw [hnx.cell (by show b < _; omega)]; exact World.cell?_alloc_lt _ _ _ hblt
      have g0 : wr.cell? ⟨b, off + k * 4, none⟩ = _ := (cc _).trans h0
      have g1 : wr.cell? ⟨b, off + k * 4 + 1, none⟩ = _ := (cc _).trans h1'
      have g2 : wr.cell? ⟨b, off + k * 4 + 2, none⟩ = _ := (cc _).trans h2
      have g3 : wr.cell? ⟨b, off + k * 4 + 3, none⟩ = _ := (cc _).trans h3
      clear cc h0 h1' h2 h3
      have HP : Hid (p = ps[k]) := hp
      clear hp
      obtain ⟨key, kind, n, text⟩ := p
      simp only at g0 g1 g2 g3
      have hmm := @run_makeMap Tryz.prog
      have u1 := up1
      have u2 := up2
      have u3 := up3
      have k1 := lk1
      have k2 := lk2
      have k3 := lk3
      have f1 := lf1
      have f3 := lf3
      cases hk1 : keyB key
      · go_wp2_with (go_at_call 47; refine (refKey_any _ _ hfp.1).mono ?_; rintro e w1 ⟨rfl, hb1⟩; obtain ⟨c1, c2⟩ := bcell hb1; have hz1 : wr.heap.size < w1.heap.size := (by have := hb1.size; simp at this; omega))
        go_ret
        exact ⟨ret_i64 (wrong_out hlt HW.out HP.out h1 (by simp [PD.wrong, wrongP, hk1]) (by decide)), ((Below.refl _ _).alloc (Nat.le_refl _) _).trans ((hnx.mono (by omega)).trans (((Below.refl _ _).alloc (by omega) _).trans (hb1.mono (by simp; omega))))⟩
      · cases hk2 : kindB kind
        · have kn := lkn kind hk2
          go_wp2_with (go_at_call 47; refine (refKey_any _ _ hfp.1).mono ?_; rintro e w1 ⟨rfl, hb1⟩; obtain ⟨c1, c2⟩ := bcell hb1; have hz1 : wr.heap.size < w1.heap.size := (by have := hb1.size; simp at this; omega))
          go_ret
          exact ⟨ret_i64 (wrong_out hlt HW.out HP.out h1 (by simp [PD.wrong, wrongP, hk1, hk2]) (by decide)), (((Below.refl _ _).alloc (Nat.le_refl _) _).trans ((hnx.mono (by omega)).trans (((Below.refl _ _).alloc (by omega) _).trans (hb1.mono (by simp; omega))))).alloc (by omega) _⟩
        · have hz0 := size0 text
          have hkk : kind = 1 ∨ kind = 2 ∨ kind = 3 := by simp [kindB] at hk2; omega
          rcases hkk with rfl | rfl | rfl
          · by_cases n1 : n < -1073741824
            · go_wp2_with (go_at_call 47; refine (refKey_any _ _ hfp.1).mono ?_; rintro e w1 ⟨rfl, hb1⟩; obtain ⟨c1, c2⟩ := bcell hb1; have hz1 : wr.heap.size < w1.heap.size := (by have := hb1.size; simp at this; omega))
              go_ret
              exact ⟨ret_i64 (wrong_out hlt HW.out HP.out h1 (by simp [PD.wrong, wrongP, hk1, hk2, rangeB]; omega) (by decide)), (((Below.refl _ _).alloc (Nat.le_refl _) _).trans ((hnx.mono (by omega)).trans (((Below.refl _ _).alloc (by omega) _).trans (hb1.mono (by simp; omega))))).alloc (by omega) _⟩
            · by_cases n2 : 1073741824 < n
              · go_wp2_with (go_at_call 47; refine (refKey_any _ _ hfp.1).mono ?_; rintro e w1 ⟨rfl, hb1⟩; obtain ⟨c1, c2⟩ := bcell hb1; have hz1 : wr.heap.size < w1.heap.size := (by have := hb1.size; simp at this; omega))
                go_ret
                exact ⟨ret_i64 (wrong_out hlt HW.out HP.out h1 (by simp [PD.wrong, wrongP, hk1, hk2, rangeB]; omega) (by decide)), (((Below.refl _ _).alloc (Nat.le_refl _) _).trans ((hnx.mono (by omega)).trans (((Below.refl _ _).alloc (by omega) _).trans (hb1.mono (by simp; omega))))).alloc (by omega) _⟩
              · have hr : rangeB 1 n = true := by simp [rangeB]; omega
                by_cases n3 : text.size = 0
                · go_wp2_with (go_at_call 47; refine (refKey_any _ _ hfp.1).mono ?_; rintro e w1 ⟨rfl, hb1⟩; obtain ⟨c1, c2⟩ := bcell hb1; have hz1 : wr.heap.size < w1.heap.size := (by have := hb1.size; simp at this; omega))
                  go_roundw
                  case rel => exact ⟨k + 1, by omega, by go_num, hnx.trans ((((Below.refl _ _).alloc hsz _).trans (hb1.mono (by simp; omega))).alloc (by omega) _), wrong_next hlt HW.out HP.out (by simp [PD.wrong, wrongP, hk1, hk2, hr, strayB, hz0, n3])⟩
                  case measure => simp [intOf]; omega
                · go_wp2_with (go_at_call 47; refine (refKey_any _ _ hfp.1).mono ?_; rintro e w1 ⟨rfl, hb1⟩; obtain ⟨c1, c2⟩ := bcell hb1; have hz1 : wr.heap.size < w1.heap.size := (by have := hb1.size; simp at this; omega))
                  go_ret
                  exact ⟨ret_i64 (wrong_out hlt HW.out HP.out h1 (by simp [PD.wrong, wrongP, hk1, hk2, hr, strayB, hz0, n3]) (by decide)), (((Below.refl _ _).alloc (Nat.le_refl _) _).trans ((hnx.mono (by omega)).trans (((Below.refl _ _).alloc (by omega) _).trans (hb1.mono (by simp; omega))))).alloc (by omega) _⟩
          · by_cases n1 : 12 < text.size
            · go_wp2_with (go_at_call 47; refine (refKey_any _ _ hfp.1).mono ?_; rintro e w1 ⟨rfl, hb1⟩; obtain ⟨c1, c2⟩ := bcell hb1; have hz1 : wr.heap.size < w1.heap.size := (by have := hb1.size; simp at this; omega))
              go_ret
              exact ⟨ret_i64 (wrong_out hlt HW.out HP.out h1 (by simp [PD.wrong, wrongP, hk1, hk2, rangeB, n1]) (by decide)), (((Below.refl _ _).alloc (Nat.le_refl _) _).trans ((hnx.mono (by omega)).trans (((Below.refl _ _).alloc (by omega) _).trans (hb1.mono (by simp; omega))))).alloc (by omega) _⟩
            · by_cases n2 : n = 0
              · subst n2
                go_wp2_with (go_at_call 47; refine (refKey_any _ _ hfp.1).mono ?_; rintro e w1 ⟨rfl, hb1⟩; obtain ⟨c1, c2⟩ := bcell hb1; have hz1 : wr.heap.size < w1.heap.size := (by have := hb1.size; simp at this; omega))
                go_roundw
                case rel => exact ⟨k + 1, by omega, by go_num, hnx.trans ((((Below.refl _ _).alloc hsz _).trans (hb1.mono (by simp; omega))).alloc (by omega) _), wrong_next hlt HW.out HP.out (by simp [PD.wrong, wrongP, hk1, hk2, rangeB, strayB, n1])⟩
                case measure => simp [intOf]; omega
              · have n2' : (n == 0) = false := by simpa using n2
                go_wp2_with (go_at_call 47; refine (refKey_any _ _ hfp.1).mono ?_; rintro e w1 ⟨rfl, hb1⟩; obtain ⟨c1, c2⟩ := bcell hb1; have hz1 : wr.heap.size < w1.heap.size := (by have := hb1.size; simp at this; omega))
                go_ret
                exact ⟨ret_i64 (wrong_out hlt HW.out HP.out h1 (by simp [PD.wrong, wrongP, hk1, hk2, rangeB, strayB, n1, n2]) (by decide)), (((Below.refl _ _).alloc (Nat.le_refl _) _).trans ((hnx.mono (by omega)).trans (((Below.refl _ _).alloc (by omega) _).trans (hb1.mono (by simp; omega))))).alloc (by omega) _⟩
          · by_cases n1 : n < 0
            · go_wp2_with (go_at_call 47; refine (refKey_any _ _ hfp.1).mono ?_; rintro e w1 ⟨rfl, hb1⟩; obtain ⟨c1, c2⟩ := bcell hb1; have hz1 : wr.heap.size < w1.heap.size := (by have := hb1.size; simp at this; omega))
              go_ret
              exact ⟨ret_i64 (wrong_out hlt HW.out HP.out h1 (by simp [PD.wrong, wrongP, hk1, hk2, rangeB]; omega) (by decide)), (((Below.refl _ _).alloc (Nat.le_refl _) _).trans ((hnx.mono (by omega)).trans (((Below.refl _ _).alloc (by omega) _).trans (hb1.mono (by simp; omega))))).alloc (by omega) _⟩
            · by_cases n2 : 1 < n
              · go_wp2_with (go_at_call 47; refine (refKey_any _ _ hfp.1).mono ?_; rintro e w1 ⟨rfl, hb1⟩; obtain ⟨c1, c2⟩ := bcell hb1; have hz1 : wr.heap.size < w1.heap.size := (by have := hb1.size; simp at this; omega))
                go_ret
                exact ⟨ret_i64 (wrong_out hlt HW.out HP.out h1 (by simp [PD.wrong, wrongP, hk1, hk2, rangeB]; omega) (by decide)), (((Below.refl _ _).alloc (Nat.le_refl _) _).trans ((hnx.mono (by omega)).trans (((Below.refl _ _).alloc (by omega) _).trans (hb1.mono (by simp; omega))))).alloc (by omega) _⟩
              · have hr : rangeB 3 n = true := by simp [rangeB]; omega
                by_cases n3 : text.size = 0
                · go_wp2_with (go_at_call 47; refine (refKey_any _ _ hfp.1).mono ?_; rintro e w1 ⟨rfl, hb1⟩; obtain ⟨c1, c2⟩ := bcell hb1; have hz1 : wr.heap.size < w1.heap.size := (by have := hb1.size; simp at this; omega))
                  go_roundw
                  case rel => exact ⟨k + 1, by omega, by go_num, hnx.trans ((((Below.refl _ _).alloc hsz _).trans (hb1.mono (by simp; omega))).alloc (by omega) _), wrong_next hlt HW.out HP.out (by simp [PD.wrong, wrongP, hk1, hk2, hr, strayB, hz0, n3])⟩
                  case measure => simp [intOf]; omega
                · go_wp2_with (go_at_call 47; refine (refKey_any _ _ hfp.1).mono ?_; rintro e w1 ⟨rfl, hb1⟩; obtain ⟨c1, c2⟩ := bcell hb1; have hz1 : wr.heap.size < w1.heap.size := (by have := hb1.size; simp at this; omega))
                  go_ret
                  exact ⟨ret_i64 (wrong_out hlt HW.out HP.out h1 (by simp [PD.wrong, wrongP, hk1, hk2, hr, strayB, hz0, n3]) (by decide)), (((Below.refl _ _).alloc (Nat.le_refl _) _).trans ((hnx.mono (by omega)).trans (((Below.refl _ _).alloc (by omega) _).trans (hb1.mono (by simp; omega))))).alloc (by omega) _⟩
    · have e : k = ps.length := by omega
      have e2 := HW.out
      rw [e, List.drop_of_length_le (by simp), wrongL] at e2
      have HE : Hid (wrongL ps = 0) := e2
      clear e2
      go_wp2
      · go_ret
        have h40 : (40 : Int) < bl := by assumption
        exact ⟨ret_i64 (by simp [wrongN, h1, HE.out]; omega), ((Below.refl _ _).alloc (Nat.le_refl _) _).trans (hnx.mono (by omega))⟩
      · go_ret
        have h40 : (bl : Int) ≤ 40 := by assumption
        exact ⟨ret_i64 (by simp [wrongN, h1, HE.out]; omega), ((Below.refl _ _).alloc (Nat.le_refl _) _).trans (hnx.mono (by omega))⟩
end Go.Proofs.YtedhlbknbaggiaaGreatDoor
