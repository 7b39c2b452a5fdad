/-
  FaceP; NtLeaf; NtWrong; NtTake: texts laid together.
-/
import Derived.Test.YtkddkpdfeeikhaaJShortProofM13
import Derived.Test.YtkddkpdfeeikhaaRows
import Derived.WalkKit
import Derived.WalkSpells
import Derived.WalkLawsBesides
/-
  hall.Put.
-/
namespace Go.Proofs.Ytkddkpdfeeikhaa
open Go.RowKit
set_option linter.unusedVariables false
set_option linter.unusedSimpArgs false

attribute [local go_sem ↓] Go.wp_at_zero Go.wp_at_succ

theorem cellsL_at (L : List PD) (k j : Nat) (hk : k < L.length) (hj : j < 4) : (cellsL L)[k * 4 + j]? = (L[k].cells)[j]? := flat_at _ 4 (fun _ => rfl) L k j hk hj

theorem props_at {B : Nat} {w : World} {a : Option Addr} {n c : Nat} {ps : List PD} (h : SliceP (Under B) w (.slice a n c) ps) : PropsAt B w a ps := by
  intro i hi
  obtain ⟨a', cap', e, _, _, _, h3⟩ := h
  simp only [Value.slice.injEq] at e
  obtain ⟨rfl, -, rfl⟩ := e
  have hl := cellsL_len ps
  obtain ⟨b, off, rfl, hs, _⟩ := h3 (i * 4) (by omega)
  have key : ∀ j (hj : j < 4), w.cell? ⟨b, off + i * 4 + j, none⟩ = (ps[i].cells)[j]? := fun j hj => by
    obtain ⟨b', off', e, _, hc⟩ := h3 (i * 4 + j) (by omega)
    simp only [Option.some.injEq, Addr.mk.injEq] at e
    obtain ⟨rfl, rfl, -⟩ := e
    rw [← cellsL_at ps i j hi hj, List.getElem?_eq_getElem (by omega), ← hc]
    congr 2; omega
  exact ⟨b, off, rfl, hs, key 0 (by omega), key 1 (by omega), key 2 (by omega), key 3 (by omega)⟩

def ND.wrong (n : ND) : Int := wrongN n.props n.body.length
def ND.fitN (n : ND) : Prop := ∀ p ∈ n.props, p.fitN

theorem wrong_small {n : ND} (h : n.wrong = 0) : n.small := by
  unfold ND.wrong wrongN at h
  split at h
  · simp at h
  · split at h
    · split at h
      · simp at h
      · exact ⟨by omega, by omega⟩
    · rename_i h1 h2
      simp [h] at h2

end Go.Proofs.Ytkddkpdfeeikhaa

/-
  The leaves of package note: isKind, hasStray, inRange, Key and wrongProp answer what the functions below say, and turn nothing that was there.
-/
namespace Go.Proofs.Ytkddkpdfeeikhaa.NT
open Go.RowKit
set_option linter.unusedVariables false
set_option linter.unusedSimpArgs false

def kindB (k : Int) : Bool := k == 1 || k == 2 || k == 3

set_option maxHeartbeats 400000 in
theorem isKind_any (k : Int) (w : World) :
    Calls Try.prog 134 #[.int .i64 k] w fun e w' => e = .returned (.bool (kindB k)) ∧ w' = w := by
  go_enter Try.func134, Try.ntmps134
  go_wp2
  all_goals (go_ret; exact ⟨by simp [kindB, *], rfl⟩)

def strayB (kind n : Int) (text : ByteArray) : Bool := if kind == 2 then n != 0 else !text.toList.isEmpty

theorem ret_bool {a b : Bool} (h : a = b) : Ending.returned (.bool a) = .returned (.bool b) := by rw [h]

set_option maxHeartbeats 400000 in
theorem hasStray_any (key : ByteArray) (kind n : Int) (text : ByteArray) (w : World) :
    Calls Try.prog 136 #[.agg #[.string key, .int .i64 kind, .int .i64 n, .string text]] w fun e w' => e = .returned (.bool (strayB kind n text)) ∧ Below w.heap.size w w' := by
  go_enter Try.func136, Try.ntmps136
  go_wp2
  all_goals (go_ret; exact ⟨ret_bool (by simp [strayB, *]), (Below.refl _ _).alloc (Nat.le_refl _) _⟩)

def rangeB (kind n : Int) : Bool := if kind == 1 then decide (-1073741824 ≤ n ∧ n ≤ 1073741824) else if kind == 3 then n == 0 || n == 1 else true

set_option maxHeartbeats 400000 in
theorem inRange_any (key : ByteArray) (kind n : Int) (text : ByteArray) (w : World) :
    Calls Try.prog 135 #[.agg #[.string key, .int .i64 kind, .int .i64 n, .string text]] w fun e w' => e = .returned (.bool (rangeB kind n)) ∧ Below w.heap.size w w' := by
  go_enter Try.func135, Try.ntmps135
  go_wp2
  all_goals go_ret
  all_goals refine ⟨ret_bool ?_, (Below.refl _ _).alloc (Nat.le_refl _) _⟩
  all_goals (simp [rangeB, *] <;> try omega)

def lowB (c : UInt8) : Bool := 97 ≤ c && c ≤ 122
def keyB (s : ByteArray) : Bool := 1 ≤ s.size && s.size ≤ 8 && s.data.toList.all lowB

theorem take_snoc (s : ByteArray) (k : Nat) (h : k < s.size) : s.data.toList.take (k + 1) = s.data.toList.take k ++ [s[k]] := by
  rw [List.take_succ_eq_append_getElem (by simpa using h)]; rfl
theorem low_iff (c : UInt8) : lowB c = true ↔ (97 : Int) ≤ c.toNat ∧ (c.toNat : Int) ≤ 122 := by
  simp [lowB, UInt8.le_iff_toNat_le]; omega

theorem all_step (s : ByteArray) (k : Nat) (h : k < s.size) (ha : (s.data.toList.take k).all lowB = true) (h1 : ¬ (s[k].toNat : Int) < 97) (h2 : ¬ (122 : Int) < s[k].toNat) : (s.data.toList.take (k+1)).all lowB = true := by
  rw [take_snoc s k h, List.all_append, ha]; simp [low_iff]; omega
theorem all_stop (s : ByteArray) (k : Nat) (h : k < s.size) (h1 : (s[k].toNat : Int) < 97 ∨ (122 : Int) < s[k].toNat) : s.data.toList.all lowB = false := by
  rw [Bool.eq_false_iff]
  intro hh
  rw [List.all_eq_true] at hh
  have := (low_iff _).1 (hh s[k] (by have : s[k] = s.data.toList[k]'(by simpa using h) := rfl
                                     rw [this]; exact List.getElem_mem _))
  omega

set_option maxHeartbeats 400000 in
theorem key_any (s : ByteArray) (w : World) (hs : s.size ≤ maxLen) :
    Calls Try.prog 114 #[.string s] w fun e w' => e = .returned (.bool (keyB s)) ∧ w' = w := by
  unfold maxLen at hs
  by_cases h1 : 1 ≤ s.size
  case neg =>
    go_enter Try.func114, Try.ntmps114
    go_wp2
    all_goals (go_ret; exact ⟨ret_bool (by simp [keyB]; omega), rfl⟩)
  by_cases h2 : s.size ≤ 8
  case neg =>
    go_enter Try.func114, Try.ntmps114
    go_wp2
    all_goals (go_ret; exact ⟨ret_bool (by simp [keyB]; omega), rfl⟩)
  go_enter Try.func114, Try.ntmps114
  go_wp2
  go_loop [14] (fun i => ∃ k : Nat, k ≤ s.size ∧ i = .int .i64 k ∧ (s.data.toList.take k).all lowB = true) (fun i => s.size - (intOf i).toNat)
  case atStart => exact ⟨0, Nat.zero_le _, rfl, rfl⟩
  case round =>
    obtain ⟨k, hk, rfl, ha⟩ := hrel
    have HA : Hid ((s.data.toList.take k).all lowB = true) := ha
    clear ha
    by_cases hlt : k < s.size
    · by_cases h3 : (s[k].toNat : Int) < 97
      · go_wp2
        go_ret
        exact ⟨ret_bool (by simp [keyB, all_stop s k hlt (Or.inl h3)]), rfl⟩
      · by_cases h4 : (122 : Int) < s[k].toNat
        · go_wp2
          go_ret
          exact ⟨ret_bool (by simp [keyB, all_stop s k hlt (Or.inr h4)]), rfl⟩
        · go_wp2
          go_round
          case rel => exact ⟨k + 1, by omega, by go_num, all_step s k hlt HA.out h3 h4⟩
          case measure => simp [intOf]; omega
    · go_wp2
      go_ret
      have e : k = s.size := by omega
      have HB := HA.out
      rw [e, List.take_of_length_le (by simp)] at HB
      exact ⟨ret_bool (by simp [keyB, h1, h2, HB]), rfl⟩

theorem bcell {W w1 : World} (hb : Below W.heap.size W w1) : (∀ b o, b < W.heap.size → w1.cell? ⟨b, o, none⟩ = W.cell? ⟨b, o, none⟩) ∧ (∀ b o, b < W.heap.size → w1.frozen? ⟨b, o, none⟩ = W.frozen? ⟨b, o, none⟩) :=
  ⟨fun b o h => hb.cell (p := ⟨b, o, none⟩) h, fun b o h => hb.frozen (p := ⟨b, o, none⟩) h⟩

theorem ret_i64 {a b : Int} (h : a = b) : Ending.returned (.int .i64 a) = .returned (.int .i64 b) := by rw [h]

def wrongP (key : ByteArray) (kind n : Int) (text : ByteArray) : Int :=
  if !keyB key then 7 else if !kindB kind then 1 else if !rangeB kind n then 3 else if kind == 2 && 12 < text.size then 4 else if strayB kind n text then 2 else 0

set_option maxHeartbeats 1000000 in
theorem wrongProp_any (key : ByteArray) (kind n : Int) (text : ByteArray) (w : World) (hs : key.size ≤ maxLen) (ht : text.size ≤ maxLen) :
    Calls Try.prog 115 #[.agg #[.string key, .int .i64 kind, .int .i64 n, .string text]] w fun e w' => e = .returned (.int .i64 (wrongP key kind n text)) ∧ Below w.heap.size w w' := by
  have ht' := ht
  unfold maxLen at ht'
  cases hk : keyB key
  · go_enter Try.func115, Try.ntmps115
    go_wp2_with (go_at_call 114; refine (key_any key _ hs).mono ?_; rintro e w1 ⟨rfl, rfl⟩)
    go_ret
    exact ⟨ret_i64 (by simp [wrongP, hk]), (Below.refl _ _).alloc (Nat.le_refl _) _⟩
  cases hk2 : kindB kind
  · go_enter Try.func115, Try.ntmps115
    go_wp2_with (first
    | (go_at_call 114; refine (key_any key _ hs).mono ?_; rintro e w1 ⟨rfl, rfl⟩)
    | (go_at_call 134; refine (isKind_any _ _).mono ?_; rintro e w1 ⟨rfl, rfl⟩))
    go_ret
    exact ⟨ret_i64 (by simp [wrongP, hk, hk2]), (Below.refl _ _).alloc (Nat.le_refl _) _⟩
  cases hk3 : rangeB kind n
  · go_enter Try.func115, Try.ntmps115
    go_wp2_with (first
    | (go_at_call 114; refine (key_any key _ hs).mono ?_; rintro e w1 ⟨rfl, rfl⟩)
    | (go_at_call 134; refine (isKind_any _ _).mono ?_; rintro e w1 ⟨rfl, rfl⟩)
    | (go_at_call 135; refine (inRange_any _ _ _ _ _).mono ?_; rintro e w1 ⟨rfl, hb1⟩; obtain ⟨hc1, hf1⟩ := bcell hb1))
    go_ret
    exact ⟨ret_i64 (by simp [wrongP, hk, hk2, hk3]), ((Below.refl _ _).alloc (Nat.le_refl _) _).trans (hb1.mono (by simp))⟩
  by_cases h5 : kind = 2
  · subst h5
    by_cases h6 : 12 < text.size
    · go_enter Try.func115, Try.ntmps115
      go_wp2_with (first
      | (go_at_call 114; refine (key_any key _ hs).mono ?_; rintro e w1 ⟨rfl, rfl⟩)
      | (go_at_call 134; refine (isKind_any _ _).mono ?_; rintro e w1 ⟨rfl, rfl⟩)
      | (go_at_call 135; refine (inRange_any _ _ _ _ _).mono ?_; rintro e w1 ⟨rfl, hb1⟩; obtain ⟨hc1, hf1⟩ := bcell hb1; have hz1 := hb1.size)
      | (go_at_call 136; refine (hasStray_any _ _ _ _ _).mono ?_; rintro e w2 ⟨rfl, hb2⟩))
      go_ret
      exact ⟨ret_i64 (by simp [wrongP, hk, hk2, hk3, h6]), ((Below.refl _ _).alloc (Nat.le_refl _) _).trans (hb1.mono (by simp))⟩
    · cases h7 : strayB 2 n text
      all_goals
        go_enter Try.func115, Try.ntmps115
        go_wp2_with (first
        | (go_at_call 114; refine (key_any key _ hs).mono ?_; rintro e w1 ⟨rfl, rfl⟩)
        | (go_at_call 134; refine (isKind_any _ _).mono ?_; rintro e w1 ⟨rfl, rfl⟩)
        | (go_at_call 135; refine (inRange_any _ _ _ _ _).mono ?_; rintro e w1 ⟨rfl, hb1⟩; obtain ⟨hc1, hf1⟩ := bcell hb1; have hz1 := hb1.size)
        | (go_at_call 136; refine (hasStray_any _ _ _ _ _).mono ?_; rintro e w2 ⟨rfl, hb2⟩))
        go_ret
        exact ⟨ret_i64 (by simp [wrongP, hk, hk2, hk3, h6, h7]), (((Below.refl _ _).alloc (Nat.le_refl _) _).trans (hb1.mono (by simp))).trans (hb2.mono (by have := hb1.size; simp at this; omega))⟩
  · have h5' : (kind == 2) = false := by simpa using h5
    cases h7 : strayB kind n text
    all_goals
      go_enter Try.func115, Try.ntmps115
      go_wp2_with (first
      | (go_at_call 114; refine (key_any key _ hs).mono ?_; rintro e w1 ⟨rfl, rfl⟩)
      | (go_at_call 134; refine (isKind_any _ _).mono ?_; rintro e w1 ⟨rfl, rfl⟩)
      | (go_at_call 135; refine (inRange_any _ _ _ _ _).mono ?_; rintro e w1 ⟨rfl, hb1⟩; obtain ⟨hc1, hf1⟩ := bcell hb1; have hz1 := hb1.size)
      | (go_at_call 136; refine (hasStray_any _ _ _ _ _).mono ?_; rintro e w2 ⟨rfl, hb2⟩))
      go_ret
      exact ⟨ret_i64 (by simp [wrongP, hk, hk2, hk3, h5, h7]), (((Below.refl _ _).alloc (Nat.le_refl _) _).trans (hb1.mono (by simp))).trans (hb2.mono (by have := hb1.size; simp at this; omega))⟩
end Go.Proofs.Ytkddkpdfeeikhaa.NT

/-
  note.Wrong answers what wrongN says of any note's properties and of its body's length.
-/
namespace Go.Proofs.Ytkddkpdfeeikhaa.NT
open Go.RowKit
set_option linter.unusedVariables false
set_option linter.unusedSimpArgs false

structure PD where
  key : ByteArray
  kind : Int
  n : Int
  text : ByteArray

def PD.wrong (p : PD) : Int := wrongP p.key p.kind p.n p.text
def PD.fits (p : PD) : Prop := p.key.size ≤ maxLen ∧ p.text.size ≤ maxLen

def PropAt (w : World) (b off : Nat) (p : PD) : Prop :=
  w.cell? ⟨b, off, none⟩ = some (.string p.key) ∧ w.cell? ⟨b, off + 1, none⟩ = some (.int .i64 p.kind) ∧ w.cell? ⟨b, off + 2, none⟩ = some (.int .i64 p.n) ∧ w.cell? ⟨b, off + 3, none⟩ = some (.string p.text)

def PropsAt (B : Nat) (w : World) (a : Option Addr) (ps : List PD) : Prop :=
  ∀ i (h : i < ps.length), ∃ b off, a = some ⟨b, off, none⟩ ∧ b < B ∧ PropAt w b (off + i * 4) ps[i]

def BytesAt (B : Nat) (w : World) (a : Option Addr) (bs : List UInt8) : Prop :=
  ∀ i (h : i < bs.length), ∃ b off, a = some ⟨b, off, none⟩ ∧ b < B ∧ w.cell? ⟨b, off + i, none⟩ = some (.int .u8 bs[i].toNat)

theorem PropsAt.mono {B B' : Nat} {w : World} {a : Option Addr} {ps : List PD} (h : PropsAt B w a ps) (hb : B ≤ B') : PropsAt B' w a ps := by
  intro i hi
  obtain ⟨b, off, rfl, hlt, h0⟩ := h i hi
  exact ⟨b, off, rfl, by omega, h0⟩
theorem BytesAt.mono {B B' : Nat} {w : World} {a : Option Addr} {bs : List UInt8} (h : BytesAt B w a bs) (hb : B ≤ B') : BytesAt B' w a bs := by
  intro i hi
  obtain ⟨b, off, rfl, hlt, h0⟩ := h i hi
  exact ⟨b, off, rfl, by omega, h0⟩
theorem PropsAt.same {B : Nat} {w w' : World} {a : Option Addr} {ps : List PD} (h : PropsAt B w a ps) (hb : ∀ k, k < B → w'.heap[k]? = w.heap[k]?) : PropsAt B w' a ps := by
  intro i hi
  obtain ⟨b, off, rfl, hlt, h0, h1, h2, h3⟩ := h i hi
  have hc : ∀ o, w'.cell? ⟨b, o, none⟩ = w.cell? ⟨b, o, none⟩ := fun o => World.cell?_of_block (hb b hlt)
  exact ⟨b, off, rfl, hlt, (hc _).trans h0, (hc _).trans h1, (hc _).trans h2, (hc _).trans h3⟩
theorem BytesAt.same {B : Nat} {w w' : World} {a : Option Addr} {bs : List UInt8} (h : BytesAt B w a bs) (hb : ∀ k, k < B → w'.heap[k]? = w.heap[k]?) : BytesAt B w' a bs := by
  intro i hi
  obtain ⟨b, off, rfl, hlt, h0⟩ := h i hi
  exact ⟨b, off, rfl, hlt, (World.cell?_of_block (hb b hlt)).trans h0⟩
theorem PropsAt.below {B : Nat} {w w' : World} {a : Option Addr} {ps : List PD} (h : PropsAt B w a ps) (hb : Below B w w') : PropsAt B w' a ps := h.same hb.block
theorem BytesAt.below {B : Nat} {w w' : World} {a : Option Addr} {bs : List UInt8} (h : BytesAt B w a bs) (hb : Below B w w') : BytesAt B w' a bs := h.same hb.block

def wrongL : List PD → Int
  | [] => 0
  | p :: r => if p.wrong == 0 then wrongL r else p.wrong
def wrongN (ps : List PD) (body : Nat) : Int :=
  if 4 < ps.length then 5 else if wrongL ps == 0 then (if 40 < body then 4 else 0) else wrongL ps

theorem wrongL_step (ps : List PD) (k : Nat) (h : k < ps.length) (hw : ps[k].wrong = 0) : wrongL (ps.drop k) = wrongL (ps.drop (k + 1)) := by
  rw [List.drop_eq_getElem_cons h, wrongL]; simp [hw]
theorem wrongL_stop (ps : List PD) (k : Nat) (h : k < ps.length) (hw : ¬ ps[k].wrong = 0) : wrongL (ps.drop k) = ps[k].wrong := by
  rw [List.drop_eq_getElem_cons h, wrongL]; simp [hw]

set_option maxHeartbeats 1000000 in
theorem wrong_any (pa : Option Addr) (pc : Nat) (ps : List PD) (ba : Option Addr) (bl bc : Nat) (w : World) (hps : PropsAt w.heap.size w pa ps) (hfit : ∀ p ∈ ps, p.fits) (hpl : ps.length ≤ maxLen) (hbl : bl ≤ maxLen) :
    Calls Try.prog 97 #[.agg #[.slice pa ps.length pc, .slice ba bl bc]] w fun e w' => e = .returned (.int .i64 (wrongN ps bl)) ∧ Below w.heap.size w w' := by
  unfold maxLen at hpl hbl
  by_cases h1 : 4 < ps.length
  · go_enter Try.func97, Try.ntmps97
    go_wp2
    go_ret
    exact ⟨ret_i64 (by simp [wrongN, h1]), (Below.refl _ _).alloc (Nat.le_refl _) _⟩
  go_enter Try.func97, Try.ntmps97
  go_wp2
  go_loopw [13] (fun i wr => ∃ k : Nat, k ≤ ps.length ∧ i = .int .i64 k ∧ Below (w.heap.size + 1) (w.alloc (.cells #[.slice pa ps.length pc, .slice ba bl bc] 28)) wr ∧ wrongL ps = wrongL (ps.drop k))
    (fun i _ => ps.length - (intOf i).toNat)
  case atStart => exact ⟨0, Nat.zero_le _, rfl, Below.refl _ _, rfl⟩
  case round =>
    obtain ⟨k, hk, rfl, hnx, hwl⟩ := hrel
    have HW : Hid (wrongL ps = wrongL (ps.drop k)) := hwl
    clear hwl
    have hsz : w.heap.size + 1 ≤ wr.heap.size := by have := hnx.size; simpa using this
    have hn1 : wr.cell? ⟨w.heap.size, 1, none⟩ = some (.slice ba bl bc) := by rw [hnx.cell (by simp)]; simp
    by_cases hlt : k < ps.length
    · obtain ⟨b, off, rfl, hblt, h0, h1', h2, h3⟩ := hps k hlt
      obtain ⟨p, hp⟩ : ∃ p, p = ps[k] := ⟨_, rfl⟩
      have hfp := hfit ps[k] (List.getElem_mem _)
      rw [← hp] at h0 h1' h2 h3 hfp
      have cc : ∀ o, wr.cell? ⟨b, o, none⟩ = w.cell? ⟨b, o, none⟩ := fun o => by
        rw [hnx.cell (by show b < _; omega)]; exact World.cell?_alloc_lt _ _ _ hblt
      have g0 : wr.cell? ⟨b, off + k * 4, none⟩ = _ := (cc _).trans h0
      have g1 : wr.cell? ⟨b, off + k * 4 + 1, none⟩ = _ := (cc _).trans h1'
      have g2 : wr.cell? ⟨b, off + k * 4 + 2, none⟩ = _ := (cc _).trans h2
      have g3 : wr.cell? ⟨b, off + k * 4 + 3, none⟩ = _ := (cc _).trans h3
      clear cc h0 h1' h2 h3
      have HP : Hid (p = ps[k]) := hp
      clear hp
      go_wp2_with (go_at_call 115; refine (wrongProp_any _ _ _ _ _ hfp.1 hfp.2).mono ?_; rintro e w1 ⟨rfl, hb1⟩)
      · go_ret
        have hne : ¬ p.wrong = 0 := by have h : (wrongP p.key p.kind p.n p.text != 0) = true := by assumption
                                       simpa [PD.wrong] using h
        refine ⟨ret_i64 ?_, ?_⟩
        · have e1 := HP.out
          subst e1
          have e2 := HW.out
          rw [wrongL_stop ps k hlt hne] at e2
          have hne' : ¬ ps[k].wrong = 0 := hne
          simp [wrongN, h1, e2, hne']
          rfl
        · exact ((Below.refl _ _).alloc (Nat.le_refl _) _).trans ((hnx.mono (by omega)).trans (((Below.refl _ _).alloc (by omega) _).trans (hb1.mono (by simp; omega))))
      · have he : p.wrong = 0 := by have h : (wrongP p.key p.kind p.n p.text != 0) = false := by assumption
                                    simpa [PD.wrong] using h
        go_roundw
        case rel =>
          refine ⟨k + 1, by omega, by go_num, hnx.trans (((Below.refl _ _).alloc hsz _).trans (hb1.mono (by simp; omega))), ?_⟩
          have e1 := HP.out
          subst e1
          rw [HW.out, wrongL_step ps k hlt he]
        case measure => simp [intOf]; omega
    · have e : k = ps.length := by omega
      have e2 := HW.out
      rw [e, List.drop_of_length_le (by simp), wrongL] at e2
      have HE : Hid (wrongL ps = 0) := e2
      clear e2
      go_wp2
      · go_ret
        have h40 : (40 : Int) < bl := by assumption
        exact ⟨ret_i64 (by simp [wrongN, h1, HE.out]; omega), ((Below.refl _ _).alloc (Nat.le_refl _) _).trans (hnx.mono (by omega))⟩
      · go_ret
        have h40 : (bl : Int) ≤ 40 := by assumption
        exact ⟨ret_i64 (by simp [wrongN, h1, HE.out]; omega), ((Below.refl _ _).alloc (Nat.le_refl _) _).trans (hnx.mono (by omega))⟩
end Go.Proofs.Ytkddkpdfeeikhaa.NT

/-
  (*reader).take gives the bytes that are asked for, or marks the reader short.
-/
namespace Go.Proofs.Ytkddkpdfeeikhaa.NT
open Go.RowKit
set_option linter.unusedVariables false
set_option linter.unusedSimpArgs false

/-- A slice of bytes that reads as bs, out of blocks below B. -/
def SliceB (B : Nat) (w : World) (v : Value) (bs : List UInt8) : Prop :=
  ∃ a cap, v = .slice a bs.length cap ∧ bs.length ≤ cap ∧ cap ≤ maxLen ∧ (a = none → cap = 0) ∧ BytesAt B w a bs

theorem SliceB.same {B : Nat} {w w' : World} {v : Value} {bs : List UInt8} (h : SliceB B w v bs) (hb : ∀ k, k < B → w'.heap[k]? = w.heap[k]?) : SliceB B w' v bs := by
  obtain ⟨a, cap, rfl, h1, h2, hn, h3⟩ := h
  exact ⟨a, cap, rfl, h1, h2, hn, h3.same hb⟩
theorem SliceB.mono {B B' : Nat} {w : World} {v : Value} {bs : List UInt8} (h : SliceB B w v bs) (hb : B ≤ B') : SliceB B' w v bs := by
  obtain ⟨a, cap, rfl, h1, h2, hn, h3⟩ := h
  exact ⟨a, cap, rfl, h1, h2, hn, h3.mono hb⟩
theorem SliceB.nil (B : Nat) (w : World) : SliceB B w (.slice none 0 0) [] := ⟨none, 0, rfl, Nat.le_refl _, by simp [maxLen], fun _ => rfl, fun i h => by simp at h⟩

/-- The reader in block R: what is left, and whether it was too short. -/
def Rd (w : World) (R : Nat) (s : List UInt8 × Bool) : Prop :=
  ∃ v, w.cell? ⟨R, 0, none⟩ = some v ∧ SliceB R w v s.1 ∧ w.cell? ⟨R, 1, none⟩ = some (.bool s.2) ∧ w.frozen? ⟨R, 0, none⟩ = false ∧ w.frozen? ⟨R, 1, none⟩ = false

theorem Rd.lt {w : World} {R : Nat} {s} (h : Rd w R s) : R < w.heap.size := by
  obtain ⟨v, h0, _⟩ := h
  exact World.block_lt_of_cell? w _ h0

theorem grownBy_refl (w : World) (row : Option Nat) : w.grownBy w row := ⟨rfl, rfl, rfl, Nat.le_refl _, fun _ _ _ => rfl⟩
theorem grownBy_trans {a b c : World} {row : Option Nat} (h : a.grownBy b row) (k : b.grownBy c row) : a.grownBy c row :=
  ⟨k.os.trans h.os, k.tape.trans h.tape, k.output.trans h.output, Nat.le_trans h.size k.size, fun i hi hn => (k.block i (Nat.lt_of_lt_of_le hi h.size) hn).trans (h.block i hi hn)⟩
theorem grownBy_setCell (w : World) (a : Addr) (u : Value) : w.grownBy (w.setCell a u) (some a.block) :=
  ⟨rfl, rfl, rfl, by simp [World.setCell], fun k hk hn => Below.heap_setCell _ _ _ _ (fun e => hn (by rw [e]))⟩
theorem grownBy_of_below {w w' : World} {row : Option Nat} (h : Below w.heap.size w w') : w.grownBy w' row :=
  ⟨h.os, h.tape, h.output, h.size, fun k hk _ => h.block k hk⟩

/-- What the reader keeps while other blocks are written. -/
theorem Rd.kept {w w' : World} {R : Nat} {s} (h : Rd w R s) (hb : ∀ k, k ≤ R → w'.heap[k]? = w.heap[k]?) : Rd w' R s := by
  obtain ⟨v, h0, h1, h2, h3, h4⟩ := h
  have hR := hb R (Nat.le_refl _)
  exact ⟨v, (World.cell?_of_block (a := ⟨R, 0, none⟩) hR).trans h0, h1.same (fun k hk => hb k (by omega)), (World.cell?_of_block (a := ⟨R, 1, none⟩) hR).trans h2, (World.frozen?_of_block (a := ⟨R, 0, none⟩) hR).trans h3, (World.frozen?_of_block (a := ⟨R, 1, none⟩) hR).trans h4⟩

def takeF (n : Nat) (s : List UInt8 × Bool) : List UInt8 × (List UInt8 × Bool) :=
  if s.2 = true ∨ s.1.length < n then ([], (s.1, true)) else (s.1.take n, (s.1.drop n, false))

theorem add_none (b off n : Nat) : (⟨b, off, none⟩ : Addr).add n = ⟨b, off + n, none⟩ := by unfold Addr.add; split <;> simp_all

theorem bytes_take {R : Nat} {w : World} {a : Option Addr} {bs : List UInt8} (h : BytesAt R w a bs) (n : Nat) : BytesAt R w a (bs.take n) := by
  intro i hi
  obtain ⟨b, off, e, hlt, h0⟩ := h i (by simp at hi; omega)
  exact ⟨b, off, e, hlt, by simpa using h0⟩
theorem bytes_drop {R : Nat} {w : World} {a : Option Addr} {bs : List UInt8} (h : BytesAt R w a bs) (n : Nat) : BytesAt R w (a.map (fun x => x.add n)) (bs.drop n) := by
  intro i hi
  obtain ⟨b, off, e, hlt, h0⟩ := h (n + i) (by simp at hi; omega)
  exact ⟨b, off + n, by simp [e, add_none], hlt, by rw [Nat.add_assoc]; simpa using h0⟩

theorem Rd.setShort {w : World} {R : Nat} {rest : List UInt8} {sh : Bool} (h : Rd w R (rest, sh)) : Rd (w.setCell ⟨R, 1, none⟩ (.bool true)) R (rest, true) := by
  obtain ⟨v, h0, h1, h2, h3, h4⟩ := h
  refine ⟨v, ?_, h1.same (fun k hk => Below.heap_setCell _ _ _ _ (by simp; omega)), ?_, by simpa using h3, by simpa using h4⟩
  · rw [World.cell?_setCell_other _ _ _ _ (by simp)]; exact h0
  · exact World.cell?_setCell_same _ _ _ h2
theorem Rd.setRest {w : World} {R : Nat} {rest rest' : List UInt8} {sh : Bool} {v' : Value} (h : Rd w R (rest, sh)) (hv : SliceB R w v' rest') : Rd (w.setCell ⟨R, 0, none⟩ v') R (rest', sh) := by
  obtain ⟨v, h0, h1, h2, h3, h4⟩ := h
  refine ⟨v', ?_, hv.same (fun k hk => Below.heap_setCell _ _ _ _ (by simp; omega)), ?_, by simpa using h3, by simpa using h4⟩
  · exact World.cell?_setCell_same _ _ _ h0
  · rw [World.cell?_setCell_other _ _ _ _ (by simp)]; exact h2
theorem SliceB.set {R : Nat} {w : World} {v u : Value} {bs : List UInt8} {o : Nat} (h : SliceB R w v bs) : SliceB R (w.setCell ⟨R, o, none⟩ u) v bs :=
  h.same (fun k hk => Below.heap_setCell _ _ _ _ (by simp; omega))

set_option maxHeartbeats 400000 in
theorem take_any (R : Nat) (n : Nat) (s : List UInt8 × Bool) (w : World) (hR : Rd w R s) :
    Calls Try.prog 148 #[.pointer (some ⟨R, 0, none⟩), .int .i64 n] w fun e w' => ∃ v, e = .returned v ∧ SliceB R w' v (takeF n s).1 ∧ Rd w' R (takeF n s).2 ∧ w.grownBy w' (some R) := by
  obtain ⟨rest, short⟩ := s
  have hR' := hR
  obtain ⟨v, h0, ⟨a, cap, rfl, hc, hm, hn0, hb⟩, h1, f0, f1⟩ := hR'
  simp only at hc hb h0 h1
  have HN : Hid (a = none → cap = 0) := hn0
  clear hn0
  have hm' := hm
  unfold maxLen at hm
  cases short with
  | true =>
    have e1 : takeF n (rest, true) = ([], (rest, true)) := by simp [takeF]
    have E1 : Hid (takeF n (rest, true) = ([], (rest, true))) := e1
    clear e1
    go_enter Try.func148, Try.ntmps148
    go_wp2
    go_ret
    rw [E1.out]
    exact ⟨_, rfl, SliceB.nil R _, hR.setShort, grownBy_setCell _ _ _⟩
  | false =>
    by_cases hlt : rest.length < n
    · have e1 : takeF n (rest, false) = ([], (rest, true)) := by simp [takeF, hlt]
      have E1 : Hid (takeF n (rest, false) = ([], (rest, true))) := e1
      clear e1
      go_enter Try.func148, Try.ntmps148
      go_wp2
      go_ret
      rw [E1.out]
      exact ⟨_, rfl, SliceB.nil R _, hR.setShort, grownBy_setCell _ _ _⟩
    · have e1 : takeF n (rest, false) = (rest.take n, (rest.drop n, false)) := by simp [takeF, hlt]
      have E1 : Hid (takeF n (rest, false) = (rest.take n, (rest.drop n, false))) := e1
      clear e1
      go_enter Try.func148, Try.ntmps148
      go_wp2
      all_goals go_ret
      · have hcn : cap = n := by assumption
        have s1 : SliceB R w (.slice a n n) (rest.take n) := ⟨a, n, by simp; omega, by simp; omega, by unfold maxLen; omega, fun e => by have := HN.out e; omega, bytes_take hb n⟩
        have s2 : SliceB R w (.slice a (rest.length - n) 0) (rest.drop n) := ⟨a, 0, by simp, by simp; omega, by simp [maxLen], fun _ => rfl, fun i hi => by simp at hi; omega⟩
        rw [E1.out]
        exact ⟨_, rfl, s1.set, hR.setRest s2, grownBy_setCell _ _ _⟩
      · have s1 : SliceB R w (.slice a n cap) (rest.take n) := ⟨a, cap, by simp; omega, by simp; omega, hm', HN.out, bytes_take hb n⟩
        have s2 : SliceB R w (.slice (a.map (fun x => x.add n)) (rest.length - n) (cap - n)) (rest.drop n) := ⟨_, cap - n, by simp, by simp; omega, by unfold maxLen; omega, fun e => by have := HN.out (by simpa using e); omega, bytes_drop hb n⟩
        rw [E1.out]
        exact ⟨_, rfl, s1.set, hR.setRest s2, grownBy_setCell _ _ _⟩
end Go.Proofs.Ytkddkpdfeeikhaa.NT
