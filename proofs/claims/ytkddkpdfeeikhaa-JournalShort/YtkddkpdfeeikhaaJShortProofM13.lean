/-
  NLeaf; NWrong; FaceB: texts laid together.
-/
import Derived.Test.YtkddkpdfeeikhaaJShortProofM01
import Derived.Test.YtkddkpdfeeikhaaJShortProofM11
import Derived.Test.YtkddkpdfeeikhaaJShortProofM12
/-
  The leaves of package note: isKind, hasStray, inRange, Key and wrongProp answer what the functions below say, and turn nothing that was there.
-/
namespace Go.Proofs.Ytkddkpdfeeikhaa
open Go.RowKit
set_option linter.unusedVariables false
set_option linter.unusedSimpArgs false

def kindB (k : Int) : Bool := k == 1 || k == 2 || k == 3

set_option maxHeartbeats 400000 in
theorem isKind_any (k : Int) (w : World) :
    Calls Try.prog 134 #[.int .i64 k] w fun e w' => e = .returned (.bool (kindB k)) ∧ w' = w := by
  go_enter Try.func134, Try.ntmps134
  go_wp2
  all_goals (go_ret; exact ⟨by simp [kindB, *], rfl⟩)

def strayB (kind n : Int) (text : ByteArray) : Bool := if kind == 2 then n != 0 else !text.toList.isEmpty

set_option maxHeartbeats 400000 in
theorem hasStray_any (key : ByteArray) (kind n : Int) (text : ByteArray) (w : World) :
    Calls Try.prog 136 #[.agg #[.string key, .int .i64 kind, .int .i64 n, .string text]] w fun e w' => e = .returned (.bool (strayB kind n text)) ∧ Below w.heap.size w w' := by
  go_enter Try.func136, Try.ntmps136
  go_wp2
  all_goals (go_ret; exact ⟨ret_bool (by simp [strayB, *]), (Below.refl _ _).alloc (Nat.le_refl _) _⟩)

def rangeB (kind n : Int) : Bool := if kind == 1 then decide (-1073741824 ≤ n ∧ n ≤ 1073741824) else if kind == 3 then n == 0 || n == 1 else true

set_option maxHeartbeats 400000 in
theorem inRange_any (key : ByteArray) (kind n : Int) (text : ByteArray) (w : World) :
    Calls Try.prog 135 #[.agg #[.string key, .int .i64 kind, .int .i64 n, .string text]] w fun e w' => e = .returned (.bool (rangeB kind n)) ∧ Below w.heap.size w w' := by
  go_enter Try.func135, Try.ntmps135
  go_wp2
  all_goals go_ret
  all_goals refine ⟨ret_bool ?_, (Below.refl _ _).alloc (Nat.le_refl _) _⟩
  all_goals (simp [rangeB, *] <;> try omega)

def lowB (c : UInt8) : Bool := 97 ≤ c && c ≤ 122
def keyB (s : ByteArray) : Bool := 1 ≤ s.size && s.size ≤ 8 && s.data.toList.all lowB

theorem take_snoc (s : ByteArray) (k : Nat) (h : k < s.size) : s.data.toList.take (k + 1) = s.data.toList.take k ++ [s[k]] := by
  rw [List.take_succ_eq_append_getElem (by simpa using h)]; rfl
theorem low_iff (c : UInt8) : lowB c = true ↔ (97 : Int) ≤ c.toNat ∧ (c.toNat : Int) ≤ 122 := by
  simp [lowB, UInt8.le_iff_toNat_le]; omega

theorem all_step (s : ByteArray) (k : Nat) (h : k < s.size) (ha : (s.data.toList.take k).all lowB = true) (h1 : ¬ (s[k].toNat : Int) < 97) (h2 : ¬ (122 : Int) < s[k].toNat) : (s.data.toList.take (k+1)).all lowB = true := by
  rw [take_snoc s k h, List.all_append, ha]; simp [low_iff]; omega
theorem all_stop (s : ByteArray) (k : Nat) (h : k < s.size) (h1 : (s[k].toNat : Int) < 97 ∨ (122 : Int) < s[k].toNat) : s.data.toList.all lowB = false := by
  rw [Bool.eq_false_iff]
  intro hh
  rw [List.all_eq_true] at hh
  have := (low_iff _).1 (hh s[k] (by have : s[k] = s.data.toList[k]'(by simpa using h) := rfl
                                     rw [this]; exact List.getElem_mem _))
  omega

set_option maxHeartbeats 400000 in
theorem key_any (s : ByteArray) (w : World) (hs : s.size ≤ maxLen) :
    Calls Try.prog 114 #[.string s] w fun e w' => e = .returned (.bool (keyB s)) ∧ w' = w := by
  unfold maxLen at hs
  by_cases h1 : 1 ≤ s.size
  case neg =>
    go_enter Try.func114, Try.ntmps114
    go_wp2
    all_goals (go_ret; exact ⟨ret_bool (by simp [keyB]; omega), rfl⟩)
  by_cases h2 : s.size ≤ 8
  case neg =>
    go_enter Try.func114, Try.ntmps114
    go_wp2
    all_goals (go_ret; exact ⟨ret_bool (by simp [keyB]; omega), rfl⟩)
  go_enter Try.func114, Try.ntmps114
  go_wp2
  go_loop [14] (fun i => ∃ k : Nat, k ≤ s.size ∧ i = .int .i64 k ∧ (s.data.toList.take k).all lowB = true) (fun i => s.size - (intOf i).toNat)
  case atStart => exact ⟨0, Nat.zero_le _, rfl, rfl⟩
  case round =>
    obtain ⟨k, hk, rfl, ha⟩ := hrel
    have HA : Hid ((s.data.toList.take k).all lowB = true) := ha
    clear ha
    by_cases hlt : k < s.size
    · by_cases h3 : (s[k].toNat : Int) < 97
      · go_wp2
        go_ret
        exact ⟨ret_bool (by simp [keyB, all_stop s k hlt (Or.inl h3)]), rfl⟩
      · by_cases h4 : (122 : Int) < s[k].toNat
        · go_wp2
          go_ret
          exact ⟨ret_bool (by simp [keyB, all_stop s k hlt (Or.inr h4)]), rfl⟩
        · go_wp2
          go_round
          case rel => exact ⟨k + 1, by omega, by go_num, all_step s k hlt HA.out h3 h4⟩
          case measure => simp [intOf]; omega
    · go_wp2
      go_ret
      have e : k = s.size := by omega
      have HB := HA.out
      rw [e, List.take_of_length_le (by simp)] at HB
      exact ⟨ret_bool (by simp [keyB, h1, h2, HB]), rfl⟩

def wrongP (key : ByteArray) (kind n : Int) (text : ByteArray) : Int :=
  if !keyB key then 7 else if !kindB kind then 1 else if !rangeB kind n then 3 else if kind == 2 && 12 < text.size then 4 else if strayB kind n text then 2 else 0

set_option maxHeartbeats 1000000 in
theorem wrongProp_any (key : ByteArray) (kind n : Int) (text : ByteArray) (w : World) (hs : key.size ≤ maxLen) (ht : text.size ≤ maxLen) :
    Calls Try.prog 115 #[.agg #[.string key, .int .i64 kind, .int .i64 n, .string text]] w fun e w' => e = .returned (.int .i64 (wrongP key kind n text)) ∧ Below w.heap.size w w' := by
  have ht' := ht
  unfold maxLen at ht'
  cases hk : keyB key
  · go_enter Try.func115, Try.ntmps115
    go_wp2_with (go_at_call 114; refine (key_any key _ hs).mono ?_; rintro e w1 ⟨rfl, rfl⟩)
    go_ret
    exact ⟨ret_i64 (by simp [wrongP, hk]), (Below.refl _ _).alloc (Nat.le_refl _) _⟩
  cases hk2 : kindB kind
  · go_enter Try.func115, Try.ntmps115
    go_wp2_with (first
    | (go_at_call 114; refine (key_any key _ hs).mono ?_; rintro e w1 ⟨rfl, rfl⟩)
    | (go_at_call 134; refine (isKind_any _ _).mono ?_; rintro e w1 ⟨rfl, rfl⟩))
    go_ret
    exact ⟨ret_i64 (by simp [wrongP, hk, hk2]), (Below.refl _ _).alloc (Nat.le_refl _) _⟩
  cases hk3 : rangeB kind n
  · go_enter Try.func115, Try.ntmps115
    go_wp2_with (first
    | (go_at_call 114; refine (key_any key _ hs).mono ?_; rintro e w1 ⟨rfl, rfl⟩)
    | (go_at_call 134; refine (isKind_any _ _).mono ?_; rintro e w1 ⟨rfl, rfl⟩)
    | (go_at_call 135; refine (inRange_any _ _ _ _ _).mono ?_; rintro e w1 ⟨rfl, hb1⟩; obtain ⟨hc1, hf1⟩ := bcell hb1))
    go_ret
    exact ⟨ret_i64 (by simp [wrongP, hk, hk2, hk3]), ((Below.refl _ _).alloc (Nat.le_refl _) _).trans (hb1.mono (by simp))⟩
  by_cases h5 : kind = 2
  · subst h5
    by_cases h6 : 12 < text.size
    · go_enter Try.func115, Try.ntmps115
      go_wp2_with (first
      | (go_at_call 114; refine (key_any key _ hs).mono ?_; rintro e w1 ⟨rfl, rfl⟩)
      | (go_at_call 134; refine (isKind_any _ _).mono ?_; rintro e w1 ⟨rfl, rfl⟩)
      | (go_at_call 135; refine (inRange_any _ _ _ _ _).mono ?_; rintro e w1 ⟨rfl, hb1⟩; obtain ⟨hc1, hf1⟩ := bcell hb1; have hz1 := hb1.size)
      | (go_at_call 136; refine (hasStray_any _ _ _ _ _).mono ?_; rintro e w2 ⟨rfl, hb2⟩))
      go_ret
      exact ⟨ret_i64 (by simp [wrongP, hk, hk2, hk3, h6]), ((Below.refl _ _).alloc (Nat.le_refl _) _).trans (hb1.mono (by simp))⟩
    · cases h7 : strayB 2 n text
      all_goals
        go_enter Try.func115, Try.ntmps115
        go_wp2_with (first
        | (go_at_call 114; refine (key_any key _ hs).mono ?_; rintro e w1 ⟨rfl, rfl⟩)
        | (go_at_call 134; refine (isKind_any _ _).mono ?_; rintro e w1 ⟨rfl, rfl⟩)
        | (go_at_call 135; refine (inRange_any _ _ _ _ _).mono ?_; rintro e w1 ⟨rfl, hb1⟩; obtain ⟨hc1, hf1⟩ := bcell hb1; have hz1 := hb1.size)
        | (go_at_call 136; refine (hasStray_any _ _ _ _ _).mono ?_; rintro e w2 ⟨rfl, hb2⟩))
        go_ret
        exact ⟨ret_i64 (by simp [wrongP, hk, hk2, hk3, h6, h7]), (((Below.refl _ _).alloc (Nat.le_refl _) _).trans (hb1.mono (by simp))).trans (hb2.mono (by have := hb1.size; simp at this; omega))⟩
  · have h5' : (kind == 2) = false := by simpa using h5
    cases h7 : strayB kind n text
    all_goals
      go_enter Try.func115, Try.ntmps115
      go_wp2_with (first
      | (go_at_call 114; refine (key_any key _ hs).mono ?_; rintro e w1 ⟨rfl, rfl⟩)
      | (go_at_call 134; refine (isKind_any _ _).mono ?_; rintro e w1 ⟨rfl, rfl⟩)
      | (go_at_call 135; refine (inRange_any _ _ _ _ _).mono ?_; rintro e w1 ⟨rfl, hb1⟩; obtain ⟨hc1, hf1⟩ := bcell hb1; have hz1 := hb1.size)
      | (go_at_call 136; refine (hasStray_any _ _ _ _ _).mono ?_; rintro e w2 ⟨rfl, hb2⟩))
      go_ret
      exact ⟨ret_i64 (by simp [wrongP, hk, hk2, hk3, h5, h7]), (((Below.refl _ _).alloc (Nat.le_refl _) _).trans (hb1.mono (by simp))).trans (hb2.mono (by have := hb1.size; simp at this; omega))⟩
end Go.Proofs.Ytkddkpdfeeikhaa

/-
  note.Wrong answers what wrongN says of any note's properties and of its body's length.
-/
namespace Go.Proofs.Ytkddkpdfeeikhaa
open Go.RowKit
set_option linter.unusedVariables false
set_option linter.unusedSimpArgs false

def PD.wrong (p : PD) : Int := wrongP p.key p.kind p.n p.text
def PD.fitN (p : PD) : Prop := p.key.size ≤ maxLen ∧ p.text.size ≤ maxLen

def PropAt (w : World) (b off : Nat) (p : PD) : Prop :=
  w.cell? ⟨b, off, none⟩ = some (.string p.key) ∧ w.cell? ⟨b, off + 1, none⟩ = some (.int .i64 p.kind) ∧ w.cell? ⟨b, off + 2, none⟩ = some (.int .i64 p.n) ∧ w.cell? ⟨b, off + 3, none⟩ = some (.string p.text)

def PropsAt (B : Nat) (w : World) (a : Option Addr) (ps : List PD) : Prop :=
  ∀ i (h : i < ps.length), ∃ b off, a = some ⟨b, off, none⟩ ∧ b < B ∧ PropAt w b (off + i * 4) ps[i]

def BytesAt (B : Nat) (w : World) (a : Option Addr) (bs : List UInt8) : Prop :=
  ∀ i (h : i < bs.length), ∃ b off, a = some ⟨b, off, none⟩ ∧ b < B ∧ w.cell? ⟨b, off + i, none⟩ = some (.int .u8 bs[i].toNat)

theorem PropsAt.mono {B B' : Nat} {w : World} {a : Option Addr} {ps : List PD} (h : PropsAt B w a ps) (hb : B ≤ B') : PropsAt B' w a ps := by
  intro i hi
  obtain ⟨b, off, rfl, hlt, h0⟩ := h i hi
  exact ⟨b, off, rfl, by omega, h0⟩
theorem BytesAt.mono {B B' : Nat} {w : World} {a : Option Addr} {bs : List UInt8} (h : BytesAt B w a bs) (hb : B ≤ B') : BytesAt B' w a bs := by
  intro i hi
  obtain ⟨b, off, rfl, hlt, h0⟩ := h i hi
  exact ⟨b, off, rfl, by omega, h0⟩
theorem PropsAt.same {B : Nat} {w w' : World} {a : Option Addr} {ps : List PD} (h : PropsAt B w a ps) (hb : ∀ k, k < B → w'.heap[k]? = w.heap[k]?) : PropsAt B w' a ps := by
  intro i hi
  obtain ⟨b, off, rfl, hlt, h0, h1, h2, h3⟩ := h i hi
  have hc : ∀ o, w'.cell? ⟨b, o, none⟩ = w.cell? ⟨b, o, none⟩ := fun o => World.cell?_of_block (hb b hlt)
  exact ⟨b, off, rfl, hlt, (hc _).trans h0, (hc _).trans h1, (hc _).trans h2, (hc _).trans h3⟩
theorem BytesAt.same {B : Nat} {w w' : World} {a : Option Addr} {bs : List UInt8} (h : BytesAt B w a bs) (hb : ∀ k, k < B → w'.heap[k]? = w.heap[k]?) : BytesAt B w' a bs := by
  intro i hi
  obtain ⟨b, off, rfl, hlt, h0⟩ := h i hi
  exact ⟨b, off, rfl, hlt, (World.cell?_of_block (hb b hlt)).trans h0⟩
theorem PropsAt.below {B : Nat} {w w' : World} {a : Option Addr} {ps : List PD} (h : PropsAt B w a ps) (hb : Below B w w') : PropsAt B w' a ps := h.same hb.block
theorem BytesAt.below {B : Nat} {w w' : World} {a : Option Addr} {bs : List UInt8} (h : BytesAt B w a bs) (hb : Below B w w') : BytesAt B w' a bs := h.same hb.block

def wrongL : List PD → Int
  | [] => 0
  | p :: r => if p.wrong == 0 then wrongL r else p.wrong
def wrongN (ps : List PD) (body : Nat) : Int :=
  if 4 < ps.length then 5 else if wrongL ps == 0 then (if 40 < body then 4 else 0) else wrongL ps

theorem wrongL_step (ps : List PD) (k : Nat) (h : k < ps.length) (hw : ps[k].wrong = 0) : wrongL (ps.drop k) = wrongL (ps.drop (k + 1)) := by
  rw [List.drop_eq_getElem_cons h, wrongL]; simp [hw]
theorem wrongL_stop (ps : List PD) (k : Nat) (h : k < ps.length) (hw : ¬ ps[k].wrong = 0) : wrongL (ps.drop k) = ps[k].wrong := by
  rw [List.drop_eq_getElem_cons h, wrongL]; simp [hw]

set_option maxHeartbeats 1000000 in
theorem wrong_any (pa : Option Addr) (pc : Nat) (ps : List PD) (ba : Option Addr) (bl bc : Nat) (w : World) (hps : PropsAt w.heap.size w pa ps) (hfit : ∀ p ∈ ps, p.fitN) (hpl : ps.length ≤ maxLen) (hbl : bl ≤ maxLen) :
    Calls Try.prog 97 #[.agg #[.slice pa ps.length pc, .slice ba bl bc]] w fun e w' => e = .returned (.int .i64 (wrongN ps bl)) ∧ Below w.heap.size w w' := by
  unfold maxLen at hpl hbl
  by_cases h1 : 4 < ps.length
  · go_enter Try.func97, Try.ntmps97
    go_wp2
    go_ret
    exact ⟨ret_i64 (by simp [wrongN, h1]), (Below.refl _ _).alloc (Nat.le_refl _) _⟩
  go_enter Try.func97, Try.ntmps97
  go_wp2
  go_loopw [13] (fun i wr => ∃ k : Nat, k ≤ ps.length ∧ i = .int .i64 k ∧ Below (w.heap.size + 1) (w.alloc (.cells #[.slice pa ps.length pc, .slice ba bl bc] 28)) wr ∧ wrongL ps = wrongL (ps.drop k))
    (fun i _ => ps.length - (intOf i).toNat)
  case atStart => exact ⟨0, Nat.zero_le _, rfl, Below.refl _ _, rfl⟩
  case round =>
    obtain ⟨k, hk, rfl, hnx, hwl⟩ := hrel
    have HW : Hid (wrongL ps = wrongL (ps.drop k)) := hwl
    clear hwl
    have hsz : w.heap.size + 1 ≤ wr.heap.size := by have := hnx.size; simpa using this
    have hn1 : wr.cell? ⟨w.heap.size, 1, none⟩ = some (.slice ba bl bc) := by rw [hnx.cell (by simp)]; simp
    by_cases hlt : k < ps.length
    · obtain ⟨b, off, rfl, hblt, h0, h1', h2, h3⟩ := hps k hlt
      obtain ⟨p, hp⟩ : ∃ p, p = ps[k] := ⟨_, rfl⟩
      have hfp := hfit ps[k] (List.getElem_mem _)
      rw [← hp] at h0 h1' h2 h3 hfp
      have cc : ∀ o, wr.cell? ⟨b, o, none⟩ = w.cell? ⟨b, o, none⟩ := fun o => by
        rw [hnx.cell (by show b < _; omega)]; exact World.cell?_alloc_lt _ _ _ hblt
      have g0 : wr.cell? ⟨b, off + k * 4, none⟩ = _ := (cc _).trans h0
      have g1 : wr.cell? ⟨b, off + k * 4 + 1, none⟩ = _ := (cc _).trans h1'
      have g2 : wr.cell? ⟨b, off + k * 4 + 2, none⟩ = _ := (cc _).trans h2
      have g3 : wr.cell? ⟨b, off + k * 4 + 3, none⟩ = _ := (cc _).trans h3
      clear cc h0 h1' h2 h3
      have HP : Hid (p = ps[k]) := hp
      clear hp
      go_wp2_with (go_at_call 115; refine (wrongProp_any _ _ _ _ _ hfp.1 hfp.2).mono ?_; rintro e w1 ⟨rfl, hb1⟩)
      · go_ret
        have hne : ¬ p.wrong = 0 := by have h : (wrongP p.key p.kind p.n p.text != 0) = true := by assumption
                                       simpa [PD.wrong] using h
        refine ⟨ret_i64 ?_, ?_⟩
        · have e1 := HP.out
          subst e1
          have e2 := HW.out
          rw [wrongL_stop ps k hlt hne] at e2
          have hne' : ¬ ps[k].wrong = 0 := hne
          simp [wrongN, h1, e2, hne']
          rfl
        · exact ((Below.refl _ _).alloc (Nat.le_refl _) _).trans ((hnx.mono (by omega)).trans (((Below.refl _ _).alloc (by omega) _).trans (hb1.mono (by simp; omega))))
      · have he : p.wrong = 0 := by have h : (wrongP p.key p.kind p.n p.text != 0) = false := by assumption
                                    simpa [PD.wrong] using h
        go_roundw
        case rel =>
          refine ⟨k + 1, by omega, by go_num, hnx.trans (((Below.refl _ _).alloc hsz _).trans (hb1.mono (by simp; omega))), ?_⟩
          have e1 := HP.out
          subst e1
          rw [HW.out, wrongL_step ps k hlt he]
        case measure => simp [intOf]; omega
    · have e : k = ps.length := by omega
      have e2 := HW.out
      rw [e, List.drop_of_length_le (by simp), wrongL] at e2
      have HE : Hid (wrongL ps = 0) := e2
      clear e2
      go_wp2
      · go_ret
        have h40 : (40 : Int) < bl := by assumption
        exact ⟨ret_i64 (by simp [wrongN, h1, HE.out]; omega), ((Below.refl _ _).alloc (Nat.le_refl _) _).trans (hnx.mono (by omega))⟩
      · go_ret
        have h40 : (bl : Int) ≤ 40 := by assumption
        exact ⟨ret_i64 (by simp [wrongN, h1, HE.out]; omega), ((Below.refl _ _).alloc (Nat.le_refl _) _).trans (hnx.mono (by omega))⟩
end Go.Proofs.Ytkddkpdfeeikhaa

/-
  hall.Put and hall.Back.
-/
namespace Go.Proofs.Ytkddkpdfeeikhaa
open Go.RowKit
set_option linter.unusedVariables false
set_option linter.unusedSimpArgs false

attribute [local go_sem ↓] Go.wp_at_zero Go.wp_at_succ

end Go.Proofs.Ytkddkpdfeeikhaa
