/-
  note.Wrong answers what wrongN says of any note's properties and of its body's length.
-/
import Derived.Test.YtedhlbknbaggiaaGreatDoorLeaf
namespace Go.Proofs.YtedhlbknbaggiaaGreatDoor
open Go.RowKit
set_option linter.unusedVariables false
set_option linter.unusedSimpArgs false

structure PD where
  key : ByteArray
  kind : Int
  n : Int
  text : ByteArray

def PD.wrong (p : PD) : Int := wrongP p.key p.kind p.n p.text
def PD.fits (p : PD) : Prop := p.key.size ≤ maxLen ∧ p.text.size ≤ maxLen

def PropAt (w : World) (b off : Nat) (p : PD) : Prop :=
  w.cell? ⟨b, off, none⟩ = some (.string p.key) ∧ w.cell? ⟨b, off + 1, none⟩ = some (.int .i64 p.kind) ∧ w.cell? ⟨b, off + 2, none⟩ = some (.int .i64 p.n) ∧ w.cell? ⟨b, off + 3, none⟩ = some (.string p.text)

def PropsAt (B : Nat) (w : World) (a : Option Addr) (ps : List PD) : Prop :=
  ∀ i (h : i < ps.length), ∃ b off, a = some ⟨b, off, none⟩ ∧ b < B ∧ PropAt w b (off + i * 4) ps[i]

def BytesAt (B : Nat) (w : World) (a : Option Addr) (bs : List UInt8) : Prop :=
  ∀ i (h : i < bs.length), ∃ b off, a = some ⟨b, off, none⟩ ∧ b < B ∧ w.cell? ⟨b, off + i, none⟩ = some (.int .u8 bs[i].toNat)

theorem PropsAt.mono {B B' : Nat} {w : World} {a : Option Addr} {ps : List PD} (h : PropsAt B w a ps) (hb : B ≤ B') : PropsAt B' w a ps := by
  intro i hi
  obtain ⟨b, off, rfl, hlt, h0⟩ := h i hi
  exact ⟨b, off, rfl, by omega, h0⟩
theorem BytesAt.mono {B B' : Nat} {w : World} {a : Option Addr} {bs : List UInt8} (h : BytesAt B w a bs) (hb : B ≤ B') : BytesAt B' w a bs := by
  intro i hi
  obtain ⟨b, off, rfl, hlt, h0⟩ := h i hi
  exact ⟨b, off, rfl, by omega, h0⟩
theorem PropsAt.same {B : Nat} {w w' : World} {a : Option Addr} {ps : List PD} (h : PropsAt B w a ps) (hb : ∀ k, k < B → w'.heap[k]? = w.heap[k]?) : PropsAt B w' a ps := by
  intro i hi
  obtain ⟨b, off, rfl, hlt, h0, h1, h2, h3⟩ := h i hi
  have hc : ∀ o, w'.cell? ⟨b, o, none⟩ = w.cell? ⟨b, o, none⟩ := fun o => World.cell?_of_block (hb b hlt)
  exact ⟨b, off, rfl, hlt, (hc _).trans h0, (hc _).trans h1, (hc _).trans h2, (hc _).trans h3⟩
theorem BytesAt.same {B : Nat} {w w' : World} {a : Option Addr} {bs : List UInt8} (h : BytesAt B w a bs) (hb : ∀ k, k < B → w'.heap[k]? = w.heap[k]?) : BytesAt B w' a bs := by
  intro i hi
  obtain ⟨b, off, rfl, hlt, h0⟩ := h i hi
  exact ⟨b, off, rfl, hlt, (World.cell?_of_block (hb b hlt)).trans h0⟩
theorem PropsAt.below {B : Nat} {w w' : World} {a : Option Addr} {ps : List PD} (h : PropsAt B w a ps) (hb : Below B w w') : PropsAt B w' a ps := h.same hb.block
theorem BytesAt.below {B : Nat} {w w' : World} {a : Option Addr} {bs : List UInt8} (h : BytesAt B w a bs) (hb : Below B w w') : BytesAt B w' a bs := h.same hb.block

def wrongL : List PD → Int
  | [] => 0
  | p :: r => if p.wrong == 0 then wrongL r else p.wrong
def wrongN (ps : List PD) (body : Nat) : Int :=
  if 4 < ps.length then 5 else if wrongL ps == 0 then (if 40 < body then 4 else 0) else wrongL ps

theorem wrongL_step (ps : List PD) (k : Nat) (h : k < ps.length) (hw : ps[k].wrong = 0) : wrongL (ps.drop k) = wrongL (ps.drop (k + 1)) := by
  rw [List.drop_eq_getElem_cons h, wrongL]; simp [hw]
theorem wrongL_stop (ps : List PD) (k : Nat) (h : k < ps.length) (hw : ¬ ps[k].wrong = 0) : wrongL (ps.drop k) = ps[k].wrong := by
  rw [List.drop_eq_getElem_cons h, wrongL]; simp [hw]

set_option maxHeartbeats 1000000 in
theorem wrong_any (pa : Option Addr) (pc : Nat) (ps : List PD) (ba : Option Addr) (bl bc : Nat) (w : World) (hps : PropsAt w.heap.size w pa ps) (hfit : ∀ p ∈ ps, p.fits) (hpl : ps.length ≤ maxLen) (hbl : bl ≤ maxLen) :
    Calls Tryz.prog 93 #[.agg #[.slice pa ps.length pc, .slice ba bl bc]] w fun e w' => e = .returned (.int .i64 (wrongN ps bl)) ∧ Below w.heap.size w w' := by
  unfold maxLen at hpl hbl
  by_cases h1 : 4 < ps.length
  · go_enter Tryz.func93, Tryz.ntmps93
    go_wp2
    go_ret
    exact ⟨ret_i64 (by simp [wrongN, h1]), (Below.refl _ _).alloc (Nat.le_refl _) _⟩
  go_enter Tryz.func93, Tryz.ntmps93
  go_wp2
  go_loopw [13] (fun i wr => ∃ k : Nat, k ≤ ps.length ∧ i = .int .i64 k ∧ Below (w.heap.size + 1) (w.alloc (.cells #[.slice pa ps.length pc, .slice ba bl bc] 25)) wr ∧ wrongL ps = wrongL (ps.drop k))
    (fun i _ => ps.length - (intOf i).toNat)
  case atStart => exact ⟨0, Nat.zero_le _, rfl, Below.refl _ _, rfl⟩
  case round =>
    obtain ⟨k, hk, rfl, hnx, hwl⟩ := hrel
    have HW : Hid (wrongL ps = wrongL (ps.drop k)) := hwl
    clear hwl
    have hsz : w.heap.size + 1 ≤ wr.heap.size := by have := hnx.size; simpa using this
    have hn1 : wr.cell? ⟨w.heap.size, 1, none⟩ = some (.slice ba bl bc) := by rw [hnx.cell (by simp)]; simp
    by_cases hlt : k < ps.length
    · obtain ⟨b, off, rfl, hblt, h0, h1', h2, h3⟩ := hps k hlt
      obtain ⟨p, hp⟩ : ∃ p, p = ps[k] := ⟨_, rfl⟩
      have hfp := hfit ps[k] (List.getElem_mem _)
      rw [← hp] at h0 h1' h2 h3 hfp
      have cc : ∀ o, wr.cell? ⟨b, o, none⟩ = w.cell? ⟨b, o, none⟩ := fun o => by
        rw [hnx.cell (by show b < _; omega)]; exact World.cell?_alloc_lt _ _ _ hblt
      have g0 : wr.cell? ⟨b, off + k * 4, none⟩ = _ := (cc _).trans h0
      have g1 : wr.cell? ⟨b, off + k * 4 + 1, none⟩ = _ := (cc _).trans h1'
      have g2 : wr.cell? ⟨b, off + k * 4 + 2, none⟩ = _ := (cc _).trans h2
      have g3 : wr.cell? ⟨b, off + k * 4 + 3, none⟩ = _ := (cc _).trans h3
      clear cc h0 h1' h2 h3
      have HP : Hid (p = ps[k]) := hp
      clear hp
      go_wp2_with (go_at_call 122; refine (wrongProp_any _ _ _ _ _ hfp.1 hfp.2).mono ?_; rintro e w1 ⟨rfl, hb1⟩)
      · go_ret
        have hne : ¬ p.wrong = 0 := by have h : (wrongP p.key p.kind p.n p.text != 0) = true := by assumption
                                       simpa [PD.wrong] using h
        refine ⟨ret_i64 ?_, ?_⟩
        · have e1 := HP.out
          subst e1
          have e2 := HW.out
          rw [wrongL_stop ps k hlt hne] at e2
          have hne' : ¬ ps[k].wrong = 0 := hne
          simp [wrongN, h1, e2, hne']
          rfl
        · exact ((Below.refl _ _).alloc (Nat.le_refl _) _).trans ((hnx.mono (by omega)).trans (((Below.refl _ _).alloc (by omega) _).trans (hb1.mono (by simp; omega))))
      · have he : p.wrong = 0 := by have h : (wrongP p.key p.kind p.n p.text != 0) = false := by assumption
                                    simpa [PD.wrong] using h
        go_roundw
        case rel =>
          refine ⟨k + 1, by omega, by go_num, hnx.trans (((Below.refl _ _).alloc hsz _).trans (hb1.mono (by simp; omega))), ?_⟩
          have e1 := HP.out
          subst e1
          rw [HW.out, wrongL_step ps k hlt he]
        case measure => simp [intOf]; omega
    · have e : k = ps.length := by omega
      have e2 := HW.out
      rw [e, List.drop_of_length_le (by simp), wrongL] at e2
      have HE : Hid (wrongL ps = 0) := e2
      clear e2
      go_wp2
      · go_ret
        have h40 : (40 : Int) < bl := by assumption
        exact ⟨ret_i64 (by simp [wrongN, h1, HE.out]; omega), ((Below.refl _ _).alloc (Nat.le_refl _) _).trans (hnx.mono (by omega))⟩
      · go_ret
        have h40 : (bl : Int) ≤ 40 := by assumption
        exact ⟨ret_i64 (by simp [wrongN, h1, HE.out]; omega), ((Below.refl _ _).alloc (Nat.le_refl _) _).trans (hnx.mono (by omega))⟩
end Go.Proofs.YtedhlbknbaggiaaGreatDoor
