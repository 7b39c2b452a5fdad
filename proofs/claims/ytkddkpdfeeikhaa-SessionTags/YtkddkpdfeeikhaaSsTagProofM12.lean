/-
  NtWrong; NtTake; NtText; NtProp: texts laid together.
-/
import Derived.Test.YtkddkpdfeeikhaaSsTagProofM11
import Derived.Laws.BytesArg
import Derived.Lib.EndianBits
/-
  note.Wrong answers what wrongN says of any note's properties and of its body's length.
-/
namespace Go.Proofs.Ytkddkpdfeeikhaa.NT
open Go.RowKit
set_option linter.unusedVariables false
set_option linter.unusedSimpArgs false

structure PD where
  key : ByteArray
  kind : Int
  n : Int
  text : ByteArray

def PD.wrong (p : PD) : Int := wrongP p.key p.kind p.n p.text
def PD.fits (p : PD) : Prop := p.key.size ≤ maxLen ∧ p.text.size ≤ maxLen

def PropAt (w : World) (b off : Nat) (p : PD) : Prop :=
  w.cell? ⟨b, off, none⟩ = some (.string p.key) ∧ w.cell? ⟨b, off + 1, none⟩ = some (.int .i64 p.kind) ∧ w.cell? ⟨b, off + 2, none⟩ = some (.int .i64 p.n) ∧ w.cell? ⟨b, off + 3, none⟩ = some (.string p.text)

def PropsAt (B : Nat) (w : World) (a : Option Addr) (ps : List PD) : Prop :=
  ∀ i (h : i < ps.length), ∃ b off, a = some ⟨b, off, none⟩ ∧ b < B ∧ PropAt w b (off + i * 4) ps[i]

def BytesAt (B : Nat) (w : World) (a : Option Addr) (bs : List UInt8) : Prop :=
  ∀ i (h : i < bs.length), ∃ b off, a = some ⟨b, off, none⟩ ∧ b < B ∧ w.cell? ⟨b, off + i, none⟩ = some (.int .u8 bs[i].toNat)

theorem PropsAt.mono {B B' : Nat} {w : World} {a : Option Addr} {ps : List PD} (h : PropsAt B w a ps) (hb : B ≤ B') : PropsAt B' w a ps := by
  intro i hi
  obtain ⟨b, off, rfl, hlt, h0⟩ := h i hi
  exact ⟨b, off, rfl, by omega, h0⟩
theorem BytesAt.mono {B B' : Nat} {w : World} {a : Option Addr} {bs : List UInt8} (h : BytesAt B w a bs) (hb : B ≤ B') : BytesAt B' w a bs := by
  intro i hi
  obtain ⟨b, off, rfl, hlt, h0⟩ := h i hi
  exact ⟨b, off, rfl, by omega, h0⟩
theorem PropsAt.same {B : Nat} {w w' : World} {a : Option Addr} {ps : List PD} (h : PropsAt B w a ps) (hb : ∀ k, k < B → w'.heap[k]? = w.heap[k]?) : PropsAt B w' a ps := by
  intro i hi
  obtain ⟨b, off, rfl, hlt, h0, h1, h2, h3⟩ := h i hi
  have hc : ∀ o, w'.cell? ⟨b, o, none⟩ = w.cell? ⟨b, o, none⟩ := fun o => World.cell?_of_block (hb b hlt)
  exact ⟨b, off, rfl, hlt, (hc _).trans h0, (hc _).trans h1, (hc _).trans h2, (hc _).trans h3⟩
theorem BytesAt.same {B : Nat} {w w' : World} {a : Option Addr} {bs : List UInt8} (h : BytesAt B w a bs) (hb : ∀ k, k < B → w'.heap[k]? = w.heap[k]?) : BytesAt B w' a bs := by
  intro i hi
  obtain ⟨b, off, rfl, hlt, h0⟩ := h i hi
  exact ⟨b, off, rfl, hlt, (World.cell?_of_block (hb b hlt)).trans h0⟩
theorem PropsAt.below {B : Nat} {w w' : World} {a : Option Addr} {ps : List PD} (h : PropsAt B w a ps) (hb : Below B w w') : PropsAt B w' a ps := h.same hb.block
theorem BytesAt.below {B : Nat} {w w' : World} {a : Option Addr} {bs : List UInt8} (h : BytesAt B w a bs) (hb : Below B w w') : BytesAt B w' a bs := h.same hb.block

def wrongL : List PD → Int
  | [] => 0
  | p :: r => if p.wrong == 0 then wrongL r else p.wrong
def wrongN (ps : List PD) (body : Nat) : Int :=
  if 4 < ps.length then 5 else if wrongL ps == 0 then (if 40 < body then 4 else 0) else wrongL ps

theorem wrongL_step (ps : List PD) (k : Nat) (h : k < ps.length) (hw : ps[k].wrong = 0) : wrongL (ps.drop k) = wrongL (ps.drop (k + 1)) := by
  rw [List.drop_eq_getElem_cons h, wrongL]; simp [hw]
theorem wrongL_stop (ps : List PD) (k : Nat) (h : k < ps.length) (hw : ¬ ps[k].wrong = 0) : wrongL (ps.drop k) = ps[k].wrong := by
  rw [List.drop_eq_getElem_cons h, wrongL]; simp [hw]

set_option maxHeartbeats 1000000 in
theorem wrong_any (pa : Option Addr) (pc : Nat) (ps : List PD) (ba : Option Addr) (bl bc : Nat) (w : World) (hps : PropsAt w.heap.size w pa ps) (hfit : ∀ p ∈ ps, p.fits) (hpl : ps.length ≤ maxLen) (hbl : bl ≤ maxLen) :
    Calls Try.prog 97 #[.agg #[.slice pa ps.length pc, .slice ba bl bc]] w fun e w' => e = .returned (.int .i64 (wrongN ps bl)) ∧ Below w.heap.size w w' := by
  unfold maxLen at hpl hbl
  by_cases h1 : 4 < ps.length
  · go_enter Try.func97, Try.ntmps97
    go_wp2
    go_ret
    exact ⟨ret_i64 (by simp [wrongN, h1]), (Below.refl _ _).alloc (Nat.le_refl _) _⟩
  go_enter Try.func97, Try.ntmps97
  go_wp2
  go_loopw [13] (fun i wr => ∃ k : Nat, k ≤ ps.length ∧ i = .int .i64 k ∧ Below (w.heap.size + 1) (w.alloc (.cells #[.slice pa ps.length pc, .slice ba bl bc] 28)) wr ∧ wrongL ps = wrongL (ps.drop k))
    (fun i _ => ps.length - (intOf i).toNat)
  case atStart => exact ⟨0, Nat.zero_le _, rfl, Below.refl _ _, rfl⟩
  case round =>
    obtain ⟨k, hk, rfl, hnx, hwl⟩ := hrel
    have HW : Hid (wrongL ps = wrongL (ps.drop k)) := hwl
    clear hwl
    have hsz : w.heap.size + 1 ≤ wr.heap.size := by have := hnx.size; simpa using this
    have hn1 : wr.cell? ⟨w.heap.size, 1, none⟩ = some (.slice ba bl bc) := by rw [hnx.cell (by simp)]; simp
    by_cases hlt : k < ps.length
    · obtain ⟨b, off, rfl, hblt, h0, h1', h2, h3⟩ := hps k hlt
      obtain ⟨p, hp⟩ : ∃ p, p = ps[k] := ⟨_, rfl⟩
      have hfp := hfit ps[k] (List.getElem_mem _)
      rw [← hp] at h0 h1' h2 h3 hfp
      have cc : ∀ o, wr.cell? ⟨b, o, none⟩ = w.cell? ⟨b, o, none⟩ := fun o => by
        rw [hnx.cell (by show b < _; omega)]; exact World.cell?_alloc_lt _ _ _ hblt
      have g0 : wr.cell? ⟨b, off + k * 4, none⟩ = _ := (cc _).trans h0
      have g1 : wr.cell? ⟨b, off + k * 4 + 1, none⟩ = _ := (cc _).trans h1'
      have g2 : wr.cell? ⟨b, off + k * 4 + 2, none⟩ = _ := (cc _).trans h2
      have g3 : wr.cell? ⟨b, off + k * 4 + 3, none⟩ = _ := (cc _).trans h3
      clear cc h0 h1' h2 h3
      have HP : Hid (p = ps[k]) := hp
      clear hp
      go_wp2_with (go_at_call 115; refine (wrongProp_any _ _ _ _ _ hfp.1 hfp.2).mono ?_; rintro e w1 ⟨rfl, hb1⟩)
      · go_ret
        have hne : ¬ p.wrong = 0 := by have h : (wrongP p.key p.kind p.n p.text != 0) = true := by assumption
                                       simpa [PD.wrong] using h
        refine ⟨ret_i64 ?_, ?_⟩
        · have e1 := HP.out
          subst e1
          have e2 := HW.out
          rw [wrongL_stop ps k hlt hne] at e2
          have hne' : ¬ ps[k].wrong = 0 := hne
          simp [wrongN, h1, e2, hne']
          rfl
        · exact ((Below.refl _ _).alloc (Nat.le_refl _) _).trans ((hnx.mono (by omega)).trans (((Below.refl _ _).alloc (by omega) _).trans (hb1.mono (by simp; omega))))
      · have he : p.wrong = 0 := by have h : (wrongP p.key p.kind p.n p.text != 0) = false := by assumption
                                    simpa [PD.wrong] using h
        go_roundw
        case rel =>
          refine ⟨k + 1, by omega, by go_num, hnx.trans (((Below.refl _ _).alloc hsz _).trans (hb1.mono (by simp; omega))), ?_⟩
          have e1 := HP.out
          subst e1
          rw [HW.out, wrongL_step ps k hlt he]
        case measure => simp [intOf]; omega
    · have e : k = ps.length := by omega
      have e2 := HW.out
      rw [e, List.drop_of_length_le (by simp), wrongL] at e2
      have HE : Hid (wrongL ps = 0) := e2
      clear e2
      go_wp2
      · go_ret
        have h40 : (40 : Int) < bl := by assumption
        exact ⟨ret_i64 (by simp [wrongN, h1, HE.out]; omega), ((Below.refl _ _).alloc (Nat.le_refl _) _).trans (hnx.mono (by omega))⟩
      · go_ret
        have h40 : (bl : Int) ≤ 40 := by assumption
        exact ⟨ret_i64 (by simp [wrongN, h1, HE.out]; omega), ((Below.refl _ _).alloc (Nat.le_refl _) _).trans (hnx.mono (by omega))⟩
end Go.Proofs.Ytkddkpdfeeikhaa.NT

/-
  (*reader).take gives the bytes that are asked for, or marks the reader short.
-/
namespace Go.Proofs.Ytkddkpdfeeikhaa.NT
open Go.RowKit
set_option linter.unusedVariables false
set_option linter.unusedSimpArgs false

/-- A slice of bytes that reads as bs, out of blocks below B. -/
def SliceB (B : Nat) (w : World) (v : Value) (bs : List UInt8) : Prop :=
  ∃ a cap, v = .slice a bs.length cap ∧ bs.length ≤ cap ∧ cap ≤ maxLen ∧ (a = none → cap = 0) ∧ BytesAt B w a bs

theorem SliceB.same {B : Nat} {w w' : World} {v : Value} {bs : List UInt8} (h : SliceB B w v bs) (hb : ∀ k, k < B → w'.heap[k]? = w.heap[k]?) : SliceB B w' v bs := by
  obtain ⟨a, cap, rfl, h1, h2, hn, h3⟩ := h
  exact ⟨a, cap, rfl, h1, h2, hn, h3.same hb⟩
theorem SliceB.mono {B B' : Nat} {w : World} {v : Value} {bs : List UInt8} (h : SliceB B w v bs) (hb : B ≤ B') : SliceB B' w v bs := by
  obtain ⟨a, cap, rfl, h1, h2, hn, h3⟩ := h
  exact ⟨a, cap, rfl, h1, h2, hn, h3.mono hb⟩
theorem SliceB.nil (B : Nat) (w : World) : SliceB B w (.slice none 0 0) [] := ⟨none, 0, rfl, Nat.le_refl _, by simp [maxLen], fun _ => rfl, fun i h => by simp at h⟩

/-- The reader in block R: what is left, and whether it was too short. -/
def Rd (w : World) (R : Nat) (s : List UInt8 × Bool) : Prop :=
  ∃ v, w.cell? ⟨R, 0, none⟩ = some v ∧ SliceB R w v s.1 ∧ w.cell? ⟨R, 1, none⟩ = some (.bool s.2) ∧ w.frozen? ⟨R, 0, none⟩ = false ∧ w.frozen? ⟨R, 1, none⟩ = false

theorem Rd.lt {w : World} {R : Nat} {s} (h : Rd w R s) : R < w.heap.size := by
  obtain ⟨v, h0, _⟩ := h
  exact World.block_lt_of_cell? w _ h0

theorem grownBy_refl (w : World) (row : Option Nat) : w.grownBy w row := ⟨rfl, rfl, rfl, Nat.le_refl _, fun _ _ _ => rfl⟩
theorem grownBy_trans {a b c : World} {row : Option Nat} (h : a.grownBy b row) (k : b.grownBy c row) : a.grownBy c row :=
  ⟨k.os.trans h.os, k.tape.trans h.tape, k.output.trans h.output, Nat.le_trans h.size k.size, fun i hi hn => (k.block i (Nat.lt_of_lt_of_le hi h.size) hn).trans (h.block i hi hn)⟩
theorem grownBy_of_below {w w' : World} {row : Option Nat} (h : Below w.heap.size w w') : w.grownBy w' row :=
  ⟨h.os, h.tape, h.output, h.size, fun k hk _ => h.block k hk⟩

/-- What the reader keeps while other blocks are written. -/
theorem Rd.kept {w w' : World} {R : Nat} {s} (h : Rd w R s) (hb : ∀ k, k ≤ R → w'.heap[k]? = w.heap[k]?) : Rd w' R s := by
  obtain ⟨v, h0, h1, h2, h3, h4⟩ := h
  have hR := hb R (Nat.le_refl _)
  exact ⟨v, (World.cell?_of_block (a := ⟨R, 0, none⟩) hR).trans h0, h1.same (fun k hk => hb k (by omega)), (World.cell?_of_block (a := ⟨R, 1, none⟩) hR).trans h2, (World.frozen?_of_block (a := ⟨R, 0, none⟩) hR).trans h3, (World.frozen?_of_block (a := ⟨R, 1, none⟩) hR).trans h4⟩

def takeF (n : Nat) (s : List UInt8 × Bool) : List UInt8 × (List UInt8 × Bool) :=
  if s.2 = true ∨ s.1.length < n then ([], (s.1, true)) else (s.1.take n, (s.1.drop n, false))

theorem add_none (b off n : Nat) : (⟨b, off, none⟩ : Addr).add n = ⟨b, off + n, none⟩ := by unfold Addr.add; split <;> simp_all

theorem bytes_drop {R : Nat} {w : World} {a : Option Addr} {bs : List UInt8} (h : BytesAt R w a bs) (n : Nat) : BytesAt R w (a.map (fun x => x.add n)) (bs.drop n) := by
  intro i hi
  obtain ⟨b, off, e, hlt, h0⟩ := h (n + i) (by simp at hi; omega)
  exact ⟨b, off + n, by simp [e, add_none], hlt, by rw [Nat.add_assoc]; simpa using h0⟩

theorem SliceB.set {R : Nat} {w : World} {v u : Value} {bs : List UInt8} {o : Nat} (h : SliceB R w v bs) : SliceB R (w.setCell ⟨R, o, none⟩ u) v bs :=
  h.same (fun k hk => Below.heap_setCell _ _ _ _ (by simp; omega))

end Go.Proofs.Ytkddkpdfeeikhaa.NT

/-
  (*reader).size and (*reader).text read what sizeF and textF say.
-/
namespace Go.Proofs.Ytkddkpdfeeikhaa.NT
open Go.RowKit
set_option linter.unusedVariables false
set_option linter.unusedSimpArgs false

def bstr (bs : List UInt8) : ByteArray := ⟨bs.toArray⟩
def sizeF (s : List UInt8 × Bool) : Nat × (List UInt8 × Bool) :=
  if (takeF 1 s).2.2 then (0, (takeF 1 s).2) else (((takeF 1 s).1.headD 0).toNat, (takeF 1 s).2)

theorem SliceB.one {B : Nat} {w : World} {v : Value} {c : UInt8} (h : SliceB B w v [c]) : ∃ b off cap, v = .slice (some ⟨b, off, none⟩) 1 cap ∧ w.cell? ⟨b, off, none⟩ = some (.int .u8 c.toNat) := by
  obtain ⟨a, cap, rfl, h1, h2, _, h3⟩ := h
  obtain ⟨b, off, rfl, hlt, h4⟩ := h3 0 (by simp)
  exact ⟨b, off, cap, rfl, h4⟩

theorem u8_bounds (c : UInt8) : (0 : Int) ≤ c.toNat ∧ (c.toNat : Int) ≤ 255 := by
  have := c.toNat_lt; omega

def textF (s : List UInt8 × Bool) : ByteArray × (List UInt8 × Bool) :=
  (bstr (takeF (sizeF s).1 (sizeF s).2).1, (takeF (sizeF s).1 (sizeF s).2).2)

end Go.Proofs.Ytkddkpdfeeikhaa.NT

/-
  (*reader).number and (*reader).prop read what numberF and propF say.
-/
namespace Go.Proofs.Ytkddkpdfeeikhaa.NT
open Go.RowKit
set_option linter.unusedVariables false
set_option linter.unusedSimpArgs false

def valB (l : List UInt8) : Nat := l.foldl (fun u c => u * 256 + c.toNat) 0

def int32 (u : Int) : Int := if u < 2147483648 then u else u - 4294967296

def numberF (s : List UInt8 × Bool) : Int × (List UInt8 × Bool) :=
  (int32 (valB (takeF 4 s).1), (takeF 4 s).2)

def PD.val (p : PD) : Value := .agg #[.string p.key, .int .i64 p.kind, .int .i64 p.n, .string p.text]

def propF (s : List UInt8 × Bool) : PD × (List UInt8 × Bool) :=
  if (sizeF (textF s).2).1 = 2 then
    (⟨(textF s).1, 2, 0, (textF (sizeF (textF s).2).2).1⟩, (textF (sizeF (textF s).2).2).2)
  else (⟨(textF s).1, (sizeF (textF s).2).1, (numberF (sizeF (textF s).2).2).1, ByteArray.empty⟩, (numberF (sizeF (textF s).2).2).2)

theorem eqb {a b : Int} (h : (a == b) = true) : a = b := by simpa using h
theorem Rd.alloc {w : World} {R : Nat} {s} (h : Rd w R s) (o : Obj) : Rd (w.alloc o) R s :=
  h.kept (fun k hk => Below.heap_alloc _ _ _ (by have := h.lt; omega))
theorem Rd.set {w : World} {R : Nat} {s} (h : Rd w R s) {a : Addr} (ha : R < a.block) (u : Value) : Rd (w.setCell a u) R s :=
  h.kept (fun k hk => Below.heap_setCell _ _ _ _ (by omega))

end Go.Proofs.Ytkddkpdfeeikhaa.NT
