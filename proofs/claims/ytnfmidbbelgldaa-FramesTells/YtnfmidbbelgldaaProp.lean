/-
  (*reader).number and (*reader).prop read what numberF and propF say.
-/
import Derived.Test.YtnfmidbbelgldaaText
import Derived.Lib.EndianBits
namespace Go.Proofs.Ytnfmidbbelgldaa
open Go.RowKit
set_option linter.unusedVariables false
set_option linter.unusedSimpArgs false

def valB (l : List UInt8) : Nat := l.foldl (fun u c => u * 256 + c.toNat) 0

def int32 (u : Int) : Int := if u < 2147483648 then u else u - 4294967296

def numberF (s : List UInt8 × Bool) : Int × (List UInt8 × Bool) :=
  (int32 (valB (takeF 4 s).1), (takeF 4 s).2)

theorem valB_snoc (l : List UInt8) (c : UInt8) : valB (l ++ [c]) = valB l * 256 + c.toNat := by simp [valB]
theorem valB_take (bs : List UInt8) (k : Nat) (h : k < bs.length) : valB (bs.take (k + 1)) = valB (bs.take k) * 256 + bs[k].toNat := by
  rw [List.take_succ_eq_append_getElem h, valB_snoc]
theorem valB_lt (l : List UInt8) : valB l < 256 ^ l.length := by
  suffices h : ∀ u : Nat, l.foldl (fun u c => u * 256 + c.toNat) u < (u + 1) * 256 ^ l.length by simpa [valB] using h 0
  induction l with
  | nil => intro u; simp
  | cons c r ih =>
    intro u
    simp only [List.foldl_cons, List.length_cons]
    refine Nat.lt_of_lt_of_le (ih _) ?_
    have := c.toNat_lt
    rw [Nat.pow_succ, Nat.mul_comm (256 ^ r.length), ← Nat.mul_assoc]
    exact Nat.mul_le_mul_right _ (by omega)
theorem valB_lt3 (l : List UInt8) (h : l.length ≤ 3) : (valB l : Int) ≤ 16777215 := by
  have h1 := valB_lt l
  have h2 : 256 ^ l.length ≤ 256 ^ 3 := Nat.pow_le_pow_right (by decide) h
  omega
theorem valB_lt4 (l : List UInt8) (h : l.length ≤ 4) : (valB l : Int) ≤ 4294967295 := by
  have h1 := valB_lt l
  have h2 : 256 ^ l.length ≤ 256 ^ 4 := Nat.pow_le_pow_right (by decide) h
  omega
theorem or_step (v : Nat) (c : UInt8) (hv : (v : Int) ≤ 16777215) : bits BinOp.or IntKind.u32 ((v : Int) * 256) ((c.toNat : Int) % 4294967296) = ((v * 256 + c.toNat : Nat) : Int) := by
  have := c.toNat_lt
  rw [bits_join .u32 32 (by decide) wraps_u32 8 _ _ (by omega) (by omega) (by omega) (by omega) (by omega) (by omega)]
  omega

theorem wrap_int32 (v : Nat) (h : (v : Int) ≤ 4294967295) : wrap64 (wrap32 v) = int32 v := by
  unfold wrap64 wrap32 int32
  split <;> omega

set_option maxHeartbeats 400000 in
theorem number_any (R : Nat) (s : List UInt8 × Bool) (w : World) (hR : Rd w R s) :
    Calls Try.prog 65 #[.pointer (some ⟨R, 0, none⟩)] w fun e w' => e = .returned (.int .i64 (numberF s).1) ∧ Rd w' R (numberF s).2 ∧ w.grownBy w' (some R) := by
  have hF : Hid (numberF s = (int32 (valB (takeF 4 s).1), (takeF 4 s).2)) := rfl
  go_enter Try.func65, Try.ntmps65
  go_wp2_with (go_at_call 62; refine (take_any R 4 s _ hR).mono ?_; rintro e w1 ⟨v, rfl, hv, hr, hg⟩; obtain ⟨a, cap, rfl, i1, i2, _, i3⟩ := id hv)
  obtain ⟨bs, hbs⟩ : ∃ bs, bs = (takeF 4 s).1 := ⟨_, rfl⟩
  rw [← hbs] at hv i1 i3 ⊢
  have hl : bs.length ≤ 4 := by rw [hbs]; unfold takeF; split <;> simp; omega
  have HB : Hid (bs = (takeF 4 s).1) := hbs
  clear hbs
  go_loop [3, 9] (fun u i => ∃ k : Nat, k ≤ bs.length ∧ i = .int .i64 k ∧ u = .int .u32 (valB (bs.take k))) (fun _ i => bs.length - (intOf i).toNat)
  case atStart => exact ⟨0, Nat.zero_le _, rfl, rfl⟩
  case round =>
    obtain ⟨k, hk, rfl, rfl⟩ := hrel
    by_cases hlt : k < bs.length
    · obtain ⟨b, off, rfl, hb, hcell⟩ := i3 k hlt
      obtain ⟨c, hc⟩ : ∃ c, c = bs[k] := ⟨_, rfl⟩
      rw [← hc] at hcell
      obtain ⟨c0, c1⟩ := u8_bounds c
      have hvb : (valB (bs.take k) : Int) ≤ 16777215 := valB_lt3 _ (by simp; omega)
      go_wp2
      go_round
      case rel => exact ⟨k + 1, by omega, by go_num, by rw [valB_take bs k hlt, or_step _ _ hvb]⟩
      case measure => simp [intOf]; omega
    · have e : k = bs.length := by omega
      have hW : Hid (wrap64 (wrap32 (valB bs)) = (numberF s).1) := by
        show wrap64 (wrap32 (valB bs)) = (numberF s).1
        rw [wrap_int32 (valB bs) (valB_lt4 bs hl), hF.out, ← HB.out]
      go_wp2
      go_ret
      exact ⟨ret_i64 hW.out, by rw [hF.out]; exact hr, hg⟩

def PD.val (p : PD) : Value := .agg #[.string p.key, .int .i64 p.kind, .int .i64 p.n, .string p.text]

def propF (s : List UInt8 × Bool) : PD × (List UInt8 × Bool) :=
  if (sizeF (textF s).2).1 = 2 then
    (⟨(textF s).1, 2, 0, (textF (sizeF (textF s).2).2).1⟩, (textF (sizeF (textF s).2).2).2)
  else (⟨(textF s).1, (sizeF (textF s).2).1, (numberF (sizeF (textF s).2).2).1, ByteArray.empty⟩, (numberF (sizeF (textF s).2).2).2)

theorem eqb {a b : Int} (h : (a == b) = true) : a = b := by simpa using h
theorem neb {a b : Int} (h : (a == b) = false) : ¬ a = b := by simpa using h
theorem gat {W w1 : World} {R : Nat} (hb : W.grownBy w1 (some R)) (b : Nat) (h : b < W.heap.size) (hn : b ≠ R) : (∀ o, w1.cell? ⟨b, o, none⟩ = W.cell? ⟨b, o, none⟩) ∧ (∀ o, w1.frozen? ⟨b, o, none⟩ = W.frozen? ⟨b, o, none⟩) :=
  ⟨fun o => World.cell?_of_block (a := ⟨b, o, none⟩) (hb.block b h (by simpa using hn)), fun o => World.frozen?_of_block (a := ⟨b, o, none⟩) (hb.block b h (by simpa using hn))⟩

theorem grownBy_set {w w' : World} {row : Option Nat} (h : w.grownBy w' row) {a : Addr} (ha : w.heap.size ≤ a.block) (u : Value) : w.grownBy (w'.setCell a u) row :=
  ⟨h.os, h.tape, h.output, by simpa [World.setCell] using h.size, fun k hk hn => (Below.heap_setCell _ _ _ _ (by omega)).trans (h.block k hk hn)⟩
theorem grownBy_alloc' {w w' : World} {row : Option Nat} (h : w.grownBy w' row) (o : Obj) : w.grownBy (w'.alloc o) row :=
  grownBy_trans h (World.grownBy_alloc _ _ _)

theorem Rd.alloc {w : World} {R : Nat} {s} (h : Rd w R s) (o : Obj) : Rd (w.alloc o) R s :=
  h.kept (fun k hk => Below.heap_alloc _ _ _ (by have := h.lt; omega))
theorem Rd.set {w : World} {R : Nat} {s} (h : Rd w R s) {a : Addr} (ha : R < a.block) (u : Value) : Rd (w.setCell a u) R s :=
  h.kept (fun k hk => Below.heap_setCell _ _ _ _ (by omega))

set_option maxHeartbeats 400000 in
theorem prop_any (R : Nat) (s : List UInt8 × Bool) (w : World) (hR : Rd w R s) :
    Calls Try.prog 63 #[.pointer (some ⟨R, 0, none⟩)] w fun e w' => e = .returned (propF s).1.val ∧ Rd w' R (propF s).2 ∧ w.grownBy w' (some R) := by
  have hlt := hR.lt
  go_enter Try.func63, Try.ntmps63
  go_wp2_with (first
    | (go_at_call 64; refine (text_any R s _ (hR.alloc _)).mono ?_; rintro e w1 ⟨rfl, hr, hg⟩; have hz1 : w.heap.size < w1.heap.size := (by have := hg.size; simp at this; omega); have hlt1 : R < w1.heap.size := (by omega); obtain ⟨p1, p2⟩ := gat hg w.heap.size (by simp) (by omega))
    | (go_at_call 60; refine (size_any R (textF s).2 _ (hr.alloc _)).mono ?_; rintro e w2 ⟨rfl, hr2, hg2⟩; have hz2 : w1.heap.size < w2.heap.size := (by have := hg2.size; simp at this; omega); obtain ⟨q1, q2⟩ := gat hg2 w.heap.size (by simp; omega) (by omega); obtain ⟨q3, q4⟩ := gat hg2 w1.heap.size (by simp) (by omega)))
  · have h2 := eqb (by assumption : (((sizeF (textF s).2).1 : Int) == 2) = true)
    have hP : Hid (propF s = (⟨(textF s).1, 2, 0, (textF (sizeF (textF s).2).2).1⟩, (textF (sizeF (textF s).2).2).2)) := by
      show propF s = _
      rw [propF, if_pos (by omega)]
    go_wp2_with (go_at_call 64; refine (text_any R (sizeF (textF s).2).2 _ (hr2.set (by simp; omega) _)).mono ?_; rintro e w3 ⟨rfl, hr3, hg3⟩; have hz3 : w2.heap.size ≤ w3.heap.size := (by have := hg3.size; simp at this; omega); obtain ⟨t1, t2⟩ := gat hg3 w.heap.size (by simp; omega) (by omega); obtain ⟨t3, t4⟩ := gat hg3 w1.heap.size (by simp; omega) (by omega))
    refine bodyPost_ret (v := (propF s).1.val) ?_ rfl ⟨rfl, ?_, ?_⟩
    · rw [hP.out]; simp [results, Try.results63, go_sem, PD.val, *]
    · rw [hP.out]; exact ((((hr3.set (by simp; omega) _).set (by simp; omega) _).set (by simp; omega) _).set (by simp; omega) _).set (by simp; omega) _
    · have g1 := grownBy_trans (World.grownBy_alloc w _ (some R)) hg
      have g2 := grownBy_trans (grownBy_alloc' g1 _) hg2
      have g3 := grownBy_trans (grownBy_set g2 (by simp; omega) _) hg3
      exact grownBy_set (grownBy_set (grownBy_set (grownBy_set (grownBy_set g3 (by simp; omega) _) (by simp) _) (by simp) _) (by simp) _) (by simp) _
  · have h2 := neb (by assumption : (((sizeF (textF s).2).1 : Int) == 2) = false)
    have hP : Hid (propF s = (⟨(textF s).1, (sizeF (textF s).2).1, (numberF (sizeF (textF s).2).2).1, ByteArray.empty⟩, (numberF (sizeF (textF s).2).2).2)) := by
      show propF s = _
      rw [propF, if_neg (by omega)]
    go_wp2_with (go_at_call 65; refine (number_any R (sizeF (textF s).2).2 _ (hr2.set (by simp; omega) _)).mono ?_; rintro e w3 ⟨rfl, hr3, hg3⟩; have hz3 : w2.heap.size ≤ w3.heap.size := (by have := hg3.size; simp at this; omega); obtain ⟨t1, t2⟩ := gat hg3 w.heap.size (by simp; omega) (by omega); obtain ⟨t3, t4⟩ := gat hg3 w1.heap.size (by simp; omega) (by omega))
    refine bodyPost_ret (v := (propF s).1.val) ?_ rfl ⟨rfl, ?_, ?_⟩
    · rw [hP.out]; simp [results, Try.results63, go_sem, PD.val, *]; rfl
    · rw [hP.out]; exact ((((hr3.set (by simp; omega) _).set (by simp; omega) _).set (by simp; omega) _).set (by simp; omega) _).set (by simp; omega) _
    · have g1 := grownBy_trans (World.grownBy_alloc w _ (some R)) hg
      have g2 := grownBy_trans (grownBy_alloc' g1 _) hg2
      have g3 := grownBy_trans (grownBy_set g2 (by simp; omega) _) hg3
      exact grownBy_set (grownBy_set (grownBy_set (grownBy_set (grownBy_set g3 (by simp; omega) _) (by simp) _) (by simp) _) (by simp) _) (by simp) _
end Go.Proofs.Ytnfmidbbelgldaa
