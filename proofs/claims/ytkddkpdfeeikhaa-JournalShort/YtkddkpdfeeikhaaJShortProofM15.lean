/-
  NtText; NtProp; NtApp: texts laid together.
-/
import Derived.Test.YtkddkpdfeeikhaaJShortProofM14
import Derived.Laws.BytesArg
import Derived.Lib.EndianBits
import Derived.Deep.AppendLies
import Derived.Lib.AppendStr
import Derived.Maps.AppendAt
import Derived.OwnWalk
/-
  (*reader).size and (*reader).text read what sizeF and textF say.
-/
namespace Go.Proofs.Ytkddkpdfeeikhaa.NT
open Go.RowKit
set_option linter.unusedVariables false
set_option linter.unusedSimpArgs false

def bstr (bs : List UInt8) : ByteArray := ⟨bs.toArray⟩
theorem bstr_size (bs : List UInt8) : (bstr bs).size = bs.length := by simp [bstr, ByteArray.size]
theorem bstr_data (bs : List UInt8) : (bstr bs).data.toList = bs := rfl

theorem conv_str {B : Nat} {w : World} {v : Value} {bs : List UInt8} (h : SliceB B w v bs) : (convert 26 9 v).run Try.prog w = .ok (.string (bstr bs)) w := by
  obtain ⟨a, cap, rfl, h1, h2, _, h3⟩ := h
  by_cases h0 : bs = []
  · subst h0
    rw [run_convert_bytes_string w 26 9 5 a _ cap Try.underlying26 Try.underlying5 Try.underlying9]
    cases a <;> simp [Conv.bytesToString, loadCells]
    all_goals rfl
  · have hl : 0 < bs.length := by cases bs; simp at h0; simp
    obtain ⟨b, off, rfl, hlt, _⟩ := h3 0 hl
    have := run_convert_bytes_arg (P := Try.prog) w 26 5 Try.underlying26 Try.underlying5 b off bs.length cap (bs.map fun c => (c.toNat : Int)) (by simp) (fun i hi => by
      obtain ⟨b', off', e, _, hc⟩ := h3 i hi
      simp at e
      obtain ⟨rfl, rfl⟩ := e
      rw [hc]
      simp [hi]) 9 Try.underlying9
    rw [this]
    have e : strOfNums (bs.map fun c => (c.toNat : Int)) = bstr bs := by
      have e2 : ∀ l : List UInt8, (l.map fun c => (c.toNat : Int)).map (fun n : Int => UInt8.ofNat n.toNat) = l := fun l => by
        induction l with
        | nil => rfl
        | cons a r ih => simp only [List.map_cons, ih]; simp
      unfold strOfNums bstr
      first
        | rw [e2]
        | (simp only [List.map_map] at e2 ⊢; rw [e2])
    first
      | rw [e]
      | (rw [List.take_of_length_le (by simp), e])

def sizeF (s : List UInt8 × Bool) : Nat × (List UInt8 × Bool) :=
  if (takeF 1 s).2.2 then (0, (takeF 1 s).2) else (((takeF 1 s).1.headD 0).toNat, (takeF 1 s).2)

theorem takeF_len (n : Nat) (s) : (takeF n s).2.2 = false → (takeF n s).1.length = n := by
  unfold takeF; split <;> simp; omega

theorem SliceB.one {B : Nat} {w : World} {v : Value} {c : UInt8} (h : SliceB B w v [c]) : ∃ b off cap, v = .slice (some ⟨b, off, none⟩) 1 cap ∧ w.cell? ⟨b, off, none⟩ = some (.int .u8 c.toNat) := by
  obtain ⟨a, cap, rfl, h1, h2, _, h3⟩ := h
  obtain ⟨b, off, rfl, hlt, h4⟩ := h3 0 (by simp)
  exact ⟨b, off, cap, rfl, h4⟩

theorem u8_bounds (c : UInt8) : (0 : Int) ≤ c.toNat ∧ (c.toNat : Int) ≤ 255 := by
  have := c.toNat_lt; omega

set_option maxHeartbeats 400000 in
theorem size_any (R : Nat) (s : List UInt8 × Bool) (w : World) (hR : Rd w R s) :
    Calls Try.prog 127 #[.pointer (some ⟨R, 0, none⟩)] w fun e w' => e = .returned (.int .i64 (sizeF s).1) ∧ Rd w' R (sizeF s).2 ∧ w.grownBy w' (some R) := by
  cases hs : (takeF 1 s).2.2
  · obtain ⟨c, hc⟩ : ∃ c, (takeF 1 s).1 = [c] := by
      have := takeF_len 1 s hs
      match h : (takeF 1 s).1, this with
      | [c], _ => exact ⟨c, rfl⟩
    have hF : Hid (sizeF s = (c.toNat, (takeF 1 s).2)) := by show sizeF s = _; simp [sizeF, hs, hc]
    obtain ⟨c0, c1⟩ := u8_bounds c
    go_enter Try.func127, Try.ntmps127
    go_wp2_with (go_at_call 148; refine (take_any R 1 s _ hR).mono ?_; rintro e w1 ⟨v, rfl, hv, hr, hg⟩; obtain ⟨v', g0, g1, g2, g3, g4⟩ := id hr; rw [hc] at hv; obtain ⟨b, off, cap, rfl, hb⟩ := hv.one)
    go_ret
    rw [hF.out]
    exact ⟨rfl, hr, hg⟩
  · have hF : Hid (sizeF s = (0, (takeF 1 s).2)) := by show sizeF s = _; simp [sizeF, hs]
    go_enter Try.func127, Try.ntmps127
    go_wp2_with (go_at_call 148; refine (take_any R 1 s _ hR).mono ?_; rintro e w1 ⟨v, rfl, hv, hr, hg⟩; obtain ⟨v', g0, g1, g2, g3, g4⟩ := id hr)
    go_ret
    rw [hF.out]
    exact ⟨rfl, hr, hg⟩

def textF (s : List UInt8 × Bool) : ByteArray × (List UInt8 × Bool) :=
  (bstr (takeF (sizeF s).1 (sizeF s).2).1, (takeF (sizeF s).1 (sizeF s).2).2)

set_option maxHeartbeats 400000 in
theorem text_any (R : Nat) (s : List UInt8 × Bool) (w : World) (hR : Rd w R s) :
    Calls Try.prog 160 #[.pointer (some ⟨R, 0, none⟩)] w fun e w' => e = .returned (.string (textF s).1) ∧ Rd w' R (textF s).2 ∧ w.grownBy w' (some R) := by
  have hT : Hid (textF s = (bstr (takeF (sizeF s).1 (sizeF s).2).1, (takeF (sizeF s).1 (sizeF s).2).2)) := rfl
  go_enter Try.func160, Try.ntmps160
  go_wp2_with (first
    | (go_at_call 127; refine (size_any R s _ hR).mono ?_; rintro e w1 ⟨rfl, hr, hg⟩)
    | (go_at_call 148; refine (take_any R (sizeF s).1 (sizeF s).2 _ hr).mono ?_; rintro e w2 ⟨v, rfl, hv2, hr2, hg2⟩; have hcv := conv_str hv2))
  go_ret
  exact ⟨rfl, hr2, grownBy_trans hg hg2⟩
end Go.Proofs.Ytkddkpdfeeikhaa.NT

/-
  (*reader).number and (*reader).prop read what numberF and propF say.
-/
namespace Go.Proofs.Ytkddkpdfeeikhaa.NT
open Go.RowKit
set_option linter.unusedVariables false
set_option linter.unusedSimpArgs false

def valB (l : List UInt8) : Nat := l.foldl (fun u c => u * 256 + c.toNat) 0

def int32 (u : Int) : Int := if u < 2147483648 then u else u - 4294967296

def numberF (s : List UInt8 × Bool) : Int × (List UInt8 × Bool) :=
  (int32 (valB (takeF 4 s).1), (takeF 4 s).2)

theorem valB_snoc (l : List UInt8) (c : UInt8) : valB (l ++ [c]) = valB l * 256 + c.toNat := by simp [valB]
theorem valB_take (bs : List UInt8) (k : Nat) (h : k < bs.length) : valB (bs.take (k + 1)) = valB (bs.take k) * 256 + bs[k].toNat := by
  rw [List.take_succ_eq_append_getElem h, valB_snoc]
theorem valB_lt (l : List UInt8) : valB l < 256 ^ l.length := by
  suffices h : ∀ u : Nat, l.foldl (fun u c => u * 256 + c.toNat) u < (u + 1) * 256 ^ l.length by simpa [valB] using h 0
  induction l with
  | nil => intro u; simp
  | cons c r ih =>
    intro u
    simp only [List.foldl_cons, List.length_cons]
    refine Nat.lt_of_lt_of_le (ih _) ?_
    have := c.toNat_lt
    rw [Nat.pow_succ, Nat.mul_comm (256 ^ r.length), ← Nat.mul_assoc]
    exact Nat.mul_le_mul_right _ (by omega)
theorem valB_lt3 (l : List UInt8) (h : l.length ≤ 3) : (valB l : Int) ≤ 16777215 := by
  have h1 := valB_lt l
  have h2 : 256 ^ l.length ≤ 256 ^ 3 := Nat.pow_le_pow_right (by decide) h
  omega
theorem valB_lt4 (l : List UInt8) (h : l.length ≤ 4) : (valB l : Int) ≤ 4294967295 := by
  have h1 := valB_lt l
  have h2 : 256 ^ l.length ≤ 256 ^ 4 := Nat.pow_le_pow_right (by decide) h
  omega
theorem or_step (v : Nat) (c : UInt8) (hv : (v : Int) ≤ 16777215) : bits BinOp.or IntKind.u32 ((v : Int) * 256) ((c.toNat : Int) % 4294967296) = ((v * 256 + c.toNat : Nat) : Int) := by
  have := c.toNat_lt
  rw [bits_join .u32 32 (by decide) wraps_u32 8 _ _ (by omega) (by omega) (by omega) (by omega) (by omega) (by omega)]
  omega

theorem wrap_int32 (v : Nat) (h : (v : Int) ≤ 4294967295) : wrap64 (wrap32 v) = int32 v := by
  unfold wrap64 wrap32 int32
  split <;> omega

set_option maxHeartbeats 400000 in
theorem number_any (R : Nat) (s : List UInt8 × Bool) (w : World) (hR : Rd w R s) :
    Calls Try.prog 161 #[.pointer (some ⟨R, 0, none⟩)] w fun e w' => e = .returned (.int .i64 (numberF s).1) ∧ Rd w' R (numberF s).2 ∧ w.grownBy w' (some R) := by
  have hF : Hid (numberF s = (int32 (valB (takeF 4 s).1), (takeF 4 s).2)) := rfl
  go_enter Try.func161, Try.ntmps161
  go_wp2_with (go_at_call 148; refine (take_any R 4 s _ hR).mono ?_; rintro e w1 ⟨v, rfl, hv, hr, hg⟩; obtain ⟨a, cap, rfl, i1, i2, _, i3⟩ := id hv)
  obtain ⟨bs, hbs⟩ : ∃ bs, bs = (takeF 4 s).1 := ⟨_, rfl⟩
  rw [← hbs] at hv i1 i3 ⊢
  have hl : bs.length ≤ 4 := by rw [hbs]; unfold takeF; split <;> simp; omega
  have HB : Hid (bs = (takeF 4 s).1) := hbs
  clear hbs
  go_loop [3, 9] (fun u i => ∃ k : Nat, k ≤ bs.length ∧ i = .int .i64 k ∧ u = .int .u32 (valB (bs.take k))) (fun _ i => bs.length - (intOf i).toNat)
  case atStart => exact ⟨0, Nat.zero_le _, rfl, rfl⟩
  case round =>
    obtain ⟨k, hk, rfl, rfl⟩ := hrel
    by_cases hlt : k < bs.length
    · obtain ⟨b, off, rfl, hb, hcell⟩ := i3 k hlt
      obtain ⟨c, hc⟩ : ∃ c, c = bs[k] := ⟨_, rfl⟩
      rw [← hc] at hcell
      obtain ⟨c0, c1⟩ := u8_bounds c
      have hvb : (valB (bs.take k) : Int) ≤ 16777215 := valB_lt3 _ (by simp; omega)
      go_wp2
      go_round
      case rel => exact ⟨k + 1, by omega, by go_num, by rw [valB_take bs k hlt, or_step _ _ hvb]⟩
      case measure => simp [intOf]; omega
    · have e : k = bs.length := by omega
      have hW : Hid (wrap64 (wrap32 (valB bs)) = (numberF s).1) := by
        show wrap64 (wrap32 (valB bs)) = (numberF s).1
        rw [wrap_int32 (valB bs) (valB_lt4 bs hl), hF.out, ← HB.out]
      go_wp2
      go_ret
      exact ⟨ret_i64 hW.out, by rw [hF.out]; exact hr, hg⟩

def PD.val (p : PD) : Value := .agg #[.string p.key, .int .i64 p.kind, .int .i64 p.n, .string p.text]

def propF (s : List UInt8 × Bool) : PD × (List UInt8 × Bool) :=
  if (sizeF (textF s).2).1 = 2 then
    (⟨(textF s).1, 2, 0, (textF (sizeF (textF s).2).2).1⟩, (textF (sizeF (textF s).2).2).2)
  else (⟨(textF s).1, (sizeF (textF s).2).1, (numberF (sizeF (textF s).2).2).1, ByteArray.empty⟩, (numberF (sizeF (textF s).2).2).2)

theorem eqb {a b : Int} (h : (a == b) = true) : a = b := by simpa using h
theorem neb {a b : Int} (h : (a == b) = false) : ¬ a = b := by simpa using h
theorem gat {W w1 : World} {R : Nat} (hb : W.grownBy w1 (some R)) (b : Nat) (h : b < W.heap.size) (hn : b ≠ R) : (∀ o, w1.cell? ⟨b, o, none⟩ = W.cell? ⟨b, o, none⟩) ∧ (∀ o, w1.frozen? ⟨b, o, none⟩ = W.frozen? ⟨b, o, none⟩) :=
  ⟨fun o => World.cell?_of_block (a := ⟨b, o, none⟩) (hb.block b h (by simpa using hn)), fun o => World.frozen?_of_block (a := ⟨b, o, none⟩) (hb.block b h (by simpa using hn))⟩

theorem grownBy_set {w w' : World} {row : Option Nat} (h : w.grownBy w' row) {a : Addr} (ha : w.heap.size ≤ a.block) (u : Value) : w.grownBy (w'.setCell a u) row :=
  ⟨h.os, h.tape, h.output, by simpa [World.setCell] using h.size, fun k hk hn => (Below.heap_setCell _ _ _ _ (by omega)).trans (h.block k hk hn)⟩
theorem grownBy_alloc' {w w' : World} {row : Option Nat} (h : w.grownBy w' row) (o : Obj) : w.grownBy (w'.alloc o) row :=
  grownBy_trans h (World.grownBy_alloc _ _ _)

theorem Rd.alloc {w : World} {R : Nat} {s} (h : Rd w R s) (o : Obj) : Rd (w.alloc o) R s :=
  h.kept (fun k hk => Below.heap_alloc _ _ _ (by have := h.lt; omega))
theorem Rd.set {w : World} {R : Nat} {s} (h : Rd w R s) {a : Addr} (ha : R < a.block) (u : Value) : Rd (w.setCell a u) R s :=
  h.kept (fun k hk => Below.heap_setCell _ _ _ _ (by omega))

set_option maxHeartbeats 400000 in
theorem prop_any (R : Nat) (s : List UInt8 × Bool) (w : World) (hR : Rd w R s) :
    Calls Try.prog 149 #[.pointer (some ⟨R, 0, none⟩)] w fun e w' => e = .returned (propF s).1.val ∧ Rd w' R (propF s).2 ∧ w.grownBy w' (some R) := by
  have hlt := hR.lt
  go_enter Try.func149, Try.ntmps149
  go_wp2_with (first
    | (go_at_call 160; refine (text_any R s _ (hR.alloc _)).mono ?_; rintro e w1 ⟨rfl, hr, hg⟩; have hz1 : w.heap.size < w1.heap.size := (by have := hg.size; simp at this; omega); have hlt1 : R < w1.heap.size := (by omega); obtain ⟨p1, p2⟩ := gat hg w.heap.size (by simp) (by omega))
    | (go_at_call 127; refine (size_any R (textF s).2 _ (hr.alloc _)).mono ?_; rintro e w2 ⟨rfl, hr2, hg2⟩; have hz2 : w1.heap.size < w2.heap.size := (by have := hg2.size; simp at this; omega); obtain ⟨q1, q2⟩ := gat hg2 w.heap.size (by simp; omega) (by omega); obtain ⟨q3, q4⟩ := gat hg2 w1.heap.size (by simp) (by omega)))
  · have h2 := eqb (by assumption : (((sizeF (textF s).2).1 : Int) == 2) = true)
    have hP : Hid (propF s = (⟨(textF s).1, 2, 0, (textF (sizeF (textF s).2).2).1⟩, (textF (sizeF (textF s).2).2).2)) := by
      show propF s = _
      rw [propF, if_pos (by omega)]
    go_wp2_with (go_at_call 160; refine (text_any R (sizeF (textF s).2).2 _ (hr2.set (by simp; omega) _)).mono ?_; rintro e w3 ⟨rfl, hr3, hg3⟩; have hz3 : w2.heap.size ≤ w3.heap.size := (by have := hg3.size; simp at this; omega); obtain ⟨t1, t2⟩ := gat hg3 w.heap.size (by simp; omega) (by omega); obtain ⟨t3, t4⟩ := gat hg3 w1.heap.size (by simp; omega) (by omega))
    refine bodyPost_ret (v := (propF s).1.val) ?_ rfl ⟨rfl, ?_, ?_⟩
    · rw [hP.out]; simp [results, Try.results149, go_sem, PD.val, *]
    · rw [hP.out]; exact ((((hr3.set (by simp; omega) _).set (by simp; omega) _).set (by simp; omega) _).set (by simp; omega) _).set (by simp; omega) _
    · have g1 := grownBy_trans (World.grownBy_alloc w _ (some R)) hg
      have g2 := grownBy_trans (grownBy_alloc' g1 _) hg2
      have g3 := grownBy_trans (grownBy_set g2 (by simp; omega) _) hg3
      exact grownBy_set (grownBy_set (grownBy_set (grownBy_set (grownBy_set g3 (by simp; omega) _) (by simp) _) (by simp) _) (by simp) _) (by simp) _
  · have h2 := neb (by assumption : (((sizeF (textF s).2).1 : Int) == 2) = false)
    have hP : Hid (propF s = (⟨(textF s).1, (sizeF (textF s).2).1, (numberF (sizeF (textF s).2).2).1, ByteArray.empty⟩, (numberF (sizeF (textF s).2).2).2)) := by
      show propF s = _
      rw [propF, if_neg (by omega)]
    go_wp2_with (go_at_call 161; refine (number_any R (sizeF (textF s).2).2 _ (hr2.set (by simp; omega) _)).mono ?_; rintro e w3 ⟨rfl, hr3, hg3⟩; have hz3 : w2.heap.size ≤ w3.heap.size := (by have := hg3.size; simp at this; omega); obtain ⟨t1, t2⟩ := gat hg3 w.heap.size (by simp; omega) (by omega); obtain ⟨t3, t4⟩ := gat hg3 w1.heap.size (by simp; omega) (by omega))
    refine bodyPost_ret (v := (propF s).1.val) ?_ rfl ⟨rfl, ?_, ?_⟩
    · rw [hP.out]; simp [results, Try.results149, go_sem, PD.val, *]; rfl
    · rw [hP.out]; exact ((((hr3.set (by simp; omega) _).set (by simp; omega) _).set (by simp; omega) _).set (by simp; omega) _).set (by simp; omega) _
    · have g1 := grownBy_trans (World.grownBy_alloc w _ (some R)) hg
      have g2 := grownBy_trans (grownBy_alloc' g1 _) hg2
      have g3 := grownBy_trans (grownBy_set g2 (by simp; omega) _) hg3
      exact grownBy_set (grownBy_set (grownBy_set (grownBy_set (grownBy_set g3 (by simp; omega) _) (by simp) _) (by simp) _) (by simp) _) (by simp) _
end Go.Proofs.Ytkddkpdfeeikhaa.NT

/-
  append to a row of bytes that the call itself made, from a slice of bytes and from a string.
-/
namespace Go.Proofs.Ytkddkpdfeeikhaa.NT
open Go.RowKit
set_option linter.unusedVariables false
set_option linter.unusedSimpArgs false

theorem info38 : (Try.prog.info? 98).map (fun i => (i.zero, i.size, i.bytes)) = some (some (.agg #[.string ByteArray.empty, .int .i64 0, .int .i64 0, .string ByteArray.empty]), 4, 48) := by kernel_rfl
theorem info5 : (Try.prog.info? 5).map (fun i => (i.zero, i.size, i.bytes)) = some (some (.int .u8 0), 1, 1) := by kernel_rfl

def u8s (bs : List UInt8) : List Value := bs.map fun c => Value.int .u8 c.toNat
theorem u8s_len (bs : List UInt8) : (u8s bs).length = bs.length := by simp [u8s]
theorem u8s_append (a b : List UInt8) : u8s (a ++ b) = u8s a ++ u8s b := by simp [u8s]
theorem u8s_one (bs : List UInt8) : ∀ u ∈ u8s bs, u.oneCell' = true := by
  intro u hu
  simp only [u8s, List.mem_map] at hu
  obtain ⟨b, _, rfl⟩ := hu
  rfl

theorem own_shape {w : World} {base : Nat} {e : TypeId} {size : Nat} {v : Value} {n : Nat} {xs : List Value} (h : w.ownsRow base e size v n xs) : ∃ ao cap, v = .slice ao n cap ∧ n ≤ cap ∧ cap ≤ maxLen ∧ (ao = none → cap = 0) := by
  rcases h.2 with ⟨rfl, rfl⟩ | ⟨g, cap, cur, rfl, _, _, h1, h2, _⟩
  · exact ⟨none, 0, rfl, Nat.le_refl _, by simp [maxLen], fun _ => rfl⟩
  · exact ⟨_, cap, rfl, h1, h2, fun h => by simp at h⟩

/-- What is owned reads as a slice of bytes. -/
theorem own_slice {w : World} {base : Nat} {v : Value} {bs : List UInt8} (h : w.ownsRow base 5 1 v bs.length (u8s bs)) : SliceB w.heap.size w v bs := by
  have hl := h.lt
  obtain ⟨ao, cap, rfl, h1, h2, h3⟩ := own_shape h
  refine ⟨ao, cap, rfl, h1, h2, h3, fun i hi => ?_⟩
  rcases h.2 with ⟨e, h0⟩ | ⟨g, cap', cur, e, hb, hg, _⟩
  · omega
  · simp only [Value.slice.injEq] at e
    obtain ⟨rfl, _, _⟩ := e
    refine ⟨g, 0, rfl, (hl g rfl).2, ?_⟩
    have := h.cells (g := g) rfl i (.int .u8 bs[i].toNat) (by simp [u8s, hi])
    rw [add_none] at this
    exact this

/-- The block of v' is that of v, or a new one. -/
def Moved (w : World) (v v' : Value) : Prop := ∀ k, v'.ownBlock = some k → v.ownBlock = some k ∨ w.heap.size ≤ k

theorem Moved.refl (w : World) (v : Value) : Moved w v v := fun _ h => .inl h
theorem moved_grown {w w1 w2 : World} {v v1 : Value} (hg : w.grownBy w1 v.ownBlock) (hm : Moved w v v1) (hg2 : w1.grownBy w2 v1.ownBlock) : w.grownBy w2 v.ownBlock :=
  ⟨hg2.os.trans hg.os, hg2.tape.trans hg.tape, hg2.output.trans hg.output, Nat.le_trans hg.size hg2.size, fun k hk hn => by
    refine (hg2.block k (Nat.lt_of_lt_of_le hk hg.size) (fun e => ?_)).trans (hg.block k hk hn)
    rcases hm k e.symm with h | h
    · exact hn h.symm
    · omega⟩
theorem Moved.trans {w w1 : World} {v v1 v2 : Value} (hg : w.heap.size ≤ w1.heap.size) (h : Moved w v v1) (h2 : Moved w1 v1 v2) : Moved w v v2 := by
  intro k hk
  rcases h2 k hk with h3 | h3
  · exact h k h3
  · exact .inr (by omega)
theorem Moved.of {w w' : World} {v v' : Value} (h : Moved w' v v') (hz : w.heap.size ≤ w'.heap.size) : Moved w v v' := fun k hk => (h k hk).imp id (fun h => by omega)

/-- 'append(out, b...)', out the call's own. -/
theorem run_app (w : World) (ty : TypeId) (base : Nat) (v : Value) (n : Nat) (xs : List Value) (hown : w.ownsRow base 5 1 v n xs) (B : Nat) (u : Value) (bs : List UInt8) (hu : SliceB B w u bs)
    (hb : n + bs.length ≤ 140737488355328) (hbase : base ≤ w.heap.size) :
    ∃ ao cap w', (Builtin.append_ #[26, 26] ty #[v, u]).run Try.prog w = .ok (.slice ao (n + bs.length) cap) w' ∧ w'.ownsRow base 5 1 (.slice ao (n + bs.length) cap) (n + bs.length) (xs ++ u8s bs) ∧ w.grownBy w' v.ownBlock ∧ Moved w v (.slice ao (n + bs.length) cap) := by
  obtain ⟨i0, hi0, hz0, hz1, hz2⟩ := info_parts info5
  obtain ⟨a, cap, rfl, h1, h2, hn, h3⟩ := hu
  cases a with
  | none =>
    have hc := hn rfl
    have hl : bs.length = 0 := by omega
    obtain rfl : bs = [] := List.length_eq_zero_iff.1 hl
    subst hc
    have hr := run_append_owned_none (P := Try.prog) (w := w) base 26 ty 5 i0 1 Try.underlying26 hi0 v n xs hown
    obtain ⟨ao, cp, rfl, _⟩ := own_shape hown
    exact ⟨ao, cp, w, hr, by simpa [u8s] using hown, grownBy_refl _ _, Moved.refl _ _⟩
  | some ad =>
    have hnews : ∀ j x, (u8s bs)[j]? = some x → w.cell? (ad.add j) = some x := by
      intro j x hj
      have hjl : j < bs.length := by
        rcases Nat.lt_or_ge j bs.length with h | h
        · exact h
        · simp [List.getElem?_eq_none (show (u8s bs).length ≤ j by simpa [u8s] using h)] at hj
      obtain ⟨b, off, e, _, hc⟩ := h3 j hjl
      simp only [Option.some.injEq] at e
      subst e
      rw [add_none, hc]
      simp [u8s, hjl] at hj
      rw [hj]
    obtain ⟨v', w', hr, ho, hg, _, hat⟩ := run_append_own_at (P := Try.prog) w base 26 ty 5 i0 (.int .u8 0) 1 1 Try.underlying26 hi0 hz0 hz1 hz2 rfl (by omega) v n xs hown ad bs.length cap (u8s bs) (by simp [u8s]) hnews (u8s_one bs) (by unfold maxLen; omega) (by omega) hbase
    have hm : Moved w v v' := by
      intro k hk
      rcases hat with h | h
      · exact .inl (h.symm.trans hk)
      · rw [h] at hk; simp at hk; exact .inr (by omega)
    obtain ⟨ao, cp, rfl, _⟩ := own_shape ho
    exact ⟨ao, cp, w', hr, ho, hg, hm⟩

/-- 'append(out, s...)', s a string. -/
theorem run_app_str (w : World) (ty : TypeId) (base : Nat) (v : Value) (n : Nat) (xs : List Value) (hown : w.ownsRow base 5 1 v n xs) (s : ByteArray)
    (hb : n + s.size ≤ 140737488355328) (hbase : base ≤ w.heap.size) :
    ∃ ao cap w', (Builtin.append_ #[26, 9] ty #[v, .string s]).run Try.prog w = .ok (.slice ao (n + s.size) cap) w' ∧ w'.ownsRow base 5 1 (.slice ao (n + s.size) cap) (n + s.size) (xs ++ u8s s.data.toList) ∧ w.grownBy w' v.ownBlock ∧ Moved w v (.slice ao (n + s.size) cap) := by
  obtain ⟨i0, hi0, hz0, hz1, hz2⟩ := info_parts info5
  obtain ⟨v', w', hr, ho, hg, _⟩ := Lib.run_append_own_string (P := Try.prog) w base 26 9 ty 5 i0 Try.underlying26 Try.underlying9 hi0 hz0 hz1 hz2 v n xs hown s (by unfold maxLen; omega) hb hbase
  have hm : Moved w v v' := by
    intro k hk
    rcases id hown.2 with ⟨rfl, rfl⟩ | ⟨g, cap, cur, rfl, hbg, hgg, hnc, hcm, hcs, htake⟩
    · have hx : xs = [] := List.eq_nil_of_length_eq_zero (by simpa using hown.1)
      subst hx
      obtain ⟨v2, w2, hr2, ho2, _⟩ := Lib.run_append_own_string (P := Try.prog) w w.heap.size 26 9 ty 5 i0 Try.underlying26 Try.underlying9 hi0 hz0 hz1 hz2 (.slice none 0 0) 0 [] (World.ownsRow_nil _ _ _ _) s (by unfold maxLen; omega) hb (Nat.le_refl _)
      rw [hr] at hr2
      simp only [Result.ok.injEq] at hr2
      rw [hr2.1] at hk
      exact .inr (ho2.lt k hk).1
    · by_cases hroom : n + s.size ≤ cap
      · have hcs' : cur.size = cap := by simpa using hcs
        have hr2 := Lib.run_append_room_string (P := Try.prog) w 26 9 ty 5 i0 Try.underlying26 Try.underlying9 hi0 hz1 g n cap cur hgg s hroom (by omega)
        rw [hr] at hr2
        simp only [Result.ok.injEq] at hr2
        rw [hr2.1] at hk
        exact .inl hk
      · have holds : ∀ j u, xs[j]? = some u → w.cell? ((⟨g, 0, none⟩ : Addr).add j) = some u := hown.cells (g := g) rfl
        have hr2 := Lib.run_append_grow_string (P := Try.prog) w 26 9 ty 5 i0 (.int .u8 0) Try.underlying26 Try.underlying9 hi0 hz0 ⟨g, 0, none⟩ n cap xs (by rw [hz1]; exact hown.1) holds s (by omega) (by omega) (by rw [hz2]; exact growslice_fits (by omega) (by omega))
        rw [hr] at hr2
        simp only [Result.ok.injEq] at hr2
        rw [hr2.1] at hk
        simp [Value.ownBlock] at hk
        exact .inr (by omega)
  obtain ⟨ao, cp, rfl, _⟩ := own_shape ho
  exact ⟨ao, cp, w', hr, ho, hg, hm⟩

section
variable {w : World} {ops : Array Oper} {rest : List Oper} {o : Oper} {a : Act} {Q : Exit → Act → World → Prop} {K : Act → World → Prop} {E : Prop}

theorem wp_app_of {t u : TypeId} {v1 v2 : Value} (s x : Operand) (ho : o.op = .call { callee := .builtin .append, args := #[s, x], argTypes := #[t, u] }) (hs : a.eval s = v1) (hx : a.eval x = v2) {v' : Value} {w' : World}
    (hr : (Builtin.append_ #[t, u] o.type #[v1, v2]).run Try.prog w = .ok v' w') (h : K (a.put o.dst v') w') : o.wp Try.prog a w K Q := by
  unfold Oper.wp execOp
  simp only [ho, resolve, invoke, builtin, Sem.run_bind, Sem.run_pure, Result.andThen_ok, List.map_toArray, List.map_cons, List.map_nil, hs, hx, hr]
  exact h

theorem wpList_app (hgd : o.guard = none) (s x : Operand) (ho : o.op = .call { callee := .builtin .append, args := #[s, x], argTypes := #[26, 26] })
    (base : Nat) (v : Value) (n : Nat) (xs : List Value) (hs : a.eval s = v) (hown : w.ownsRow base 5 1 v n xs) (B : Nat) (u : Value) (bs : List UInt8) (hx : a.eval x = u) (hu : SliceB B w u bs)
    (hb : n + bs.length ≤ 140737488355328) (hbase : base ≤ w.heap.size)
    (h : ∀ ao cap w', w'.ownsRow base 5 1 (.slice ao (n + bs.length) cap) (n + bs.length) (xs ++ u8s bs) → w.grownBy w' v.ownBlock → Moved w v (.slice ao (n + bs.length) cap) → wpList Try.prog ops Q rest (a.put o.dst (.slice ao (n + bs.length) cap)) w') :
    wpList Try.prog ops Q (o :: rest) a w := by
  refine wpList_plain hgd fun K hK => ?_
  obtain ⟨ao, cap, w', hr, h1, h2, h3⟩ := run_app w o.type base v n xs hown B u bs hu hb hbase
  exact wp_app_of s x ho hs hx hr (hK _ _ (h ao cap w' h1 h2 h3))

theorem wpList_app_str (hgd : o.guard = none) (sl x : Operand) (ho : o.op = .call { callee := .builtin .append, args := #[sl, x], argTypes := #[26, 9] })
    (base : Nat) (v : Value) (n : Nat) (xs : List Value) (hs : a.eval sl = v) (hown : w.ownsRow base 5 1 v n xs) (s : ByteArray) (hx : a.eval x = .string s)
    (hb : n + s.size ≤ 140737488355328) (hbase : base ≤ w.heap.size)
    (h : ∀ ao cap w', w'.ownsRow base 5 1 (.slice ao (n + s.size) cap) (n + s.size) (xs ++ u8s s.data.toList) → w.grownBy w' v.ownBlock → Moved w v (.slice ao (n + s.size) cap) → wpList Try.prog ops Q rest (a.put o.dst (.slice ao (n + s.size) cap)) w') :
    wpList Try.prog ops Q (o :: rest) a w := by
  refine wpList_plain hgd fun K hK => ?_
  obtain ⟨ao, cap, w', hr, h1, h2, h3⟩ := run_app_str w o.type base v n xs hown s hb hbase
  exact wp_app_of sl x ho hs hx hr (hK _ _ (h ao cap w' h1 h2 h3))

theorem step_app (hgd : o.guard = none) (s x : Operand) (ho : o.op = .call { callee := .builtin .append, args := #[s, x], argTypes := #[26, 26] })
    (base : Nat) (v : Value) (n : Nat) (xs : List Value) (hs : a.eval s = v) (hown : w.ownsRow base 5 1 v n xs) (B : Nat) (u : Value) (bs : List UInt8) (hx : a.eval x = u) (hu : SliceB B w u bs)
    (hb : n + bs.length ≤ 140737488355328) (hbase : base ≤ w.heap.size)
    (h : ∀ ao cap w', w'.ownsRow base 5 1 (.slice ao (n + bs.length) cap) (n + bs.length) (xs ++ u8s bs) → w.grownBy w' v.ownBlock → K (a.put o.dst (.slice ao (n + bs.length) cap)) w') :
    if Region.wanted o (yielded ops a.tmps) = true then Oper.wp Try.prog o a w K Q else E := by
  have hw : Region.wanted o (yielded ops a.tmps) = true := by simp [Region.wanted, hgd]
  rw [if_pos hw]
  obtain ⟨ao, cap, w', hr, h1, h2, _⟩ := run_app w o.type base v n xs hown B u bs hu hb hbase
  exact wp_app_of s x ho hs hx hr (h ao cap w' h1 h2)
end
end Go.Proofs.Ytkddkpdfeeikhaa.NT
