/-
  NtParse; NtBytes: texts laid together.
-/
import Derived.Test.YtkddkpdfeeikhaaSsTagProofM13
/-
  note.Parse answers what parseF says of any bytes.
-/
namespace Go.Proofs.Ytkddkpdfeeikhaa.NT
open Go.RowKit
set_option linter.unusedVariables false
set_option linter.unusedSimpArgs false

attribute [local go_sem ↓] Go.wp_at_zero Go.wp_at_succ

/-- A slice of properties that reads as ps. -/
def SliceP (B : Nat) (w : World) (v : Value) (ps : List PD) : Prop :=
  ∃ a cap, v = .slice a ps.length cap ∧ ps.length ≤ cap ∧ cap ≤ maxLen ∧ (a = none → cap = 0) ∧ PropsAt B w a ps

theorem SliceP.same {B : Nat} {w w' : World} {v : Value} {ps : List PD} (h : SliceP B w v ps) (hb : ∀ k, k < B → w'.heap[k]? = w.heap[k]?) : SliceP B w' v ps := by
  obtain ⟨a, cap, rfl, h1, h2, hn, h3⟩ := h
  exact ⟨a, cap, rfl, h1, h2, hn, h3.same hb⟩
theorem SliceP.mono {B B' : Nat} {w : World} {v : Value} {ps : List PD} (h : SliceP B w v ps) (hb : B ≤ B') : SliceP B' w v ps := by
  obtain ⟨a, cap, rfl, h1, h2, hn, h3⟩ := h
  exact ⟨a, cap, rfl, h1, h2, hn, h3.mono hb⟩
theorem SliceP.nil (B : Nat) (w : World) : SliceP B w (.slice none 0 0) [] := ⟨none, 0, rfl, Nat.le_refl _, by simp [maxLen], fun _ => rfl, fun i h => by simp at h⟩

theorem cellsL_len (l : List PD) : (cellsL l).length = l.length * 4 := by
  induction l with
  | nil => rfl
  | cons p r ih =>
    have e : cellsL (p :: r) = p.cells ++ cellsL r := by simp [cellsL]
    rw [e, List.length_append, ih]; simp [PD.cells]; omega

theorem cellsL_at (l : List PD) (i j : Nat) (h : i < l.length) (hj : j < 4) : (cellsL l)[i * 4 + j]? = l[i].cells[j]? := by
  induction l generalizing i with
  | nil => simp at h
  | cons p r ih =>
    have e : cellsL (p :: r) = p.cells ++ cellsL r := by simp [cellsL]
    rw [e]
    cases i with
    | zero => rw [List.getElem?_append_left (by simp [PD.cells]; omega)]; simp
    | succ i =>
      rw [List.getElem?_append_right (by simp [PD.cells]; omega)]
      have := ih i (by simpa using h)
      simp only [PD.cells, List.length_cons, List.length_nil] at this ⊢
      rw [show (i + 1) * 4 + j - (0 + 1 + 1 + 1 + 1) = i * 4 + j by omega, this]
      simp

/-- note.Parse, as a function of the bytes: what is told, the note, how many. -/
def parseF (b : List UInt8) : Int × List PD × List UInt8 × Nat :=
  if (sizeF (b, false)).2.2 then (9, [], [], 0)
  else if 4 < (sizeF (b, false)).1 then (5, [], [], 0)
  else if (noteF (sizeF (b, false)).1 (sizeF (b, false)).2).2.2.2 then (9, [], [], 0)
  else if wrongN (noteF (sizeF (b, false)).1 (sizeF (b, false)).2).1 (noteF (sizeF (b, false)).1 (sizeF (b, false)).2).2.1.length == 0 then
    (0, (noteF (sizeF (b, false)).1 (sizeF (b, false)).2).1, (noteF (sizeF (b, false)).1 (sizeF (b, false)).2).2.1, b.length - (noteF (sizeF (b, false)).1 (sizeF (b, false)).2).2.2.1.length)
  else (wrongN (noteF (sizeF (b, false)).1 (sizeF (b, false)).2).1 (noteF (sizeF (b, false)).1 (sizeF (b, false)).2).2.1.length, [], [], 0)

end Go.Proofs.Ytkddkpdfeeikhaa.NT

/-
  note.Bytes writes what bytesF says of a note that is right.
-/
namespace Go.Proofs.Ytkddkpdfeeikhaa.NT
open Go.RowKit
set_option linter.unusedVariables false
set_option linter.unusedSimpArgs false

def propsB (ps : List PD) : List UInt8 := ps.flatMap propB
def bytesF (ps : List PD) (body : List UInt8) : List UInt8 := UInt8.ofNat ps.length :: propsB ps ++ UInt8.ofNat body.length :: body

theorem propsB_take (ps : List PD) (k : Nat) (h : k < ps.length) : propsB (ps.take (k + 1)) = propsB (ps.take k) ++ propB ps[k] := by
  rw [List.take_succ_eq_append_getElem h]; unfold propsB; rw [List.flatMap_append]; simp [List.flatMap_cons]
theorem propsB_len (ps : List PD) (h : ∀ p ∈ ps, p.small) : (propsB ps).length ≤ ps.length * 40 := by
  induction ps with
  | nil => simp [propsB]
  | cons p r ih =>
    have e : propsB (p :: r) = propB p ++ propsB r := by simp [propsB]
    have h1 := propB_len p (h p (by simp))
    have h2 := ih (fun q hq => h q (by simp [hq]))
    rw [e, List.length_append, List.length_cons]; omega

theorem new_own (w : World) (base : Nat) (bs : List UInt8) (cs : Array Value) (hl : bs.length ≤ maxLen) (h : cs.toList = u8s bs) (hb : base ≤ w.heap.size) : (w.alloc (.cells cs 5)).ownsRow base 5 1 (.slice (some ⟨w.heap.size, 0, none⟩) bs.length bs.length) bs.length (u8s bs) := by
  have hs : cs.size = bs.length := by rw [← Array.length_toList, h, u8s_len]
  refine ⟨by simp [u8s], .inr ⟨w.heap.size, bs.length, cs, rfl, hb, heap_alloc_new w _, Nat.le_refl _, hl, by simpa using hs, ?_⟩⟩
  rw [h, List.take_of_length_le (by simp [u8s])]

set_option maxHeartbeats 1000000 in
theorem bytes_any (pa : Option Addr) (pc : Nat) (ps : List PD) (ba : Option Addr) (bc : Nat) (body : List UInt8) (w : World) (hps : PropsAt w.heap.size w pa ps) (hbd : SliceB w.heap.size w (.slice ba body.length bc) body) (hl : ps.length ≤ 4) (hbl : body.length ≤ 255) (hsm : ∀ p ∈ ps, p.small) :
    Calls Try.prog 51 #[.agg #[.slice pa ps.length pc, .slice ba body.length bc]] w fun e w' => ∃ v, e = .returned v ∧ w'.ownsRow w.heap.size 5 1 v (bytesF ps body).length (u8s (bytesF ps body)) ∧ Below w.heap.size w w' := by
  have HB1 : Hid (((UInt8.ofNat ps.length).toNat : Int) = ps.length) := byte_of _ (by omega)
  have HB2 : Hid (((UInt8.ofNat body.length).toNat : Int) = body.length) := byte_of _ (by omega)
  have hpl := propsB_len ps hsm
  go_enter Try.func51, Try.ntmps51
  go_wp2
  go_loopw [3, 14] (fun v i wr => ∃ k : Nat, k ≤ ps.length ∧ i = .int .i64 k ∧ Below (w.heap.size + 1) (w.alloc (.cells #[.slice pa ps.length pc, .slice ba body.length bc] 28)) wr ∧
      wr.ownsRow (w.heap.size + 1) 5 1 v (UInt8.ofNat ps.length :: propsB (ps.take k)).length (u8s (UInt8.ofNat ps.length :: propsB (ps.take k))))
    (fun _ i _ => ps.length - (intOf i).toNat)
  case atStart =>
    refine ⟨0, Nat.zero_le _, rfl, (Below.refl _ _).alloc (by simp) _, ?_⟩
    have := new_own (w.alloc (.cells #[.slice pa ps.length pc, .slice ba body.length bc] 28)) (w.heap.size + 1) [UInt8.ofNat ps.length] #[.int .u8 ps.length] (by simp [maxLen]) (by simp [u8s, HB1.out]; omega) (by simp)
    simpa [propsB] using this
  case round =>
    obtain ⟨k, hk, rfl, hnx, hown⟩ := hrel
    have hsz : w.heap.size + 1 ≤ wr.heap.size := by have := hnx.size; simpa using this
    have hn1 : wr.cell? ⟨w.heap.size, 1, none⟩ = some (.slice ba body.length bc) := by rw [hnx.cell (by simp)]; simp
    obtain ⟨xs, hxs⟩ : ∃ xs, xs = UInt8.ofNat ps.length :: propsB (ps.take k) := ⟨_, rfl⟩
    rw [← hxs] at hown
    have hxl : xs.length ≤ 200 := by
      have := propsB_len (ps.take k) (fun p hp => hsm p (List.mem_of_mem_take hp))
      rw [hxs]; simp at this ⊢; omega
    have HX : Hid (xs = UInt8.ofNat ps.length :: propsB (ps.take k)) := hxs
    clear hxs
    by_cases hlt : k < ps.length
    · obtain ⟨b, off, rfl, hblt, h0, h1', h2, h3⟩ := hps k hlt
      obtain ⟨p, hp⟩ : ∃ p, p = ps[k] := ⟨_, rfl⟩
      have hsp := hsm ps[k] (List.getElem_mem _)
      rw [← hp] at h0 h1' h2 h3 hsp
      have cc : ∀ o, wr.cell? ⟨b, o, none⟩ = w.cell? ⟨b, o, none⟩ := fun o => by
        rw [hnx.cell (by show b < _; omega)]; exact World.cell?_alloc_lt _ _ _ hblt
      have g0 : wr.cell? ⟨b, off + k * 4, none⟩ = _ := (cc _).trans h0
      have g1 : wr.cell? ⟨b, off + k * 4 + 1, none⟩ = _ := (cc _).trans h1'
      have g2 : wr.cell? ⟨b, off + k * 4 + 2, none⟩ = _ := (cc _).trans h2
      have g3 : wr.cell? ⟨b, off + k * 4 + 3, none⟩ = _ := (cc _).trans h3
      clear cc h0 h1' h2 h3
      have HP : Hid (p = ps[k]) := hp
      clear hp
      go_wp2_with (go_at_call 85; refine (appendProp_any (w.heap.size + 1) _ xs p _ (hown.alloc _) (by simp; omega) (by omega) hsp).mono ?_; rintro e w1 ⟨v1, rfl, hown1, hg1, hm1⟩)
      go_roundw
      case rel =>
        refine ⟨k + 1, by omega, by go_num, hnx.trans (((Below.refl _ _).alloc hsz _).trans (own_drop (hown.alloc _) (by simp; omega) hg1)), ?_⟩
        have e1 : UInt8.ofNat ps.length :: propsB (ps.take (k + 1)) = xs ++ propB p := by rw [HX.out, HP.out, propsB_take ps k hlt]; rfl
        rw [e1]; exact hown1
      case measure => simp [intOf]; omega
    · go_wp2_with (first
        | (at_builtin; refine wpList_app rfl (.tmp 22) (.tmp 27) rfl (w.heap.size + 1) _ xs.length (u8s xs) rfl (hown.alloc _) (wr.heap.size + 1) _ [UInt8.ofNat body.length] rfl (new_bytes wr [UInt8.ofNat body.length] _ (by simp [maxLen]) (by simp [u8s, HB2.out] <;> omega)) (by simp; omega) (by simp; omega) ?_; intro ao cap w2 hown2 hg2 hm2; have b2 : Below (w.heap.size + 1) wr w2 := ((Below.refl _ _).alloc hsz _).trans (own_drop (hown.alloc _) (by simp; omega) hg2); have hn2 : w2.cell? ⟨w.heap.size, 1, none⟩ = some (.slice ba body.length bc) := ((b2.cell (by simp)).trans hn1); have hz2 := b2.size)
        | (at_builtin; refine wpList_app rfl (.tmp 29) (.tmp 31) rfl (w.heap.size + 1) _ (xs.length + [UInt8.ofNat body.length].length) (u8s xs ++ u8s [UInt8.ofNat body.length]) rfl hown2 w.heap.size _ body rfl (hbd.same (fun j hj => (b2.block j (by omega)).trans ((hnx.block j (by omega)).trans (Below.heap_alloc _ _ _ hj)))) (by simp; omega) (by omega) ?_; intro ao3 cap3 w3 hown3 hg3 hm3))
      go_ret
      have e : k = ps.length := by omega
      have e1 : bytesF ps body = xs ++ [UInt8.ofNat body.length] ++ body := by
        rw [HX.out, e, List.take_of_length_le (Nat.le_refl _)]; simp [bytesF]
      refine ⟨_, rfl, ?_, ?_⟩
      · rw [e1, u8s_append, u8s_append, List.length_append, List.length_append]
        exact own_mono hown3 (by omega)
      · exact ((Below.refl _ _).alloc (Nat.le_refl _) _).trans (((hnx.trans b2).trans (own_drop hown2 (by omega) hg3)).mono (by omega))
end Go.Proofs.Ytkddkpdfeeikhaa.NT
