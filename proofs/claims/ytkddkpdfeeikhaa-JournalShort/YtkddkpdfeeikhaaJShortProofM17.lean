/-
  NtParse; NtBytes: texts laid together.
-/
import Derived.Test.YtkddkpdfeeikhaaJShortProofM16
/-
  note.Parse answers what parseF says of any bytes.
-/
namespace Go.Proofs.Ytkddkpdfeeikhaa.NT
open Go.RowKit
set_option linter.unusedVariables false
set_option linter.unusedSimpArgs false

attribute [local go_sem ↓] Go.wp_at_zero Go.wp_at_succ

/-- A slice of properties that reads as ps. -/
def SliceP (B : Nat) (w : World) (v : Value) (ps : List PD) : Prop :=
  ∃ a cap, v = .slice a ps.length cap ∧ ps.length ≤ cap ∧ cap ≤ maxLen ∧ (a = none → cap = 0) ∧ PropsAt B w a ps

theorem SliceP.same {B : Nat} {w w' : World} {v : Value} {ps : List PD} (h : SliceP B w v ps) (hb : ∀ k, k < B → w'.heap[k]? = w.heap[k]?) : SliceP B w' v ps := by
  obtain ⟨a, cap, rfl, h1, h2, hn, h3⟩ := h
  exact ⟨a, cap, rfl, h1, h2, hn, h3.same hb⟩
theorem SliceP.mono {B B' : Nat} {w : World} {v : Value} {ps : List PD} (h : SliceP B w v ps) (hb : B ≤ B') : SliceP B' w v ps := by
  obtain ⟨a, cap, rfl, h1, h2, hn, h3⟩ := h
  exact ⟨a, cap, rfl, h1, h2, hn, h3.mono hb⟩
theorem SliceP.nil (B : Nat) (w : World) : SliceP B w (.slice none 0 0) [] := ⟨none, 0, rfl, Nat.le_refl _, by simp [maxLen], fun _ => rfl, fun i h => by simp at h⟩

theorem cellsL_len (l : List PD) : (cellsL l).length = l.length * 4 := by
  induction l with
  | nil => rfl
  | cons p r ih =>
    have e : cellsL (p :: r) = p.cells ++ cellsL r := by simp [cellsL]
    rw [e, List.length_append, ih]; simp [PD.cells]; omega

theorem cellsL_at (l : List PD) (i j : Nat) (h : i < l.length) (hj : j < 4) : (cellsL l)[i * 4 + j]? = l[i].cells[j]? := by
  induction l generalizing i with
  | nil => simp at h
  | cons p r ih =>
    have e : cellsL (p :: r) = p.cells ++ cellsL r := by simp [cellsL]
    rw [e]
    cases i with
    | zero => rw [List.getElem?_append_left (by simp [PD.cells]; omega)]; simp
    | succ i =>
      rw [List.getElem?_append_right (by simp [PD.cells]; omega)]
      have := ih i (by simpa using h)
      simp only [PD.cells, List.length_cons, List.length_nil] at this ⊢
      rw [show (i + 1) * 4 + j - (0 + 1 + 1 + 1 + 1) = i * 4 + j by omega, this]
      simp

/-- What is owned reads as a slice of properties. -/
theorem own_props {w : World} {base : Nat} {v : Value} {ps : List PD} (h : w.ownsRow base 98 4 v ps.length (cellsL ps)) : SliceP w.heap.size w v ps := by
  have hl := h.lt
  obtain ⟨ao, cap, rfl, h1, h2, h3⟩ := own_shape h
  refine ⟨ao, cap, rfl, h1, h2, h3, fun i hi => ?_⟩
  rcases h.2 with ⟨e, h0⟩ | ⟨g, cap', cur, e, hb, hg, _⟩
  · omega
  · simp only [Value.slice.injEq] at e
    obtain ⟨rfl, _, _⟩ := e
    refine ⟨g, 0, rfl, (hl g rfl).2, ?_⟩
    have hc := fun j (hj : j < 4) u (hu : ps[i].cells[j]? = some u) => h.cells (g := g) rfl (i * 4 + j) u ((cellsL_at ps i j hi hj).trans hu)
    have c0 := hc 0 (by omega) _ rfl
    have c1 := hc 1 (by omega) _ rfl
    have c2 := hc 2 (by omega) _ rfl
    have c3 := hc 3 (by omega) _ rfl
    rw [add_none] at c0 c1 c2 c3
    simp only [Nat.zero_add, Nat.add_zero] at c0 c1 c2 c3
    unfold PropAt
    simp only [Nat.zero_add]
    exact ⟨c0, c1, c2, c3⟩

/-- note.Parse, as a function of the bytes: what is told, the note, how many. -/
def parseF (b : List UInt8) : Int × List PD × List UInt8 × Nat :=
  if (sizeF (b, false)).2.2 then (9, [], [], 0)
  else if 4 < (sizeF (b, false)).1 then (5, [], [], 0)
  else if (noteF (sizeF (b, false)).1 (sizeF (b, false)).2).2.2.2 then (9, [], [], 0)
  else if wrongN (noteF (sizeF (b, false)).1 (sizeF (b, false)).2).1 (noteF (sizeF (b, false)).1 (sizeF (b, false)).2).2.1.length == 0 then
    (0, (noteF (sizeF (b, false)).1 (sizeF (b, false)).2).1, (noteF (sizeF (b, false)).1 (sizeF (b, false)).2).2.1, b.length - (noteF (sizeF (b, false)).1 (sizeF (b, false)).2).2.2.1.length)
  else (wrongN (noteF (sizeF (b, false)).1 (sizeF (b, false)).2).1 (noteF (sizeF (b, false)).1 (sizeF (b, false)).2).2.1.length, [], [], 0)

theorem takeF_fits (n : Nat) (s) (h : n ≤ 255) : (bstr (takeF n s).1).size ≤ maxLen := by
  rw [bstr_size]; have := takeF_le n s; unfold maxLen; omega
theorem textF_fits (s) : (textF s).1.size ≤ maxLen := takeF_fits _ _ (sizeF_le s)
theorem propF_fits (s) : (propF s).1.fits := by
  unfold propF PD.fits
  split
  · exact ⟨textF_fits _, textF_fits _⟩
  · exact ⟨textF_fits _, by simp [ByteArray.size, maxLen]⟩
theorem propsF_fits (k : Nat) (s) : ∀ p ∈ (propsF k s).1, p.fits := by
  induction k with
  | zero => intro p hp; simp [propsF] at hp
  | succ k ih =>
    intro p hp
    simp only [propsF, List.mem_append, List.mem_singleton] at hp
    rcases hp with hp | rfl
    · exact ih p hp
    · exact propF_fits _

theorem wrong_any' (pa : Option Addr) (pl pc : Nat) (ps : List PD) (ba : Option Addr) (bl bc : Nat) (w : World) (hl : ps.length = pl) (hps : PropsAt w.heap.size w pa ps) (hfit : ∀ p ∈ ps, p.fits) (hpl : pl ≤ maxLen) (hbl : bl ≤ maxLen) :
    Calls Try.prog 97 #[.agg #[.slice pa pl pc, .slice ba bl bc]] w fun e w' => e = .returned (.int .i64 (wrongN ps bl)) ∧ Below w.heap.size w w' := by
  subst hl
  exact wrong_any pa pc ps ba bl bc w hps hfit hpl hbl

theorem rd_start (w : World) (a : Option Addr) (b : List UInt8) (cap : Nat) (hb : SliceB w.heap.size w (.slice a b.length cap) b) (o1 : Obj) :
    Rd ((w.alloc o1).alloc (.cells #[.slice a b.length cap, .bool false] 169)) (w.heap.size + 1) (b, false) := by
  have hs : ∀ k, k < w.heap.size → ((w.alloc o1).alloc (.cells #[.slice a b.length cap, .bool false] 169)).heap[k]? = w.heap[k]? := fun k hk =>
    (Below.heap_alloc _ _ _ (by simp; omega)).trans (Below.heap_alloc _ _ _ hk)
  exact ⟨.slice a b.length cap, by simp, (hb.same hs).mono (by omega), by simp, by simp, by simp⟩

/-- Behind a call on the reader in the second new block. -/
theorem below_rd {w w1 : World} {o1 o2 : Obj} (hg : ((w.alloc o1).alloc o2).grownBy w1 (some (w.heap.size + 1))) : Below w.heap.size w w1 :=
  Below.grown (((Below.refl _ w).alloc (Nat.le_refl _) _).alloc (by simp) _) hg (by simp; omega) (fun k hk => by simp at hk; omega)

theorem note0 {w w1 : World} {o2 : Obj} {u v : Value} (hg : ((w.alloc (.cells #[u, v] 28)).alloc o2).grownBy w1 (some (w.heap.size + 1))) : NoteBlk w1 w.heap.size u v := by
  have h0 : NoteBlk ((w.alloc (.cells #[u, v] 28)).alloc o2) w.heap.size u v := (Below.heap_alloc _ _ _ (by simp)).trans (heap_alloc_new w _)
  exact h0.grown hg (by simp)
theorem note_below {w w1 : World} {o : Obj} {b : Nat} {u v : Value} (h : NoteBlk w b u v) (hb : Below (w.alloc o).heap.size (w.alloc o) w1) : NoteBlk w1 b u v :=
  h.same ((hb.block b (by have := h.lt; simp; omega)).trans (Below.heap_alloc _ _ _ h.lt))

theorem own_final {w2 w3 : World} {o : Obj} {base : Nat} {e : TypeId} {size : Nat} {v : Value} {n : Nat} {xs : List Value} (hv : w2.ownsRow base e size v n xs) (hb3 : Below (w2.alloc o).heap.size (w2.alloc o) w3) {b : Nat} (hlt : b < base) (v0 v1 : Value) :
    (((w3.setCell ⟨b, 0, none⟩ v0).setCell ⟨b, 1, none⟩ v1).drew).ownsRow base e size v n xs := by
  have h1 : w3.ownsRow base e size v n xs := (hv.alloc o).kept (row := none) (grownBy_of_below hb3) (by cases v.ownBlock <;> simp)
  exact (ownsRow_setCell_below (ownsRow_setCell_below h1 (by simpa using hlt) _) (by simpa using hlt) _).drew

theorem takeF_rest (n : Nat) (s) : (takeF n s).2.1.length ≤ s.1.length := by
  unfold takeF; split <;> simp
theorem sizeF_rest (s) : (sizeF s).2.1.length ≤ s.1.length := by
  unfold sizeF; split <;> exact takeF_rest 1 s
theorem textF_rest (s) : (textF s).2.1.length ≤ s.1.length := Nat.le_trans (takeF_rest _ _) (sizeF_rest s)
theorem propF_rest (s) : (propF s).2.1.length ≤ s.1.length := by
  have h1 := textF_rest s
  have h2 := sizeF_rest (textF s).2
  unfold propF; split
  · have h3 := textF_rest (sizeF (textF s).2).2; simp only; omega
  · have h3 := takeF_rest 4 (sizeF (textF s).2).2; simp only [numberF]; omega
theorem propsF_rest (k : Nat) (s) : (propsF k s).2.1.length ≤ s.1.length := by
  induction k with
  | zero => exact Nat.le_refl _
  | succ k ih => exact Nat.le_trans (propF_rest _) ih
theorem noteF_rest (k : Nat) (s) : (noteF k s).2.2.1.length ≤ s.1.length := by
  have h1 := propsF_rest k s
  have h2 := sizeF_rest (propsF k s).2
  have h3 := takeF_rest (sizeF (propsF k s).2).1 (sizeF (propsF k s).2).2
  show (takeF (sizeF (propsF k s).2).1 (sizeF (propsF k s).2).2).2.1.length ≤ _
  omega

theorem props_new {w : World} {base : Nat} {va : Option Addr} {vc q : Nat} {ps : List PD} (hps : ps.length = q) (hv : w.ownsRow base 98 4 (.slice va q vc) q (cellsL ps)) (o : Obj) : PropsAt (w.alloc o).heap.size (w.alloc o) va ps := by
  subst hps
  obtain ⟨a, cap, e, _, _, _, h⟩ := own_props hv
  simp only [Value.slice.injEq] at e
  obtain ⟨rfl, _, _⟩ := e
  exact (h.same (fun k hk => Below.heap_alloc _ _ _ hk)).mono (by simp)

end Go.Proofs.Ytkddkpdfeeikhaa.NT

/-
  note.Bytes writes what bytesF says of a note that is right.
-/
namespace Go.Proofs.Ytkddkpdfeeikhaa.NT
open Go.RowKit
set_option linter.unusedVariables false
set_option linter.unusedSimpArgs false

def propsB (ps : List PD) : List UInt8 := ps.flatMap propB
def bytesF (ps : List PD) (body : List UInt8) : List UInt8 := UInt8.ofNat ps.length :: propsB ps ++ UInt8.ofNat body.length :: body

theorem propsB_take (ps : List PD) (k : Nat) (h : k < ps.length) : propsB (ps.take (k + 1)) = propsB (ps.take k) ++ propB ps[k] := by
  rw [List.take_succ_eq_append_getElem h]; unfold propsB; rw [List.flatMap_append]; simp [List.flatMap_cons]
theorem propsB_len (ps : List PD) (h : ∀ p ∈ ps, p.small) : (propsB ps).length ≤ ps.length * 40 := by
  induction ps with
  | nil => simp [propsB]
  | cons p r ih =>
    have e : propsB (p :: r) = propB p ++ propsB r := by simp [propsB]
    have h1 := propB_len p (h p (by simp))
    have h2 := ih (fun q hq => h q (by simp [hq]))
    rw [e, List.length_append, List.length_cons]; omega

theorem new_own (w : World) (base : Nat) (bs : List UInt8) (cs : Array Value) (hl : bs.length ≤ maxLen) (h : cs.toList = u8s bs) (hb : base ≤ w.heap.size) : (w.alloc (.cells cs 5)).ownsRow base 5 1 (.slice (some ⟨w.heap.size, 0, none⟩) bs.length bs.length) bs.length (u8s bs) := by
  have hs : cs.size = bs.length := by rw [← Array.length_toList, h, u8s_len]
  refine ⟨by simp [u8s], .inr ⟨w.heap.size, bs.length, cs, rfl, hb, heap_alloc_new w _, Nat.le_refl _, hl, by simpa using hs, ?_⟩⟩
  rw [h, List.take_of_length_le (by simp [u8s])]

set_option maxHeartbeats 1000000 in
theorem bytes_any (pa : Option Addr) (pc : Nat) (ps : List PD) (ba : Option Addr) (bc : Nat) (body : List UInt8) (w : World) (hps : PropsAt w.heap.size w pa ps) (hbd : SliceB w.heap.size w (.slice ba body.length bc) body) (hl : ps.length ≤ 4) (hbl : body.length ≤ 255) (hsm : ∀ p ∈ ps, p.small) :
    Calls Try.prog 51 #[.agg #[.slice pa ps.length pc, .slice ba body.length bc]] w fun e w' => ∃ v, e = .returned v ∧ w'.ownsRow w.heap.size 5 1 v (bytesF ps body).length (u8s (bytesF ps body)) ∧ Below w.heap.size w w' := by
  have HB1 : Hid (((UInt8.ofNat ps.length).toNat : Int) = ps.length) := byte_of _ (by omega)
  have HB2 : Hid (((UInt8.ofNat body.length).toNat : Int) = body.length) := byte_of _ (by omega)
  have hpl := propsB_len ps hsm
  go_enter Try.func51, Try.ntmps51
  go_wp2
  go_loopw [3, 14] (fun v i wr => ∃ k : Nat, k ≤ ps.length ∧ i = .int .i64 k ∧ Below (w.heap.size + 1) (w.alloc (.cells #[.slice pa ps.length pc, .slice ba body.length bc] 28)) wr ∧
      wr.ownsRow (w.heap.size + 1) 5 1 v (UInt8.ofNat ps.length :: propsB (ps.take k)).length (u8s (UInt8.ofNat ps.length :: propsB (ps.take k))))
    (fun _ i _ => ps.length - (intOf i).toNat)
  case atStart =>
    refine ⟨0, Nat.zero_le _, rfl, (Below.refl _ _).alloc (by simp) _, ?_⟩
    have := new_own (w.alloc (.cells #[.slice pa ps.length pc, .slice ba body.length bc] 28)) (w.heap.size + 1) [UInt8.ofNat ps.length] #[.int .u8 ps.length] (by simp [maxLen]) (by simp [u8s, HB1.out]; omega) (by simp)
    simpa [propsB] using this
  case round =>
    obtain ⟨k, hk, rfl, hnx, hown⟩ := hrel
    have hsz : w.heap.size + 1 ≤ wr.heap.size := by have := hnx.size; simpa using this
    have hn1 : wr.cell? ⟨w.heap.size, 1, none⟩ = some (.slice ba body.length bc) := by rw [hnx.cell (by simp)]; simp
    obtain ⟨xs, hxs⟩ : ∃ xs, xs = UInt8.ofNat ps.length :: propsB (ps.take k) := ⟨_, rfl⟩
    rw [← hxs] at hown
    have hxl : xs.length ≤ 200 := by
      have := propsB_len (ps.take k) (fun p hp => hsm p (List.mem_of_mem_take hp))
      rw [hxs]; simp at this ⊢; omega
    have HX : Hid (xs = UInt8.ofNat ps.length :: propsB (ps.take k)) := hxs
    clear hxs
    by_cases hlt : k < ps.length
    · obtain ⟨b, off, rfl, hblt, h0, h1', h2, h3⟩ := hps k hlt
      obtain ⟨p, hp⟩ : ∃ p, p = ps[k] := ⟨_, rfl⟩
      have hsp := hsm ps[k] (List.getElem_mem _)
      rw [← hp] at h0 h1' h2 h3 hsp
      have cc : ∀ o, wr.cell? ⟨b, o, none⟩ = w.cell? ⟨b, o, none⟩ := fun o => by
        rw [hnx.cell (by show b < _; omega)]; exact World.cell?_alloc_lt _ _ _ hblt
      have g0 : wr.cell? ⟨b, off + k * 4, none⟩ = _ := (cc _).trans h0
      have g1 : wr.cell? ⟨b, off + k * 4 + 1, none⟩ = _ := (cc _).trans h1'
      have g2 : wr.cell? ⟨b, off + k * 4 + 2, none⟩ = _ := (cc _).trans h2
      have g3 : wr.cell? ⟨b, off + k * 4 + 3, none⟩ = _ := (cc _).trans h3
      clear cc h0 h1' h2 h3
      have HP : Hid (p = ps[k]) := hp
      clear hp
      go_wp2_with (go_at_call 85; refine (appendProp_any (w.heap.size + 1) _ xs p _ (hown.alloc _) (by simp; omega) (by omega) hsp).mono ?_; rintro e w1 ⟨v1, rfl, hown1, hg1, hm1⟩)
      go_roundw
      case rel =>
        refine ⟨k + 1, by omega, by go_num, hnx.trans (((Below.refl _ _).alloc hsz _).trans (own_drop (hown.alloc _) (by simp; omega) hg1)), ?_⟩
        have e1 : UInt8.ofNat ps.length :: propsB (ps.take (k + 1)) = xs ++ propB p := by rw [HX.out, HP.out, propsB_take ps k hlt]; rfl
        rw [e1]; exact hown1
      case measure => simp [intOf]; omega
    · go_wp2_with (first
        | (at_builtin; refine wpList_app rfl (.tmp 22) (.tmp 27) rfl (w.heap.size + 1) _ xs.length (u8s xs) rfl (hown.alloc _) (wr.heap.size + 1) _ [UInt8.ofNat body.length] rfl (new_bytes wr [UInt8.ofNat body.length] _ (by simp [maxLen]) (by simp [u8s, HB2.out] <;> omega)) (by simp; omega) (by simp; omega) ?_; intro ao cap w2 hown2 hg2 hm2; have b2 : Below (w.heap.size + 1) wr w2 := ((Below.refl _ _).alloc hsz _).trans (own_drop (hown.alloc _) (by simp; omega) hg2); have hn2 : w2.cell? ⟨w.heap.size, 1, none⟩ = some (.slice ba body.length bc) := ((b2.cell (by simp)).trans hn1); have hz2 := b2.size)
        | (at_builtin; refine wpList_app rfl (.tmp 29) (.tmp 31) rfl (w.heap.size + 1) _ (xs.length + [UInt8.ofNat body.length].length) (u8s xs ++ u8s [UInt8.ofNat body.length]) rfl hown2 w.heap.size _ body rfl (hbd.same (fun j hj => (b2.block j (by omega)).trans ((hnx.block j (by omega)).trans (Below.heap_alloc _ _ _ hj)))) (by simp; omega) (by omega) ?_; intro ao3 cap3 w3 hown3 hg3 hm3))
      go_ret
      have e : k = ps.length := by omega
      have e1 : bytesF ps body = xs ++ [UInt8.ofNat body.length] ++ body := by
        rw [HX.out, e, List.take_of_length_le (Nat.le_refl _)]; simp [bytesF]
      refine ⟨_, rfl, ?_, ?_⟩
      · rw [e1, u8s_append, u8s_append, List.length_append, List.length_append]
        exact own_mono hown3 (by omega)
      · exact ((Below.refl _ _).alloc (Nat.le_refl _) _).trans (((hnx.trans b2).trans (own_drop hown2 (by omega) hg3)).mono (by omega))
end Go.Proofs.Ytkddkpdfeeikhaa.NT
