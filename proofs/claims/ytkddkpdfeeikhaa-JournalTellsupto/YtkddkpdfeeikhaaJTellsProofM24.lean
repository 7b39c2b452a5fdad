/-
  NtAppend; NtNote: texts laid together.
-/
import Derived.Test.YtkddkpdfeeikhaaJTellsProofM23
import Derived.Deep.RegionWith
import Derived.Deep.RegionHeld3
import Derived.Deep.AppendLies
import Derived.Deep.RegionLaw
import Derived.Deep.DrawnRows
import Derived.OwnWalk
/-
  appendText, appendNumber and appendProp write what txt, num4 and propB say.
-/
namespace Go.Proofs.Ytkddkpdfeeikhaa.NT
open Go.RowKit
set_option linter.unusedVariables false
set_option linter.unusedSimpArgs false

theorem own_drop {w w' : World} {base : Nat} {v : Value} {n : Nat} {xs : List Value} (h : w.ownsRow base 5 1 v n xs) (hb : base ≤ w.heap.size) (hg : w.grownBy w' v.ownBlock) : Below base w w' :=
  Below.grown (Below.refl _ _) hg hb (fun k hk => (h.lt k hk).1)

/-- A new row of bytes. -/
theorem new_bytes (w : World) (bs : List UInt8) (cs : Array Value) (hl : bs.length ≤ maxLen) (h : cs.toList = u8s bs) : SliceB (w.heap.size + 1) (w.alloc (.cells cs 5)) (.slice (some ⟨w.heap.size, 0, none⟩) bs.length bs.length) bs := by
  refine ⟨_, _, rfl, Nat.le_refl _, hl, fun h => by simp at h, fun i hi => ⟨w.heap.size, 0, rfl, by omega, ?_⟩⟩
  have : cs[i]? = some (.int .u8 bs[i].toNat) := by
    rw [← Array.getElem?_toList, h]; simp [u8s, hi]
  simp [this]

def txt (s : ByteArray) : List UInt8 := UInt8.ofNat s.size :: s.data.toList
theorem size_list (s : ByteArray) : s.data.toList.length = s.size := by rw [Array.length_toList]; rfl

theorem byte_of (n : Nat) (h : n ≤ 255) : ((UInt8.ofNat n).toNat : Int) = n := by
  simp [UInt8.toNat_ofNat]; omega

set_option maxHeartbeats 400000 in
theorem appendText_any (base : Nat) (v : Value) (xs : List UInt8) (s : ByteArray) (w : World) (hown : w.ownsRow base 5 1 v xs.length (u8s xs)) (hb : base ≤ w.heap.size) (hx : xs.length ≤ 1000000) (hs : s.size ≤ 255) :
    Calls Try.prog 107 #[v, .string s] w fun e w' => ∃ v', e = .returned v' ∧ w'.ownsRow base 5 1 v' (xs ++ txt s).length (u8s (xs ++ txt s)) ∧ w.grownBy w' v.ownBlock ∧ Moved w v v' := by
  have hby := byte_of s.size hs
  have HB : Hid (((UInt8.ofNat s.size).toNat : Int) = s.size) := hby
  clear hby
  go_enter Try.func107, Try.ntmps107
  go_wp2_with (first
    | (at_builtin; refine wpList_app rfl (.tmp 5) (.tmp 9) rfl base v xs.length (u8s xs) rfl (hown.alloc _) (w.heap.size + 1) _ [UInt8.ofNat s.size] rfl (new_bytes w [UInt8.ofNat s.size] _ (by simp [maxLen]) (by simp [u8s, HB.out]; omega)) (by simp; omega) (by simp; omega) ?_; intro ao cap w1 hown1 hg1 hm1)
    | (at_builtin; refine wpList_app_str rfl (.tmp 11) (.tmp 12) rfl base _ _ _ rfl hown1 s rfl (by simp; omega) (by have := hg1.size; simp at this; omega) ?_; intro ao2 cap2 w2 hown2 hg2 hm2))
  go_ret
  have e1 : u8s (xs ++ txt s) = u8s xs ++ u8s [UInt8.ofNat s.size] ++ u8s s.data.toList := by simp [u8s, txt]
  have e2 : (xs ++ txt s).length = xs.length + [UInt8.ofNat s.size].length + s.size := by simp [txt, size_list]; omega
  have g1 : w.grownBy w1 v.ownBlock := moved_grown (World.grownBy_alloc _ _ _) (Moved.refl _ _) hg1
  have m1 : Moved w v _ := hm1.of (by simp)
  refine ⟨_, rfl, ?_, moved_grown g1 m1 hg2, m1.trans g1.size hm2⟩
  rw [e1, e2]
  exact hown2

def num4 (n : Int) : List UInt8 := [UInt8.ofNat (n % 4294967296 / 16777216).toNat, UInt8.ofNat (n % 4294967296 / 65536 % 256).toNat, UInt8.ofNat (n % 4294967296 / 256 % 256).toNat, UInt8.ofNat (n % 256).toNat]

theorem byteI (x : Int) (h0 : 0 ≤ x) (h1 : x ≤ 255) : ((UInt8.ofNat x.toNat).toNat : Int) = x := by
  simp [UInt8.toNat_ofNat]; omega
theorem num4_cells (n : Int) : [Value.int IntKind.u8 (n % 4294967296 / 16777216), Value.int IntKind.u8 (n % 4294967296 / 65536 % 256),
      Value.int IntKind.u8 (n % 4294967296 / 256 % 256), Value.int IntKind.u8 (n % 256)] = u8s (num4 n) := by
  simp only [u8s, num4, List.map_cons, List.map_nil]
  rw [byteI _ (by omega) (by omega), byteI _ (by omega) (by omega), byteI _ (by omega) (by omega), byteI _ (by omega) (by omega)]

set_option maxHeartbeats 400000 in
theorem appendNumber_any (base : Nat) (v : Value) (xs : List UInt8) (n : Int) (w : World) (hown : w.ownsRow base 5 1 v xs.length (u8s xs)) (hb : base ≤ w.heap.size) (hx : xs.length ≤ 1000000) :
    Calls Try.prog 108 #[v, .int .i64 n] w fun e w' => ∃ v', e = .returned v' ∧ w'.ownsRow base 5 1 v' (xs ++ num4 n).length (u8s (xs ++ num4 n)) ∧ w.grownBy w' v.ownBlock ∧ Moved w v v' := by
  go_enter Try.func108, Try.ntmps108
  go_wp2_with (
     (at_builtin; refine wpList_app rfl (.tmp 8) (.tmp 20) rfl base v xs.length (u8s xs) rfl (hown.alloc _) (w.heap.size + 1) _ (num4 n) rfl (new_bytes w (num4 n) _ (by simp [num4, maxLen]) ?hcells) (by simp [num4]; omega) (by simp; omega) ?_; rotate_left; intro ao cap w1 hown1 hg1 hm1))
  · go_ret
    refine ⟨_, rfl, ?_, moved_grown (World.grownBy_alloc _ _ _) (Moved.refl _ _) hg1, hm1.of (by simp)⟩
    rw [u8s_append, List.length_append]
    exact hown1
  · exact num4_cells n

def propB (p : PD) : List UInt8 := txt p.key ++ (UInt8.ofNat p.kind.toNat :: if p.kind == 2 then txt p.text else num4 p.n)
/-- What Bytes asks of a property (a right one has it). -/
def PD.small (p : PD) : Prop := p.key.size ≤ 8 ∧ 1 ≤ p.kind ∧ p.kind ≤ 3 ∧ (p.kind = 2 → p.text.size ≤ 12)

theorem txt_len (s : ByteArray) : (txt s).length = s.size + 1 := by simp [txt, size_list]
theorem propB_len (p : PD) (h : p.small) : (propB p).length ≤ 40 := by
  obtain ⟨h1, h2, h3, h4⟩ := h
  unfold propB
  split
  · have := h4 (eqb (by assumption))
    simp [txt_len]; omega
  · simp [txt_len, num4]; omega

theorem own_far {W w1 : World} {row : Option Nat} (hb : W.grownBy w1 row) (b : Nat) (h : b < W.heap.size) (hn : some b ≠ row) : (∀ o, w1.cell? ⟨b, o, none⟩ = W.cell? ⟨b, o, none⟩) ∧ (∀ o, w1.frozen? ⟨b, o, none⟩ = W.frozen? ⟨b, o, none⟩) :=
  ⟨fun o => World.cell?_of_block (a := ⟨b, o, none⟩) (hb.block b h hn), fun o => World.frozen?_of_block (a := ⟨b, o, none⟩) (hb.block b h hn)⟩
/-- The box that was laid ahead of the append is not the row. -/
theorem box_ne {w : World} {o : Obj} {v v1 : Value} (hv : v.ownBlock ≠ some w.heap.size) (hm : Moved (w.alloc o) v v1) : some w.heap.size ≠ v1.ownBlock := by
  intro e
  rcases hm _ e.symm with h | h
  · exact hv h
  · rw [World.size_alloc] at h; omega

set_option maxHeartbeats 400000 in
theorem appendProp_any (base : Nat) (v : Value) (xs : List UInt8) (p : PD) (w : World) (hown : w.ownsRow base 5 1 v xs.length (u8s xs)) (hb : base ≤ w.heap.size) (hx : xs.length ≤ 900000) (hp : p.small) :
    Calls Try.prog 85 #[v, .agg #[.string p.key, .int .i64 p.kind, .int .i64 p.n, .string p.text]] w fun e w' => ∃ v', e = .returned v' ∧ w'.ownsRow base 5 1 v' (xs ++ propB p).length (u8s (xs ++ propB p)) ∧ w.grownBy w' v.ownBlock ∧ Moved w v v' := by
  obtain ⟨h1, h2, h3, h4⟩ := hp
  have hkb : Hid (((UInt8.ofNat p.kind.toNat).toNat : Int) = p.kind) := byteI _ (by omega) (by omega)
  have HL : Hid ((txt p.key).length = p.key.size + 1) := txt_len p.key
  have hvb : v.ownBlock ≠ some w.heap.size := fun e => by have := (hown.lt _ e).2; omega
  cases hk2 : (p.kind == 2) with
  | true =>
    have hPB : Hid (propB p = txt p.key ++ (UInt8.ofNat p.kind.toNat :: txt p.text)) := by show propB p = _; rw [propB, hk2]; rfl
    have h5 := h4 (eqb hk2)
    go_enter Try.func85, Try.ntmps85
    go_wp2_with (first
      | (at_builtin; refine wpList_app rfl (.tmp 9) (.tmp 13) rfl base v1 (xs ++ txt p.key).length (u8s (xs ++ txt p.key)) rfl (hown1.alloc _) (w1.heap.size + 1) _ [UInt8.ofNat p.kind.toNat] rfl (new_bytes w1 [UInt8.ofNat p.kind.toNat] _ (by simp [maxLen]) (by simp [u8s, hkb.out] <;> omega)) (by simp [HL.out]; omega) (by simp; omega) ?_; intro ao cap w2 hown2 hg2 hm2; obtain ⟨k1, k2⟩ := own_far hg2 w.heap.size (by simp; omega) (box_ne hvb hm1))
      | (go_at_call_of 107 (Value.string p.key); refine (appendText_any base v xs p.key _ (hown.alloc _) (by simp; omega) (by omega) (by omega)).mono ?_; rintro e w1 ⟨v1, rfl, hown1, hg1, hm1⟩; have hz1 : w.heap.size < w1.heap.size := (by have := hg1.size; simp at this; omega); obtain ⟨j1, j2⟩ := own_far hg1 w.heap.size (by simp) (Ne.symm hvb))
      | (go_at_call_of 107 (Value.string p.text); refine (appendText_any base _ (xs ++ txt p.key ++ [UInt8.ofNat p.kind.toNat]) p.text _ (by simpa [u8s, Nat.add_assoc] using hown2) (by have := hg2.size; simp at this; omega) (by simp [HL.out]; omega) (by omega)).mono ?_; rintro e w3 ⟨v3, rfl, hown3, hg3, hm3⟩))
    go_ret
    have g1 : w.grownBy w1 v.ownBlock := moved_grown (World.grownBy_alloc _ _ _) (Moved.refl _ _) hg1
    have m1 : Moved w v v1 := hm1.of (by simp)
    have g2 : w1.grownBy w2 v1.ownBlock := moved_grown (World.grownBy_alloc _ _ _) (Moved.refl _ _) hg2
    have m2' : Moved w1 v1 (.slice ao ((xs ++ txt p.key).length + [UInt8.ofNat p.kind.toNat].length) cap) := hm2.of (by simp)
    have m2 : Moved w1 v1 (.slice ao (xs.length + (txt p.key).length + 1) cap) := by simpa only [List.length_append, List.length_cons, List.length_nil, Nat.zero_add] using m2'
    have g3 := moved_grown g1 m1 g2
    have m3 := m1.trans g1.size m2
    refine ⟨_, rfl, ?_, moved_grown g3 m3 hg3, m3.trans g3.size hm3⟩
    rw [hPB.out]
    simpa using hown3
  | false =>
    have hPB : Hid (propB p = txt p.key ++ (UInt8.ofNat p.kind.toNat :: num4 p.n)) := by show propB p = _; rw [propB, hk2]; rfl
    go_enter Try.func85, Try.ntmps85
    go_wp2_with (first
      | (at_builtin; refine wpList_app rfl (.tmp 9) (.tmp 13) rfl base v1 (xs ++ txt p.key).length (u8s (xs ++ txt p.key)) rfl (hown1.alloc _) (w1.heap.size + 1) _ [UInt8.ofNat p.kind.toNat] rfl (new_bytes w1 [UInt8.ofNat p.kind.toNat] _ (by simp [maxLen]) (by simp [u8s, hkb.out] <;> omega)) (by simp [HL.out]; omega) (by simp; omega) ?_; intro ao cap w2 hown2 hg2 hm2; obtain ⟨k1, k2⟩ := own_far hg2 w.heap.size (by simp; omega) (box_ne hvb hm1))
      | (go_at_call_of 107 (Value.string p.key); refine (appendText_any base v xs p.key _ (hown.alloc _) (by simp; omega) (by omega) (by omega)).mono ?_; rintro e w1 ⟨v1, rfl, hown1, hg1, hm1⟩; have hz1 : w.heap.size < w1.heap.size := (by have := hg1.size; simp at this; omega); obtain ⟨j1, j2⟩ := own_far hg1 w.heap.size (by simp) (Ne.symm hvb))
      | (go_at_call 108; refine (appendNumber_any base _ (xs ++ txt p.key ++ [UInt8.ofNat p.kind.toNat]) p.n _ (by simpa [u8s, Nat.add_assoc] using hown2) (by have := hg2.size; simp at this; omega) (by simp [HL.out]; omega)).mono ?_; rintro e w3 ⟨v3, rfl, hown3, hg3, hm3⟩))
    go_ret
    have g1 : w.grownBy w1 v.ownBlock := moved_grown (World.grownBy_alloc _ _ _) (Moved.refl _ _) hg1
    have m1 : Moved w v v1 := hm1.of (by simp)
    have g2 : w1.grownBy w2 v1.ownBlock := moved_grown (World.grownBy_alloc _ _ _) (Moved.refl _ _) hg2
    have m2' : Moved w1 v1 (.slice ao ((xs ++ txt p.key).length + [UInt8.ofNat p.kind.toNat].length) cap) := hm2.of (by simp)
    have m2 : Moved w1 v1 (.slice ao (xs.length + (txt p.key).length + 1) cap) := by simpa only [List.length_append, List.length_cons, List.length_nil, Nat.zero_add] using m2'
    have g3 := moved_grown g1 m1 g2
    have m3 := m1.trans g1.size m2
    refine ⟨_, rfl, ?_, moved_grown g3 m3 hg3, m3.trans g3.size hm3⟩
    rw [hPB.out]
    simpa using hown3
end Go.Proofs.Ytkddkpdfeeikhaa.NT

/-
  (*reader).note reads what noteF says.
-/
namespace Go.Proofs.Ytkddkpdfeeikhaa.NT
open Go.RowKit
set_option linter.unusedVariables false
set_option linter.unusedSimpArgs false

attribute [local go_sem ↓] Go.wp_at_zero Go.wp_at_succ

def PD.cells (p : PD) : List Value := [.string p.key, .int .i64 p.kind, .int .i64 p.n, .string p.text]
def cellsL (l : List PD) : List Value := l.flatMap PD.cells

def propsF : Nat → (List UInt8 × Bool) → List PD × (List UInt8 × Bool)
  | 0, s => ([], s)
  | k + 1, s => ((propsF k s).1 ++ [(propF (propsF k s).2).1], (propF (propsF k s).2).2)

theorem propsF_len (k : Nat) (s) : (propsF k s).1.length = k := by
  induction k with
  | zero => rfl
  | succ k ih => simp [propsF, ih]

def NoteBlk (w : World) (b : Nat) (v u : Value) : Prop := w.heap[b]? = some (.cells #[v, u] 28 (0, 0))
theorem NoteBlk.c0 {w : World} {b : Nat} {v u : Value} (h : NoteBlk w b v u) : w.cell? ⟨b, 0, none⟩ = some v := by
  rw [cell_of_row w b 0 _ 28 (0, 0) h]; rfl
theorem NoteBlk.c1 {w : World} {b : Nat} {v u : Value} (h : NoteBlk w b v u) : w.cell? ⟨b, 1, none⟩ = some u := by
  rw [cell_of_row w b 1 _ 28 (0, 0) h]; rfl
theorem NoteBlk.f {w : World} {b : Nat} {v u : Value} (h : NoteBlk w b v u) (o : Nat) : w.frozen? ⟨b, o, none⟩ = false := by
  unfold NoteBlk at h
  simp [World.frozen?, h]
theorem NoteBlk.lt {w : World} {b : Nat} {v u : Value} (h : NoteBlk w b v u) : b < w.heap.size := (Array.getElem?_eq_some_iff.1 h).1
theorem NoteBlk.set0 {w : World} {b : Nat} {v u : Value} (h : NoteBlk w b v u) (v' : Value) : NoteBlk (w.setCell ⟨b, 0, none⟩ v') b v' u := by
  unfold NoteBlk at h ⊢
  simp [World.setCell, Array.getElem?_modify, h]
theorem NoteBlk.set1 {w : World} {b : Nat} {v u : Value} (h : NoteBlk w b v u) (u' : Value) : NoteBlk (w.setCell ⟨b, 1, none⟩ u') b v u' := by
  unfold NoteBlk at h ⊢
  simp [World.setCell, Array.getElem?_modify, h]
theorem NoteBlk.same {w w' : World} {b : Nat} {v u : Value} (h : NoteBlk w b v u) (hb : w'.heap[b]? = w.heap[b]?) : NoteBlk w' b v u := hb.trans h
theorem NoteBlk.grown {w w' : World} {b : Nat} {v u : Value} {row : Option Nat} (h : NoteBlk w b v u) (hb : w.grownBy w' row) (hn : some b ≠ row) : NoteBlk w' b v u := h.same (hb.block b h.lt hn)

def noteF (many : Nat) (s : List UInt8 × Bool) : List PD × List UInt8 × (List UInt8 × Bool) :=
  ((propsF many s).1, (takeF (sizeF (propsF many s).2).1 (sizeF (propsF many s).2).2).1, (takeF (sizeF (propsF many s).2).1 (sizeF (propsF many s).2).2).2)

theorem takeF_le (n : Nat) (s) : (takeF n s).1.length ≤ n := by
  unfold takeF; split <;> simp; omega
theorem sizeF_le (s) : (sizeF s).1 ≤ 255 := by
  unfold sizeF; split
  · simp
  · have := ((takeF 1 s).1.headD 0).toNat_lt
    simp only
    omega

theorem own_mono {w : World} {base base' : Nat} {e : TypeId} {size : Nat} {v : Value} {n : Nat} {xs : List Value} (h : w.ownsRow base e size v n xs) (hb : base' ≤ base) : w.ownsRow base' e size v n xs := by
  obtain ⟨h1, h2⟩ := h
  refine ⟨h1, ?_⟩
  rcases h2 with h2 | ⟨g, cap, cur, hv, hg, r⟩
  · exact .inl h2
  · exact .inr ⟨g, cap, cur, hv, by omega, r⟩

theorem bcellx {W w1 : World} (hb : W.grownBy w1 (Value.slice none 0 0).ownBlock) (b : Nat) (h : b < W.heap.size) : (∀ o, w1.cell? ⟨b, o, none⟩ = W.cell? ⟨b, o, none⟩) ∧ (∀ o, w1.frozen? ⟨b, o, none⟩ = W.frozen? ⟨b, o, none⟩) :=
  ⟨fun o => World.cell?_of_block (a := ⟨b, o, none⟩) (hb.block b h (by simp [Value.ownBlock])), fun o => World.frozen?_of_block (a := ⟨b, o, none⟩) (hb.block b h (by simp [Value.ownBlock]))⟩

theorem prop_any' (R : Nat) (s : List UInt8 × Bool) (w : World) (hR : Rd w R s) :
    Calls Try.prog 149 #[.pointer (some ⟨R, 0, none⟩)] w fun e w' => e = .returned (.agg #[.string (propF s).1.key, .int .i64 (propF s).1.kind, .int .i64 (propF s).1.n, .string (propF s).1.text]) ∧ Rd w' R (propF s).2 ∧ w.grownBy w' (some R) :=
  prop_any R s w hR

theorem grownBy_undrew {w w' : World} {r : Option Nat} (h : w.drew.grownBy w' r) : w.grownBy w' r := ⟨h.os, h.tape, h.output, h.size, h.block⟩

theorem cellsL_snoc (l : List PD) (p : PD) : cellsL (l ++ [p]) = cellsL l ++ p.cells := by simp [cellsL]

/-- What a round of 'note' leaves. -/
theorem note_step {w wr w1 w2 : World} {o : Obj} {R k gg cap : Nat} {v : Value} {s st : List UInt8 × Bool} {xs : List Value}
    (hlt : R < w.heap.size) (hg : w.grownBy wr (some R)) (nb0 : NoteBlk wr w.heap.size (.slice none 0 0) (.slice none 0 0)) (nb1 : NoteBlk wr (w.heap.size + 1) v (.slice none 0 0))
    (hown : wr.ownsRow (w.heap.size + 2) 98 4 v k xs) (hst : st = (propsF k s).2) (hxs : xs = cellsL (propsF k s).1)
    (hr1 : Rd w1 R (propF st).2) (hg1 : wr.grownBy w1 (some R)) (hown2 : w2.ownsRow (w.heap.size + 2) 98 4 (.slice (some ⟨gg, 0, none⟩) (k + 1) cap) (k + 1) (xs ++ (propF st).1.cells)) (hgrow : (w1.alloc o).grownBy w2 v.ownBlock) :
    Rd (w2.setCell ⟨w.heap.size + 1, 0, none⟩ (.slice (some ⟨gg, 0, none⟩) (k + 1) cap)) R (propsF (k + 1) s).2 ∧
    ∃ v', NoteBlk (w2.setCell ⟨w.heap.size + 1, 0, none⟩ (.slice (some ⟨gg, 0, none⟩) (k + 1) cap)) w.heap.size (.slice none 0 0) (.slice none 0 0) ∧
      NoteBlk (w2.setCell ⟨w.heap.size + 1, 0, none⟩ (.slice (some ⟨gg, 0, none⟩) (k + 1) cap)) (w.heap.size + 1) v' (.slice none 0 0) ∧
      (w2.setCell ⟨w.heap.size + 1, 0, none⟩ (.slice (some ⟨gg, 0, none⟩) (k + 1) cap)).ownsRow (w.heap.size + 2) 98 4 v' (k + 1) (cellsL (propsF (k + 1) s).1) ∧
      w.grownBy (w2.setCell ⟨w.heap.size + 1, 0, none⟩ (.slice (some ⟨gg, 0, none⟩) (k + 1) cap)) (some R) := by
  have hz := hg.size
  have hz1 := hg1.size
  have hb1 := nb1.lt
  have hob : ∀ b, b < w.heap.size + 2 → some b ≠ v.ownBlock := fun b hb e => by have := (hown.lt b e.symm).1; omega
  have hblk : ∀ b, b < w.heap.size + 2 → w2.heap[b]? = w1.heap[b]? := fun b hb =>
    (hgrow.block b (by simp; omega) (hob b hb)).trans (Below.heap_alloc _ _ _ (by omega))
  have n1 : NoteBlk w2 (w.heap.size + 1) v (.slice none 0 0) := (nb1.grown hg1 (by simp; omega)).same (hblk _ (by omega))
  have n0 : NoteBlk w2 w.heap.size (.slice none 0 0) (.slice none 0 0) := (nb0.grown hg1 (by simp; omega)).same (hblk _ (by omega))
  refine ⟨?_, _, n0.same (Below.heap_setCell _ _ _ _ (by simp)), n1.set0 _, ?_, ?_⟩
  · subst hst
    exact (hr1.kept (fun b hb => hblk b (by omega))).set (by simp; omega) _
  · subst hst hxs
    rw [propsF, cellsL_snoc]
    exact ownsRow_setCell_below hown2 (by simp) _
  · refine grownBy_set ⟨?_, ?_, ?_, ?_, ?_⟩ (by simp) _
    · exact hgrow.os.trans (hg1.os.trans hg.os)
    · exact hgrow.tape.trans (hg1.tape.trans hg.tape)
    · exact hgrow.output.trans (hg1.output.trans hg.output)
    · have := hgrow.size; simp at this; omega
    · intro b hb hn
      exact (hblk b (by omega)).trans ((hg1.block b (by omega) hn).trans (hg.block b hb hn))

/-- What stands at the end of 'note', ahead of the stores. -/
theorem note_end {w wr w1 w2 w3 : World} {R k cap : Nat} {ao : Option Addr} {v : Value} {s2 : List UInt8 × Bool} {xs : List Value} {bs : List UInt8}
    (hlt : R < w.heap.size) (hg : w.grownBy wr (some R)) (nb0 : NoteBlk wr w.heap.size (.slice none 0 0) (.slice none 0 0)) (nb1 : NoteBlk wr (w.heap.size + 1) v (.slice none 0 0))
    (hown : wr.ownsRow (w.heap.size + 2) 98 4 v k xs) (hg1 : wr.grownBy w1 (some R)) (hg2 : w1.grownBy w2 (some R)) (hr2 : Rd w2 R s2)
    (hown3 : w3.ownsRow (w.heap.size + 2) 5 1 (.slice ao (0 + bs.length) cap) (0 + bs.length) ([] ++ u8s bs)) (hgrow : w2.grownBy w3 (Value.slice none 0 0).ownBlock) :
    NoteBlk w3 w.heap.size (.slice none 0 0) (.slice none 0 0) ∧ NoteBlk w3 (w.heap.size + 1) v (.slice none 0 0) ∧
    w3.ownsRow (w.heap.size + 2) 98 4 v k xs ∧ w3.ownsRow (w.heap.size + 2) 5 1 (.slice ao bs.length cap) bs.length (u8s bs) ∧ Rd w3 R s2 ∧ w.grownBy w3 (some R) := by
  have hz := hg.size
  have hz1 := hg1.size
  have hz2 := hg2.size
  have hb1 := nb1.lt
  have hgn : w2.grownBy w3 none := hgrow
  have g12 := grownBy_trans hg1 hg2
  have n1 : NoteBlk w3 (w.heap.size + 1) v (.slice none 0 0) := (nb1.grown g12 (by simp; omega)).grown hgn (by simp)
  have n0 : NoteBlk w3 w.heap.size (.slice none 0 0) (.slice none 0 0) := (nb0.grown g12 (by simp; omega)).grown hgn (by simp)
  have o1 : w2.ownsRow (w.heap.size + 2) 98 4 v k xs := hown.kept g12 (.inr (fun e => by have := (hown.lt _ e).1; omega))
  have o2 : w3.ownsRow (w.heap.size + 2) 98 4 v k xs := o1.kept hgn (by cases v.ownBlock <;> simp)
  refine ⟨n0, n1, o2, by simpa using hown3, ?_, ?_⟩
  · exact hr2.kept (fun b hb => hgn.block b (by have := hr2.lt; omega) (by simp))
  · exact grownBy_trans (grownBy_trans hg g12) (grownBy_of_below ⟨hgn.os, hgn.tape, hgn.output, hgn.size, fun b hb => hgn.block b hb (by simp)⟩)

theorem Rd.drew {w : World} {R : Nat} {s} (h : Rd w R s) : Rd w.drew R s := h.kept (fun _ _ => rfl)

set_option maxRecDepth 100000 in
set_option maxHeartbeats 3200000 in
theorem note_any (R : Nat) (many : Nat) (hm : many ≤ 4) (s : List UInt8 × Bool) (w : World) (hR : Rd w R s) :
    Calls Try.prog 128 #[.pointer (some ⟨R, 0, none⟩), .int .i64 many] w fun e w' => ∃ v u, e = .returned (.agg #[v, u]) ∧ w'.ownsRow w.heap.size 98 4 v many (cellsL (noteF many s).1) ∧ w'.ownsRow w.heap.size 5 1 u (noteF many s).2.1.length (u8s (noteF many s).2.1) ∧ Rd w' R (noteF many s).2.2 ∧ w.grownBy w' (some R) := by
  have hlt := hR.lt
  obtain ⟨i0, hi0, hz0, hz1, hz2⟩ := info_parts info38
  go_enter Try.func128, Try.ntmps128
  go_wp2
  go_loopw [8] (fun i wr => ∃ k : Nat, k ≤ many ∧ i = .int .i64 k ∧ Rd wr R (propsF k s).2 ∧ ∃ v, NoteBlk wr w.heap.size (.slice none 0 0) (.slice none 0 0) ∧ NoteBlk wr (w.heap.size + 1) v (.slice none 0 0) ∧ wr.ownsRow (w.heap.size + 2) 98 4 v k (cellsL (propsF k s).1) ∧ w.grownBy wr (some R))
    (fun i _ => many - (intOf i).toNat)
  case atStart =>
    refine ⟨0, Nat.zero_le _, rfl, (hR.alloc _).alloc _, _, ?_, ?_, World.ownsRow_nil _ _ _ _, grownBy_alloc' (World.grownBy_alloc _ _ _) _⟩
    · exact (Below.heap_alloc _ _ _ (by simp)).trans (heap_alloc_new w _)
    · have := heap_alloc_new (w.alloc (.cells #[.slice none 0 0, .slice none 0 0] 28)) (.cells #[.slice none 0 0, .slice none 0 0] 28)
      simpa [NoteBlk] using this
  case round =>
    obtain ⟨k, hk, rfl, hr, v, nb0, nb1, hown, hg⟩ := hrel
    obtain ⟨st, hst⟩ : ∃ st, st = (propsF k s).2 := ⟨_, rfl⟩
    obtain ⟨xs, hxs⟩ : ∃ xs, xs = cellsL (propsF k s).1 := ⟨_, rfl⟩
    rw [← hst] at hr
    rw [← hxs] at hown
    have HS : Hid (st = (propsF k s).2) := hst
    have HX : Hid (xs = cellsL (propsF k s).1) := hxs
    clear hst hxs
    have c0 := nb1.c0
    have c1 := nb1.c1
    have f0 := nb1.f 0
    have lb := nb1.lt
    by_cases hltk : k < many
    · have hne : v.ownBlock ≠ some R := fun e => by have := (hown.lt R e).1; omega
      have hn1 : v.ownBlock ≠ some (w.heap.size + 1) := fun e => by have := (hown.lt _ e).1; omega
      go_wp2_with fail
      go_region_law
        (first
          | (go_simp; go_at_call 149; refine (prop_any' R st _ ?_).mono ?_; (first | exact hr | exact hr.drew); rintro e w1 ⟨rfl, hr1, hg1⟩; obtain ⟨p1, p2⟩ := gat hg1 (w.heap.size + 1) (by simp; omega) (by omega); have hown1 : w1.ownsRow (w.heap.size + 2) 98 4 v k xs := (by first | exact hown.kept hg1 (Or.inr hne) | exact hown.drew.kept hg1 (Or.inr hne)); have hsz1 : wr.heap.size ≤ w1.heap.size := hg1.size; have hlw1 : w.heap.size + 1 < w1.heap.size := (by omega))
          | (refine step_append_lies _ (by rfl) _ _ _ (by rfl) (w.heap.size + 2) 98 i0 _ 4 48 Try.underlying25 hi0 hz0 hz1 hz2 rfl (by omega) v k xs (by rfl) ((hown1.alloc _).drew) ⟨w1.heap.size, 0, none⟩ 1 1 (propF st).1.cells (by rfl) (by rfl) (World.news_of_block (cs := #[.string (propF st).1.key, .int .i64 (propF st).1.kind, .int .i64 (propF st).1.n, .string (propF st).1.text]) (t := 98) (fr := (0, 0)) (heap_alloc_new w1 _)) (by simp [PD.cells, Value.oneCell']) (by omega) (by unfold maxLen; omega) (by omega) (by simp; omega) (w1.heap.size + 1) (by simp) ?_; intro gg cap w2 hown2 hgrow hat hlt2; have hfz : w2.frozen? ⟨w.heap.size + 1, 0, none⟩ = false := (by rw [hgrow.frozen_far _ (by simp; omega) (Ne.symm hn1)]; simp [go_sem, p2, f0, hlw1]); have hcl : w2.cell? ⟨w.heap.size + 1, 0, none⟩ = some v := (by rw [hgrow.cell_far _ (by simp; omega) (Ne.symm hn1)]; simp [go_sem, p1, c0, hlw1])))
      all_goals
        have hgr : (w1.alloc (.cells #[.string (propF st).1.key, .int .i64 (propF st).1.kind, .int .i64 (propF st).1.n, .string (propF st).1.text] 98)).grownBy w2 v.ownBlock := by first | exact hgrow | exact grownBy_undrew hgrow
        have RR := note_step hlt hg nb0 nb1 hown HS.out HX.out hr1 (grownBy_undrew hg1) hown2 hgr
        clear hgrow hgr hown2 hcl hfz hat hlt2 p1 p2 hown1 hsz1 hlw1
        go_wp2
        go_roundw
        case rel => exact ⟨k + 1, by omega, by go_num, RR⟩
        case measure => simp [intOf]; omega
    · obtain rfl : k = many := by omega
      obtain ⟨va, vc, rfl, _⟩ := own_shape hown
      have hle := sizeF_le st
      have f1 := nb1.f 1
      have z0 := nb0.c0
      have z1 := nb0.c1
      have zf := nb0.f
      have hN : Hid (xs = cellsL (noteF k s).1 ∧ (noteF k s).2 = (takeF (sizeF st).1 (sizeF st).2)) := by
        show _ ∧ _
        rw [HX.out, HS.out]; exact ⟨rfl, rfl⟩
      go_wp2_with fail
      go_region_law
        (first
          | (go_simp; go_at_call 127; refine (size_any R st _ ?_).mono ?_; (first | exact hr | exact hr.drew); rintro e w1 ⟨rfl, hr1, hg1⟩; obtain ⟨p1, p2⟩ := gat hg1 (w.heap.size + 1) (by simp; omega) (by omega); have hsz1 : wr.heap.size ≤ w1.heap.size := hg1.size)
          | (go_simp; go_at_call 148; refine (take_any R (sizeF st).1 (sizeF st).2 _ ?_).mono ?_; (exact hr1); rintro e w2 ⟨u, rfl, hu2, hr2, hg2⟩; obtain ⟨q1, q2⟩ := gat hg2 (w.heap.size + 1) (by omega) (by omega); have hsz2 : w1.heap.size ≤ w2.heap.size := hg2.size)
          | (refine step_app (by rfl) _ _ (by rfl) (w.heap.size + 2) (.slice none 0 0) 0 [] (by rfl) (World.ownsRow_nil _ _ _ _) R u (takeF (sizeF st).1 (sizeF st).2).1 (by rfl) hu2 (by have := takeF_le (sizeF st).1 (sizeF st).2; omega) (by omega) ?_; intro ao cap w3 hown3 hgrow; obtain ⟨t1, t2⟩ := bcellx hgrow (w.heap.size + 1) (by omega)))
      all_goals
        have RR := note_end hlt hg nb0 nb1 hown (grownBy_undrew hg1) hg2 hr2 hown3 hgrow
        obtain ⟨m0, m1, mo, mu, mr, mg⟩ := RR
        have k0 := m0.c0
        have k1 := m0.c1
        have k2 := m0.f
        have k3 := m1.c0
        have k4 := m1.c1
        have k5 := m1.f
        clear hgrow hown3 hg1 hg2 hr2 hr1 t1 t2 q1 q2 p1 p2
        go_wp2
        obtain ⟨e1, e2⟩ := hN.out
        refine bodyPost_ret (v := .agg #[.slice va k vc, .slice ao (takeF (sizeF st).1 (sizeF st).2).1.length cap]) ?_ rfl ⟨_, _, rfl, ?_, ?_, ?_, ?_⟩
        · simp [results, Try.results128, go_sem, *]
        · rw [← e1]; exact own_mono (ownsRow_setCell_below (ownsRow_setCell_below (ownsRow_setCell_below mo (by simp) _) (by simp) _) (by simp) _) (by omega)
        · rw [e2]; exact own_mono (ownsRow_setCell_below (ownsRow_setCell_below (ownsRow_setCell_below mu (by simp) _) (by simp) _) (by simp) _) (by omega)
        · rw [e2]; exact ((mr.set (by simp; omega) _).set (by simp; omega) _).set (by simp; omega) _
        · exact grownBy_set (grownBy_set (grownBy_set mg (by simp) _) (by simp) _) (by simp) _
end Go.Proofs.Ytkddkpdfeeikhaa.NT
