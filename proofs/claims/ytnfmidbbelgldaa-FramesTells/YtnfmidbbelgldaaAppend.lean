/-
  appendText, appendNumber and appendProp write what txt, num4 and propB say.
-/
import Derived.Test.YtnfmidbbelgldaaApp
import Derived.Deep.RegionWith
namespace Go.Proofs.Ytnfmidbbelgldaa
open Go.RowKit
set_option linter.unusedVariables false
set_option linter.unusedSimpArgs false

theorem own_drop {w w' : World} {base : Nat} {v : Value} {n : Nat} {xs : List Value} (h : w.ownsRow base 5 1 v n xs) (hb : base ≤ w.heap.size) (hg : w.grownBy w' v.ownBlock) : Below base w w' :=
  Below.grown (Below.refl _ _) hg hb (fun k hk => (h.lt k hk).1)

/-- A new row of bytes. -/
theorem new_bytes (w : World) (bs : List UInt8) (cs : Array Value) (hl : bs.length ≤ maxLen) (h : cs.toList = u8s bs) : SliceB (w.heap.size + 1) (w.alloc (.cells cs 5)) (.slice (some ⟨w.heap.size, 0, none⟩) bs.length bs.length) bs := by
  refine ⟨_, _, rfl, Nat.le_refl _, hl, fun h => by simp at h, fun i hi => ⟨w.heap.size, 0, rfl, by omega, ?_⟩⟩
  have : cs[i]? = some (.int .u8 bs[i].toNat) := by
    rw [← Array.getElem?_toList, h]; simp [u8s, hi]
  simp [this]

def txt (s : ByteArray) : List UInt8 := UInt8.ofNat s.size :: s.data.toList
theorem size_list (s : ByteArray) : s.data.toList.length = s.size := by rw [Array.length_toList]; rfl

theorem byte_of (n : Nat) (h : n ≤ 255) : ((UInt8.ofNat n).toNat : Int) = n := by
  simp [UInt8.toNat_ofNat]; omega

set_option maxHeartbeats 400000 in
theorem appendText_any (base : Nat) (v : Value) (xs : List UInt8) (s : ByteArray) (w : World) (hown : w.ownsRow base 5 1 v xs.length (u8s xs)) (hb : base ≤ w.heap.size) (hx : xs.length ≤ 1000000) (hs : s.size ≤ 255) :
    Calls Try.prog 55 #[v, .string s] w fun e w' => ∃ v', e = .returned v' ∧ w'.ownsRow base 5 1 v' (xs ++ txt s).length (u8s (xs ++ txt s)) ∧ w.grownBy w' v.ownBlock ∧ Moved w v v' := by
  have hby := byte_of s.size hs
  have HB : Hid (((UInt8.ofNat s.size).toNat : Int) = s.size) := hby
  clear hby
  go_enter Try.func55, Try.ntmps55
  go_wp2_with (first
    | (at_builtin; refine wpList_app rfl (.tmp 5) (.tmp 9) rfl base v xs.length (u8s xs) rfl (hown.alloc _) (w.heap.size + 1) _ [UInt8.ofNat s.size] rfl (new_bytes w [UInt8.ofNat s.size] _ (by simp [maxLen]) (by simp [u8s, HB.out]; omega)) (by simp; omega) (by simp; omega) ?_; intro ao cap w1 hown1 hg1 hm1)
    | (at_builtin; refine wpList_app_str rfl (.tmp 11) (.tmp 12) rfl base _ _ _ rfl hown1 s rfl (by simp; omega) (by have := hg1.size; simp at this; omega) ?_; intro ao2 cap2 w2 hown2 hg2 hm2))
  go_ret
  have e1 : u8s (xs ++ txt s) = u8s xs ++ u8s [UInt8.ofNat s.size] ++ u8s s.data.toList := by simp [u8s, txt]
  have e2 : (xs ++ txt s).length = xs.length + [UInt8.ofNat s.size].length + s.size := by simp [txt, size_list]; omega
  have g1 : w.grownBy w1 v.ownBlock := moved_grown (World.grownBy_alloc _ _ _) (Moved.refl _ _) hg1
  have m1 : Moved w v _ := hm1.of (by simp)
  refine ⟨_, rfl, ?_, moved_grown g1 m1 hg2, m1.trans g1.size hm2⟩
  rw [e1, e2]
  exact hown2

def num4 (n : Int) : List UInt8 := [UInt8.ofNat (n % 4294967296 / 16777216).toNat, UInt8.ofNat (n % 4294967296 / 65536 % 256).toNat, UInt8.ofNat (n % 4294967296 / 256 % 256).toNat, UInt8.ofNat (n % 256).toNat]

theorem byteI (x : Int) (h0 : 0 ≤ x) (h1 : x ≤ 255) : ((UInt8.ofNat x.toNat).toNat : Int) = x := by
  simp [UInt8.toNat_ofNat]; omega
theorem num4_cells (n : Int) : [Value.int IntKind.u8 (n % 4294967296 / 16777216), Value.int IntKind.u8 (n % 4294967296 / 65536 % 256),
      Value.int IntKind.u8 (n % 4294967296 / 256 % 256), Value.int IntKind.u8 (n % 256)] = u8s (num4 n) := by
  simp only [u8s, num4, List.map_cons, List.map_nil]
  rw [byteI _ (by omega) (by omega), byteI _ (by omega) (by omega), byteI _ (by omega) (by omega), byteI _ (by omega) (by omega)]

set_option maxHeartbeats 400000 in
theorem appendNumber_any (base : Nat) (v : Value) (xs : List UInt8) (n : Int) (w : World) (hown : w.ownsRow base 5 1 v xs.length (u8s xs)) (hb : base ≤ w.heap.size) (hx : xs.length ≤ 1000000) :
    Calls Try.prog 56 #[v, .int .i64 n] w fun e w' => ∃ v', e = .returned v' ∧ w'.ownsRow base 5 1 v' (xs ++ num4 n).length (u8s (xs ++ num4 n)) ∧ w.grownBy w' v.ownBlock ∧ Moved w v v' := by
  go_enter Try.func56, Try.ntmps56
  go_wp2_with (
     (at_builtin; refine wpList_app rfl (.tmp 8) (.tmp 20) rfl base v xs.length (u8s xs) rfl (hown.alloc _) (w.heap.size + 1) _ (num4 n) rfl (new_bytes w (num4 n) _ (by simp [num4, maxLen]) ?hcells) (by simp [num4]; omega) (by simp; omega) ?_; rotate_left; intro ao cap w1 hown1 hg1 hm1))
  · go_ret
    refine ⟨_, rfl, ?_, moved_grown (World.grownBy_alloc _ _ _) (Moved.refl _ _) hg1, hm1.of (by simp)⟩
    rw [u8s_append, List.length_append]
    exact hown1
  · exact num4_cells n

def propB (p : PD) : List UInt8 := txt p.key ++ (UInt8.ofNat p.kind.toNat :: if p.kind == 2 then txt p.text else num4 p.n)
/-- What Bytes asks of a property (a right one has it). -/
def PD.small (p : PD) : Prop := p.key.size ≤ 8 ∧ 1 ≤ p.kind ∧ p.kind ≤ 3 ∧ (p.kind = 2 → p.text.size ≤ 12)

theorem txt_len (s : ByteArray) : (txt s).length = s.size + 1 := by simp [txt, size_list]
theorem propB_len (p : PD) (h : p.small) : (propB p).length ≤ 40 := by
  obtain ⟨h1, h2, h3, h4⟩ := h
  unfold propB
  split
  · have := h4 (eqb (by assumption))
    simp [txt_len]; omega
  · simp [txt_len, num4]; omega

theorem own_far {W w1 : World} {row : Option Nat} (hb : W.grownBy w1 row) (b : Nat) (h : b < W.heap.size) (hn : some b ≠ row) : (∀ o, w1.cell? ⟨b, o, none⟩ = W.cell? ⟨b, o, none⟩) ∧ (∀ o, w1.frozen? ⟨b, o, none⟩ = W.frozen? ⟨b, o, none⟩) :=
  ⟨fun o => World.cell?_of_block (a := ⟨b, o, none⟩) (hb.block b h hn), fun o => World.frozen?_of_block (a := ⟨b, o, none⟩) (hb.block b h hn)⟩
/-- The box that was laid ahead of the append is not the row. -/
theorem box_ne {w : World} {o : Obj} {v v1 : Value} (hv : v.ownBlock ≠ some w.heap.size) (hm : Moved (w.alloc o) v v1) : some w.heap.size ≠ v1.ownBlock := by
  intro e
  rcases hm _ e.symm with h | h
  · exact hv h
  · rw [World.size_alloc] at h; omega

set_option maxHeartbeats 400000 in
theorem appendProp_any (base : Nat) (v : Value) (xs : List UInt8) (p : PD) (w : World) (hown : w.ownsRow base 5 1 v xs.length (u8s xs)) (hb : base ≤ w.heap.size) (hx : xs.length ≤ 900000) (hp : p.small) :
    Calls Try.prog 43 #[v, .agg #[.string p.key, .int .i64 p.kind, .int .i64 p.n, .string p.text]] w fun e w' => ∃ v', e = .returned v' ∧ w'.ownsRow base 5 1 v' (xs ++ propB p).length (u8s (xs ++ propB p)) ∧ w.grownBy w' v.ownBlock ∧ Moved w v v' := by
  obtain ⟨h1, h2, h3, h4⟩ := hp
  have hkb : Hid (((UInt8.ofNat p.kind.toNat).toNat : Int) = p.kind) := byteI _ (by omega) (by omega)
  have HL : Hid ((txt p.key).length = p.key.size + 1) := txt_len p.key
  have hvb : v.ownBlock ≠ some w.heap.size := fun e => by have := (hown.lt _ e).2; omega
  cases hk2 : (p.kind == 2) with
  | true =>
    have hPB : Hid (propB p = txt p.key ++ (UInt8.ofNat p.kind.toNat :: txt p.text)) := by show propB p = _; rw [propB, hk2]; rfl
    have h5 := h4 (eqb hk2)
    go_enter Try.func43, Try.ntmps43
    go_wp2_with (first
      | (at_builtin; refine wpList_app rfl (.tmp 9) (.tmp 13) rfl base v1 (xs ++ txt p.key).length (u8s (xs ++ txt p.key)) rfl (hown1.alloc _) (w1.heap.size + 1) _ [UInt8.ofNat p.kind.toNat] rfl (new_bytes w1 [UInt8.ofNat p.kind.toNat] _ (by simp [maxLen]) (by simp [u8s, hkb.out] <;> omega)) (by simp [HL.out]; omega) (by simp; omega) ?_; intro ao cap w2 hown2 hg2 hm2; obtain ⟨k1, k2⟩ := own_far hg2 w.heap.size (by simp; omega) (box_ne hvb hm1))
      | (go_at_call_of 55 (Value.string p.key); refine (appendText_any base v xs p.key _ (hown.alloc _) (by simp; omega) (by omega) (by omega)).mono ?_; rintro e w1 ⟨v1, rfl, hown1, hg1, hm1⟩; have hz1 : w.heap.size < w1.heap.size := (by have := hg1.size; simp at this; omega); obtain ⟨j1, j2⟩ := own_far hg1 w.heap.size (by simp) (Ne.symm hvb))
      | (go_at_call_of 55 (Value.string p.text); refine (appendText_any base _ (xs ++ txt p.key ++ [UInt8.ofNat p.kind.toNat]) p.text _ (by simpa [u8s, Nat.add_assoc] using hown2) (by have := hg2.size; simp at this; omega) (by simp [HL.out]; omega) (by omega)).mono ?_; rintro e w3 ⟨v3, rfl, hown3, hg3, hm3⟩))
    go_ret
    have g1 : w.grownBy w1 v.ownBlock := moved_grown (World.grownBy_alloc _ _ _) (Moved.refl _ _) hg1
    have m1 : Moved w v v1 := hm1.of (by simp)
    have g2 : w1.grownBy w2 v1.ownBlock := moved_grown (World.grownBy_alloc _ _ _) (Moved.refl _ _) hg2
    have m2' : Moved w1 v1 (.slice ao ((xs ++ txt p.key).length + [UInt8.ofNat p.kind.toNat].length) cap) := hm2.of (by simp)
    have m2 : Moved w1 v1 (.slice ao (xs.length + (txt p.key).length + 1) cap) := by simpa only [List.length_append, List.length_cons, List.length_nil, Nat.zero_add] using m2'
    have g3 := moved_grown g1 m1 g2
    have m3 := m1.trans g1.size m2
    refine ⟨_, rfl, ?_, moved_grown g3 m3 hg3, m3.trans g3.size hm3⟩
    rw [hPB.out]
    simpa using hown3
  | false =>
    have hPB : Hid (propB p = txt p.key ++ (UInt8.ofNat p.kind.toNat :: num4 p.n)) := by show propB p = _; rw [propB, hk2]; rfl
    go_enter Try.func43, Try.ntmps43
    go_wp2_with (first
      | (at_builtin; refine wpList_app rfl (.tmp 9) (.tmp 13) rfl base v1 (xs ++ txt p.key).length (u8s (xs ++ txt p.key)) rfl (hown1.alloc _) (w1.heap.size + 1) _ [UInt8.ofNat p.kind.toNat] rfl (new_bytes w1 [UInt8.ofNat p.kind.toNat] _ (by simp [maxLen]) (by simp [u8s, hkb.out] <;> omega)) (by simp [HL.out]; omega) (by simp; omega) ?_; intro ao cap w2 hown2 hg2 hm2; obtain ⟨k1, k2⟩ := own_far hg2 w.heap.size (by simp; omega) (box_ne hvb hm1))
      | (go_at_call_of 55 (Value.string p.key); refine (appendText_any base v xs p.key _ (hown.alloc _) (by simp; omega) (by omega) (by omega)).mono ?_; rintro e w1 ⟨v1, rfl, hown1, hg1, hm1⟩; have hz1 : w.heap.size < w1.heap.size := (by have := hg1.size; simp at this; omega); obtain ⟨j1, j2⟩ := own_far hg1 w.heap.size (by simp) (Ne.symm hvb))
      | (go_at_call 56; refine (appendNumber_any base _ (xs ++ txt p.key ++ [UInt8.ofNat p.kind.toNat]) p.n _ (by simpa [u8s, Nat.add_assoc] using hown2) (by have := hg2.size; simp at this; omega) (by simp [HL.out]; omega)).mono ?_; rintro e w3 ⟨v3, rfl, hown3, hg3, hm3⟩))
    go_ret
    have g1 : w.grownBy w1 v.ownBlock := moved_grown (World.grownBy_alloc _ _ _) (Moved.refl _ _) hg1
    have m1 : Moved w v v1 := hm1.of (by simp)
    have g2 : w1.grownBy w2 v1.ownBlock := moved_grown (World.grownBy_alloc _ _ _) (Moved.refl _ _) hg2
    have m2' : Moved w1 v1 (.slice ao ((xs ++ txt p.key).length + [UInt8.ofNat p.kind.toNat].length) cap) := hm2.of (by simp)
    have m2 : Moved w1 v1 (.slice ao (xs.length + (txt p.key).length + 1) cap) := by simpa only [List.length_append, List.length_cons, List.length_nil, Nat.zero_add] using m2'
    have g3 := moved_grown g1 m1 g2
    have m3 := m1.trans g1.size m2
    refine ⟨_, rfl, ?_, moved_grown g3 m3 hg3, m3.trans g3.size hm3⟩
    rw [hPB.out]
    simpa using hown3
end Go.Proofs.Ytnfmidbbelgldaa
