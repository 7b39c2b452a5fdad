/-
  JHead; JWith; NtFresh: texts laid together.
-/
import Derived.Test.YtkddkpdfeeikhaaJTellsProofM29
import Derived.Test.YtkddkpdfeeikhaaJTellsProofM33
import Derived.Test.YtkddkpdfeeikhaaJTellsProofM25
import Derived.Test.YtkddkpdfeeikhaaJTellsProofM19
/-
  journal.head and journal.isKind, of any bytes.
-/
namespace Go.Proofs.Ytkddkpdfeeikhaa
open Go.RowKit
set_option linter.unusedVariables false
set_option linter.unusedSimpArgs false

/-- What all entries have: the kind, the name, and what is behind. -/
def headF (b : List UInt8) : Option (UInt8 × List UInt8 × List UInt8) :=
  match b with
  | k :: n :: r => if r.length < n.toNat then none else some (k, r.take n.toNat, r.drop n.toNat)
  | _ => none

def kindOkB (k : Int) : Bool := decide (1 ≤ k) && decide (k ≤ 4)

theorem isKindE_any (k : Int) (w : World) :
    Calls Try.prog 40 #[.int .i64 k] w fun e w' => e = .returned (.bool (kindOkB k)) ∧ w' = w := by
  by_cases h1 : 1 ≤ k
  · by_cases h2 : k ≤ 4
    · have hk : Hid (kindOkB k = true) := by show kindOkB k = true; simp [kindOkB, h1, h2]
      go_enter Try.func40, Try.ntmps40
      go_wp2_with fail
      go_ret
      exact ⟨by rw [hk.out]; rfl, rfl⟩
    · have hk : Hid (kindOkB k = false) := by show kindOkB k = false; simp [kindOkB, h2]
      go_enter Try.func40, Try.ntmps40
      go_wp2_with fail
      go_ret
      exact ⟨by rw [hk.out]; rfl, rfl⟩
  · have hk : Hid (kindOkB k = false) := by show kindOkB k = false; simp [kindOkB, h1]
    go_enter Try.func40, Try.ntmps40
    go_wp2_with fail
    go_ret
    exact ⟨by rw [hk.out]; rfl, rfl⟩

/-- No entry: the empty one. -/
def noEntry : Value := .agg #[.int .i64 0, .string ⟨#[]⟩, .int .i64 0, .int .i64 0, .slice none 0 0, .slice none 0 0]

theorem head_none1 (a : Option Addr) (cap : Nat) (b : List UInt8) (w : World) (hl : b.length < 2) :
    Calls Try.prog 39 #[.slice a b.length cap] w fun e w' => e = .returned (.tuple #[noEntry, .slice none 0 0, .bool false]) ∧ Below w.heap.size w w' := by
  have hl' : (b.length : Int) < 2 := by omega
  go_enter Try.func39, Try.ntmps39
  go_wp2_with fail
  exact bodyPost_ret (v := .tuple #[noEntry, .slice none 0 0, .bool false]) (by simp [results, Try.results39, go_sem, noEntry, *]) rfl ⟨rfl, below_alloc _ _⟩

/-- The rest of a slice, as the language cuts it. -/
def cutV (blk off : Nat) (len cap i j : Nat) : Value := if cap = i then .slice (some ⟨blk, off, none⟩) (j - i) 0 else .slice (some ⟨blk, off + i, none⟩) (j - i) (cap - i)

theorem cut_is {B : Nat} {w : World} {blk off cap : Nat} {b : List UInt8} (h : NT.SliceB B w (.slice (some ⟨blk, off, none⟩) b.length cap) b) (i j : Nat) (hij : i ≤ j) (hj : j ≤ b.length) : NT.SliceB B w (cutV blk off b.length cap i j) ((b.drop i).take (j - i)) := by
  unfold cutV
  have hcap : b.length ≤ cap := by obtain ⟨a', c', e, h1, _⟩ := h; simp only [Value.slice.injEq] at e; omega
  split
  · rename_i hc
    have h0 : j - i = 0 := by omega
    rw [h0]
    refine ⟨some ⟨blk, off, none⟩, 0, by simp, by simp, by simp [maxLen], fun _ => rfl, fun k hk => by simp at hk⟩
  · rename_i hc
    have := NT.slice_mid h i (j - i) (by omega) (by omega)
    simpa [NT.add_none] using this

theorem head_none2 (blk off cap : Nat) (b : List UInt8) (k n : UInt8) (r : List UInt8) (w : World) (hb : NT.SliceB w.heap.size w (.slice (some ⟨blk, off, none⟩) b.length cap) b) (e : b = k :: n :: r) (hl : r.length < n.toNat) :
    Calls Try.prog 39 #[.slice (some ⟨blk, off, none⟩) b.length cap] w fun e w' => e = .returned (.tuple #[noEntry, .slice none 0 0, .bool false]) ∧ Below w.heap.size w w' := by
  have hbl : b.length = r.length + 2 := by rw [e]; simp
  obtain ⟨_, _, e0, hcap, hmax, hnil, hbs⟩ := hb
  obtain ⟨b', off', e1, hs, hc1⟩ := hbs 1 (by omega)
  simp only [Option.some.injEq, Addr.mk.injEq, Value.slice.injEq] at e0 e1
  obtain ⟨⟨rfl, rfl, -⟩, -, rfl⟩ := e0
  obtain ⟨rfl, rfl, -⟩ := e1
  have hc1' : w.cell? ⟨blk, off + 1, none⟩ = some (.int .u8 n.toNat) := by rw [hc1]; simp [e]
  obtain ⟨n0, n1⟩ := NT.u8_bounds n
  have HL : Hid (b.length = r.length + 2) := hbl
  have h2 : (2 : Int) ≤ (b.length : Int) := by omega
  have h3 : (b.length : Int) < 2 + (n.toNat : Int) := by omega
  have w2 : IntKind.i64.wrap (n.toNat : Int) = (n.toNat : Int) := by rw [IntKind.wrap_i64]; omega
  have w3 : IntKind.i64.wrap (2 + (n.toNat : Int)) = 2 + (n.toNat : Int) := by rw [IntKind.wrap_i64]; omega
  clear hc1 hbs hnil hbl e
  have h4 : (1 : Int) < (b.length : Int) := by omega
  go_enter Try.func39, Try.ntmps39
  go_wp2_with fail
  exact bodyPost_ret (v := .tuple #[noEntry, .slice none 0 0, .bool false]) (by simp [results, Try.results39, go_sem, noEntry, *]) rfl ⟨rfl, below_alloc _ _⟩

set_option maxHeartbeats 1000000 in
theorem head_ok (blk off cap : Nat) (b : List UInt8) (k n : UInt8) (r : List UInt8) (w : World) (hb : NT.SliceB w.heap.size w (.slice (some ⟨blk, off, none⟩) b.length cap) b) (e : b = k :: n :: r) (hl : n.toNat ≤ r.length) :
    Calls Try.prog 39 #[.slice (some ⟨blk, off, none⟩) b.length cap] w fun e w' => e = .returned (.tuple #[.agg #[.int .i64 k.toNat, .string (bstr (r.take n.toNat)), .int .i64 0, .int .i64 0, .slice none 0 0, .slice none 0 0], cutV blk off b.length cap (2 + n.toNat) b.length, .bool true]) ∧ Below w.heap.size w w' := by
  have HB : Hid (NT.SliceB w.heap.size w (.slice (some ⟨blk, off, none⟩) b.length cap) b) := hb
  have hbl : b.length = r.length + 2 := by rw [e]; simp
  have HD : Hid ((b.drop 2).take n.toNat = r.take n.toNat) := by show (b.drop 2).take n.toNat = r.take n.toNat; rw [e]; rfl
  obtain ⟨_, _, e0, hcap, hmax, hnil, hbs⟩ := hb
  obtain ⟨b', off', e1, hs, hc1⟩ := hbs 1 (by omega)
  obtain ⟨b2, off2, e2, hs2, hc0⟩ := hbs 0 (by omega)
  simp only [Option.some.injEq, Addr.mk.injEq, Value.slice.injEq] at e0 e1
  obtain ⟨⟨rfl, rfl, -⟩, -, rfl⟩ := e0
  obtain ⟨rfl, rfl, -⟩ := e1
  simp only [Option.some.injEq, Addr.mk.injEq] at e2
  obtain ⟨rfl, rfl, -⟩ := e2
  have hc1' : w.cell? ⟨blk, off + 1, none⟩ = some (.int .u8 n.toNat) := by rw [hc1]; simp [e]
  have hc0' : w.cell? ⟨blk, off, none⟩ = some (.int .u8 k.toNat) := by have := hc0; simp [e] at this; exact this
  obtain ⟨n0, n1⟩ := NT.u8_bounds n
  obtain ⟨k0, k1⟩ := NT.u8_bounds k
  have HL : Hid (b.length = r.length + 2) := hbl
  unfold maxLen at hmax
  have h2 : (2 : Int) ≤ (b.length : Int) := by omega
  have h3 : 2 + (n.toNat : Int) ≤ (b.length : Int) := by omega
  have w2 : IntKind.i64.wrap (n.toNat : Int) = (n.toNat : Int) := by rw [IntKind.wrap_i64]; omega
  have w4 : IntKind.i64.wrap (k.toNat : Int) = (k.toNat : Int) := by rw [IntKind.wrap_i64]; omega
  have w3 : IntKind.i64.wrap (2 + (n.toNat : Int)) = 2 + (n.toNat : Int) := by rw [IntKind.wrap_i64]; omega
  have h4 : (1 : Int) < (b.length : Int) := by omega
  have h5 : 0 < b.length := by omega
  have hcv : ∀ o, (convert 26 9 (cutV blk off b.length cap 2 (2 + n.toNat))).run Try.prog (w.alloc o).drew = .ok (.string (bstr (r.take n.toNat))) (w.alloc o).drew := fun o => by
    have hB2 : NT.SliceB w.heap.size w (.slice (some ⟨blk, off, none⟩) b.length cap) b := HB.out
    have h := cut_is (hB2.same (w' := (w.alloc o).drew) (fun j hj => Below.heap_alloc _ _ _ hj)) 2 (2 + n.toNat) (by omega) (by omega)
    rw [show 2 + n.toNat - 2 = n.toNat by omega, HD.out] at h
    exact NT.conv_str (B := w.heap.size) h
  clear hc1 hc0 hbs hnil hbl e
  have f1 : 0 ≤ 2 + (n.toNat : Int) := by omega
  have f2 : 2 + (n.toNat : Int) ≤ (cap : Int) := by omega
  have f3 : 2 ≤ max (2 + (n.toNat : Int)) 0 := by omega
  have f4 : (2 + (n.toNat : Int)).toNat = 2 + n.toNat := by omega
  have f6 : 2 ≤ 2 + (n.toNat : Int) := by omega
  have f5 : 2 + n.toNat - 2 = n.toNat := by omega
  by_cases hc2 : cap = 2
  · subst hc2
    have g0 : n.toNat = 0 := by omega
    have ev : cutV blk off b.length 2 (2 + n.toNat) b.length = .slice (some ⟨blk, off, none⟩) (b.length - 2) 0 := by simp [cutV, g0]
    have ev2 : cutV blk off b.length 2 2 (2 + n.toNat) = .slice (some ⟨blk, off, none⟩) n.toNat 0 := by simp [cutV]
    rw [ev2, g0] at hcv
    have hb2 : b.length - 2 = 0 := by omega
    have ht0 : r.take 0 = [] := rfl
    rw [ev, g0, hb2, ht0]
    rw [ht0] at hcv
    clear hb2 ht0 ev ev2 f1 f2 f3 f4 f5 f6 w2 w3
    rw [g0] at hc1'
    clear g0
    go_enter Try.func39, Try.ntmps39
    go_wp2_with fail
    go_region_law (fail)
    all_goals go_wp2
    all_goals exact bodyPost_ret (v := .tuple #[.agg #[.int .i64 k.toNat, .string (bstr []), .int .i64 0, .int .i64 0, .slice none 0 0, .slice none 0 0], .slice (some ⟨blk, off, none⟩) 0 0, .bool true]) (by simp [results, Try.results39, go_sem, *]) rfl ⟨rfl, (below_alloc _ _).drew⟩
  · have ev2 : cutV blk off b.length cap 2 (2 + n.toNat) = .slice (some ⟨blk, off + 2, none⟩) n.toNat (cap - 2) := by simp [cutV, hc2]
    rw [ev2] at hcv
    by_cases hce : cap = 2 + n.toNat
    · have ev : cutV blk off b.length cap (2 + n.toNat) b.length = .slice (some ⟨blk, off, none⟩) (b.length - (2 + n.toNat)) 0 := by simp [cutV, hce]
      rw [ev]
      clear ev ev2
      have hn0 : ¬ n.toNat = 0 := by omega
      rw [hce, f5] at hcv
      go_enter Try.func39, Try.ntmps39
      go_wp2_with fail
      go_region_law (fail)
      all_goals go_wp2
      all_goals exact bodyPost_ret (v := .tuple #[.agg #[.int .i64 k.toNat, .string (bstr (r.take n.toNat)), .int .i64 0, .int .i64 0, .slice none 0 0, .slice none 0 0], .slice (some ⟨blk, off, none⟩) (b.length - (2 + n.toNat)) 0, .bool true]) (by simp [results, Try.results39, go_sem, *]) rfl ⟨rfl, (below_alloc _ _).drew⟩
    · have ev : cutV blk off b.length cap (2 + n.toNat) b.length = .slice (some ⟨blk, off + (2 + n.toNat), none⟩) (b.length - (2 + n.toNat)) (cap - (2 + n.toNat)) := by simp [cutV, hce]
      rw [ev]
      clear ev ev2
      go_enter Try.func39, Try.ntmps39
      go_wp2_with fail
      go_region_law (fail)
      all_goals go_wp2
      all_goals exact bodyPost_ret (v := .tuple #[.agg #[.int .i64 k.toNat, .string (bstr (r.take n.toNat)), .int .i64 0, .int .i64 0, .slice none 0 0, .slice none 0 0], .slice (some ⟨blk, off + (2 + n.toNat), none⟩) (b.length - (2 + n.toNat)) (cap - (2 + n.toNat)), .bool true]) (by simp [results, Try.results39, go_sem, *]) rfl ⟨rfl, (below_alloc _ _).drew⟩

/-- What head answers: the kind and the name, and what is behind, or that it is not whole. -/
def HeadAns (b : List UInt8) (w : World) (e : Ending) (w' : World) : Prop :=
  match headF b with
  | none => e = .returned (.tuple #[noEntry, .slice none 0 0, .bool false])
  | some (k, q, r) => ∃ ra rc, e = .returned (.tuple #[.agg #[.int .i64 k.toNat, .string (bstr q), .int .i64 0, .int .i64 0, .slice none 0 0, .slice none 0 0], .slice ra r.length rc, .bool true]) ∧ NT.SliceB w.heap.size w (.slice ra r.length rc) r

theorem head_any (a : Option Addr) (cap : Nat) (b : List UInt8) (w : World) (hb : NT.SliceB w.heap.size w (.slice a b.length cap) b) :
    Calls Try.prog 39 #[.slice a b.length cap] w fun e w' => HeadAns b w e w' ∧ Below w.heap.size w w' := by
  match hb' : b with
  | [] => exact (head_none1 a cap [] w (by simp)).mono (fun e w' h => ⟨h.1, h.2⟩)
  | [x] => exact (head_none1 a cap [x] w (by simp)).mono (fun e w' h => ⟨h.1, h.2⟩)
  | k :: n :: r =>
    have hbs := hb
    obtain ⟨a', cap', e0, hcap, hmax, hnil, hat⟩ := hbs
    simp only [Value.slice.injEq] at e0
    obtain ⟨rfl, -, rfl⟩ := e0
    obtain ⟨blk, off, rfl, -⟩ := hat 0 (by simp)
    by_cases hl : r.length < n.toNat
    · refine (head_none2 blk off cap (k :: n :: r) k n r w hb rfl hl).mono (fun e w' h => ⟨?_, h.2⟩)
      unfold HeadAns headF
      simp only [hl, if_true]
      exact h.1
    · refine (head_ok blk off cap (k :: n :: r) k n r w hb rfl (by omega)).mono (fun e w' h => ⟨?_, h.2⟩)
      have hc := cut_is hb (2 + n.toNat) (k :: n :: r).length (by simp; omega) (Nat.le_refl _)
      have he : (((k :: n :: r).drop (2 + n.toNat)).take ((k :: n :: r).length - (2 + n.toNat))) = r.drop n.toNat := by
        rw [show 2 + n.toNat = n.toNat + 1 + 1 by omega]
        simp only [List.drop_succ_cons, List.length_cons]
        rw [List.take_of_length_le]
        simp
      rw [he] at hc
      unfold HeadAns headF
      simp only [hl, if_false]
      obtain ⟨ra, rc, hv, -⟩ := id hc
      refine ⟨ra, rc, ?_, ?_⟩
      · rw [← hv]; exact h.1
      · rw [← hv]; exact hc
end Go.Proofs.Ytkddkpdfeeikhaa

/-
  journal.withN, withID and withItem, of any bytes behind the name.
-/
namespace Go.Proofs.Ytkddkpdfeeikhaa
open Go.RowKit
set_option linter.unusedVariables false
set_option linter.unusedSimpArgs false

/-- An entry's value. -/
def entV (k : Int) (q : ByteArray) (n id : Int) (pv bv : Value) : Value := .agg #[.int .i64 k, .string q, .int .i64 n, .int .i64 id, pv, bv]

/-- The one byte that there is. -/
def oneF (r : List UInt8) : Int := if r.length = 1 then ((r.headD 0).toNat : Int) else 0

theorem withN_any (k : Int) (q : ByteArray) (a : Option Addr) (cap : Nat) (r : List UInt8) (w : World) (hb : NT.SliceB w.heap.size w (.slice a r.length cap) r) :
    Calls Try.prog 71 #[.agg #[.int .i64 k, .string q, .int .i64 0, .int .i64 0, .slice none 0 0, .slice none 0 0], .slice a r.length cap] w fun e w' => e = .returned (.tuple #[entV k q (oneF r) 0 (.slice none 0 0) (.slice none 0 0), .bool (decide (r.length = 1))]) ∧ Below w.heap.size w w' := by
  by_cases hl : r.length = 1
  · obtain ⟨c, rfl⟩ : ∃ c, r = [c] := by
      match r, hl with
      | [c], _ => exact ⟨c, rfl⟩
    have hO : Hid (oneF [c] = (c.toNat : Int)) := by show oneF [c] = (c.toNat : Int); simp [oneF]
    obtain ⟨a', cap', e0, hcap, hmax, hnil, hat⟩ := hb
    simp only [Value.slice.injEq] at e0
    obtain ⟨rfl, -, rfl⟩ := e0
    obtain ⟨blk, off, rfl, hs, hc⟩ := hat 0 (by simp)
    have hc' : w.cell? ⟨blk, off, none⟩ = some (.int .u8 c.toNat) := by simpa using hc
    obtain ⟨n0, n1⟩ := NT.u8_bounds c
    have w2 : IntKind.i64.wrap (c.toNat : Int) = (c.toNat : Int) := by rw [IntKind.wrap_i64]; omega
    have h1 : [c].length = 1 := rfl
    rw [hO.out, h1]
    clear hc hat hO h1 hl
    go_enter Try.func71, Try.ntmps71
    go_wp2_with fail
    exact bodyPost_ret (v := .tuple #[entV k q c.toNat 0 (.slice none 0 0) (.slice none 0 0), .bool true]) (by simp [results, Try.results71, go_sem, entV, *]) rfl ⟨by simp, (below_alloc _ _).alloc (by simp) _⟩
  · have hO : Hid (oneF r = 0) := by show oneF r = 0; simp [oneF, hl]
    have hd : decide (r.length = 1) = false := by simp [hl]
    have hl2 : ¬ (r.length : Int) = 1 := by omega
    have hl3 : ((r.length : Int) == 1) = false := by simp; omega
    rw [hO.out, hd]
    clear hO hd
    go_enter Try.func71, Try.ntmps71
    go_wp2_with fail
    exact bodyPost_ret (v := .tuple #[entV k q 0 0 (.slice none 0 0) (.slice none 0 0), .bool false]) (by simp [results, Try.results71, go_sem, entV, *]) rfl ⟨rfl, (below_alloc _ _).alloc (by simp) _⟩

theorem or_step64 (v : Nat) (c : UInt8) (hv : (v : Int) ≤ 16777215) : bits BinOp.or IntKind.i64 ((v : Int) * 256) (c.toNat : Int) = ((v * 256 + c.toNat : Nat) : Int) := by
  have := c.toNat_lt
  rw [bits_join .i64 32 (by decide) (fun n h0 h1 => by rw [IntKind.wrap_i64]; omega) 8 _ _ (by omega) (by omega) (by omega) (by omega) (by omega) (by omega)]
  omega

/-- Four bytes' number. -/
def idF (r : List UInt8) : Int := if r.length = 4 then (NT.valB r : Int) else 0

theorem withID_any (k : Int) (q : ByteArray) (a : Option Addr) (cap : Nat) (r : List UInt8) (w : World) (hb : NT.SliceB w.heap.size w (.slice a r.length cap) r) :
    Calls Try.prog 73 #[.agg #[.int .i64 k, .string q, .int .i64 0, .int .i64 0, .slice none 0 0, .slice none 0 0], .slice a r.length cap] w fun e w' => e = .returned (.tuple #[entV k q 0 (idF r) (.slice none 0 0) (.slice none 0 0), .bool (decide (r.length = 4))]) ∧ Below w.heap.size w w' := by
  by_cases hl : r.length = 4
  · have hO : Hid (idF r = (NT.valB r : Int)) := by show idF r = _; simp [idF, hl]
    have hd : decide (r.length = 4) = true := by simp [hl]
    have HL : Hid (r.length = 4) := hl
    have HB : Hid (NT.SliceB w.heap.size w (.slice a r.length cap) r) := hb
    rw [hO.out, hd]
    rw [hl]
    clear hd hl hb hO
    go_enter Try.func73, Try.ntmps73
    go_wp2_with fail
    go_loopw [14] (fun i wr => ∃ m : Nat, m ≤ 4 ∧ i = .int .i64 m ∧ Below w.heap.size w wr ∧ Blk wr w.heap.size [.int .i64 k, .string q, .int .i64 0, .int .i64 (NT.valB (r.take m)), .slice none 0 0, .slice none 0 0] ∧ Blk wr (w.heap.size + 1) [.int .i64 0, .string ⟨#[]⟩, .int .i64 0, .int .i64 0, .slice none 0 0, .slice none 0 0])
      (fun i _ => 4 - (intOf i).toNat)
    case atStart => exact ⟨0, by omega, rfl, (below_alloc _ _).alloc (by simp) _, ((Blk.new w [.int .i64 k, .string q, .int .i64 0, .int .i64 0, .slice none 0 0, .slice none 0 0] 30).alloc _), by have := Blk.new (w.alloc (.cells #[.int .i64 k, .string q, .int .i64 0, .int .i64 0, .slice none 0 0, .slice none 0 0] 30)) [.int .i64 0, .string ⟨#[]⟩, .int .i64 0, .int .i64 0, .slice none 0 0, .slice none 0 0] 30; simpa using this⟩
    case round =>
      obtain ⟨m, hm, rfl, hbel, hk0, hk1⟩ := hrel
      by_cases hlt : m < 4
      · obtain ⟨a', cap', e0, hcap, hmax, hnil, hat⟩ := HB.out
        simp only [Value.slice.injEq] at e0
        obtain ⟨rfl, -, rfl⟩ := e0
        obtain ⟨blk, off, rfl, hs, hcell⟩ := hat m (by rw [HL.out]; exact hlt)
        obtain ⟨c, hc⟩ : ∃ c, c = r[m]'(by rw [HL.out]; exact hlt) := ⟨_, rfl⟩
        rw [← hc] at hcell
        have hcell' := (hbel.cell (p := ⟨blk, off + m, none⟩) hs).trans hcell
        obtain ⟨c0, c1⟩ := NT.u8_bounds c
        have hvb : (NT.valB (r.take m) : Int) ≤ 16777215 := NT.valB_lt3 _ (by simp; omega)
        have HV : Hid (NT.valB (r.take (m + 1)) = NT.valB (r.take m) * 256 + c.toNat) := by
          show NT.valB (r.take (m + 1)) = NT.valB (r.take m) * 256 + c.toNat
          rw [NT.valB_take r m (by rw [HL.out]; exact hlt), hc]
        have w2 : IntKind.i64.wrap (c.toNat : Int) = (c.toNat : Int) := by rw [IntKind.wrap_i64]; omega
        obtain ⟨d0, d1, d2, d3, d4, d5, d6, d7⟩ := hk0.b6
        have HK0 : Hid (Blk wr w.heap.size [.int .i64 k, .string q, .int .i64 0, .int .i64 (NT.valB (r.take m)), .slice none 0 0, .slice none 0 0]) := hk0
        have hk1' : Hid (Blk wr (w.heap.size + 1) [.int .i64 0, .string ⟨#[]⟩, .int .i64 0, .int .i64 0, .slice none 0 0, .slice none 0 0]) := hk1
        obtain ⟨V, hV⟩ : ∃ V : Nat, V = NT.valB (r.take m) := ⟨_, rfl⟩
        rw [← hV] at hvb d3
        have HVV : Hid (V = NT.valB (r.take m)) := hV
        have hvn : (0 : Int) ≤ V := by omega
        clear hat hcell hc hV hk0 hk1
        go_wp2
        rw [or_step64 V c hvb]
        have he : ((V * 256 + c.toNat : Nat) : Int) = (NT.valB (r.take (m + 1)) : Int) := by rw [HV.out, HVV.out]
        rw [he]
        refine ⟨⟨m + 1, by omega, by go_num, hbel.setCell (Nat.le_refl _) _, ?_, hk1'.out.far (by simp) _⟩, by simp [intOf]; omega⟩
        exact HK0.out.set 3 _
      · have e : m = 4 := by omega
        subst e
        have ht : r.take 4 = r := List.take_of_length_le (by rw [HL.out]; exact Nat.le_refl _)
        rw [ht] at hk0
        obtain ⟨d0, d1, d2, d3, d4, d5, d6, d7⟩ := hk0.b6
        obtain ⟨g0, g1, g2, g3, g4, g5, g6, g7⟩ := hk1.b6
        go_wp2
        exact bodyPost_ret (v := .tuple #[entV k q 0 (NT.valB r) (.slice none 0 0) (.slice none 0 0), .bool true]) (by simp [results, Try.results73, go_sem, entV, *]) rfl ⟨rfl, (((((hbel.setCell (by simp) _).setCell (by simp) _).setCell (by simp) _).setCell (by simp) _).setCell (by simp) _).setCell (by simp) _⟩
  · have hO : Hid (idF r = 0) := by show idF r = 0; simp [idF, hl]
    have hd : decide (r.length = 4) = false := by simp [hl]
    have hl2 : ¬ (r.length : Int) = 4 := by omega
    have hl3 : ((r.length : Int) == 4) = false := by simp; omega
    rw [hO.out, hd]
    clear hO hd
    go_enter Try.func73, Try.ntmps73
    go_wp2_with fail
    exact bodyPost_ret (v := .tuple #[entV k q 0 0 (.slice none 0 0) (.slice none 0 0), .bool false]) (by simp [results, Try.results73, go_sem, entV, *]) rfl ⟨rfl, (below_alloc _ _).alloc (by simp) _⟩
end Go.Proofs.Ytkddkpdfeeikhaa

/-
  note.Parse's note lies in memory that it made.
-/
namespace Go.Proofs.Ytkddkpdfeeikhaa.NT
open Go.RowKit
set_option linter.unusedVariables false
set_option linter.unusedSimpArgs false

def FreshV (B : Nat) (v : Value) : Prop := ∀ k, v.ownBlock = some k → B ≤ k
theorem fresh_nil (B : Nat) : FreshV B (.slice none 0 0) := fun k hk => by simp [Value.ownBlock] at hk

/-- What lies at or behind F is left by what changes nothing there. -/
theorem SliceP.from_ {B F : Nat} {w w' : World} {v : Value} {ps : List PD} (h : SliceP B w v ps) (hf : FreshV F v) (hb : ∀ k, F ≤ k → k < B → w'.heap[k]? = w.heap[k]?) : SliceP B w' v ps := by
  obtain ⟨a, cap, rfl, h1, h2, hn, h3⟩ := h
  refine ⟨a, cap, rfl, h1, h2, hn, fun i hi => ?_⟩
  obtain ⟨b, off, rfl, hlt, g0, g1, g2, g3⟩ := h3 i hi
  have hc : ∀ o, w'.cell? ⟨b, o, none⟩ = w.cell? ⟨b, o, none⟩ := fun o => World.cell?_of_block (hb b (hf b rfl) hlt)
  exact ⟨b, off, rfl, hlt, (hc _).trans g0, (hc _).trans g1, (hc _).trans g2, (hc _).trans g3⟩
theorem SliceB.from_ {B F : Nat} {w w' : World} {v : Value} {bs : List UInt8} (h : SliceB B w v bs) (hf : FreshV F v) (hb : ∀ k, F ≤ k → k < B → w'.heap[k]? = w.heap[k]?) : SliceB B w' v bs := by
  obtain ⟨a, cap, rfl, h1, h2, hn, h3⟩ := h
  refine ⟨a, cap, rfl, h1, h2, hn, fun i hi => ?_⟩
  obtain ⟨b, off, rfl, hlt, g0⟩ := h3 i hi
  exact ⟨b, off, rfl, hlt, (World.cell?_of_block (hb b (hf b rfl) hlt)).trans g0⟩
theorem FreshV.mono {B B' : Nat} {v : Value} (h : FreshV B v) (hb : B' ≤ B) : FreshV B' v := fun k hk => Nat.le_trans hb (h k hk)

set_option maxHeartbeats 1600000 in
theorem parse_fresh (a : Option Addr) (cap : Nat) (b : List UInt8) (w : World) (hb : SliceB w.heap.size w (.slice a b.length cap) b) :
    Calls Try.prog 102 #[.slice a b.length cap] w fun e w' => ∃ v u, e = .returned (.tuple #[.agg #[v, u], .int .i64 (parseF b).2.2.2, .int .i64 (parseF b).1]) ∧
      SliceP w'.heap.size w' v (parseF b).2.1 ∧ SliceB w'.heap.size w' u (parseF b).2.2.1 ∧ Below w.heap.size w w' ∧ FreshV w.heap.size v ∧ FreshV w.heap.size u := by
  have hb' := hb
  obtain ⟨_, _, e0, hcap, hmax, hnil, hbs⟩ := hb'
  simp only [Value.slice.injEq] at e0
  obtain ⟨rfl, -, rfl⟩ := e0
  have HN : Hid (a = none → cap = 0) := hnil
  clear hnil
  unfold maxLen at hmax
  have rd0 := rd_start w a b cap hb
  obtain ⟨q, hq⟩ : ∃ q, q = sizeF (b, false) := ⟨_, rfl⟩
  have HQ : Hid (q = sizeF (b, false)) := hq
  have hsz : ∀ W, Rd W (w.heap.size + 1) (b, false) → Calls Try.prog 127 #[.pointer (some ⟨w.heap.size + 1, 0, none⟩)] W fun e w' => e = .returned (.int .i64 q.1) ∧ Rd w' (w.heap.size + 1) q.2 ∧ W.grownBy w' (some (w.heap.size + 1)) := by
    rw [hq]; exact fun W h => size_any _ _ _ h
  clear hq
  obtain ⟨q1, q2, q3⟩ := q
  simp only at hsz
  cases q3 with
  | true =>
    have hP : Hid (parseF b = (9, [], [], 0)) := by show parseF b = _; rw [parseF, ← HQ.out]; rfl
    go_enter Try.func102, Try.ntmps102
    go_wp2_with (go_at_call 127; refine (hsz _ ?_).mono ?_; (exact rd0 _); rintro e w1 ⟨rfl, hr1, hg1⟩; obtain ⟨v1, g1, g2, g3, g4, g5⟩ := id hr1; have n1 := note0 hg1; have p1 := n1.c0; have p2 := n1.c1; have p3 := n1.f)
    refine bodyPost_ret (v := .tuple #[.agg #[.slice none 0 0, .slice none 0 0], .int .i64 0, .int .i64 9]) (by simp [results, Try.results102, go_sem, *]) rfl ?_
    rw [hP.out]
    exact ⟨_, _, rfl, SliceP.nil _ _, SliceB.nil _ _, ((below_rd hg1).setCell (by simp) _).setCell (by simp) _, fresh_nil _, fresh_nil _⟩
  | false =>
    by_cases h4 : 4 < q1
    · have hP : Hid (parseF b = (5, [], [], 0)) := by show parseF b = _; rw [parseF, ← HQ.out]; simp [h4]
      go_enter Try.func102, Try.ntmps102
      go_wp2_with (go_at_call 127; refine (hsz _ ?_).mono ?_; (exact rd0 _); rintro e w1 ⟨rfl, hr1, hg1⟩; obtain ⟨v1, g1, g2, g3, g4, g5⟩ := id hr1; have n1 := note0 hg1; have p1 := n1.c0; have p2 := n1.c1; have p3 := n1.f)
      refine bodyPost_ret (v := .tuple #[.agg #[.slice none 0 0, .slice none 0 0], .int .i64 0, .int .i64 5]) (by simp [results, Try.results102, go_sem, *]) rfl ?_
      rw [hP.out]
      exact ⟨_, _, rfl, SliceP.nil _ _, SliceB.nil _ _, ((below_rd hg1).setCell (by simp) _).setCell (by simp) _, fresh_nil _, fresh_nil _⟩
    · obtain ⟨N, hN⟩ : ∃ N, N = noteF q1 (q2, false) := ⟨_, rfl⟩
      have HM : Hid (N = noteF q1 (q2, false)) := hN
      have hps : N.1.length = q1 := by rw [hN]; exact propsF_len _ _
      have hfit : ∀ p ∈ N.1, p.fits := by rw [hN]; exact propsF_fits _ _
      have hbl : N.2.1.length ≤ 255 := by rw [hN]; exact Nat.le_trans (takeF_le _ _) (sizeF_le _)
      have hnt : ∀ W, Rd W (w.heap.size + 1) (q2, false) → Calls Try.prog 128 #[.pointer (some ⟨w.heap.size + 1, 0, none⟩), .int .i64 q1] W fun e w' => ∃ v u, e = .returned (.agg #[v, u]) ∧ W.heap.size = W.heap.size ∧ w'.ownsRow W.heap.size 98 4 v q1 (cellsL N.1) ∧ w'.ownsRow W.heap.size 5 1 u N.2.1.length (u8s N.2.1) ∧ Rd w' (w.heap.size + 1) N.2.2 ∧ W.grownBy w' (some (w.heap.size + 1)) := by
        rw [hN]
        intro W h
        refine (note_any _ q1 (by omega) _ W h).mono ?_
        rintro e w' ⟨v, u, h1, h2, h3, h4, h5⟩
        exact ⟨v, u, h1, rfl, h2, h3, h4, h5⟩
      clear hN
      obtain ⟨ps, body, rest, sh⟩ := N
      simp only at hps hfit hbl hnt
      cases sh with
      | true =>
        have hP : Hid (parseF b = (9, [], [], 0)) := by show parseF b = _; rw [parseF, ← HQ.out]; simp [h4, ← HM.out]
        go_enter Try.func102, Try.ntmps102
        go_wp2_with (first
          | (go_at_call 127; refine (hsz _ ?_).mono ?_; (exact rd0 _); rintro e w1 ⟨rfl, hr1, hg1⟩; obtain ⟨v1, g1, g2, g3, g4, g5⟩ := id hr1; have n1 := note0 hg1; have p1 := n1.c0; have p2 := n1.c1; have p3 := n1.f; have hz1 : w.heap.size + 1 < w1.heap.size := hr1.lt)
          | (go_at_call 128; refine (hnt _ ?_).mono ?_; (exact hr1); rintro e w2 ⟨v, u, rfl, -, hv, hu, hr2, hg2⟩; obtain ⟨va, vc, rfl, _⟩ := own_shape hv; obtain ⟨ua, uc, rfl, _⟩ := own_shape hu; obtain ⟨v2, y1, y2, y3, y4, y5⟩ := id hr2; obtain ⟨_, rc, rfl, _⟩ := id y2; have n2 := n1.grown hg2 (by simp); have x1 := n2.c0; have x2 := n2.c1; have x3 := n2.f; have hz2 : w.heap.size + 1 < w2.heap.size := hr2.lt; have hz3 : w.heap.size < w2.heap.size := (by omega)))
        refine bodyPost_ret (v := .tuple #[.agg #[.slice none 0 0, .slice none 0 0], .int .i64 0, .int .i64 9]) (by simp [results, Try.results102, go_sem, *]) rfl ?_
        rw [hP.out]
        exact ⟨_, _, rfl, SliceP.nil _ _, SliceB.nil _ _, ((((below_rd hg1).grown hg2 (by omega) (fun k hk => by simp at hk; omega)).setCell (by simp) _).setCell (by simp) _).alloc (by simp; omega) _, fresh_nil _, fresh_nil _⟩
      | false =>
        cases hw : (wrongN ps body.length == 0) with
        | false =>
          have hP : Hid (parseF b = (wrongN ps body.length, [], [], 0)) := by show parseF b = _; rw [parseF, ← HQ.out]; simp [h4, ← HM.out, hw]
          go_enter Try.func102, Try.ntmps102
          go_wp2_with (first
            | (go_at_call 127; refine (hsz _ ?_).mono ?_; (exact rd0 _); rintro e w1 ⟨rfl, hr1, hg1⟩; obtain ⟨v1, g1, g2, g3, g4, g5⟩ := id hr1; have n1 := note0 hg1; have p1 := n1.c0; have p2 := n1.c1; have p3 := n1.f; have hz1 : w.heap.size + 1 < w1.heap.size := hr1.lt)
            | (go_at_call 128; refine (hnt _ ?_).mono ?_; (exact hr1); rintro e w2 ⟨v, u, rfl, -, hv, hu, hr2, hg2⟩; obtain ⟨va, vc, rfl, _⟩ := own_shape hv; obtain ⟨ua, uc, rfl, _⟩ := own_shape hu; obtain ⟨v2, y1, y2, y3, y4, y5⟩ := id hr2; obtain ⟨_, rc, rfl, _⟩ := id y2; have n2 := n1.grown hg2 (by simp); have x1 := n2.c0; have x2 := n2.c1; have x3 := n2.f; have hz2 : w.heap.size + 1 < w2.heap.size := hr2.lt; have hz3 : w.heap.size < w2.heap.size := (by omega))
            | (go_at_call 97; refine (wrong_any' va q1 vc ps ua body.length uc _ hps ?_ hfit (by unfold maxLen; omega) (by unfold maxLen; omega)).mono ?_; (exact props_new hps hv _); rintro e w3 ⟨rfl, hb3⟩; obtain ⟨t1, t2⟩ := bcell hb3; have n3 := note_below n2 hb3; have r1 := n3.c0; have r2 := n3.c1; have r3 := n3.f))
          refine bodyPost_ret (v := .tuple #[.agg #[.slice none 0 0, .slice none 0 0], .int .i64 0, .int .i64 (wrongN ps body.length)]) (by simp [results, Try.results102, go_sem, *]) rfl ?_
          rw [hP.out]
          exact ⟨_, _, rfl, SliceP.nil _ _, SliceB.nil _ _, ((((((below_rd hg1).grown hg2 (by omega) (fun k hk => by simp at hk; omega)).alloc (by omega) _).trans (hb3.mono (by simp; omega))).setCell (by simp) _).setCell (by simp) _), fresh_nil _, fresh_nil _⟩
        | true =>
          have hP : Hid (parseF b = (0, ps, body, b.length - rest.length)) := by show parseF b = _; rw [parseF, ← HQ.out]; simp [h4, ← HM.out, hw]
          have hw0 : wrongN ps body.length = 0 := eqb hw
          have hrl : rest.length ≤ b.length := by
            have h1 := noteF_rest q1 (q2, false)
            have h2 := sizeF_rest (b, false)
            rw [← HM.out] at h1
            rw [← HQ.out] at h2
            simp only at h1 h2
            omega
          go_enter Try.func102, Try.ntmps102
          go_wp2_with (first
            | (go_at_call 127; refine (hsz _ ?_).mono ?_; (exact rd0 _); rintro e w1 ⟨rfl, hr1, hg1⟩; obtain ⟨v1, g1, g2, g3, g4, g5⟩ := id hr1; have n1 := note0 hg1; have p1 := n1.c0; have p2 := n1.c1; have p3 := n1.f; have hz1 : w.heap.size + 1 < w1.heap.size := hr1.lt)
            | (go_at_call 128; refine (hnt _ ?_).mono ?_; (exact hr1); rintro e w2 ⟨v, u, rfl, -, hv, hu, hr2, hg2⟩; obtain ⟨va, vc, rfl, _⟩ := own_shape hv; obtain ⟨ua, uc, rfl, _⟩ := own_shape hu; obtain ⟨v2, y1, y2, y3, y4, y5⟩ := id hr2; obtain ⟨_, rc, rfl, _⟩ := id y2; have n2 := n1.grown hg2 (by simp); have x1 := n2.c0; have x2 := n2.c1; have x3 := n2.f; have hz2 : w.heap.size + 1 < w2.heap.size := hr2.lt; have hz3 : w.heap.size < w2.heap.size := (by omega))
            | (go_at_call 97; refine (wrong_any' va q1 vc ps ua body.length uc _ hps ?_ hfit (by unfold maxLen; omega) (by unfold maxLen; omega)).mono ?_; (exact props_new hps hv _); rintro e w3 ⟨rfl, hb3⟩; obtain ⟨t1, t2⟩ := bcell hb3; have n3 := note_below n2 hb3; have r1 := n3.c0; have r2 := n3.c1; have r3 := n3.f))
          go_region
          all_goals go_wp2
          refine bodyPost_ret (v := .tuple #[.agg #[.slice va q1 vc, .slice ua body.length uc], .int .i64 ((b.length : Int) - rest.length), .int .i64 0]) (by simp [results, Try.results102, go_sem, *]) rfl ?_
          rw [hP.out]
          have bel := ((((((below_rd hg1).grown hg2 (by omega) (fun k hk => by simp at hk; omega)).alloc (by omega) _).trans (hb3.mono (by simp; omega))).setCell (p := ⟨w.heap.size, 0, none⟩) (by simp) (.slice va q1 vc)).setCell (p := ⟨w.heap.size, 1, none⟩) (by simp) (.slice ua body.length uc)).drew
          have ov := own_final hv hb3 (b := w.heap.size) (by omega) (.slice va q1 vc) (.slice ua body.length uc)
          have ou := own_final hu hb3 (b := w.heap.size) (by omega) (.slice va q1 vc) (.slice ua body.length uc)
          rw [← hps] at ov ou
          have e1 : ((b.length : Int) - rest.length) = ((b.length - rest.length : Nat) : Int) := by omega
          rw [e1, ← hps]
          exact ⟨_, _, rfl, own_props ov, own_slice ou, by rw [← hps] at bel; exact bel, fun k hk => by have := (hv.lt k (by rw [hps] at hk; exact hk)).1; omega, fun k hk => by have := (hu.lt k hk).1; omega⟩
end Go.Proofs.Ytkddkpdfeeikhaa.NT
