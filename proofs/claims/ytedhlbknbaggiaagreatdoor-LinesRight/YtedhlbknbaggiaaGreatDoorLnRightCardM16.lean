/-
  LnVars; LnNumber: texts laid together.
-/
import Derived.Test.YtedhlbknbaggiaaGreatDoorLnBase
import Derived.Test.YtedhlbknbaggiaaGreatDoorLnNum
import Derived.Test.YtedhlbknbaggiaaGreatDoorShelf
import Derived.Lib.AppendIntMem
import Derived.Lib.SmallJoins
/-
  The package-level variables that the lines lean on, and what of them stays.
-/
namespace Go.Proofs.YtedhlbknbaggiaaGreatDoor
open Go.RowKit
set_option linter.unusedVariables false
set_option linter.unusedSimpArgs false

/-- How asks of a kind are written. -/
structure ShD where
  kind : Int
  word : ByteArray
  queue : Bool
  number : Bool
  note : Bool
def ShD.cells (s : ShD) : List Value := [.int .i64 s.kind, .string s.word, .bool s.queue, .bool s.number, .bool s.note]
def shapesL : List ShD := [⟨1, ⟨#[112, 105, 110, 103]⟩, false, false, false⟩, ⟨2, ⟨#[109, 97, 107, 101]⟩, true, true, false⟩, ⟨3, ⟨#[100, 114, 111, 112]⟩, true, false, false⟩, ⟨4, ⟨#[112, 117, 116]⟩, true, false, true⟩,
  ⟨5, ⟨#[116, 97, 107, 101]⟩, true, false, false⟩, ⟨6, ⟨#[119, 97, 105, 116]⟩, true, true, false⟩, ⟨7, ⟨#[100, 111, 110, 101]⟩, false, true, false⟩, ⟨8, ⟨#[98, 97, 99, 107]⟩, false, true, false⟩, ⟨9, ⟨#[112, 117, 114, 103, 101]⟩, true, false, false⟩]
def shapesC : List Value := shapesL.flatMap ShD.cells

theorem tabIs_below {n : String} {g : Nat} {k : IntKind} {zs : List Int} {w w' : World} (hg : Tryz.prog.globalNamed n = some g) (h : Go.Lib.TabIs Tryz.prog w n k zs) (hb : Below w.heap.size w w') : Go.Lib.TabIs Tryz.prog w' n k zs := by
  unfold Go.Lib.TabIs World.var? at h ⊢
  rw [hg] at h ⊢
  simp only [Option.bind_some] at h ⊢
  have hlt : g < w.heap.size := by
    rcases Nat.lt_or_ge g w.heap.size with h' | h'
    · exact h'
    · rw [Array.getElem?_eq_none h'] at h; cases h
  rw [hb.block g hlt]
  exact h

/-- What the variables hold. -/
structure Vars (W : World) : Prop where
  syn : ∃ te pe, W.cell? ⟨2, 0, none⟩ = some (.iface te pe)
  rng : ∃ te pe, W.cell? ⟨3, 0, none⟩ = some (.iface te pe)
  maxl : ∃ m, W.cell? ⟨4, 0, none⟩ = some (.int .i64 m)
  tab : Go.Lib.TabIs Tryz.prog W "internal/strconv.uint64pow10" .u64 Go.Lib.pow10Tab
  shapes : ∃ t f, W.heap[0]? = some (.cells shapesC.toArray t f)
theorem Vars.on {W W' : World} (h : Vars W) (hb : Below W.heap.size W W') : Vars W' := by
  obtain ⟨⟨a, b, h1⟩, ⟨c, d, h2⟩, ⟨m, h3⟩, h4, ⟨t, f, h5⟩⟩ := h
  refine ⟨⟨a, b, (hb.cell (Go.Lib.lt_of_cell h1)).trans h1⟩, ⟨c, d, (hb.cell (Go.Lib.lt_of_cell h2)).trans h2⟩, ⟨m, (hb.cell (Go.Lib.lt_of_cell h3)).trans h3⟩, tabIs_below (g := 5) (by kernel_rfl) h4 hb, t, f, ?_⟩
  rw [hb.block 0]
  · exact h5
  · rcases Nat.lt_or_ge 0 W.heap.size with h' | h'
    · exact h'
    · rw [Array.getElem?_eq_none h'] at h5; cases h5
theorem Vars.drew {W : World} (h : Vars W) : Vars W.drew := h.on ⟨rfl, rfl, rfl, Nat.le_refl _, fun _ _ => rfl⟩

/-- strconv.Itoa. -/
theorem itoa_any (n : Int) (w : World) (h0 : -9223372036854775808 ≤ n) (h1 : n ≤ 9223372036854775807) (hv : Vars w) :
    Calls Tryz.prog 42 #[.int .i64 n] w fun e w' => e = .returned (.string ⟨(Go.Lib.itoa n).toArray⟩) ∧ Below w.heap.size w w' :=
  (Sh.strconv_Itoa n h0 h1 w hv.tab).mono fun e w' ⟨he, k, os, hw⟩ => ⟨he, by rw [hw]; exact Go.Lib.below_grow _ w (Nat.le_refl _) k os⟩
/-- strconv.Atoi. -/
theorem atoi_any (s : ByteArray) (w : World) (hl : s.size ≤ 281474976710656) (hv : Vars w) :
    Calls Tryz.prog 41 #[.string s] w fun e w' => (∃ v z, e = .returned (.tuple #[.int .i64 v, z]) ∧ (z = .nilIface ∧ Go.Lib.atoiAll s.data.toList = .ok v ∨ (∃ te pe, z = .iface te pe) ∧ ∀ u, Go.Lib.atoiAll s.data.toList ≠ .ok u)) ∧ Below w.heap.size w w' := by
  cases h : Go.Lib.atoiAll s.data.toList with
  | ok v =>
    refine (Sh.strconv_Atoi_ok s (by omega) v h w).mono fun e w' ⟨he, hw⟩ => ⟨⟨v, .nilIface, he, .inl ⟨rfl, rfl⟩⟩, ?_⟩
    rcases hw with rfl | ⟨t, rfl⟩
    · exact Below.refl _ _
    · exact Go.Lib.bytesWorld_below _ _ _
  | «syntax» =>
    obtain ⟨te, pe, hc⟩ := hv.syn
    exact (Sh.strconv_Atoi_syntax s hl h _ w hc (.inr ⟨te, pe, rfl⟩)).mono fun e w' ⟨N, he, _, _, hb⟩ => ⟨⟨0, _, he, .inr ⟨⟨_, _, rfl⟩, fun u hu => by cases hu⟩⟩, hb⟩
  | range =>
    obtain ⟨te, pe, hc⟩ := hv.rng
    exact (Sh.strconv_Atoi_range s hl h _ w hc (.inr ⟨te, pe, rfl⟩)).mono fun e w' ⟨N, he, _, _, hb⟩ => ⟨⟨_, _, he, .inr ⟨⟨_, _, rfl⟩, fun u hu => by cases hu⟩⟩, hb⟩
end Go.Proofs.YtedhlbknbaggiaaGreatDoor

/-
  lines.Number answers what numV says.
-/
namespace Go.Proofs.YtedhlbknbaggiaaGreatDoor
open Go.RowKit
set_option linter.unusedVariables false
set_option linter.unusedSimpArgs false

attribute [local go_sem ↓] Go.wp_at_zero Go.wp_at_succ

theorem size_data (s : ByteArray) : s.data.toList.length = s.size := by rw [Array.length_toList]; rfl

/-- A number, and whether there is one. -/
def NumAns (o : Option Int) (w : World) (e : Ending) (w' : World) : Prop := e = .returned (.tuple #[.int .i64 (o.getD 0), .bool o.isSome]) ∧ Below w.heap.size w w'

set_option maxHeartbeats 1600000 in
theorem number_any (s : ByteArray) (w : World) (hl : s.size ≤ 281474976710656) (hv : Vars w) :
    Calls Tryz.prog 9 #[.string s] w (NumAns (numV s.data.toList) w) := by
  obtain ⟨o, ho⟩ : ∃ o, o = numV s.data.toList := ⟨_, rfl⟩
  have HO : Hid (o = numV s.data.toList) := ho
  have HV : Hid (Vars w) := hv
  rw [← ho]
  clear ho hv
  unfold NumAns
  have A := atoi_any s w hl HV.out
  go_enter Tryz.func9, Tryz.ntmps9
  go_upto_region 2 with (first
    | (go_at_call 41; refine A.mono ?_; rintro e w1 ⟨⟨v, z, rfl, hz⟩, hb1⟩; have HZ : Hid (z = .nilIface ∧ Go.Lib.atoiAll s.data.toList = .ok v ∨ (∃ te pe, z = .iface te pe) ∧ ∀ u, Go.Lib.atoiAll s.data.toList ≠ .ok u) := hz; have H1 : Hid (Below w.heap.size w w1) := hb1; clear hz hb1; simp only)
    | fail)
  rcases HZ.out with ⟨rfl, h1⟩ | ⟨⟨te, pe, rfl⟩, h1⟩
  · have hbd := Go.Lib.atoiAll_bounds h1
    have P : Hid (Calls Tryz.prog 42 #[.int .i64 v] w1 fun e w' => e = .returned (.string ⟨(Go.Lib.itoa v).toArray⟩) ∧ Below w1.heap.size w1 w') := itoa_any v w1 hbd.1 hbd.2 (HV.out.on H1.out)
    clear hbd HZ A
    go_wp2_with (first
      | (go_at_call 42; refine P.out.mono ?_; rintro e w2 ⟨rfl, hb2⟩; have H2 : Hid (Below w.heap.size w w2) := H1.out.trans (hb2.mono H1.out.size); clear hb2)
      | fail)
    all_goals
      go_ret2
      have e : o = if Go.Lib.itoa v = s.data.toList then if v < -1073741824 ∨ 1073741824 < v then none else some v else none := by
        rw [HO.out]
        unfold numV
        rw [h1]
      have hs : s.toList = s.data.toList := ByteArray.toList_eq s
      clear HO HV P
      refine ⟨?_, H2.out⟩
      rw [e]
      simp_all <;> (rw [if_neg (by omega)]; rfl)
  · go_wp2
    go_ret2
    refine ⟨?_, H1.out⟩
    have e : o = none := by
      rw [HO.out]
      unfold numV
      split
      · rename_i u hu; exact absurd hu (h1 u)
      · rfl
    rw [e]
    rfl
end Go.Proofs.YtedhlbknbaggiaaGreatDoor
