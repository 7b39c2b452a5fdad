/-
  JParse; JPlaces; Plain: texts laid together.
-/
import Derived.Test.YtkddkpdfeeikhaaJRest
import Derived.Test.YtkddkpdfeeikhaaJShortProofM09
import Derived.Maps.Own
import Derived.Maps.OwnOps
import Derived.Maps.OwnSet
/-
  journal.Parse, of any bytes.
-/
namespace Go.Proofs.Ytkddkpdfeeikhaa
open Go.RowKit
set_option linter.unusedVariables false
set_option linter.unusedSimpArgs false

/-- What Parse answers: an entry, and an error; its note lies in memory that was made. -/
def ParseAns (k : Int) (q : ByteArray) (n id : Int) (ps : List NT.PD) (bs : List UInt8) (en : Int) (w : World) (e : Ending) (w' : World) : Prop :=
  ∃ va vc ua uc, e = .returned (.tuple #[.agg #[.int .i64 k, .string q, .int .i64 n, .int .i64 id, .slice va ps.length vc, .slice ua bs.length uc], .int .i64 en]) ∧ NT.SliceP w'.heap.size w' (.slice va ps.length vc) ps ∧ NT.SliceB w'.heap.size w' (.slice ua bs.length uc) bs ∧ Below w.heap.size w w' ∧ NT.FreshV w.heap.size (.slice va ps.length vc) ∧ NT.FreshV w.heap.size (.slice ua bs.length uc)

theorem parse_no {en : Int} {w : World} {e : Ending} {w' : World} (h : e = .returned (.tuple #[noEntry, .int .i64 en]) ∧ Below w.heap.size w w') : ParseAns 0 ⟨#[]⟩ 0 0 [] [] en w e w' :=
  ⟨none, 0, none, 0, h.1, NT.SliceP.nil _ _, NT.SliceB.nil _ _, h.2, NT.fresh_nil _, NT.fresh_nil _⟩

theorem parse_none (a : Option Addr) (cap : Nat) (b : List UInt8) (w : World) (hb : NT.SliceB w.heap.size w (.slice a b.length cap) b) (hn : headF b = none) :
    Calls Try.prog 8 #[.slice a b.length cap] w (ParseAns 0 ⟨#[]⟩ 0 0 [] [] 2 w) := by
  have HH : Hid (∀ W, Below w.heap.size w W → Calls Try.prog 39 #[.slice a b.length cap] W fun e w' => e = .returned (.tuple #[noEntry, .slice none 0 0, .bool false]) ∧ Below W.heap.size W w') := by
    intro W hW
    refine (head_any a cap b W ((hb.same hW.block).mono hW.size)).mono fun e w' h => ⟨?_, h.2⟩
    have := h.1
    unfold HeadAns at this
    rw [hn] at this
    exact this
  clear hb hn
  go_enter Try.func8, Try.ntmps8
  go_wp2_with (go_at_call 39; refine (HH.out _ (below_alloc _ _)).mono ?_; rintro e w1 ⟨rfl, hb1⟩; unfold noEntry; have hk := (Blk.new w [.int .i64 0, .string ⟨#[]⟩, .int .i64 0, .int .i64 0, .slice none 0 0, .slice none 0 0] 30).below hb1 (by simp); obtain ⟨d0, d1, d2, d3, d4, d5, d6, d7⟩ := hk.b6; have HB1 : Hid (Below w.heap.size w w1) := (below_alloc _ _).trans (hb1.mono (by simp)); clear hk hb1)
  exact bodyPost_ret (v := .tuple #[noEntry, .int .i64 2]) (by simp [results, Try.results8, go_sem, noEntry, *]) rfl (parse_no ⟨rfl, ((((((HB1.out.setCell (by simp) _).setCell (by simp) _).setCell (by simp) _).setCell (by simp) _).setCell (by simp) _).setCell (by simp) _).alloc (by simp; omega) _⟩)

theorem parse_kind (a : Option Addr) (cap bl : Nat) (k : Int) (q : ByteArray) (r : List UInt8) (w : World)
    (HH : Hid (∀ W, Below w.heap.size w W → Calls Try.prog 39 #[.slice a bl cap] W fun e w' => ∃ ra rc, e = .returned (.tuple #[.agg #[.int .i64 k, .string q, .int .i64 0, .int .i64 0, .slice none 0 0, .slice none 0 0], .slice ra r.length rc, .bool true]) ∧ NT.SliceB W.heap.size W (.slice ra r.length rc) r ∧ Below W.heap.size W w')) (hk : kindOkB k = false) :
    Calls Try.prog 8 #[.slice a bl cap] w (ParseAns 0 ⟨#[]⟩ 0 0 [] [] 1 w) := by
  have HI : Hid (∀ W, Calls Try.prog 40 #[.int .i64 k] W fun e w' => e = .returned (.bool false) ∧ w' = W) := by
    intro W
    have h := isKindE_any k W
    rw [hk] at h
    exact h
  clear hk
  go_enter Try.func8, Try.ntmps8
  go_wp2_with (first
    | (go_at_call 39; refine (HH.out _ (below_alloc _ _)).mono ?_; rintro e w1 ⟨ra, rc, rfl, hs1, hb1⟩; have hk := (Blk.new w [.int .i64 0, .string ⟨#[]⟩, .int .i64 0, .int .i64 0, .slice none 0 0, .slice none 0 0] 30).below hb1 (by simp); obtain ⟨d0, d1, d2, d3, d4, d5, d6, d7⟩ := hk.b6; have HB1 : Hid (Below w.heap.size w w1 ∧ NT.SliceB w1.heap.size w1 (.slice ra r.length rc) r ∧ Blk w1 w.heap.size [.int .i64 0, .string ⟨#[]⟩, .int .i64 0, .int .i64 0, .slice none 0 0, .slice none 0 0]) := ⟨(below_alloc _ _).trans (hb1.mono (by simp)), (hs1.same hb1.block).mono hb1.size, hk⟩; clear hk hb1 hs1)
    | (go_at_call 40; refine (HI.out _).mono ?_; rintro e w2 ⟨rfl, rfl⟩))
  exact bodyPost_ret (v := .tuple #[noEntry, .int .i64 1]) (by simp [results, Try.results8, go_sem, noEntry, *]) rfl (parse_no ⟨rfl, ((((((HB1.out.1.setCell (by simp) _).setCell (by simp) _).setCell (by simp) _).setCell (by simp) _).setCell (by simp) _).setCell (by simp) _).alloc (by simp; omega) _⟩)

theorem parse_end {k : Int} {q : ByteArray} {n id : Int} {ps : List NT.PD} {bs : List UInt8} {en : Int} {w W w1 w' : World} {va ua : Option Addr} {vc uc : Nat}
    (h : NT.SliceP w1.heap.size w1 (.slice va ps.length vc) ps ∧ NT.SliceB w1.heap.size w1 (.slice ua bs.length uc) bs ∧ Below W.heap.size W w1 ∧ NT.FreshV W.heap.size (.slice va ps.length vc) ∧ NT.FreshV W.heap.size (.slice ua bs.length uc))
    (hW : Below w.heap.size w W) (hb : ∀ k, W.heap.size ≤ k → k < w1.heap.size → w'.heap[k]? = w1.heap[k]?) (hbel : Below w.heap.size w1 w') :
    ParseAns k q n id ps bs en w (.returned (.tuple #[.agg #[.int .i64 k, .string q, .int .i64 n, .int .i64 id, .slice va ps.length vc, .slice ua bs.length uc], .int .i64 en])) w' := by
  obtain ⟨g1, g2, g3, g4, g5⟩ := h
  exact ⟨va, vc, ua, uc, rfl, (NT.SliceP.from_ g1 g4 hb).mono hbel.size, (NT.SliceB.from_ g2 g5 hb).mono hbel.size, hW.trans ((g3.mono hW.size).trans hbel), g4.mono hW.size, g5.mono hW.size⟩

theorem parse_rest (a : Option Addr) (cap bl : Nat) (k : Int) (q : ByteArray) (r : List UInt8) (w : World)
    (HH : Hid (∀ W, Below w.heap.size w W → Calls Try.prog 39 #[.slice a bl cap] W fun e w' => ∃ ra rc, e = .returned (.tuple #[.agg #[.int .i64 k, .string q, .int .i64 0, .int .i64 0, .slice none 0 0, .slice none 0 0], .slice ra r.length rc, .bool true]) ∧ NT.SliceB W.heap.size W (.slice ra r.length rc) r ∧ Below W.heap.size W w')) (hk : kindOkB k = true) (n id : Int) (ps : List NT.PD) (bs : List UInt8)
    (HR : Hid (∀ W ra rc, NT.SliceB W.heap.size W (.slice ra r.length rc) r → Calls Try.prog 41 #[.agg #[.int .i64 k, .string q, .int .i64 0, .int .i64 0, .slice none 0 0, .slice none 0 0], .slice ra r.length rc] W (RestAns k q n id ps bs true W))) :
    Calls Try.prog 8 #[.slice a bl cap] w (ParseAns k q n id ps bs 0 w) := by
  have HI : Hid (∀ W, Calls Try.prog 40 #[.int .i64 k] W fun e w' => e = .returned (.bool true) ∧ w' = W) := by
    intro W
    have h := isKindE_any k W
    rw [hk] at h
    exact h
  clear hk
  go_enter Try.func8, Try.ntmps8
  go_wp2_with (first
    | (go_at_call 39; refine (HH.out _ (below_alloc _ _)).mono ?_; rintro e w1 ⟨ra, rc, rfl, hs1, hb1⟩; have hk := (Blk.new w [.int .i64 0, .string ⟨#[]⟩, .int .i64 0, .int .i64 0, .slice none 0 0, .slice none 0 0] 30).below hb1 (by simp); obtain ⟨d0, d1, d2, d3, d4, d5, d6, d7⟩ := hk.b6; have HB1 : Hid (Below w.heap.size w w1 ∧ NT.SliceB w1.heap.size w1 (.slice ra r.length rc) r ∧ Blk w1 w.heap.size [.int .i64 0, .string ⟨#[]⟩, .int .i64 0, .int .i64 0, .slice none 0 0, .slice none 0 0]) := ⟨(below_alloc _ _).trans (hb1.mono (by simp)), (hs1.same hb1.block).mono hb1.size, hk⟩; clear hk hb1 hs1)
    | (go_at_call 40; refine (HI.out _).mono ?_; rintro e w2 ⟨rfl, rfl⟩)
    | (go_at_call 41; refine (HR.out _ _ _ ?_).mono ?_; (exact (HB1.out.2.1.same (below_alloc _ _).block).mono (by simp)); rintro e w3 ⟨va, vc, ua, uc, rfl, g1, g2, g3, g4, g5⟩; have hx := (Blk.new w1 [.int .i64 k, .string q, .int .i64 0, .int .i64 0, .slice none 0 0, .slice none 0 0] 30).below g3 (by simp); have hy := (HB1.out.2.2.alloc _).below g3 (by simp; omega); obtain ⟨x0, x1, x2, x3, x4, x5, x6, x7⟩ := hx.b6; obtain ⟨y0, y1, y2, y3, y4, y5, y6, y7⟩ := hy.b6; have HG := And.intro g1 (And.intro g2 (And.intro g3 (And.intro g4 g5))); clear g1 g2 g3 g4 g5 hx hy))
  have hzw := HB1.out.1.size
  refine bodyPost_ret (v := .tuple #[.agg #[.int .i64 k, .string q, .int .i64 n, .int .i64 id, .slice va ps.length vc, .slice ua bs.length uc], .int .i64 0]) (by simp [results, Try.results8, go_sem, *]) rfl ?_
  refine parse_end HG (HB1.out.1.alloc (by omega) _) (fun j hj1 hj2 => ?_) ?_
  · have hj1' : w1.heap.size + 1 ≤ j := by simpa using hj1
    iterate 12 rw [Below.heap_setCell _ _ _ _ (by simp; omega)]
  · exact (((((((((((((Below.refl _ _).setCell (by simp; omega) _).setCell (by simp; omega) _).setCell (by simp; omega) _).setCell (by simp; omega) _).setCell (by simp; omega) _).setCell (by simp; omega) _).setCell (by simp) _).setCell (by simp) _).setCell (by simp) _).setCell (by simp) _).setCell (by simp) _).setCell (by simp) _)

theorem parse_half (a : Option Addr) (cap bl : Nat) (k : Int) (q : ByteArray) (r : List UInt8) (w : World)
    (HH : Hid (∀ W, Below w.heap.size w W → Calls Try.prog 39 #[.slice a bl cap] W fun e w' => ∃ ra rc, e = .returned (.tuple #[.agg #[.int .i64 k, .string q, .int .i64 0, .int .i64 0, .slice none 0 0, .slice none 0 0], .slice ra r.length rc, .bool true]) ∧ NT.SliceB W.heap.size W (.slice ra r.length rc) r ∧ Below W.heap.size W w')) (hk : kindOkB k = true) (n id : Int) (ps : List NT.PD) (bs : List UInt8)
    (HR : Hid (∀ W ra rc, NT.SliceB W.heap.size W (.slice ra r.length rc) r → Calls Try.prog 41 #[.agg #[.int .i64 k, .string q, .int .i64 0, .int .i64 0, .slice none 0 0, .slice none 0 0], .slice ra r.length rc] W (RestAns k q n id ps bs false W))) :
    Calls Try.prog 8 #[.slice a bl cap] w (ParseAns 0 ⟨#[]⟩ 0 0 [] [] 2 w) := by
  have HI : Hid (∀ W, Calls Try.prog 40 #[.int .i64 k] W fun e w' => e = .returned (.bool true) ∧ w' = W) := by
    intro W
    have h := isKindE_any k W
    rw [hk] at h
    exact h
  clear hk
  go_enter Try.func8, Try.ntmps8
  go_wp2_with (first
    | (go_at_call 39; refine (HH.out _ (below_alloc _ _)).mono ?_; rintro e w1 ⟨ra, rc, rfl, hs1, hb1⟩; have hk := (Blk.new w [.int .i64 0, .string ⟨#[]⟩, .int .i64 0, .int .i64 0, .slice none 0 0, .slice none 0 0] 30).below hb1 (by simp); obtain ⟨d0, d1, d2, d3, d4, d5, d6, d7⟩ := hk.b6; have HB1 : Hid (Below w.heap.size w w1 ∧ NT.SliceB w1.heap.size w1 (.slice ra r.length rc) r ∧ Blk w1 w.heap.size [.int .i64 0, .string ⟨#[]⟩, .int .i64 0, .int .i64 0, .slice none 0 0, .slice none 0 0]) := ⟨(below_alloc _ _).trans (hb1.mono (by simp)), (hs1.same hb1.block).mono hb1.size, hk⟩; clear hk hb1 hs1)
    | (go_at_call 40; refine (HI.out _).mono ?_; rintro e w2 ⟨rfl, rfl⟩)
    | (go_at_call 41; refine (HR.out _ _ _ ?_).mono ?_; (exact (HB1.out.2.1.same (below_alloc _ _).block).mono (by simp)); rintro e w3 ⟨va, vc, ua, uc, rfl, g1, g2, g3, g4, g5⟩; have hx := (Blk.new w1 [.int .i64 k, .string q, .int .i64 0, .int .i64 0, .slice none 0 0, .slice none 0 0] 30).below g3 (by simp); have hy := (HB1.out.2.2.alloc _).below g3 (by simp; omega); obtain ⟨x0, x1, x2, x3, x4, x5, x6, x7⟩ := hx.b6; obtain ⟨y0, y1, y2, y3, y4, y5, y6, y7⟩ := hy.b6; have HG := And.intro g1 (And.intro g2 (And.intro g3 (And.intro g4 g5))); clear g1 g2 g3 g4 g5 hx hy))
  have hzw := HB1.out.1.size
  refine bodyPost_ret (v := .tuple #[noEntry, .int .i64 2]) (by simp [results, Try.results8, go_sem, noEntry, *]) rfl (parse_no ⟨rfl, ?_⟩)
  refine (HB1.out.1.alloc (by omega) _).trans ((HG.2.2.1.mono (by simp; omega)).trans ?_)
  exact (((((((((((((Below.refl _ _).setCell (by simp; omega) _).setCell (by simp; omega) _).setCell (by simp; omega) _).setCell (by simp; omega) _).setCell (by simp; omega) _).setCell (by simp; omega) _).setCell (by simp) _).setCell (by simp) _).setCell (by simp) _).setCell (by simp) _).setCell (by simp) _).setCell (by simp) _)

/-- What any bytes are read as. -/
def jparseF (b : List UInt8) : Int × ByteArray × Int × Int × List NT.PD × List UInt8 × Int :=
  match headF b with
  | none => (0, ⟨#[]⟩, 0, 0, [], [], 2)
  | some (k, q, r) =>
    if kindOkB (k.toNat : Int) then
      if (restF (k.toNat : Int) r).2.2.2.2 then ((k.toNat : Int), bstr q, (restF (k.toNat : Int) r).1, (restF (k.toNat : Int) r).2.1, (restF (k.toNat : Int) r).2.2.1, (restF (k.toNat : Int) r).2.2.2.1, 0)
      else (0, ⟨#[]⟩, 0, 0, [], [], 2)
    else (0, ⟨#[]⟩, 0, 0, [], [], 1)

theorem jparse_any (a : Option Addr) (cap : Nat) (b : List UInt8) (w : World) (hb : NT.SliceB w.heap.size w (.slice a b.length cap) b) :
    Calls Try.prog 8 #[.slice a b.length cap] w (ParseAns (jparseF b).1 (jparseF b).2.1 (jparseF b).2.2.1 (jparseF b).2.2.2.1 (jparseF b).2.2.2.2.1 (jparseF b).2.2.2.2.2.1 (jparseF b).2.2.2.2.2.2 w) := by
  cases hh : headF b with
  | none =>
    have e : jparseF b = (0, ⟨#[]⟩, 0, 0, [], [], 2) := by simp [jparseF, hh]
    rw [e]
    exact parse_none a cap b w hb hh
  | some x =>
    obtain ⟨k, q, r⟩ := x
    have HH : Hid (∀ W, Below w.heap.size w W → Calls Try.prog 39 #[.slice a b.length cap] W fun e w' => ∃ ra rc, e = .returned (.tuple #[.agg #[.int .i64 (k.toNat : Int), .string (bstr q), .int .i64 0, .int .i64 0, .slice none 0 0, .slice none 0 0], .slice ra r.length rc, .bool true]) ∧ NT.SliceB W.heap.size W (.slice ra r.length rc) r ∧ Below W.heap.size W w') := by
      intro W hW
      refine (head_any a cap b W ((hb.same hW.block).mono hW.size)).mono fun e w' h => ?_
      have h1 := h.1
      unfold HeadAns at h1
      rw [hh] at h1
      obtain ⟨ra, rc, h2, h3⟩ := h1
      exact ⟨ra, rc, h2, h3, h.2⟩
    cases hk : kindOkB (k.toNat : Int) with
    | false =>
      have e : jparseF b = (0, ⟨#[]⟩, 0, 0, [], [], 1) := by simp [jparseF, hh, hk]
      rw [e]
      exact parse_kind a cap b.length _ _ r w HH hk
    | true =>
      cases hf : (restF (k.toNat : Int) r).2.2.2.2 with
      | true =>
        have e : jparseF b = ((k.toNat : Int), bstr q, (restF (k.toNat : Int) r).1, (restF (k.toNat : Int) r).2.1, (restF (k.toNat : Int) r).2.2.1, (restF (k.toNat : Int) r).2.2.2.1, 0) := by simp [jparseF, hh, hk, hf]
        rw [e]
        exact parse_rest a cap b.length _ _ r w HH hk _ _ _ _ (fun W ra rc hs => by have h := withRest_any (k.toNat : Int) (bstr q) ra rc r W hs; rw [hf] at h; exact h)
      | false =>
        have e : jparseF b = (0, ⟨#[]⟩, 0, 0, [], [], 2) := by simp [jparseF, hh, hk, hf]
        rw [e]
        exact parse_half a cap b.length _ _ r w HH hk _ _ _ _ (fun W ra rc hs => by have h := withRest_any (k.toNat : Int) (bstr q) ra rc r W hs; rw [hf] at h; exact h)
end Go.Proofs.Ytkddkpdfeeikhaa

/-
  journal.placesOf: the places of queues by their names.
-/
namespace Go.Proofs.Ytkddkpdfeeikhaa
open Go.RowKit Go.WideMaps Go.Maps
set_option linter.unusedVariables false
set_option linter.unusedSimpArgs false

attribute [local go_sem ↓] Go.wp_at_zero Go.wp_at_succ

/-- A name as a key. -/
def keyS (s : ByteArray) : Lit := .string s.data.toList
theorem keyS_ne {a b : ByteArray} (h : a ≠ b) : keyS a ≠ keyS b := fun e => h (by
  simp only [keyS, Lit.string.injEq] at e
  exact ByteArray.ext (Array.toList_inj.1 e))
theorem keyS_lit (s : ByteArray) : WideAt.IsKeyLit (keyS s) := trivial
theorem keyed9 : Keyed Try.prog 9 := string_keyed Try.underlying9
theorem zero3J (w : World) : (zeroValue 3).run Try.prog w = .ok (.int .i64 0) w := by kernel_rfl

/-- A map that tells, of each name, the place of the first queue that has it, from i0 on. -/
def PM (D : DataW Unit) (i0 : Nat) (qs : List QD) : Prop :=
  ∀ s, Maps.has D (keyS s) = qs.any (nameB s) ∧ ∀ k, qs.findIdx? (nameB s) = some k → D.atKey (keyS s) (.lit (.int .i64 0)) = .lit (.int .i64 ((i0 + k : Nat) : Int))

theorem PM.nil (i0 : Nat) : PM (.map []) i0 [] := fun s => ⟨rfl, fun k h => by simp at h⟩

theorem nameB_iff {name : ByteArray} {q : QD} : nameB name q = true ↔ q.name = name := ⟨nameB_eq, fun e => by rw [← e]; exact nameB_self q⟩

theorem PM.cons {D : DataW Unit} {i0 : Nat} {q : QD} {qs : List QD} (h : PM D (i0 + 1) qs) (hD : IsMap D) : PM (D.put (keyS q.name) (.lit (.int .i64 (i0 : Int)))) i0 (q :: qs) := fun s => by
  by_cases e : q.name = s
  · have hb : nameB s q = true := nameB_iff.2 e
    subst e
    refine ⟨by rw [has_put_same hD (keyS_lit _)]; simp [hb], fun k hk => ?_⟩
    rw [atKey_put_same hD (keyS_lit _)]
    simp [List.findIdx?_cons, hb] at hk
    subst hk
    rfl
  · have hb : nameB s q = false := by
      cases h : nameB s q with
      | false => rfl
      | true => exact absurd (nameB_iff.1 h) e
    have hne : keyS s ≠ keyS q.name := keyS_ne (fun h => e h.symm)
    refine ⟨by rw [has_put_other hne, (h s).1]; simp [hb], fun k hk => ?_⟩
    rw [atKey_put_other hne]
    simp only [List.findIdx?_cons, hb, Bool.false_eq_true, if_false, Option.map_eq_some_iff] at hk
    obtain ⟨j, hj, rfl⟩ := hk
    rw [(h s).2 j hj]
    congr 3
    omega

theorem PM.snoc {D : DataW Unit} {qs : List QD} {q : QD} (h : PM D 0 qs) (hD : IsMap D) (hn : ∀ x ∈ qs, nameB q.name x = false) : PM (D.put (keyS q.name) (.lit (.int .i64 (qs.length : Int)))) 0 (qs ++ [q]) := fun s => by
  by_cases e : q.name = s
  · have hb : nameB s q = true := nameB_iff.2 e
    subst e
    refine ⟨by rw [has_put_same hD (keyS_lit _)]; simp [hb], fun k hk => ?_⟩
    rw [atKey_put_same hD (keyS_lit _)]
    rw [List.findIdx?_append, List.findIdx?_eq_none_iff.2 (by simpa using hn)] at hk
    simp [List.findIdx?_cons, hb] at hk
    subst hk
    simp
  · have hb : nameB s q = false := by
      cases h : nameB s q with
      | false => rfl
      | true => exact absurd (nameB_iff.1 h) e
    have hne : keyS s ≠ keyS q.name := keyS_ne (fun h => e h.symm)
    refine ⟨by rw [has_put_other hne, (h s).1]; simp [hb], fun k hk => ?_⟩
    rw [atKey_put_other hne]
    refine (h s).2 k ?_
    rw [List.findIdx?_append] at hk
    cases h1 : qs.findIdx? (nameB s) with
    | some j => rw [h1] at hk; simpa using hk
    | none => rw [h1] at hk; simp [List.findIdx?_cons, hb] at hk

/-- The same names, the same places. -/
theorem PM.names {D : DataW Unit} {i0 : Nat} {qs qs' : List QD} (h : PM D i0 qs) (e : qs'.map QD.name = qs.map QD.name) : PM D i0 qs' := by
  have key : ∀ s (l : List QD), l.any (nameB s) = (l.map QD.name).any (fun n => n.toList == s.toList) ∧ l.findIdx? (nameB s) = (l.map QD.name).findIdx? (fun n => n.toList == s.toList) := fun s l => by
    constructor
    · rw [List.any_map]; rfl
    · rw [List.findIdx?_map]; rfl
  intro s
  rw [(key s qs').1, (key s qs').2, e, ← (key s qs).1, ← (key s qs).2]
  exact h s

set_option maxRecDepth 100000 in
set_option maxHeartbeats 3200000 in
theorem places_any (v : Value) (qs : List QD) (w : World) (hv : SliceQ (Under w.heap.size) w v qs) (hlen : qs.length ≤ 4194304) (hnm : ∀ q ∈ qs, q.name.size ≤ maxLen) :
    Calls Try.prog 77 #[v] w fun e w' => e = .returned (.map (some w.heap.size)) ∧ (∃ D : DataW Unit, w'.ownsMap Try.prog 9 (plainElem Try.prog 3) w.heap.size qs.length D ∧ PM D 0 qs) ∧ Below w.heap.size w w' ∧ w.heap.size < w'.heap.size := by
  have HV : Hid (SliceQ (Under w.heap.size) w v qs) := hv
  have HN : Hid (∀ q ∈ qs, q.name.size ≤ maxLen) := hnm
  obtain ⟨va, vc, rfl, h1, h2, h3⟩ := hv.shape
  unfold maxLen at h2
  clear hv hnm
  obtain ⟨n, hn⟩ : ∃ n, n = qs.length := ⟨_, rfl⟩
  have HNN : Hid (n = qs.length) := hn
  rw [← hn] at hlen h1
  rw [← hn]
  clear hn
  have hmm := @run_makeMap Try.prog
  go_enter Try.func77, Try.ntmps77
  go_wp2
  go_loopw [4] (fun i wr => ∃ j : Nat, j ≤ n ∧ i = .int .i64 ((j : Int) - 1) ∧ (∃ D : DataW Unit, wr.ownsMap Try.prog 9 (plainElem Try.prog 3) w.heap.size (n - j) D ∧ PM D j (qs.drop j)) ∧ Below w.heap.size w wr ∧ w.heap.size < wr.heap.size)
    (fun i _ => (intOf i + 1).toNat)
  case atStart =>
    refine ⟨n, Nat.le_refl _, rfl, ⟨.map [], ?_, ?_⟩, (Below.refl _ _).alloc (Nat.le_refl _) _, by simp⟩
    · rw [Nat.sub_self]; exact World.ownsMap_made _ _ _ _
    · rw [List.drop_of_length_le (by rw [HNN.out]; exact Nat.le_refl _)]; exact PM.nil _
  case round =>
    obtain ⟨j, hj, rfl, ⟨D, hown, hpm⟩, hnx, hwl⟩ := hrel
    have HPM : Hid (PM D j (qs.drop j)) := hpm
    have HOM : Hid (wr.ownsMap Try.prog 9 (plainElem Try.prog 3) w.heap.size (n - j) D) := hown
    clear hpm
    by_cases hlt : 0 < j
    · obtain ⟨i, rfl⟩ : ∃ i, j = i + 1 := ⟨j - 1, by omega⟩
      have hi : i < qs.length := by have := HNN.out; omega
      obtain ⟨b, off, ia, ic, rfl, hS, hq, c0, c1, c2⟩ := (SliceQ.sub (T := Under w.heap.size) HV.out (fun b hb => ⟨hb, hnx.block b hb⟩)).at i hi
      have hkey : keyOf Try.prog 9 (.string qs[i].name) = some (keyS qs[i].name) := keyOf_string_mk Try.underlying9 (HN.out _ (List.getElem_mem hi))
      have hge : (0 : Int) ≤ ((i + 1 : Nat) : Int) - 1 := by omega
      have he : ((i + 1 : Nat) : Int) - 1 = (i : Int) := by omega
      rw [he] at hge ⊢
      clear hq c1 c2
      obtain ⟨nm, hnm⟩ : ∃ nm, nm = qs[i].name := ⟨_, rfl⟩
      rw [← hnm] at c0 hkey
      have HNM : Hid (nm = qs[i].name) := hnm
      clear hnm
      go_wp2_with (first
        | (at_mapUpdate; refine wpList_mapUpdate_own _ rfl _ _ _ 132 rfl 9 3 keyed9 Try.underlying132 _ w.heap.size (n - (i + 1)) _ rfl hown (by unfold maxLen; omega) _ _ _ rfl rfl hkey _ [] (plainElem_int Try.underlying3 (WalkArith.wf_i64 (by omega))) ?_; intro w1 hown1 hgrow1)
        | go_in)
      have R1 : w1.ownsMap Try.prog 9 (plainElem Try.prog 3) w.heap.size (n - i) (D.put (keyS nm) (.lit (.int .i64 (i : Int)))) := by
        have e : n - (i + 1) + 1 = n - i := by omega
        rw [e] at hown1
        exact hown1
      have R2 := hnx.grown hgrow1 hnx.size (fun j hj => by cases hj; exact Nat.le_refl _)
      have R3 : PM (D.put (keyS nm) (.lit (.int .i64 (i : Int)))) i (qs.drop i) := by
        rw [List.drop_eq_getElem_cons hi, HNM.out]
        exact HPM.out.cons (HOM.out.tidy keyed9).isMap
      have R4 : w.heap.size < w1.heap.size := by have := hgrow1.size; omega
      clear hown1 hgrow1 hown
      go_wp2
      go_roundw
      case rel => exact ⟨i, by omega, by go_num, ⟨_, R1, R3⟩, R2, R4⟩
      case measure => simp [intOf]
    · obtain rfl : j = 0 := by omega
      go_wp2
      go_ret
      refine ⟨rfl, ⟨D, ?_, ?_⟩, hnx, hwl⟩
      · have := HOM.out; rw [Nat.sub_zero] at this; exact this
      · have := HPM.out; rwa [List.drop_zero] at this
end Go.Proofs.Ytkddkpdfeeikhaa

/-
  hall.Plain.
-/
namespace Go.Proofs.Ytkddkpdfeeikhaa
open Go.RowKit
set_option linter.unusedVariables false
set_option linter.unusedSimpArgs false

attribute [local go_sem ↓] Go.wp_at_zero Go.wp_at_succ

def plainI (i : IT) : IT := ⟨i.id, 0, 0, false, 0, i.note⟩
def plainQ (q : QD) : QD := ⟨q.name, q.limit, q.items.map plainI⟩

theorem cellsI_set (L : ItL) (k : Nat) (hk : k < L.length) (it : IT) (p : Value × Value) : cellsI (L.set k (it, p)) = ((((((((cellsI L).set (k * 7) (.int .i64 it.id)).set (k * 7 + 1) (.int .i64 it.turn)).set (k * 7 + 2) (.int .i64 it.tries)).set (k * 7 + 3) (.bool it.out)).set (k * 7 + 4) (.int .i64 it.due)).set (k * 7 + 5) p.1).set (k * 7 + 6) p.2) := by
  have hl := cellsI_len L
  apply List.ext_getElem?
  intro i
  have hd : i = i / 7 * 7 + i % 7 := by omega
  by_cases hi : i < L.length * 7
  · have hq : i / 7 < L.length := by omega
    rw [hd, cellsI_at _ _ _ (by simpa using hq) (by omega)]
    have hj : i % 7 = 0 ∨ i % 7 = 1 ∨ i % 7 = 2 ∨ i % 7 = 3 ∨ i % 7 = 4 ∨ i % 7 = 5 ∨ i % 7 = 6 := by omega
    by_cases he : i / 7 = k
    · subst he
      rw [List.getElem_set_self]
      rcases hj with h | h | h | h | h | h | h <;> rw [h] <;> simp [IT.cells, List.getElem?_set, hl] <;> omega
    · rw [List.getElem_set_ne (fun e => he e.symm)]
      rw [← cellsI_at L (i / 7) (i % 7) hq (by omega)]
      iterate 7 rw [List.getElem?_set_ne (by omega)]
  · rw [List.getElem?_eq_none (by rw [cellsI_len]; simp; omega), List.getElem?_eq_none (by simp [hl]; omega)]

/-- The row's world behind seven stores. -/
def put7 (w : World) (g o : Nat) (x0 x1 x2 x3 x4 x5 x6 : Value) : World := ((((((w.setCell ⟨g, o, none⟩ x0).setCell ⟨g, o + 1, none⟩ x1).setCell ⟨g, o + 2, none⟩ x2).setCell ⟨g, o + 3, none⟩ x3).setCell ⟨g, o + 4, none⟩ x4).setCell ⟨g, o + 5, none⟩ x5).setCell ⟨g, o + 6, none⟩ x6
theorem put7_far {w : World} {g o c : Nat} {x0 x1 x2 x3 x4 x5 x6 : Value} (h : c ≠ g) : (put7 w g o x0 x1 x2 x3 x4 x5 x6).heap[c]? = w.heap[c]? := by
  unfold put7; iterate 7 rw [Below.heap_setCell _ _ _ _ h]
theorem put7_size {w : World} {g o : Nat} {x0 x1 x2 x3 x4 x5 x6 : Value} : (put7 w g o x0 x1 x2 x3 x4 x5 x6).heap.size = w.heap.size := by simp [put7]
theorem sc_same (w : World) (a : Addr) (v : Value) : (w.setCell a v).os = w.os ∧ (w.setCell a v).tape = w.tape ∧ (w.setCell a v).output = w.output := ⟨rfl, rfl, rfl⟩
theorem put7_os {w : World} {g o : Nat} {x0 x1 x2 x3 x4 x5 x6 : Value} : (put7 w g o x0 x1 x2 x3 x4 x5 x6).os = w.os ∧ (put7 w g o x0 x1 x2 x3 x4 x5 x6).tape = w.tape ∧ (put7 w g o x0 x1 x2 x3 x4 x5 x6).output = w.output := by
  unfold put7
  exact ⟨by simp only [(sc_same _ _ _).1], by simp only [(sc_same _ _ _).2.1], by simp only [(sc_same _ _ _).2.2]⟩
theorem put7_own {w : World} {base g n cap k : Nat} {L : ItL} (h : w.ownsRow base 78 7 (.slice (some ⟨g, 0, none⟩) n cap) n (cellsI L)) (hk : k < L.length) (it : IT) (p : Value × Value) : (put7 w g (k * 7) (.int .i64 it.id) (.int .i64 it.turn) (.int .i64 it.tries) (.bool it.out) (.int .i64 it.due) p.1 p.2).ownsRow base 78 7 (.slice (some ⟨g, 0, none⟩) n cap) n (cellsI (L.set k (it, p))) := by
  rw [cellsI_set L k hk]
  exact (((((((h.stored (k * 7) _).1.stored (k * 7 + 1) _).1.stored (k * 7 + 2) _).1.stored (k * 7 + 3) _).1.stored (k * 7 + 4) _).1.stored (k * 7 + 5) _).1.stored (k * 7 + 6) _).1

/-- What holds in the loop of 'Plain': the first k items are plain. -/
structure PLI (base : Nat) (W1 : World) (its : List IT) (v : Value) (k : Nat) (L : ItL) (wr : World) : Prop where
  map : L.map Prod.fst = (its.take k).map plainI ++ its.drop k
  own : wr.ownsRow base 78 7 v L.length (cellsI L)
  notes : ∀ x ∈ L, NoteIs (fun b => base ≤ b ∧ b < W1.heap.size ∧ v.ownBlock ≠ some b) wr x.2 x.1.note
  os : wr.os = W1.os ∧ wr.tape = W1.tape ∧ wr.output = W1.output
  size : W1.heap.size ≤ wr.heap.size
  far : ∀ b, b < W1.heap.size → v.ownBlock ≠ some b → wr.heap[b]? = W1.heap[b]?

theorem PLI.at {base : Nat} {W1 : World} {its : List IT} {v : Value} {k : Nat} {L : ItL} {wr : World} (H : PLI base W1 its v k L wr) (hk : k < its.length) : ∃ h : k < L.length, L[k].1 = its[k] := by
  have hl := congrArg List.length H.map
  simp at hl
  refine ⟨by omega, ?_⟩
  have h1 : (L.map Prod.fst)[k]? = some its[k] := by
    rw [H.map, List.getElem?_append_right (by simp; omega)]
    simp [Nat.min_eq_left (Nat.le_of_lt hk), hk]
  rw [List.getElem?_map] at h1
  have h2 : L[k]? = some L[k] := List.getElem?_eq_getElem (by omega)
  rw [h2] at h1
  simpa using h1

theorem plain_set {its : List IT} {k : Nat} (hk : k < its.length) : ((its.take k).map plainI ++ its.drop k).set k (plainI its[k]) = (its.take (k + 1)).map plainI ++ its.drop (k + 1) := by
  have hl : ((its.take k).map plainI).length = k := by simp; omega
  rw [List.drop_eq_getElem_cons hk, List.set_append_right _ _ (by omega), hl, Nat.sub_self, List.set_cons_zero, List.take_succ_eq_append_getElem hk, List.map_append, List.append_assoc]
  rfl

theorem PLI.step {base : Nat} {W1 : World} {its : List IT} {g n cap k : Nat} {L : ItL} {wr : World} (H : PLI base W1 its (.slice (some ⟨g, 0, none⟩) n cap) k L wr) (hk : k < its.length) (hkL : k < L.length) (hn : n = L.length) (o : Obj) : PLI base W1 its (.slice (some ⟨g, 0, none⟩) n cap) (k + 1) (L.set k (plainI its[k], L[k].2)) ((put7 wr g (k * 7) (.int .i64 its[k].id) (.int .i64 0) (.int .i64 0) (.bool false) (.int .i64 0) L[k].2.1 L[k].2.2).alloc o) := by
  obtain ⟨_, hLk⟩ := H.at hk
  have hP : (put7 wr g (k * 7) (.int .i64 its[k].id) (.int .i64 0) (.int .i64 0) (.bool false) (.int .i64 0) L[k].2.1 L[k].2.2).ownsRow base 78 7 (.slice (some ⟨g, 0, none⟩) n cap) n (cellsI (L.set k (plainI its[k], L[k].2))) := put7_own (by have := H.own; rw [← hn] at this; exact this) hkL (plainI its[k]) L[k].2
  obtain ⟨U, hU⟩ : ∃ U, U = put7 wr g (k * 7) (.int .i64 its[k].id) (.int .i64 0) (.int .i64 0) (.bool false) (.int .i64 0) L[k].2.1 L[k].2.2 := ⟨_, rfl⟩
  have hUz : U.heap.size = wr.heap.size := by rw [hU]; exact put7_size
  have hUf : ∀ b, b ≠ g → U.heap[b]? = wr.heap[b]? := fun b hb => by rw [hU]; exact put7_far hb
  have hUo : U.os = wr.os ∧ U.tape = wr.tape ∧ U.output = wr.output := by rw [hU]; exact put7_os
  rw [← hU] at hP
  rw [← hU]
  clear hU
  have far : ∀ b, b ≠ g → b < wr.heap.size → (U.alloc o).heap[b]? = wr.heap[b]? := fun b h1 h2 => (Below.heap_alloc _ _ _ (by rw [hUz]; exact h2)).trans (hUf b h1)
  have hz := H.size
  have hno : ∀ b, (Value.slice (some ⟨g, 0, none⟩) n cap).ownBlock ≠ some b → b ≠ g := fun b h1 h2 => h1 (by rw [h2]; rfl)
  refine ⟨?_, ?_, fun x hx => ?_, ?_, ?_, fun b h1 h2 => (far b (hno b h2) (by omega)).trans (H.far b h1 h2)⟩
  · rw [List.map_set, H.map]
    exact plain_set hk
  · rw [List.length_set, ← hn]
    exact hP.alloc _
  · rcases List.mem_or_eq_of_mem_set hx with hx | rfl
    · exact (H.notes x hx).sub fun b hb => ⟨hb, far b (hno b hb.2.2) (by omega)⟩
    · have := H.notes L[k] (List.getElem_mem hkL)
      rw [hLk] at this
      exact this.sub fun b hb => ⟨hb, far b (hno b hb.2.2) (by omega)⟩
  · exact ⟨hUo.1.trans H.os.1, hUo.2.1.trans H.os.2.1, hUo.2.2.trans H.os.2.2⟩
  · rw [World.size_alloc, hUz]; omega

end Go.Proofs.Ytkddkpdfeeikhaa
