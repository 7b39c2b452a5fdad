/-
  JRest; JParse: texts laid together.
-/
import Derived.Test.YtkddkpdfeeikhaaJItem
/-
  journal.withRest, of any kind and any bytes behind the name.
-/
namespace Go.Proofs.Ytkddkpdfeeikhaa
open Go.RowKit
set_option linter.unusedVariables false
set_option linter.unusedSimpArgs false

/-- What is answered: an entry, whether it is whole, its note in memory that was made. -/
def RestAns (k : Int) (q : ByteArray) (n id : Int) (ps : List NT.PD) (bs : List UInt8) (whole : Bool) (w : World) (e : Ending) (w' : World) : Prop :=
  ∃ va vc ua uc, e = .returned (.tuple #[.agg #[.int .i64 k, .string q, .int .i64 n, .int .i64 id, .slice va ps.length vc, .slice ua bs.length uc], .bool whole]) ∧ NT.SliceP w'.heap.size w' (.slice va ps.length vc) ps ∧ NT.SliceB w'.heap.size w' (.slice ua bs.length uc) bs ∧ Below w.heap.size w w' ∧ NT.FreshV w.heap.size (.slice va ps.length vc) ∧ NT.FreshV w.heap.size (.slice ua bs.length uc)

theorem rest_plain {k : Int} {q : ByteArray} {n id : Int} {b : Bool} {w : World} {e : Ending} {w' : World} (h : e = .returned (.tuple #[entV k q n id (.slice none 0 0) (.slice none 0 0), .bool b]) ∧ Below w.heap.size w w') : RestAns k q n id [] [] b w e w' :=
  ⟨none, 0, none, 0, h.1, NT.SliceP.nil _ _, NT.SliceB.nil _ _, h.2, NT.fresh_nil _, NT.fresh_nil _⟩

/-- A call whose answer is stored into the result's box and is answered. -/
theorem rest_end {k : Int} {q : ByteArray} {n id : Int} {ps : List NT.PD} {bs : List UInt8} {b : Bool} {w W w1 w' : World} {va ua : Option Addr} {vc uc : Nat}
    (h : NT.SliceP w1.heap.size w1 (.slice va ps.length vc) ps ∧ NT.SliceB w1.heap.size w1 (.slice ua bs.length uc) bs ∧ Below W.heap.size W w1 ∧ NT.FreshV W.heap.size (.slice va ps.length vc) ∧ NT.FreshV W.heap.size (.slice ua bs.length uc))
    (hW : Below w.heap.size w W) (hb : ∀ k, W.heap.size ≤ k → k < w1.heap.size → w'.heap[k]? = w1.heap[k]?) (hbel : Below w.heap.size w1 w') :
    RestAns k q n id ps bs b w (.returned (.tuple #[.agg #[.int .i64 k, .string q, .int .i64 n, .int .i64 id, .slice va ps.length vc, .slice ua bs.length uc], .bool b])) w' := by
  obtain ⟨g1, g2, g3, g4, g5⟩ := h
  exact ⟨va, vc, ua, uc, rfl, (NT.SliceP.from_ g1 g4 hb).mono hbel.size, (NT.SliceB.from_ g2 g5 hb).mono hbel.size, hW.trans ((g3.mono hW.size).trans hbel), g4.mono hW.size, g5.mono hW.size⟩

theorem withRest_other (k : Int) (q : ByteArray) (a : Option Addr) (cap : Nat) (r : List UInt8) (w : World) (h1 : ¬ k = 1) (h3 : ¬ k = 3) (h4 : ¬ k = 4) :
    Calls Try.prog 41 #[.agg #[.int .i64 k, .string q, .int .i64 0, .int .i64 0, .slice none 0 0, .slice none 0 0], .slice a r.length cap] w (RestAns k q 0 0 [] [] (decide (r.length = 0)) w) := by
  have e1 : (k == 1) = false := by simpa using h1
  have e3 : (k == 3) = false := by simpa using h3
  have e4 : (k == 4) = false := by simpa using h4
  obtain ⟨A, hA⟩ : ∃ A, A = decide (r.length = 0) := ⟨_, rfl⟩
  rw [← hA]
  have HA : Hid (A = decide (r.length = 0)) := hA
  clear hA
  by_cases hl : r.length = 0
  · have hAv : Hid (A = true) := by show A = true; rw [HA.out]; simp [hl]
    rw [hl]
    go_enter Try.func41, Try.ntmps41
    go_wp2_with fail
    exact bodyPost_ret (v := .tuple #[entV k q 0 0 (.slice none 0 0) (.slice none 0 0), .bool true]) (by simp [results, Try.results41, go_sem, entV, *]) rfl (rest_plain ⟨by rw [hAv.out], (below_alloc _ _).alloc (by simp) _⟩)
  · have hAv : Hid (A = false) := by show A = false; rw [HA.out]; simp [hl]
    have hl2 : ((r.length : Int) == 0) = false := by simp; intro e; exact hl (by simp [e])
    have hl3 : ¬ (r.length : Int) = 0 := by omega
    go_enter Try.func41, Try.ntmps41
    go_wp2_with fail
    exact bodyPost_ret (v := .tuple #[entV k q 0 0 (.slice none 0 0) (.slice none 0 0), .bool false]) (by simp [results, Try.results41, go_sem, entV, *]) rfl (rest_plain ⟨by rw [hAv.out], (below_alloc _ _).alloc (by simp) _⟩)

set_option maxHeartbeats 1000000 in
theorem withRest_1 (q : ByteArray) (n id : Int) (ps : List NT.PD) (bs : List UInt8) (b : Bool) (a : Option Addr) (cap : Nat) (r : List UInt8) (w : World)
    (hC : ∀ W, Below w.heap.size w W → Calls Try.prog 71 #[.agg #[.int .i64 1, .string q, .int .i64 0, .int .i64 0, .slice none 0 0, .slice none 0 0], .slice a r.length cap] W (RestAns 1 q n id ps bs b W)) :
    Calls Try.prog 41 #[.agg #[.int .i64 1, .string q, .int .i64 0, .int .i64 0, .slice none 0 0, .slice none 0 0], .slice a r.length cap] w (RestAns 1 q n id ps bs b w) := by
  have HC : Hid (∀ W, Below w.heap.size w W → Calls Try.prog 71 #[.agg #[.int .i64 1, .string q, .int .i64 0, .int .i64 0, .slice none 0 0, .slice none 0 0], .slice a r.length cap] W (RestAns 1 q n id ps bs b W)) := hC
  have two : Hid (∀ o1 o2 : Obj, Below w.heap.size w ((w.alloc o1).alloc o2)) := fun o1 o2 => (below_alloc _ _).alloc (by simp) _
  have HK : Hid (∀ W, Below (w.heap.size + 2) ((w.alloc (.cells #[.int .i64 1, .string q, .int .i64 0, .int .i64 0, .slice none 0 0, .slice none 0 0] 30)).alloc (.cells #[.int .i64 0, .string ⟨#[]⟩, .int .i64 0, .int .i64 0, .slice none 0 0, .slice none 0 0] 30)) W → Blk W (w.heap.size + 1) [.int .i64 0, .string ⟨#[]⟩, .int .i64 0, .int .i64 0, .slice none 0 0, .slice none 0 0]) := by
    intro W hW
    have h := Blk.new (w.alloc (.cells #[.int .i64 1, .string q, .int .i64 0, .int .i64 0, .slice none 0 0, .slice none 0 0] 30)) [.int .i64 0, .string ⟨#[]⟩, .int .i64 0, .int .i64 0, .slice none 0 0, .slice none 0 0] 30
    rw [World.size_alloc] at h
    exact h.below hW (by omega)
  clear hC
  go_enter Try.func41, Try.ntmps41
  go_wp2_with (go_at_call 71; refine (HC.out _ (two.out _ _)).mono ?_; rintro e w1 ⟨va, vc, ua, uc, rfl, g1, g2, g3, g4, g5⟩; have G := And.intro g1 (And.intro g2 (And.intro g3 (And.intro g4 g5))); have HG : Hid (NT.SliceP w1.heap.size w1 (.slice va ps.length vc) ps ∧ NT.SliceB w1.heap.size w1 (.slice ua bs.length uc) bs ∧ Below ((w.alloc (.cells #[.int .i64 1, .string q, .int .i64 0, .int .i64 0, .slice none 0 0, .slice none 0 0] 30)).alloc (.cells #[.int .i64 0, .string ⟨#[]⟩, .int .i64 0, .int .i64 0, .slice none 0 0, .slice none 0 0] 30)).heap.size ((w.alloc (.cells #[.int .i64 1, .string q, .int .i64 0, .int .i64 0, .slice none 0 0, .slice none 0 0] 30)).alloc (.cells #[.int .i64 0, .string ⟨#[]⟩, .int .i64 0, .int .i64 0, .slice none 0 0, .slice none 0 0] 30)) w1 ∧ NT.FreshV ((w.alloc (.cells #[.int .i64 1, .string q, .int .i64 0, .int .i64 0, .slice none 0 0, .slice none 0 0] 30)).alloc (.cells #[.int .i64 0, .string ⟨#[]⟩, .int .i64 0, .int .i64 0, .slice none 0 0, .slice none 0 0] 30)).heap.size (.slice va ps.length vc) ∧ NT.FreshV ((w.alloc (.cells #[.int .i64 1, .string q, .int .i64 0, .int .i64 0, .slice none 0 0, .slice none 0 0] 30)).alloc (.cells #[.int .i64 0, .string ⟨#[]⟩, .int .i64 0, .int .i64 0, .slice none 0 0, .slice none 0 0] 30)).heap.size (.slice ua bs.length uc)) := G; obtain ⟨d0, d1, d2, d3, d4, d5, d6, d7⟩ := (HK.out w1 (g3.mono (by simp))).b6; clear g1 g2 g3 g4 g5 G)
  refine bodyPost_ret (v := .tuple #[.agg #[.int .i64 1, .string q, .int .i64 n, .int .i64 id, .slice va ps.length vc, .slice ua bs.length uc], .bool b]) (by simp [results, Try.results41, go_sem, *]) rfl ?_
  refine rest_end HG.out (two.out _ _) (fun j hj1 hj2 => ?_) ?_
  · have hj1' : w.heap.size + 2 ≤ j := by simpa using hj1
    iterate 6 rw [Below.heap_setCell _ _ _ _ (by simp; omega)]
  · exact ((((((Below.refl _ _).setCell (by simp) _).setCell (by simp) _).setCell (by simp) _).setCell (by simp) _).setCell (by simp) _).setCell (by simp) _

set_option maxHeartbeats 1000000 in
theorem withRest_3 (q : ByteArray) (n id : Int) (ps : List NT.PD) (bs : List UInt8) (b : Bool) (a : Option Addr) (cap : Nat) (r : List UInt8) (w : World)
    (hC : ∀ W, Below w.heap.size w W → Calls Try.prog 72 #[.agg #[.int .i64 3, .string q, .int .i64 0, .int .i64 0, .slice none 0 0, .slice none 0 0], .slice a r.length cap] W (RestAns 3 q n id ps bs b W)) :
    Calls Try.prog 41 #[.agg #[.int .i64 3, .string q, .int .i64 0, .int .i64 0, .slice none 0 0, .slice none 0 0], .slice a r.length cap] w (RestAns 3 q n id ps bs b w) := by
  have HC : Hid (∀ W, Below w.heap.size w W → Calls Try.prog 72 #[.agg #[.int .i64 3, .string q, .int .i64 0, .int .i64 0, .slice none 0 0, .slice none 0 0], .slice a r.length cap] W (RestAns 3 q n id ps bs b W)) := hC
  have two : Hid (∀ o1 o2 : Obj, Below w.heap.size w ((w.alloc o1).alloc o2)) := fun o1 o2 => (below_alloc _ _).alloc (by simp) _
  have HK : Hid (∀ W, Below (w.heap.size + 2) ((w.alloc (.cells #[.int .i64 3, .string q, .int .i64 0, .int .i64 0, .slice none 0 0, .slice none 0 0] 30)).alloc (.cells #[.int .i64 0, .string ⟨#[]⟩, .int .i64 0, .int .i64 0, .slice none 0 0, .slice none 0 0] 30)) W → Blk W (w.heap.size + 1) [.int .i64 0, .string ⟨#[]⟩, .int .i64 0, .int .i64 0, .slice none 0 0, .slice none 0 0]) := by
    intro W hW
    have h := Blk.new (w.alloc (.cells #[.int .i64 3, .string q, .int .i64 0, .int .i64 0, .slice none 0 0, .slice none 0 0] 30)) [.int .i64 0, .string ⟨#[]⟩, .int .i64 0, .int .i64 0, .slice none 0 0, .slice none 0 0] 30
    rw [World.size_alloc] at h
    exact h.below hW (by omega)
  clear hC
  go_enter Try.func41, Try.ntmps41
  go_wp2_with (go_at_call 72; refine (HC.out _ (two.out _ _)).mono ?_; rintro e w1 ⟨va, vc, ua, uc, rfl, g1, g2, g3, g4, g5⟩; have G := And.intro g1 (And.intro g2 (And.intro g3 (And.intro g4 g5))); have HG : Hid (NT.SliceP w1.heap.size w1 (.slice va ps.length vc) ps ∧ NT.SliceB w1.heap.size w1 (.slice ua bs.length uc) bs ∧ Below ((w.alloc (.cells #[.int .i64 3, .string q, .int .i64 0, .int .i64 0, .slice none 0 0, .slice none 0 0] 30)).alloc (.cells #[.int .i64 0, .string ⟨#[]⟩, .int .i64 0, .int .i64 0, .slice none 0 0, .slice none 0 0] 30)).heap.size ((w.alloc (.cells #[.int .i64 3, .string q, .int .i64 0, .int .i64 0, .slice none 0 0, .slice none 0 0] 30)).alloc (.cells #[.int .i64 0, .string ⟨#[]⟩, .int .i64 0, .int .i64 0, .slice none 0 0, .slice none 0 0] 30)) w1 ∧ NT.FreshV ((w.alloc (.cells #[.int .i64 3, .string q, .int .i64 0, .int .i64 0, .slice none 0 0, .slice none 0 0] 30)).alloc (.cells #[.int .i64 0, .string ⟨#[]⟩, .int .i64 0, .int .i64 0, .slice none 0 0, .slice none 0 0] 30)).heap.size (.slice va ps.length vc) ∧ NT.FreshV ((w.alloc (.cells #[.int .i64 3, .string q, .int .i64 0, .int .i64 0, .slice none 0 0, .slice none 0 0] 30)).alloc (.cells #[.int .i64 0, .string ⟨#[]⟩, .int .i64 0, .int .i64 0, .slice none 0 0, .slice none 0 0] 30)).heap.size (.slice ua bs.length uc)) := G; obtain ⟨d0, d1, d2, d3, d4, d5, d6, d7⟩ := (HK.out w1 (g3.mono (by simp))).b6; clear g1 g2 g3 g4 g5 G)
  refine bodyPost_ret (v := .tuple #[.agg #[.int .i64 3, .string q, .int .i64 n, .int .i64 id, .slice va ps.length vc, .slice ua bs.length uc], .bool b]) (by simp [results, Try.results41, go_sem, *]) rfl ?_
  refine rest_end HG.out (two.out _ _) (fun j hj1 hj2 => ?_) ?_
  · have hj1' : w.heap.size + 2 ≤ j := by simpa using hj1
    iterate 6 rw [Below.heap_setCell _ _ _ _ (by simp; omega)]
  · exact ((((((Below.refl _ _).setCell (by simp) _).setCell (by simp) _).setCell (by simp) _).setCell (by simp) _).setCell (by simp) _).setCell (by simp) _

set_option maxHeartbeats 1000000 in
theorem withRest_4 (q : ByteArray) (n id : Int) (ps : List NT.PD) (bs : List UInt8) (b : Bool) (a : Option Addr) (cap : Nat) (r : List UInt8) (w : World)
    (hC : ∀ W, Below w.heap.size w W → Calls Try.prog 73 #[.agg #[.int .i64 4, .string q, .int .i64 0, .int .i64 0, .slice none 0 0, .slice none 0 0], .slice a r.length cap] W (RestAns 4 q n id ps bs b W)) :
    Calls Try.prog 41 #[.agg #[.int .i64 4, .string q, .int .i64 0, .int .i64 0, .slice none 0 0, .slice none 0 0], .slice a r.length cap] w (RestAns 4 q n id ps bs b w) := by
  have HC : Hid (∀ W, Below w.heap.size w W → Calls Try.prog 73 #[.agg #[.int .i64 4, .string q, .int .i64 0, .int .i64 0, .slice none 0 0, .slice none 0 0], .slice a r.length cap] W (RestAns 4 q n id ps bs b W)) := hC
  have two : Hid (∀ o1 o2 : Obj, Below w.heap.size w ((w.alloc o1).alloc o2)) := fun o1 o2 => (below_alloc _ _).alloc (by simp) _
  have HK : Hid (∀ W, Below (w.heap.size + 2) ((w.alloc (.cells #[.int .i64 4, .string q, .int .i64 0, .int .i64 0, .slice none 0 0, .slice none 0 0] 30)).alloc (.cells #[.int .i64 0, .string ⟨#[]⟩, .int .i64 0, .int .i64 0, .slice none 0 0, .slice none 0 0] 30)) W → Blk W (w.heap.size + 1) [.int .i64 0, .string ⟨#[]⟩, .int .i64 0, .int .i64 0, .slice none 0 0, .slice none 0 0]) := by
    intro W hW
    have h := Blk.new (w.alloc (.cells #[.int .i64 4, .string q, .int .i64 0, .int .i64 0, .slice none 0 0, .slice none 0 0] 30)) [.int .i64 0, .string ⟨#[]⟩, .int .i64 0, .int .i64 0, .slice none 0 0, .slice none 0 0] 30
    rw [World.size_alloc] at h
    exact h.below hW (by omega)
  clear hC
  go_enter Try.func41, Try.ntmps41
  go_wp2_with (go_at_call 73; refine (HC.out _ (two.out _ _)).mono ?_; rintro e w1 ⟨va, vc, ua, uc, rfl, g1, g2, g3, g4, g5⟩; have G := And.intro g1 (And.intro g2 (And.intro g3 (And.intro g4 g5))); have HG : Hid (NT.SliceP w1.heap.size w1 (.slice va ps.length vc) ps ∧ NT.SliceB w1.heap.size w1 (.slice ua bs.length uc) bs ∧ Below ((w.alloc (.cells #[.int .i64 4, .string q, .int .i64 0, .int .i64 0, .slice none 0 0, .slice none 0 0] 30)).alloc (.cells #[.int .i64 0, .string ⟨#[]⟩, .int .i64 0, .int .i64 0, .slice none 0 0, .slice none 0 0] 30)).heap.size ((w.alloc (.cells #[.int .i64 4, .string q, .int .i64 0, .int .i64 0, .slice none 0 0, .slice none 0 0] 30)).alloc (.cells #[.int .i64 0, .string ⟨#[]⟩, .int .i64 0, .int .i64 0, .slice none 0 0, .slice none 0 0] 30)) w1 ∧ NT.FreshV ((w.alloc (.cells #[.int .i64 4, .string q, .int .i64 0, .int .i64 0, .slice none 0 0, .slice none 0 0] 30)).alloc (.cells #[.int .i64 0, .string ⟨#[]⟩, .int .i64 0, .int .i64 0, .slice none 0 0, .slice none 0 0] 30)).heap.size (.slice va ps.length vc) ∧ NT.FreshV ((w.alloc (.cells #[.int .i64 4, .string q, .int .i64 0, .int .i64 0, .slice none 0 0, .slice none 0 0] 30)).alloc (.cells #[.int .i64 0, .string ⟨#[]⟩, .int .i64 0, .int .i64 0, .slice none 0 0, .slice none 0 0] 30)).heap.size (.slice ua bs.length uc)) := G; obtain ⟨d0, d1, d2, d3, d4, d5, d6, d7⟩ := (HK.out w1 (g3.mono (by simp))).b6; clear g1 g2 g3 g4 g5 G)
  refine bodyPost_ret (v := .tuple #[.agg #[.int .i64 4, .string q, .int .i64 n, .int .i64 id, .slice va ps.length vc, .slice ua bs.length uc], .bool b]) (by simp [results, Try.results41, go_sem, *]) rfl ?_
  refine rest_end HG.out (two.out _ _) (fun j hj1 hj2 => ?_) ?_
  · have hj1' : w.heap.size + 2 ≤ j := by simpa using hj1
    iterate 6 rw [Below.heap_setCell _ _ _ _ (by simp; omega)]
  · exact ((((((Below.refl _ _).setCell (by simp) _).setCell (by simp) _).setCell (by simp) _).setCell (by simp) _).setCell (by simp) _).setCell (by simp) _

/-- What is behind the name, by the kind: N, ID, the note, and whether it is whole. -/
def restF (k : Int) (r : List UInt8) : Int × Int × List NT.PD × List UInt8 × Bool :=
  if k = 1 then (oneF r, 0, [], [], decide (r.length = 1))
  else if k = 3 then
    if r.length < 4 then (0, 0, [], [], false)
    else (0, NT.valB (r.take 4), (NT.parseF (r.drop 4)).2.1, (NT.parseF (r.drop 4)).2.2.1, decide ((NT.parseF (r.drop 4)).1 = 0) && decide (((NT.parseF (r.drop 4)).2.2.2 : Int) = (r.length : Int) - 4))
  else if k = 4 then (0, idF r, [], [], decide (r.length = 4))
  else (0, 0, [], [], decide (r.length = 0))

theorem withRest_any (k : Int) (q : ByteArray) (a : Option Addr) (cap : Nat) (r : List UInt8) (w : World) (hb : NT.SliceB w.heap.size w (.slice a r.length cap) r) :
    Calls Try.prog 41 #[.agg #[.int .i64 k, .string q, .int .i64 0, .int .i64 0, .slice none 0 0, .slice none 0 0], .slice a r.length cap] w (RestAns k q (restF k r).1 (restF k r).2.1 (restF k r).2.2.1 (restF k r).2.2.2.1 (restF k r).2.2.2.2 w) := by
  have hB : ∀ W, Below w.heap.size w W → NT.SliceB W.heap.size W (.slice a r.length cap) r := fun W hW => (hb.same hW.block).mono hW.size
  by_cases h1 : k = 1
  · subst h1
    have e : restF 1 r = (oneF r, 0, [], [], decide (r.length = 1)) := rfl
    rw [e]
    exact withRest_1 q _ _ _ _ _ a cap r w fun W hW => (withN_any 1 q a cap r W (hB W hW)).mono fun e w' h => rest_plain h
  · by_cases h3 : k = 3
    · subst h3
      by_cases hl : r.length < 4
      · have e : restF 3 r = (0, 0, [], [], false) := by simp [restF, hl]
        rw [e]
        exact withRest_3 q _ _ _ _ _ a cap r w fun W hW => (withItem_short 3 q a cap r W hl).mono fun e w' h => rest_plain h
      · have e : restF 3 r = ((0 : Int), (NT.valB (r.take 4) : Int), (NT.parseF (r.drop 4)).2.1, (NT.parseF (r.drop 4)).2.2.1, decide ((NT.parseF (r.drop 4)).1 = 0) && decide (((NT.parseF (r.drop 4)).2.2.2 : Int) = (r.length : Int) - 4)) := by simp [restF, hl]
        rw [e]
        obtain ⟨a', cap', e0, -, -, -, hat⟩ := id hb
        simp only [Value.slice.injEq] at e0
        obtain ⟨rfl, -, rfl⟩ := e0
        obtain ⟨blk, off, rfl, -⟩ := hat 0 (by omega)
        refine withRest_3 q _ _ _ _ _ _ cap r w fun W hW => (withItem_ok 3 q blk off cap r W (hB W hW) (by omega)).mono fun e w' h => ?_
        obtain ⟨v, u, he, hv, hu, hbel, f1, f2⟩ := h
        obtain ⟨va, vc, rfl, -⟩ := id hv
        obtain ⟨ua, uc, rfl, -⟩ := id hu
        exact ⟨va, vc, ua, uc, he, hv, hu, hbel, f1, f2⟩
    · by_cases h4 : k = 4
      · subst h4
        have e : restF 4 r = (0, idF r, [], [], decide (r.length = 4)) := rfl
        rw [e]
        exact withRest_4 q _ _ _ _ _ a cap r w fun W hW => (withID_any 4 q a cap r W (hB W hW)).mono fun e w' h => rest_plain h
      · have e : restF k r = (0, 0, [], [], decide (r.length = 0)) := by simp [restF, h1, h3, h4]
        rw [e]
        exact withRest_other k q a cap r w h1 h3 h4
end Go.Proofs.Ytkddkpdfeeikhaa

/-
  journal.Parse, of any bytes.
-/
namespace Go.Proofs.Ytkddkpdfeeikhaa
open Go.RowKit
set_option linter.unusedVariables false
set_option linter.unusedSimpArgs false

/-- What Parse answers: an entry, and an error; its note lies in memory that was made. -/
def ParseAns (k : Int) (q : ByteArray) (n id : Int) (ps : List NT.PD) (bs : List UInt8) (en : Int) (w : World) (e : Ending) (w' : World) : Prop :=
  ∃ va vc ua uc, e = .returned (.tuple #[.agg #[.int .i64 k, .string q, .int .i64 n, .int .i64 id, .slice va ps.length vc, .slice ua bs.length uc], .int .i64 en]) ∧ NT.SliceP w'.heap.size w' (.slice va ps.length vc) ps ∧ NT.SliceB w'.heap.size w' (.slice ua bs.length uc) bs ∧ Below w.heap.size w w' ∧ NT.FreshV w.heap.size (.slice va ps.length vc) ∧ NT.FreshV w.heap.size (.slice ua bs.length uc)

theorem parse_no {en : Int} {w : World} {e : Ending} {w' : World} (h : e = .returned (.tuple #[noEntry, .int .i64 en]) ∧ Below w.heap.size w w') : ParseAns 0 ⟨#[]⟩ 0 0 [] [] en w e w' :=
  ⟨none, 0, none, 0, h.1, NT.SliceP.nil _ _, NT.SliceB.nil _ _, h.2, NT.fresh_nil _, NT.fresh_nil _⟩

theorem parse_none (a : Option Addr) (cap : Nat) (b : List UInt8) (w : World) (hb : NT.SliceB w.heap.size w (.slice a b.length cap) b) (hn : headF b = none) :
    Calls Try.prog 8 #[.slice a b.length cap] w (ParseAns 0 ⟨#[]⟩ 0 0 [] [] 2 w) := by
  have HH : Hid (∀ W, Below w.heap.size w W → Calls Try.prog 39 #[.slice a b.length cap] W fun e w' => e = .returned (.tuple #[noEntry, .slice none 0 0, .bool false]) ∧ Below W.heap.size W w') := by
    intro W hW
    refine (head_any a cap b W ((hb.same hW.block).mono hW.size)).mono fun e w' h => ⟨?_, h.2⟩
    have := h.1
    unfold HeadAns at this
    rw [hn] at this
    exact this
  clear hb hn
  go_enter Try.func8, Try.ntmps8
  go_wp2_with (go_at_call 39; refine (HH.out _ (below_alloc _ _)).mono ?_; rintro e w1 ⟨rfl, hb1⟩; unfold noEntry; have hk := (Blk.new w [.int .i64 0, .string ⟨#[]⟩, .int .i64 0, .int .i64 0, .slice none 0 0, .slice none 0 0] 30).below hb1 (by simp); obtain ⟨d0, d1, d2, d3, d4, d5, d6, d7⟩ := hk.b6; have HB1 : Hid (Below w.heap.size w w1) := (below_alloc _ _).trans (hb1.mono (by simp)); clear hk hb1)
  exact bodyPost_ret (v := .tuple #[noEntry, .int .i64 2]) (by simp [results, Try.results8, go_sem, noEntry, *]) rfl (parse_no ⟨rfl, ((((((HB1.out.setCell (by simp) _).setCell (by simp) _).setCell (by simp) _).setCell (by simp) _).setCell (by simp) _).setCell (by simp) _).alloc (by simp; omega) _⟩)

theorem parse_kind (a : Option Addr) (cap bl : Nat) (k : Int) (q : ByteArray) (r : List UInt8) (w : World)
    (HH : Hid (∀ W, Below w.heap.size w W → Calls Try.prog 39 #[.slice a bl cap] W fun e w' => ∃ ra rc, e = .returned (.tuple #[.agg #[.int .i64 k, .string q, .int .i64 0, .int .i64 0, .slice none 0 0, .slice none 0 0], .slice ra r.length rc, .bool true]) ∧ NT.SliceB W.heap.size W (.slice ra r.length rc) r ∧ Below W.heap.size W w')) (hk : kindOkB k = false) :
    Calls Try.prog 8 #[.slice a bl cap] w (ParseAns 0 ⟨#[]⟩ 0 0 [] [] 1 w) := by
  have HI : Hid (∀ W, Calls Try.prog 40 #[.int .i64 k] W fun e w' => e = .returned (.bool false) ∧ w' = W) := by
    intro W
    have h := isKindE_any k W
    rw [hk] at h
    exact h
  clear hk
  go_enter Try.func8, Try.ntmps8
  go_wp2_with (first
    | (go_at_call 39; refine (HH.out _ (below_alloc _ _)).mono ?_; rintro e w1 ⟨ra, rc, rfl, hs1, hb1⟩; have hk := (Blk.new w [.int .i64 0, .string ⟨#[]⟩, .int .i64 0, .int .i64 0, .slice none 0 0, .slice none 0 0] 30).below hb1 (by simp); obtain ⟨d0, d1, d2, d3, d4, d5, d6, d7⟩ := hk.b6; have HB1 : Hid (Below w.heap.size w w1 ∧ NT.SliceB w1.heap.size w1 (.slice ra r.length rc) r ∧ Blk w1 w.heap.size [.int .i64 0, .string ⟨#[]⟩, .int .i64 0, .int .i64 0, .slice none 0 0, .slice none 0 0]) := ⟨(below_alloc _ _).trans (hb1.mono (by simp)), (hs1.same hb1.block).mono hb1.size, hk⟩; clear hk hb1 hs1)
    | (go_at_call 40; refine (HI.out _).mono ?_; rintro e w2 ⟨rfl, rfl⟩))
  exact bodyPost_ret (v := .tuple #[noEntry, .int .i64 1]) (by simp [results, Try.results8, go_sem, noEntry, *]) rfl (parse_no ⟨rfl, ((((((HB1.out.1.setCell (by simp) _).setCell (by simp) _).setCell (by simp) _).setCell (by simp) _).setCell (by simp) _).setCell (by simp) _).alloc (by simp; omega) _⟩)

theorem parse_end {k : Int} {q : ByteArray} {n id : Int} {ps : List NT.PD} {bs : List UInt8} {en : Int} {w W w1 w' : World} {va ua : Option Addr} {vc uc : Nat}
    (h : NT.SliceP w1.heap.size w1 (.slice va ps.length vc) ps ∧ NT.SliceB w1.heap.size w1 (.slice ua bs.length uc) bs ∧ Below W.heap.size W w1 ∧ NT.FreshV W.heap.size (.slice va ps.length vc) ∧ NT.FreshV W.heap.size (.slice ua bs.length uc))
    (hW : Below w.heap.size w W) (hb : ∀ k, W.heap.size ≤ k → k < w1.heap.size → w'.heap[k]? = w1.heap[k]?) (hbel : Below w.heap.size w1 w') :
    ParseAns k q n id ps bs en w (.returned (.tuple #[.agg #[.int .i64 k, .string q, .int .i64 n, .int .i64 id, .slice va ps.length vc, .slice ua bs.length uc], .int .i64 en])) w' := by
  obtain ⟨g1, g2, g3, g4, g5⟩ := h
  exact ⟨va, vc, ua, uc, rfl, (NT.SliceP.from_ g1 g4 hb).mono hbel.size, (NT.SliceB.from_ g2 g5 hb).mono hbel.size, hW.trans ((g3.mono hW.size).trans hbel), g4.mono hW.size, g5.mono hW.size⟩

theorem parse_rest (a : Option Addr) (cap bl : Nat) (k : Int) (q : ByteArray) (r : List UInt8) (w : World)
    (HH : Hid (∀ W, Below w.heap.size w W → Calls Try.prog 39 #[.slice a bl cap] W fun e w' => ∃ ra rc, e = .returned (.tuple #[.agg #[.int .i64 k, .string q, .int .i64 0, .int .i64 0, .slice none 0 0, .slice none 0 0], .slice ra r.length rc, .bool true]) ∧ NT.SliceB W.heap.size W (.slice ra r.length rc) r ∧ Below W.heap.size W w')) (hk : kindOkB k = true) (n id : Int) (ps : List NT.PD) (bs : List UInt8)
    (HR : Hid (∀ W ra rc, NT.SliceB W.heap.size W (.slice ra r.length rc) r → Calls Try.prog 41 #[.agg #[.int .i64 k, .string q, .int .i64 0, .int .i64 0, .slice none 0 0, .slice none 0 0], .slice ra r.length rc] W (RestAns k q n id ps bs true W))) :
    Calls Try.prog 8 #[.slice a bl cap] w (ParseAns k q n id ps bs 0 w) := by
  have HI : Hid (∀ W, Calls Try.prog 40 #[.int .i64 k] W fun e w' => e = .returned (.bool true) ∧ w' = W) := by
    intro W
    have h := isKindE_any k W
    rw [hk] at h
    exact h
  clear hk
  go_enter Try.func8, Try.ntmps8
  go_wp2_with (first
    | (go_at_call 39; refine (HH.out _ (below_alloc _ _)).mono ?_; rintro e w1 ⟨ra, rc, rfl, hs1, hb1⟩; have hk := (Blk.new w [.int .i64 0, .string ⟨#[]⟩, .int .i64 0, .int .i64 0, .slice none 0 0, .slice none 0 0] 30).below hb1 (by simp); obtain ⟨d0, d1, d2, d3, d4, d5, d6, d7⟩ := hk.b6; have HB1 : Hid (Below w.heap.size w w1 ∧ NT.SliceB w1.heap.size w1 (.slice ra r.length rc) r ∧ Blk w1 w.heap.size [.int .i64 0, .string ⟨#[]⟩, .int .i64 0, .int .i64 0, .slice none 0 0, .slice none 0 0]) := ⟨(below_alloc _ _).trans (hb1.mono (by simp)), (hs1.same hb1.block).mono hb1.size, hk⟩; clear hk hb1 hs1)
    | (go_at_call 40; refine (HI.out _).mono ?_; rintro e w2 ⟨rfl, rfl⟩)
    | (go_at_call 41; refine (HR.out _ _ _ ?_).mono ?_; (exact (HB1.out.2.1.same (below_alloc _ _).block).mono (by simp)); rintro e w3 ⟨va, vc, ua, uc, rfl, g1, g2, g3, g4, g5⟩; have hx := (Blk.new w1 [.int .i64 k, .string q, .int .i64 0, .int .i64 0, .slice none 0 0, .slice none 0 0] 30).below g3 (by simp); have hy := (HB1.out.2.2.alloc _).below g3 (by simp; omega); obtain ⟨x0, x1, x2, x3, x4, x5, x6, x7⟩ := hx.b6; obtain ⟨y0, y1, y2, y3, y4, y5, y6, y7⟩ := hy.b6; have HG := And.intro g1 (And.intro g2 (And.intro g3 (And.intro g4 g5))); clear g1 g2 g3 g4 g5 hx hy))
  have hzw := HB1.out.1.size
  refine bodyPost_ret (v := .tuple #[.agg #[.int .i64 k, .string q, .int .i64 n, .int .i64 id, .slice va ps.length vc, .slice ua bs.length uc], .int .i64 0]) (by simp [results, Try.results8, go_sem, *]) rfl ?_
  refine parse_end HG (HB1.out.1.alloc (by omega) _) (fun j hj1 hj2 => ?_) ?_
  · have hj1' : w1.heap.size + 1 ≤ j := by simpa using hj1
    iterate 12 rw [Below.heap_setCell _ _ _ _ (by simp; omega)]
  · exact (((((((((((((Below.refl _ _).setCell (by simp; omega) _).setCell (by simp; omega) _).setCell (by simp; omega) _).setCell (by simp; omega) _).setCell (by simp; omega) _).setCell (by simp; omega) _).setCell (by simp) _).setCell (by simp) _).setCell (by simp) _).setCell (by simp) _).setCell (by simp) _).setCell (by simp) _)

theorem parse_half (a : Option Addr) (cap bl : Nat) (k : Int) (q : ByteArray) (r : List UInt8) (w : World)
    (HH : Hid (∀ W, Below w.heap.size w W → Calls Try.prog 39 #[.slice a bl cap] W fun e w' => ∃ ra rc, e = .returned (.tuple #[.agg #[.int .i64 k, .string q, .int .i64 0, .int .i64 0, .slice none 0 0, .slice none 0 0], .slice ra r.length rc, .bool true]) ∧ NT.SliceB W.heap.size W (.slice ra r.length rc) r ∧ Below W.heap.size W w')) (hk : kindOkB k = true) (n id : Int) (ps : List NT.PD) (bs : List UInt8)
    (HR : Hid (∀ W ra rc, NT.SliceB W.heap.size W (.slice ra r.length rc) r → Calls Try.prog 41 #[.agg #[.int .i64 k, .string q, .int .i64 0, .int .i64 0, .slice none 0 0, .slice none 0 0], .slice ra r.length rc] W (RestAns k q n id ps bs false W))) :
    Calls Try.prog 8 #[.slice a bl cap] w (ParseAns 0 ⟨#[]⟩ 0 0 [] [] 2 w) := by
  have HI : Hid (∀ W, Calls Try.prog 40 #[.int .i64 k] W fun e w' => e = .returned (.bool true) ∧ w' = W) := by
    intro W
    have h := isKindE_any k W
    rw [hk] at h
    exact h
  clear hk
  go_enter Try.func8, Try.ntmps8
  go_wp2_with (first
    | (go_at_call 39; refine (HH.out _ (below_alloc _ _)).mono ?_; rintro e w1 ⟨ra, rc, rfl, hs1, hb1⟩; have hk := (Blk.new w [.int .i64 0, .string ⟨#[]⟩, .int .i64 0, .int .i64 0, .slice none 0 0, .slice none 0 0] 30).below hb1 (by simp); obtain ⟨d0, d1, d2, d3, d4, d5, d6, d7⟩ := hk.b6; have HB1 : Hid (Below w.heap.size w w1 ∧ NT.SliceB w1.heap.size w1 (.slice ra r.length rc) r ∧ Blk w1 w.heap.size [.int .i64 0, .string ⟨#[]⟩, .int .i64 0, .int .i64 0, .slice none 0 0, .slice none 0 0]) := ⟨(below_alloc _ _).trans (hb1.mono (by simp)), (hs1.same hb1.block).mono hb1.size, hk⟩; clear hk hb1 hs1)
    | (go_at_call 40; refine (HI.out _).mono ?_; rintro e w2 ⟨rfl, rfl⟩)
    | (go_at_call 41; refine (HR.out _ _ _ ?_).mono ?_; (exact (HB1.out.2.1.same (below_alloc _ _).block).mono (by simp)); rintro e w3 ⟨va, vc, ua, uc, rfl, g1, g2, g3, g4, g5⟩; have hx := (Blk.new w1 [.int .i64 k, .string q, .int .i64 0, .int .i64 0, .slice none 0 0, .slice none 0 0] 30).below g3 (by simp); have hy := (HB1.out.2.2.alloc _).below g3 (by simp; omega); obtain ⟨x0, x1, x2, x3, x4, x5, x6, x7⟩ := hx.b6; obtain ⟨y0, y1, y2, y3, y4, y5, y6, y7⟩ := hy.b6; have HG := And.intro g1 (And.intro g2 (And.intro g3 (And.intro g4 g5))); clear g1 g2 g3 g4 g5 hx hy))
  have hzw := HB1.out.1.size
  refine bodyPost_ret (v := .tuple #[noEntry, .int .i64 2]) (by simp [results, Try.results8, go_sem, noEntry, *]) rfl (parse_no ⟨rfl, ?_⟩)
  refine (HB1.out.1.alloc (by omega) _).trans ((HG.2.2.1.mono (by simp; omega)).trans ?_)
  exact (((((((((((((Below.refl _ _).setCell (by simp; omega) _).setCell (by simp; omega) _).setCell (by simp; omega) _).setCell (by simp; omega) _).setCell (by simp; omega) _).setCell (by simp; omega) _).setCell (by simp) _).setCell (by simp) _).setCell (by simp) _).setCell (by simp) _).setCell (by simp) _).setCell (by simp) _)

/-- What any bytes are read as. -/
def jparseF (b : List UInt8) : Int × ByteArray × Int × Int × List NT.PD × List UInt8 × Int :=
  match headF b with
  | none => (0, ⟨#[]⟩, 0, 0, [], [], 2)
  | some (k, q, r) =>
    if kindOkB (k.toNat : Int) then
      if (restF (k.toNat : Int) r).2.2.2.2 then ((k.toNat : Int), bstr q, (restF (k.toNat : Int) r).1, (restF (k.toNat : Int) r).2.1, (restF (k.toNat : Int) r).2.2.1, (restF (k.toNat : Int) r).2.2.2.1, 0)
      else (0, ⟨#[]⟩, 0, 0, [], [], 2)
    else (0, ⟨#[]⟩, 0, 0, [], [], 1)

theorem jparse_any (a : Option Addr) (cap : Nat) (b : List UInt8) (w : World) (hb : NT.SliceB w.heap.size w (.slice a b.length cap) b) :
    Calls Try.prog 8 #[.slice a b.length cap] w (ParseAns (jparseF b).1 (jparseF b).2.1 (jparseF b).2.2.1 (jparseF b).2.2.2.1 (jparseF b).2.2.2.2.1 (jparseF b).2.2.2.2.2.1 (jparseF b).2.2.2.2.2.2 w) := by
  cases hh : headF b with
  | none =>
    have e : jparseF b = (0, ⟨#[]⟩, 0, 0, [], [], 2) := by simp [jparseF, hh]
    rw [e]
    exact parse_none a cap b w hb hh
  | some x =>
    obtain ⟨k, q, r⟩ := x
    have HH : Hid (∀ W, Below w.heap.size w W → Calls Try.prog 39 #[.slice a b.length cap] W fun e w' => ∃ ra rc, e = .returned (.tuple #[.agg #[.int .i64 (k.toNat : Int), .string (bstr q), .int .i64 0, .int .i64 0, .slice none 0 0, .slice none 0 0], .slice ra r.length rc, .bool true]) ∧ NT.SliceB W.heap.size W (.slice ra r.length rc) r ∧ Below W.heap.size W w') := by
      intro W hW
      refine (head_any a cap b W ((hb.same hW.block).mono hW.size)).mono fun e w' h => ?_
      have h1 := h.1
      unfold HeadAns at h1
      rw [hh] at h1
      obtain ⟨ra, rc, h2, h3⟩ := h1
      exact ⟨ra, rc, h2, h3, h.2⟩
    cases hk : kindOkB (k.toNat : Int) with
    | false =>
      have e : jparseF b = (0, ⟨#[]⟩, 0, 0, [], [], 1) := by simp [jparseF, hh, hk]
      rw [e]
      exact parse_kind a cap b.length _ _ r w HH hk
    | true =>
      cases hf : (restF (k.toNat : Int) r).2.2.2.2 with
      | true =>
        have e : jparseF b = ((k.toNat : Int), bstr q, (restF (k.toNat : Int) r).1, (restF (k.toNat : Int) r).2.1, (restF (k.toNat : Int) r).2.2.1, (restF (k.toNat : Int) r).2.2.2.1, 0) := by simp [jparseF, hh, hk, hf]
        rw [e]
        exact parse_rest a cap b.length _ _ r w HH hk _ _ _ _ (fun W ra rc hs => by have h := withRest_any (k.toNat : Int) (bstr q) ra rc r W hs; rw [hf] at h; exact h)
      | false =>
        have e : jparseF b = (0, ⟨#[]⟩, 0, 0, [], [], 2) := by simp [jparseF, hh, hk, hf]
        rw [e]
        exact parse_half a cap b.length _ _ r w HH hk _ _ _ _ (fun W ra rc hs => by have h := withRest_any (k.toNat : Int) (bstr q) ra rc r W hs; rw [hf] at h; exact h)
end Go.Proofs.Ytkddkpdfeeikhaa
