/-
  (*reader).note reads what noteF says.
-/
import Derived.Test.YtnfmidbbelgldaaApp
import Derived.Deep.RegionHeld3
import Derived.Deep.AppendLies
import Derived.Deep.RegionLaw
import Derived.Deep.DrawnRows
import Derived.OwnWalk
namespace Go.Proofs.Ytnfmidbbelgldaa
open Go.RowKit
set_option linter.unusedVariables false
set_option linter.unusedSimpArgs false

attribute [local go_sem ↓] Go.wp_at_zero Go.wp_at_succ

def PD.cells (p : PD) : List Value := [.string p.key, .int .i64 p.kind, .int .i64 p.n, .string p.text]
def cellsL (l : List PD) : List Value := l.flatMap PD.cells

def propsF : Nat → (List UInt8 × Bool) → List PD × (List UInt8 × Bool)
  | 0, s => ([], s)
  | k + 1, s => ((propsF k s).1 ++ [(propF (propsF k s).2).1], (propF (propsF k s).2).2)

theorem propsF_len (k : Nat) (s) : (propsF k s).1.length = k := by
  induction k with
  | zero => rfl
  | succ k ih => simp [propsF, ih]

def NoteBlk (w : World) (b : Nat) (v u : Value) : Prop := w.heap[b]? = some (.cells #[v, u] 25 (0, 0))
theorem NoteBlk.c0 {w : World} {b : Nat} {v u : Value} (h : NoteBlk w b v u) : w.cell? ⟨b, 0, none⟩ = some v := by
  rw [cell_of_row w b 0 _ 25 (0, 0) h]; rfl
theorem NoteBlk.c1 {w : World} {b : Nat} {v u : Value} (h : NoteBlk w b v u) : w.cell? ⟨b, 1, none⟩ = some u := by
  rw [cell_of_row w b 1 _ 25 (0, 0) h]; rfl
theorem NoteBlk.f {w : World} {b : Nat} {v u : Value} (h : NoteBlk w b v u) (o : Nat) : w.frozen? ⟨b, o, none⟩ = false := by
  unfold NoteBlk at h
  simp [World.frozen?, h]
theorem NoteBlk.lt {w : World} {b : Nat} {v u : Value} (h : NoteBlk w b v u) : b < w.heap.size := (Array.getElem?_eq_some_iff.1 h).1
theorem NoteBlk.set0 {w : World} {b : Nat} {v u : Value} (h : NoteBlk w b v u) (v' : Value) : NoteBlk (w.setCell ⟨b, 0, none⟩ v') b v' u := by
  unfold NoteBlk at h ⊢
  simp [World.setCell, Array.getElem?_modify, h]
theorem NoteBlk.set1 {w : World} {b : Nat} {v u : Value} (h : NoteBlk w b v u) (u' : Value) : NoteBlk (w.setCell ⟨b, 1, none⟩ u') b v u' := by
  unfold NoteBlk at h ⊢
  simp [World.setCell, Array.getElem?_modify, h]
theorem NoteBlk.same {w w' : World} {b : Nat} {v u : Value} (h : NoteBlk w b v u) (hb : w'.heap[b]? = w.heap[b]?) : NoteBlk w' b v u := hb.trans h
theorem NoteBlk.grown {w w' : World} {b : Nat} {v u : Value} {row : Option Nat} (h : NoteBlk w b v u) (hb : w.grownBy w' row) (hn : some b ≠ row) : NoteBlk w' b v u := h.same (hb.block b h.lt hn)

def noteF (many : Nat) (s : List UInt8 × Bool) : List PD × List UInt8 × (List UInt8 × Bool) :=
  ((propsF many s).1, (takeF (sizeF (propsF many s).2).1 (sizeF (propsF many s).2).2).1, (takeF (sizeF (propsF many s).2).1 (sizeF (propsF many s).2).2).2)

theorem takeF_le (n : Nat) (s) : (takeF n s).1.length ≤ n := by
  unfold takeF; split <;> simp; omega
theorem sizeF_le (s) : (sizeF s).1 ≤ 255 := by
  unfold sizeF; split
  · simp
  · have := ((takeF 1 s).1.headD 0).toNat_lt
    simp only
    omega

theorem own_mono {w : World} {base base' : Nat} {e : TypeId} {size : Nat} {v : Value} {n : Nat} {xs : List Value} (h : w.ownsRow base e size v n xs) (hb : base' ≤ base) : w.ownsRow base' e size v n xs := by
  obtain ⟨h1, h2⟩ := h
  refine ⟨h1, ?_⟩
  rcases h2 with h2 | ⟨g, cap, cur, hv, hg, r⟩
  · exact .inl h2
  · exact .inr ⟨g, cap, cur, hv, by omega, r⟩

theorem bcellx {W w1 : World} (hb : W.grownBy w1 (Value.slice none 0 0).ownBlock) (b : Nat) (h : b < W.heap.size) : (∀ o, w1.cell? ⟨b, o, none⟩ = W.cell? ⟨b, o, none⟩) ∧ (∀ o, w1.frozen? ⟨b, o, none⟩ = W.frozen? ⟨b, o, none⟩) :=
  ⟨fun o => World.cell?_of_block (a := ⟨b, o, none⟩) (hb.block b h (by simp [Value.ownBlock])), fun o => World.frozen?_of_block (a := ⟨b, o, none⟩) (hb.block b h (by simp [Value.ownBlock]))⟩

theorem prop_any' (R : Nat) (s : List UInt8 × Bool) (w : World) (hR : Rd w R s) :
    Calls Try.prog 63 #[.pointer (some ⟨R, 0, none⟩)] w fun e w' => e = .returned (.agg #[.string (propF s).1.key, .int .i64 (propF s).1.kind, .int .i64 (propF s).1.n, .string (propF s).1.text]) ∧ Rd w' R (propF s).2 ∧ w.grownBy w' (some R) :=
  prop_any R s w hR

theorem grownBy_undrew {w w' : World} {r : Option Nat} (h : w.drew.grownBy w' r) : w.grownBy w' r := ⟨h.os, h.tape, h.output, h.size, h.block⟩

theorem cellsL_snoc (l : List PD) (p : PD) : cellsL (l ++ [p]) = cellsL l ++ p.cells := by simp [cellsL]

/-- What a round of 'note' leaves. -/
theorem note_step {w wr w1 w2 : World} {o : Obj} {R k gg cap : Nat} {v : Value} {s st : List UInt8 × Bool} {xs : List Value}
    (hlt : R < w.heap.size) (hg : w.grownBy wr (some R)) (nb0 : NoteBlk wr w.heap.size (.slice none 0 0) (.slice none 0 0)) (nb1 : NoteBlk wr (w.heap.size + 1) v (.slice none 0 0))
    (hown : wr.ownsRow (w.heap.size + 2) 65 4 v k xs) (hst : st = (propsF k s).2) (hxs : xs = cellsL (propsF k s).1)
    (hr1 : Rd w1 R (propF st).2) (hg1 : wr.grownBy w1 (some R)) (hown2 : w2.ownsRow (w.heap.size + 2) 65 4 (.slice (some ⟨gg, 0, none⟩) (k + 1) cap) (k + 1) (xs ++ (propF st).1.cells)) (hgrow : (w1.alloc o).grownBy w2 v.ownBlock) :
    Rd (w2.setCell ⟨w.heap.size + 1, 0, none⟩ (.slice (some ⟨gg, 0, none⟩) (k + 1) cap)) R (propsF (k + 1) s).2 ∧
    ∃ v', NoteBlk (w2.setCell ⟨w.heap.size + 1, 0, none⟩ (.slice (some ⟨gg, 0, none⟩) (k + 1) cap)) w.heap.size (.slice none 0 0) (.slice none 0 0) ∧
      NoteBlk (w2.setCell ⟨w.heap.size + 1, 0, none⟩ (.slice (some ⟨gg, 0, none⟩) (k + 1) cap)) (w.heap.size + 1) v' (.slice none 0 0) ∧
      (w2.setCell ⟨w.heap.size + 1, 0, none⟩ (.slice (some ⟨gg, 0, none⟩) (k + 1) cap)).ownsRow (w.heap.size + 2) 65 4 v' (k + 1) (cellsL (propsF (k + 1) s).1) ∧
      w.grownBy (w2.setCell ⟨w.heap.size + 1, 0, none⟩ (.slice (some ⟨gg, 0, none⟩) (k + 1) cap)) (some R) := by
  have hz := hg.size
  have hz1 := hg1.size
  have hb1 := nb1.lt
  have hob : ∀ b, b < w.heap.size + 2 → some b ≠ v.ownBlock := fun b hb e => by have := (hown.lt b e.symm).1; omega
  have hblk : ∀ b, b < w.heap.size + 2 → w2.heap[b]? = w1.heap[b]? := fun b hb =>
    (hgrow.block b (by simp; omega) (hob b hb)).trans (Below.heap_alloc _ _ _ (by omega))
  have n1 : NoteBlk w2 (w.heap.size + 1) v (.slice none 0 0) := (nb1.grown hg1 (by simp; omega)).same (hblk _ (by omega))
  have n0 : NoteBlk w2 w.heap.size (.slice none 0 0) (.slice none 0 0) := (nb0.grown hg1 (by simp; omega)).same (hblk _ (by omega))
  refine ⟨?_, _, n0.same (Below.heap_setCell _ _ _ _ (by simp)), n1.set0 _, ?_, ?_⟩
  · subst hst
    exact (hr1.kept (fun b hb => hblk b (by omega))).set (by simp; omega) _
  · subst hst hxs
    rw [propsF, cellsL_snoc]
    exact ownsRow_setCell_below hown2 (by simp) _
  · refine grownBy_set ⟨?_, ?_, ?_, ?_, ?_⟩ (by simp) _
    · exact hgrow.os.trans (hg1.os.trans hg.os)
    · exact hgrow.tape.trans (hg1.tape.trans hg.tape)
    · exact hgrow.output.trans (hg1.output.trans hg.output)
    · have := hgrow.size; simp at this; omega
    · intro b hb hn
      exact (hblk b (by omega)).trans ((hg1.block b (by omega) hn).trans (hg.block b hb hn))

/-- What stands at the end of 'note', ahead of the stores. -/
theorem note_end {w wr w1 w2 w3 : World} {R k cap : Nat} {ao : Option Addr} {v : Value} {s2 : List UInt8 × Bool} {xs : List Value} {bs : List UInt8}
    (hlt : R < w.heap.size) (hg : w.grownBy wr (some R)) (nb0 : NoteBlk wr w.heap.size (.slice none 0 0) (.slice none 0 0)) (nb1 : NoteBlk wr (w.heap.size + 1) v (.slice none 0 0))
    (hown : wr.ownsRow (w.heap.size + 2) 65 4 v k xs) (hg1 : wr.grownBy w1 (some R)) (hg2 : w1.grownBy w2 (some R)) (hr2 : Rd w2 R s2)
    (hown3 : w3.ownsRow (w.heap.size + 2) 5 1 (.slice ao (0 + bs.length) cap) (0 + bs.length) ([] ++ u8s bs)) (hgrow : w2.grownBy w3 (Value.slice none 0 0).ownBlock) :
    NoteBlk w3 w.heap.size (.slice none 0 0) (.slice none 0 0) ∧ NoteBlk w3 (w.heap.size + 1) v (.slice none 0 0) ∧
    w3.ownsRow (w.heap.size + 2) 65 4 v k xs ∧ w3.ownsRow (w.heap.size + 2) 5 1 (.slice ao bs.length cap) bs.length (u8s bs) ∧ Rd w3 R s2 ∧ w.grownBy w3 (some R) := by
  have hz := hg.size
  have hz1 := hg1.size
  have hz2 := hg2.size
  have hb1 := nb1.lt
  have hgn : w2.grownBy w3 none := hgrow
  have g12 := grownBy_trans hg1 hg2
  have n1 : NoteBlk w3 (w.heap.size + 1) v (.slice none 0 0) := (nb1.grown g12 (by simp; omega)).grown hgn (by simp)
  have n0 : NoteBlk w3 w.heap.size (.slice none 0 0) (.slice none 0 0) := (nb0.grown g12 (by simp; omega)).grown hgn (by simp)
  have o1 : w2.ownsRow (w.heap.size + 2) 65 4 v k xs := hown.kept g12 (.inr (fun e => by have := (hown.lt _ e).1; omega))
  have o2 : w3.ownsRow (w.heap.size + 2) 65 4 v k xs := o1.kept hgn (by cases v.ownBlock <;> simp)
  refine ⟨n0, n1, o2, by simpa using hown3, ?_, ?_⟩
  · exact hr2.kept (fun b hb => hgn.block b (by have := hr2.lt; omega) (by simp))
  · exact grownBy_trans (grownBy_trans hg g12) (grownBy_of_below ⟨hgn.os, hgn.tape, hgn.output, hgn.size, fun b hb => hgn.block b hb (by simp)⟩)

theorem Rd.drew {w : World} {R : Nat} {s} (h : Rd w R s) : Rd w.drew R s := h.kept (fun _ _ => rfl)

set_option maxRecDepth 100000 in
set_option maxHeartbeats 3200000 in
theorem note_any (R : Nat) (many : Nat) (hm : many ≤ 4) (s : List UInt8 × Bool) (w : World) (hR : Rd w R s) :
    Calls Try.prog 61 #[.pointer (some ⟨R, 0, none⟩), .int .i64 many] w fun e w' => ∃ v u, e = .returned (.agg #[v, u]) ∧ w'.ownsRow w.heap.size 65 4 v many (cellsL (noteF many s).1) ∧ w'.ownsRow w.heap.size 5 1 u (noteF many s).2.1.length (u8s (noteF many s).2.1) ∧ Rd w' R (noteF many s).2.2 ∧ w.grownBy w' (some R) := by
  have hlt := hR.lt
  obtain ⟨i0, hi0, hz0, hz1, hz2⟩ := info_parts info38
  go_enter Try.func61, Try.ntmps61
  go_wp2
  go_loopw [8] (fun i wr => ∃ k : Nat, k ≤ many ∧ i = .int .i64 k ∧ Rd wr R (propsF k s).2 ∧ ∃ v, NoteBlk wr w.heap.size (.slice none 0 0) (.slice none 0 0) ∧ NoteBlk wr (w.heap.size + 1) v (.slice none 0 0) ∧ wr.ownsRow (w.heap.size + 2) 65 4 v k (cellsL (propsF k s).1) ∧ w.grownBy wr (some R))
    (fun i _ => many - (intOf i).toNat)
  case atStart =>
    refine ⟨0, Nat.zero_le _, rfl, (hR.alloc _).alloc _, _, ?_, ?_, World.ownsRow_nil _ _ _ _, grownBy_alloc' (World.grownBy_alloc _ _ _) _⟩
    · exact (Below.heap_alloc _ _ _ (by simp)).trans (heap_alloc_new w _)
    · have := heap_alloc_new (w.alloc (.cells #[.slice none 0 0, .slice none 0 0] 25)) (.cells #[.slice none 0 0, .slice none 0 0] 25)
      simpa [NoteBlk] using this
  case round =>
    obtain ⟨k, hk, rfl, hr, v, nb0, nb1, hown, hg⟩ := hrel
    obtain ⟨st, hst⟩ : ∃ st, st = (propsF k s).2 := ⟨_, rfl⟩
    obtain ⟨xs, hxs⟩ : ∃ xs, xs = cellsL (propsF k s).1 := ⟨_, rfl⟩
    rw [← hst] at hr
    rw [← hxs] at hown
    have HS : Hid (st = (propsF k s).2) := hst
    have HX : Hid (xs = cellsL (propsF k s).1) := hxs
    clear hst hxs
    have c0 := nb1.c0
    have c1 := nb1.c1
    have f0 := nb1.f 0
    have lb := nb1.lt
    by_cases hltk : k < many
    · have hne : v.ownBlock ≠ some R := fun e => by have := (hown.lt R e).1; omega
      have hn1 : v.ownBlock ≠ some (w.heap.size + 1) := fun e => by have := (hown.lt _ e).1; omega
      go_wp2_with fail
      go_region_law
        (first
          | (go_simp; go_at_call 63; refine (prop_any' R st _ ?_).mono ?_; (first | exact hr | exact hr.drew); rintro e w1 ⟨rfl, hr1, hg1⟩; obtain ⟨p1, p2⟩ := gat hg1 (w.heap.size + 1) (by simp; omega) (by omega); have hown1 : w1.ownsRow (w.heap.size + 2) 65 4 v k xs := (by first | exact hown.kept hg1 (Or.inr hne) | exact hown.drew.kept hg1 (Or.inr hne)); have hsz1 : wr.heap.size ≤ w1.heap.size := hg1.size; have hlw1 : w.heap.size + 1 < w1.heap.size := (by omega))
          | (refine step_append_lies _ (by rfl) _ _ _ (by rfl) (w.heap.size + 2) 65 i0 _ 4 48 Try.underlying22 hi0 hz0 hz1 hz2 rfl (by omega) v k xs (by rfl) ((hown1.alloc _).drew) ⟨w1.heap.size, 0, none⟩ 1 1 (propF st).1.cells (by rfl) (by rfl) (World.news_of_block (cs := #[.string (propF st).1.key, .int .i64 (propF st).1.kind, .int .i64 (propF st).1.n, .string (propF st).1.text]) (t := 65) (fr := (0, 0)) (heap_alloc_new w1 _)) (by simp [PD.cells, Value.oneCell']) (by omega) (by unfold maxLen; omega) (by omega) (by simp; omega) (w1.heap.size + 1) (by simp) ?_; intro gg cap w2 hown2 hgrow hat hlt2; have hfz : w2.frozen? ⟨w.heap.size + 1, 0, none⟩ = false := (by rw [hgrow.frozen_far _ (by simp; omega) (Ne.symm hn1)]; simp [go_sem, p2, f0, hlw1]); have hcl : w2.cell? ⟨w.heap.size + 1, 0, none⟩ = some v := (by rw [hgrow.cell_far _ (by simp; omega) (Ne.symm hn1)]; simp [go_sem, p1, c0, hlw1])))
      all_goals
        have hgr : (w1.alloc (.cells #[.string (propF st).1.key, .int .i64 (propF st).1.kind, .int .i64 (propF st).1.n, .string (propF st).1.text] 65)).grownBy w2 v.ownBlock := by first | exact hgrow | exact grownBy_undrew hgrow
        have RR := note_step hlt hg nb0 nb1 hown HS.out HX.out hr1 (grownBy_undrew hg1) hown2 hgr
        clear hgrow hgr hown2 hcl hfz hat hlt2 p1 p2 hown1 hsz1 hlw1
        go_wp2
        go_roundw
        case rel => exact ⟨k + 1, by omega, by go_num, RR⟩
        case measure => simp [intOf]; omega
    · obtain rfl : k = many := by omega
      obtain ⟨va, vc, rfl, _⟩ := own_shape hown
      have hle := sizeF_le st
      have f1 := nb1.f 1
      have z0 := nb0.c0
      have z1 := nb0.c1
      have zf := nb0.f
      have hN : Hid (xs = cellsL (noteF k s).1 ∧ (noteF k s).2 = (takeF (sizeF st).1 (sizeF st).2)) := by
        show _ ∧ _
        rw [HX.out, HS.out]; exact ⟨rfl, rfl⟩
      go_wp2_with fail
      go_region_law
        (first
          | (go_simp; go_at_call 60; refine (size_any R st _ ?_).mono ?_; (first | exact hr | exact hr.drew); rintro e w1 ⟨rfl, hr1, hg1⟩; obtain ⟨p1, p2⟩ := gat hg1 (w.heap.size + 1) (by simp; omega) (by omega); have hsz1 : wr.heap.size ≤ w1.heap.size := hg1.size)
          | (go_simp; go_at_call 62; refine (take_any R (sizeF st).1 (sizeF st).2 _ ?_).mono ?_; (exact hr1); rintro e w2 ⟨u, rfl, hu2, hr2, hg2⟩; obtain ⟨q1, q2⟩ := gat hg2 (w.heap.size + 1) (by omega) (by omega); have hsz2 : w1.heap.size ≤ w2.heap.size := hg2.size)
          | (refine step_app (by rfl) _ _ (by rfl) (w.heap.size + 2) (.slice none 0 0) 0 [] (by rfl) (World.ownsRow_nil _ _ _ _) R u (takeF (sizeF st).1 (sizeF st).2).1 (by rfl) hu2 (by have := takeF_le (sizeF st).1 (sizeF st).2; omega) (by omega) ?_; intro ao cap w3 hown3 hgrow; obtain ⟨t1, t2⟩ := bcellx hgrow (w.heap.size + 1) (by omega)))
      all_goals
        have RR := note_end hlt hg nb0 nb1 hown (grownBy_undrew hg1) hg2 hr2 hown3 hgrow
        obtain ⟨m0, m1, mo, mu, mr, mg⟩ := RR
        have k0 := m0.c0
        have k1 := m0.c1
        have k2 := m0.f
        have k3 := m1.c0
        have k4 := m1.c1
        have k5 := m1.f
        clear hgrow hown3 hg1 hg2 hr2 hr1 t1 t2 q1 q2 p1 p2
        go_wp2
        obtain ⟨e1, e2⟩ := hN.out
        refine bodyPost_ret (v := .agg #[.slice va k vc, .slice ao (takeF (sizeF st).1 (sizeF st).2).1.length cap]) ?_ rfl ⟨_, _, rfl, ?_, ?_, ?_, ?_⟩
        · simp [results, Try.results61, go_sem, *]
        · rw [← e1]; exact own_mono (ownsRow_setCell_below (ownsRow_setCell_below (ownsRow_setCell_below mo (by simp) _) (by simp) _) (by simp) _) (by omega)
        · rw [e2]; exact own_mono (ownsRow_setCell_below (ownsRow_setCell_below (ownsRow_setCell_below mu (by simp) _) (by simp) _) (by simp) _) (by omega)
        · rw [e2]; exact ((mr.set (by simp; omega) _).set (by simp; omega) _).set (by simp; omega) _
        · exact grownBy_set (grownBy_set (grownBy_set mg (by simp) _) (by simp) _) (by simp) _
end Go.Proofs.Ytnfmidbbelgldaa
