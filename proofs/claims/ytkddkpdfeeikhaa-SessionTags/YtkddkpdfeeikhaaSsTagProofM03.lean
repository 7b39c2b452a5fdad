/-
  Change; Take: texts laid together.
-/
import Derived.Test.YtkddkpdfeeikhaaSsTagProofM02
/-
  The closures that change one item; queue.changed.
-/
namespace Go.Proofs.Ytkddkpdfeeikhaa
open Go.RowKit
set_option linter.unusedVariables false
set_option linter.unusedSimpArgs false

attribute [local go_sem ↓] Go.wp_at_zero Go.wp_at_succ

theorem enter18 (args : Array Value) (W : World) : (callFunc 155 args).run Try.prog W = .ok (.enter 155 args) W := by go_simp
theorem enter20 (args : Array Value) (W : World) : (callFunc 165 args).run Try.prog W = .ok (.enter 165 args) W := by go_simp

/-- A row of items. -/
def RowIs (w : World) (g : Nat) (cs : List Value) : Prop := w.heap[g]? = some (.cells cs.toArray 78 (0, 0))

theorem RowIs.cell {w : World} {g : Nat} {cs : List Value} (h : RowIs w g cs) (o : Nat) : w.cell? ⟨g, o, none⟩ = cs[o]? := by
  rw [cell_of_row w g o _ 78 (0, 0) h]; simp
theorem RowIs.f {w : World} {g : Nat} {cs : List Value} (h : RowIs w g cs) (o : Nat) : w.frozen? ⟨g, o, none⟩ = false := by
  unfold RowIs at h
  simp [World.frozen?, h]
theorem RowIs.set {w : World} {g : Nat} {cs : List Value} (h : RowIs w g cs) (o : Nat) (v : Value) : RowIs (w.setCell ⟨g, o, none⟩ v) g (cs.set o v) := by
  unfold RowIs at h ⊢
  simp [World.setCell, Array.getElem?_modify, h]
theorem RowIs.drew {w : World} {g : Nat} {cs : List Value} (h : RowIs w g cs) : RowIs w.drew g cs := h
theorem RowIs.lt {w : World} {g : Nat} {cs : List Value} (h : RowIs w g cs) : g < w.heap.size := (Array.getElem?_eq_some_iff.1 h).1

/-- One item of the row, at off. -/
def ItemAt (cs : List Value) (off : Nat) (it : IT) (p : Value × Value) : Prop := ∀ j, j < 7 → cs[off + j]? = (it.cells p)[j]?

theorem ItemAt.lt {cs : List Value} {off : Nat} {it : IT} {p : Value × Value} (h : ItemAt cs off it p) : off + 7 ≤ cs.length := by
  have := h 6 (by omega)
  have := (List.getElem?_eq_some_iff.1 this).1
  omega

def IT.fits (i : IT) : Prop := (0 ≤ i.turn ∧ i.turn ≤ 1000000000) ∧ (0 ≤ i.tries ∧ i.tries ≤ 1000000000)

def takeI (now : Int) (i : IT) : IT := { i with turn := i.turn + 1, out := true, due := now + 5 }
def backI (i : IT) : IT := { i with tries := i.tries + 1, out := false, due := 0 }

/-- A function that changes an item in its place. -/
def Changes (B : Nat) (w0 : World) (F : Nat) (caps : List Value) (f : IT → IT) : Prop :=
  (∀ args W, (callFunc F args).run Try.prog W = .ok (.enter F args) W) ∧ ∀ (g off : Nat) (cs : List Value) (it : IT) (p : Value × Value) (W : World), it.fits → Below B w0 W → B ≤ g → RowIs W g cs → ItemAt cs off it p →
    Calls Try.prog F (Value.pointer (some ⟨g, off, none⟩) :: caps).toArray W fun e w' => e = .returned (.tuple #[]) ∧ (∃ cs', RowIs w' g cs' ∧ cs'.length = cs.length ∧ ItemAt cs' off (f it) p ∧ ∀ k, (k < off ∨ off + 7 ≤ k) → cs'[k]? = cs[k]?) ∧ Keep (fun b => b ≠ g) W w'

set_option maxHeartbeats 1000000 in
theorem take_changes (B : Nat) (w0 : World) (c : Nat) (now : Int) (hc : Blk w0 c [.int .i64 now]) (hl : c < B) (hn : 0 ≤ now ∧ now ≤ 1000000000) : Changes B w0 155 [.pointer (some ⟨c, 0, none⟩)] (takeI now) := by
  refine ⟨enter18, fun g off cs it p W hfit hb hg hrow hit => ?_⟩
  obtain ⟨c0, c1, c2⟩ := (hc.below hb hl).b1
  obtain ⟨⟨f1, f2⟩, -⟩ := hfit
  have i1 : W.cell? ⟨g, off + 1, none⟩ = some (.int .i64 it.turn) := (hrow.cell _).trans (hit 1 (by omega))
  have i3 : W.cell? ⟨g, off + 3, none⟩ = some (.bool it.out) := (hrow.cell _).trans (hit 3 (by omega))
  have i4 : W.cell? ⟨g, off + 4, none⟩ = some (.int .i64 it.due) := (hrow.cell _).trans (hit 4 (by omega))
  have ff := hrow.f
  have hne : c ≠ g := by omega
  have HR : Hid (RowIs W g cs) := hrow
  have HI : Hid (ItemAt cs off it p) := hit
  clear hrow hit
  go_enter Try.func155, Try.ntmps155
  go_wp2
  go_region
  go_wp2
  go_end0
  have hl := HI.out.lt
  refine ⟨rfl, ⟨_, ((HR.out.set _ _).set _ _).set _ _, by simp, fun j hj => ?_, fun k hk => ?_⟩, ?_⟩
  · have hj' := HI.out j hj
    have : j = 0 ∨ j = 1 ∨ j = 2 ∨ j = 3 ∨ j = 4 ∨ j = 5 ∨ j = 6 := by omega
    rcases this with rfl | rfl | rfl | rfl | rfl | rfl | rfl
    all_goals
      simp only [List.getElem?_set, List.length_set]
      simp only [IT.cells, List.getElem?_cons_zero, List.getElem?_cons_succ, takeI] at hj' ⊢
      simp
      first | exact hj' | omega | rfl
  · simp only [List.getElem?_set, List.length_set]
    repeat rw [if_neg (by omega)]
  · refine ⟨rfl, rfl, rfl, by simp, fun b hb => ?_⟩
    show (((W.setCell _ _).setCell _ _).setCell _ _).heap[b]? = _
    iterate 3 rw [Below.heap_setCell _ _ _ _ (by simpa using hb)]

set_option maxHeartbeats 1000000 in
theorem back_changes (B : Nat) (w0 : World) : Changes B w0 165 [] backI := by
  refine ⟨enter20, fun g off cs it p W hfit hb hg hrow hit => ?_⟩
  obtain ⟨-, f1, f2⟩ := hfit
  have i2 : W.cell? ⟨g, off + 2, none⟩ = some (.int .i64 it.tries) := (hrow.cell _).trans (hit 2 (by omega))
  have i3 : W.cell? ⟨g, off + 3, none⟩ = some (.bool it.out) := (hrow.cell _).trans (hit 3 (by omega))
  have i4 : W.cell? ⟨g, off + 4, none⟩ = some (.int .i64 it.due) := (hrow.cell _).trans (hit 4 (by omega))
  have ff := hrow.f
  have HR : Hid (RowIs W g cs) := hrow
  have HI : Hid (ItemAt cs off it p) := hit
  clear hrow hit
  go_enter Try.func165, Try.ntmps165
  go_wp2
  go_end0
  have hl := HI.out.lt
  refine ⟨rfl, ⟨_, ((HR.out.set _ _).set _ _).set _ _, by simp, fun j hj => ?_, fun k hk => ?_⟩, ?_⟩
  · have hj' := HI.out j hj
    have : j = 0 ∨ j = 1 ∨ j = 2 ∨ j = 3 ∨ j = 4 ∨ j = 5 ∨ j = 6 := by omega
    rcases this with rfl | rfl | rfl | rfl | rfl | rfl | rfl
    all_goals
      simp only [List.getElem?_set, List.length_set]
      simp only [IT.cells, List.getElem?_cons_zero, List.getElem?_cons_succ, backI] at hj' ⊢
      simp
      first | exact hj' | omega | rfl
  · simp only [List.getElem?_set, List.length_set]
    repeat rw [if_neg (by omega)]
  · refine ⟨rfl, rfl, rfl, by simp, fun b hb => ?_⟩
    show (((W.setCell _ _).setCell _ _).setCell _ _).heap[b]? = _
    iterate 3 rw [Below.heap_setCell _ _ _ _ (by simpa using hb)]

/-- The row of items, and one of them. -/
theorem own_row {w : World} {base n cap g : Nat} {L : ItL} (h : w.ownsRow base 78 7 (.slice (some ⟨g, 0, none⟩) n cap) n (cellsI L)) (hn : n = L.length) (i : Nat) (hi : i < L.length) :
    ∃ cs, RowIs w g cs ∧ cs.take (n * 7) = cellsI L ∧ cs.length = cap * 7 ∧ n ≤ cap ∧ cap ≤ maxLen ∧ base ≤ g ∧ ItemAt cs (i * 7) L[i].1 L[i].2 := by
  rcases h.2 with ⟨e, -⟩ | ⟨g', cap', cur, e, hb, hg, hnc, hcm, hcs, hx⟩
  · simp at e
  simp only [Value.slice.injEq, Option.some.injEq, Addr.mk.injEq, and_true, true_and] at e
  obtain ⟨rfl, rfl⟩ := e
  refine ⟨cur.toList, by simpa [RowIs] using hg, hx, by simpa using hcs, hnc, hcm, hb, fun j hj => ?_⟩
  rw [← cellsI_at L i j hi hj, ← hx, List.getElem?_take, if_pos (by omega)]

theorem own_changed {w' : World} {base n cap g : Nat} {L : ItL} {cs cs' : List Value} {i : Nat} (hi : i < L.length) (hn : n = L.length) (it : IT) (hx : cs.take (n * 7) = cellsI L) (hcs : cs.length = cap * 7) (hnc : n ≤ cap) (hcm : cap ≤ maxLen) (hb : base ≤ g)
    (hr : RowIs w' g cs') (hl : cs'.length = cs.length) (hit : ItemAt cs' (i * 7) it L[i].2) (hk : ∀ k, (k < i * 7 ∨ i * 7 + 7 ≤ k) → cs'[k]? = cs[k]?) :
    w'.ownsRow base 78 7 (.slice (some ⟨g, 0, none⟩) n cap) n (cellsI (L.set i (it, L[i].2))) := by
  refine ⟨by rw [cellsI_len]; simp [hn], .inr ⟨g, cap, cs'.toArray, rfl, hb, hr, hnc, hcm, by simp [hl, hcs], ?_⟩⟩
  apply List.ext_getElem?
  intro k
  by_cases hkn : k < n * 7
  · rw [List.toList_toArray, List.getElem?_take, if_pos hkn]
    have hq : k / 7 < L.length := by omega
    have hke : k = k / 7 * 7 + k % 7 := by omega
    have := cellsI_at (L.set i (it, L[i].2)) (k / 7) (k % 7) (by simpa using hq) (by omega)
    rw [← hke] at this
    rw [this]
    by_cases hki : k / 7 = i
    · have h1 := hit (k % 7) (by omega)
      have : i * 7 + k % 7 = k := by omega
      rw [this] at h1
      rw [h1]
      simp [hki]
    · rw [hk k (by omega)]
      have h2 := cellsI_at L (k / 7) (k % 7) hq (by omega)
      rw [← hke, ← hx, List.getElem?_take, if_pos hkn] at h2
      rw [h2, List.getElem_set_ne (by omega)]
  · rw [List.getElem?_eq_none (by simp; omega), List.getElem?_eq_none (by rw [cellsI_len]; simp; omega)]

theorem own_at {w : World} {base : Nat} {v : Value} {L : ItL} (h : w.ownsRow base 78 7 v L.length (cellsI L)) {i : Nat} (hi : i < L.length) : ∃ g cap, v = .slice (some ⟨g, 0, none⟩) L.length cap := by
  rcases h.2 with ⟨_, h0⟩ | ⟨g, cap, cur, e, -⟩
  · omega
  · exact ⟨g, cap, e⟩

set_option maxRecDepth 100000 in
set_option maxHeartbeats 3200000 in
theorem changed_any (F : Nat) (caps : List Value) (f : IT → IT) (v : Value) (name : ByteArray) (limit : Int) (its : List IT) (i : Nat) (hi : i < its.length) (w : World) (hv : SliceI (Under w.heap.size) w v its) (hs : smallI its) (hfit : (its[i]).fits) (hfn : (f its[i]).note = its[i].note) (hF : Changes w.heap.size w F caps f) :
    Calls Try.prog 154 #[.agg #[.string name, .int .i64 limit, v], .int .i64 i, .func (.func F) #[] caps.toArray] w fun e w' => ∃ vi q, e = .returned (.tuple #[.agg #[.string name, .int .i64 limit, vi], (f its[i]).val q]) ∧ OwnI w.heap.size w' vi (its.set i (f its[i])) ∧ NoteIs (fun b => w.heap.size ≤ b ∧ b < w'.heap.size ∧ vi.ownBlock ≠ some b) w' q its[i].note ∧ Below w.heap.size w w' := by
  have HV : Hid (SliceI (Under w.heap.size) w v its) := hv
  have HS : Hid (smallI its) := hs
  have HF : Hid (Changes w.heap.size w F caps f) := hF
  have hE := hF.1
  have hsm := hs.2 its[i] (List.getElem_mem hi)
  have hlen := hs.1
  obtain ⟨va, vc, n0, rfl⟩ : ∃ va vc n0, v = .slice va n0 vc := by
    obtain ⟨L, -, h1, -⟩ := hv
    obtain ⟨a, c, rfl, -⟩ := h1.shape
    exact ⟨a, c, _, rfl⟩
  clear hv hs hF
  have three : Hid (∀ o1 o2 o3 : Obj, Below w.heap.size w (((w.alloc o1).alloc o2).alloc o3)) := fun o1 o2 o3 => ((below_alloc _ _).alloc (by simp) _).alloc (by simp; omega) _
  go_enter Try.func154, Try.ntmps154
  go_wp2_with (first
    | (go_at_call 87; refine (own_any _ name limit its _ (HV.out.sub fun k hk => ⟨?_, (three.out _ _ _).block k hk⟩) HS.out).mono ?_; (simp [Under] at hk ⊢; omega); rintro e w1 ⟨vi, rfl, ⟨L, hL, ho1, hn1⟩, hb1⟩; have hiL : i < L.length := (by rw [← hL] at hi; simpa using hi); obtain ⟨g, cap, rfl⟩ := own_at ho1 hiL; have hLi : L[i].1 = its[i] := (by subst hL; simp); obtain ⟨cs, hrow, hx, hcs, hnc, hcm, hbg, hit⟩ := own_row ho1 rfl i hiL; have hgl := hrow.lt; rw [hLi] at hit; simp only [World.size_alloc] at hbg; have hz1 := hb1.size; simp only [World.size_alloc] at hz1; have HIT : Hid (ItemAt cs (i * 7) its[i] L[i].2) := hit; have hrow1 : ∀ o, RowIs (w1.alloc o) g cs := (fun o => (Below.heap_alloc _ _ _ hgl).trans hrow); have HRW : Hid (∀ o, RowIs (w1.alloc o) g cs) := hrow1; have hLn : L.length ≤ 4194304 := (by have := congrArg List.length hL; simp at this; omega); have HN1 : Hid _ := hn1; have HX : Hid (cs.take (L.length * 7) = cellsI L ∧ cs.length = cap * 7 ∧ L.length ≤ cap ∧ cap ≤ maxLen ∧ L.map Prod.fst = its ∧ L[i].1 = its[i]) := ⟨hx, hcs, hnc, hcm, hL, hLi⟩; have HB1 : Hid (Below w.heap.size w w1) := (three.out _ _ _).trans (hb1.mono (by simp; omega)); have hblk1 := ((Blk.new ((w.alloc _)) _ 76).alloc _).below hb1 (by simp); have hblk2 := (Blk.new ((w.alloc _).alloc _) _ 78).below hb1 (by simp); simp only [World.size_alloc] at hblk1 hblk2; clear ho1 hn1 hit hrow hrow1 hb1 hx hcs hnc hcm hL hLi)
    | ((with_reducible show Calls Try.prog F _ _ _); refine (HF.out.2 g (i * 7) cs its[i] L[i].2 _ hfit (HB1.out.trans ((below_alloc _ _).mono (by omega))) (by omega) (HRW.out _) HIT.out).mono ?_; rintro e w2 ⟨rfl, ⟨cs', hrow', hlen', hit', hrest⟩, hk2⟩; obtain ⟨y0, y1, y2, y3, y4⟩ := ((Blk.new w1 _ 76).same (hk2.block w1.heap.size (by omega))).b3; have hb1' := (hblk1.alloc _).same (hk2.block _ (by omega)); have hb2' := (hblk2.alloc _).same (hk2.block _ (by omega)); obtain ⟨z0, z1, z2, z3, z4⟩ := hb1'.b3; obtain ⟨⟨x0, x1, x2, x3⟩, ⟨x4, x5, x6⟩, x7, x8⟩ := hb2'.b7; have HZ : Hid _ := And.intro hb1' (And.intro hb2' ((Blk.new w1 _ 76).same (hk2.block w1.heap.size (by omega)))); clear hblk1 hblk2 hb1' hb2'))
  have hnL := HN1.out L[i] (List.getElem_mem hiL)
  obtain ⟨pa, pc, e1, -⟩ := SliceV.shape hnL.1
  obtain ⟨qa, qc, e2, -⟩ := SliceV.shape hnL.2
  obtain ⟨it2, hit2⟩ : ∃ it2, it2 = f its[i] := ⟨_, rfl⟩
  rw [← hit2] at hit' hfn
  have HIT2 : Hid (it2 = f its[i]) := hit2
  have HFN : Hid (it2.note = its[i].note) := hfn
  have HU : Hid (∀ b, b < w1.heap.size → b ≠ g → w2.heap[b]? = w1.heap[b]?) := fun b hb hn => (hk2.block b hn).trans (Below.heap_alloc _ _ _ hb)
  have hz2 : w1.heap.size + 1 ≤ w2.heap.size := by have := hk2.size; simpa using this
  have HN2 : Hid (NoteIs (Under w2.heap.size) w2 (.slice pa L[i].1.note.props.length pc, .slice qa L[i].1.note.body.length qc) it2.note) := by
    rw [← e1, ← e2, hfn, ← HX.out.2.2.2.2.2]
    refine hnL.sub fun b hb => ⟨?_, HU.out b hb.2.1 (fun e => hb.2.2 (by rw [e]; rfl))⟩
    show b < _
    have := hb.2.1; omega
  have r0 : w2.cell? ⟨g, i * 7, none⟩ = some (.int .i64 it2.id) := (hrow'.cell _).trans (hit' 0 (by omega))
  have r1 : w2.cell? ⟨g, i * 7 + 1, none⟩ = some (.int .i64 it2.turn) := (hrow'.cell _).trans (hit' 1 (by omega))
  have r2 : w2.cell? ⟨g, i * 7 + 2, none⟩ = some (.int .i64 it2.tries) := (hrow'.cell _).trans (hit' 2 (by omega))
  have r3 : w2.cell? ⟨g, i * 7 + 3, none⟩ = some (.bool it2.out) := (hrow'.cell _).trans (hit' 3 (by omega))
  have r4 : w2.cell? ⟨g, i * 7 + 4, none⟩ = some (.int .i64 it2.due) := (hrow'.cell _).trans (hit' 4 (by omega))
  have r5 : w2.cell? ⟨g, i * 7 + 5, none⟩ = some (.slice pa L[i].1.note.props.length pc) := ((hrow'.cell _).trans (hit' 5 (by omega))).trans (by rw [← e1]; rfl)
  have r6 : w2.cell? ⟨g, i * 7 + 6, none⟩ = some (.slice qa L[i].1.note.body.length qc) := ((hrow'.cell _).trans (hit' 6 (by omega))).trans (by rw [← e2]; rfl)
  have HSM : Hid it2.note.small := by rw [hfn]; exact hsm
  have HO2 : Hid (w2.ownsRow w.heap.size 78 7 (.slice (some ⟨g, 0, none⟩) L.length cap) L.length (cellsI (L.set i (it2, L[i].2)))) := own_changed hiL rfl it2 HX.out.1 HX.out.2.1 HX.out.2.2.1 HX.out.2.2.2.1 (by omega) hrow' hlen' hit' hrest
  have HB2 : Hid (Below w.heap.size w w2) := HB1.out.trans ⟨hk2.os, hk2.tape, hk2.output, by omega, fun b hb => HU.out b (by omega) (by omega)⟩
  clear hrow' hlen' hit' hrest hk2 hnL HIT HRW e1 e2
  clear hit2 hfn
  go_region_law (first
    | (go_simp; go_at_call 130; refine (ownItem_any _ _ it2 HSM.out _ ?_).mono ?_; (exact HN2.out.sub fun b hb => ⟨hb, rfl⟩); rintro e w3 ⟨⟨q1, q2⟩, rfl, hn3, hb3⟩; obtain ⟨xa, xc, rfl, -⟩ := SliceV.shape hn3.1; obtain ⟨ya, yc, rfl, -⟩ := SliceV.shape hn3.2; have hb3' : Below w2.heap.size w2 w3 := ⟨hb3.os, hb3.tape, hb3.output, hb3.size, hb3.block⟩; obtain ⟨u0, u1, u2, u3, u4⟩ := (HZ.out.2.2.below hb3' (by omega)).b3; obtain ⟨v0, v1, v2, v3, v4⟩ := (HZ.out.1.below hb3' (by omega)).b3; obtain ⟨⟨t0, t1, t2, t3⟩, ⟨t4, t5, t6⟩, t7, t8⟩ := (HZ.out.2.1.below hb3' (by omega)).b7; have hn3' : NoteIs (Made w2.heap.size w3.heap.size) w3 (.slice xa it2.note.props.length xc, .slice ya it2.note.body.length yc) it2.note := hn3; clear hn3 hb3; simp only [IT.val]))
  all_goals go_wp2
  all_goals
    refine bodyPost_ret (v := .tuple #[.agg #[.string name, .int .i64 limit, .slice (some ⟨g, 0, none⟩) L.length cap], .agg #[.int .i64 it2.id, .int .i64 it2.turn, .int .i64 it2.tries, .bool it2.out, .int .i64 it2.due, .slice xa it2.note.props.length xc, .slice ya it2.note.body.length yc]]) (by simp [results, Try.results154, go_sem, *]; done) rfl ?_
    rw [← HIT2.out]
    have hbk : ∀ b, b ≠ w.heap.size + 1 → b ≠ w.heap.size + 1 + 1 → b < w1.heap.size → b ≠ g → w3.heap[b]? = w1.heap[b]? := fun b _ _ h3 h4 => (hb3'.block b (by omega)).trans (HU.out b h3 h4)
    refine ⟨_, (.slice xa it2.note.props.length xc, .slice ya it2.note.body.length yc), rfl, ⟨L.set i (it2, L[i].2), ?_, ?_, fun x hx => ?_⟩, ?_, ?_⟩
    · rw [List.map_set, HX.out.2.2.2.2.1]
    · rw [List.length_set]
      iterate 10 refine own_far ?_ (by simp [Value.ownBlock]; omega) _
      exact own_below HO2.out hb3'
    · rcases List.mem_or_eq_of_mem_set hx with hx | rfl
      · refine (HN1.out x hx).sub fun b hb => ?_
        obtain ⟨h1, h2, h3⟩ := hb
        simp only [World.size_alloc] at h1
        refine ⟨⟨by omega, by simp; have := hb3'.size; omega, h3⟩, ?_⟩
        iterate 10 rw [Below.heap_setCell _ _ _ _ (by simp; omega)]
        exact hbk b (by omega) (by omega) h2 (fun e => h3 (by rw [e]; rfl))
      · have hnL := HN1.out L[i] (List.getElem_mem hiL)
        rw [HX.out.2.2.2.2.2, ← HFN.out] at hnL
        refine hnL.sub fun b hb => ?_
        obtain ⟨h1, h2, h3⟩ := hb
        simp only [World.size_alloc] at h1
        refine ⟨⟨by omega, by simp; have := hb3'.size; omega, h3⟩, ?_⟩
        iterate 10 rw [Below.heap_setCell _ _ _ _ (by simp; omega)]
        exact hbk b (by omega) (by omega) h2 (fun e => h3 (by rw [e]; rfl))
    · rw [← HFN.out]
      refine hn3'.sub fun b hb => ?_
      obtain ⟨h1, h2⟩ := hb
      refine ⟨⟨by omega, by simpa using h2, by simp [Value.ownBlock]; omega⟩, ?_⟩
      iterate 10 rw [Below.heap_setCell _ _ _ _ (by simp; omega)]
    · iterate 10 refine Below.setCell ?_ (by simp <;> omega) _
      exact HB2.out.trans (hb3'.mono (by omega))
end Go.Proofs.Ytkddkpdfeeikhaa

/-
  queue.Take, queue.Late.
-/
namespace Go.Proofs.Ytkddkpdfeeikhaa
open Go.RowKit
set_option linter.unusedVariables false
set_option linter.unusedSimpArgs false

attribute [local go_sem ↓] Go.wp_at_zero Go.wp_at_succ

theorem indexI_any (F : Nat) (caps : List Value) (p : IT → Bool) (v : Value) (its : List IT) (w : World) (h : SliceI (Under w.heap.size) w v its) (hF : Tells w.heap.size w F caps p) :
    Calls Try.prog 129 #[v, .func (.func F) #[] caps.toArray] w fun e w' => e = .returned (.int .i64 (idxI p its)) ∧ Below w.heap.size w w' := by
  obtain ⟨L, rfl, h⟩ := h
  exact index_any F caps p v L w h hF

theorem SliceI.shp {S : Nat → Prop} {w : World} {v : Value} {its : List IT} (h : SliceI S w v its) : ∃ a cap, v = .slice a its.length cap := by
  obtain ⟨L, rfl, h, -⟩ := h
  obtain ⟨a, cap, rfl, h1, h2, h3⟩ := h.shape
  exact ⟨a, cap, by simp⟩

theorem OwnI.made {base : Nat} {w : World} {v : Value} {its : List IT} (h : OwnI base w v its) : SliceI (Made base w.heap.size) w v its := by
  obtain ⟨L, e, h1, h2⟩ := h
  exact ⟨L, e, (own_slice h1).sub fun k hk => ⟨h1.lt k hk, rfl⟩, fun x hx => (h2 x hx).sub fun b hb => ⟨⟨hb.1, hb.2.1⟩, rfl⟩⟩

theorem Keep.set {S : Nat → Prop} {a w : World} (h : Keep S a w) {p : Addr} (hp : ¬ S p.block) (u : Value) : Keep S a (w.setCell p u) :=
  h.trans (T := S) ⟨rfl, rfl, rfl, by simp, fun k hk => Below.heap_setCell _ _ _ _ (fun e => hp (e ▸ hk))⟩ (fun _ h => h)
theorem Keep.drew {S : Nat → Prop} {a w : World} (h : Keep S a w) : Keep S a w.drew := ⟨h.os, h.tape, h.output, h.size, h.block⟩

def isInB (i : IT) : Bool := !i.out
theorem isIn_tells' (B : Nat) (w0 : World) : Tells B w0 153 [] isInB := isIn_tells B w0

set_option maxRecDepth 100000 in
set_option maxHeartbeats 3200000 in
theorem take_none (v : Value) (name : ByteArray) (limit now : Int) (its : List IT) (w : World) (hv : SliceI (Under w.heap.size) w v its) (hi : idxI isInB its = -1) :
    Calls Try.prog 138 #[.agg #[.string name, .int .i64 limit, v], .int .i64 now] w fun e w' => e = .returned (.tuple #[.agg #[.string ⟨#[]⟩, .int .i64 0, .slice none 0 0], .agg #[.int .i64 0, .int .i64 0, .int .i64 0, .bool false, .int .i64 0, .slice none 0 0, .slice none 0 0], .int .i64 6]) ∧ Below w.heap.size w w' := by
  have HV : Hid (SliceI (Under w.heap.size) w v its) := hv
  obtain ⟨va, vc, rfl⟩ := hv.shp
  clear hv
  have four : Hid (∀ o1 o2 o3 o4 : Obj, Below w.heap.size w ((((w.alloc o1).alloc o2).alloc o3).alloc o4)) := fun o1 o2 o3 o4 => (((below_alloc _ _).alloc (by simp) _).alloc (by simp; omega) _).alloc (by simp; omega) _
  have HI : Hid (idxI isInB its = -1) := hi
  clear hi
  go_enter Try.func138, Try.ntmps138
  go_wp2_with (go_at_call 129; refine (indexI_any 153 [] isInB _ its _ (HV.out.sub fun k hk => ⟨?_, (four.out _ _ _ _).block k hk⟩) (isIn_tells' _ _)).mono ?_; (simp [Under] at hk ⊢; omega); rw [HI.out]; rintro e w1 ⟨rfl, hb1⟩; obtain ⟨b0, b1, b2, b3, b4⟩ := (((Blk.new ((w.alloc _).alloc _) _ 76).alloc _).below hb1 (by simp <;> omega)).b3; obtain ⟨⟨c0, c1, c2, c3⟩, ⟨c4, c5, c6⟩, c7, c8⟩ := ((Blk.new (((w.alloc _).alloc _).alloc _) _ 78).below hb1 (by simp <;> omega)).b7; simp only [World.size_alloc] at b0 b1 b2 b3 b4 c0 c1 c2 c3 c4 c5 c6 c7 c8)
  refine bodyPost_ret (v := .tuple #[.agg #[.string ⟨#[]⟩, .int .i64 0, .slice none 0 0], .agg #[.int .i64 0, .int .i64 0, .int .i64 0, .bool false, .int .i64 0, .slice none 0 0, .slice none 0 0], .int .i64 6]) (by simp [results, Try.results138, go_sem, *]; done) rfl ⟨rfl, ?_⟩
  iterate 10 refine Below.setCell ?_ (by simp <;> omega) _
  exact (four.out _ _ _ _).trans (hb1.mono (by simp; omega))

set_option maxRecDepth 100000 in
set_option maxHeartbeats 3200000 in
theorem take_new (v : Value) (name : ByteArray) (limit now : Int) (hnow : 0 ≤ now ∧ now ≤ 1000000000) (its : List IT) (i : Nat) (hil : i < its.length) (w : World) (hv : SliceI (Under w.heap.size) w v its) (hs : smallI its) (hi : idxI isInB its = i) (hfit : (its[i]).fits) :
    Calls Try.prog 138 #[.agg #[.string name, .int .i64 limit, v], .int .i64 now] w fun e w' => ∃ v' q, e = .returned (.tuple #[.agg #[.string name, .int .i64 limit, v'], (takeI now its[i]).val q, .int .i64 0]) ∧ SliceI (Made w.heap.size w'.heap.size) w' v' (its.set i (takeI now its[i])) ∧ NoteIs (Made w.heap.size w'.heap.size) w' q its[i].note ∧ Below w.heap.size w w' := by
  have HV : Hid (SliceI (Under w.heap.size) w v its) := hv
  have HS : Hid (smallI its) := hs
  obtain ⟨va, vc, rfl⟩ := hv.shp
  have hlen := hs.1
  clear hv hs
  have four : Hid (∀ o1 o2 o3 o4 : Obj, Below w.heap.size w ((((w.alloc o1).alloc o2).alloc o3).alloc o4)) := fun o1 o2 o3 o4 => (((below_alloc _ _).alloc (by simp) _).alloc (by simp; omega) _).alloc (by simp; omega) _
  have HI : Hid (idxI isInB its = i) := hi
  have hFT : Hid (its[i].fits) := hfit
  clear hi hfit
  obtain ⟨it2, hit2⟩ : ∃ it2, it2 = takeI now its[i] := ⟨_, rfl⟩
  have HIT2 : Hid (it2 = takeI now its[i]) := hit2
  clear hit2
  go_enter Try.func138, Try.ntmps138
  go_wp2_with (first
    | (go_at_call 129; refine (indexI_any 153 [] isInB _ its _ (HV.out.sub fun k hk => ⟨?_, (four.out _ _ _ _).block k hk⟩) (isIn_tells' _ _)).mono ?_; (simp [Under] at hk ⊢; omega); rw [HI.out]; rintro e w1 ⟨rfl, hb1⟩; have hk0 := (((((Blk.new w _ 76).alloc _).alloc _).alloc _).below hb1 (by simp <;> omega)); have hk1 := ((((Blk.new (w.alloc _) _ 3).alloc _).alloc _).below hb1 (by simp <;> omega)); have hk2 := (((Blk.new ((w.alloc _).alloc _) _ 76).alloc _).below hb1 (by simp <;> omega)); have hk3 := ((Blk.new (((w.alloc _).alloc _).alloc _) _ 78).below hb1 (by simp <;> omega)); simp only [World.size_alloc] at hk0 hk1 hk2 hk3; have HB1 : Hid (Below w.heap.size w w1) := (four.out _ _ _ _).trans (hb1.mono (by simp; omega)); have hz1 := hb1.size; simp only [World.size_alloc] at hz1; obtain ⟨a0, a1, a2, a3, a4⟩ := hk0.b3; have HK : Hid _ := And.intro hk1 (And.intro hk2 hk3); clear hb1 hk0 hk1 hk2 hk3)
    | (go_at_call 154; refine (changed_any 155 [.pointer (some ⟨w.heap.size + 1, 0, none⟩)] (takeI now) _ name limit its i hil _ (HV.out.sub fun k hk => ⟨Nat.lt_of_lt_of_le hk (by omega), HB1.out.block k hk⟩) HS.out hFT.out rfl (take_changes _ _ _ now HK.out.1 (by omega) hnow)).mono ?_; rintro e w2 ⟨vi, q, rfl, ho2, hn2, hb2⟩; obtain ⟨q1, q2⟩ := q; obtain ⟨xa, xc, rfl⟩ := ho2.slice.shp; obtain ⟨ya, yc, rfl, -⟩ := SliceV.shape hn2.1; obtain ⟨za, zc, rfl, -⟩ := SliceV.shape hn2.2; rw [← HIT2.out]; have hk2 := HK.out.2.1.below hb2 (by omega); have hk3 := HK.out.2.2.below hb2 (by omega); obtain ⟨b0, b1, b2, b3, b4⟩ := hk2.b3; obtain ⟨⟨c0, c1, c2, c3⟩, ⟨c4, c5, c6⟩, c7, c8⟩ := hk3.b7; have HB2 : Hid (Below w.heap.size w w2) := HB1.out.trans (hb2.mono (by omega)); have HO2 : Hid (SliceI (Made w1.heap.size w2.heap.size) w2 (.slice xa (its.set i (takeI now its[i])).length xc) (its.set i (takeI now its[i]))) := ho2.made; have HN2 : Hid (NoteIs (Made w1.heap.size w2.heap.size) w2 (.slice ya its[i].note.props.length yc, .slice za its[i].note.body.length zc) its[i].note) := NoteIs.sub hn2 (fun b hb => ⟨⟨hb.1, hb.2.1⟩, rfl⟩); clear ho2 hn2 hk2 hk3; simp only [IT.val]))
  have hlw : (its.set i (takeI now its[i])).length = its.length := by simp
  rw [hlw] at HO2
  have HE : Hid (∀ W', Keep (fun b => b < w2.heap.size ∧ b ≠ w.heap.size + 1 + 1 ∧ b ≠ w.heap.size + 1 + 1 + 1) w2 W' → SliceI (Made w.heap.size W'.heap.size) W' (.slice xa its.length xc) (its.set i (takeI now its[i])) ∧ NoteIs (Made w.heap.size W'.heap.size) W' (.slice ya its[i].note.props.length yc, .slice za its[i].note.body.length zc) its[i].note ∧ Below w.heap.size w W') := fun W' hW =>
    ⟨HO2.out.sub fun k hk => ⟨⟨by have := hk.1; omega, Nat.lt_of_lt_of_le hk.2 hW.size⟩, hW.block k ⟨hk.2, by have := hk.1; omega, by have := hk.1; omega⟩⟩, HN2.out.sub fun k hk => ⟨⟨by have := hk.1; omega, Nat.lt_of_lt_of_le hk.2 hW.size⟩, hW.block k ⟨hk.2, by have := hk.1; omega, by have := hk.1; omega⟩⟩,
      HB2.out.trans ⟨hW.os, hW.tape, hW.output, hW.size, fun k hk => hW.block k ⟨by have := HB2.out.size; omega, by omega, by omega⟩⟩⟩
  have hz2 := hb2.size
  obtain ⟨W3, hW3⟩ : ∃ W3, W3 = (w2.alloc (.cells #[.string name, .int .i64 limit, .slice xa its.length xc] 76)).alloc (.cells #[.int .i64 it2.id, .int .i64 it2.turn, .int .i64 it2.tries, .bool it2.out, .int .i64 it2.due, .slice ya its[i].note.props.length yc, .slice za its[i].note.body.length zc] 78) := ⟨_, rfl⟩
  have hzW : W3.heap.size = w2.heap.size + 2 := by rw [hW3]; simp
  have hbW : Below w2.heap.size w2 W3 := by rw [hW3]; exact (below_alloc _ _).alloc (by simp) _
  have hq : Blk W3 w2.heap.size [.string name, .int .i64 limit, .slice xa its.length xc] := by rw [hW3]; exact (Blk.new _ _ _).alloc _
  have hr : Blk W3 (w2.heap.size + 1) [.int .i64 it2.id, .int .i64 it2.turn, .int .i64 it2.tries, .bool it2.out, .int .i64 it2.due, .slice ya its[i].note.props.length yc, .slice za its[i].note.body.length zc] := by
    rw [hW3]
    have := Blk.new (w2.alloc (.cells #[.string name, .int .i64 limit, .slice xa its.length xc] 76)) [.int .i64 it2.id, .int .i64 it2.turn, .int .i64 it2.tries, .bool it2.out, .int .i64 it2.due, .slice ya its[i].note.props.length yc, .slice za its[i].note.body.length zc] 78
    simpa using this
  rw [← hW3]
  have HBW : Hid (Below w2.heap.size w2 W3) := hbW
  obtain ⟨d0, d1, d2, d3, d4⟩ := ((HK.out.2.1.below hb2 (by omega)).below hbW (by omega)).b3
  obtain ⟨⟨e0, e1, e2, e3⟩, ⟨e4, e5, e6⟩, e7, e8⟩ := ((HK.out.2.2.below hb2 (by omega)).below hbW (by omega)).b7
  obtain ⟨f0, f1, f2, f3, f4⟩ := hq.b3
  obtain ⟨⟨g0, g1, g2, g3⟩, ⟨g4, g5, g6⟩, g7, g8⟩ := hr.b7
  clear HO2 HN2 HB1 HV hb2 hlw hW3 hbW hq hr b0 b1 b2 b3 c0 c1 c2 c3 c4 c5 c6 c7
  go_region_law (fail)
  all_goals go_wp2
  all_goals
    refine bodyPost_ret (v := .tuple #[.agg #[.string name, .int .i64 limit, .slice xa its.length xc], .agg #[.int .i64 it2.id, .int .i64 it2.turn, .int .i64 it2.tries, .bool it2.out, .int .i64 it2.due, .slice ya its[i].note.props.length yc, .slice za its[i].note.body.length zc], .int .i64 0]) (by simp [results, Try.results138, go_sem, *]; done) rfl ?_
    have e2 : (takeI now its[i]).val (.slice ya its[i].note.props.length yc, .slice za its[i].note.body.length zc) = .agg #[.int .i64 it2.id, .int .i64 it2.turn, .int .i64 it2.tries, .bool it2.out, .int .i64 it2.due, .slice ya its[i].note.props.length yc, .slice za its[i].note.body.length zc] := by rw [← HIT2.out]; rfl
    refine ⟨.slice xa its.length xc, (.slice ya its[i].note.props.length yc, .slice za its[i].note.body.length zc), by rw [e2], ?_⟩
    refine HE.out _ ?_
    refine Keep.drew ?_
    iterate 10 refine Keep.set ?_ (by simp) _
    exact Keep.of HBW.out (fun k h => h.1)

end Go.Proofs.Ytkddkpdfeeikhaa
