/-
  The law JournalTells, of a hall, an entry, bytes and a log in memory, none of them greater than the bound: true.
-/
import Derived.Test.YtkddkpdfeeikhaaJTellsProofM50
import Derived.Deep.DeepCutAuto
namespace Go.Proofs.Ytkddkpdfeeikhaa
open Go.RowKit
set_option linter.unusedVariables false
set_option linter.unusedSimpArgs false

attribute [local go_sem ↓] Go.wp_at_zero Go.wp_at_succ

/-- What stands in each world of the law. -/
structure JT (b : Nat) (v : Value) (h : HD) (e : ED) (pv bv u : Value) (l : List UInt8) (sure : Int) (x : Value) (bs : List UInt8) (W : World) : Prop where
  k0 : Blk W b [v, .int .i64 h.next]
  k1 : Blk W (b + 1) [.int .i64 e.kind, .string e.queue, .int .i64 e.n, .int .i64 e.id, pv, bv]
  k2 : Blk W (b + 2) [u, .int .i64 sure]
  q : SliceQ (Under W.heap.size) W v h.queues
  n : NoteIs (Under W.heap.size) W (pv, bv) e.note
  l : SliceB (Under W.heap.size) W u l
  x : SliceB (Under W.heap.size) W x bs

theorem SliceB.on {W W' : World} {v : Value} {bs : List UInt8} (h : SliceB (Under W.heap.size) W v bs) (hb : Below W.heap.size W W') : SliceB (Under W'.heap.size) W' v bs := SliceV.sub h fun b h => ⟨Nat.lt_of_lt_of_le h hb.size, hb.block b h⟩
theorem SliceQ.on {W W' : World} {v : Value} {qs : List QD} (h : SliceQ (Under W.heap.size) W v qs) (hb : Below W.heap.size W W') : SliceQ (Under W'.heap.size) W' v qs := h.sub fun b h => ⟨Nat.lt_of_lt_of_le h hb.size, hb.block b h⟩
theorem NoteIs.on {W W' : World} {p : Value × Value} {n : ND} (h : NoteIs (Under W.heap.size) W p n) (hb : Below W.heap.size W W') : NoteIs (Under W'.heap.size) W' p n := h.sub fun b h => ⟨Nat.lt_of_lt_of_le h hb.size, hb.block b h⟩

theorem JT.on {b : Nat} {v : Value} {h : HD} {e : ED} {pv bv u : Value} {l : List UInt8} {sure : Int} {x : Value} {bs : List UInt8} {W W' : World} (k : JT b v h e pv bv u l sure x bs W) (hb : Below W.heap.size W W') : JT b v h e pv bv u l sure x bs W' :=
  ⟨k.k0.below hb k.k0.lt, k.k1.below hb k.k1.lt, k.k2.below hb k.k2.lt, k.q.on hb, k.n.on hb, k.l.on hb, k.x.on hb⟩

theorem JT.new (w : World) (v : Value) (h : HD) (e : ED) (pv bv u : Value) (l : List UInt8) (sure : Int) (x : Value) (bs : List UInt8) (hq : SliceQ (Under w.heap.size) w v h.queues) (hn : NoteIs (Under w.heap.size) w (pv, bv) e.note) (hl : SliceB (Under w.heap.size) w u l) (hx : SliceB (Under w.heap.size) w x bs) :
    JT w.heap.size v h e pv bv u l sure x bs (((w.alloc (.cells #[v, .int .i64 h.next] 24)).alloc (.cells #[.int .i64 e.kind, .string e.queue, .int .i64 e.n, .int .i64 e.id, pv, bv] 30)).alloc (.cells #[u, .int .i64 sure] 32)) ∧
    Below w.heap.size w (((w.alloc (.cells #[v, .int .i64 h.next] 24)).alloc (.cells #[.int .i64 e.kind, .string e.queue, .int .i64 e.n, .int .i64 e.id, pv, bv] 30)).alloc (.cells #[u, .int .i64 sure] 32)) := by
  have hb : Below w.heap.size w (((w.alloc (.cells #[v, .int .i64 h.next] 24)).alloc (.cells #[.int .i64 e.kind, .string e.queue, .int .i64 e.n, .int .i64 e.id, pv, bv] 30)).alloc (.cells #[u, .int .i64 sure] 32)) := ((below_alloc _ _).alloc (by simp) _).alloc (by simp; omega) _
  have h1 := Blk.new (w.alloc (.cells #[v, .int .i64 h.next] 24)) [.int .i64 e.kind, .string e.queue, .int .i64 e.n, .int .i64 e.id, pv, bv] 30
  have h2 := Blk.new ((w.alloc (.cells #[v, .int .i64 h.next] 24)).alloc (.cells #[.int .i64 e.kind, .string e.queue, .int .i64 e.n, .int .i64 e.id, pv, bv] 30)) [u, .int .i64 sure] 32
  simp only [World.size_alloc] at h1 h2
  exact ⟨⟨((Blk.new w [v, .int .i64 h.next] 24).alloc _).alloc _, h1.alloc _, h2, hq.on hb, hn.on hb, hl.on hb, hx.on hb⟩, hb⟩

theorem rows_one2 (Y : World) (e : ED) (p q : Value × Value) (h1 : NoteIs (Under Y.heap.size) Y p e.note) (h2 : NoteIs (Under Y.heap.size) Y q e.note) :
    SliceE (Under ((Y.alloc (.cells (e.cells p).toArray 30)).alloc (.cells (e.cells q).toArray 30)).heap.size) ((Y.alloc (.cells (e.cells p).toArray 30)).alloc (.cells (e.cells q).toArray 30)) (.slice (some ⟨Y.heap.size, 0, none⟩) 1 1) [e] ∧
    SliceE (Under ((Y.alloc (.cells (e.cells p).toArray 30)).alloc (.cells (e.cells q).toArray 30)).heap.size) ((Y.alloc (.cells (e.cells p).toArray 30)).alloc (.cells (e.cells q).toArray 30)) (.slice (some ⟨Y.heap.size + 1, 0, none⟩) 1 1) [e] ∧
    Below Y.heap.size Y ((Y.alloc (.cells (e.cells p).toArray 30)).alloc (.cells (e.cells q).toArray 30)) := by
  have hb : Below Y.heap.size Y ((Y.alloc (.cells (e.cells p).toArray 30)).alloc (.cells (e.cells q).toArray 30)) := (below_alloc _ _).alloc (by simp) _
  have k1 : Blk ((Y.alloc (.cells (e.cells p).toArray 30)).alloc (.cells (e.cells q).toArray 30)) Y.heap.size (e.cells p) := (Blk.new _ _ _).alloc _
  have k2 := Blk.new (Y.alloc (.cells (e.cells p).toArray 30)) (e.cells q) 30
  rw [World.size_alloc] at k2
  exact ⟨entry_one e p k1 k1.lt (h1.on hb), entry_one e q k2 k2.lt (h2.on hb), hb⟩

theorem row_made (W : World) (e : ED) (p : Value × Value) (h : NoteIs (Under W.heap.size) W p e.note) :
    SliceE (Under (W.alloc (.cells (e.cells p ++ e.cells p).toArray 30)).heap.size) (W.alloc (.cells (e.cells p ++ e.cells p).toArray 30)) (.slice (some ⟨W.heap.size, 0, none⟩) 2 2) [e, e] := by
  have k := Blk.new W (e.cells p ++ e.cells p) 30
  exact row_two e p k k.lt (h.on (below_alloc _ _))

set_option maxRecDepth 100000 in
set_option maxHeartbeats 6400000 in
theorem jtells_any (v : Value) (h : HD) (e : ED) (pv bv u : Value) (l : List UInt8) (sure : Int) (x : Value) (bs : List UInt8) (w : World)
    (hv : SliceQ (Under w.heap.size) w v h.queues) (hn : NoteIs (Under w.heap.size) w (pv, bv) e.note) (hl : SliceB (Under w.heap.size) w u l) (hx : SliceB (Under w.heap.size) w x bs)
    (hcap : h.cap 1048576) (hfit : ∀ q ∈ h.queues, ∀ i ∈ q.items, i.note.fitN) (hnf : e.note.fitN) (hqs : e.queue.size ≤ maxLen) (hns : e.note.small) (hll : l.length ≤ 1048576) (hbl : bs.length ≤ 1048576) :
    Calls Try.prog 3 #[.agg #[v, .int .i64 h.next], .agg #[.int .i64 e.kind, .string e.queue, .int .i64 e.n, .int .i64 e.id, pv, bv], x, .agg #[u, .int .i64 sure]] w fun r w' => r = .returned (.bool true) ∧ Below w.heap.size w w' := by
  have HX : Hid (h.cap 1048576 ∧ (∀ q ∈ h.queues, ∀ i ∈ q.items, i.note.fitN) ∧ e.note.fitN ∧ e.queue.size ≤ maxLen ∧ e.note.small ∧ l.length ≤ 1048576) := ⟨hcap, hfit, hnf, hqs, hns, hll⟩
  obtain ⟨va, vc, rfl⟩ := hv.shp
  obtain ⟨pa, pc, rfl, -⟩ := SliceV.shape hn.1
  obtain ⟨ba, bc, rfl, -⟩ := SliceV.shape hn.2
  obtain ⟨ua, uc, rfl, -⟩ := SliceV.shape hl
  obtain ⟨xa, xc, rfl, -⟩ := SliceV.shape hx
  obtain ⟨e0, en, p8, p9⟩ := jt_read bs hbl
  have P89 : Hid ((∀ W v, SliceB (Under W.heap.size) W v bs → Calls Try.prog 8 #[v] W (EntAns e0 en W)) ∧ (∀ W v, SliceB (Under W.heap.size) W v bs → Calls Try.prog 9 #[v] W (EntAns e0 en W))) := ⟨p8, p9⟩
  obtain ⟨hr, hrs, p12, p13⟩ := jt_replay bs hbl
  have P12 : Hid (smallQ hr.queues ∧ (∀ W v, SliceB (Under W.heap.size) W v bs → Calls Try.prog 12 #[v] W (HallAns hr W)) ∧ (∀ W v, SliceB (Under W.heap.size) W v bs → Calls Try.prog 13 #[v] W (HallAns hr W))) := ⟨hrs, p12, p13⟩
  obtain ⟨nv, hnv⟩ : ∃ nv, nv = h.queues.length := ⟨_, rfl⟩
  obtain ⟨np, hnp⟩ : ∃ np, np = e.note.props.length := ⟨_, rfl⟩
  obtain ⟨nb, hnb⟩ : ∃ nb, nb = e.note.body.length := ⟨_, rfl⟩
  obtain ⟨nx, hnx⟩ : ∃ nx, nx = bs.length := ⟨_, rfl⟩
  rw [← hnv] at hv ⊢
  rw [← hnp, ← hnb] at hn ⊢
  rw [← hnx] at hx ⊢
  obtain ⟨X, hX⟩ : ∃ X, X = (((w.alloc (.cells #[.slice va nv vc, .int .i64 h.next] 24)).alloc (.cells #[.int .i64 e.kind, .string e.queue, .int .i64 e.n, .int .i64 e.id, .slice pa np pc, .slice ba nb bc] 30)).alloc (.cells #[.slice ua l.length uc, .int .i64 sure] 32)) := ⟨_, rfl⟩
  have K0 : Hid (JT w.heap.size (.slice va nv vc) h e (.slice pa np pc) (.slice ba nb bc) (.slice ua l.length uc) l sure (.slice xa nx xc) bs X ∧ Below w.heap.size w X) := by
    rw [hX]; exact JT.new w _ h e _ _ _ l sure _ bs hv hn hl hx
  clear hv hn hl hx hcap hfit hnf hqs hns hll hbl p8 p9 p12 p13 hrs hnv hnp hnb hnx
  go_enter Try.func3, Try.ntmps3
  go_upto_region 1 with fail
  rw [← hX]
  clear hX
  go_upto_region 3 with (first
    | (go_at_call 8; refine (P89.out.1 _ _ K0.out.1.x).mono ?_; rintro r w1 ⟨pa1, pc1, ba1, bc1, rfl, hn1, hb1⟩; have H1 : Hid (NoteIs (Under w1.heap.size) w1 (.slice pa1 e0.note.props.length pc1, .slice ba1 e0.note.body.length bc1) e0.note ∧ Below X.heap.size X w1) := ⟨hn1, hb1⟩; clear hn1 hb1)
    | (go_at_call 9; refine (P89.out.2 _ _ (K0.out.1.on (H1.out.2.alloc H1.out.2.size _)).x).mono ?_; rintro r w2 ⟨pa2, pc2, ba2, bc2, rfl, hn2, hb2⟩; have H2 : Hid (NoteIs (Under w2.heap.size) w2 (.slice pa2 e0.note.props.length pc2, .slice ba2 e0.note.body.length bc2) e0.note ∧ Below (w1.alloc (.cells #[.int .i64 e0.kind, .string e0.queue, .int .i64 e0.n, .int .i64 e0.id, .slice pa1 e0.note.props.length pc1, .slice ba1 e0.note.body.length bc1] 30)).heap.size (w1.alloc (.cells #[.int .i64 e0.kind, .string e0.queue, .int .i64 e0.n, .int .i64 e0.id, .slice pa1 e0.note.props.length pc1, .slice ba1 e0.note.body.length bc1] 30)) w2) := ⟨hn2, hb2⟩; clear hn2 hb2)
    | fail)
  obtain ⟨Y, hY⟩ : ∃ Y, Y = w2.alloc (.cells #[.int .i64 e0.kind, .string e0.queue, .int .i64 e0.n, .int .i64 e0.id, .slice pa2 e0.note.props.length pc2, .slice ba2 e0.note.body.length bc2] 30) := ⟨_, rfl⟩
  have HY : Hid (JT w.heap.size (.slice va nv vc) h e (.slice pa np pc) (.slice ba nb bc) (.slice ua l.length uc) l sure (.slice xa nx xc) bs Y ∧ Below w.heap.size w Y ∧
      Blk Y w1.heap.size [.int .i64 e0.kind, .string e0.queue, .int .i64 e0.n, .int .i64 e0.id, .slice pa1 e0.note.props.length pc1, .slice ba1 e0.note.body.length bc1] ∧ Blk Y w2.heap.size [.int .i64 e0.kind, .string e0.queue, .int .i64 e0.n, .int .i64 e0.id, .slice pa2 e0.note.props.length pc2, .slice ba2 e0.note.body.length bc2] ∧
      NoteIs (Under Y.heap.size) Y (.slice pa1 e0.note.props.length pc1, .slice ba1 e0.note.body.length bc1) e0.note ∧ NoteIs (Under Y.heap.size) Y (.slice pa2 e0.note.props.length pc2, .slice ba2 e0.note.body.length bc2) e0.note) := by
    obtain ⟨n1, b1⟩ := H1.out
    obtain ⟨n2, b2⟩ := H2.out
    have b3 : Below w2.heap.size w2 Y := by rw [hY]; exact below_alloc _ _
    have bx : Below X.heap.size X Y := (b1.alloc b1.size _).trans ((b2.trans (b3.mono b2.size)).mono (b1.alloc b1.size _).size)
    have k1 : Blk (w1.alloc (.cells #[.int .i64 e0.kind, .string e0.queue, .int .i64 e0.n, .int .i64 e0.id, .slice pa1 e0.note.props.length pc1, .slice ba1 e0.note.body.length bc1] 30)) w1.heap.size [.int .i64 e0.kind, .string e0.queue, .int .i64 e0.n, .int .i64 e0.id, .slice pa1 e0.note.props.length pc1, .slice ba1 e0.note.body.length bc1] := Blk.new _ _ _
    refine ⟨K0.out.1.on bx, K0.out.2.trans (bx.mono K0.out.2.size), ?_, by rw [hY]; exact Blk.new _ _ _, (n1.on (below_alloc _ _)).on (b2.trans (b3.mono b2.size)), n2.on b3⟩
    exact (k1.below b2 k1.lt).below b3 (k1.below b2 k1.lt).lt
  rw [← hY]
  clear hY K0 H1 H2
  have HR : Hid (SliceE (Under ((Y.alloc (.cells #[.int .i64 e0.kind, .string e0.queue, .int .i64 e0.n, .int .i64 e0.id, .slice pa1 e0.note.props.length pc1, .slice ba1 e0.note.body.length bc1] 30)).alloc (.cells #[.int .i64 e0.kind, .string e0.queue, .int .i64 e0.n, .int .i64 e0.id, .slice pa2 e0.note.props.length pc2, .slice ba2 e0.note.body.length bc2] 30)).heap.size) ((Y.alloc (.cells #[.int .i64 e0.kind, .string e0.queue, .int .i64 e0.n, .int .i64 e0.id, .slice pa1 e0.note.props.length pc1, .slice ba1 e0.note.body.length bc1] 30)).alloc (.cells #[.int .i64 e0.kind, .string e0.queue, .int .i64 e0.n, .int .i64 e0.id, .slice pa2 e0.note.props.length pc2, .slice ba2 e0.note.body.length bc2] 30)) (.slice (some ⟨Y.heap.size, 0, none⟩) 1 1) [e0] ∧
      SliceE (Under ((Y.alloc (.cells #[.int .i64 e0.kind, .string e0.queue, .int .i64 e0.n, .int .i64 e0.id, .slice pa1 e0.note.props.length pc1, .slice ba1 e0.note.body.length bc1] 30)).alloc (.cells #[.int .i64 e0.kind, .string e0.queue, .int .i64 e0.n, .int .i64 e0.id, .slice pa2 e0.note.props.length pc2, .slice ba2 e0.note.body.length bc2] 30)).heap.size) ((Y.alloc (.cells #[.int .i64 e0.kind, .string e0.queue, .int .i64 e0.n, .int .i64 e0.id, .slice pa1 e0.note.props.length pc1, .slice ba1 e0.note.body.length bc1] 30)).alloc (.cells #[.int .i64 e0.kind, .string e0.queue, .int .i64 e0.n, .int .i64 e0.id, .slice pa2 e0.note.props.length pc2, .slice ba2 e0.note.body.length bc2] 30)) (.slice (some ⟨Y.heap.size + 1, 0, none⟩) 1 1) [e0] ∧
      Below Y.heap.size Y ((Y.alloc (.cells #[.int .i64 e0.kind, .string e0.queue, .int .i64 e0.n, .int .i64 e0.id, .slice pa1 e0.note.props.length pc1, .slice ba1 e0.note.body.length bc1] 30)).alloc (.cells #[.int .i64 e0.kind, .string e0.queue, .int .i64 e0.n, .int .i64 e0.id, .slice pa2 e0.note.props.length pc2, .slice ba2 e0.note.body.length bc2] 30))) :=
    rows_one2 Y e0 _ _ HY.out.2.2.2.2.1 HY.out.2.2.2.2.2
  have hne : (en != en) = false := by simp
  obtain ⟨⟨f0, f1, f2, f3, f4, f5⟩, f6, f7⟩ : (Y.cell? ⟨w1.heap.size, 0, none⟩ = some (.int .i64 e0.kind) ∧ Y.cell? ⟨w1.heap.size, 1, none⟩ = some (.string e0.queue) ∧ Y.cell? ⟨w1.heap.size, 2, none⟩ = some (.int .i64 e0.n) ∧ Y.cell? ⟨w1.heap.size, 3, none⟩ = some (.int .i64 e0.id) ∧ Y.cell? ⟨w1.heap.size, 4, none⟩ = some (.slice pa1 e0.note.props.length pc1) ∧ Y.cell? ⟨w1.heap.size, 5, none⟩ = some (.slice ba1 e0.note.body.length bc1)) ∧ (∀ o, Y.frozen? ⟨w1.heap.size, o, none⟩ = false) ∧ w1.heap.size < Y.heap.size := by
    have := HY.out.2.2.1.b6; exact ⟨⟨this.1, this.2.1, this.2.2.1, this.2.2.2.1, this.2.2.2.2.1, this.2.2.2.2.2.1⟩, this.2.2.2.2.2.2.1, this.2.2.2.2.2.2.2⟩
  obtain ⟨⟨g0, g1, g2, g3, g4, g5⟩, g6, g7⟩ : (Y.cell? ⟨w2.heap.size, 0, none⟩ = some (.int .i64 e0.kind) ∧ Y.cell? ⟨w2.heap.size, 1, none⟩ = some (.string e0.queue) ∧ Y.cell? ⟨w2.heap.size, 2, none⟩ = some (.int .i64 e0.n) ∧ Y.cell? ⟨w2.heap.size, 3, none⟩ = some (.int .i64 e0.id) ∧ Y.cell? ⟨w2.heap.size, 4, none⟩ = some (.slice pa2 e0.note.props.length pc2) ∧ Y.cell? ⟨w2.heap.size, 5, none⟩ = some (.slice ba2 e0.note.body.length bc2)) ∧ (∀ o, Y.frozen? ⟨w2.heap.size, o, none⟩ = false) ∧ w2.heap.size < Y.heap.size := by
    have := HY.out.2.2.2.1.b6; exact ⟨⟨this.1, this.2.1, this.2.2.1, this.2.2.2.1, this.2.2.2.2.1, this.2.2.2.2.2.1⟩, this.2.2.2.2.2.2.1, this.2.2.2.2.2.2.2⟩
  have hYw : Y.heap.size ≠ w2.heap.size := by omega
  go_upto_region 5 with (first
    | (go_at_call 10; refine (sameEntries_true _ _ [e0] (by simp) _ HR.out.1 HR.out.2.1).mono ?_; rintro r w3 ⟨rfl, hb3⟩; have H3 : Hid (Below Y.heap.size Y w3) := HR.out.2.2.trans (hb3.mono HR.out.2.2.size); clear hb3 f0 f1 f2 f3 f4 f5 f6 g0 g1 g2 g3 g4 g5 g6)
    | (go_at_call 12; refine (P12.out.2.1 _ _ (HY.out.1.on H3.out).x).mono ?_; rintro r w4 ⟨a4, c4, rfl, hq4, hb4⟩; have H4 : Hid (SliceQ (Under w4.heap.size) w4 (.slice a4 hr.queues.length c4) hr.queues ∧ Below Y.heap.size Y w4) := ⟨hq4, H3.out.trans (hb4.mono H3.out.size)⟩; clear hq4 hb4)
    | (go_at_call 13; refine (P12.out.2.2 _ _ (HY.out.1.on H4.out.2).x).mono ?_; rintro r w5 ⟨a5, c5, rfl, hq5, hb5⟩; have H5 : Hid (SliceQ (Under w5.heap.size) w5 (.slice a4 hr.queues.length c4) hr.queues ∧ SliceQ (Under w5.heap.size) w5 (.slice a5 hr.queues.length c5) hr.queues ∧ Below Y.heap.size Y w5) := ⟨H4.out.1.on hb5, hq5, H4.out.2.trans (hb5.mono H4.out.2.size)⟩; clear hq5 hb5)
    | (go_at_call 11; refine (sameHall_true _ _ hr P12.out.1 _ H5.out.1 H5.out.2.1).mono ?_; rintro r w6 ⟨rfl, hb6⟩; have H6 : Hid (JT w.heap.size (.slice va nv vc) h e (.slice pa np pc) (.slice ba nb bc) (.slice ua l.length uc) l sure (.slice xa nx xc) bs w6 ∧ Below w.heap.size w w6) := ⟨HY.out.1.on (H5.out.2.2.trans (hb6.mono H5.out.2.2.size)), HY.out.2.1.trans ((H5.out.2.2.trans (hb6.mono H5.out.2.2.size)).mono HY.out.2.1.size)⟩; clear hb6)
    | fail)
  clear H3 H4 H5 HR HY P12 P89 f7 g7 hYw hne
  obtain ⟨a0, a1, a2, a3, a4, a5, a6, a7⟩ := H6.out.1.k1.b6
  by_cases c1 : e.kind < 1
  · go_wp2_with fail
    go_ret
    exact ⟨rfl, H6.out.2⟩
  by_cases c2 : 4 < e.kind
  · go_wp2_with fail
    go_ret
    exact ⟨rfl, H6.out.2⟩
  by_cases c3 : (100 : Int) < (e.queue.size : Int)
  · go_wp2_with fail
    go_ret
    exact ⟨rfl, H6.out.2⟩
  by_cases c4 : e.n < 0
  · go_wp2_with fail
    go_ret
    exact ⟨rfl, H6.out.2⟩
  by_cases c5 : 255 < e.n
  · go_wp2_with fail
    go_ret
    exact ⟨rfl, H6.out.2⟩
  by_cases c6 : e.id < 0
  · go_wp2_with fail
    go_ret
    exact ⟨rfl, H6.out.2⟩
  by_cases c7 : 1000000 < e.id
  · go_wp2_with fail
    go_ret
    exact ⟨rfl, H6.out.2⟩
  obtain ⟨nw, hnw⟩ : ∃ nw, nw = e.note.wrong := ⟨_, rfl⟩
  have P14 : Hid (∀ W, NoteIs (Under W.heap.size) W (.slice pa np pc, .slice ba nb bc) e.note → Calls Try.prog 14 #[.agg #[.slice pa np pc, .slice ba nb bc]] W fun r w' => r = .returned (.int .i64 nw) ∧ Below W.heap.size W w') := fun W hn => by
    rw [hnw]; exact refWrongN_any _ _ e.note W hn HX.out.2.2.1
  have HNW : Hid (nw = e.note.wrong) := hnw
  clear hnw
  by_cases c8 : nw = 0
  case neg =>
    go_wp2_with (go_at_call 14; refine (P14.out _ H6.out.1.n).mono ?_; rintro r w7 ⟨rfl, hb7⟩; have H7 : Hid (Below w.heap.size w w7) := H6.out.2.trans (hb7.mono H6.out.2.size); clear hb7)
    go_ret
    exact ⟨rfl, H7.out⟩
  subst c8
  have HER : Hid e.right := ⟨⟨by omega, by omega⟩, by omega, ⟨by omega, by omega⟩, ⟨by omega, by omega⟩, HNW.out.symm⟩
  have HEF : Hid e.fits := ⟨HX.out.2.2.2.1, ⟨by omega, by omega⟩, HX.out.2.2.2.2.1⟩
  go_upto_region 7 with (go_at_call 14; refine (P14.out _ H6.out.1.n).mono ?_; rintro r w7 ⟨rfl, hb7⟩; have H7 : Hid (JT w.heap.size (.slice va nv vc) h e (.slice pa np pc) (.slice ba nb bc) (.slice ua l.length uc) l sure (.slice xa nx xc) bs w7 ∧ Below w.heap.size w w7) := ⟨H6.out.1.on hb7, H6.out.2.trans (hb7.mono H6.out.2.size)⟩; clear hb7 a0 a1 a2 a3 a4 a5 a6 a7)
  clear c1 c2 c3 c4 c5 c6 c7 P14 HNW H6
  obtain ⟨be, p15, p16⟩ := jt_bytes e HER.out
  have P15 : Hid ((∀ W pv bv, NoteIs (Under W.heap.size) W (pv, bv) e.note → Calls Try.prog 15 #[.agg #[.int .i64 e.kind, .string e.queue, .int .i64 e.n, .int .i64 e.id, pv, bv]] W (BytAns be W)) ∧ (∀ W pv bv, NoteIs (Under W.heap.size) W (pv, bv) e.note → Calls Try.prog 16 #[.agg #[.int .i64 e.kind, .string e.queue, .int .i64 e.n, .int .i64 e.id, pv, bv]] W (BytAns be W))) := ⟨p15, p16⟩
  obtain ⟨ha, has, p17, p18⟩ := jt_apply h e HX.out.1 HEF.out
  have P17 : Hid (smallQ ha.queues ∧ (∀ W v pv bv, SliceQ (Under W.heap.size) W v h.queues → NoteIs (Under W.heap.size) W (pv, bv) e.note → Calls Try.prog 17 #[.agg #[v, .int .i64 h.next], .agg #[.int .i64 e.kind, .string e.queue, .int .i64 e.n, .int .i64 e.id, pv, bv]] W (HallAns ha W)) ∧ (∀ W v pv bv, SliceQ (Under W.heap.size) W v h.queues → NoteIs (Under W.heap.size) W (pv, bv) e.note → Calls Try.prog 18 #[.agg #[v, .int .i64 h.next], .agg #[.int .i64 e.kind, .string e.queue, .int .i64 e.n, .int .i64 e.id, pv, bv]] W (HallAns ha W))) := ⟨has, p17, p18⟩
  clear p15 p16 p17 p18 has HEF
  have KD : Hid (JT w.heap.size (.slice va nv vc) h e (.slice pa np pc) (.slice ba nb bc) (.slice ua l.length uc) l sure (.slice xa nx xc) bs w7.drew) := H7.out.1.on (Below.refl _ _).drew
  have SC : Hid (∀ W, JT w.heap.size (.slice va nv vc) h e (.slice pa np pc) (.slice ba nb bc) (.slice ua l.length uc) l sure (.slice xa nx xc) bs W → W.cell? ⟨w.heap.size, 0, none⟩ = some (.slice va nv vc) ∧ W.cell? ⟨w.heap.size, 1, none⟩ = some (.int .i64 h.next) ∧ W.cell? ⟨w.heap.size + 1, 0, none⟩ = some (.int .i64 e.kind) ∧ W.cell? ⟨w.heap.size + 1, 1, none⟩ = some (.string e.queue) ∧ W.cell? ⟨w.heap.size + 1, 2, none⟩ = some (.int .i64 e.n) ∧ W.cell? ⟨w.heap.size + 1, 3, none⟩ = some (.int .i64 e.id) ∧ W.cell? ⟨w.heap.size + 1, 4, none⟩ = some (.slice pa np pc) ∧ W.cell? ⟨w.heap.size + 1, 5, none⟩ = some (.slice ba nb bc)) := fun W k => by
    have h1 := k.k0.b2
    have h2 := k.k1.b6
    exact ⟨h1.1, h1.2.1, h2.1, h2.2.1, h2.2.2.1, h2.2.2.2.1, h2.2.2.2.2.1, h2.2.2.2.2.2.1⟩
  obtain ⟨s0, s1, s2, s3, s4, s5, s6, s7⟩ := SC.out w7 H7.out.1
  go_cut [100] (fun c wx => c = .bool false ∧ JT w.heap.size (.slice va nv vc) h e (.slice pa np pc) (.slice ba nb bc) (.slice ua l.length uc) l sure (.slice xa nx xc) bs wx ∧ Below w.heap.size w wx)
  case first =>
    refine wp_region_noPanic ?_
    go_region_held (fun w' => w'.cell? ⟨w.heap.size, 0, none⟩ = some (.slice va nv vc) ∧ w'.cell? ⟨w.heap.size, 1, none⟩ = some (.int .i64 h.next) ∧ w'.cell? ⟨w.heap.size + 1, 0, none⟩ = some (.int .i64 e.kind) ∧ w'.cell? ⟨w.heap.size + 1, 1, none⟩ = some (.string e.queue) ∧ w'.cell? ⟨w.heap.size + 1, 2, none⟩ = some (.int .i64 e.n) ∧ w'.cell? ⟨w.heap.size + 1, 3, none⟩ = some (.int .i64 e.id) ∧ w'.cell? ⟨w.heap.size + 1, 4, none⟩ = some (.slice pa np pc) ∧ w'.cell? ⟨w.heap.size + 1, 5, none⟩ = some (.slice ba nb bc))
      (first | exact SC.out _ H12.out.1 | exact SC.out _ H11.out.1 | exact SC.out _ H10.out.1 | exact SC.out _ H9.out.1 | exact SC.out _ H8.out.1 | exact SC.out _ KD.out)
      (first
        | (go_at_call 15; refine (P15.out.1 _ _ _ KD.out.n).mono ?_; rintro r w8 ⟨a8, k8, rfl, hs8, hb8⟩; have H8 : Hid (JT w.heap.size (.slice va nv vc) h e (.slice pa np pc) (.slice ba nb bc) (.slice ua l.length uc) l sure (.slice xa nx xc) bs w8 ∧ Below w7.heap.size w7 w8) := ⟨KD.out.on hb8, ⟨hb8.os, hb8.tape, hb8.output, hb8.size, hb8.block⟩⟩; have hcv8 := NT.conv_str hs8; have S8 : Hid (NT.SliceB w8.heap.size w8 (.slice a8 be.length k8) be) := hs8; clear hs8 hb8)
        | (go_at_call 16; refine (P15.out.2 _ _ _ H8.out.1.n).mono ?_; rintro r w9 ⟨a9, k9, rfl, hs9, hb9⟩; have H9 : Hid (JT w.heap.size (.slice va nv vc) h e (.slice pa np pc) (.slice ba nb bc) (.slice ua l.length uc) l sure (.slice xa nx xc) bs w9 ∧ Below w7.heap.size w7 w9) := ⟨H8.out.1.on hb9, H8.out.2.trans (hb9.mono H8.out.2.size)⟩; have hcv8' := NT.conv_str (S8.out.same hb9.block); have hcv9 := NT.conv_str hs9; clear hs9 hb9)
        | (go_at_call 17; refine (P17.out.2.1 _ _ _ _ H9.out.1.q H9.out.1.n).mono ?_; rintro r w10 ⟨a10, k10, rfl, hq10, hb10⟩; have H10 : Hid (JT w.heap.size (.slice va nv vc) h e (.slice pa np pc) (.slice ba nb bc) (.slice ua l.length uc) l sure (.slice xa nx xc) bs w10 ∧ Below w7.heap.size w7 w10 ∧ SliceQ (Under w10.heap.size) w10 (.slice a10 ha.queues.length k10) ha.queues) := ⟨H9.out.1.on hb10, H9.out.2.trans (hb10.mono H9.out.2.size), hq10⟩; clear hq10 hb10)
        | (go_at_call 18; refine (P17.out.2.2 _ _ _ _ H10.out.1.q H10.out.1.n).mono ?_; rintro r w11 ⟨a11, k11, rfl, hq11, hb11⟩; have H11 : Hid (JT w.heap.size (.slice va nv vc) h e (.slice pa np pc) (.slice ba nb bc) (.slice ua l.length uc) l sure (.slice xa nx xc) bs w11 ∧ Below w7.heap.size w7 w11 ∧ SliceQ (Under w11.heap.size) w11 (.slice a10 ha.queues.length k10) ha.queues ∧ SliceQ (Under w11.heap.size) w11 (.slice a11 ha.queues.length k11) ha.queues) := ⟨H10.out.1.on hb11, H10.out.2.1.trans (hb11.mono H10.out.2.1.size), H10.out.2.2.on hb11, hq11⟩; clear hq11 hb11)
        | (go_at_call 11; refine (sameHall_true _ _ ha P17.out.1 _ H11.out.2.2.1 H11.out.2.2.2).mono ?_; rintro r w12 ⟨rfl, hb12⟩; have H12 : Hid (JT w.heap.size (.slice va nv vc) h e (.slice pa np pc) (.slice ba nb bc) (.slice ua l.length uc) l sure (.slice xa nx xc) bs w12 ∧ Below w7.heap.size w7 w12) := ⟨H11.out.1.on hb12, H11.out.2.1.trans (hb12.mono H11.out.2.1.size)⟩; clear hb12)
        | fail)
    all_goals refine NoPanic.normal ?_
    all_goals (go_wp2_with fail; go_meet; exact ⟨rfl, H12.out.1, H7.out.2.trans (H12.out.2.mono H7.out.2.size)⟩)
  case rest =>
    obtain ⟨rfl, hcut⟩ := hcut
    have H13 : Hid (JT w.heap.size (.slice va nv vc) h e (.slice pa np pc) (.slice ba nb bc) (.slice ua l.length uc) l sure (.slice xa nx xc) bs wc ∧ Below w.heap.size w wc) := hcut
    clear hcut s0 s1 s2 s3 s4 s5 s6 s7 KD P15 P17 H7
    obtain ⟨s0, s1, s2, s3⟩ := H13.out.1.k0.b2
    obtain ⟨t0, t1, t2, t3⟩ := H13.out.1.k2.b2
    by_cases c1 : sure < 0
    · go_wp2_with (go_at_call 19; refine (rightH_any _ h _ H13.out.1.q (fun q hq => (HX.out.1.each q hq).2.1) HX.out.2.1).mono ?_; rintro r w14 ⟨kb, rfl, -, hb14⟩; have H14 : Hid (JT w.heap.size (.slice va nv vc) h e (.slice pa np pc) (.slice ba nb bc) (.slice ua l.length uc) l sure (.slice xa nx xc) bs w14 ∧ Below w.heap.size w w14) := ⟨H13.out.1.on hb14, H13.out.2.trans (hb14.mono H13.out.2.size)⟩; obtain ⟨y0, y1, y2, y3⟩ := H14.out.1.k2.b2; clear hb14 s0 s1 s2 s3 t0 t1 t2 t3; cases kb)
      all_goals
        go_ret
        exact ⟨rfl, H14.out.2⟩
    by_cases c2 : (l.length : Int) < sure
    · go_wp2_with (go_at_call 19; refine (rightH_any _ h _ H13.out.1.q (fun q hq => (HX.out.1.each q hq).2.1) HX.out.2.1).mono ?_; rintro r w14 ⟨kb, rfl, -, hb14⟩; have H14 : Hid (JT w.heap.size (.slice va nv vc) h e (.slice pa np pc) (.slice ba nb bc) (.slice ua l.length uc) l sure (.slice xa nx xc) bs w14 ∧ Below w.heap.size w w14) := ⟨H13.out.1.on hb14, H13.out.2.trans (hb14.mono H13.out.2.size)⟩; obtain ⟨y0, y1, y2, y3⟩ := H14.out.1.k2.b2; clear hb14 s0 s1 s2 s3 t0 t1 t2 t3; cases kb)
      all_goals
        go_ret
        exact ⟨rfl, H14.out.2⟩
    go_upto_region 11 with (go_at_call 19; refine (rightH_any _ h _ H13.out.1.q (fun q hq => (HX.out.1.each q hq).2.1) HX.out.2.1).mono ?_; rintro r w14 ⟨kb, rfl, hs14, hb14⟩; have H14 : Hid (JT w.heap.size (.slice va nv vc) h e (.slice pa np pc) (.slice ba nb bc) (.slice ua l.length uc) l sure (.slice xa nx xc) bs w14 ∧ Below w.heap.size w w14) := ⟨H13.out.1.on hb14, H13.out.2.trans (hb14.mono H13.out.2.size)⟩; obtain ⟨y0, y1, y2, y3⟩ := H14.out.1.k2.b2; obtain ⟨z0, z1, z2, z3, z4, z5, z6, z7⟩ := H14.out.1.k1.b6; clear hb14 s0 s1 s2 s3 t0 t1 t2 t3; cases kb)
    · go_ret
      exact ⟨rfl, H14.out.2⟩
    have HSD : Hid h.sound := hs14 (by first | trivial | rfl)
    clear hs14 c1 c2 H13
    obtain ⟨wl, ws, we, p20, p21⟩ := jt_write l sure e HER.out HX.out.2.2.2.2.2
    have P20 : Hid ((∀ W u ev, SliceB (Under W.heap.size) W u l → SliceE (Under W.heap.size) W ev [e, e] → Calls Try.prog 20 #[.agg #[u, .int .i64 sure], ev] W (fun r W' => SR.LogIs W W' r wl ws we)) ∧ (∀ W u ev, SliceB (Under W.heap.size) W u l → SliceE (Under W.heap.size) W ev [e, e] → Calls Try.prog 21 #[.agg #[u, .int .i64 sure], ev] W (fun r W' => SR.LogIs W W' r wl ws we))) := ⟨p20, p21⟩
    obtain ⟨es, hes, p23, p24⟩ := jt_short h HSD.out
    have P23 : Hid (es.length ≤ 4194304 ∧ (∀ W v, SliceQ (Under W.heap.size) W v h.queues → Calls Try.prog 23 #[.agg #[v, .int .i64 h.next]] W (EntsAns es W)) ∧ (∀ W v, SliceQ (Under W.heap.size) W v h.queues → Calls Try.prog 24 #[.agg #[v, .int .i64 h.next]] W (EntsAns es W))) := ⟨hes, p23, p24⟩
    clear p20 p21 p23 p24 hes HSD
    have hRow : Hid (∀ W, JT w.heap.size (.slice va nv vc) h e (.slice pa np pc) (.slice ba nb bc) (.slice ua l.length uc) l sure (.slice xa nx xc) bs W → SliceE (Under (W.alloc (.cells #[.int .i64 e.kind, .string e.queue, .int .i64 e.n, .int .i64 e.id, .slice pa np pc, .slice ba nb bc, .int .i64 e.kind, .string e.queue, .int .i64 e.n, .int .i64 e.id, .slice pa np pc, .slice ba nb bc] 30)).heap.size) (W.alloc (.cells #[.int .i64 e.kind, .string e.queue, .int .i64 e.n, .int .i64 e.id, .slice pa np pc, .slice ba nb bc, .int .i64 e.kind, .string e.queue, .int .i64 e.n, .int .i64 e.id, .slice pa np pc, .slice ba nb bc] 30)) (.slice (some ⟨W.heap.size, 0, none⟩) 2 2) [e, e]) := fun W k => row_made W e (.slice pa np pc, .slice ba nb bc) k.n
    go_upto_region 12 with (first
      | (go_at_call 20; refine (P20.out.1 _ _ _ (H14.out.1.on (below_alloc _ _)).l (hRow.out _ H14.out.1)).mono ?_; rintro r w15 ⟨a15, k15, rfl, hs15, hb15⟩; have H15 : Hid (SR.SliceB w15.heap.size w15 (.slice a15 wl.length k15) wl ∧ Below w14.heap.size w14 w15) := ⟨hs15, (below_alloc _ _).trans (hb15.mono (below_alloc _ _).size)⟩; clear hs15 hb15 y0 y1 y2 y3 z0 z1 z2 z3 z4 z5 z6 z7)
      | fail)
    obtain ⟨V, hV⟩ : ∃ V, V = w15.alloc (.cells #[.slice a15 wl.length k15, .int .i64 ws] 32) := ⟨_, rfl⟩
    have HVV : Hid (JT w.heap.size (.slice va nv vc) h e (.slice pa np pc) (.slice ba nb bc) (.slice ua l.length uc) l sure (.slice xa nx xc) bs V ∧ Below w.heap.size w V ∧ Blk V w15.heap.size [.slice a15 wl.length k15, .int .i64 ws] ∧ SR.SliceB V.heap.size V (.slice a15 wl.length k15) wl) := by
      have b1 : Below w15.heap.size w15 V := by rw [hV]; exact below_alloc _ _
      have b2 := H15.out.2.trans (b1.mono H15.out.2.size)
      exact ⟨H14.out.1.on b2, H14.out.2.trans (b2.mono H14.out.2.size), by rw [hV]; exact Blk.new _ _ _, H15.out.1.below b1⟩
    rw [← hV]
    clear hV H14 H15
    obtain ⟨y0, y1, y2, y3⟩ := HVV.out.1.k2.b2
    obtain ⟨z0, z1, z2, z3, z4, z5, z6, z7⟩ := HVV.out.1.k1.b6
    go_upto_region 13 with (first
      | (go_at_call 21; refine (P20.out.2 _ _ _ (HVV.out.1.on (below_alloc _ _)).l (hRow.out _ HVV.out.1)).mono ?_; rintro r w16 ⟨a16, k16, rfl, hs16, hb16⟩; have H16 : Hid (SR.SliceB w16.heap.size w16 (.slice a16 wl.length k16) wl ∧ Below V.heap.size V w16) := ⟨hs16, (below_alloc _ _).trans (hb16.mono (below_alloc _ _).size)⟩; clear hs16 hb16 y0 y1 y2 y3 z0 z1 z2 z3 z4 z5 z6 z7)
      | fail)
    obtain ⟨U, hU⟩ : ∃ U, U = w16.alloc (.cells #[.slice a16 wl.length k16, .int .i64 ws] 32) := ⟨_, rfl⟩
    have HU : Hid (JT w.heap.size (.slice va nv vc) h e (.slice pa np pc) (.slice ba nb bc) (.slice ua l.length uc) l sure (.slice xa nx xc) bs U ∧ Below w.heap.size w U ∧ Blk U w15.heap.size [.slice a15 wl.length k15, .int .i64 ws] ∧ Blk U w16.heap.size [.slice a16 wl.length k16, .int .i64 ws] ∧ SR.SliceB U.heap.size U (.slice a15 wl.length k15) wl ∧ SR.SliceB U.heap.size U (.slice a16 wl.length k16) wl) := by
      have b1 : Below w16.heap.size w16 U := by rw [hU]; exact below_alloc _ _
      have b2 := H16.out.2.trans (b1.mono H16.out.2.size)
      exact ⟨HVV.out.1.on b2, HVV.out.2.1.trans (b2.mono HVV.out.2.1.size), HVV.out.2.2.1.below b2 HVV.out.2.2.1.lt, by rw [hU]; exact Blk.new _ _ _, HVV.out.2.2.2.below b2, H16.out.1.below b1⟩
    rw [← hU]
    clear hU HVV H16 hRow P20 HER HX
    have LC : Hid (∀ W, Below U.heap.size U W → W.cell? ⟨w.heap.size, 0, none⟩ = some (.slice va nv vc) ∧ W.cell? ⟨w.heap.size, 1, none⟩ = some (.int .i64 h.next) ∧ W.cell? ⟨w15.heap.size, 0, none⟩ = some (.slice a15 wl.length k15) ∧ W.cell? ⟨w15.heap.size, 1, none⟩ = some (.int .i64 ws) ∧ W.cell? ⟨w16.heap.size, 0, none⟩ = some (.slice a16 wl.length k16) ∧ W.cell? ⟨w16.heap.size, 1, none⟩ = some (.int .i64 ws)) := fun W hb => by
      have h1 := (HU.out.1.on hb).k0.b2
      have h2 := (HU.out.2.2.1.below hb HU.out.2.2.1.lt).b2
      have h3 := (HU.out.2.2.2.1.below hb HU.out.2.2.2.1.lt).b2
      exact ⟨h1.1, h1.2.1, h2.1, h2.2.1, h3.1, h3.2.1⟩
    obtain ⟨q0, q1, q2, q3, q4, q5⟩ := LC.out U (Below.refl _ _)
    have hwe : (we == we) = true := by simp
    have B0 : Hid (Below U.heap.size U U.drew) := (Below.refl _ _).drew
    refine wp_region_noPanic ?_
    go_region_held (fun w' => w'.cell? ⟨w.heap.size, 0, none⟩ = some (.slice va nv vc) ∧ w'.cell? ⟨w.heap.size, 1, none⟩ = some (.int .i64 h.next) ∧ w'.cell? ⟨w15.heap.size, 0, none⟩ = some (.slice a15 wl.length k15) ∧ w'.cell? ⟨w15.heap.size, 1, none⟩ = some (.int .i64 ws) ∧ w'.cell? ⟨w16.heap.size, 0, none⟩ = some (.slice a16 wl.length k16) ∧ w'.cell? ⟨w16.heap.size, 1, none⟩ = some (.int .i64 ws))
      (first | exact LC.out _ B20.out.1 | exact LC.out _ B19.out.1 | exact LC.out _ B18.out.1 | exact LC.out _ B17.out | exact LC.out _ B0.out)
      (first
        | (go_at_call 22; refine (SR.sameLog_eq _ _ ws wl _ (HU.out.2.2.2.2.1.below B0.out) (HU.out.2.2.2.2.2.below B0.out)).mono ?_; rintro r w17 ⟨rfl, hb17⟩; have B17 : Hid (Below U.heap.size U w17) := ⟨hb17.os, hb17.tape, hb17.output, hb17.size, hb17.block⟩; clear hb17)
        | (go_at_call 23; refine (P23.out.2.1 _ _ (HU.out.1.on B17.out).q).mono ?_; rintro r w18 ⟨a18, k18, rfl, hs18, hb18⟩; have B18 : Hid (Below U.heap.size U w18 ∧ SliceE (Under w18.heap.size) w18 (.slice a18 es.length k18) es) := ⟨B17.out.trans (hb18.mono B17.out.size), hs18⟩; clear hs18 hb18)
        | (go_at_call 24; refine (P23.out.2.2 _ _ (HU.out.1.on B18.out.1).q).mono ?_; rintro r w19 ⟨a19, k19, rfl, hs19, hb19⟩; have B19 : Hid (Below U.heap.size U w19 ∧ SliceE (Under w19.heap.size) w19 (.slice a18 es.length k18) es ∧ SliceE (Under w19.heap.size) w19 (.slice a19 es.length k19) es) := ⟨B18.out.1.trans (hb19.mono B18.out.1.size), B18.out.2.up' hb19, hs19⟩; clear hs19 hb19)
        | (go_at_call 10; refine (sameEntries_true _ _ es P23.out.1 _ B19.out.2.1 B19.out.2.2).mono ?_; rintro r w20 ⟨rfl, hb20⟩; have B20 : Hid (Below U.heap.size U w20 ∧ True) := ⟨B19.out.1.trans (hb20.mono B19.out.1.size), trivial⟩; clear hb20)
        | fail)
    all_goals refine NoPanic.normal ?_
    all_goals
      go_wp2_with fail
      go_ret
      exact ⟨rfl, HU.out.2.1.trans (B20.out.1.mono HU.out.2.1.size)⟩
end Go.Proofs.Ytkddkpdfeeikhaa
