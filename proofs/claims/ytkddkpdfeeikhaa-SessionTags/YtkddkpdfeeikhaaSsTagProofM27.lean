/-
  SsClos; SsTake: texts laid together.
-/
import Derived.Test.YtkddkpdfeeikhaaSsTagProofM26
import Derived.Test.YtkddkpdfeeikhaaFaceM
import Derived.Test.YtkddkpdfeeikhaaSsTagProofM22
import Derived.Test.YtkddkpdfeeikhaaSsTagProofM10
import Derived.Test.YtkddkpdfeeikhaaSsTagProofM23
import Derived.Deep.DeepCutAuto
/-
  The changes of a hall that a session has, as functions.
-/
namespace Go.Proofs.Ytkddkpdfeeikhaa
open Go.RowKit
set_option linter.unusedVariables false
set_option linter.unusedSimpArgs false

attribute [local go_sem ↓] Go.wp_at_zero Go.wp_at_succ

/-- A hall that one may change. -/
def HD.okH (h : HD) : Prop := smallQ h.queues ∧ (∀ q ∈ h.queues, ∀ i ∈ q.items, i.fits) ∧ 0 ≤ h.next ∧ h.next ≤ 1000000000

theorem enter112 (args : Array Value) (W : World) : (callFunc 112 args).run Try.prog W = .ok (.enter 112 args) W := by go_simp
theorem enter139 (args : Array Value) (W : World) : (callFunc 139 args).run Try.prog W = .ok (.enter 139 args) W := by go_simp
theorem enter122 (args : Array Value) (W : World) : (callFunc 122 args).run Try.prog W = .ok (.enter 122 args) W := by go_simp

/-- The closure's end: what its call answered is laid into its own box. -/
theorem clos_end {r : HD × List ED × Int} {W W1 w1 : World} {va ea : Option Addr} {vc ec : Nat} (hB : Below W.heap.size W W1) (hz : W1.heap.size = W.heap.size + 2) (hb : Below W1.heap.size W1 w1)
    (hq : SliceQ (Made W1.heap.size w1.heap.size) w1 (.slice va r.1.queues.length vc) r.1.queues) (he : SliceE (Made W1.heap.size w1.heap.size) w1 (.slice ea r.2.1.length ec) r.2.1) (x y : Value) :
    AnsH r W (.returned (.tuple #[.agg #[.slice va r.1.queues.length vc, .int .i64 r.1.next], .slice ea r.2.1.length ec, .int .i64 r.2.2])) ((w1.setCell ⟨W.heap.size + 1, 0, none⟩ x).setCell ⟨W.heap.size + 1, 1, none⟩ y) ∧
      Below W.heap.size W ((w1.setCell ⟨W.heap.size + 1, 0, none⟩ x).setCell ⟨W.heap.size + 1, 1, none⟩ y) := by
  have far : ∀ b, Made W1.heap.size w1.heap.size b → Made W.heap.size ((w1.setCell ⟨W.heap.size + 1, 0, none⟩ x).setCell ⟨W.heap.size + 1, 1, none⟩ y).heap.size b ∧ ((w1.setCell ⟨W.heap.size + 1, 0, none⟩ x).setCell ⟨W.heap.size + 1, 1, none⟩ y).heap[b]? = w1.heap[b]? := fun b hb' => by
    have := hb'.1
    exact ⟨⟨by omega, by simpa using hb'.2⟩, by rw [Below.heap_setCell _ _ _ _ (by simp; omega), Below.heap_setCell _ _ _ _ (by simp; omega)]⟩
  exact ⟨⟨va, vc, ea, ec, rfl, hq.sub far, he.sub far⟩, ((hB.trans (hb.mono (by omega))).setCell (by simp) _).setCell (by simp) _⟩

set_option maxRecDepth 100000 in
set_option maxHeartbeats 1600000 in
theorem back_does (B g : Nat) (t : TD) (w0 : World) (h : HD) (hg : Blk w0 g t.cells) (hgB : g < B) (ok : h.okH) :
    Does B w0 112 [.pointer (some ⟨g, 0, none⟩)] h (faceF h t.queue (fun k q => backF h k q t.id t.turn)) := by
  refine ⟨enter112, fun v W hW hv => ?_⟩
  have HG : Hid (Blk W g t.cells) := hg.below hW hgB
  have HP : Hid (∀ W1 v, SliceQ (Under W1.heap.size) W1 v h.queues → Calls Try.prog 113 #[.agg #[v, .int .i64 h.next], .agg #[.int .i64 t.n, .string t.queue, .int .i64 t.id, .int .i64 t.turn]] W1 fun e w' => AnsH (faceF h t.queue (fun k q => backF h k q t.id t.turn)) W1 e w' ∧ Below W1.heap.size W1 w') :=
    fun W1 v hv => hallBack_any v h t.n t.queue t.id t.turn W1 hv ok.1 ok.2.1 ok.2.2
  obtain ⟨r, hr⟩ : ∃ r, r = faceF h t.queue (fun k q => backF h k q t.id t.turn) := ⟨_, rfl⟩
  rw [← hr] at HP ⊢
  obtain ⟨va, vc, rfl⟩ := hv.shp
  obtain ⟨n, hn⟩ : ∃ n, n = h.queues.length := ⟨_, rfl⟩
  rw [← hn] at hv ⊢
  obtain ⟨A, hA⟩ : ∃ A, A = (W.alloc (.cells #[.slice va n vc, .int .i64 h.next] 24)).alloc (.cells #[.slice none 0 0, .int .i64 0] 24) := ⟨_, rfl⟩
  have hAz : A.heap.size = W.heap.size + 2 := by rw [hA]; simp
  have HA : Hid (Below W.heap.size W A ∧ SliceQ (Under A.heap.size) A (.slice va n vc) h.queues ∧ Blk A W.heap.size [.slice va n vc, .int .i64 h.next] ∧ Blk A (W.heap.size + 1) [.slice none 0 0, .int .i64 0] ∧ Blk A g t.cells) := by
    have hb : Below W.heap.size W A := by rw [hA]; exact (below_alloc _ _).alloc (by simp) _
    refine ⟨hb, hv.sub fun b h => ⟨Nat.lt_of_lt_of_le h hb.size, hb.block b h⟩, by rw [hA]; exact (Blk.new _ _ _).alloc _, ?_, HG.out.below hb HG.out.lt⟩
    rw [hA]
    have := Blk.new (W.alloc (.cells #[.slice va n vc, .int .i64 h.next] 24)) [.slice none 0 0, .int .i64 0] 24
    simpa using this
  obtain ⟨a0, a1, a2, a3⟩ := HA.out.2.2.1.b2
  obtain ⟨c0, c1, c2, c3, c4, c5⟩ : A.cell? ⟨g, 0, none⟩ = some (.int .i64 t.n) ∧ A.cell? ⟨g, 1, none⟩ = some (.string t.queue) ∧ A.cell? ⟨g, 2, none⟩ = some (.int .i64 t.id) ∧ A.cell? ⟨g, 3, none⟩ = some (.int .i64 t.turn) ∧ (∀ o, A.frozen? ⟨g, o, none⟩ = false) ∧ g < A.heap.size := ⟨HA.out.2.2.2.2.cell 0, HA.out.2.2.2.2.cell 1, HA.out.2.2.2.2.cell 2, HA.out.2.2.2.2.cell 3, HA.out.2.2.2.2.f, HA.out.2.2.2.2.lt⟩
  clear hv ok hg hr hn
  go_enter Try.func112, Try.ntmps112
  go_upto_region 1 with fail
  rw [← hA]
  clear hA
  go_wp2_with (first
    | (go_at_call 113; refine (HP.out _ _ HA.out.2.1).mono ?_; rintro e w1 ⟨⟨xa, xc, ea, ec, rfl, hq1, he1⟩, hb1⟩; have H1 : Hid (SliceQ (Made A.heap.size w1.heap.size) w1 (.slice xa r.1.queues.length xc) r.1.queues ∧ SliceE (Made A.heap.size w1.heap.size) w1 (.slice ea r.2.1.length ec) r.2.1 ∧ Below A.heap.size A w1) := ⟨hq1, he1, hb1⟩; obtain ⟨d0, d1, d2, d3⟩ := (HA.out.2.2.2.1.below hb1 (by omega)).b2; clear hq1 he1 hb1)
    | fail)
  refine bodyPost_ret (v := .tuple #[.agg #[.slice xa r.1.queues.length xc, .int .i64 r.1.next], .slice ea r.2.1.length ec, .int .i64 r.2.2]) (by simp [results, Try.results112, go_sem, *]; done) rfl ?_
  exact clos_end HA.out.1 hAz H1.out.2.2 H1.out.1 H1.out.2.1 _ _
set_option maxRecDepth 100000 in
set_option maxHeartbeats 1600000 in
theorem done_does (B g : Nat) (t : TD) (w0 : World) (h : HD) (hg : Blk w0 g t.cells) (hgB : g < B) (ok : h.okH) :
    Does B w0 139 [.pointer (some ⟨g, 0, none⟩)] h (faceF h t.queue (fun k q => doneF h k q t.id t.turn)) := by
  refine ⟨enter139, fun v W hW hv => ?_⟩
  have HG : Hid (Blk W g t.cells) := hg.below hW hgB
  have HP : Hid (∀ W1 v, SliceQ (Under W1.heap.size) W1 v h.queues → Calls Try.prog 140 #[.agg #[v, .int .i64 h.next], .agg #[.int .i64 t.n, .string t.queue, .int .i64 t.id, .int .i64 t.turn]] W1 fun e w' => AnsH (faceF h t.queue (fun k q => doneF h k q t.id t.turn)) W1 e w' ∧ Below W1.heap.size W1 w') :=
    fun W1 v hv => hallDone_any v h t.n t.queue t.id t.turn W1 hv ok.1
  obtain ⟨r, hr⟩ : ∃ r, r = faceF h t.queue (fun k q => doneF h k q t.id t.turn) := ⟨_, rfl⟩
  rw [← hr] at HP ⊢
  obtain ⟨va, vc, rfl⟩ := hv.shp
  obtain ⟨n, hn⟩ : ∃ n, n = h.queues.length := ⟨_, rfl⟩
  rw [← hn] at hv ⊢
  obtain ⟨A, hA⟩ : ∃ A, A = (W.alloc (.cells #[.slice va n vc, .int .i64 h.next] 24)).alloc (.cells #[.slice none 0 0, .int .i64 0] 24) := ⟨_, rfl⟩
  have hAz : A.heap.size = W.heap.size + 2 := by rw [hA]; simp
  have HA : Hid (Below W.heap.size W A ∧ SliceQ (Under A.heap.size) A (.slice va n vc) h.queues ∧ Blk A W.heap.size [.slice va n vc, .int .i64 h.next] ∧ Blk A (W.heap.size + 1) [.slice none 0 0, .int .i64 0] ∧ Blk A g t.cells) := by
    have hb : Below W.heap.size W A := by rw [hA]; exact (below_alloc _ _).alloc (by simp) _
    refine ⟨hb, hv.sub fun b h => ⟨Nat.lt_of_lt_of_le h hb.size, hb.block b h⟩, by rw [hA]; exact (Blk.new _ _ _).alloc _, ?_, HG.out.below hb HG.out.lt⟩
    rw [hA]
    have := Blk.new (W.alloc (.cells #[.slice va n vc, .int .i64 h.next] 24)) [.slice none 0 0, .int .i64 0] 24
    simpa using this
  obtain ⟨a0, a1, a2, a3⟩ := HA.out.2.2.1.b2
  obtain ⟨c0, c1, c2, c3, c4, c5⟩ : A.cell? ⟨g, 0, none⟩ = some (.int .i64 t.n) ∧ A.cell? ⟨g, 1, none⟩ = some (.string t.queue) ∧ A.cell? ⟨g, 2, none⟩ = some (.int .i64 t.id) ∧ A.cell? ⟨g, 3, none⟩ = some (.int .i64 t.turn) ∧ (∀ o, A.frozen? ⟨g, o, none⟩ = false) ∧ g < A.heap.size := ⟨HA.out.2.2.2.2.cell 0, HA.out.2.2.2.2.cell 1, HA.out.2.2.2.2.cell 2, HA.out.2.2.2.2.cell 3, HA.out.2.2.2.2.f, HA.out.2.2.2.2.lt⟩
  clear hv ok hg hr hn
  go_enter Try.func139, Try.ntmps139
  go_upto_region 1 with fail
  rw [← hA]
  clear hA
  go_wp2_with (first
    | (go_at_call 140; refine (HP.out _ _ HA.out.2.1).mono ?_; rintro e w1 ⟨⟨xa, xc, ea, ec, rfl, hq1, he1⟩, hb1⟩; have H1 : Hid (SliceQ (Made A.heap.size w1.heap.size) w1 (.slice xa r.1.queues.length xc) r.1.queues ∧ SliceE (Made A.heap.size w1.heap.size) w1 (.slice ea r.2.1.length ec) r.2.1 ∧ Below A.heap.size A w1) := ⟨hq1, he1, hb1⟩; obtain ⟨d0, d1, d2, d3⟩ := (HA.out.2.2.2.1.below hb1 (by omega)).b2; clear hq1 he1 hb1)
    | fail)
  refine bodyPost_ret (v := .tuple #[.agg #[.slice xa r.1.queues.length xc, .int .i64 r.1.next], .slice ea r.2.1.length ec, .int .i64 r.2.2]) (by simp [results, Try.results139, go_sem, *]; done) rfl ?_
  exact clos_end HA.out.1 hAz H1.out.2.2 H1.out.1 H1.out.2.1 _ _

/-- What is asked of a whole queue. -/
def changeF (h : HD) (a : AD) : HD × List ED × Int :=
  if a.kind = 2 then makeF h a.queue a.n else if a.kind = 3 then faceF h a.queue (fun k q => dropF h k q) else if a.kind = 4 then hallPutF h a.queue a.note else faceF h a.queue (fun k q => purgeF h k q)

set_option maxRecDepth 100000 in
set_option maxHeartbeats 3200000 in
theorem change_does (B g : Nat) (a : AD) (pv bv : Value) (w0 : World) (h : HD) (hg : Blk w0 g [.int .i64 a.kind, .string a.queue, .int .i64 a.n, pv, bv]) (hgB : g < B) (hnt : NoteIs (Under B) w0 (pv, bv) a.note) (hB0 : B ≤ w0.heap.size) (ok : h.okH) (hs : a.queue.size ≤ maxLen) (hf : a.note.fitN) :
    Does B w0 122 [.pointer (some ⟨g, 0, none⟩)] h (changeF h a) := by
  refine ⟨enter122, fun v W hW hv => ?_⟩
  obtain ⟨pa, pc, rfl, -⟩ := SliceV.shape hnt.1
  obtain ⟨ba, bc, rfl, -⟩ := SliceV.shape hnt.2
  have hWz := hW.size
  have HG : Hid (Blk W g [.int .i64 a.kind, .string a.queue, .int .i64 a.n, .slice pa a.note.props.length pc, .slice ba a.note.body.length bc] ∧ NoteIs (Under W.heap.size) W (.slice pa a.note.props.length pc, .slice ba a.note.body.length bc) a.note) := ⟨hg.below hW hgB, hnt.sub fun b hb => ⟨Nat.lt_of_lt_of_le hb (Nat.le_trans hB0 hWz), hW.block b hb⟩⟩
  have HM : Hid (∀ W1 v, SliceQ (Under W1.heap.size) W1 v h.queues → Calls Try.prog 123 #[.agg #[v, .int .i64 h.next], .string a.queue, .int .i64 a.n] W1 fun e w' => AnsH (makeF h a.queue a.n) W1 e w' ∧ Below W1.heap.size W1 w') := fun W1 v hv => hallMake_any v h a.queue a.n W1 hv ok.1 hs
  have HD : Hid (∀ W1 v, SliceQ (Under W1.heap.size) W1 v h.queues → Calls Try.prog 124 #[.agg #[v, .int .i64 h.next], .string a.queue] W1 fun e w' => AnsH (faceF h a.queue (fun k q => dropF h k q)) W1 e w' ∧ Below W1.heap.size W1 w') := fun W1 v hv => hallDrop_any v h a.queue W1 hv ok.1
  have HU : Hid (∀ W1 v, SliceQ (Under W1.heap.size) W1 v h.queues → Calls Try.prog 126 #[.agg #[v, .int .i64 h.next], .string a.queue] W1 fun e w' => AnsH (faceF h a.queue (fun k q => purgeF h k q)) W1 e w' ∧ Below W1.heap.size W1 w') := fun W1 v hv => hallPurge_any v h a.queue W1 hv ok.1
  have HT : Hid (∀ W1 v pv bv, SliceQ (Under W1.heap.size) W1 v h.queues → NoteIs (Under W1.heap.size) W1 (pv, bv) a.note → Calls Try.prog 125 #[.agg #[v, .int .i64 h.next], .string a.queue, .agg #[pv, bv]] W1 fun e w' => AnsH (hallPutF h a.queue a.note) W1 e w' ∧ Below W1.heap.size W1 w') := fun W1 v pv bv hv hn => hallPut_any v h a.queue pv bv a.note W1 hv ok.1 ok.2.2 hn hf
  obtain ⟨va, vc, rfl⟩ := hv.shp
  obtain ⟨n, hn⟩ : ∃ n, n = h.queues.length := ⟨_, rfl⟩
  rw [← hn] at hv ⊢
  obtain ⟨np, hnp⟩ : ∃ np, np = a.note.props.length := ⟨_, rfl⟩
  obtain ⟨nb, hnb⟩ : ∃ nb, nb = a.note.body.length := ⟨_, rfl⟩
  rw [← hnp, ← hnb] at HG
  obtain ⟨A, hA⟩ : ∃ A, A = (W.alloc (.cells #[.slice va n vc, .int .i64 h.next] 24)).alloc (.cells #[.slice none 0 0, .int .i64 0] 24) := ⟨_, rfl⟩
  have hAz : A.heap.size = W.heap.size + 2 := by rw [hA]; simp
  have HA : Hid (Below W.heap.size W A ∧ SliceQ (Under A.heap.size) A (.slice va n vc) h.queues ∧ Blk A W.heap.size [.slice va n vc, .int .i64 h.next] ∧ Blk A (W.heap.size + 1) [.slice none 0 0, .int .i64 0] ∧ Blk A g [.int .i64 a.kind, .string a.queue, .int .i64 a.n, .slice pa np pc, .slice ba nb bc] ∧ NoteIs (Under A.heap.size) A (.slice pa np pc, .slice ba nb bc) a.note) := by
    have hb : Below W.heap.size W A := by rw [hA]; exact (below_alloc _ _).alloc (by simp) _
    refine ⟨hb, hv.sub fun b h => ⟨Nat.lt_of_lt_of_le h hb.size, hb.block b h⟩, by rw [hA]; exact (Blk.new _ _ _).alloc _, ?_, HG.out.1.below hb HG.out.1.lt, HG.out.2.sub fun b h => ⟨Nat.lt_of_lt_of_le h hb.size, hb.block b h⟩⟩
    rw [hA]
    have := Blk.new (W.alloc (.cells #[.slice va n vc, .int .i64 h.next] 24)) [.slice none 0 0, .int .i64 0] 24
    simpa using this
  obtain ⟨a0, a1, a2, a3⟩ := HA.out.2.2.1.b2
  obtain ⟨c0, c1, c2, c3, c4, c5, c6⟩ := HA.out.2.2.2.2.1.b5
  obtain ⟨kd, hkd⟩ : ∃ kd, kd = a.kind := ⟨_, rfl⟩
  rw [← hkd] at c0
  have HKD : Hid (kd = a.kind) := hkd
  clear hv ok hg hn hnp hnb hs hf hnt hkd HG
  by_cases k2 : kd = 2
  · subst k2
    have HC : Hid (changeF h a = makeF h a.queue a.n) := by show changeF h a = _; rw [changeF, if_pos HKD.out.symm]
    rw [HC.out]
    obtain ⟨r, hr⟩ : ∃ r, r = makeF h a.queue a.n := ⟨_, rfl⟩
    rw [← hr] at HM ⊢
    clear hr HC HD HU HT
    go_enter Try.func122, Try.ntmps122
    go_upto_region 1 with fail
    rw [← hA]
    clear hA
    go_wp2_with (first
      | (go_at_call 123; refine (HM.out _ _ HA.out.2.1).mono ?_; rintro e w1 ⟨⟨xa, xc, ea, ec, rfl, hq1, he1⟩, hb1⟩; have H1 : Hid (SliceQ (Made A.heap.size w1.heap.size) w1 (.slice xa r.1.queues.length xc) r.1.queues ∧ SliceE (Made A.heap.size w1.heap.size) w1 (.slice ea r.2.1.length ec) r.2.1 ∧ Below A.heap.size A w1) := ⟨hq1, he1, hb1⟩; obtain ⟨d0, d1, d2, d3⟩ := (HA.out.2.2.2.1.below hb1 (by omega)).b2; clear hq1 he1 hb1)
      | fail)
    refine bodyPost_ret (v := .tuple #[.agg #[.slice xa r.1.queues.length xc, .int .i64 r.1.next], .slice ea r.2.1.length ec, .int .i64 r.2.2]) (by simp [results, Try.results122, go_sem, *]; done) rfl ?_
    exact clos_end HA.out.1 hAz H1.out.2.2 H1.out.1 H1.out.2.1 _ _
  by_cases k3 : kd = 3
  · subst k3
    have HC : Hid (changeF h a = faceF h a.queue (fun k q => dropF h k q)) := by show changeF h a = _; rw [changeF, if_neg (by rw [← HKD.out]; omega), if_pos HKD.out.symm]
    rw [HC.out]
    obtain ⟨r, hr⟩ : ∃ r, r = faceF h a.queue (fun k q => dropF h k q) := ⟨_, rfl⟩
    rw [← hr] at HD ⊢
    clear hr HC HM HU HT
    go_enter Try.func122, Try.ntmps122
    go_upto_region 1 with fail
    rw [← hA]
    clear hA
    go_wp2_with (first
      | (go_at_call 124; refine (HD.out _ _ HA.out.2.1).mono ?_; rintro e w1 ⟨⟨xa, xc, ea, ec, rfl, hq1, he1⟩, hb1⟩; have H1 : Hid (SliceQ (Made A.heap.size w1.heap.size) w1 (.slice xa r.1.queues.length xc) r.1.queues ∧ SliceE (Made A.heap.size w1.heap.size) w1 (.slice ea r.2.1.length ec) r.2.1 ∧ Below A.heap.size A w1) := ⟨hq1, he1, hb1⟩; obtain ⟨d0, d1, d2, d3⟩ := (HA.out.2.2.2.1.below hb1 (by omega)).b2; clear hq1 he1 hb1)
      | fail)
    refine bodyPost_ret (v := .tuple #[.agg #[.slice xa r.1.queues.length xc, .int .i64 r.1.next], .slice ea r.2.1.length ec, .int .i64 r.2.2]) (by simp [results, Try.results122, go_sem, *]; done) rfl ?_
    exact clos_end HA.out.1 hAz H1.out.2.2 H1.out.1 H1.out.2.1 _ _
  by_cases k4 : kd = 4
  · subst k4
    have HC : Hid (changeF h a = hallPutF h a.queue a.note) := by show changeF h a = _; rw [changeF, if_neg (by rw [← HKD.out]; omega), if_neg (by rw [← HKD.out]; omega), if_pos HKD.out.symm]
    rw [HC.out]
    obtain ⟨r, hr⟩ : ∃ r, r = hallPutF h a.queue a.note := ⟨_, rfl⟩
    rw [← hr] at HT ⊢
    clear hr HC HM HU HD
    go_enter Try.func122, Try.ntmps122
    go_upto_region 1 with fail
    rw [← hA]
    clear hA
    go_wp2_with (first
      | (go_at_call 125; refine (HT.out _ _ _ _ HA.out.2.1 HA.out.2.2.2.2.2).mono ?_; rintro e w1 ⟨⟨xa, xc, ea, ec, rfl, hq1, he1⟩, hb1⟩; have H1 : Hid (SliceQ (Made A.heap.size w1.heap.size) w1 (.slice xa r.1.queues.length xc) r.1.queues ∧ SliceE (Made A.heap.size w1.heap.size) w1 (.slice ea r.2.1.length ec) r.2.1 ∧ Below A.heap.size A w1) := ⟨hq1, he1, hb1⟩; obtain ⟨d0, d1, d2, d3⟩ := (HA.out.2.2.2.1.below hb1 (by omega)).b2; clear hq1 he1 hb1)
      | fail)
    refine bodyPost_ret (v := .tuple #[.agg #[.slice xa r.1.queues.length xc, .int .i64 r.1.next], .slice ea r.2.1.length ec, .int .i64 r.2.2]) (by simp [results, Try.results122, go_sem, *]; done) rfl ?_
    exact clos_end HA.out.1 hAz H1.out.2.2 H1.out.1 H1.out.2.1 _ _
  · have HC : Hid (changeF h a = faceF h a.queue (fun k q => purgeF h k q)) := by show changeF h a = _; rw [changeF, if_neg (by rw [← HKD.out]; omega), if_neg (by rw [← HKD.out]; omega), if_neg (by rw [← HKD.out]; omega)]
    rw [HC.out]
    obtain ⟨r, hr⟩ : ∃ r, r = faceF h a.queue (fun k q => purgeF h k q) := ⟨_, rfl⟩
    rw [← hr] at HU ⊢
    clear hr HC HM HD HT
    go_enter Try.func122, Try.ntmps122
    go_upto_region 1 with fail
    rw [← hA]
    clear hA
    go_wp2_with (first
      | (go_at_call 126; refine (HU.out _ _ HA.out.2.1).mono ?_; rintro e w1 ⟨⟨xa, xc, ea, ec, rfl, hq1, he1⟩, hb1⟩; have H1 : Hid (SliceQ (Made A.heap.size w1.heap.size) w1 (.slice xa r.1.queues.length xc) r.1.queues ∧ SliceE (Made A.heap.size w1.heap.size) w1 (.slice ea r.2.1.length ec) r.2.1 ∧ Below A.heap.size A w1) := ⟨hq1, he1, hb1⟩; obtain ⟨d0, d1, d2, d3⟩ := (HA.out.2.2.2.1.below hb1 (by omega)).b2; clear hq1 he1 hb1)
      | fail)
    refine bodyPost_ret (v := .tuple #[.agg #[.slice xa r.1.queues.length xc, .int .i64 r.1.next], .slice ea r.2.1.length ec, .int .i64 r.2.2]) (by simp [results, Try.results122, go_sem, *]; done) rfl ?_
    exact clos_end HA.out.1 hAz H1.out.2.2 H1.out.1 H1.out.2.1 _ _

/-- The closures' makers. -/
theorem backOf_any (t : TD) (w : World) : Calls Try.prog 93 #[.agg #[.int .i64 t.n, .string t.queue, .int .i64 t.id, .int .i64 t.turn]] w fun e w' => e = .returned (.func (.func 112) #[] #[.pointer (some ⟨w.heap.size, 0, none⟩)]) ∧ w' = w.alloc (.cells t.cells.toArray 50) := by
  go_enter Try.func93, Try.ntmps93
  go_wp2
  go_ret
  exact ⟨rfl, rfl⟩
theorem doneOf_any (t : TD) (w : World) : Calls Try.prog 120 #[.agg #[.int .i64 t.n, .string t.queue, .int .i64 t.id, .int .i64 t.turn]] w fun e w' => e = .returned (.func (.func 139) #[] #[.pointer (some ⟨w.heap.size, 0, none⟩)]) ∧ w' = w.alloc (.cells t.cells.toArray 50) := by
  go_enter Try.func120, Try.ntmps120
  go_wp2
  go_ret
  exact ⟨rfl, rfl⟩
theorem changeOf_any (k n : Int) (q : ByteArray) (pv bv : Value) (w : World) : Calls Try.prog 101 #[.agg #[.int .i64 k, .string q, .int .i64 n, pv, bv]] w fun e w' => e = .returned (.func (.func 122) #[] #[.pointer (some ⟨w.heap.size, 0, none⟩)]) ∧ w' = w.alloc (.cells #[.int .i64 k, .string q, .int .i64 n, pv, bv] 66) := by
  go_enter Try.func101, Try.ntmps101
  go_wp2
  go_ret
  exact ⟨rfl, rfl⟩
end Go.Proofs.Ytkddkpdfeeikhaa

/-
  tagged: what is given gets a tag of its own.
-/
namespace Go.Proofs.Ytkddkpdfeeikhaa
open Go.RowKit
set_option linter.unusedVariables false
set_option linter.unusedSimpArgs false

attribute [local go_sem ↓] Go.wp_at_zero Go.wp_at_succ

/-- What stands behind the new tag. -/
structure TG (D lo : Nat) (d : DK) (hv lv tv : Value) (w : World) (ts : List TD) (nx : Int) (ci : List Value) (tv' : Value) (W : World) : Prop where
  keep : ∀ b, b < w.heap.size → b ≠ D → tv.ownBlock ≠ some b → W.heap[b]? = w.heap[b]?
  box : Blk W D [hv, .int .i64 d.h.next, lv, .int .i64 d.sure, tv', .int .i64 nx]
  own : W.ownsRow lo 50 4 tv' ts.length (cellsT ts)
  moved : ∀ k, tv'.ownBlock = some k → tv.ownBlock = some k ∨ w.heap.size + 2 ≤ k
  bel : Below lo w W
  it : Blk W w.heap.size ci
  say : Blk W (w.heap.size + 1) [.int .i64 0, .int .i64 0, .int .i64 0, .int .i64 0, .slice none 0 0, .slice none 0 0]
  size : w.heap.size + 2 ≤ W.heap.size

theorem set6_far (w : World) (g : Nat) (x0 x1 x2 x3 x4 x5 : Value) :
    ((((((w.setCell ⟨g, 0, none⟩ x0).setCell ⟨g, 1, none⟩ x1).setCell ⟨g, 2, none⟩ x2).setCell ⟨g, 3, none⟩ x3).setCell ⟨g, 4, none⟩ x4).setCell ⟨g, 5, none⟩ x5).drew.heap.size = w.heap.size ∧
    (∀ b, b ≠ g → ((((((w.setCell ⟨g, 0, none⟩ x0).setCell ⟨g, 1, none⟩ x1).setCell ⟨g, 2, none⟩ x2).setCell ⟨g, 3, none⟩ x3).setCell ⟨g, 4, none⟩ x4).setCell ⟨g, 5, none⟩ x5).drew.heap[b]? = w.heap[b]?) ∧
    (((((((w.setCell ⟨g, 0, none⟩ x0).setCell ⟨g, 1, none⟩ x1).setCell ⟨g, 2, none⟩ x2).setCell ⟨g, 3, none⟩ x3).setCell ⟨g, 4, none⟩ x4).setCell ⟨g, 5, none⟩ x5).drew.os = w.os ∧ ((((((w.setCell ⟨g, 0, none⟩ x0).setCell ⟨g, 1, none⟩ x1).setCell ⟨g, 2, none⟩ x2).setCell ⟨g, 3, none⟩ x3).setCell ⟨g, 4, none⟩ x4).setCell ⟨g, 5, none⟩ x5).drew.tape = w.tape ∧ ((((((w.setCell ⟨g, 0, none⟩ x0).setCell ⟨g, 1, none⟩ x1).setCell ⟨g, 2, none⟩ x2).setCell ⟨g, 3, none⟩ x3).setCell ⟨g, 4, none⟩ x4).setCell ⟨g, 5, none⟩ x5).drew.output = w.output) := by
  have key : ∀ (W : World) (o : Nat) (x : Value), (W.setCell ⟨g, o, none⟩ x).heap.size = W.heap.size ∧ (∀ b, b ≠ g → (W.setCell ⟨g, o, none⟩ x).heap[b]? = W.heap[b]?) := fun W o x => ⟨by simp, fun b hb => Below.heap_setCell _ _ _ _ hb⟩
  obtain ⟨w0, h0⟩ : ∃ w0, w0 = w.setCell ⟨g, 0, none⟩ x0 := ⟨_, rfl⟩
  obtain ⟨w1, h1⟩ : ∃ w1, w1 = w0.setCell ⟨g, 1, none⟩ x1 := ⟨_, rfl⟩
  obtain ⟨w2, h2⟩ : ∃ w2, w2 = w1.setCell ⟨g, 2, none⟩ x2 := ⟨_, rfl⟩
  obtain ⟨w3, h3⟩ : ∃ w3, w3 = w2.setCell ⟨g, 3, none⟩ x3 := ⟨_, rfl⟩
  obtain ⟨w4, h4⟩ : ∃ w4, w4 = w3.setCell ⟨g, 4, none⟩ x4 := ⟨_, rfl⟩
  obtain ⟨w5, h5⟩ : ∃ w5, w5 = w4.setCell ⟨g, 5, none⟩ x5 := ⟨_, rfl⟩
  rw [← h0, ← h1, ← h2, ← h3, ← h4, ← h5]
  have k0 := key w 0 x0
  have k1 := key w0 1 x1
  have k2 := key w1 2 x2
  have k3 := key w2 3 x3
  have k4 := key w3 4 x4
  have k5 := key w4 5 x5
  rw [← h0] at k0
  rw [← h1] at k1
  rw [← h2] at k2
  rw [← h3] at k3
  rw [← h4] at k4
  rw [← h5] at k5
  refine ⟨by show w5.heap.size = _; omega, fun b hb => ?_, ?_⟩
  · show w5.heap[b]? = _
    rw [k5.2 b hb, k4.2 b hb, k3.2 b hb, k2.2 b hb, k1.2 b hb, k0.2 b hb]
  · show w5.os = _ ∧ w5.tape = _ ∧ w5.output = _
    subst h0 h1 h2 h3 h4 h5
    exact ⟨by simp only [sc_os], by simp only [sc_tape], by simp only [sc_output]⟩

set_option maxRecDepth 100000 in
set_option maxHeartbeats 3200000 in
theorem tagged_any (N : Nat → Prop) (D lo : Nat) (d : DK) (hv lv tv : Value) (name : ByteArray) (it : IT) (pv bv : Value) (w : World) (H : DeskIn N D lo d hv lv tv w) (hn : NoteIs (Off N D tv w.heap.size) w (pv, bv) it.note) (hnx : 0 ≤ d.nx ∧ d.nx ≤ 1000000000) (hts : d.ts.length ≤ 1000000) :
    Calls Try.prog 117 #[.pointer (some ⟨D, 0, none⟩), .string name, .agg #[.int .i64 it.id, .int .i64 it.turn, .int .i64 it.tries, .bool it.out, .int .i64 it.due, pv, bv]] w fun e w' =>
      e = .returned (.agg #[.int .i64 2, .int .i64 (d.nx + 1), .int .i64 it.tries, .int .i64 0, pv, bv]) ∧ (∃ tv', DeskIn N D lo ⟨d.h, d.l, d.sure, d.ts ++ [⟨d.nx + 1, name, it.id, it.turn⟩], d.nx + 1⟩ hv lv tv' w' ∧ NoteIs (Off N D tv' w'.heap.size) w' (pv, bv) it.note) ∧ Below lo w w' ∧ ∀ b, b < w.heap.size → b ≠ D → tv.ownBlock ≠ some b → w'.heap[b]? = w.heap[b]? := by
  obtain ⟨i0, hi0, hz0, hz1, hz2⟩ := info_parts info50
  have H0 : Hid (DeskIn N D lo d hv lv tv w) := H
  have HN : Hid (NoteIs (Off N D tv w.heap.size) w (pv, bv) it.note) := hn
  obtain ⟨pa, pc, rfl, -⟩ := SliceV.shape hn.1
  obtain ⟨ba, bc, rfl, -⟩ := SliceV.shape hn.2
  obtain ⟨ta, tc, rfl, -⟩ := own_shape H.t
  obtain ⟨np, hnp⟩ : ∃ np, np = it.note.props.length := ⟨_, rfl⟩
  obtain ⟨nb, hnb⟩ : ∃ nb, nb = it.note.body.length := ⟨_, rfl⟩
  rw [← hnp, ← hnb] at HN ⊢
  have hwr : IntKind.i64.wrap (d.nx + 1) = d.nx + 1 := by simp [IntKind.wrap, IntKind.bits]; omega
  have hDl := H.box.lt
  have hlo := H.lo
  obtain ⟨A, hA⟩ : ∃ A, A = (w.alloc (.cells #[.int .i64 it.id, .int .i64 it.turn, .int .i64 it.tries, .bool it.out, .int .i64 it.due, .slice pa np pc, .slice ba nb bc] 78)).alloc (.cells #[.int .i64 0, .int .i64 0, .int .i64 0, .int .i64 0, .slice none 0 0, .slice none 0 0] 69) := ⟨_, rfl⟩
  have hb : Below w.heap.size w A := by rw [hA]; exact (below_alloc _ _).alloc (by simp) _
  have hAz : A.heap.size = w.heap.size + 2 := by rw [hA]; simp
  obtain ⟨V, hV⟩ : ∃ V, V = A.setCell ⟨D, 5, none⟩ (.int .i64 (d.nx + 1)) := ⟨_, rfl⟩
  have HV : Hid (DeskIn N D lo ⟨d.h, d.l, d.sure, d.ts, d.nx + 1⟩ hv lv (.slice ta d.ts.length tc) V ∧ Blk V w.heap.size [.int .i64 it.id, .int .i64 it.turn, .int .i64 it.tries, .bool it.out, .int .i64 it.due, .slice pa np pc, .slice ba nb bc] ∧ Blk V (w.heap.size + 1) [.int .i64 0, .int .i64 0, .int .i64 0, .int .i64 0, .slice none 0 0, .slice none 0 0] ∧ NoteIs (Off N D (.slice ta d.ts.length tc) V.heap.size) V (.slice pa np pc, .slice ba nb bc) it.note ∧ Below lo w V ∧ V.heap.size = w.heap.size + 2) := by
    have hVz : V.heap.size = w.heap.size + 2 := by rw [hV]; simp [hAz]
    have far : ∀ b, b ≠ D → V.heap[b]? = A.heap[b]? := fun b hb => by rw [hV]; exact Below.heap_setCell _ _ _ _ hb
    refine ⟨by rw [hV]; exact (H0.out.on hb).num (d.nx + 1), ?_, ?_, HN.out.sub fun b h => ⟨⟨by have := h.1; omega, h.2⟩, (far b h.2.1).trans (hb.block b h.1)⟩, by rw [hV]; exact (hb.mono (by omega)).setCell hlo _, hVz⟩
    · refine Blk.same ?_ (far _ (by omega))
      rw [hA]; exact (Blk.new _ _ _).alloc _
    · refine Blk.same ?_ (far _ (by omega))
      rw [hA]
      have := Blk.new (w.alloc (.cells #[.int .i64 it.id, .int .i64 it.turn, .int .i64 it.tries, .bool it.out, .int .i64 it.due, .slice pa np pc, .slice ba nb bc] 78)) [.int .i64 0, .int .i64 0, .int .i64 0, .int .i64 0, .slice none 0 0, .slice none 0 0] 69
      simpa using this
  obtain ⟨a0, a1, a2, a3, a4, a5, a6, a7⟩ := (H.on hb).box.b6
  have HK : Hid (∀ b, b < w.heap.size → b ≠ D → V.heap[b]? = w.heap[b]?) := fun b h1 h2 => by
    rw [hV, Below.heap_setCell _ _ _ _ h2]
    exact hb.block b h1
  clear H hn hnp hnb
  go_enter Try.func117, Try.ntmps117
  go_upto_region 1 with fail
  rw [← hA]
  clear hA
  go_upto_region 3 with fail
  rw [← hV]
  clear hV
  obtain ⟨b0, b1, b2, b3, b4, b5, b6, b7⟩ := HV.out.1.box.b6
  obtain ⟨⟨e0, e1, e2, e3⟩, ⟨e4, e5, e6⟩, e7, e8⟩ := HV.out.2.1.b7
  have hVs : w.heap.size + 2 ≤ V.heap.size := Nat.le_of_eq HV.out.2.2.2.2.2.symm
  have hVl := HV.out.2.2.2.2.1.size
  have hloV : lo ≤ V.heap.size := by omega
  have HROW : Hid (SliceV (fun _ => True) (V.drew.alloc (.cells #[.int .i64 (d.nx + 1), .string name, .int .i64 it.id, .int .i64 it.turn] 50)) (.slice (some ⟨V.heap.size, 0, none⟩) 1 1) 1 [.int .i64 (d.nx + 1), .string name, .int .i64 it.id, .int .i64 it.turn]) :=
    SliceV.sub (entry_row (Blk.new V.drew [.int .i64 (d.nx + 1), .string name, .int .i64 it.id, .int .i64 it.turn] 50)) fun b hb => ⟨trivial, rfl⟩
  have HOW : Hid ((V.drew.alloc (.cells #[.int .i64 (d.nx + 1), .string name, .int .i64 it.id, .int .i64 it.turn] 50)).ownsRow lo 50 4 (.slice ta d.ts.length tc) d.ts.length (cellsT d.ts)) :=
    own_same HV.out.1.t fun b hb => Below.heap_alloc _ _ _ (HV.out.1.t.lt b hb).2
  obtain ⟨tn, htn⟩ : ∃ tn, tn = d.ts.length := ⟨_, rfl⟩
  have HTN : Hid (tn = d.ts.length) := htn
  rw [← htn] at HOW hts b4
  have hEnd : Hid (∀ (ao : Option Addr) (cap : Nat) (w4 : World), w4.ownsRow lo 50 4 (.slice ao (tn + 1) cap) (tn + 1) (cellsT d.ts ++ [.int .i64 (d.nx + 1), .string name, .int .i64 it.id, .int .i64 it.turn]) → (V.drew.alloc (.cells #[.int .i64 (d.nx + 1), .string name, .int .i64 it.id, .int .i64 it.turn] 50)).grownBy w4 (Value.slice ta tn tc).ownBlock → Moved (V.drew.alloc (.cells #[.int .i64 (d.nx + 1), .string name, .int .i64 it.id, .int .i64 it.turn] 50)) (.slice ta tn tc) (.slice ao (tn + 1) cap) →
      TG D lo d hv lv (.slice ta tn tc) w (d.ts ++ [⟨d.nx + 1, name, it.id, it.turn⟩]) (d.nx + 1) [.int .i64 it.id, .int .i64 it.turn, .int .i64 it.tries, .bool it.out, .int .i64 it.due, .slice pa np pc, .slice ba nb bc] (.slice ao (tn + 1) cap) (w4.setCell ⟨D, 4, none⟩ (.slice ao (tn + 1) cap)) ∧ Blk w4 D [hv, .int .i64 d.h.next, lv, .int .i64 d.sure, .slice ta tn tc, .int .i64 (d.nx + 1)]) := by
    intro ao cap w4 ho4 hg4 hm4
    have hb4 : Below V.heap.size V (V.drew.alloc (.cells #[.int .i64 (d.nx + 1), .string name, .int .i64 it.id, .int .i64 it.turn] 50)) := (Below.refl _ _).drew.alloc (Nat.le_refl _) _
    have e1 : cellsT (d.ts ++ [⟨d.nx + 1, name, it.id, it.turn⟩]) = cellsT d.ts ++ [.int .i64 (d.nx + 1), .string name, .int .i64 it.id, .int .i64 it.turn] := by rw [cellsT_append]; rfl
    have e2 : (d.ts ++ [⟨d.nx + 1, name, it.id, it.turn⟩] : List TD).length = tn + 1 := by rw [HTN.out]; simp
    have hz4 := hg4.size
    simp at hz4
    have keep : ∀ b, b < V.heap.size → (Value.slice ta tn tc).ownBlock ≠ some b → w4.heap[b]? = V.heap[b]? := fun b h1 h2 => (hg4.block b (by simp; omega) (fun e => h2 e.symm)).trans (hb4.block b h1)
    have htb : ∀ b, (Value.slice ta tn tc).ownBlock = some b → lo ≤ b ∧ b < w.heap.size := fun b hb => H0.out.t.lt b (by rw [← HTN.out]; exact hb)
    have hm : ∀ k, (Value.slice ao (tn + 1) cap).ownBlock = some k → (Value.slice ta tn tc).ownBlock = some k ∨ w.heap.size + 2 ≤ k := fun k hk => by
      rcases hm4 k hk with h | h
      · exact .inl h
      · simp at h; exact .inr (by omega)
    have htD : (Value.slice ta tn tc).ownBlock ≠ some D := by rw [HTN.out]; exact HV.out.1.tD
    have kD : Blk w4 D [hv, .int .i64 d.h.next, lv, .int .i64 d.sure, .slice ta tn tc, .int .i64 (d.nx + 1)] := by
      have := HV.out.1.box.same (keep _ b7 (by rw [HTN.out]; exact HV.out.1.tD))
      rw [HTN.out]
      exact this
    have far : ∀ b, b ≠ D → (w4.setCell ⟨D, 4, none⟩ (.slice ao (tn + 1) cap)).heap[b]? = w4.heap[b]? := fun b hb => Below.heap_setCell _ _ _ _ hb
    refine ⟨⟨fun b h1 h2 h3 => ?_, kD.set 4 _, ?_, hm, ?_, ?_, ?_, ?_⟩, kD⟩
    · rw [far b h2, keep b (by omega) h3]
      exact HK.out b h1 h2
    · rw [e1, e2]
      exact own_same ho4 fun b hb => far b (fun e => by rcases hm b hb with h | h; exact htD (by rw [h, e]); omega)
    · refine HV.out.2.2.2.2.1.trans (Below.setCell (show Below lo V w4 from ⟨hg4.os, hg4.tape, hg4.output, by omega, fun b hb => keep b (by omega) (fun e => by have := (htb b e).1; omega)⟩) hlo _)
    · exact HV.out.2.1.same ((far _ (by omega)).trans (keep _ e8 (fun e => by have := (htb _ e).2; omega)))
    · exact HV.out.2.2.1.same ((far _ (by omega)).trans (keep _ HV.out.2.2.1.lt (fun e => by have := (htb _ e).2; omega)))
    · simp; omega
  have hone : ∀ u ∈ [Value.int .i64 (d.nx + 1), .string name, .int .i64 it.id, .int .i64 it.turn], u.oneCell' = true := by simp [Value.oneCell']
  clear htn hwr a0 a1 a2 a3 a4 a5 a6 a7 hAz hb
  go_cut [] (fun wx => ∃ tv', TG D lo d hv lv (.slice ta tn tc) w (d.ts ++ [⟨d.nx + 1, name, it.id, it.turn⟩]) (d.nx + 1) [.int .i64 it.id, .int .i64 it.turn, .int .i64 it.tries, .bool it.out, .int .i64 it.due, .slice pa np pc, .slice ba nb bc] tv' wx)
  case first =>
    go_region_law (first
      | (refine step_appV (by rfl) _ _ 62 (by rfl) 50 i0 _ 4 40 Try.underlying62 hi0 hz0 hz1 hz2 rfl (by omega) lo (.slice ta tn tc) tn (cellsT d.ts) (by rfl) HOW.out (fun _ => True) (.slice (some ⟨V.heap.size, 0, none⟩) 1 1) 1 [.int .i64 (d.nx + 1), .string name, .int .i64 it.id, .int .i64 it.turn] (by rfl) HROW.out rfl hone (by unfold maxLen; omega) (by omega) (by simp; omega) ?_; intro ao cap w4 ho4 hg4 hm4; have H4 := hEnd.out ao cap w4 ho4 hg4 hm4; have HH4 : Hid _ := H4; obtain ⟨f0, f1, f2, f3, f4, f5, f6, f7⟩ := H4.2.b6; clear ho4 hg4 hm4 H4)
      | fail)
    all_goals
      go_wp2_with fail
      go_meet
      exact ⟨_, HH4.out.1⟩
  case rest =>
    obtain ⟨tv', hT⟩ := hcut
    have HT : Hid (TG D lo d hv lv (.slice ta tn tc) w (d.ts ++ [⟨d.nx + 1, name, it.id, it.turn⟩]) (d.nx + 1) [.int .i64 it.id, .int .i64 it.turn, .int .i64 it.tries, .bool it.out, .int .i64 it.due, .slice pa np pc, .slice ba nb bc] tv' wc) := hT
    clear hT hEnd HROW HOW b0 b1 b2 b3 b4 b5 b6 b7 e0 e1 e2 e3 e4 e5 e6 e7 e8
    obtain ⟨b0, b1, b2, b3, b4, b5, b6, b7⟩ := HT.out.box.b6
    obtain ⟨⟨e0, e1, e2, e3⟩, ⟨e4, e5, e6⟩, e7, e8⟩ := HT.out.it.b7
    obtain ⟨f0, f1, f2, f3, f4, f5, f6, f7⟩ := HT.out.say.b6
    have hne : w.heap.size + 1 ≠ D := by omega
    have hne2 : w.heap.size + 1 ≠ w.heap.size := by omega
    have hFin : Hid (∀ x0 x1 x2 x3 x4 x5 : Value, (∃ tv', DeskIn N D lo ⟨d.h, d.l, d.sure, d.ts ++ [⟨d.nx + 1, name, it.id, it.turn⟩], d.nx + 1⟩ hv lv tv' ((((((wc.setCell ⟨w.heap.size + 1, 0, none⟩ x0).setCell ⟨w.heap.size + 1, 1, none⟩ x1).setCell ⟨w.heap.size + 1, 2, none⟩ x2).setCell ⟨w.heap.size + 1, 3, none⟩ x3).setCell ⟨w.heap.size + 1, 4, none⟩ x4).setCell ⟨w.heap.size + 1, 5, none⟩ x5).drew ∧ NoteIs (Off N D tv' (((((((wc.setCell ⟨w.heap.size + 1, 0, none⟩ x0).setCell ⟨w.heap.size + 1, 1, none⟩ x1).setCell ⟨w.heap.size + 1, 2, none⟩ x2).setCell ⟨w.heap.size + 1, 3, none⟩ x3).setCell ⟨w.heap.size + 1, 4, none⟩ x4).setCell ⟨w.heap.size + 1, 5, none⟩ x5).drew).heap.size) (((((((wc.setCell ⟨w.heap.size + 1, 0, none⟩ x0).setCell ⟨w.heap.size + 1, 1, none⟩ x1).setCell ⟨w.heap.size + 1, 2, none⟩ x2).setCell ⟨w.heap.size + 1, 3, none⟩ x3).setCell ⟨w.heap.size + 1, 4, none⟩ x4).setCell ⟨w.heap.size + 1, 5, none⟩ x5).drew) (.slice pa np pc, .slice ba nb bc) it.note) ∧ Below lo w ((((((wc.setCell ⟨w.heap.size + 1, 0, none⟩ x0).setCell ⟨w.heap.size + 1, 1, none⟩ x1).setCell ⟨w.heap.size + 1, 2, none⟩ x2).setCell ⟨w.heap.size + 1, 3, none⟩ x3).setCell ⟨w.heap.size + 1, 4, none⟩ x4).setCell ⟨w.heap.size + 1, 5, none⟩ x5).drew ∧ ∀ b, b < w.heap.size → b ≠ D → (Value.slice ta d.ts.length tc).ownBlock ≠ some b → (((((((wc.setCell ⟨w.heap.size + 1, 0, none⟩ x0).setCell ⟨w.heap.size + 1, 1, none⟩ x1).setCell ⟨w.heap.size + 1, 2, none⟩ x2).setCell ⟨w.heap.size + 1, 3, none⟩ x3).setCell ⟨w.heap.size + 1, 4, none⟩ x4).setCell ⟨w.heap.size + 1, 5, none⟩ x5).drew).heap[b]? = w.heap[b]?) := by
      intro x0 x1 x2 x3 x4 x5
      obtain ⟨hz, far, hos⟩ := set6_far wc (w.heap.size + 1) x0 x1 x2 x3 x4 x5
      obtain ⟨W', hW'⟩ : ∃ W', W' = ((((((wc.setCell ⟨w.heap.size + 1, 0, none⟩ x0).setCell ⟨w.heap.size + 1, 1, none⟩ x1).setCell ⟨w.heap.size + 1, 2, none⟩ x2).setCell ⟨w.heap.size + 1, 3, none⟩ x3).setCell ⟨w.heap.size + 1, 4, none⟩ x4).setCell ⟨w.heap.size + 1, 5, none⟩ x5).drew := ⟨_, rfl⟩
      rw [← hW'] at hz far hos ⊢
      clear hW'
      obtain ⟨g1, g2, g3, g4, g5, g6, g7, g8⟩ := HT.out
      have hm : ∀ k, tv'.ownBlock = some k → k ≠ w.heap.size + 1 := fun k hk => by
        rcases g4 k hk with h | h
        · have := (H0.out.t.lt k (by rw [← HTN.out]; exact h)).2; omega
        · omega
      have := H0.out.to (d.ts ++ [⟨d.nx + 1, name, it.id, it.turn⟩]) (d.nx + 1) (W := W') (tv' := tv') (by omega) (fun b h1 h2 h3 _ => (far b (by omega)).trans (g1 b h1 h2 (by rw [HTN.out]; exact h3))) (g2.same (far D (by omega))) (own_same g3 fun b hb => far b (hm b hb)) (fun k hk => by rw [← HTN.out]; exact (g4 k hk).imp_right (fun h => by omega))
      exact ⟨⟨tv', this.1, HN.out.sub fun b h => this.2 b h⟩, ⟨hos.1.trans g5.os, hos.2.1.trans g5.tape, hos.2.2.trans g5.output, by have := g5.size; omega, fun b hb => (far b (by omega)).trans (g5.block b hb)⟩, fun b h1 h2 h3 => (far b (by omega)).trans (g1 b h1 h2 (by rw [HTN.out]; exact h3))⟩
    go_upto_region 4 with fail
    clear HT
    go_region_law (fail)
    all_goals
      go_wp2_with fail
      refine bodyPost_ret (v := .agg #[.int .i64 2, .int .i64 (d.nx + 1), .int .i64 it.tries, .int .i64 0, .slice pa np pc, .slice ba nb bc]) (by simp [results, Try.results117, go_sem, *]; done) rfl ⟨rfl, hFin.out _ _ _ _ _ _⟩
end Go.Proofs.Ytkddkpdfeeikhaa
