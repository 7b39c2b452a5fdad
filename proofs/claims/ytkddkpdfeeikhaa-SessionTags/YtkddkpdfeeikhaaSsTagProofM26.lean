/-
  FaceK; SsDesk; SsWrite: texts laid together.
-/
import Derived.Test.YtkddkpdfeeikhaaFaceT
import Derived.Test.YtkddkpdfeeikhaaSsTagProofM10
import Derived.Test.YtkddkpdfeeikhaaSsTagProofM11
import Derived.Test.YtkddkpdfeeikhaaSsTagProofM24
/-
  hall.Take.
-/
namespace Go.Proofs.Ytkddkpdfeeikhaa
open Go.RowKit
set_option linter.unusedVariables false
set_option linter.unusedSimpArgs false

attribute [local go_sem ↓] Go.wp_at_zero Go.wp_at_succ

def zI0 : IT := ⟨0, 0, 0, false, 0, nN⟩
/-- The item that Take gives. -/
def giveF (h : HD) (name : ByteArray) (now : Int) : IT :=
  match h.queues.findIdx? (nameB name) with
  | none => zI0
  | some k => match h.queues[k]? with
    | none => zI0
    | some q => givenI q now
theorem giveF_none {h : HD} {name : ByteArray} {now : Int} (hd : idxQ name h.queues = -1) : giveF h name now = zI0 := by
  unfold giveF
  cases hf : h.queues.findIdx? (nameB name) with
  | none => rfl
  | some k => simp [idxQ, hf] at hd
theorem giveF_some {h : HD} {name : ByteArray} {now : Int} {k : Nat} (hd : idxQ name h.queues = (k : Int)) (hk : k < h.queues.length) : giveF h name now = givenI h.queues[k] now := by
  unfold giveF
  cases hf : h.queues.findIdx? (nameB name) with
  | none => simp [idxQ, hf] at hd
  | some j =>
    simp only [idxQ, hf] at hd
    have : j = k := by omega
    subst this
    simp [List.getElem?_eq_getElem hk]

theorem changed_take (nb gb : Nat) (v : Value) (name : ByteArray) (h : HD) (now : Int) (hnow : 0 ≤ now ∧ now ≤ 1000000000) (w : World) (hv : SliceQ (Under w.heap.size) w v h.queues) (hsm : smallQ h.queues) (hfit : ∀ q ∈ h.queues, ∀ i ∈ q.items, i.fits) (hn : Blk w nb [.int .i64 now]) (hg : Blk w gb (IT.cells ⟨0, 0, 0, false, 0, nN⟩ (.slice none 0 0, .slice none 0 0))) :
    Calls Try.prog 131 #[.agg #[v, .int .i64 h.next], .string name, .func (.func 137) #[] #[.pointer (some ⟨nb, 0, none⟩), .pointer (some ⟨gb, 0, none⟩)]] w fun e w' => AnsH (faceF h name (fun k q => takeF h k q now)) w e w' ∧ (∃ B, w.heap.size ≤ B ∧ GivenAt w gb (giveF h name now) B w') ∧ Keep (fun b => b < w.heap.size ∧ ¬ b = gb) w w' := by
  rcases idxQ_cases name h.queues with ⟨hd, -⟩ | ⟨k, hk, hd, hnm, -⟩
  · rw [faceF_none hd, giveF_none hd]
    refine (changed_none _ v name h w hv hd).mono ?_
    rintro e w' ⟨h1, h2⟩
    exact ⟨h1, ⟨w.heap.size, Nat.le_refl _, none, 0, none, 0, hg.below h2 hg.lt, NoteIs.nil _ _⟩, Keep.of h2 fun b hb => hb.1⟩
  · rw [faceF_some hd hk, giveF_some hd hk]
    exact changed_ok (fun b => b = gb) 137 [.pointer (some ⟨nb, 0, none⟩), .pointer (some ⟨gb, 0, none⟩)] v name h k hk _ _ w hv hsm hd (take_alters w nb gb now hnow hn hg h k hk hsm hfit) (fun b hb => hb ▸ hg.lt)

/-- A hall, an item and an error are answered, in new memory. -/
def AnsHT (r : HD × List ED × Int) (it : IT) (w : World) (e : Ending) (w' : World) : Prop :=
  ∃ va vc pa pc qa qc, e = .returned (.tuple #[.agg #[.slice va r.1.queues.length vc, .int .i64 r.1.next], .agg #[.int .i64 it.id, .int .i64 it.turn, .int .i64 it.tries, .bool it.out, .int .i64 it.due, .slice pa it.note.props.length pc, .slice qa it.note.body.length qc], .int .i64 r.2.2]) ∧ SliceQ (Made w.heap.size w'.heap.size) w' (.slice va r.1.queues.length vc) r.1.queues ∧ NoteIs (Made w.heap.size w'.heap.size) w' (.slice pa it.note.props.length pc, .slice qa it.note.body.length qc) it.note

def set2 (w : World) (b : Nat) (x0 x1 : Value) : World := (w.setCell ⟨b, 0, none⟩ x0).setCell ⟨b, 1, none⟩ x1
theorem set2_far {w : World} {b c : Nat} {x0 x1 : Value} (h : c ≠ b) : (set2 w b x0 x1).heap[c]? = w.heap[c]? := by
  unfold set2; rw [Below.heap_setCell _ _ _ _ h, Below.heap_setCell _ _ _ _ h]
theorem set2_size {w : World} {b : Nat} {x0 x1 : Value} : (set2 w b x0 x1).heap.size = w.heap.size := by simp [set2]
theorem set2_blk {w : World} {b : Nat} {y0 y1 x0 x1 : Value} (h : Blk w b [y0, y1]) : Blk (set2 w b x0 x1) b [x0, x1] := (h.set 0 _).set 1 _
theorem set2_os {w : World} {b : Nat} {x0 x1 : Value} : (set2 w b x0 x1).os = w.os ∧ (set2 w b x0 x1).tape = w.tape ∧ (set2 w b x0 x1).output = w.output := by
  unfold set2; exact ⟨by simp only [sc_os], by simp only [sc_tape], by simp only [sc_output]⟩

/-- Two boxes were stored into. -/
def Put27 (W : World) (b2 b7 : Nat) (x0 x1 : Value) (cs : List Value) (wx : World) : Prop :=
  wx.heap.size = W.heap.size ∧ (wx.os = W.os ∧ wx.tape = W.tape ∧ wx.output = W.output) ∧ (∀ b, b ≠ b2 → b ≠ b7 → wx.heap[b]? = W.heap[b]?) ∧ Blk wx b2 [x0, x1] ∧ Blk wx b7 cs

theorem put27_a {W : World} {b2 b7 : Nat} {y0 y1 z0 z1 z2 z3 z4 z5 z6 x0 x1 c0 c1 c2 c3 c4 c5 c6 : Value} (hne : b2 ≠ b7) (h2 : Blk W b2 [y0, y1]) (h7 : Blk W b7 [z0, z1, z2, z3, z4, z5, z6]) : Put27 W b2 b7 x0 x1 [c0, c1, c2, c3, c4, c5, c6] (set7 (set2 W b2 x0 x1) b7 c0 c1 c2 c3 c4 c5 c6).drew := by
  obtain ⟨V, hV⟩ : ∃ V, V = set2 W b2 x0 x1 := ⟨_, rfl⟩
  have g1 : V.heap.size = W.heap.size := by rw [hV]; exact set2_size
  have g2 : V.os = W.os ∧ V.tape = W.tape ∧ V.output = W.output := by rw [hV]; exact set2_os
  have g3 : ∀ b, b ≠ b2 → V.heap[b]? = W.heap[b]? := fun b hb => by rw [hV]; exact set2_far hb
  have g4 : Blk V b2 [x0, x1] := by rw [hV]; exact set2_blk h2
  rw [← hV]
  obtain ⟨U, hU⟩ : ∃ U, U = set7 V b7 c0 c1 c2 c3 c4 c5 c6 := ⟨_, rfl⟩
  have f1 : U.heap.size = V.heap.size := by rw [hU]; exact set7_size
  have f2 : U.os = V.os ∧ U.tape = V.tape ∧ U.output = V.output := by rw [hU]; exact set7_os
  have f3 : ∀ b, b ≠ b7 → U.heap[b]? = V.heap[b]? := fun b hb => by rw [hU]; exact set7_far hb
  have f4 : Blk U b7 [c0, c1, c2, c3, c4, c5, c6] := by rw [hU]; exact set7_blk (h7.same (g3 _ (Ne.symm hne)))
  rw [← hU]
  exact ⟨f1.trans g1, ⟨f2.1.trans g2.1, f2.2.1.trans g2.2.1, f2.2.2.trans g2.2.2⟩, fun b h1 h3 => (f3 b h3).trans (g3 b h1), g4.same (f3 _ hne), f4⟩
set_option maxRecDepth 100000 in
set_option maxHeartbeats 3200000 in
theorem hallTake_any (v : Value) (h : HD) (name : ByteArray) (now : Int) (hnow : 0 ≤ now ∧ now ≤ 1000000000) (w : World) (hv : SliceQ (Under w.heap.size) w v h.queues) (hsm : smallQ h.queues) (hfit : ∀ q ∈ h.queues, ∀ i ∈ q.items, i.fits) :
    Calls Try.prog 116 #[.agg #[v, .int .i64 h.next], .string name, .int .i64 now] w fun e w' => AnsHT (faceF h name (fun k q => takeF h k q now)) (giveF h name now) w e w' ∧ Below w.heap.size w w' := by
  have HV : Hid (SliceQ (Under w.heap.size) w v h.queues) := hv
  have HX : Hid (smallQ h.queues ∧ ∀ q ∈ h.queues, ∀ i ∈ q.items, i.fits) := ⟨hsm, hfit⟩
  obtain ⟨va, vc, rfl⟩ := hv.shp
  clear hv hsm hfit
  obtain ⟨W0, hW0⟩ : ∃ W0, W0 = ((((w.alloc (.cells #[.slice va h.queues.length vc, .int .i64 h.next] 24)).alloc (.cells #[.int .i64 now] 3)).alloc (.cells #[.slice none 0 0, .int .i64 0] 24)).alloc (.cells #[.int .i64 0, .int .i64 0, .int .i64 0, .bool false, .int .i64 0, .slice none 0 0, .slice none 0 0] 78)).alloc (.cells #[.int .i64 0, .int .i64 0, .int .i64 0, .bool false, .int .i64 0, .slice none 0 0, .slice none 0 0] 78) := ⟨_, rfl⟩
  have hz0 : W0.heap.size = w.heap.size + 5 := by rw [hW0]; simp
  have HB0 : Hid (Below w.heap.size w W0) := by rw [hW0]; exact ((((below_alloc _ _).alloc (by simp) _).alloc (by simp; omega) _).alloc (by simp; omega) _).alloc (by simp; omega) _
  have k0 : Blk W0 w.heap.size [.slice va h.queues.length vc, .int .i64 h.next] := by rw [hW0]; exact ((((Blk.new _ _ _).alloc _).alloc _).alloc _).alloc _
  have k1 : Blk W0 (w.heap.size + 1) [.int .i64 now] := by
    rw [hW0]
    have := (((Blk.new (w.alloc (.cells #[.slice va h.queues.length vc, .int .i64 h.next] 24)) [.int .i64 now] 3).alloc (.cells #[.slice none 0 0, .int .i64 0] 24)).alloc (.cells #[.int .i64 0, .int .i64 0, .int .i64 0, .bool false, .int .i64 0, .slice none 0 0, .slice none 0 0] 78)).alloc (.cells #[.int .i64 0, .int .i64 0, .int .i64 0, .bool false, .int .i64 0, .slice none 0 0, .slice none 0 0] 78)
    simpa using this
  have k2 : Blk W0 (w.heap.size + 1 + 1) [.slice none 0 0, .int .i64 0] := by
    rw [hW0]
    have := ((Blk.new ((w.alloc (.cells #[.slice va h.queues.length vc, .int .i64 h.next] 24)).alloc (.cells #[.int .i64 now] 3)) [.slice none 0 0, .int .i64 0] 24).alloc (.cells #[.int .i64 0, .int .i64 0, .int .i64 0, .bool false, .int .i64 0, .slice none 0 0, .slice none 0 0] 78)).alloc (.cells #[.int .i64 0, .int .i64 0, .int .i64 0, .bool false, .int .i64 0, .slice none 0 0, .slice none 0 0] 78)
    simpa using this
  have k3 : Blk W0 (w.heap.size + 1 + 1 + 1) [.int .i64 0, .int .i64 0, .int .i64 0, .bool false, .int .i64 0, .slice none 0 0, .slice none 0 0] := by
    rw [hW0]
    have := (Blk.new (((w.alloc (.cells #[.slice va h.queues.length vc, .int .i64 h.next] 24)).alloc (.cells #[.int .i64 now] 3)).alloc (.cells #[.slice none 0 0, .int .i64 0] 24)) [.int .i64 0, .int .i64 0, .int .i64 0, .bool false, .int .i64 0, .slice none 0 0, .slice none 0 0] 78).alloc (.cells #[.int .i64 0, .int .i64 0, .int .i64 0, .bool false, .int .i64 0, .slice none 0 0, .slice none 0 0] 78)
    simpa using this
  have k4 : Blk W0 (w.heap.size + 1 + 1 + 1 + 1) [.int .i64 0, .int .i64 0, .int .i64 0, .bool false, .int .i64 0, .slice none 0 0, .slice none 0 0] := by
    rw [hW0]
    have := Blk.new ((((w.alloc (.cells #[.slice va h.queues.length vc, .int .i64 h.next] 24)).alloc (.cells #[.int .i64 now] 3)).alloc (.cells #[.slice none 0 0, .int .i64 0] 24)).alloc (.cells #[.int .i64 0, .int .i64 0, .int .i64 0, .bool false, .int .i64 0, .slice none 0 0, .slice none 0 0] 78)) [.int .i64 0, .int .i64 0, .int .i64 0, .bool false, .int .i64 0, .slice none 0 0, .slice none 0 0] 78
    simpa using this
  obtain ⟨a0, a1, a2, a3⟩ := k0.b2
  have HK : Hid (Blk W0 (w.heap.size + 1) [.int .i64 now] ∧ Blk W0 (w.heap.size + 1 + 1) [.slice none 0 0, .int .i64 0] ∧ Blk W0 (w.heap.size + 1 + 1 + 1) [.int .i64 0, .int .i64 0, .int .i64 0, .bool false, .int .i64 0, .slice none 0 0, .slice none 0 0] ∧ Blk W0 (w.heap.size + 1 + 1 + 1 + 1) [.int .i64 0, .int .i64 0, .int .i64 0, .bool false, .int .i64 0, .slice none 0 0, .slice none 0 0]) := ⟨k1, k2, k3, k4⟩
  clear k0 k1 k2 k3 k4
  obtain ⟨r, hr⟩ : ∃ r, r = faceF h name (fun k q => takeF h k q now) := ⟨_, rfl⟩
  obtain ⟨it, hit⟩ : ∃ it, it = giveF h name now := ⟨_, rfl⟩
  rw [← hr, ← hit]
  have HRI : Hid (r = faceF h name (fun k q => takeF h k q now) ∧ it = giveF h name now) := ⟨hr, hit⟩
  clear hr hit
  go_enter Try.func116, Try.ntmps116
  go_upto_region 2 with fail
  rw [← hW0]
  have HZ0 : Hid (W0.heap.size = w.heap.size + 5) := hz0
  clear hW0 hz0
  go_upto_region 3 with (go_at_call 131; refine (changed_take (w.heap.size + 1) (w.heap.size + 1 + 1 + 1 + 1) _ name h now hnow _ (HV.out.sub fun k hk => ⟨Nat.lt_of_lt_of_le hk HB0.out.size, HB0.out.block k hk⟩) HX.out.1 HX.out.2 HK.out.1 HK.out.2.2.2).mono ?_; rw [← HRI.out.1, ← HRI.out.2]; rintro e w1 ⟨⟨va1, vc1, ea1, ec1, rfl, hQ1, hE1⟩, ⟨B, hB, pa, pc, qa, qc, hG1, hN1⟩, hK1⟩; have H1 : Hid _ := And.intro hQ1 (And.intro hG1 (And.intro hN1 hK1)); have hz1 := hK1.size; clear hQ1 hE1 hG1 hN1 hK1)
  have hZ := HZ0.out
  obtain ⟨W2, hW2⟩ : ∃ W2, W2 = w1.alloc (.cells #[.slice va1 r.1.queues.length vc1, .int .i64 r.1.next] 24) := ⟨_, rfl⟩
  have hz2 : W2.heap.size = w1.heap.size + 1 := by rw [hW2]; simp
  have hx2 : ∀ b, b < w1.heap.size → W2.heap[b]? = w1.heap[b]? := fun b hb => by rw [hW2]; exact Below.heap_alloc _ _ _ hb
  have ho2 : W2.os = w1.os ∧ W2.tape = w1.tape ∧ W2.output = w1.output := by rw [hW2]; exact ⟨rfl, rfl, rfl⟩
  have j0 : Blk W2 w1.heap.size [.slice va1 r.1.queues.length vc1, .int .i64 r.1.next] := by rw [hW2]; exact Blk.new _ _ _
  have j1 : Blk W2 (w.heap.size + 1 + 1 + 1 + 1) (it.cells (.slice pa it.note.props.length pc, .slice qa it.note.body.length qc)) := H1.out.2.1.same (hx2 _ (by omega))
  have j2 : Blk W2 (w.heap.size + 1 + 1) [.slice none 0 0, .int .i64 0] := HK.out.2.1.same ((hx2 _ (by omega)).trans (H1.out.2.2.2.block _ ⟨by omega, by omega⟩))
  have j3 : Blk W2 (w.heap.size + 1 + 1 + 1) [.int .i64 0, .int .i64 0, .int .i64 0, .bool false, .int .i64 0, .slice none 0 0, .slice none 0 0] := HK.out.2.2.1.same ((hx2 _ (by omega)).trans (H1.out.2.2.2.block _ ⟨by omega, by omega⟩))
  rw [← hW2]
  obtain ⟨d0, d1, d2, d3⟩ := j0.b2
  obtain ⟨⟨i0, i1, i2, i3⟩, ⟨i4, i5, i6⟩, i7, i8⟩ := j1.b7
  obtain ⟨e0, e1, e2, e3⟩ := j2.b2
  obtain ⟨⟨l0, l1, l2, l3⟩, ⟨l4, l5, l6⟩, l7, l8⟩ := j3.b7
  have HJ : Hid (Blk W2 (w.heap.size + 1 + 1) [.slice none 0 0, .int .i64 0] ∧ Blk W2 (w.heap.size + 1 + 1 + 1) [.int .i64 0, .int .i64 0, .int .i64 0, .bool false, .int .i64 0, .slice none 0 0, .slice none 0 0]) := ⟨j2, j3⟩
  have HW2 : Hid ((∀ b, b < w1.heap.size → W2.heap[b]? = w1.heap[b]?) ∧ (W2.os = w1.os ∧ W2.tape = w1.tape ∧ W2.output = w1.output) ∧ W2.heap.size = w1.heap.size + 1) := ⟨hx2, ho2, hz2⟩
  clear hW2 hx2 ho2 hz2 j0 j1 j2 j3 a0 a1 a2
  have HPA := put27_a (x0 := .slice va1 r.1.queues.length vc1) (x1 := .int .i64 r.1.next) (c0 := .int .i64 it.id) (c1 := .int .i64 it.turn) (c2 := .int .i64 it.tries) (c3 := .bool it.out) (c4 := .int .i64 it.due) (c5 := .slice pa it.note.props.length pc) (c6 := .slice qa it.note.body.length qc) (by omega) HJ.out.1 HJ.out.2
  unfold set7 set2 at HPA
  have HPA' : Hid _ := HPA
  clear HPA
  have n1 : w1.heap.size ≠ w.heap.size + 1 + 1 := by omega
  have n2 : w1.heap.size ≠ w.heap.size + 1 + 1 + 1 := by omega
  go_cut [8] (fun er wx => er = .int .i64 r.2.2 ∧ Put27 W2 (w.heap.size + 1 + 1) (w.heap.size + 1 + 1 + 1) (.slice va1 r.1.queues.length vc1) (.int .i64 r.1.next) [.int .i64 it.id, .int .i64 it.turn, .int .i64 it.tries, .bool it.out, .int .i64 it.due, .slice pa it.note.props.length pc, .slice qa it.note.body.length qc] wx)
  case first =>
    go_region_law (fail)
    all_goals
      go_wp2_with fail
      go_meet
      exact ⟨rfl, HPA'.out⟩
  case rest =>
    obtain ⟨rfl, hP⟩ := hcut
    have HP : Hid _ := hP
    obtain ⟨p0, p1, p2, p3⟩ := hP.2.2.2.1.b2
    obtain ⟨⟨m0, m1, m2, m3⟩, ⟨m4, m5, m6⟩, m7, m8⟩ := hP.2.2.2.2.b7
    clear hP d0 d1 d2 i0 i1 i2 i3 i4 i5 i6 e0 e1 e2 l0 l1 l2 l3 l4 l5 l6 l7
    go_wp2_with fail
    obtain ⟨hs, hos, hx, -, -⟩ := HP.out
    obtain ⟨hx2, ho2, hz2⟩ := HW2.out
    obtain ⟨hQ1, -, hN1, hK1⟩ := H1.out
    have hB0 := HB0.out
    refine bodyPost_ret (v := .tuple #[.agg #[.slice va1 r.1.queues.length vc1, .int .i64 r.1.next], .agg #[.int .i64 it.id, .int .i64 it.turn, .int .i64 it.tries, .bool it.out, .int .i64 it.due, .slice pa it.note.props.length pc, .slice qa it.note.body.length qc], .int .i64 r.2.2]) (by simp [results, Try.results116, go_sem, p0, p1, m0, m1, m2, m3, m4, m5, m6]; done) rfl ⟨⟨va1, vc1, pa, pc, qa, qc, rfl, ?_, ?_⟩, ?_⟩
    · exact hQ1.sub fun b hb => ⟨⟨by have := hb.1; omega, by have := hb.2; omega⟩, (hx b (by have := hb.1; omega) (by have := hb.1; omega)).trans (hx2 b hb.2)⟩
    · exact hN1.sub fun b hb => ⟨⟨by have := hb.1; omega, by have := hb.2; omega⟩, (hx b (by have := hb.1; omega) (by have := hb.1; omega)).trans (hx2 b hb.2)⟩
    · exact ⟨hos.1.trans (ho2.1.trans (hK1.os.trans hB0.os)), hos.2.1.trans (ho2.2.1.trans (hK1.tape.trans hB0.tape)), hos.2.2.trans (ho2.2.2.trans (hK1.output.trans hB0.output)), by omega, fun b hb => (hx b (by omega) (by omega)).trans ((hx2 b (by omega)).trans ((hK1.block b ⟨by omega, by omega⟩).trans (hB0.block b hb)))⟩
end Go.Proofs.Ytkddkpdfeeikhaa

/-
  The desk: what an ask may change; store.Own, sayOf, and write.
-/
namespace Go.Proofs.Ytkddkpdfeeikhaa
open Go.RowKit
set_option linter.unusedVariables false
set_option linter.unusedSimpArgs false

attribute [local go_sem ↓] Go.wp_at_zero Go.wp_at_succ


set_option maxRecDepth 100000 in
set_option maxHeartbeats 1600000 in
theorem storeOwn_any (u : Value) (sure : Int) (l : List UInt8) (w : World) (hu : SliceB (Under w.heap.size) w u l) (hl : l.length ≤ 140737488355328) :
    Calls Try.prog 69 #[.agg #[u, .int .i64 sure]] w fun e w' => ∃ ao cap, e = .returned (.agg #[.slice ao l.length cap, .int .i64 sure]) ∧ SliceB (Made w.heap.size w'.heap.size) w' (.slice ao l.length cap) l ∧ Below w.heap.size w w' := by
  have HU : Hid (∀ W, Below w.heap.size w W → SR.SliceB W.heap.size W u l) := fun W h => bytes_sr (SliceV.sub hu fun b hb => ⟨Nat.lt_of_lt_of_le hb h.size, h.block b hb⟩)
  obtain ⟨ua, uc, rfl, -⟩ := SliceV.shape hu
  obtain ⟨n, hn⟩ : ∃ n, n = l.length := ⟨_, rfl⟩
  have P83 : Hid (∀ W, Below w.heap.size w W → Calls Try.prog 83 #[.slice ua n uc] W fun e w' => ∃ ao cap, e = .returned (.slice ao n cap) ∧ w'.ownsRow W.heap.size 5 1 (.slice ao n cap) n (u8s l) ∧ Below W.heap.size W w') := by
    show ∀ W, Below w.heap.size w W → _
    intro W h
    rw [hn]
    exact SR.copied_any _ _ l W (HU.out W h) hl
  rw [← hn]
  have HN : Hid (n = l.length) := hn
  clear hu hl hn HU
  have two : Hid (∀ o1 o2 : Obj, Below w.heap.size w ((w.alloc o1).alloc o2).drew) := fun o1 o2 => ((below_alloc _ _).alloc (by simp) _).drew
  go_enter Try.func69, Try.ntmps69
  go_wp2
  go_region_with (go_at_call 83; refine (P83.out _ (two.out _ _)).mono ?_; rintro e w1 ⟨ao, cap, rfl, hown1, hb1⟩; obtain ⟨k1, k2⟩ := SR.bcell hb1; have hz1 := hb1.size; simp at hz1)
  all_goals go_wp2
  all_goals
    refine bodyPost_ret (v := .agg #[.slice ao n cap, .int .i64 sure]) (by simp [results, Try.results69, go_sem, *]; done) rfl ⟨_, _, rfl, ?_, ?_⟩
    · have h2 := ownsRow_setCell_below (ownsRow_setCell_below hown1 (a := ⟨w.heap.size + 1, 0, none⟩) (by simp) (.slice ao n cap)) (a := ⟨w.heap.size + 1, 1, none⟩) (by simp) (.int .i64 sure)
      have h3 := own_made (lo := w.heap.size) h2 (by show w.heap.size ≤ _; simp; omega)
      show SliceV _ _ _ l.length _
      rw [← HN.out]
      exact h3
    · exact (((two.out _ _).trans (hb1.mono (by simp; omega))).setCell (by simp) _).setCell (by simp) _

/-- What is said of an error, or of none. -/
def sayE (err : Int) : Int × Int := if err = 0 then (1, 0) else (4, err)

set_option maxHeartbeats 1000000 in
theorem sayOf_any (err : Int) (w : World) :
    Calls Try.prog 98 #[.int .i64 err] w fun e w' => e = .returned (.agg #[.int .i64 (sayE err).1, .int .i64 0, .int .i64 0, .int .i64 (sayE err).2, .slice none 0 0, .slice none 0 0]) ∧ Below w.heap.size w w' := by
  have h7 : Hid (∀ o : Obj, Below w.heap.size w (w.alloc o)) := fun o => below_alloc _ _
  by_cases h : err = 0
  · subst h
    go_enter Try.func98, Try.ntmps98
    go_wp2
    refine bodyPost_ret (v := .agg #[.int .i64 1, .int .i64 0, .int .i64 0, .int .i64 0, .slice none 0 0, .slice none 0 0]) (by simp [results, Try.results98, go_sem, *]; done) rfl ⟨by simp [sayE], ?_⟩
    exact h7.out _
  · go_enter Try.func98, Try.ntmps98
    go_wp2
    refine bodyPost_ret (v := .agg #[.int .i64 4, .int .i64 0, .int .i64 0, .int .i64 err, .slice none 0 0, .slice none 0 0]) (by simp [results, Try.results98, go_sem, *]; done) rfl ⟨by simp [sayE, h], ?_⟩
    exact h7.out _
end Go.Proofs.Ytkddkpdfeeikhaa

/-
  The desk in its box, and write: both are changed, or neither.
-/
namespace Go.Proofs.Ytkddkpdfeeikhaa
open Go.RowKit
set_option linter.unusedVariables false
set_option linter.unusedSimpArgs false

attribute [local go_sem ↓] Go.wp_at_zero Go.wp_at_succ

/-- A hall, a log, and a session. -/
structure DK where
  h : HD
  l : List UInt8
  sure : Int
  ts : List TD
  nx : Int

/-- Blocks of a desk's hall and log: none of its tags' row, nor its own. -/
def Off (N : Nat → Prop) (D : Nat) (tv : Value) (hi : Nat) : Nat → Prop := fun b => b < hi ∧ b ≠ D ∧ tv.ownBlock ≠ some b ∧ ¬ N b

/-- The desk in its box. -/
structure DeskIn (N : Nat → Prop) (D lo : Nat) (d : DK) (hv lv tv : Value) (W : World) : Prop where
  box : Blk W D [hv, .int .i64 d.h.next, lv, .int .i64 d.sure, tv, .int .i64 d.nx]
  q : SliceQ (Off N D tv W.heap.size) W hv d.h.queues
  l : SliceB (Off N D tv W.heap.size) W lv d.l
  t : W.ownsRow lo 50 4 tv d.ts.length (cellsT d.ts)
  tD : tv.ownBlock ≠ some D
  lo : lo ≤ D
  nlt : ∀ b, N b → b < W.heap.size
  nD : ¬ N D
  nT : ∀ b, tv.ownBlock = some b → ¬ N b

theorem DeskIn.on {N : Nat → Prop} {D lo : Nat} {d : DK} {hv lv tv : Value} {W W' : World} (H : DeskIn N D lo d hv lv tv W) (hb : Below W.heap.size W W') : DeskIn N D lo d hv lv tv W' :=
  ⟨H.box.below hb H.box.lt, H.q.sub fun b h => ⟨⟨Nat.lt_of_lt_of_le h.1 hb.size, h.2⟩, hb.block b h.1⟩, SliceV.sub H.l fun b h => ⟨⟨Nat.lt_of_lt_of_le h.1 hb.size, h.2⟩, hb.block b h.1⟩, own_same H.t (fun b h => hb.block b (H.t.lt b h).2), H.tD, H.lo, fun b h => Nat.lt_of_lt_of_le (H.nlt b h) hb.size, H.nD, H.nT⟩
theorem DeskIn.qU {N : Nat → Prop} {D lo : Nat} {d : DK} {hv lv tv : Value} {W : World} (H : DeskIn N D lo d hv lv tv W) : SliceQ (Under W.heap.size) W hv d.h.queues := H.q.sub fun b h => ⟨h.1, rfl⟩
theorem DeskIn.lU {N : Nat → Prop} {D lo : Nat} {d : DK} {hv lv tv : Value} {W : World} (H : DeskIn N D lo d hv lv tv W) : SliceB (Under W.heap.size) W lv d.l := SliceV.sub H.l fun b h => ⟨h.1, rfl⟩
theorem DeskIn.tU {N : Nat → Prop} {D lo : Nat} {d : DK} {hv lv tv : Value} {W : World} (H : DeskIn N D lo d hv lv tv W) : SliceT (Under W.heap.size) W tv d.ts := SliceV.sub (own_slice H.t) fun b h => ⟨(H.t.lt b h).2, rfl⟩

/-- Another hall and log are laid in. -/
theorem DeskIn.put {N : Nat → Prop} {D lo : Nat} {d : DK} {hv lv tv hv' lv' : Value} {W W' : World} (H : DeskIn N D lo d hv lv tv W) (h' : HD) (l' : List UInt8) (s' : Int) (hb : Below W.heap.size W W') (hq : SliceQ (Made W.heap.size W'.heap.size) W' hv' h'.queues) (hl : SliceB (Made W.heap.size W'.heap.size) W' lv' l') :
    DeskIn N D lo ⟨h', l', s', d.ts, d.nx⟩ hv' lv' tv ((((W'.setCell ⟨D, 0, none⟩ hv').setCell ⟨D, 1, none⟩ (.int .i64 h'.next)).setCell ⟨D, 2, none⟩ lv').setCell ⟨D, 3, none⟩ (.int .i64 s')) := by
  have H' := H.on hb
  have hD := H.box.lt
  obtain ⟨W2, hW2⟩ : ∃ W2, W2 = (((W'.setCell ⟨D, 0, none⟩ hv').setCell ⟨D, 1, none⟩ (.int .i64 h'.next)).setCell ⟨D, 2, none⟩ lv').setCell ⟨D, 3, none⟩ (.int .i64 s') := ⟨_, rfl⟩
  have hz : W2.heap.size = W'.heap.size := by rw [hW2]; simp
  have far : ∀ b, b ≠ D → W2.heap[b]? = W'.heap[b]? := fun b hb => by
    rw [hW2, Below.heap_setCell _ _ _ _ hb, Below.heap_setCell _ _ _ _ hb, Below.heap_setCell _ _ _ _ hb, Below.heap_setCell _ _ _ _ hb]
  have off : ∀ b, Made W.heap.size W'.heap.size b → Off N D tv W2.heap.size b ∧ W2.heap[b]? = W'.heap[b]? := fun b hb' => by
    have hne : b ≠ D := by have := hb'.1; omega
    exact ⟨⟨by rw [hz]; exact hb'.2, hne, fun e => by have := (H.t.lt b e).2; have := hb'.1; omega, fun e => by have := H.nlt b e; have := hb'.1; omega⟩, far b hne⟩
  rw [← hW2]
  refine ⟨?_, hq.sub off, SliceV.sub hl off, own_same H'.t (fun b h => far b (fun e => H.tD (by rw [← e]; exact h))), H.tD, H.lo, fun b h => by rw [hz]; exact H'.nlt b h, H.nD, H.nT⟩
  rw [hW2]
  exact (((H'.box.set 0 _).set 1 _).set 2 _).set 3 _

theorem DeskIn.drew {N : Nat → Prop} {D lo : Nat} {d : DK} {hv lv tv : Value} {W : World} (H : DeskIn N D lo d hv lv tv W) : DeskIn N D lo d hv lv tv W.drew :=
  ⟨H.box, H.q.sub fun b h => ⟨h, rfl⟩, SliceV.sub H.l fun b h => ⟨h, rfl⟩, own_same H.t (fun b h => rfl), H.tD, H.lo, H.nlt, H.nD, H.nT⟩

/-- Another number is laid in. -/
theorem DeskIn.num {N : Nat → Prop} {D lo : Nat} {d : DK} {hv lv tv : Value} {W : World} (H : DeskIn N D lo d hv lv tv W) (nx : Int) : DeskIn N D lo ⟨d.h, d.l, d.sure, d.ts, nx⟩ hv lv tv (W.setCell ⟨D, 5, none⟩ (.int .i64 nx)) := by
  have far : ∀ b, b ≠ D → (W.setCell ⟨D, 5, none⟩ (.int .i64 nx)).heap[b]? = W.heap[b]? := fun b hb => Below.heap_setCell _ _ _ _ hb
  exact ⟨H.box.set 5 _, H.q.sub fun b h => ⟨by simpa [Off] using h, far b h.2.1⟩, SliceV.sub H.l fun b h => ⟨by simpa [Off] using h, far b h.2.1⟩, own_same H.t (fun b h => far b (fun e => H.tD (by have e' : b = D := e; rw [← e']; exact h))), H.tD, H.lo, fun b h => by simpa using H.nlt b h, H.nD, H.nT⟩

/-- Other tags are laid in: their row is the old one's, or new. -/
theorem DeskIn.to {N : Nat → Prop} {D lo : Nat} {d : DK} {hv lv tv tv' : Value} {w W : World} (H : DeskIn N D lo d hv lv tv w) (ts : List TD) (nx : Int) (hz : w.heap.size ≤ W.heap.size) (keep : ∀ b, b < w.heap.size → b ≠ D → tv.ownBlock ≠ some b → ¬ N b → W.heap[b]? = w.heap[b]?)
    (box : Blk W D [hv, .int .i64 d.h.next, lv, .int .i64 d.sure, tv', .int .i64 nx]) (ho : W.ownsRow lo 50 4 tv' ts.length (cellsT ts)) (hm : ∀ k, tv'.ownBlock = some k → tv.ownBlock = some k ∨ w.heap.size ≤ k) :
    DeskIn N D lo ⟨d.h, d.l, d.sure, ts, nx⟩ hv lv tv' W ∧ ∀ b, Off N D tv w.heap.size b → Off N D tv' W.heap.size b ∧ W.heap[b]? = w.heap[b]? := by
  have hne : ∀ b, b < w.heap.size → tv.ownBlock ≠ some b → tv'.ownBlock ≠ some b := fun b h1 h2 e => by
    rcases hm b e with h | h
    · exact h2 h
    · omega
  have off : ∀ b, Off N D tv w.heap.size b → Off N D tv' W.heap.size b ∧ W.heap[b]? = w.heap[b]? := fun b h =>
    ⟨⟨Nat.lt_of_lt_of_le h.1 hz, h.2.1, hne b h.1 h.2.2.1, h.2.2.2⟩, keep b h.1 h.2.1 h.2.2.1 h.2.2.2⟩
  exact ⟨⟨box, H.q.sub off, SliceV.sub H.l off, ho, hne D H.box.lt H.tD, H.lo, fun b h => Nat.lt_of_lt_of_le (H.nlt b h) hz, H.nD, fun b h hn => by
    rcases hm b h with e | e
    · exact H.nT b e hn
    · have := H.nlt b hn; omega⟩, off⟩

/-- New boxes are none of the desk's. -/
theorem DeskIn.grow {N : Nat → Prop} {D lo : Nat} {d : DK} {hv lv tv : Value} {w W : World} (H : DeskIn N D lo d hv lv tv w) (hb : Below w.heap.size w W) : DeskIn (fun b => N b ∨ (w.heap.size ≤ b ∧ b < W.heap.size)) D lo d hv lv tv W := by
  have H' := H.on hb
  have off : ∀ b, Off N D tv w.heap.size b → Off (fun b => N b ∨ (w.heap.size ≤ b ∧ b < W.heap.size)) D tv W.heap.size b ∧ W.heap[b]? = w.heap[b]? := fun b h =>
    ⟨⟨Nat.lt_of_lt_of_le h.1 hb.size, h.2.1, h.2.2.1, fun e => e.elim h.2.2.2 (fun e => by have := h.1; omega)⟩, hb.block b h.1⟩
  exact ⟨H'.box, H.q.sub off, SliceV.sub H.l off, H'.t, H.tD, H.lo, fun b h => h.elim (H'.nlt b) (·.2), fun h => h.elim H.nD (fun h => by have := H.box.lt; omega), fun b h hn => hn.elim (H.nT b h) (fun e => by have := (H.t.lt b h).2; omega)⟩
theorem DeskIn.less {N N' : Nat → Prop} {D lo : Nat} {d : DK} {hv lv tv : Value} {W : World} (H : DeskIn N' D lo d hv lv tv W) (hN : ∀ b, N b → N' b) : DeskIn N D lo d hv lv tv W :=
  ⟨H.box, H.q.sub fun b h => ⟨⟨h.1, h.2.1, h.2.2.1, fun e => h.2.2.2 (hN b e)⟩, rfl⟩, SliceV.sub H.l fun b h => ⟨⟨h.1, h.2.1, h.2.2.1, fun e => h.2.2.2 (hN b e)⟩, rfl⟩, H.t, H.tD, H.lo, fun b h => H.nlt b (hN b h), fun h => H.nD (hN D h), fun b h e => H.nT b h (hN b e)⟩
/-- A store into one of the other boxes. -/
theorem DeskIn.other {N : Nat → Prop} {D lo : Nat} {d : DK} {hv lv tv : Value} {W W' : World} (H : DeskIn N D lo d hv lv tv W) (hz : W'.heap.size = W.heap.size) (far : ∀ b, ¬ N b → W'.heap[b]? = W.heap[b]?) : DeskIn N D lo d hv lv tv W' :=
  ⟨H.box.same (far D H.nD), H.q.sub fun b h => ⟨by rw [hz]; exact h, far b h.2.2.2⟩, SliceV.sub H.l fun b h => ⟨by rw [hz]; exact h, far b h.2.2.2⟩, own_same H.t (fun b h => far b (H.nT b h)), H.tD, H.lo, fun b h => by rw [hz]; exact H.nlt b h, H.nD, H.nT⟩
/-- Another hall is laid in. -/
theorem DeskIn.hall {N : Nat → Prop} {D lo : Nat} {d : DK} {hv lv tv hv' : Value} {W W' : World} (H : DeskIn N D lo d hv lv tv W) (h' : HD) (hb : Below W.heap.size W W') (hq : SliceQ (Made W.heap.size W'.heap.size) W' hv' h'.queues) :
    DeskIn N D lo ⟨h', d.l, d.sure, d.ts, d.nx⟩ hv' lv tv ((W'.setCell ⟨D, 0, none⟩ hv').setCell ⟨D, 1, none⟩ (.int .i64 h'.next)) ∧ ∀ b, Made W.heap.size W'.heap.size b → Off N D tv ((W'.setCell ⟨D, 0, none⟩ hv').setCell ⟨D, 1, none⟩ (.int .i64 h'.next)).heap.size b ∧ ((W'.setCell ⟨D, 0, none⟩ hv').setCell ⟨D, 1, none⟩ (.int .i64 h'.next)).heap[b]? = W'.heap[b]? := by
  have H' := H.on hb
  have hD := H.box.lt
  obtain ⟨W2, hW2⟩ : ∃ W2, W2 = (W'.setCell ⟨D, 0, none⟩ hv').setCell ⟨D, 1, none⟩ (.int .i64 h'.next) := ⟨_, rfl⟩
  have hz : W2.heap.size = W'.heap.size := by rw [hW2]; simp
  have far : ∀ b, b ≠ D → W2.heap[b]? = W'.heap[b]? := fun b hb => by
    rw [hW2, Below.heap_setCell _ _ _ _ hb, Below.heap_setCell _ _ _ _ hb]
  have off : ∀ b, Made W.heap.size W'.heap.size b → Off N D tv W2.heap.size b ∧ W2.heap[b]? = W'.heap[b]? := fun b hb' => by
    have hne : b ≠ D := by have := hb'.1; omega
    exact ⟨⟨by rw [hz]; exact hb'.2, hne, fun e => by have := (H.t.lt b e).2; have := hb'.1; omega, fun e => by have := H.nlt b e; have := hb'.1; omega⟩, far b hne⟩
  rw [← hW2]
  refine ⟨⟨?_, hq.sub off, SliceV.sub H'.l fun b h => ⟨by rw [hz]; exact h, far b h.2.1⟩, own_same H'.t (fun b h => far b (fun e => H.tD (by rw [← e]; exact h))), H.tD, H.lo, fun b h => by rw [hz]; exact H'.nlt b h, H.nD, H.nT⟩, off⟩
  rw [hW2]
  exact (H'.box.set 0 _).set 1 _

/-- A function that changes a hall, as f says. -/
structure Does (B : Nat) (w0 : World) (F : Nat) (caps : List Value) (h : HD) (r : HD × List ED × Int) : Prop where
  enter : ∀ args W, (callFunc F args).run Try.prog W = .ok (.enter F args) W
  run : ∀ v W, Below B w0 W → SliceQ (Under W.heap.size) W v h.queues → Calls Try.prog F (Value.agg #[v, .int .i64 h.next] :: caps).toArray W fun e w' => AnsH r W e w' ∧ Below W.heap.size W w'

/-- What a change that is written comes to. -/
def DK.write (d : DK) (r : HD × List ED × Int) : DK × Int :=
  if r.2.2 = 0 then (if SR.appE d.l (r.2.1.map entryB) = 0 then (⟨r.1, SR.appB d.l (r.2.1.map entryB), d.sure, d.ts, d.nx⟩, 0) else (d, SR.appE d.l (r.2.1.map entryB))) else (d, r.2.2)

theorem set4_far (W : World) (D : Nat) (x0 x1 x2 x3 : Value) (b : Nat) (h : b ≠ D) : ((((W.setCell ⟨D, 0, none⟩ x0).setCell ⟨D, 1, none⟩ x1).setCell ⟨D, 2, none⟩ x2).setCell ⟨D, 3, none⟩ x3).drew.heap[b]? = W.heap[b]? := by
  show ((((W.setCell ⟨D, 0, none⟩ x0).setCell ⟨D, 1, none⟩ x1).setCell ⟨D, 2, none⟩ x2).setCell ⟨D, 3, none⟩ x3).heap[b]? = _
  rw [Below.heap_setCell _ _ _ _ h, Below.heap_setCell _ _ _ _ h, Below.heap_setCell _ _ _ _ h, Below.heap_setCell _ _ _ _ h]

set_option maxRecDepth 100000 in
set_option maxHeartbeats 3200000 in
theorem sswrite_any (N : Nat → Prop) (D lo F : Nat) (caps : List Value) (d : DK) (hv lv tv : Value) (r : HD × List ED × Int) (w : World) (H : DeskIn N D lo d hv lv tv w) (hF : Does w.heap.size w F caps d.h r) (hes : r.2.2 = 0 → (∀ e ∈ r.2.1, e.right) ∧ r.2.1.length ≤ 4194304) (hl : d.l.length ≤ 140737488355328) :
    Calls Try.prog 92 #[.pointer (some ⟨D, 0, none⟩), .func (.func F) #[] caps.toArray] w fun e w' => e = .returned (.int .i64 (d.write r).2) ∧ (∃ hv' lv', DeskIn N D lo (d.write r).1 hv' lv' tv w') ∧ Below lo w w' ∧ ∀ b, b < w.heap.size → b ≠ D → w'.heap[b]? = w.heap[b]? := by
  have HD0 : Hid (DeskIn N D lo d hv lv tv w) := H
  have HF : Hid (Does w.heap.size w F caps d.h r) := hF
  have hE := hF.enter
  obtain ⟨a0, a1, a2, a3, a4, a5, a6, a7⟩ := H.box.b6
  obtain ⟨ha, hc, rfl⟩ := H.q.shp
  obtain ⟨la, lc, rfl, -⟩ := SliceV.shape H.l
  obtain ⟨ta, tc, rfl, -⟩ := own_shape H.t
  have hlo := Nat.le_trans H.lo (Nat.le_of_lt a7)
  clear H hF
  obtain ⟨h', es, er⟩ := r
  simp only at hes ⊢
  by_cases he : er = 0
  case neg =>
    have hw : d.write (h', es, er) = (d, er) := by simp [DK.write, he]
    rw [hw]
    simp only
    clear hw hes
    go_enter Try.func92, Try.ntmps92
    go_wp2_with (first
      | ((with_reducible show Calls Try.prog F _ _ _); refine (HF.out.run _ w (Below.refl _ _) HD0.out.qU).mono ?_; rintro e w1 ⟨⟨va, vc, ea, ec, rfl, hq1, he1⟩, hb1⟩)
      | fail)
    go_ret
    have b1 := hb1.alloc hb1.size (.cells #[.slice va h'.queues.length vc, .int .i64 h'.next] 24)
    exact ⟨rfl, ⟨_, _, HD0.out.on b1⟩, b1.mono hlo, fun b h _ => b1.block b h⟩
  subst he
  obtain ⟨hr, hel⟩ := hes rfl
  have HW : Hid (∀ W u ev, SliceB (Under W.heap.size) W u d.l → SliceE (Under W.heap.size) W ev es → Calls Try.prog 20 #[.agg #[u, .int .i64 d.sure], ev] W fun r w' => SR.LogIsF W w' r (SR.appB d.l (es.map entryB)) (if SR.appE d.l (es.map entryB) = 0 then d.sure else 0) (SR.appE d.l (es.map entryB))) :=
    fun W u ev hu he => write_anyF u ev d.sure d.l es W hu he hr hel hl
  obtain ⟨wl, hwl⟩ : ∃ wl, wl = SR.appB d.l (es.map entryB) := ⟨_, rfl⟩
  obtain ⟨we, hwe⟩ : ∃ we, we = SR.appE d.l (es.map entryB) := ⟨_, rfl⟩
  have hw : d.write (h', es, 0) = if we = 0 then (⟨h', wl, d.sure, d.ts, d.nx⟩, 0) else (d, we) := by simp [DK.write, hwl, hwe]
  rw [← hwl, ← hwe] at HW
  rw [hw]
  clear hw hwl hwe hr hel hes hl
  by_cases h0 : we = 0
  case neg =>
    rw [if_neg h0]
    rw [if_neg h0] at HW
    simp only
    go_enter Try.func92, Try.ntmps92
    go_wp2_with (first
      | ((with_reducible show Calls Try.prog F _ _ _); refine (HF.out.run _ w (Below.refl _ _) HD0.out.qU).mono ?_; rintro e w1 ⟨⟨va, vc, ea, ec, rfl, hq1, he1⟩, hb1⟩; have H1 : Hid (Below w.heap.size w w1 ∧ SliceE (Made w.heap.size w1.heap.size) w1 (.slice ea es.length ec) es) := ⟨hb1, he1⟩; obtain ⟨b0, b1, b2, b3, b4, b5, b6, b7⟩ := (HD0.out.on hb1).box.b6; clear hq1 he1 hb1 a0 a1 a2 a3 a4 a5 a6)
      | (go_at_call 20; refine (HW.out _ _ _ (HD0.out.on (H1.out.1.alloc H1.out.1.size _)).lU (H1.out.2.sub fun b hb => ⟨by have := hb.2; show b < _; simp; omega, Below.heap_alloc _ _ _ hb.2⟩)).mono ?_; rintro e w2 ⟨ao, cap, rfl, hs2, hb2, hf2⟩; have H2 : Hid (Below w.heap.size w w2) := (H1.out.1.alloc H1.out.1.size _).trans (hb2.mono (H1.out.1.alloc H1.out.1.size _).size); clear hs2 hb2 hf2)
      | fail)
    go_ret
    have b1 := H2.out.alloc H2.out.size (.cells #[.slice ao wl.length cap, .int .i64 0] 32)
    exact ⟨rfl, ⟨_, _, HD0.out.on b1⟩, b1.mono hlo, fun b h _ => b1.block b h⟩
  subst h0
  rw [if_pos rfl]
  rw [if_pos rfl] at HW
  simp only
  go_enter Try.func92, Try.ntmps92
  go_upto_region 7 with (first
    | ((with_reducible show Calls Try.prog F _ _ _); refine (HF.out.run _ w (Below.refl _ _) HD0.out.qU).mono ?_; rintro e w1 ⟨⟨va, vc, ea, ec, rfl, hq1, he1⟩, hb1⟩; have H1 : Hid (Below w.heap.size w w1 ∧ SliceE (Made w.heap.size w1.heap.size) w1 (.slice ea es.length ec) es ∧ SliceQ (Made w.heap.size w1.heap.size) w1 (.slice va h'.queues.length vc) h'.queues) := ⟨hb1, he1, hq1⟩; obtain ⟨b0, b1, b2, b3, b4, b5, b6, b7⟩ := (HD0.out.on hb1).box.b6; clear hq1 he1 hb1 a0 a1 a2 a3 a4 a5 a6)
    | (go_at_call 20; refine (HW.out _ _ _ (HD0.out.on (H1.out.1.alloc H1.out.1.size _)).lU (H1.out.2.1.sub fun b hb => ⟨by have := hb.2; show b < _; simp; omega, Below.heap_alloc _ _ _ hb.2⟩)).mono ?_; rintro e w2 ⟨ao, cap, rfl, hs2, hb2, hf2⟩; have H2 : Hid (Below (w1.alloc (.cells #[.slice va h'.queues.length vc, .int .i64 h'.next] 24)).heap.size (w1.alloc (.cells #[.slice va h'.queues.length vc, .int .i64 h'.next] 24)) w2 ∧ SR.SliceB w2.heap.size w2 (.slice ao wl.length cap) wl ∧ ∀ a : Addr, ao = some a → (w1.alloc (.cells #[.slice va h'.queues.length vc, .int .i64 h'.next] 24)).heap.size ≤ a.block) := ⟨hb2, hs2, hf2⟩; clear hs2 hb2 hf2)
    | fail)
  obtain ⟨V, hV⟩ : ∃ V, V = w2.alloc (.cells #[.slice ao wl.length cap, .int .i64 d.sure] 32) := ⟨_, rfl⟩
  have HV : Hid (Below w.heap.size w V ∧ Blk V w1.heap.size [.slice va h'.queues.length vc, .int .i64 h'.next] ∧ Blk V w2.heap.size [.slice ao wl.length cap, .int .i64 d.sure] ∧ SliceQ (Made w.heap.size V.heap.size) V (.slice va h'.queues.length vc) h'.queues ∧ SliceB (Made w.heap.size V.heap.size) V (.slice ao wl.length cap) wl) := by
    obtain ⟨c1, c2, c3⟩ := H1.out
    obtain ⟨g1, g2, g3⟩ := H2.out
    have b1 : Below w1.heap.size w1 w2 := (below_alloc _ _).trans (g1.mono (below_alloc _ _).size)
    have b2 : Below w2.heap.size w2 V := by rw [hV]; exact below_alloc _ _
    have b3 : Below w1.heap.size w1 V := b1.trans (b2.mono b1.size)
    have k1 : Blk (w1.alloc (.cells #[.slice va h'.queues.length vc, .int .i64 h'.next] 24)) w1.heap.size [.slice va h'.queues.length vc, .int .i64 h'.next] := Blk.new _ _ _
    refine ⟨c1.trans (b3.mono c1.size), (k1.below g1 k1.lt).below b2 (k1.below g1 k1.lt).lt, by rw [hV]; exact Blk.new _ _ _, c3.sub fun b hb => ⟨⟨hb.1, Nat.lt_of_lt_of_le hb.2 b3.size⟩, b3.block b hb.2⟩, ?_⟩
    have hsb := sr_bytes g2
    obtain ⟨a', cap', e', k1, k2, k3, k4⟩ := hsb
    refine ⟨a', cap', e', k1, k2, k3, fun i hi => ?_⟩
    obtain ⟨b, off, e3, hlt, hx⟩ := k4 i hi
    simp only [Value.slice.injEq] at e'
    have hge := g3 ⟨b, off, none⟩ (by rw [e'.1, e3])
    simp only [World.size_alloc] at hge
    exact ⟨b, off, e3, ⟨by have := c1.size; omega, Nat.lt_of_lt_of_le hlt b2.size⟩, (World.cell?_of_block (b2.block b hlt)).trans hx⟩
  have hsz : Hid (w.heap.size ≤ w1.heap.size ∧ w.heap.size ≤ w2.heap.size) := by
    have h1 := H1.out.1.size
    have h2 := H2.out.1.size
    simp only [World.size_alloc] at h2
    exact ⟨h1, by omega⟩
  rw [← hV]
  clear hV H1 H2 b0 b1 b2 b3 b4 b5 b6 b7 HW HF hE
  obtain ⟨e0, e1, e2, e3⟩ := HV.out.2.1.b2
  obtain ⟨f0, f1, f2, f3⟩ := HV.out.2.2.1.b2
  obtain ⟨b0, b1, b2, b3, b4, b5, b6, b7⟩ := (HD0.out.on HV.out.1).box.b6
  have hge : w.heap.size ≤ w1.heap.size ∧ w.heap.size ≤ w2.heap.size := hsz.out
  have hne1 : w1.heap.size ≠ D := by omega
  have hne2 : w2.heap.size ≠ D := by omega
  go_region_law (fail)
  all_goals
    go_wp2_with fail
    go_ret
    exact ⟨rfl, ⟨_, _, (HD0.out.put h' wl d.sure HV.out.1 HV.out.2.2.2.1 HV.out.2.2.2.2).drew⟩, (((((HV.out.1.mono hlo).setCell HD0.out.lo _).setCell HD0.out.lo _).setCell HD0.out.lo _).setCell HD0.out.lo _).drew, fun b h hd => (set4_far V D _ _ _ _ b hd).trans (HV.out.1.block b h)⟩
end Go.Proofs.Ytkddkpdfeeikhaa
