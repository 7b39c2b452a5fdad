/-
  hall.Take.
-/
import Derived.Test.YtpehkoompadpaaaFaceT
import Derived.Test.YtpehkoompadpaaaHTellsProofM19
namespace Go.Proofs.Ytpehkoompadpaaa
open Go.RowKit
set_option linter.unusedVariables false
set_option linter.unusedSimpArgs false

attribute [local go_sem ↓] Go.wp_at_zero Go.wp_at_succ

def zI0 : IT := ⟨0, 0, 0, false, 0, nN⟩
/-- The item that Take gives. -/
def giveF (h : HD) (name : ByteArray) (now : Int) : IT :=
  match h.queues.findIdx? (nameB name) with
  | none => zI0
  | some k => match h.queues[k]? with
    | none => zI0
    | some q => givenI q now
theorem giveF_none {h : HD} {name : ByteArray} {now : Int} (hd : idxQ name h.queues = -1) : giveF h name now = zI0 := by
  unfold giveF
  cases hf : h.queues.findIdx? (nameB name) with
  | none => rfl
  | some k => simp [idxQ, hf] at hd
theorem giveF_some {h : HD} {name : ByteArray} {now : Int} {k : Nat} (hd : idxQ name h.queues = (k : Int)) (hk : k < h.queues.length) : giveF h name now = givenI h.queues[k] now := by
  unfold giveF
  cases hf : h.queues.findIdx? (nameB name) with
  | none => simp [idxQ, hf] at hd
  | some j =>
    simp only [idxQ, hf] at hd
    have : j = k := by omega
    subst this
    simp [List.getElem?_eq_getElem hk]

theorem changed_take (nb gb : Nat) (v : Value) (name : ByteArray) (h : HD) (now : Int) (hnow : 0 ≤ now ∧ now ≤ 1000000000) (w : World) (hv : SliceQ (Under w.heap.size) w v h.queues) (hsm : smallQ h.queues) (hfit : ∀ q ∈ h.queues, ∀ i ∈ q.items, i.fits) (hn : Blk w nb [.int .i64 now]) (hg : Blk w gb (IT.cells ⟨0, 0, 0, false, 0, nN⟩ (.slice none 0 0, .slice none 0 0))) :
    Calls Try.prog 59 #[.agg #[v, .int .i64 h.next], .string name, .func (.func 79) #[] #[.pointer (some ⟨nb, 0, none⟩), .pointer (some ⟨gb, 0, none⟩)]] w fun e w' => AnsH (faceF h name (fun k q => takeF h k q now)) w e w' ∧ (∃ B, w.heap.size ≤ B ∧ GivenAt w gb (giveF h name now) B w') ∧ Keep (fun b => b < w.heap.size ∧ ¬ b = gb) w w' := by
  rcases idxQ_cases name h.queues with ⟨hd, -⟩ | ⟨k, hk, hd, hnm, -⟩
  · rw [faceF_none hd, giveF_none hd]
    refine (changed_none _ v name h w hv hd).mono ?_
    rintro e w' ⟨h1, h2⟩
    exact ⟨h1, ⟨w.heap.size, Nat.le_refl _, none, 0, none, 0, hg.below h2 hg.lt, NoteIs.nil _ _⟩, Keep.of h2 fun b hb => hb.1⟩
  · rw [faceF_some hd hk, giveF_some hd hk]
    exact changed_ok (fun b => b = gb) 79 [.pointer (some ⟨nb, 0, none⟩), .pointer (some ⟨gb, 0, none⟩)] v name h k hk _ _ w hv hsm hd (take_alters w nb gb now hnow hn hg h k hk hsm hfit) (fun b hb => hb ▸ hg.lt)

/-- A hall, an item and an error are answered, in new memory. -/
def AnsHT (r : HD × List ED × Int) (it : IT) (w : World) (e : Ending) (w' : World) : Prop :=
  ∃ va vc pa pc qa qc, e = .returned (.tuple #[.agg #[.slice va r.1.queues.length vc, .int .i64 r.1.next], .agg #[.int .i64 it.id, .int .i64 it.turn, .int .i64 it.tries, .bool it.out, .int .i64 it.due, .slice pa it.note.props.length pc, .slice qa it.note.body.length qc], .int .i64 r.2.2]) ∧ SliceQ (Made w.heap.size w'.heap.size) w' (.slice va r.1.queues.length vc) r.1.queues ∧ NoteIs (Made w.heap.size w'.heap.size) w' (.slice pa it.note.props.length pc, .slice qa it.note.body.length qc) it.note

def set2 (w : World) (b : Nat) (x0 x1 : Value) : World := (w.setCell ⟨b, 0, none⟩ x0).setCell ⟨b, 1, none⟩ x1
theorem set2_far {w : World} {b c : Nat} {x0 x1 : Value} (h : c ≠ b) : (set2 w b x0 x1).heap[c]? = w.heap[c]? := by
  unfold set2; rw [Below.heap_setCell _ _ _ _ h, Below.heap_setCell _ _ _ _ h]
theorem set2_size {w : World} {b : Nat} {x0 x1 : Value} : (set2 w b x0 x1).heap.size = w.heap.size := by simp [set2]
theorem set2_blk {w : World} {b : Nat} {y0 y1 x0 x1 : Value} (h : Blk w b [y0, y1]) : Blk (set2 w b x0 x1) b [x0, x1] := (h.set 0 _).set 1 _
theorem set2_os {w : World} {b : Nat} {x0 x1 : Value} : (set2 w b x0 x1).os = w.os ∧ (set2 w b x0 x1).tape = w.tape ∧ (set2 w b x0 x1).output = w.output := by
  unfold set2; exact ⟨by simp only [sc_os], by simp only [sc_tape], by simp only [sc_output]⟩

/-- Two boxes were stored into. -/
def Put27 (W : World) (b2 b7 : Nat) (x0 x1 : Value) (cs : List Value) (wx : World) : Prop :=
  wx.heap.size = W.heap.size ∧ (wx.os = W.os ∧ wx.tape = W.tape ∧ wx.output = W.output) ∧ (∀ b, b ≠ b2 → b ≠ b7 → wx.heap[b]? = W.heap[b]?) ∧ Blk wx b2 [x0, x1] ∧ Blk wx b7 cs

theorem put27_a {W : World} {b2 b7 : Nat} {y0 y1 z0 z1 z2 z3 z4 z5 z6 x0 x1 c0 c1 c2 c3 c4 c5 c6 : Value} (hne : b2 ≠ b7) (h2 : Blk W b2 [y0, y1]) (h7 : Blk W b7 [z0, z1, z2, z3, z4, z5, z6]) : Put27 W b2 b7 x0 x1 [c0, c1, c2, c3, c4, c5, c6] (set7 (set2 W b2 x0 x1) b7 c0 c1 c2 c3 c4 c5 c6).drew := by
  obtain ⟨V, hV⟩ : ∃ V, V = set2 W b2 x0 x1 := ⟨_, rfl⟩
  have g1 : V.heap.size = W.heap.size := by rw [hV]; exact set2_size
  have g2 : V.os = W.os ∧ V.tape = W.tape ∧ V.output = W.output := by rw [hV]; exact set2_os
  have g3 : ∀ b, b ≠ b2 → V.heap[b]? = W.heap[b]? := fun b hb => by rw [hV]; exact set2_far hb
  have g4 : Blk V b2 [x0, x1] := by rw [hV]; exact set2_blk h2
  rw [← hV]
  obtain ⟨U, hU⟩ : ∃ U, U = set7 V b7 c0 c1 c2 c3 c4 c5 c6 := ⟨_, rfl⟩
  have f1 : U.heap.size = V.heap.size := by rw [hU]; exact set7_size
  have f2 : U.os = V.os ∧ U.tape = V.tape ∧ U.output = V.output := by rw [hU]; exact set7_os
  have f3 : ∀ b, b ≠ b7 → U.heap[b]? = V.heap[b]? := fun b hb => by rw [hU]; exact set7_far hb
  have f4 : Blk U b7 [c0, c1, c2, c3, c4, c5, c6] := by rw [hU]; exact set7_blk (h7.same (g3 _ (Ne.symm hne)))
  rw [← hU]
  exact ⟨f1.trans g1, ⟨f2.1.trans g2.1, f2.2.1.trans g2.2.1, f2.2.2.trans g2.2.2⟩, fun b h1 h3 => (f3 b h3).trans (g3 b h1), g4.same (f3 _ hne), f4⟩
set_option maxRecDepth 100000 in
set_option maxHeartbeats 3200000 in
theorem hallTake_any (v : Value) (h : HD) (name : ByteArray) (now : Int) (hnow : 0 ≤ now ∧ now ≤ 1000000000) (w : World) (hv : SliceQ (Under w.heap.size) w v h.queues) (hsm : smallQ h.queues) (hfit : ∀ q ∈ h.queues, ∀ i ∈ q.items, i.fits) :
    Calls Try.prog 31 #[.agg #[v, .int .i64 h.next], .string name, .int .i64 now] w fun e w' => AnsHT (faceF h name (fun k q => takeF h k q now)) (giveF h name now) w e w' ∧ Below w.heap.size w w' := by
  have HV : Hid (SliceQ (Under w.heap.size) w v h.queues) := hv
  have HX : Hid (smallQ h.queues ∧ ∀ q ∈ h.queues, ∀ i ∈ q.items, i.fits) := ⟨hsm, hfit⟩
  obtain ⟨va, vc, rfl⟩ := hv.shp
  clear hv hsm hfit
  obtain ⟨W0, hW0⟩ : ∃ W0, W0 = ((((w.alloc (.cells #[.slice va h.queues.length vc, .int .i64 h.next] 24)).alloc (.cells #[.int .i64 now] 3)).alloc (.cells #[.slice none 0 0, .int .i64 0] 24)).alloc (.cells #[.int .i64 0, .int .i64 0, .int .i64 0, .bool false, .int .i64 0, .slice none 0 0, .slice none 0 0] 48)).alloc (.cells #[.int .i64 0, .int .i64 0, .int .i64 0, .bool false, .int .i64 0, .slice none 0 0, .slice none 0 0] 48) := ⟨_, rfl⟩
  have hz0 : W0.heap.size = w.heap.size + 5 := by rw [hW0]; simp
  have HB0 : Hid (Below w.heap.size w W0) := by rw [hW0]; exact ((((below_alloc _ _).alloc (by simp) _).alloc (by simp; omega) _).alloc (by simp; omega) _).alloc (by simp; omega) _
  have k0 : Blk W0 w.heap.size [.slice va h.queues.length vc, .int .i64 h.next] := by rw [hW0]; exact ((((Blk.new _ _ _).alloc _).alloc _).alloc _).alloc _
  have k1 : Blk W0 (w.heap.size + 1) [.int .i64 now] := by
    rw [hW0]
    have := (((Blk.new (w.alloc (.cells #[.slice va h.queues.length vc, .int .i64 h.next] 24)) [.int .i64 now] 3).alloc (.cells #[.slice none 0 0, .int .i64 0] 24)).alloc (.cells #[.int .i64 0, .int .i64 0, .int .i64 0, .bool false, .int .i64 0, .slice none 0 0, .slice none 0 0] 48)).alloc (.cells #[.int .i64 0, .int .i64 0, .int .i64 0, .bool false, .int .i64 0, .slice none 0 0, .slice none 0 0] 48)
    simpa using this
  have k2 : Blk W0 (w.heap.size + 1 + 1) [.slice none 0 0, .int .i64 0] := by
    rw [hW0]
    have := ((Blk.new ((w.alloc (.cells #[.slice va h.queues.length vc, .int .i64 h.next] 24)).alloc (.cells #[.int .i64 now] 3)) [.slice none 0 0, .int .i64 0] 24).alloc (.cells #[.int .i64 0, .int .i64 0, .int .i64 0, .bool false, .int .i64 0, .slice none 0 0, .slice none 0 0] 48)).alloc (.cells #[.int .i64 0, .int .i64 0, .int .i64 0, .bool false, .int .i64 0, .slice none 0 0, .slice none 0 0] 48)
    simpa using this
  have k3 : Blk W0 (w.heap.size + 1 + 1 + 1) [.int .i64 0, .int .i64 0, .int .i64 0, .bool false, .int .i64 0, .slice none 0 0, .slice none 0 0] := by
    rw [hW0]
    have := (Blk.new (((w.alloc (.cells #[.slice va h.queues.length vc, .int .i64 h.next] 24)).alloc (.cells #[.int .i64 now] 3)).alloc (.cells #[.slice none 0 0, .int .i64 0] 24)) [.int .i64 0, .int .i64 0, .int .i64 0, .bool false, .int .i64 0, .slice none 0 0, .slice none 0 0] 48).alloc (.cells #[.int .i64 0, .int .i64 0, .int .i64 0, .bool false, .int .i64 0, .slice none 0 0, .slice none 0 0] 48)
    simpa using this
  have k4 : Blk W0 (w.heap.size + 1 + 1 + 1 + 1) [.int .i64 0, .int .i64 0, .int .i64 0, .bool false, .int .i64 0, .slice none 0 0, .slice none 0 0] := by
    rw [hW0]
    have := Blk.new ((((w.alloc (.cells #[.slice va h.queues.length vc, .int .i64 h.next] 24)).alloc (.cells #[.int .i64 now] 3)).alloc (.cells #[.slice none 0 0, .int .i64 0] 24)).alloc (.cells #[.int .i64 0, .int .i64 0, .int .i64 0, .bool false, .int .i64 0, .slice none 0 0, .slice none 0 0] 48)) [.int .i64 0, .int .i64 0, .int .i64 0, .bool false, .int .i64 0, .slice none 0 0, .slice none 0 0] 48
    simpa using this
  obtain ⟨a0, a1, a2, a3⟩ := k0.b2
  have HK : Hid (Blk W0 (w.heap.size + 1) [.int .i64 now] ∧ Blk W0 (w.heap.size + 1 + 1) [.slice none 0 0, .int .i64 0] ∧ Blk W0 (w.heap.size + 1 + 1 + 1) [.int .i64 0, .int .i64 0, .int .i64 0, .bool false, .int .i64 0, .slice none 0 0, .slice none 0 0] ∧ Blk W0 (w.heap.size + 1 + 1 + 1 + 1) [.int .i64 0, .int .i64 0, .int .i64 0, .bool false, .int .i64 0, .slice none 0 0, .slice none 0 0]) := ⟨k1, k2, k3, k4⟩
  clear k0 k1 k2 k3 k4
  obtain ⟨r, hr⟩ : ∃ r, r = faceF h name (fun k q => takeF h k q now) := ⟨_, rfl⟩
  obtain ⟨it, hit⟩ : ∃ it, it = giveF h name now := ⟨_, rfl⟩
  rw [← hr, ← hit]
  have HRI : Hid (r = faceF h name (fun k q => takeF h k q now) ∧ it = giveF h name now) := ⟨hr, hit⟩
  clear hr hit
  go_enter Try.func31, Try.ntmps31
  go_upto_region 2 with fail
  rw [← hW0]
  have HZ0 : Hid (W0.heap.size = w.heap.size + 5) := hz0
  clear hW0 hz0
  go_upto_region 3 with (go_at_call 59; refine (changed_take (w.heap.size + 1) (w.heap.size + 1 + 1 + 1 + 1) _ name h now hnow _ (HV.out.sub fun k hk => ⟨Nat.lt_of_lt_of_le hk HB0.out.size, HB0.out.block k hk⟩) HX.out.1 HX.out.2 HK.out.1 HK.out.2.2.2).mono ?_; rw [← HRI.out.1, ← HRI.out.2]; rintro e w1 ⟨⟨va1, vc1, ea1, ec1, rfl, hQ1, hE1⟩, ⟨B, hB, pa, pc, qa, qc, hG1, hN1⟩, hK1⟩; have H1 : Hid _ := And.intro hQ1 (And.intro hG1 (And.intro hN1 hK1)); have hz1 := hK1.size; clear hQ1 hE1 hG1 hN1 hK1)
  have hZ := HZ0.out
  obtain ⟨W2, hW2⟩ : ∃ W2, W2 = w1.alloc (.cells #[.slice va1 r.1.queues.length vc1, .int .i64 r.1.next] 24) := ⟨_, rfl⟩
  have hz2 : W2.heap.size = w1.heap.size + 1 := by rw [hW2]; simp
  have hx2 : ∀ b, b < w1.heap.size → W2.heap[b]? = w1.heap[b]? := fun b hb => by rw [hW2]; exact Below.heap_alloc _ _ _ hb
  have ho2 : W2.os = w1.os ∧ W2.tape = w1.tape ∧ W2.output = w1.output := by rw [hW2]; exact ⟨rfl, rfl, rfl⟩
  have j0 : Blk W2 w1.heap.size [.slice va1 r.1.queues.length vc1, .int .i64 r.1.next] := by rw [hW2]; exact Blk.new _ _ _
  have j1 : Blk W2 (w.heap.size + 1 + 1 + 1 + 1) (it.cells (.slice pa it.note.props.length pc, .slice qa it.note.body.length qc)) := H1.out.2.1.same (hx2 _ (by omega))
  have j2 : Blk W2 (w.heap.size + 1 + 1) [.slice none 0 0, .int .i64 0] := HK.out.2.1.same ((hx2 _ (by omega)).trans (H1.out.2.2.2.block _ ⟨by omega, by omega⟩))
  have j3 : Blk W2 (w.heap.size + 1 + 1 + 1) [.int .i64 0, .int .i64 0, .int .i64 0, .bool false, .int .i64 0, .slice none 0 0, .slice none 0 0] := HK.out.2.2.1.same ((hx2 _ (by omega)).trans (H1.out.2.2.2.block _ ⟨by omega, by omega⟩))
  rw [← hW2]
  obtain ⟨d0, d1, d2, d3⟩ := j0.b2
  obtain ⟨⟨i0, i1, i2, i3⟩, ⟨i4, i5, i6⟩, i7, i8⟩ := j1.b7
  obtain ⟨e0, e1, e2, e3⟩ := j2.b2
  obtain ⟨⟨l0, l1, l2, l3⟩, ⟨l4, l5, l6⟩, l7, l8⟩ := j3.b7
  have HJ : Hid (Blk W2 (w.heap.size + 1 + 1) [.slice none 0 0, .int .i64 0] ∧ Blk W2 (w.heap.size + 1 + 1 + 1) [.int .i64 0, .int .i64 0, .int .i64 0, .bool false, .int .i64 0, .slice none 0 0, .slice none 0 0]) := ⟨j2, j3⟩
  have HW2 : Hid ((∀ b, b < w1.heap.size → W2.heap[b]? = w1.heap[b]?) ∧ (W2.os = w1.os ∧ W2.tape = w1.tape ∧ W2.output = w1.output) ∧ W2.heap.size = w1.heap.size + 1) := ⟨hx2, ho2, hz2⟩
  clear hW2 hx2 ho2 hz2 j0 j1 j2 j3 a0 a1 a2
  have HPA := put27_a (x0 := .slice va1 r.1.queues.length vc1) (x1 := .int .i64 r.1.next) (c0 := .int .i64 it.id) (c1 := .int .i64 it.turn) (c2 := .int .i64 it.tries) (c3 := .bool it.out) (c4 := .int .i64 it.due) (c5 := .slice pa it.note.props.length pc) (c6 := .slice qa it.note.body.length qc) (by omega) HJ.out.1 HJ.out.2
  unfold set7 set2 at HPA
  have HPA' : Hid _ := HPA
  clear HPA
  have n1 : w1.heap.size ≠ w.heap.size + 1 + 1 := by omega
  have n2 : w1.heap.size ≠ w.heap.size + 1 + 1 + 1 := by omega
  go_cut [8] (fun er wx => er = .int .i64 r.2.2 ∧ Put27 W2 (w.heap.size + 1 + 1) (w.heap.size + 1 + 1 + 1) (.slice va1 r.1.queues.length vc1) (.int .i64 r.1.next) [.int .i64 it.id, .int .i64 it.turn, .int .i64 it.tries, .bool it.out, .int .i64 it.due, .slice pa it.note.props.length pc, .slice qa it.note.body.length qc] wx)
  case first =>
    go_region_law (fail)
    all_goals
      go_wp2_with fail
      go_meet
      exact ⟨rfl, HPA'.out⟩
  case rest =>
    obtain ⟨rfl, hP⟩ := hcut
    have HP : Hid _ := hP
    obtain ⟨p0, p1, p2, p3⟩ := hP.2.2.2.1.b2
    obtain ⟨⟨m0, m1, m2, m3⟩, ⟨m4, m5, m6⟩, m7, m8⟩ := hP.2.2.2.2.b7
    clear hP d0 d1 d2 i0 i1 i2 i3 i4 i5 i6 e0 e1 e2 l0 l1 l2 l3 l4 l5 l6 l7
    go_wp2_with fail
    obtain ⟨hs, hos, hx, -, -⟩ := HP.out
    obtain ⟨hx2, ho2, hz2⟩ := HW2.out
    obtain ⟨hQ1, -, hN1, hK1⟩ := H1.out
    have hB0 := HB0.out
    refine bodyPost_ret (v := .tuple #[.agg #[.slice va1 r.1.queues.length vc1, .int .i64 r.1.next], .agg #[.int .i64 it.id, .int .i64 it.turn, .int .i64 it.tries, .bool it.out, .int .i64 it.due, .slice pa it.note.props.length pc, .slice qa it.note.body.length qc], .int .i64 r.2.2]) (by simp [results, Try.results31, go_sem, p0, p1, m0, m1, m2, m3, m4, m5, m6]; done) rfl ⟨⟨va1, vc1, pa, pc, qa, qc, rfl, ?_, ?_⟩, ?_⟩
    · exact hQ1.sub fun b hb => ⟨⟨by have := hb.1; omega, by have := hb.2; omega⟩, (hx b (by have := hb.1; omega) (by have := hb.1; omega)).trans (hx2 b hb.2)⟩
    · exact hN1.sub fun b hb => ⟨⟨by have := hb.1; omega, by have := hb.2; omega⟩, (hx b (by have := hb.1; omega) (by have := hb.1; omega)).trans (hx2 b hb.2)⟩
    · exact ⟨hos.1.trans (ho2.1.trans (hK1.os.trans hB0.os)), hos.2.1.trans (ho2.2.1.trans (hK1.tape.trans hB0.tape)), hos.2.2.trans (ho2.2.2.trans (hK1.output.trans hB0.output)), by omega, fun b hb => (hx b (by omega) (by omega)).trans ((hx2 b (by omega)).trans ((hK1.block b ⟨by omega, by omega⟩).trans (hB0.block b hb)))⟩
end Go.Proofs.Ytpehkoompadpaaa
