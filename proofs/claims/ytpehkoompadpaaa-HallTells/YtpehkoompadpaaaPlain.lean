/-
  hall.Plain.
-/
import Derived.Test.YtpehkoompadpaaaHTellsProofM11
namespace Go.Proofs.Ytpehkoompadpaaa
open Go.RowKit
set_option linter.unusedVariables false
set_option linter.unusedSimpArgs false

attribute [local go_sem ↓] Go.wp_at_zero Go.wp_at_succ

def plainI (i : IT) : IT := ⟨i.id, 0, 0, false, 0, i.note⟩
def plainQ (q : QD) : QD := ⟨q.name, q.limit, q.items.map plainI⟩

theorem cellsI_set (L : ItL) (k : Nat) (hk : k < L.length) (it : IT) (p : Value × Value) : cellsI (L.set k (it, p)) = ((((((((cellsI L).set (k * 7) (.int .i64 it.id)).set (k * 7 + 1) (.int .i64 it.turn)).set (k * 7 + 2) (.int .i64 it.tries)).set (k * 7 + 3) (.bool it.out)).set (k * 7 + 4) (.int .i64 it.due)).set (k * 7 + 5) p.1).set (k * 7 + 6) p.2) := by
  have hl := cellsI_len L
  apply List.ext_getElem?
  intro i
  have hd : i = i / 7 * 7 + i % 7 := by omega
  by_cases hi : i < L.length * 7
  · have hq : i / 7 < L.length := by omega
    rw [hd, cellsI_at _ _ _ (by simpa using hq) (by omega)]
    have hj : i % 7 = 0 ∨ i % 7 = 1 ∨ i % 7 = 2 ∨ i % 7 = 3 ∨ i % 7 = 4 ∨ i % 7 = 5 ∨ i % 7 = 6 := by omega
    by_cases he : i / 7 = k
    · subst he
      rw [List.getElem_set_self]
      rcases hj with h | h | h | h | h | h | h <;> rw [h] <;> simp [IT.cells, List.getElem?_set, hl] <;> omega
    · rw [List.getElem_set_ne (fun e => he e.symm)]
      rw [← cellsI_at L (i / 7) (i % 7) hq (by omega)]
      iterate 7 rw [List.getElem?_set_ne (by omega)]
  · rw [List.getElem?_eq_none (by rw [cellsI_len]; simp; omega), List.getElem?_eq_none (by simp [hl]; omega)]

/-- The row's world behind seven stores. -/
def put7 (w : World) (g o : Nat) (x0 x1 x2 x3 x4 x5 x6 : Value) : World := ((((((w.setCell ⟨g, o, none⟩ x0).setCell ⟨g, o + 1, none⟩ x1).setCell ⟨g, o + 2, none⟩ x2).setCell ⟨g, o + 3, none⟩ x3).setCell ⟨g, o + 4, none⟩ x4).setCell ⟨g, o + 5, none⟩ x5).setCell ⟨g, o + 6, none⟩ x6
theorem put7_far {w : World} {g o c : Nat} {x0 x1 x2 x3 x4 x5 x6 : Value} (h : c ≠ g) : (put7 w g o x0 x1 x2 x3 x4 x5 x6).heap[c]? = w.heap[c]? := by
  unfold put7; iterate 7 rw [Below.heap_setCell _ _ _ _ h]
theorem put7_size {w : World} {g o : Nat} {x0 x1 x2 x3 x4 x5 x6 : Value} : (put7 w g o x0 x1 x2 x3 x4 x5 x6).heap.size = w.heap.size := by simp [put7]
theorem sc_same (w : World) (a : Addr) (v : Value) : (w.setCell a v).os = w.os ∧ (w.setCell a v).tape = w.tape ∧ (w.setCell a v).output = w.output := ⟨rfl, rfl, rfl⟩
theorem put7_os {w : World} {g o : Nat} {x0 x1 x2 x3 x4 x5 x6 : Value} : (put7 w g o x0 x1 x2 x3 x4 x5 x6).os = w.os ∧ (put7 w g o x0 x1 x2 x3 x4 x5 x6).tape = w.tape ∧ (put7 w g o x0 x1 x2 x3 x4 x5 x6).output = w.output := by
  unfold put7
  exact ⟨by simp only [(sc_same _ _ _).1], by simp only [(sc_same _ _ _).2.1], by simp only [(sc_same _ _ _).2.2]⟩
theorem put7_own {w : World} {base g n cap k : Nat} {L : ItL} (h : w.ownsRow base 48 7 (.slice (some ⟨g, 0, none⟩) n cap) n (cellsI L)) (hk : k < L.length) (it : IT) (p : Value × Value) : (put7 w g (k * 7) (.int .i64 it.id) (.int .i64 it.turn) (.int .i64 it.tries) (.bool it.out) (.int .i64 it.due) p.1 p.2).ownsRow base 48 7 (.slice (some ⟨g, 0, none⟩) n cap) n (cellsI (L.set k (it, p))) := by
  rw [cellsI_set L k hk]
  exact (((((((h.stored (k * 7) _).1.stored (k * 7 + 1) _).1.stored (k * 7 + 2) _).1.stored (k * 7 + 3) _).1.stored (k * 7 + 4) _).1.stored (k * 7 + 5) _).1.stored (k * 7 + 6) _).1

/-- What holds in the loop of 'Plain': the first k items are plain. -/
structure PLI (base : Nat) (W1 : World) (its : List IT) (v : Value) (k : Nat) (L : ItL) (wr : World) : Prop where
  map : L.map Prod.fst = (its.take k).map plainI ++ its.drop k
  own : wr.ownsRow base 48 7 v L.length (cellsI L)
  notes : ∀ x ∈ L, NoteIs (fun b => base ≤ b ∧ b < W1.heap.size ∧ v.ownBlock ≠ some b) wr x.2 x.1.note
  os : wr.os = W1.os ∧ wr.tape = W1.tape ∧ wr.output = W1.output
  size : W1.heap.size ≤ wr.heap.size
  far : ∀ b, b < W1.heap.size → v.ownBlock ≠ some b → wr.heap[b]? = W1.heap[b]?

theorem PLI.at {base : Nat} {W1 : World} {its : List IT} {v : Value} {k : Nat} {L : ItL} {wr : World} (H : PLI base W1 its v k L wr) (hk : k < its.length) : ∃ h : k < L.length, L[k].1 = its[k] := by
  have hl := congrArg List.length H.map
  simp at hl
  refine ⟨by omega, ?_⟩
  have h1 : (L.map Prod.fst)[k]? = some its[k] := by
    rw [H.map, List.getElem?_append_right (by simp; omega)]
    simp [Nat.min_eq_left (Nat.le_of_lt hk), hk]
  rw [List.getElem?_map] at h1
  have h2 : L[k]? = some L[k] := List.getElem?_eq_getElem (by omega)
  rw [h2] at h1
  simpa using h1

theorem plain_set {its : List IT} {k : Nat} (hk : k < its.length) : ((its.take k).map plainI ++ its.drop k).set k (plainI its[k]) = (its.take (k + 1)).map plainI ++ its.drop (k + 1) := by
  have hl : ((its.take k).map plainI).length = k := by simp; omega
  rw [List.drop_eq_getElem_cons hk, List.set_append_right _ _ (by omega), hl, Nat.sub_self, List.set_cons_zero, List.take_succ_eq_append_getElem hk, List.map_append, List.append_assoc]
  rfl

theorem PLI.step {base : Nat} {W1 : World} {its : List IT} {g n cap k : Nat} {L : ItL} {wr : World} (H : PLI base W1 its (.slice (some ⟨g, 0, none⟩) n cap) k L wr) (hk : k < its.length) (hkL : k < L.length) (hn : n = L.length) (o : Obj) : PLI base W1 its (.slice (some ⟨g, 0, none⟩) n cap) (k + 1) (L.set k (plainI its[k], L[k].2)) ((put7 wr g (k * 7) (.int .i64 its[k].id) (.int .i64 0) (.int .i64 0) (.bool false) (.int .i64 0) L[k].2.1 L[k].2.2).alloc o) := by
  obtain ⟨_, hLk⟩ := H.at hk
  have hP : (put7 wr g (k * 7) (.int .i64 its[k].id) (.int .i64 0) (.int .i64 0) (.bool false) (.int .i64 0) L[k].2.1 L[k].2.2).ownsRow base 48 7 (.slice (some ⟨g, 0, none⟩) n cap) n (cellsI (L.set k (plainI its[k], L[k].2))) := put7_own (by have := H.own; rw [← hn] at this; exact this) hkL (plainI its[k]) L[k].2
  obtain ⟨U, hU⟩ : ∃ U, U = put7 wr g (k * 7) (.int .i64 its[k].id) (.int .i64 0) (.int .i64 0) (.bool false) (.int .i64 0) L[k].2.1 L[k].2.2 := ⟨_, rfl⟩
  have hUz : U.heap.size = wr.heap.size := by rw [hU]; exact put7_size
  have hUf : ∀ b, b ≠ g → U.heap[b]? = wr.heap[b]? := fun b hb => by rw [hU]; exact put7_far hb
  have hUo : U.os = wr.os ∧ U.tape = wr.tape ∧ U.output = wr.output := by rw [hU]; exact put7_os
  rw [← hU] at hP
  rw [← hU]
  clear hU
  have far : ∀ b, b ≠ g → b < wr.heap.size → (U.alloc o).heap[b]? = wr.heap[b]? := fun b h1 h2 => (Below.heap_alloc _ _ _ (by rw [hUz]; exact h2)).trans (hUf b h1)
  have hz := H.size
  have hno : ∀ b, (Value.slice (some ⟨g, 0, none⟩) n cap).ownBlock ≠ some b → b ≠ g := fun b h1 h2 => h1 (by rw [h2]; rfl)
  refine ⟨?_, ?_, fun x hx => ?_, ?_, ?_, fun b h1 h2 => (far b (hno b h2) (by omega)).trans (H.far b h1 h2)⟩
  · rw [List.map_set, H.map]
    exact plain_set hk
  · rw [List.length_set, ← hn]
    exact hP.alloc _
  · rcases List.mem_or_eq_of_mem_set hx with hx | rfl
    · exact (H.notes x hx).sub fun b hb => ⟨hb, far b (hno b hb.2.2) (by omega)⟩
    · have := H.notes L[k] (List.getElem_mem hkL)
      rw [hLk] at this
      exact this.sub fun b hb => ⟨hb, far b (hno b hb.2.2) (by omega)⟩
  · exact ⟨hUo.1.trans H.os.1, hUo.2.1.trans H.os.2.1, hUo.2.2.trans H.os.2.2⟩
  · rw [World.size_alloc, hUz]; omega

theorem enter60 (args : Array Value) (W : World) : (callFunc 56 args).run Try.prog W = .ok (.enter 56 args) W := by go_simp

set_option maxRecDepth 100000 in
set_option maxHeartbeats 3200000 in
theorem plain_makes : Makes 56 [] plainQ := by
  refine ⟨enter60, fun q v w hs hv => ?_⟩
  obtain ⟨qn, ql, its⟩ := q
  simp only at hs hv ⊢
  have HV : Hid (SliceI (Under w.heap.size) w v its) := hv
  have HS : Hid (smallI its) := hs
  have hlen := hs.1
  obtain ⟨va, vc, rfl⟩ := hv.shp
  clear hv hs
  have two : Hid (∀ o1 o2 : Obj, Below w.heap.size w ((w.alloc o1).alloc o2)) := fun o1 o2 => (below_alloc _ _).alloc (by simp) _
  go_enter Try.func56, Try.ntmps56
  go_wp2_with (go_at_call 53; refine (own_any _ qn ql its _ (HV.out.sub fun k hk => ⟨?_, (two.out _ _).block k hk⟩) HS.out).mono ?_; (simp [Under] at hk ⊢; omega); rintro e w1 ⟨vi, rfl, ho1, hb1⟩; obtain ⟨L, hL, hr1, hn1⟩ := ho1; obtain ⟨xa, xc, rfl, hxc1, hxc2, -⟩ := own_shape hr1; simp only [World.size_alloc] at hr1 hn1; have hk1 := (Blk.new (w.alloc _) _ 71).below hb1 (by simp); simp only [World.size_alloc] at hk1; have hz1 : w.heap.size + 2 ≤ w1.heap.size := (by have := hb1.size; simpa using this); have HB1 : Hid (Below w.heap.size w w1) := (two.out _ _).trans (hb1.mono (by simp; omega)); have HR1 : Hid (Blk w1 (w.heap.size + 1) [.string ⟨#[]⟩, .int .i64 0, .slice none 0 0]) := hk1; have hll : L.length ≤ 1000 := (by have := congrArg List.length hL; simp at this; omega); have HL : Hid (L.map Prod.fst = its ∧ w1.ownsRow (w.heap.size + 1 + 1) 48 7 (.slice xa L.length xc) L.length (cellsI L) ∧ ∀ x ∈ L, NoteIs (fun b => w.heap.size + 1 + 1 ≤ b ∧ b < w1.heap.size ∧ (Value.slice xa L.length xc).ownBlock ≠ some b) w1 x.2 x.1.note) := ⟨hL, hr1, hn1⟩; clear hL hr1 hn1 hb1 hk1)
  obtain ⟨W1, hW1⟩ : ∃ W1, W1 = w1.alloc (.cells #[.string qn, .int .i64 ql, .slice xa L.length xc] 71) := ⟨_, rfl⟩
  rw [← hW1]
  have hzW : W1.heap.size = w1.heap.size + 1 := by rw [hW1]; simp
  have hBW : Below w1.heap.size w1 W1 := by rw [hW1]; exact below_alloc _ _
  have HBW : Hid (Below w.heap.size w W1 ∧ Blk W1 (w.heap.size + 1) [.string ⟨#[]⟩, .int .i64 0, .slice none 0 0] ∧ Blk W1 w1.heap.size [.string qn, .int .i64 ql, .slice xa L.length xc]) := by rw [hW1]; exact ⟨HB1.out.alloc (by omega) _, HR1.out.alloc _, Blk.new _ _ _⟩
  clear hW1
  have H0 : PLI (w.heap.size + 1 + 1) W1 its (.slice xa L.length xc) 0 L W1 := ⟨by simpa using HL.out.1, own_below HL.out.2.1 hBW, fun x hx => (HL.out.2.2 x hx).sub fun b hb => ⟨⟨hb.1, by have := hb.2.1; omega, hb.2.2⟩, hBW.block b hb.2.1⟩, ⟨rfl, rfl, rfl⟩, Nat.le_refl _, fun _ _ _ => rfl⟩
  have hrow : ∀ b, (Value.slice xa L.length xc).ownBlock = some b → w.heap.size + 2 ≤ b ∧ b < w1.heap.size := fun b e => HL.out.2.1.lt b e
  have HROW : Hid (∀ b, (Value.slice xa L.length xc).ownBlock = some b → w.heap.size + 2 ≤ b ∧ b < w1.heap.size) := hrow
  obtain ⟨n, hn⟩ : ∃ n, n = L.length := ⟨_, rfl⟩
  have HN : Hid (n = L.length ∧ n = its.length) := ⟨hn, by rw [hn, ← HL.out.1]; simp⟩
  have HL0 : Hid _ := H0
  have hnl : n ≤ 1000 := by omega
  have hxn : n ≤ xc := by omega
  unfold maxLen at hxc2
  rw [← hn] at HL0 HROW HBW
  rw [← hn]
  clear H0 hn hBW hrow hll hxc1
  go_loopw [11] (fun i wr => ∃ k : Nat, k ≤ n ∧ i = .int .i64 k ∧ ∃ L', L'.length = n ∧ PLI (w.heap.size + 1 + 1) W1 its (.slice xa n xc) k L' wr) (fun i _ => n - (intOf i).toNat)
  case atStart => exact ⟨0, Nat.zero_le _, rfl, L, HN.out.1.symm, HL0.out⟩
  case round =>
    obtain ⟨k, hk, rfl, L', hL', hI⟩ := hrel
    have HI : Hid (PLI (w.heap.size + 1 + 1) W1 its (.slice xa n xc) k L' wr) := hI
    have HLn : Hid (L'.length = n) := hL'
    have hzr := hI.size
    by_cases hlt : k < n
    · have hki : k < its.length := by have := HN.out.2; omega
      obtain ⟨hkL, hLk⟩ := hI.at hki
      obtain ⟨g, cap, e⟩ : ∃ g cap, Value.slice xa n xc = .slice (some ⟨g, 0, none⟩) n cap := by
        rcases hI.own.2 with ⟨-, h0⟩ | ⟨g, cap, cur, e, -⟩
        · omega
        · exact ⟨g, cap, by rw [e, hL']⟩
      simp only [Value.slice.injEq] at e
      obtain ⟨rfl, -, rfl⟩ := e
      have hnote := hI.notes _ (List.getElem_mem hkL)
      obtain ⟨pa, pc, e1, -⟩ := SliceV.shape hnote.1
      obtain ⟨qa, qc, e2, -⟩ := SliceV.shape hnote.2
      have hown := hI.own
      rw [hL'] at hown
      have key : ∀ j, j < 7 → wr.cell? ⟨g, k * 7 + j, none⟩ = (L'[k].1.cells L'[k].2)[j]? := fun j hj => by
        rw [hown.cellAt (k * 7 + j) (by omega), cellsI_at L' k j hkL hj]
      have c0 := key 0 (by omega); have c1 := key 1 (by omega); have c2 := key 2 (by omega); have c3 := key 3 (by omega); have c4 := key 4 (by omega); have c5 := key 5 (by omega); have c6 := key 6 (by omega)
      simp only [IT.cells, List.getElem?_cons_zero, List.getElem?_cons_succ, Nat.add_zero, hLk, e1, e2] at c0 c1 c2 c3 c4 c5 c6
      have hf := fun o => hown.frozenAt o
      have hgl := (hown.lt g rfl).2
      have hg1 := HROW.out g rfl
      have hbx := HBW.out.2.2.same (hI.far w1.heap.size (by omega) (fun e => by have := (HROW.out _ e).2; omega))
      obtain ⟨b0, b1, b2, b3, b4⟩ := hbx.b3
      have HPQ : Hid (L'[k].2 = (.slice pa its[k].note.props.length pc, .slice qa its[k].note.body.length qc)) := by
        show L'[k].2 = _
        rw [← hLk, ← e1, ← e2]
      clear key hI hL' hnote e1 e2 hown hbx hLk
      obtain ⟨it, hit⟩ : ∃ it, it = its[k] := ⟨_, rfl⟩
      rw [← hit] at c0 c1 c2 c3 c4 c5 c6 HPQ
      have HIT : Hid (it = its[k]) := hit
      clear hit
      have hNEW := HI.out.step hki hkL HLn.out.symm (.cells #[.int .i64 it.id, .int .i64 it.turn, .int .i64 it.tries, .bool it.out, .int .i64 it.due, .slice pa it.note.props.length pc, .slice qa it.note.body.length qc] 48)
      rw [HPQ.out, ← HIT.out] at hNEW
      unfold put7 at hNEW
      have HNEW : Hid _ := hNEW
      clear hNEW
      go_wp2_with fail
      go_roundw
      case rel => exact ⟨k + 1, by omega, by go_num, _, by rw [List.length_set]; exact HLn.out, HNEW.out⟩
      case measure => simp [intOf]; omega
    · obtain rfl : k = n := by omega
      obtain ⟨r0, r1, r2, r3, r4⟩ := (HBW.out.2.1.same (hI.far (w.heap.size + 1) (by omega) (fun e => by have := (HROW.out _ e).1; omega))).b3
      obtain ⟨b0, b1, b2, b3, b4⟩ := (HBW.out.2.2.same (hI.far w1.heap.size (by omega) (fun e => by have := (HROW.out _ e).2; omega))).b3
      clear hI
      go_wp2_with fail
      have hI := HI.out
      have hfar : ∀ b, b ≠ w.heap.size + 1 → (((wr.setCell ⟨w.heap.size + 1, 0, none⟩ (.string qn)).setCell ⟨w.heap.size + 1, 1, none⟩ (.int .i64 ql)).setCell ⟨w.heap.size + 1, 2, none⟩ (.slice xa k xc)).heap[b]? = wr.heap[b]? := fun b hb => by
        rw [Below.heap_setCell _ _ _ _ hb, Below.heap_setCell _ _ _ _ hb, Below.heap_setCell _ _ _ _ hb]
      have hsz : (((wr.setCell ⟨w.heap.size + 1, 0, none⟩ (.string qn)).setCell ⟨w.heap.size + 1, 1, none⟩ (.int .i64 ql)).setCell ⟨w.heap.size + 1, 2, none⟩ (.slice xa k xc)).heap.size = wr.heap.size := by simp
      have hBW := HBW.out.1
      refine bodyPost_ret (v := .agg #[.string qn, .int .i64 ql, .slice xa k xc]) (by simp [results, Try.results56, go_sem, *]; done) rfl ⟨.slice xa k xc, rfl, ⟨L', ?_, ?_, fun x hx => ?_⟩, ?_⟩
      · have h1 := hI.map
        have h2 : its.length = k := HN.out.2.symm
        rw [List.take_of_length_le (by omega), List.drop_of_length_le (by omega), List.append_nil] at h1
        exact h1
      · have h1 := own_slice hI.own
        exact h1.sub fun b hb => by
          have h2 := HROW.out b hb
          exact ⟨⟨by omega, by rw [hsz]; omega⟩, hfar b (by omega)⟩
      · exact (hI.notes x hx).sub fun b hb => ⟨⟨by have := hb.1; omega, by rw [hsz]; have := hb.2.1; omega⟩, hfar b (by have := hb.1; omega)⟩
      · exact ⟨hI.os.1.trans hBW.os, hI.os.2.1.trans hBW.tape, hI.os.2.2.trans hBW.output, by rw [hsz]; have := hBW.size; omega, fun b hb => (hfar b (by omega)).trans ((hI.far b (by omega) (fun e => by have := (HROW.out _ e).1; omega)).trans (hBW.block b hb))⟩

set_option maxRecDepth 100000 in
set_option maxHeartbeats 1000000 in
theorem hallPlain_any (v : Value) (h : HD) (w : World) (hv : SliceQ (Under w.heap.size) w v h.queues) (hsm : smallQ h.queues) :
    Calls Try.prog 12 #[.agg #[v, .int .i64 h.next]] w fun e w' => ∃ vi, e = .returned (.agg #[vi, .int .i64 h.next]) ∧ OwnQ w.heap.size w' vi (h.queues.map plainQ) ∧ Below w.heap.size w w' := by
  have HV : Hid (SliceQ (Under w.heap.size) w v h.queues) := hv
  have HM : Hid (smallQ h.queues) := hsm
  obtain ⟨va, vc, rfl⟩ := hv.shp
  clear hv hsm
  have two : Hid (∀ o1 o2 : Obj, Below w.heap.size w ((w.alloc o1).alloc o2)) := fun o1 o2 => (below_alloc _ _).alloc (by simp) _
  go_enter Try.func12, Try.ntmps12
  go_wp2_with (go_at_call 52; refine (eachOf_any 56 [] plainQ _ h.next h.queues _ (HV.out.sub fun k hk => ⟨?_, (two.out _ _).block k hk⟩) HM.out plain_makes).mono ?_; (simp [Under] at hk ⊢; omega); rintro e w1 ⟨vi, rfl, ho1, hb1⟩; have ho1' := ho1; obtain ⟨L, hL, hr, hn⟩ := ho1; obtain ⟨xa, xc, rfl, -⟩ := own_shape hr; obtain ⟨b0, b1, b2, b3⟩ := ((Blk.new (w.alloc _) _ 24).below hb1 (by simp)).b2; simp only [World.size_alloc] at b0 b1 b2 b3)
  refine bodyPost_ret (v := .agg #[.slice xa L.length xc, .int .i64 h.next]) (by simp [results, Try.results12, go_sem, *]; done) rfl ⟨_, rfl, ⟨L, hL, ?_, fun x hx => ?_⟩, ?_⟩
  · refine own_mono (base := w.heap.size + 2) ?_ (by omega)
    iterate 2 refine ownsRow_setCell_below ?_ (by simp) _
    exact own_mono hr (by simp)
  · refine (hn x hx).sub fun b hb => ?_
    have h1 := hb.1
    simp at h1
    refine ⟨⟨by omega, by simpa using hb.2.1, hb.2.2⟩, ?_⟩
    iterate 2 rw [Below.heap_setCell _ _ _ _ (by simp; omega)]
  · iterate 2 refine Below.setCell ?_ (by simp) _
    exact (two.out _ _).trans (hb1.mono (by simp; omega))
end Go.Proofs.Ytpehkoompadpaaa
