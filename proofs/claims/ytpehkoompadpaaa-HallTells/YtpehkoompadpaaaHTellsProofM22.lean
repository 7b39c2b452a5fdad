/-
  LateIn; RefTickF: texts laid together.
-/
import Derived.Test.YtpehkoompadpaaaTickF
import Derived.Deep.LoopGhost
import Derived.Test.YtpehkoompadpaaaHTellsProofM19
/-
  hall.lateIn has all late items of a queue come back.
-/
namespace Go.Proofs.Ytpehkoompadpaaa
open Go.RowKit
set_option linter.unusedVariables false
set_option linter.unusedSimpArgs false

attribute [local go_sem ↓] Go.wp_at_zero Go.wp_at_succ

theorem backF_es (h : HD) (k : Nat) (q : QD) (id turn : Int) : (backF h k q id turn).2.1.length ≤ 2 := by
  unfold backF
  split
  · simp
  · split
    · simp
    · split
      · simp
      · simp only [List.length_cons]
        exact Nat.succ_le_succ (asideF_len _ _ _)

/-- What holds in the loop of 'lateIn'. -/
structure LI (P0 : Nat → Prop) (hb : Nat) (w : World) (v : Value) (now : Int) (k N : Nat) (M : Int) (h0 : HD) (n : Nat) (h : HD) (L : QuL) (P T : Nat → Prop) (es : List ED) (tv : Value) (wr : World) : Prop where
  hall : HallIn P hb wr v L h.next
  map : L.map Prod.fst = h.queues
  up : ∀ b, P0 b → P b
  dn : ∀ b, P b → P0 b ∨ Made w.heap.size wr.heap.size b
  told : OwnT T wr tv es
  tm : ∀ b, T b → Made w.heap.size wr.heap.size b
  tp : ∀ b, T b → ¬ P b
  tb : ¬ T hb
  keep : Keep (fun b => b < w.heap.size ∧ v.ownBlock ≠ some b ∧ b ≠ hb) w wr
  nN : n ≤ N
  good : h.good (M + ((N - n : Nat) : Int))
  len : h.queues.length = h0.queues.length
  outs : outs h k ≤ n
  eq1 : (lateF now k n h).1 = (lateF now k N h0).1
  eq2 : es ++ (lateF now k n h).2 = (lateF now k N h0).2
  esl : es.length ≤ 2 * (N - n)

section
variable {P0 : Nat → Prop} {hb : Nat} {w : World} {v : Value} {now : Int} {k N : Nat} {M : Int} {h0 : HD} {n : Nat} {h : HD} {L : QuL} {P T : Nat → Prop} {es : List ED} {tv : Value} {wr : World}

theorem LI.below (H : LI P0 hb w v now k N M h0 n h L P T es tv wr) {W : World} (hB : Below wr.heap.size wr W) : LI P0 hb w v now k N M h0 n h L P T es tv W := by
  have hz := hB.size
  have hkz := H.keep.size
  exact ⟨H.hall.below hB, H.map, H.up, fun b hb' => (H.dn b hb').imp id (fun h => ⟨h.1, by have := h.2; omega⟩), H.told.on hz (fun b hb' => hB.block b (H.tm b hb').2), fun b hb' => ⟨(H.tm b hb').1, by have := (H.tm b hb').2; omega⟩, H.tp, H.tb, ⟨hB.os.trans H.keep.os, hB.tape.trans H.keep.tape, hB.output.trans H.keep.output, by omega, fun b hb' => (hB.block b (by omega)).trans (H.keep.block b hb')⟩, H.nN, H.good, H.len, H.outs, H.eq1, H.eq2, H.esl⟩

theorem LI.done (H : LI P0 hb w v now k N M h0 n h L P T es tv wr) {q : QD} (hq : h.queues[k]? = some q) (hi : idxI (lateB now) q.items = -1) : InAns P0 hb w v (lateF now k N h0).1 (lateF now k N h0).2 tv wr := by
  have e1 := H.eq1
  have e2 := H.eq2
  rw [lateF_none hq hi] at e1 e2
  simp only [List.append_nil] at e2
  rw [← e1, ← e2]
  exact ⟨L, P, H.map, H.up, H.dn, H.hall, H.told.slice.sub fun b hb' => ⟨⟨H.tm b hb', H.tp b hb'⟩, rfl⟩, H.keep⟩
theorem LI.step (H : LI P0 hb w v now k N M h0 (n + 1) h L P T es tv wr) {q : QD} {i : Nat} (hq : h.queues[k]? = some q) (hi : idxI (lateB now) q.items = (i : Int)) (hil : i < q.items.length) {it : IT} (hit : it = q.items[i]) {L2 : QuL} {P2 T2 : Nat → Prop} {tv2 : Value} {w2 w3 : World}
    (e2 : L2.map Prod.fst = (backF h k q it.id it.turn).1.queues) (h12 : ∀ b, P b → P2 b) (h2 : ∀ b, P2 b → P b ∨ Made wr.heap.size w2.heap.size b) (hw : w2.heap.size ≤ w3.heap.size) (hH : HallIn P2 hb w3 v L2 (backF h k q it.id it.turn).1.next) (hT : OwnT T2 w3 tv2 (es ++ (backF h k q it.id it.turn).2.1)) (hTs : ∀ b, T2 b → T b ∨ Made wr.heap.size w3.heap.size b) (hTP : ∀ b, T2 b → ¬ P2 b) (hTb : ¬ T2 hb) (hK : Keep (fun b => b < wr.heap.size ∧ v.ownBlock ≠ some b ∧ b ≠ hb ∧ ¬ T b) wr w3) :
    LI P0 hb w v now k N M h0 n (backF h k q it.id it.turn).1 L2 P2 T2 (es ++ (backF h k q it.id it.turn).2.1) tv2 w3 := by
  have hz := H.keep.size
  have hz3 := hK.size
  have hn := H.nN
  have ho := late_outs hq hi hil
  rw [← hit] at ho
  have hl := lateF_some (n := n) hq hi hil
  rw [← hit] at hl
  have e1 := H.eq1
  have e3 := H.eq2
  rw [hl] at e1 e3
  have hou := H.outs
  have hb2 := backF_es h k q it.id it.turn
  have hel := H.esl
  refine ⟨hH, e2, fun b hb' => h12 b (H.up b hb'), fun b hb' => ?_, hT, fun b hb' => ?_, hTP, hTb, ⟨hK.os.trans H.keep.os, hK.tape.trans H.keep.tape, hK.output.trans H.keep.output, by omega, fun b hb' => (hK.block b ⟨by omega, hb'.2.1, hb'.2.2, fun t => by have := (H.tm b t).1; omega⟩).trans (H.keep.block b hb')⟩, by omega, ?_, (back_len _ _ _ _ _).trans H.len, by omega, e1, by rw [List.append_assoc]; exact e3, by rw [List.length_append]; omega⟩
  · rcases h2 b hb' with h | h
    · rcases H.dn b h with h | h
      · exact .inl h
      · exact .inr ⟨h.1, by have := h.2; omega⟩
    · exact .inr ⟨by have := h.1; omega, by have := h.2; omega⟩
  · rcases hTs b hb' with h | h
    · have := H.tm b h
      exact ⟨this.1, by have := this.2; omega⟩
    · exact ⟨by have := h.1; omega, h.2⟩
  · exact (good_back H.good k (List.mem_of_getElem? hq) it.id it.turn).mono (by omega)
end

set_option maxRecDepth 100000 in
set_option maxHeartbeats 3200000 in
theorem lateIn_any {P : Nat → Prop} {hb : Nat} {w : World} {g cap : Nat} {L : QuL} {h : HD} (H : HallIn P hb w (.slice (some ⟨g, 0, none⟩) L.length cap) L h.next) (e : L.map Prod.fst = h.queues) (k : Nat) (hk : k < h.queues.length) (M : Int) (hM : M ≤ 100000000) (hg : h.good M) (now : Int) :
    Calls Try.prog 77 #[.pointer (some ⟨hb, 0, none⟩), .int .i64 k, .int .i64 now] w fun r w' => ∃ ev, r = .returned ev ∧ InAns P hb w (.slice (some ⟨g, 0, none⟩) L.length cap) (lateF now k (outs h k) h).1 (lateF now k (outs h k) h).2 ev w' := by
  obtain ⟨i0, hi0, hz0, hz1, hz2⟩ := info_parts info92
  have hN8 := outs_le hg k
  obtain ⟨N, hN⟩ : ∃ N, N = outs h k := ⟨_, rfl⟩
  rw [← hN] at hN8 ⊢
  obtain ⟨m, hm⟩ : ∃ m, m = L.length := ⟨_, rfl⟩
  have H0 : LI P hb w (.slice (some ⟨g, 0, none⟩) L.length cap) now k N M h N h L P (fun _ => False) [] (.slice none 0 0) w :=
    ⟨H, e, fun _ h => h, fun _ h => .inl h, OwnT.nil _, fun _ h => h.elim, fun _ h => h.elim, fun h => h, ⟨rfl, rfl, rfl, Nat.le_refl _, fun _ _ => rfl⟩, Nat.le_refl _, by simpa using hg, rfl, by omega, rfl, rfl, by simp⟩
  rw [← hm] at H0 ⊢
  have hml : m ≤ 1000 := by have := congrArg List.length e; have h1 := hg.1; simp at this; omega
  have hkm : k < m := by have := congrArg List.length e; simp at this; omega
  have HM : Hid (m = h.queues.length) := by have := congrArg List.length e; simp at this; exact hm.trans this
  have HL0 : Hid _ := H0
  clear H e hg hN H0 hm
  go_enter Try.func77, Try.ntmps77
  go_wp2_with fail
  go_loopg [7] N (fun n tv wr => ∃ h' L' P' T es, LI P hb w (.slice (some ⟨g, 0, none⟩) m cap) now k N M h n h' L' P' T es tv wr)
  case atStart => exact ⟨_, _, _, _, _, HL0.out⟩
  case round =>
    obtain ⟨h', L', P', T, es, hI⟩ := hrel
    clear HL0
    have hkL : k < L'.length := by have h1 := hI.len; have h2 := congrArg List.length hI.map; have h3 := HM.out; simp at h2; omega
    have hmL : m = L'.length := by have h1 := hI.len; have h2 := congrArg List.length hI.map; have h3 := HM.out; simp at h2; omega
    have HI : Hid (LI P hb w (.slice (some ⟨g, 0, none⟩) m cap) now k N M h gk h' L' P' T es u7 wr) := hI
    obtain ⟨LG, hLG, hTL⟩ := hI.told
    obtain ⟨ta, tc, htv, -⟩ := own_shape hTL.row
    subst htv
    have HTL : Hid (LG.map Prod.fst = es ∧ OwnTL T wr (.slice ta LG.length tc) LG) := ⟨hLG, hTL⟩
    have HLG : Hid (LG.length ≤ 16) := by
      have h1 := congrArg List.length hLG
      have h2 := hI.esl
      simp at h1
      show LG.length ≤ 16
      omega
    clear hLG hTL
    obtain ⟨ia, ic, -, hIt, y0, y1, y2⟩ := hI.hall.at k hkL
    obtain ⟨b0, b1, b2, b3⟩ := hI.hall.box.b2
    obtain ⟨hgl, hgb, hbl, hgP⟩ := hI.hall.gl
    have hkh : k < h'.queues.length := by have h2 := congrArg List.length hI.map; simp at h2; omega
    have hqe : h'.queues[k] = (L'[k]'hkL).1 := by simp [← hI.map]
    obtain ⟨q, hq⟩ : ∃ q, q = h'.queues[k] := ⟨_, rfl⟩
    rw [← hqe, ← hq] at y0 y1 y2 hIt
    have HQ : Hid (h'.queues[k]? = some q ∧ q = h'.queues[k]) := ⟨by rw [hq]; exact List.getElem?_eq_getElem hkh, hq⟩
    have HG : Hid (h'.good (M + ((N - gk : Nat) : Int)) ∧ q.good) := ⟨hI.good, hI.good.2.2 q (by rw [hq]; exact List.getElem_mem hkh)⟩
    have HIT : Hid (SliceI (Under wr.heap.size) wr (.slice ia q.items.length ic) q.items) := hIt.sub fun b hb => ⟨hI.hall.lt b hb.1, rfl⟩
    have hgf := hI.hall.f
    have HML : Hid (m = L'.length) := hmL
    clear hI hIt hq hqe hmL
    rcases idxI_cases (lateB now) q.items with hi | ⟨i, hil, hi, -, -⟩
    · have HX : Hid (idxI (lateB now) q.items = -1) := hi
      clear hi
      go_wp2_with (go_at_call 110; refine (late_none _ q.name q.limit now q.items _ HIT.out HX.out).mono ?_; rintro r w1 ⟨rfl, hb1⟩)
      go_ret
      exact ⟨_, rfl, (HI.out.below ((hb1.alloc hb1.size _))).done HQ.out.1 HX.out⟩
    · have HX : Hid (idxI (lateB now) q.items = (i : Int)) := hi
      obtain ⟨n, hgk⟩ : ∃ n, gk = n + 1 := ⟨gk - 1, by have h1 := late_outs HQ.out.1 hi hil; have h2 := HI.out.outs; omega⟩
      subst hgk
      clear hi
      obtain ⟨it, hit⟩ : ∃ it, it = q.items[i] := ⟨_, rfl⟩
      have HITE : Hid (it = q.items[i]) := hit
      clear hit
      have hnx : 0 ≤ h'.next ∧ h'.next ≤ 1000000000 := by have h1 := HG.out.1.2.1; omega
      go_wp2_with (first
        | (go_at_call 110; refine (late_ok _ q.name q.limit now q.items i hil _ HIT.out HG.out.2.small HX.out).mono ?_; rw [← HITE.out]; rintro r w1 ⟨⟨p1, p2⟩, rfl, hn1, hb1⟩; obtain ⟨pa, pc, rfl, -⟩ := SliceV.shape hn1.1; obtain ⟨ba, bc, rfl, -⟩ := SliceV.shape hn1.2; simp only [IT.val]; have HI1 : Hid (LI P hb w (.slice (some ⟨g, 0, none⟩) m cap) now k N M h (n + 1) h' L' P' T es (.slice ta LG.length tc) (w1.alloc (.cells #[.int .i64 it.id, .int .i64 it.turn, .int .i64 it.tries, .bool it.out, .int .i64 it.due, .slice pa it.note.props.length pc, .slice ba it.note.body.length bc] 48))) := HI.out.below (hb1.alloc hb1.size _); have HB1 : Hid (Below wr.heap.size wr (w1.alloc (.cells #[.int .i64 it.id, .int .i64 it.turn, .int .i64 it.tries, .bool it.out, .int .i64 it.due, .slice pa it.note.props.length pc, .slice ba it.note.body.length bc] 48))) := hb1.alloc hb1.size _; clear hn1 hb1 y0 y1 y2 b0 b1 b2 hgf)
        | (go_at_call 72; refine (backIn_any (h := h') (L := L') (g := g) (cap := cap) (P := P') (by have := HI1.out.hall; rw [HML.out] at this; exact this) HI1.out.map k hkh (by have := HG.out.1.1; omega) hnx (fun x hx => ⟨(HG.out.1.2.2 x hx).small, fun j hj => ((HG.out.1.2.2 x hx).2.2 j hj).2.1⟩) it.id it.turn).mono ?_; rw [← HQ.out.2, ← HML.out]; rintro r w2 ⟨ev, rfl, hA⟩; obtain ⟨L2, P2, e2, h12, h2', hH2, hES, hK2⟩ := hA; obtain ⟨LE, hLE, hEL⟩ := hES; obtain ⟨ea, ec, rfl, -⟩ := hEL.1.shape; have hle : LE.length ≤ 2 := (by have h1 := backF_es h' k q it.id it.turn; rw [← hLE] at h1; simpa using h1); have HA : Hid _ := And.intro e2 (And.intro h12 (And.intro h2' (And.intro hH2 (And.intro hLE (And.intro hEL hK2))))); have HR3 : Hid (w2.ownsRow 0 54 6 (.slice ta LG.length tc) LG.length (cellsE LG)) := own_same HTL.out.2.row (fun b e => (hK2.block b (by have h1 := HTL.out.2.rowT b e; have h2 := HTL.out.2.lt b h1; have h3 := HB1.out.size; refine ⟨by omega, fun e' => ?_, fun e' => HI.out.tb (e' ▸ h1)⟩; simp [Value.ownBlock] at e'; exact HI.out.tp b h1 (e' ▸ hgP))).trans (HB1.out.block b (HTL.out.2.lt b (HTL.out.2.rowT b e)))); clear e2 h12 h2' hH2 hLE hK2)
        | (at_builtin; refine wpList_appV rfl (.tmp 37) (.tmp 38) 35 rfl 54 i0 _ 6 88 Try.underlying35 hi0 hz0 hz1 hz2 rfl (by omega) 0 (.slice ta LG.length tc) LG.length (cellsE LG) rfl HR3.out _ (.slice ea LE.length ec) LE.length (cellsE LE) rfl hEL.1 (cellsE_len LE) (cellsE_one LE hEL.2) (by have := HLG.out; unfold maxLen; omega) (by have := HLG.out; omega) (by omega) ?_; intro ao acap w3 ho3 hg3 hm3))
      obtain ⟨a1, a2, a3, a4, a5, a6, a7⟩ := HA.out
      have hTLW : OwnTL T (w1.alloc (.cells #[.int .i64 it.id, .int .i64 it.turn, .int .i64 it.tries, .bool it.out, .int .i64 it.due, .slice pa it.note.props.length pc, .slice ba it.note.body.length bc] 48)) (.slice ta LG.length tc) LG := HTL.out.2.on HB1.out.size (fun b hb => HB1.out.block b (HTL.out.2.lt b hb))
      obtain ⟨hH3, T2, hT2, hT2s, hT2P, hT2b, hK3⟩ := told_more (P1 := P') hTLW HI.out.tp HI.out.tb (fun b e => by simp [Value.ownBlock] at e; exact e ▸ hgP) a2 a3 a4 a6 a7 (by have := HB1.out.size; omega) ho3 hg3 hm3
      have hNEW := HI1.out.step HQ.out.1 HX.out hil HITE.out a1 a2 a3 hg3.size hH3 ⟨LG ++ LE, by rw [List.map_append, HTL.out.1, a5], hT2⟩ hT2s hT2P hT2b hK3
      go_roundg n
      case rel => exact ⟨_, _, _, _, _, hNEW⟩
      case measure => omega
end Go.Proofs.Ytpehkoompadpaaa

/-
  What the document's HallTick comes to, plainly: by steps.
-/
namespace Go.Proofs.Ytpehkoompadpaaa
open Go.RowKit
set_option linter.unusedVariables false
set_option linter.unusedSimpArgs false

theorem wrongL_zero {ps : List PD} (h : wrongL ps = 0) : ∀ p ∈ ps, p.wrong = 0 := by
  induction ps with
  | nil => simp
  | cons p r ih =>
    unfold wrongL at h
    by_cases hp : p.wrong = 0
    · simp [hp] at h
      intro x hx
      rw [List.mem_cons] at hx
      rcases hx with rfl | hx
      · exact hp
      · exact ih h x hx
    · simp [hp] at h

theorem PD.wrong_fit {p : PD} (h : p.wrong = 0) : p.fitN := by
  unfold PD.wrong wrongP at h
  have hk : keyB p.key = true := by
    cases hb : keyB p.key
    · simp [hb] at h
    · rfl
  simp only [hk, Bool.not_true] at h
  have h8 : p.key.size ≤ 8 := by
    unfold keyB at hk
    simp at hk
    omega
  refine ⟨by unfold maxLen; omega, ?_⟩
  by_cases hb : kindB p.kind = true
  · simp only [hb, Bool.not_true] at h
    by_cases hr : rangeB p.kind p.n = true
    · simp only [hr, Bool.not_true] at h
      by_cases h2 : p.kind = 2
      · by_cases h12 : 12 < p.text.size
        · simp [h2, h12] at h
        · unfold maxLen; omega
      · have hk2 : (p.kind == 2) = false := by simpa using h2
        simp only [hk2, Bool.false_and] at h
        by_cases hs : strayB p.kind p.n p.text = true
        · simp [hs] at h
        · simp only [strayB, hk2, Bool.not_eq_true] at hs
          simp at hs
          have h0 : p.text.toList.length = 0 := by rw [hs]; rfl
          rw [ByteArray.toList_eq, Array.length_toList] at h0
          have : p.text.size = 0 := h0
          unfold maxLen; omega
    · simp [hr] at h
  · simp [hb] at h

theorem ND.wrong_fit {n : ND} (h : n.wrong = 0) : n.fitN := by
  unfold ND.wrong wrongN at h
  have hl : wrongL n.props = 0 := by
    by_cases h4 : 4 < n.props.length
    · simp [h4] at h
    · by_cases hw : wrongL n.props = 0
      · exact hw
      · simp [h4, hw] at h
  exact fun p hp => PD.wrong_fit (wrongL_zero hl p hp)

/-- A hall of right notes, of these names. -/
structure HD.tok (M : Int) (ns : List ByteArray) (h : HD) : Prop where
  good : h.good M
  right : ∀ q ∈ h.queues, ∀ i ∈ q.items, i.note.wrong = 0
  names : h.queues.map QD.name = ns

theorem idxQ_names {a b : List QD} (h : a.map QD.name = b.map QD.name) (name : ByteArray) : idxQ name a = idxQ name b := by
  have e : a.findIdx? (nameB name) = b.findIdx? (nameB name) := by
    have : ∀ l : List QD, l.findIdx? (nameB name) = (l.map QD.name).findIdx? (fun s => s.toList == name.toList) := fun l => by
      rw [List.findIdx?_map]; rfl
    rw [this a, this b, h]
  unfold idxQ
  rw [e]

theorem tok_set {M : Int} {ns : List ByteArray} {h : HD} (t : h.tok M ns) (k : Nat) {q q' : QD} (hq : h.queues[k]? = some q) (hg : q'.good) (hr : ∀ i ∈ q'.items, i.note.wrong = 0) (hn : q'.name = q.name) : (h.setQ k q').tok M ns := by
  refine ⟨good_setQ t.good k hg, fun x hx => ?_, ?_⟩
  · rcases List.mem_or_eq_of_mem_set hx with hx | rfl
    · exact t.right x hx
    · exact hr
  · rw [← t.names]
    unfold HD.setQ
    simp only [List.map_set, hn]
    obtain ⟨hk, rfl⟩ := List.getElem?_eq_some_iff.1 hq
    apply List.ext_getElem (by simp)
    intro i h1 h2
    rw [List.getElem_set]
    split
    · rename_i e; subst e; simp
    · rfl

theorem aside_right {h : HD} {k : Nat} {n : ND} (hr : ∀ q ∈ h.queues, ∀ i ∈ q.items, i.note.wrong = 0) (hn : n.wrong = 0) : (∀ q ∈ (asideF h k n).1.queues, ∀ i ∈ q.items, i.note.wrong = 0) ∧ (asideF h k n).1.queues.map QD.name = h.queues.map QD.name := by
  unfold asideF
  split
  · exact ⟨hr, rfl⟩
  · split
    · exact ⟨hr, rfl⟩
    · split
      · exact ⟨hr, rfl⟩
      · rename_i j hj hne _ q hq
        unfold putF
        split
        · exact ⟨hr, rfl⟩
        · obtain ⟨hk, rfl⟩ := List.getElem?_eq_some_iff.1 hq
          refine ⟨fun x hx => ?_, ?_⟩
          · rcases List.mem_or_eq_of_mem_set hx with hx | rfl
            · exact hr x hx
            · intro i hi
              rw [List.mem_append, List.mem_singleton] at hi
              rcases hi with hi | rfl
              · exact hr _ (List.getElem_mem hk) i hi
              · exact hn
          · apply List.ext_getElem (by simp)
            intro i h1 h2
            simp only [List.getElem_map, List.getElem_set]
            split
            · rename_i e; subst e; simp
            · rfl

theorem back_tok {M : Int} {ns : List ByteArray} {h : HD} (t : h.tok M ns) (k : Nat) {q : QD} (hq : h.queues[k]? = some q) (id turn : Int) : (backF h k q id turn).1.tok (M + 1) ns := by
  have hmem : q ∈ h.queues := List.mem_of_getElem? hq
  have hr := t.right q hmem
  refine ⟨good_back t.good k hmem id turn, ?_, ?_⟩
  · unfold backF
    split
    · exact t.right
    · split
      · exact t.right
      · rename_i i hi _ it hit
        have him : it ∈ q.items := List.mem_of_getElem? hit
        split
        · intro x hx
          rcases List.mem_or_eq_of_mem_set hx with hx | rfl
          · exact t.right x hx
          · intro y hy
            rcases List.mem_or_eq_of_mem_set hy with hy | rfl
            · exact hr y hy
            · exact hr it him
        · refine (aside_right (fun x hx => ?_) (hr it him)).1
          rcases List.mem_or_eq_of_mem_set hx with hx | rfl
          · exact t.right x hx
          · exact fun y hy => hr y (List.mem_of_mem_eraseIdx hy)
  · have hset : ∀ its, (h.setQ k ⟨q.name, q.limit, its⟩).queues.map QD.name = ns := fun its => by
      rw [← t.names]
      obtain ⟨hk, rfl⟩ := List.getElem?_eq_some_iff.1 hq
      unfold HD.setQ
      apply List.ext_getElem (by simp)
      intro i h1 h2
      simp only [List.getElem_map, List.getElem_set]
      split
      · rename_i e; subst e; simp
      · rfl
    unfold backF
    split
    · exact t.names
    · split
      · exact t.names
      · rename_i i hi _ it hit
        have him : it ∈ q.items := List.mem_of_getElem? hit
        split
        · exact hset _
        · refine Eq.trans (aside_right (h := h.setQ k ⟨q.name, q.limit, q.items.eraseIdx i⟩) (k := k) (n := it.note) (fun x hx => ?_) (hr it him)).2 (hset _)
          rcases List.mem_or_eq_of_mem_set hx with hx | rfl
          · exact t.right x hx
          · exact fun y hy => hr y (List.mem_of_mem_eraseIdx hy)

/-- How much is left to do. -/
def leftN (n k : Nat) (h : HD) : Nat := (n - k) * 9 + outs h k

theorem tick_skip {now : Int} {n k : Nat} {h : HD} {q : QD} (hk : k < n) (hq : h.queues[k]? = some q) (hi : idxI (lateB now) q.items = -1) : tickF now (n - k) k h = tickF now (n - (k + 1)) (k + 1) h := by
  obtain ⟨m, hm⟩ : ∃ m, n - k = m + 1 := ⟨n - k - 1, by omega⟩
  rw [hm, show n - (k + 1) = m by omega]
  simp only [tickF, lateF_none hq hi, List.nil_append]
theorem tick_back {now : Int} {n k : Nat} {h : HD} {q : QD} {i : Nat} (hk : k < n) (hq : h.queues[k]? = some q) (hi : idxI (lateB now) q.items = (i : Int)) (hil : i < q.items.length) :
    (tickF now (n - k) k h).1 = (tickF now (n - k) k (backF h k q q.items[i].id q.items[i].turn).1).1 ∧ (tickF now (n - k) k h).2 = (backF h k q q.items[i].id q.items[i].turn).2.1 ++ (tickF now (n - k) k (backF h k q q.items[i].id q.items[i].turn).1).2 := by
  obtain ⟨m, hm⟩ : ∃ m, n - k = m + 1 := ⟨n - k - 1, by omega⟩
  rw [hm]
  have ho := late_outs hq hi hil
  simp only [tickF, ← ho, lateF_some hq hi hil, List.append_assoc]
  exact ⟨trivial, trivial⟩
theorem left_skip {M : Int} {n k : Nat} {h : HD} (g : h.good M) (hk : k < n) : leftN n (k + 1) h < leftN n k h := by
  have := outs_le g (k + 1)
  unfold leftN
  omega
theorem left_back {now : Int} {n k : Nat} {h : HD} {q : QD} {i : Nat} (hq : h.queues[k]? = some q) (hi : idxI (lateB now) q.items = (i : Int)) (hil : i < q.items.length) : leftN n k (backF h k q q.items[i].id q.items[i].turn).1 + 1 = leftN n k h := by
  have := late_outs hq hi hil
  unfold leftN
  omega
theorem left_le {M : Int} {n k : Nat} {h : HD} (g : h.good M) (hn : n ≤ 4) : leftN n k h ≤ 44 := by
  have := outs_le g k
  unfold leftN
  omega
theorem back_ok {now : Int} {h : HD} {k : Nat} {q : QD} {i : Nat} (hi : idxI (lateB now) q.items = (i : Int)) (hil : i < q.items.length) : (backF h k q q.items[i].id q.items[i].turn).2.2 = 0 := by
  obtain ⟨j, hj⟩ := late_given hi hil
  obtain ⟨hjl, -, -⟩ := List.findIdx?_eq_some_iff_getElem.1 hj
  unfold backF
  rw [hj]
  simp only [List.getElem?_eq_getElem hjl]
  split <;> rfl
end Go.Proofs.Ytpehkoompadpaaa
