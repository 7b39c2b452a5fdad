/-
  hall.lateIn has all late items of a queue come back.
-/
import Derived.Test.YthdaccmjipomdabTickF
import Derived.Deep.LoopGhost
namespace Go.Proofs.Ythdaccmjipomdab
open Go.RowKit
set_option linter.unusedVariables false
set_option linter.unusedSimpArgs false

attribute [local go_sem ↓] Go.wp_at_zero Go.wp_at_succ

theorem backF_es (h : HD) (k : Nat) (q : QD) (id turn : Int) : (backF h k q id turn).2.1.length ≤ 2 := by
  unfold backF
  split
  · simp
  · split
    · simp
    · split
      · simp
      · simp only [List.length_cons]
        exact Nat.succ_le_succ (asideF_len _ _ _)

/-- What holds in the loop of 'lateIn'. -/
structure LI (P0 : Nat → Prop) (hb : Nat) (w : World) (v : Value) (now : Int) (k N : Nat) (M : Int) (h0 : HD) (n : Nat) (h : HD) (L : QuL) (P T : Nat → Prop) (es : List ED) (tv : Value) (wr : World) : Prop where
  hall : HallIn P hb wr v L h.next
  map : L.map Prod.fst = h.queues
  up : ∀ b, P0 b → P b
  dn : ∀ b, P b → P0 b ∨ Made w.heap.size wr.heap.size b
  told : OwnT T wr tv es
  tm : ∀ b, T b → Made w.heap.size wr.heap.size b
  tp : ∀ b, T b → ¬ P b
  tb : ¬ T hb
  keep : Keep (fun b => b < w.heap.size ∧ v.ownBlock ≠ some b ∧ b ≠ hb) w wr
  nN : n ≤ N
  good : h.good (M + ((N - n : Nat) : Int))
  len : h.queues.length = h0.queues.length
  outs : outs h k ≤ n
  eq1 : (lateF now k n h).1 = (lateF now k N h0).1
  eq2 : es ++ (lateF now k n h).2 = (lateF now k N h0).2
  esl : es.length ≤ 2 * (N - n)

section
variable {P0 : Nat → Prop} {hb : Nat} {w : World} {v : Value} {now : Int} {k N : Nat} {M : Int} {h0 : HD} {n : Nat} {h : HD} {L : QuL} {P T : Nat → Prop} {es : List ED} {tv : Value} {wr : World}

theorem LI.below (H : LI P0 hb w v now k N M h0 n h L P T es tv wr) {W : World} (hB : Below wr.heap.size wr W) : LI P0 hb w v now k N M h0 n h L P T es tv W := by
  have hz := hB.size
  have hkz := H.keep.size
  exact ⟨H.hall.below hB, H.map, H.up, fun b hb' => (H.dn b hb').imp id (fun h => ⟨h.1, by have := h.2; omega⟩), H.told.on hz (fun b hb' => hB.block b (H.tm b hb').2), fun b hb' => ⟨(H.tm b hb').1, by have := (H.tm b hb').2; omega⟩, H.tp, H.tb, ⟨hB.os.trans H.keep.os, hB.tape.trans H.keep.tape, hB.output.trans H.keep.output, by omega, fun b hb' => (hB.block b (by omega)).trans (H.keep.block b hb')⟩, H.nN, H.good, H.len, H.outs, H.eq1, H.eq2, H.esl⟩

theorem LI.done (H : LI P0 hb w v now k N M h0 n h L P T es tv wr) {q : QD} (hq : h.queues[k]? = some q) (hi : idxI (lateB now) q.items = -1) : InAns P0 hb w v (lateF now k N h0).1 (lateF now k N h0).2 tv wr := by
  have e1 := H.eq1
  have e2 := H.eq2
  rw [lateF_none hq hi] at e1 e2
  simp only [List.append_nil] at e2
  rw [← e1, ← e2]
  exact ⟨L, P, H.map, H.up, H.dn, H.hall, H.told.slice.sub fun b hb' => ⟨⟨H.tm b hb', H.tp b hb'⟩, rfl⟩, H.keep⟩
theorem LI.step (H : LI P0 hb w v now k N M h0 (n + 1) h L P T es tv wr) {q : QD} {i : Nat} (hq : h.queues[k]? = some q) (hi : idxI (lateB now) q.items = (i : Int)) (hil : i < q.items.length) {it : IT} (hit : it = q.items[i]) {L2 : QuL} {P2 T2 : Nat → Prop} {tv2 : Value} {w2 w3 : World}
    (e2 : L2.map Prod.fst = (backF h k q it.id it.turn).1.queues) (h12 : ∀ b, P b → P2 b) (h2 : ∀ b, P2 b → P b ∨ Made wr.heap.size w2.heap.size b) (hw : w2.heap.size ≤ w3.heap.size) (hH : HallIn P2 hb w3 v L2 (backF h k q it.id it.turn).1.next) (hT : OwnT T2 w3 tv2 (es ++ (backF h k q it.id it.turn).2.1)) (hTs : ∀ b, T2 b → T b ∨ Made wr.heap.size w3.heap.size b) (hTP : ∀ b, T2 b → ¬ P2 b) (hTb : ¬ T2 hb) (hK : Keep (fun b => b < wr.heap.size ∧ v.ownBlock ≠ some b ∧ b ≠ hb ∧ ¬ T b) wr w3) :
    LI P0 hb w v now k N M h0 n (backF h k q it.id it.turn).1 L2 P2 T2 (es ++ (backF h k q it.id it.turn).2.1) tv2 w3 := by
  have hz := H.keep.size
  have hz3 := hK.size
  have hn := H.nN
  have ho := late_outs hq hi hil
  rw [← hit] at ho
  have hl := lateF_some (n := n) hq hi hil
  rw [← hit] at hl
  have e1 := H.eq1
  have e3 := H.eq2
  rw [hl] at e1 e3
  have hou := H.outs
  have hb2 := backF_es h k q it.id it.turn
  have hel := H.esl
  refine ⟨hH, e2, fun b hb' => h12 b (H.up b hb'), fun b hb' => ?_, hT, fun b hb' => ?_, hTP, hTb, ⟨hK.os.trans H.keep.os, hK.tape.trans H.keep.tape, hK.output.trans H.keep.output, by omega, fun b hb' => (hK.block b ⟨by omega, hb'.2.1, hb'.2.2, fun t => by have := (H.tm b t).1; omega⟩).trans (H.keep.block b hb')⟩, by omega, ?_, (back_len _ _ _ _ _).trans H.len, by omega, e1, by rw [List.append_assoc]; exact e3, by rw [List.length_append]; omega⟩
  · rcases h2 b hb' with h | h
    · rcases H.dn b h with h | h
      · exact .inl h
      · exact .inr ⟨h.1, by have := h.2; omega⟩
    · exact .inr ⟨by have := h.1; omega, by have := h.2; omega⟩
  · rcases hTs b hb' with h | h
    · have := H.tm b h
      exact ⟨this.1, by have := this.2; omega⟩
    · exact ⟨by have := h.1; omega, h.2⟩
  · exact (good_back H.good k (List.mem_of_getElem? hq) it.id it.turn).mono (by omega)
end

set_option maxRecDepth 100000 in
set_option maxHeartbeats 3200000 in
theorem lateIn_any {P : Nat → Prop} {hb : Nat} {w : World} {g cap : Nat} {L : QuL} {h : HD} (H : HallIn P hb w (.slice (some ⟨g, 0, none⟩) L.length cap) L h.next) (e : L.map Prod.fst = h.queues) (k : Nat) (hk : k < h.queues.length) (M : Int) (hM : M ≤ 100000000) (hg : h.good M) (now : Int) :
    Calls Try.prog 78 #[.pointer (some ⟨hb, 0, none⟩), .int .i64 k, .int .i64 now] w fun r w' => ∃ ev, r = .returned ev ∧ InAns P hb w (.slice (some ⟨g, 0, none⟩) L.length cap) (lateF now k (outs h k) h).1 (lateF now k (outs h k) h).2 ev w' := by
  obtain ⟨i0, hi0, hz0, hz1, hz2⟩ := info_parts info92
  have hN8 := outs_le hg k
  obtain ⟨N, hN⟩ : ∃ N, N = outs h k := ⟨_, rfl⟩
  rw [← hN] at hN8 ⊢
  obtain ⟨m, hm⟩ : ∃ m, m = L.length := ⟨_, rfl⟩
  have H0 : LI P hb w (.slice (some ⟨g, 0, none⟩) L.length cap) now k N M h N h L P (fun _ => False) [] (.slice none 0 0) w :=
    ⟨H, e, fun _ h => h, fun _ h => .inl h, OwnT.nil _, fun _ h => h.elim, fun _ h => h.elim, fun h => h, ⟨rfl, rfl, rfl, Nat.le_refl _, fun _ _ => rfl⟩, Nat.le_refl _, by simpa using hg, rfl, by omega, rfl, rfl, by simp⟩
  rw [← hm] at H0 ⊢
  have hml : m ≤ 1000 := by have := congrArg List.length e; have h1 := hg.1; simp at this; omega
  have hkm : k < m := by have := congrArg List.length e; simp at this; omega
  have HM : Hid (m = h.queues.length) := by have := congrArg List.length e; simp at this; exact hm.trans this
  have HL0 : Hid _ := H0
  clear H e hg hN H0 hm
  go_enter Try.func78, Try.ntmps78
  go_wp2_with fail
  go_loopg [7] N (fun n tv wr => ∃ h' L' P' T es, LI P hb w (.slice (some ⟨g, 0, none⟩) m cap) now k N M h n h' L' P' T es tv wr)
  case atStart => exact ⟨_, _, _, _, _, HL0.out⟩
  case round =>
    obtain ⟨h', L', P', T, es, hI⟩ := hrel
    clear HL0
    have hkL : k < L'.length := by have h1 := hI.len; have h2 := congrArg List.length hI.map; have h3 := HM.out; simp at h2; omega
    have hmL : m = L'.length := by have h1 := hI.len; have h2 := congrArg List.length hI.map; have h3 := HM.out; simp at h2; omega
    have HI : Hid (LI P hb w (.slice (some ⟨g, 0, none⟩) m cap) now k N M h gk h' L' P' T es u7 wr) := hI
    obtain ⟨LG, hLG, hTL⟩ := hI.told
    obtain ⟨ta, tc, htv, -⟩ := own_shape hTL.row
    subst htv
    have HTL : Hid (LG.map Prod.fst = es ∧ OwnTL T wr (.slice ta LG.length tc) LG) := ⟨hLG, hTL⟩
    have HLG : Hid (LG.length ≤ 16) := by
      have h1 := congrArg List.length hLG
      have h2 := hI.esl
      simp at h1
      show LG.length ≤ 16
      omega
    clear hLG hTL
    obtain ⟨ia, ic, -, hIt, y0, y1, y2⟩ := hI.hall.at k hkL
    obtain ⟨b0, b1, b2, b3⟩ := hI.hall.box.b2
    obtain ⟨hgl, hgb, hbl, hgP⟩ := hI.hall.gl
    have hkh : k < h'.queues.length := by have h2 := congrArg List.length hI.map; simp at h2; omega
    have hqe : h'.queues[k] = (L'[k]'hkL).1 := by simp [← hI.map]
    obtain ⟨q, hq⟩ : ∃ q, q = h'.queues[k] := ⟨_, rfl⟩
    rw [← hqe, ← hq] at y0 y1 y2 hIt
    have HQ : Hid (h'.queues[k]? = some q ∧ q = h'.queues[k]) := ⟨by rw [hq]; exact List.getElem?_eq_getElem hkh, hq⟩
    have HG : Hid (h'.good (M + ((N - gk : Nat) : Int)) ∧ q.good) := ⟨hI.good, hI.good.2.2 q (by rw [hq]; exact List.getElem_mem hkh)⟩
    have HIT : Hid (SliceI (Under wr.heap.size) wr (.slice ia q.items.length ic) q.items) := hIt.sub fun b hb => ⟨hI.hall.lt b hb.1, rfl⟩
    have hgf := hI.hall.f
    have HML : Hid (m = L'.length) := hmL
    clear hI hIt hq hqe hmL
    rcases idxI_cases (lateB now) q.items with hi | ⟨i, hil, hi, -, -⟩
    · have HX : Hid (idxI (lateB now) q.items = -1) := hi
      clear hi
      go_wp2_with (go_at_call 45; refine (late_none _ q.name q.limit now q.items _ HIT.out HX.out).mono ?_; rintro r w1 ⟨rfl, hb1⟩)
      go_ret
      exact ⟨_, rfl, (HI.out.below ((hb1.alloc hb1.size _))).done HQ.out.1 HX.out⟩
    · have HX : Hid (idxI (lateB now) q.items = (i : Int)) := hi
      obtain ⟨n, hgk⟩ : ∃ n, gk = n + 1 := ⟨gk - 1, by have h1 := late_outs HQ.out.1 hi hil; have h2 := HI.out.outs; omega⟩
      subst hgk
      clear hi
      obtain ⟨it, hit⟩ : ∃ it, it = q.items[i] := ⟨_, rfl⟩
      have HITE : Hid (it = q.items[i]) := hit
      clear hit
      have hnx : 0 ≤ h'.next ∧ h'.next ≤ 1000000000 := by have h1 := HG.out.1.2.1; omega
      go_wp2_with (first
        | (go_at_call 45; refine (late_ok _ q.name q.limit now q.items i hil _ HIT.out HG.out.2.small HX.out).mono ?_; rw [← HITE.out]; rintro r w1 ⟨⟨p1, p2⟩, rfl, hn1, hb1⟩; obtain ⟨pa, pc, rfl, -⟩ := SliceV.shape hn1.1; obtain ⟨ba, bc, rfl, -⟩ := SliceV.shape hn1.2; simp only [IT.val]; have HI1 : Hid (LI P hb w (.slice (some ⟨g, 0, none⟩) m cap) now k N M h (n + 1) h' L' P' T es (.slice ta LG.length tc) (w1.alloc (.cells #[.int .i64 it.id, .int .i64 it.turn, .int .i64 it.tries, .bool it.out, .int .i64 it.due, .slice pa it.note.props.length pc, .slice ba it.note.body.length bc] 34))) := HI.out.below (hb1.alloc hb1.size _); have HB1 : Hid (Below wr.heap.size wr (w1.alloc (.cells #[.int .i64 it.id, .int .i64 it.turn, .int .i64 it.tries, .bool it.out, .int .i64 it.due, .slice pa it.note.props.length pc, .slice ba it.note.body.length bc] 34))) := hb1.alloc hb1.size _; clear hn1 hb1 y0 y1 y2 b0 b1 b2 hgf)
        | (go_at_call 74; refine (backIn_any (h := h') (L := L') (g := g) (cap := cap) (P := P') (by have := HI1.out.hall; rw [HML.out] at this; exact this) HI1.out.map k hkh (by have := HG.out.1.1; omega) hnx (fun x hx => ⟨(HG.out.1.2.2 x hx).small, fun j hj => ((HG.out.1.2.2 x hx).2.2 j hj).2.1⟩) it.id it.turn).mono ?_; rw [← HQ.out.2, ← HML.out]; rintro r w2 ⟨ev, rfl, hA⟩; obtain ⟨L2, P2, e2, h12, h2', hH2, hES, hK2⟩ := hA; obtain ⟨LE, hLE, hEL⟩ := hES; obtain ⟨ea, ec, rfl, -⟩ := hEL.1.shape; have hle : LE.length ≤ 2 := (by have h1 := backF_es h' k q it.id it.turn; rw [← hLE] at h1; simpa using h1); have HA : Hid _ := And.intro e2 (And.intro h12 (And.intro h2' (And.intro hH2 (And.intro hLE (And.intro hEL hK2))))); have HR3 : Hid (w2.ownsRow 0 92 6 (.slice ta LG.length tc) LG.length (cellsE LG)) := own_same HTL.out.2.row (fun b e => (hK2.block b (by have h1 := HTL.out.2.rowT b e; have h2 := HTL.out.2.lt b h1; have h3 := HB1.out.size; refine ⟨by omega, fun e' => ?_, fun e' => HI.out.tb (e' ▸ h1)⟩; simp [Value.ownBlock] at e'; exact HI.out.tp b h1 (e' ▸ hgP))).trans (HB1.out.block b (HTL.out.2.lt b (HTL.out.2.rowT b e)))); clear e2 h12 h2' hH2 hLE hK2)
        | (at_builtin; refine wpList_appV rfl (.tmp 37) (.tmp 38) 51 rfl 92 i0 _ 6 88 Try.underlying51 hi0 hz0 hz1 hz2 rfl (by omega) 0 (.slice ta LG.length tc) LG.length (cellsE LG) rfl HR3.out _ (.slice ea LE.length ec) LE.length (cellsE LE) rfl hEL.1 (cellsE_len LE) (cellsE_one LE hEL.2) (by have := HLG.out; unfold maxLen; omega) (by have := HLG.out; omega) (by omega) ?_; intro ao acap w3 ho3 hg3 hm3))
      obtain ⟨a1, a2, a3, a4, a5, a6, a7⟩ := HA.out
      have hTLW : OwnTL T (w1.alloc (.cells #[.int .i64 it.id, .int .i64 it.turn, .int .i64 it.tries, .bool it.out, .int .i64 it.due, .slice pa it.note.props.length pc, .slice ba it.note.body.length bc] 34)) (.slice ta LG.length tc) LG := HTL.out.2.on HB1.out.size (fun b hb => HB1.out.block b (HTL.out.2.lt b hb))
      obtain ⟨hH3, T2, hT2, hT2s, hT2P, hT2b, hK3⟩ := told_more (P1 := P') hTLW HI.out.tp HI.out.tb (fun b e => by simp [Value.ownBlock] at e; exact e ▸ hgP) a2 a3 a4 a6 a7 (by have := HB1.out.size; omega) ho3 hg3 hm3
      have hNEW := HI1.out.step HQ.out.1 HX.out hil HITE.out a1 a2 a3 hg3.size hH3 ⟨LG ++ LE, by rw [List.map_append, HTL.out.1, a5], hT2⟩ hT2s hT2P hT2b hK3
      go_roundg n
      case rel => exact ⟨_, _, _, _, _, hNEW⟩
      case measure => omega
end Go.Proofs.Ythdaccmjipomdab
