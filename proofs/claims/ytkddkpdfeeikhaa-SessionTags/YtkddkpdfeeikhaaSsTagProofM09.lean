/-
  BackIn; NLeaf; NWrong: texts laid together.
-/
import Derived.Test.YtkddkpdfeeikhaaSsTagProofM08
import Derived.Test.YtkddkpdfeeikhaaSsTagProofM01
/-
  hall.backIn has an item come back in a hall itself.
-/
namespace Go.Proofs.Ytkddkpdfeeikhaa
open Go.RowKit
set_option linter.unusedVariables false
set_option linter.unusedSimpArgs false

attribute [local go_sem ↓] Go.wp_at_zero Go.wp_at_succ

/-- Back, at a place. -/
def backF (h : HD) (k : Nat) (q : QD) (id turn : Int) : HD × List ED × Int :=
  match q.items.findIdx? (givenB id turn) with
  | none => (h, [], 6)
  | some i => match q.items[i]? with
    | none => (h, [], 6)
    | some it => if (backI it).tries < 3 then (h.setQ k ⟨q.name, q.limit, q.items.set i (backI it)⟩, [], 0) else
      ((asideF (h.setQ k ⟨q.name, q.limit, q.items.eraseIdx i⟩) k it.note).1, goneE q.name id :: (asideF (h.setQ k ⟨q.name, q.limit, q.items.eraseIdx i⟩) k it.note).2, 0)

theorem asideF_len (h : HD) (k : Nat) (n : ND) : (asideF h k n).2.length ≤ 1 := by
  unfold asideF
  split
  · simp
  · split
    · simp
    · split
      · simp
      · unfold putF; split <;> simp

theorem idxI_some {p : IT → Bool} {its : List IT} {i : Nat} (h : idxI p its = (i : Int)) : its.findIdx? p = some i := by
  unfold idxI at h
  cases hf : its.findIdx? p with
  | none => rw [hf] at h; simp at h
  | some j => rw [hf] at h; simp only at h; rw [show j = i by omega]
theorem idxI_none' {p : IT → Bool} {its : List IT} (h : idxI p its = -1) : its.findIdx? p = none := by
  unfold idxI at h
  cases hf : its.findIdx? p with
  | none => rfl
  | some j => rw [hf] at h; simp at h
theorem backF_none {h : HD} {k : Nat} {q : QD} {id turn : Int} (hi : idxI (givenB id turn) q.items = -1) : backF h k q id turn = (h, [], 6) := by
  unfold backF; rw [idxI_none' hi]
theorem backF_wait {h : HD} {k : Nat} {q : QD} {id turn : Int} {i : Nat} (hi : idxI (givenB id turn) q.items = (i : Int)) (hl : i < q.items.length) (ht : (backI q.items[i]).tries < 3) : backF h k q id turn = (h.setQ k ⟨q.name, q.limit, q.items.set i (backI q.items[i])⟩, [], 0) := by
  unfold backF; rw [idxI_some hi]; simp [hl, ht]
theorem backF_dead {h : HD} {k : Nat} {q : QD} {id turn : Int} {i : Nat} (hi : idxI (givenB id turn) q.items = (i : Int)) (hl : i < q.items.length) (ht : ¬ (backI q.items[i]).tries < 3) : backF h k q id turn = ((asideF (h.setQ k ⟨q.name, q.limit, q.items.eraseIdx i⟩) k q.items[i].note).1, goneE q.name id :: (asideF (h.setQ k ⟨q.name, q.limit, q.items.eraseIdx i⟩) k q.items[i].note).2, 0) := by
  unfold backF; rw [idxI_some hi]; simp [hl, ht]

/-- What holds in 'backIn' behind the store into the row. -/
structure BkT (P : Nat → Prop) (hb : Nat) (w : World) (g cap : Nat) (L : QuL) (k : Nat) (next : Int) (q : QD) (v : Value) (m : Nat) (ic : List Value) (W : World) : Prop where
  keep : Keep (fun b => b < w.heap.size ∧ b ≠ g ∧ b ≠ hb) w W
  hall : HallIn (fun b => P b ∨ Made w.heap.size m b) hb W (.slice (some ⟨g, 0, none⟩) L.length cap) (L.set k (q, v)) next
  q : Blk W m [.string q.name, .int .i64 q.limit, v]
  i : Blk W (m + 1) ic
  ml : w.heap.size ≤ m
  made : ∀ b, Made w.heap.size m b → W.heap[b]? = W.heap[b]?

theorem bk_put {P : Nat → Prop} {hb : Nat} {w w1 : World} {g cap : Nat} {L : QuL} {next : Int} {q : QD} {va : Option Addr} {vc : Nat} (ic : List Value) (H : HallIn P hb w (.slice (some ⟨g, 0, none⟩) L.length cap) L next) (h1 : Below w.heap.size w w1) (k : Nat) (hk : k < L.length) (hI : SliceI (Made w.heap.size w1.heap.size) w1 (.slice va q.items.length vc) q.items) :
    BkT P hb w g cap L k next q (.slice va q.items.length vc) w1.heap.size ic (((((w1.setCell ⟨g, k * 3, none⟩ (.string q.name)).setCell ⟨g, k * 3 + 1, none⟩ (.int .i64 q.limit)).setCell ⟨g, k * 3 + 2, none⟩ (.slice va q.items.length vc)).alloc (.cells #[.string q.name, .int .i64 q.limit, .slice va q.items.length vc] 76)).alloc (.cells ic.toArray 78)).drew ∧
      ∀ b, Made w.heap.size w1.heap.size b → (((((w1.setCell ⟨g, k * 3, none⟩ (.string q.name)).setCell ⟨g, k * 3 + 1, none⟩ (.int .i64 q.limit)).setCell ⟨g, k * 3 + 2, none⟩ (.slice va q.items.length vc)).alloc (.cells #[.string q.name, .int .i64 q.limit, .slice va q.items.length vc] 76)).alloc (.cells ic.toArray 78)).drew.heap[b]? = w1.heap[b]? := by
  obtain ⟨hgl, hgb, hbl, -⟩ := H.gl
  have z1 := h1.size
  obtain ⟨W, hW⟩ : ∃ W, W = (((w1.setCell ⟨g, k * 3, none⟩ (.string q.name)).setCell ⟨g, k * 3 + 1, none⟩ (.int .i64 q.limit)).setCell ⟨g, k * 3 + 2, none⟩ (.slice va q.items.length vc)) := ⟨_, rfl⟩
  have hz : W.heap.size = w1.heap.size := by rw [hW]; simp
  have far : ∀ b, b ≠ g → W.heap[b]? = w1.heap[b]? := fun b hb => by
    rw [hW, Below.heap_setCell _ _ _ _ hb, Below.heap_setCell _ _ _ _ hb, Below.heap_setCell _ _ _ _ hb]
  have hH : HallIn (fun b => P b ∨ Made w.heap.size w1.heap.size b) hb W (.slice (some ⟨g, 0, none⟩) L.length cap) (L.set k (q, .slice va q.items.length vc)) next := by
    rw [hW]
    refine (H.below h1).put rfl k hk q _ _ (fun b hb' => ?_) hI
    obtain ⟨h2, h3⟩ := hb'
    exact ⟨by omega, by omega, by omega⟩
  have hos : W.os = w1.os ∧ W.tape = w1.tape ∧ W.output = w1.output := by rw [hW]; exact ⟨rfl, rfl, rfl⟩
  rw [← hW]
  obtain ⟨V, hV⟩ : ∃ V, V = (W.alloc (.cells #[.string q.name, .int .i64 q.limit, .slice va q.items.length vc] 76)).alloc (.cells ic.toArray 78) := ⟨_, rfl⟩
  have hBW : Below W.heap.size W V := by rw [hV]; exact (below_alloc _ _).alloc (by simp) _
  have hq : Blk V w1.heap.size [.string q.name, .int .i64 q.limit, .slice va q.items.length vc] := by
    rw [hV, ← hz]; exact (Blk.new _ _ _).alloc _
  have hi : Blk V (w1.heap.size + 1) ic := by
    have := Blk.new (W.alloc (.cells #[.string q.name, .int .i64 q.limit, .slice va q.items.length vc] 76)) ic 78
    rw [World.size_alloc, hz] at this
    rw [hV]; exact this
  rw [← hV]
  have hD : Below W.heap.size W V.drew := hBW.drew
  refine ⟨⟨⟨hD.os.trans (hos.1.trans h1.os), hD.tape.trans (hos.2.1.trans h1.tape), hD.output.trans (hos.2.2.trans h1.output), by have := hD.size; omega, fun b hb => (hD.block b (by omega)).trans ((far b hb.2.1).trans (h1.block b hb.1))⟩, hH.below hD, hq, hi, z1, fun _ _ => rfl⟩, fun b hb => (hD.block b (by have := hb.2; omega)).trans (far b (by have := hb.1; omega))⟩

/-- The end of 'backIn', where an item goes. -/
theorem bk_end {P P2 T : Nat → Prop} {hb : Nat} {w wA wB w4 : World} {m g n cap : Nat} {tv : Value} {L2 : QuL} {h2 : HD} {LG LE : EnL} {es1 es2 : List ED} {ev : Value} {ao : Option Addr} {acap : Nat}
    (hml : w.heap.size ≤ m) (hmA : m ≤ wA.heap.size) (hP : ∀ b, P b → b < w.heap.size) (hbl : hb < w.heap.size) (hg1 : P g)
    (kA : Keep (fun b => b < w.heap.size ∧ b ≠ g ∧ b ≠ hb) w wA)
    (hT : OwnTL T wA tv LG) (hTl : ∀ b, T b → m ≤ b) (hLG : LG.map Prod.fst = es1)
    (e2 : L2.map Prod.fst = h2.queues) (hP12 : ∀ b, P b ∨ Made w.heap.size m b → P2 b) (hP2 : ∀ b, P2 b → (P b ∨ Made w.heap.size m b) ∨ Made wA.heap.size wB.heap.size b) (hH : HallIn P2 hb wB (.slice (some ⟨g, 0, none⟩) n cap) L2 h2.next)
    (hLE : LE.map Prod.fst = es2) (hE : SliceEL (fun b => Made wA.heap.size wB.heap.size b ∧ ¬ P2 b) wB ev LE) (hK : Keep (fun b => b < wA.heap.size ∧ (Value.slice (some ⟨g, 0, none⟩) n cap).ownBlock ≠ some b ∧ b ≠ hb) wA wB)
    (h3 : w4.ownsRow 0 30 6 (.slice ao (LG.length + LE.length) acap) (LG.length + LE.length) (cellsE LG ++ cellsE LE)) (hg : wB.grownBy w4 tv.ownBlock) (hm : Moved wB tv (.slice ao (LG.length + LE.length) acap)) :
    InAns P hb w (.slice (some ⟨g, 0, none⟩) n cap) h2 (es1 ++ es2) (.slice ao (LG.length + LE.length) acap) w4 := by
  have zA := kA.size
  have hown : ∀ b, (Value.slice (some ⟨g, 0, none⟩) n cap).ownBlock = some b → b = g := fun b e => by simp [Value.ownBlock] at e; exact e.symm
  obtain ⟨hH4, T2, hT2, hT2s, hT2P, -, hK4⟩ := told_more (P1 := fun b => P b ∨ Made w.heap.size m b) hT (fun b hb' hp => by
      have h1 := hTl b hb'
      rcases hp with hp | hp
      · have := hP b hp; omega
      · have := hp.2; omega) (fun hb' => by have := hTl hb hb'; omega) (fun b e => .inl (by rw [hown b e]; exact hg1)) hP12 hP2 hH hE hK (by omega) h3 hg hm
  have z4 := hK4.size
  refine ⟨L2, P2, e2, fun b hb' => hP12 b (.inl hb'), fun b hb' => ?_, hH4, ?_, ⟨hK4.os.trans kA.os, hK4.tape.trans kA.tape, hK4.output.trans kA.output, by omega, fun b hb' => ?_⟩⟩
  · rcases hP2 b hb' with (h | h) | h
    · exact .inl h
    · exact .inr ⟨h.1, by have := h.2; omega⟩
    · exact .inr ⟨by have := h.1; omega, hH4.lt b hb'⟩
  · have hS : SliceE T2 w4 (.slice ao (LG.length + LE.length) acap) (es1 ++ es2) := OwnT.slice ⟨LG ++ LE, by rw [List.map_append, hLG, hLE], hT2⟩
    refine hS.sub fun b hb' => ⟨⟨⟨?_, hT2.lt b hb'⟩, hT2P b hb'⟩, rfl⟩
    rcases hT2s b hb' with h | h
    · have := hTl b h; omega
    · have := h.1; omega
  · have hbg : b ≠ g := fun e => hb'.2.1 (by rw [e]; rfl)
    exact (hK4.block b ⟨by omega, hb'.2.1, hb'.2.2, fun t => by have := hTl b t; omega⟩).trans (kA.block b ⟨hb'.1, hbg, hb'.2.2⟩)

set_option maxRecDepth 100000 in
set_option maxHeartbeats 3200000 in
theorem backIn_any {P : Nat → Prop} {hb : Nat} {w : World} {g cap : Nat} {L : QuL} {h : HD} (H : HallIn P hb w (.slice (some ⟨g, 0, none⟩) L.length cap) L h.next) (e : L.map Prod.fst = h.queues) (k : Nat) (hk : k < h.queues.length) (hlen : h.queues.length ≤ 4194304) (hnx : 0 ≤ h.next ∧ h.next ≤ 1000000000) (hs : ∀ q ∈ h.queues, smallI q.items ∧ ∀ i ∈ q.items, i.fits) (id turn : Int) :
    Calls Try.prog 133 #[.pointer (some ⟨hb, 0, none⟩), .int .i64 k, .int .i64 id, .int .i64 turn] w fun r w' => ∃ ev, r = .returned (.tuple #[ev, .int .i64 (backF h k h.queues[k] id turn).2.2]) ∧ InAns P hb w (.slice (some ⟨g, 0, none⟩) L.length cap) (backF h k h.queues[k] id turn).1 (backF h k h.queues[k] id turn).2.1 ev w' := by
  have HH : Hid (HallIn P hb w (.slice (some ⟨g, 0, none⟩) L.length cap) L h.next) := H
  have HE : Hid (L.map Prod.fst = h.queues) := e
  have hkL : k < L.length := by rw [← e] at hk; simpa using hk
  have hq : h.queues[k] = (L[k]'hkL).1 := by simp [← e]
  have hll : L.length = h.queues.length := by rw [← e]; simp
  have hsk := hs _ (List.getElem_mem hk)
  rw [hq] at hsk ⊢
  have HS : Hid ((smallI L[k].1.items ∧ ∀ i ∈ L[k].1.items, i.fits) ∧ ∀ q ∈ h.queues, smallI q.items) := ⟨hsk, fun q hq => (hs q hq).1⟩
  have HLL : Hid (L.length = h.queues.length) := hll
  obtain ⟨ia, ic, -, hI, c0, c1, c2⟩ := H.at k hkL
  have HI : Hid (SliceI (Under w.heap.size) w (.slice ia L[k].1.items.length ic) L[k].1.items) := hI.sub fun b hb => ⟨H.lt b hb.1, rfl⟩
  obtain ⟨b0, b1, b2, b3⟩ := H.box.b2
  obtain ⟨hgl, hgb, -, -⟩ := H.gl
  have hlL : L.length ≤ 4194304 := by omega
  have hgf := H.f
  clear H hI hs hsk hll hlen e hq
  obtain ⟨q, hq⟩ : ∃ q, q = L[k].1 := ⟨_, rfl⟩
  rw [← hq] at c0 c1 c2 HI HS ⊢
  have HQ : Hid (q = L[k].1) := hq
  clear hq
  rcases idxI_cases (givenB id turn) q.items with hi | ⟨i, hil, hi, -, -⟩
  · have HX : Hid (idxI (givenB id turn) q.items = -1) := hi
    clear hi
    go_enter Try.func133, Try.ntmps133
    go_wp2_with (go_at_call 151; refine (back_none _ q.name q.limit id turn q.items _ HI.out HX.out).mono ?_; rintro r w1 ⟨rfl, hb1⟩)
    refine bodyPost_ret (v := .tuple #[.slice none 0 0, .int .i64 6]) (by simp [results, Try.results133, go_sem, *]; done) rfl ?_
    rw [backF_none HX.out]
    exact ⟨_, rfl, InAns.none HH.out HE.out ((hb1.alloc (by have := hb1.size; omega) _).alloc (by have := hb1.size; simp; omega) _)⟩
  · have HX : Hid (idxI (givenB id turn) q.items = (i : Int)) := hi
    have hfit := HS.out.1.2 _ (List.getElem_mem hil)
    have HF : Hid q.items[i].fits := hfit
    clear hi hfit
    by_cases htr : (backI q.items[i]).tries < 3
    · have HT : Hid ((backI q.items[i]).tries < 3) := htr
      clear htr
      obtain ⟨its', hits⟩ : ∃ its', its' = q.items.set i (backI q.items[i]) := ⟨_, rfl⟩
      have HIT : Hid (its' = q.items.set i (backI q.items[i])) := hits
      clear hits
      go_enter Try.func133, Try.ntmps133
      go_upto_region 4 with (go_at_call 151; refine (back_new _ q.name q.limit id turn q.items i hil _ HI.out HS.out.1.1 HX.out HF.out HT.out).mono ?_; rw [← HIT.out]; rintro r w1 ⟨v1, rfl, hv1, hb1⟩; obtain ⟨va, vc, rfl⟩ := hv1.shp; have HV1 : Hid (SliceI (Made w.heap.size w1.heap.size) w1 (.slice va its'.length vc) its') := hv1; have HB1 : Hid (Below w.heap.size w w1) := hb1; clear hv1)
      have H1 := HH.out.below HB1.out
      obtain ⟨d0, d1, d2, d3⟩ := H1.box.b2
      obtain ⟨ja, jc, -, -, y0, y1, y2⟩ := H1.at k hkL
      obtain ⟨hgw, -, -, -⟩ := H1.gl
      have hgf' := H1.f
      clear H1 b0 b1 b2 c0 c1 c2 hgf
      go_cut [] (fun wx => BkT P hb w g cap L k h.next ⟨q.name, q.limit, its'⟩ (.slice va its'.length vc) w1.heap.size [.int .i64 0, .int .i64 0, .int .i64 0, .bool false, .int .i64 0, .slice none 0 0, .slice none 0 0] wx)
      case first =>
        go_region_law (fail)
        all_goals
          go_wp2_with fail
          go_meet
          exact (bk_put (q := ⟨q.name, q.limit, its'⟩) _ HH.out HB1.out k hkL HV1.out).1
      case rest =>
        have HC : Hid _ := hcut
        clear hcut d0 d1 d2 y0 y1 y2 hgf'
        go_wp2_with fail
        refine bodyPost_ret (v := .tuple #[.slice none 0 0, .int .i64 0]) (by simp [results, Try.results133, go_sem, *]; done) rfl ?_
        rw [backF_wait HX.out hil HT.out]
        have hz := HC.out.i.lt
        refine ⟨_, rfl, _, _, ?_, fun b hb => .inl hb, fun b hb => hb.imp (fun h => h) (fun h => ⟨h.1, by have := h.2; omega⟩), HC.out.hall, SliceE.nil _ _, ?_⟩
        · rw [List.map_set, HE.out, HIT.out]; rfl
        · have hk := HC.out.keep
          exact ⟨hk.os, hk.tape, hk.output, hk.size, fun b hb => hk.block b ⟨hb.1, fun e => hb.2.1 (by rw [e]; rfl), hb.2.2⟩⟩
    · have HT : Hid (¬ (backI q.items[i]).tries < 3) := htr
      clear htr
      obtain ⟨its', hits⟩ : ∃ its', its' = q.items.eraseIdx i := ⟨_, rfl⟩
      have HIT : Hid (its' = q.items.eraseIdx i) := hits
      clear hits
      obtain ⟨it, hit⟩ : ∃ it, it = q.items[i] := ⟨_, rfl⟩
      have HIE : Hid (it = q.items[i]) := hit
      clear hit
      obtain ⟨it2, hit2⟩ : ∃ it2, it2 = backI it := ⟨_, rfl⟩
      have HI2 : Hid (it2 = backI it) := hit2
      clear hit2
      go_enter Try.func133, Try.ntmps133
      go_upto_region 4 with (go_at_call 151; refine (back_deadN _ q.name q.limit id turn q.items i hil _ HI.out HS.out.1.1 HX.out HF.out HT.out).mono ?_; rw [← HIT.out, ← HIE.out, ← HI2.out]; rintro r w1 ⟨v1, ⟨p1, p2⟩, rfl, hv1, hn1, hb1⟩; obtain ⟨va, vc, rfl⟩ := hv1.shp; obtain ⟨pa, pc, rfl, -⟩ := SliceV.shape hn1.1; obtain ⟨ba, bc, rfl, -⟩ := SliceV.shape hn1.2; have HV1 : Hid (SliceI (Made w.heap.size w1.heap.size) w1 (.slice va its'.length vc) its') := hv1; have HN1 : Hid (NoteIs (Made w.heap.size w1.heap.size) w1 (.slice pa it.note.props.length pc, .slice ba it.note.body.length bc) it.note) := hn1; have HB1 : Hid (Below w.heap.size w w1) := hb1; clear hv1 hn1; simp only [IT.val])
      have H1 := HH.out.below HB1.out
      obtain ⟨d0, d1, d2, d3⟩ := H1.box.b2
      obtain ⟨ja, jc, -, -, y0, y1, y2⟩ := H1.at k hkL
      obtain ⟨hgw, -, -, -⟩ := H1.gl
      have hgf' := H1.f
      clear H1 b0 b1 b2 c0 c1 c2 hgf
      go_cut [] (fun wx => BkT P hb w g cap L k h.next ⟨q.name, q.limit, its'⟩ (.slice va its'.length vc) w1.heap.size [.int .i64 it2.id, .int .i64 it2.turn, .int .i64 it2.tries, .bool it2.out, .int .i64 it2.due, .slice pa it.note.props.length pc, .slice ba it.note.body.length bc] wx ∧ ∀ b, Made w.heap.size w1.heap.size b → wx.heap[b]? = w1.heap[b]?)
      case first =>
        go_region_law (fail)
        all_goals
          go_wp2_with fail
          go_meet
          exact bk_put (q := ⟨q.name, q.limit, its'⟩) _ HH.out HB1.out k hkL HV1.out
      case rest =>
        obtain ⟨hc1, hc2⟩ := hcut
        have HC : Hid _ := hc1
        have HNC : Hid (NoteIs (Made w.heap.size w1.heap.size) wc (.slice pa it.note.props.length pc, .slice ba it.note.body.length bc) it.note) := HN1.out.sub fun b hb => ⟨hb, hc2 b hb⟩
        obtain ⟨e0, e1, e2, e3, e4⟩ := hc1.q.b3
        obtain ⟨⟨f0, f1, f2, f3⟩, ⟨f4, f5, f6⟩, f7, f8⟩ := hc1.i.b7
        clear hc1 hc2 d0 d1 d2 y0 y1 y2 hgf'
        have hmz := HC.out.i.lt
        have HSM : Hid (it.note.small) := by rw [HIE.out]; exact HS.out.1.1.2 _ (List.getElem_mem hil)
        have HSE : Hid ((L.set k ((⟨q.name, q.limit, its'⟩ : QD), Value.slice va its'.length vc)).map Prod.fst = (h.setQ k ⟨q.name, q.limit, its'⟩).queues) := by rw [List.map_set, HE.out]; rfl
        have HSS : Hid (∀ x ∈ (h.setQ k ⟨q.name, q.limit, its'⟩).queues, smallI x.items) := fun x hx => by
          rcases List.mem_or_eq_of_mem_set hx with hx | rfl
          · exact HS.out.2 x hx
          · rw [HIT.out]; exact small_erase HS.out.1.1 i
        have HSL : Hid ((h.setQ k ⟨q.name, q.limit, its'⟩).queues.length ≤ 4194304 ∧ k < (h.setQ k ⟨q.name, q.limit, its'⟩).queues.length) := by
          have := HLL.out
          constructor <;> simp [HD.setQ] <;> omega
        obtain ⟨i0, hi0, hz0, hz1, hz2⟩ := info_parts info92
        go_wp2_with fail
        go_region_law (first
          | (go_simp; go_at_call 147; refine (gone_any q.name _ [id] (by simp) _ ?_).mono ?_; (exact (row_any wc [.int .i64 id] 3 1 (by simp [maxLen])).sub fun b hb => ⟨by show b < _; simp; omega, rfl⟩); rintro r w2 ⟨tv, rfl, ho2, hb2⟩; have hb2' : Below wc.heap.size wc w2 := (below_alloc wc (.cells #[.int .i64 id] 3)).trans (Below.mono (B := wc.heap.size + 1) ⟨hb2.os, hb2.tape, hb2.output, by simpa using hb2.size, fun b hb => hb2.block b (by simpa using hb)⟩ (by omega)); obtain ⟨LG, hLG, hT⟩ := ho2.told; obtain ⟨ta, tc, rfl, -⟩ := own_shape hT.row; have HT2 : Hid (LG.map Prod.fst = [goneE q.name id] ∧ OwnTL (Made wc.heap.size w2.heap.size) w2 (.slice ta LG.length tc) LG) := ⟨hLG, ⟨hT.row, fun b e => (by have := hT.rowT b e; exact ⟨by have := this.1; simp at this; omega, this.2⟩), fun x hx => (hT.notes x hx).sub fun b hb => ⟨⟨⟨by have := hb.1.1; simp at this; omega, hb.1.2⟩, hb.2⟩, rfl⟩, fun b hb => hb.2⟩⟩; have hlg : LG.length = 1 := (by have := congrArg List.length hLG; simpa using this); have HLG : Hid (LG.length = 1) := hlg; have HB2 : Hid (Below wc.heap.size wc w2) := hb2'; obtain ⟨⟨f0', f1', f2', f3'⟩, ⟨f4', f5', f6'⟩, f7', f8'⟩ := (HC.out.i.below hb2' HC.out.i.lt).b7; clear hb2 hb2' ho2 hT hLG hlg)
          | (go_simp; go_at_call 152; refine (aside_any (h := h.setQ k ⟨q.name, q.limit, its'⟩) (L := L.set k (⟨q.name, q.limit, its'⟩, .slice va its'.length vc)) (g := g) (cap := cap) (P := fun b => P b ∨ Made w.heap.size w1.heap.size b) ?_ HSE.out k HSL.out.2 HSL.out.1 hnx HSS.out _ _ it.note ?_ HSM.out).mono ?_; (rw [List.length_set]; exact (HC.out.hall.below HB2.out).on (Nat.le_refl _) (fun _ _ => rfl)); (exact HNC.out.sub fun b hb => ⟨⟨by have h1 := HB2.out.size; have h2 := hb.2; show b < w2.heap.size; omega, by have := hb.1; omega, by have := hb.1; omega⟩, HB2.out.block b (by have := hb.2; omega)⟩); rintro r w3 ⟨ev, rfl, hA⟩; rw [List.length_set] at hA; obtain ⟨L2, P2, e2', h12, h2', hH2, hES, hK2⟩ := hA; obtain ⟨LE, hLE, hEL⟩ := hES; obtain ⟨ea, ec, rfl, -⟩ := hEL.1.shape; have hle : LE.length ≤ 1 := (by have h1 := asideF_len (h.setQ k ⟨q.name, q.limit, its'⟩) k it.note; rw [← hLE] at h1; simpa using h1); have HA : Hid _ := And.intro e2' (And.intro h12 (And.intro h2' (And.intro hH2 (And.intro hLE (And.intro hEL hK2))))); have HR3 : Hid (w3.ownsRow 0 30 6 (.slice ta LG.length tc) LG.length (cellsE LG)) := own_same HT2.out.2.row (fun b e => hK2.block b (by have h1 := HT2.out.2.rowT b e; have h2 := h1.1; refine ⟨h1.2, fun e' => ?_, by omega⟩; simp [Value.ownBlock] at e'; omega)); clear e2' h12 h2' hH2 hLE hK2)
          | (refine step_appV (by rfl) _ _ 37 (by rfl) 30 i0 _ 6 88 Try.underlying37 hi0 hz0 hz1 hz2 rfl (by omega) 0 (.slice ta LG.length tc) LG.length (cellsE LG) (by rfl) HR3.out _ (.slice ea LE.length ec) LE.length (cellsE LE) (by rfl) hEL.1 (cellsE_len LE) (cellsE_one LE hEL.2) (by have := HLG.out; unfold maxLen; omega) (by have := HLG.out; omega) (by omega) ?_; intro ao acap w4 ho4 hg4 hm4))
        all_goals
          have hz2 := HB2.out.size
          have hk0 := HC.out.keep
          have hz00 := hk0.size
          obtain ⟨a1, a2, a3, a4, a5, a6, a7⟩ := HA.out
          have END := bk_end (P := P) (P2 := P2) (hb := hb) (w := w) (es1 := [goneE q.name id]) HC.out.ml (by omega) HH.out.lt b3 HH.out.gl.2.2.2 ⟨HB2.out.os.trans hk0.os, HB2.out.tape.trans hk0.tape, HB2.out.output.trans hk0.output, by omega, fun b hb => (HB2.out.block b (by omega)).trans (hk0.block b hb)⟩ HT2.out.2 (fun b hb => by have := hb.1; omega) HT2.out.1 a1 a2 a3 a4 a5 a6 a7 ho4 hg4 hm4
          clear a1 a2 a3 a4 a5 a6 a7 ho4 hg4 hm4 hEL hk0
          have HEND : Hid _ := END
          clear END
          go_wp2_with fail
          refine bodyPost_ret (v := .tuple #[.slice ao (LG.length + LE.length) acap, .int .i64 0]) (by simp [results, Try.results133, go_sem, *]; done) rfl ?_
          rw [backF_dead HX.out hil (by have := HT.out; omega), ← HIT.out, ← HIE.out]
          exact ⟨_, rfl, HEND.out⟩
end Go.Proofs.Ytkddkpdfeeikhaa

/-
  The leaves of package note: isKind, hasStray, inRange, Key and wrongProp answer what the functions below say, and turn nothing that was there.
-/
namespace Go.Proofs.Ytkddkpdfeeikhaa
open Go.RowKit
set_option linter.unusedVariables false
set_option linter.unusedSimpArgs false

def kindB (k : Int) : Bool := k == 1 || k == 2 || k == 3

set_option maxHeartbeats 400000 in
theorem isKind_any (k : Int) (w : World) :
    Calls Try.prog 134 #[.int .i64 k] w fun e w' => e = .returned (.bool (kindB k)) ∧ w' = w := by
  go_enter Try.func134, Try.ntmps134
  go_wp2
  all_goals (go_ret; exact ⟨by simp [kindB, *], rfl⟩)

def strayB (kind n : Int) (text : ByteArray) : Bool := if kind == 2 then n != 0 else !text.toList.isEmpty

set_option maxHeartbeats 400000 in
theorem hasStray_any (key : ByteArray) (kind n : Int) (text : ByteArray) (w : World) :
    Calls Try.prog 136 #[.agg #[.string key, .int .i64 kind, .int .i64 n, .string text]] w fun e w' => e = .returned (.bool (strayB kind n text)) ∧ Below w.heap.size w w' := by
  go_enter Try.func136, Try.ntmps136
  go_wp2
  all_goals (go_ret; exact ⟨ret_bool (by simp [strayB, *]), (Below.refl _ _).alloc (Nat.le_refl _) _⟩)

def rangeB (kind n : Int) : Bool := if kind == 1 then decide (-1073741824 ≤ n ∧ n ≤ 1073741824) else if kind == 3 then n == 0 || n == 1 else true

set_option maxHeartbeats 400000 in
theorem inRange_any (key : ByteArray) (kind n : Int) (text : ByteArray) (w : World) :
    Calls Try.prog 135 #[.agg #[.string key, .int .i64 kind, .int .i64 n, .string text]] w fun e w' => e = .returned (.bool (rangeB kind n)) ∧ Below w.heap.size w w' := by
  go_enter Try.func135, Try.ntmps135
  go_wp2
  all_goals go_ret
  all_goals refine ⟨ret_bool ?_, (Below.refl _ _).alloc (Nat.le_refl _) _⟩
  all_goals (simp [rangeB, *] <;> try omega)

def lowB (c : UInt8) : Bool := 97 ≤ c && c ≤ 122
def keyB (s : ByteArray) : Bool := 1 ≤ s.size && s.size ≤ 8 && s.data.toList.all lowB

theorem take_snoc (s : ByteArray) (k : Nat) (h : k < s.size) : s.data.toList.take (k + 1) = s.data.toList.take k ++ [s[k]] := by
  rw [List.take_succ_eq_append_getElem (by simpa using h)]; rfl
theorem low_iff (c : UInt8) : lowB c = true ↔ (97 : Int) ≤ c.toNat ∧ (c.toNat : Int) ≤ 122 := by
  simp [lowB, UInt8.le_iff_toNat_le]; omega

theorem all_step (s : ByteArray) (k : Nat) (h : k < s.size) (ha : (s.data.toList.take k).all lowB = true) (h1 : ¬ (s[k].toNat : Int) < 97) (h2 : ¬ (122 : Int) < s[k].toNat) : (s.data.toList.take (k+1)).all lowB = true := by
  rw [take_snoc s k h, List.all_append, ha]; simp [low_iff]; omega
theorem all_stop (s : ByteArray) (k : Nat) (h : k < s.size) (h1 : (s[k].toNat : Int) < 97 ∨ (122 : Int) < s[k].toNat) : s.data.toList.all lowB = false := by
  rw [Bool.eq_false_iff]
  intro hh
  rw [List.all_eq_true] at hh
  have := (low_iff _).1 (hh s[k] (by have : s[k] = s.data.toList[k]'(by simpa using h) := rfl
                                     rw [this]; exact List.getElem_mem _))
  omega

set_option maxHeartbeats 400000 in
theorem key_any (s : ByteArray) (w : World) (hs : s.size ≤ maxLen) :
    Calls Try.prog 114 #[.string s] w fun e w' => e = .returned (.bool (keyB s)) ∧ w' = w := by
  unfold maxLen at hs
  by_cases h1 : 1 ≤ s.size
  case neg =>
    go_enter Try.func114, Try.ntmps114
    go_wp2
    all_goals (go_ret; exact ⟨ret_bool (by simp [keyB]; omega), rfl⟩)
  by_cases h2 : s.size ≤ 8
  case neg =>
    go_enter Try.func114, Try.ntmps114
    go_wp2
    all_goals (go_ret; exact ⟨ret_bool (by simp [keyB]; omega), rfl⟩)
  go_enter Try.func114, Try.ntmps114
  go_wp2
  go_loop [14] (fun i => ∃ k : Nat, k ≤ s.size ∧ i = .int .i64 k ∧ (s.data.toList.take k).all lowB = true) (fun i => s.size - (intOf i).toNat)
  case atStart => exact ⟨0, Nat.zero_le _, rfl, rfl⟩
  case round =>
    obtain ⟨k, hk, rfl, ha⟩ := hrel
    have HA : Hid ((s.data.toList.take k).all lowB = true) := ha
    clear ha
    by_cases hlt : k < s.size
    · by_cases h3 : (s[k].toNat : Int) < 97
      · go_wp2
        go_ret
        exact ⟨ret_bool (by simp [keyB, all_stop s k hlt (Or.inl h3)]), rfl⟩
      · by_cases h4 : (122 : Int) < s[k].toNat
        · go_wp2
          go_ret
          exact ⟨ret_bool (by simp [keyB, all_stop s k hlt (Or.inr h4)]), rfl⟩
        · go_wp2
          go_round
          case rel => exact ⟨k + 1, by omega, by go_num, all_step s k hlt HA.out h3 h4⟩
          case measure => simp [intOf]; omega
    · go_wp2
      go_ret
      have e : k = s.size := by omega
      have HB := HA.out
      rw [e, List.take_of_length_le (by simp)] at HB
      exact ⟨ret_bool (by simp [keyB, h1, h2, HB]), rfl⟩

def wrongP (key : ByteArray) (kind n : Int) (text : ByteArray) : Int :=
  if !keyB key then 7 else if !kindB kind then 1 else if !rangeB kind n then 3 else if kind == 2 && 12 < text.size then 4 else if strayB kind n text then 2 else 0

set_option maxHeartbeats 1000000 in
theorem wrongProp_any (key : ByteArray) (kind n : Int) (text : ByteArray) (w : World) (hs : key.size ≤ maxLen) (ht : text.size ≤ maxLen) :
    Calls Try.prog 115 #[.agg #[.string key, .int .i64 kind, .int .i64 n, .string text]] w fun e w' => e = .returned (.int .i64 (wrongP key kind n text)) ∧ Below w.heap.size w w' := by
  have ht' := ht
  unfold maxLen at ht'
  cases hk : keyB key
  · go_enter Try.func115, Try.ntmps115
    go_wp2_with (go_at_call 114; refine (key_any key _ hs).mono ?_; rintro e w1 ⟨rfl, rfl⟩)
    go_ret
    exact ⟨ret_i64 (by simp [wrongP, hk]), (Below.refl _ _).alloc (Nat.le_refl _) _⟩
  cases hk2 : kindB kind
  · go_enter Try.func115, Try.ntmps115
    go_wp2_with (first
    | (go_at_call 114; refine (key_any key _ hs).mono ?_; rintro e w1 ⟨rfl, rfl⟩)
    | (go_at_call 134; refine (isKind_any _ _).mono ?_; rintro e w1 ⟨rfl, rfl⟩))
    go_ret
    exact ⟨ret_i64 (by simp [wrongP, hk, hk2]), (Below.refl _ _).alloc (Nat.le_refl _) _⟩
  cases hk3 : rangeB kind n
  · go_enter Try.func115, Try.ntmps115
    go_wp2_with (first
    | (go_at_call 114; refine (key_any key _ hs).mono ?_; rintro e w1 ⟨rfl, rfl⟩)
    | (go_at_call 134; refine (isKind_any _ _).mono ?_; rintro e w1 ⟨rfl, rfl⟩)
    | (go_at_call 135; refine (inRange_any _ _ _ _ _).mono ?_; rintro e w1 ⟨rfl, hb1⟩; obtain ⟨hc1, hf1⟩ := bcell hb1))
    go_ret
    exact ⟨ret_i64 (by simp [wrongP, hk, hk2, hk3]), ((Below.refl _ _).alloc (Nat.le_refl _) _).trans (hb1.mono (by simp))⟩
  by_cases h5 : kind = 2
  · subst h5
    by_cases h6 : 12 < text.size
    · go_enter Try.func115, Try.ntmps115
      go_wp2_with (first
      | (go_at_call 114; refine (key_any key _ hs).mono ?_; rintro e w1 ⟨rfl, rfl⟩)
      | (go_at_call 134; refine (isKind_any _ _).mono ?_; rintro e w1 ⟨rfl, rfl⟩)
      | (go_at_call 135; refine (inRange_any _ _ _ _ _).mono ?_; rintro e w1 ⟨rfl, hb1⟩; obtain ⟨hc1, hf1⟩ := bcell hb1; have hz1 := hb1.size)
      | (go_at_call 136; refine (hasStray_any _ _ _ _ _).mono ?_; rintro e w2 ⟨rfl, hb2⟩))
      go_ret
      exact ⟨ret_i64 (by simp [wrongP, hk, hk2, hk3, h6]), ((Below.refl _ _).alloc (Nat.le_refl _) _).trans (hb1.mono (by simp))⟩
    · cases h7 : strayB 2 n text
      all_goals
        go_enter Try.func115, Try.ntmps115
        go_wp2_with (first
        | (go_at_call 114; refine (key_any key _ hs).mono ?_; rintro e w1 ⟨rfl, rfl⟩)
        | (go_at_call 134; refine (isKind_any _ _).mono ?_; rintro e w1 ⟨rfl, rfl⟩)
        | (go_at_call 135; refine (inRange_any _ _ _ _ _).mono ?_; rintro e w1 ⟨rfl, hb1⟩; obtain ⟨hc1, hf1⟩ := bcell hb1; have hz1 := hb1.size)
        | (go_at_call 136; refine (hasStray_any _ _ _ _ _).mono ?_; rintro e w2 ⟨rfl, hb2⟩))
        go_ret
        exact ⟨ret_i64 (by simp [wrongP, hk, hk2, hk3, h6, h7]), (((Below.refl _ _).alloc (Nat.le_refl _) _).trans (hb1.mono (by simp))).trans (hb2.mono (by have := hb1.size; simp at this; omega))⟩
  · have h5' : (kind == 2) = false := by simpa using h5
    cases h7 : strayB kind n text
    all_goals
      go_enter Try.func115, Try.ntmps115
      go_wp2_with (first
      | (go_at_call 114; refine (key_any key _ hs).mono ?_; rintro e w1 ⟨rfl, rfl⟩)
      | (go_at_call 134; refine (isKind_any _ _).mono ?_; rintro e w1 ⟨rfl, rfl⟩)
      | (go_at_call 135; refine (inRange_any _ _ _ _ _).mono ?_; rintro e w1 ⟨rfl, hb1⟩; obtain ⟨hc1, hf1⟩ := bcell hb1; have hz1 := hb1.size)
      | (go_at_call 136; refine (hasStray_any _ _ _ _ _).mono ?_; rintro e w2 ⟨rfl, hb2⟩))
      go_ret
      exact ⟨ret_i64 (by simp [wrongP, hk, hk2, hk3, h5, h7]), (((Below.refl _ _).alloc (Nat.le_refl _) _).trans (hb1.mono (by simp))).trans (hb2.mono (by have := hb1.size; simp at this; omega))⟩
end Go.Proofs.Ytkddkpdfeeikhaa

/-
  note.Wrong answers what wrongN says of any note's properties and of its body's length.
-/
namespace Go.Proofs.Ytkddkpdfeeikhaa
open Go.RowKit
set_option linter.unusedVariables false
set_option linter.unusedSimpArgs false

def PD.wrong (p : PD) : Int := wrongP p.key p.kind p.n p.text
def PD.fitN (p : PD) : Prop := p.key.size ≤ maxLen ∧ p.text.size ≤ maxLen

def PropAt (w : World) (b off : Nat) (p : PD) : Prop :=
  w.cell? ⟨b, off, none⟩ = some (.string p.key) ∧ w.cell? ⟨b, off + 1, none⟩ = some (.int .i64 p.kind) ∧ w.cell? ⟨b, off + 2, none⟩ = some (.int .i64 p.n) ∧ w.cell? ⟨b, off + 3, none⟩ = some (.string p.text)

def PropsAt (B : Nat) (w : World) (a : Option Addr) (ps : List PD) : Prop :=
  ∀ i (h : i < ps.length), ∃ b off, a = some ⟨b, off, none⟩ ∧ b < B ∧ PropAt w b (off + i * 4) ps[i]

def BytesAt (B : Nat) (w : World) (a : Option Addr) (bs : List UInt8) : Prop :=
  ∀ i (h : i < bs.length), ∃ b off, a = some ⟨b, off, none⟩ ∧ b < B ∧ w.cell? ⟨b, off + i, none⟩ = some (.int .u8 bs[i].toNat)

theorem PropsAt.mono {B B' : Nat} {w : World} {a : Option Addr} {ps : List PD} (h : PropsAt B w a ps) (hb : B ≤ B') : PropsAt B' w a ps := by
  intro i hi
  obtain ⟨b, off, rfl, hlt, h0⟩ := h i hi
  exact ⟨b, off, rfl, by omega, h0⟩
theorem BytesAt.mono {B B' : Nat} {w : World} {a : Option Addr} {bs : List UInt8} (h : BytesAt B w a bs) (hb : B ≤ B') : BytesAt B' w a bs := by
  intro i hi
  obtain ⟨b, off, rfl, hlt, h0⟩ := h i hi
  exact ⟨b, off, rfl, by omega, h0⟩
theorem PropsAt.same {B : Nat} {w w' : World} {a : Option Addr} {ps : List PD} (h : PropsAt B w a ps) (hb : ∀ k, k < B → w'.heap[k]? = w.heap[k]?) : PropsAt B w' a ps := by
  intro i hi
  obtain ⟨b, off, rfl, hlt, h0, h1, h2, h3⟩ := h i hi
  have hc : ∀ o, w'.cell? ⟨b, o, none⟩ = w.cell? ⟨b, o, none⟩ := fun o => World.cell?_of_block (hb b hlt)
  exact ⟨b, off, rfl, hlt, (hc _).trans h0, (hc _).trans h1, (hc _).trans h2, (hc _).trans h3⟩
theorem BytesAt.same {B : Nat} {w w' : World} {a : Option Addr} {bs : List UInt8} (h : BytesAt B w a bs) (hb : ∀ k, k < B → w'.heap[k]? = w.heap[k]?) : BytesAt B w' a bs := by
  intro i hi
  obtain ⟨b, off, rfl, hlt, h0⟩ := h i hi
  exact ⟨b, off, rfl, hlt, (World.cell?_of_block (hb b hlt)).trans h0⟩
theorem PropsAt.below {B : Nat} {w w' : World} {a : Option Addr} {ps : List PD} (h : PropsAt B w a ps) (hb : Below B w w') : PropsAt B w' a ps := h.same hb.block
theorem BytesAt.below {B : Nat} {w w' : World} {a : Option Addr} {bs : List UInt8} (h : BytesAt B w a bs) (hb : Below B w w') : BytesAt B w' a bs := h.same hb.block

def wrongL : List PD → Int
  | [] => 0
  | p :: r => if p.wrong == 0 then wrongL r else p.wrong
def wrongN (ps : List PD) (body : Nat) : Int :=
  if 4 < ps.length then 5 else if wrongL ps == 0 then (if 40 < body then 4 else 0) else wrongL ps

theorem wrongL_step (ps : List PD) (k : Nat) (h : k < ps.length) (hw : ps[k].wrong = 0) : wrongL (ps.drop k) = wrongL (ps.drop (k + 1)) := by
  rw [List.drop_eq_getElem_cons h, wrongL]; simp [hw]
theorem wrongL_stop (ps : List PD) (k : Nat) (h : k < ps.length) (hw : ¬ ps[k].wrong = 0) : wrongL (ps.drop k) = ps[k].wrong := by
  rw [List.drop_eq_getElem_cons h, wrongL]; simp [hw]

set_option maxHeartbeats 1000000 in
theorem wrong_any (pa : Option Addr) (pc : Nat) (ps : List PD) (ba : Option Addr) (bl bc : Nat) (w : World) (hps : PropsAt w.heap.size w pa ps) (hfit : ∀ p ∈ ps, p.fitN) (hpl : ps.length ≤ maxLen) (hbl : bl ≤ maxLen) :
    Calls Try.prog 97 #[.agg #[.slice pa ps.length pc, .slice ba bl bc]] w fun e w' => e = .returned (.int .i64 (wrongN ps bl)) ∧ Below w.heap.size w w' := by
  unfold maxLen at hpl hbl
  by_cases h1 : 4 < ps.length
  · go_enter Try.func97, Try.ntmps97
    go_wp2
    go_ret
    exact ⟨ret_i64 (by simp [wrongN, h1]), (Below.refl _ _).alloc (Nat.le_refl _) _⟩
  go_enter Try.func97, Try.ntmps97
  go_wp2
  go_loopw [13] (fun i wr => ∃ k : Nat, k ≤ ps.length ∧ i = .int .i64 k ∧ Below (w.heap.size + 1) (w.alloc (.cells #[.slice pa ps.length pc, .slice ba bl bc] 28)) wr ∧ wrongL ps = wrongL (ps.drop k))
    (fun i _ => ps.length - (intOf i).toNat)
  case atStart => exact ⟨0, Nat.zero_le _, rfl, Below.refl _ _, rfl⟩
  case round =>
    obtain ⟨k, hk, rfl, hnx, hwl⟩ := hrel
    have HW : Hid (wrongL ps = wrongL (ps.drop k)) := hwl
    clear hwl
    have hsz : w.heap.size + 1 ≤ wr.heap.size := by have := hnx.size; simpa using this
    have hn1 : wr.cell? ⟨w.heap.size, 1, none⟩ = some (.slice ba bl bc) := by rw [hnx.cell (by simp)]; simp
    by_cases hlt : k < ps.length
    · obtain ⟨b, off, rfl, hblt, h0, h1', h2, h3⟩ := hps k hlt
      obtain ⟨p, hp⟩ : ∃ p, p = ps[k] := ⟨_, rfl⟩
      have hfp := hfit ps[k] (List.getElem_mem _)
      rw [← hp] at h0 h1' h2 h3 hfp
      have cc : ∀ o, wr.cell? ⟨b, o, none⟩ = w.cell? ⟨b, o, none⟩ := fun o => by
        rw [hnx.cell (by show b < _; omega)]; exact World.cell?_alloc_lt _ _ _ hblt
      have g0 : wr.cell? ⟨b, off + k * 4, none⟩ = _ := (cc _).trans h0
      have g1 : wr.cell? ⟨b, off + k * 4 + 1, none⟩ = _ := (cc _).trans h1'
      have g2 : wr.cell? ⟨b, off + k * 4 + 2, none⟩ = _ := (cc _).trans h2
      have g3 : wr.cell? ⟨b, off + k * 4 + 3, none⟩ = _ := (cc _).trans h3
      clear cc h0 h1' h2 h3
      have HP : Hid (p = ps[k]) := hp
      clear hp
      go_wp2_with (go_at_call 115; refine (wrongProp_any _ _ _ _ _ hfp.1 hfp.2).mono ?_; rintro e w1 ⟨rfl, hb1⟩)
      · go_ret
        have hne : ¬ p.wrong = 0 := by have h : (wrongP p.key p.kind p.n p.text != 0) = true := by assumption
                                       simpa [PD.wrong] using h
        refine ⟨ret_i64 ?_, ?_⟩
        · have e1 := HP.out
          subst e1
          have e2 := HW.out
          rw [wrongL_stop ps k hlt hne] at e2
          have hne' : ¬ ps[k].wrong = 0 := hne
          simp [wrongN, h1, e2, hne']
          rfl
        · exact ((Below.refl _ _).alloc (Nat.le_refl _) _).trans ((hnx.mono (by omega)).trans (((Below.refl _ _).alloc (by omega) _).trans (hb1.mono (by simp; omega))))
      · have he : p.wrong = 0 := by have h : (wrongP p.key p.kind p.n p.text != 0) = false := by assumption
                                    simpa [PD.wrong] using h
        go_roundw
        case rel =>
          refine ⟨k + 1, by omega, by go_num, hnx.trans (((Below.refl _ _).alloc hsz _).trans (hb1.mono (by simp; omega))), ?_⟩
          have e1 := HP.out
          subst e1
          rw [HW.out, wrongL_step ps k hlt he]
        case measure => simp [intOf]; omega
    · have e : k = ps.length := by omega
      have e2 := HW.out
      rw [e, List.drop_of_length_le (by simp), wrongL] at e2
      have HE : Hid (wrongL ps = 0) := e2
      clear e2
      go_wp2
      · go_ret
        have h40 : (40 : Int) < bl := by assumption
        exact ⟨ret_i64 (by simp [wrongN, h1, HE.out]; omega), ((Below.refl _ _).alloc (Nat.le_refl _) _).trans (hnx.mono (by omega))⟩
      · go_ret
        have h40 : (bl : Int) ≤ 40 := by assumption
        exact ⟨ret_i64 (by simp [wrongN, h1, HE.out]; omega), ((Below.refl _ _).alloc (Nat.le_refl _) _).trans (hnx.mono (by omega))⟩
end Go.Proofs.Ytkddkpdfeeikhaa
