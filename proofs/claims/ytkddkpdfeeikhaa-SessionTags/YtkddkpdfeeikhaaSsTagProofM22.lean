/-
  FaceD; FaceG: texts laid together.
-/
import Derived.Test.YtkddkpdfeeikhaaSsTagProofM10
/-
  hall.Done, hall.Purge.
-/
namespace Go.Proofs.Ytkddkpdfeeikhaa
open Go.RowKit
set_option linter.unusedVariables false
set_option linter.unusedSimpArgs false

attribute [local go_sem ↓] Go.wp_at_zero Go.wp_at_succ

/-- Done, at a place. -/
def doneF (h : HD) (k : Nat) (q : QD) (id turn : Int) : HD × List ED × Int :=
  match q.items.findIdx? (givenB id turn) with
  | none => (h, [], 6)
  | some i => (h.setQ k ⟨q.name, q.limit, q.items.eraseIdx i⟩, [goneE q.name id], 0)
theorem doneF_none {h : HD} {k : Nat} {q : QD} {id turn : Int} (hi : idxI (givenB id turn) q.items = -1) : doneF h k q id turn = (h, [], 6) := by
  unfold doneF; rw [idxI_none' hi]
theorem doneF_some {h : HD} {k : Nat} {q : QD} {id turn : Int} {i : Nat} (hi : idxI (givenB id turn) q.items = (i : Int)) : doneF h k q id turn = (h.setQ k ⟨q.name, q.limit, q.items.eraseIdx i⟩, [goneE q.name id], 0) := by
  unfold doneF; rw [idxI_some hi]
/-- Purge, at a place. -/
def purgeF (h : HD) (k : Nat) (q : QD) : HD × List ED × Int := (h.setQ k ⟨q.name, q.limit, q.items.filter IT.out⟩, (goneL q.items).map (goneE q.name), 0)

theorem enter70 (args : Array Value) (W : World) : (callFunc 156 args).run Try.prog W = .ok (.enter 156 args) W := by go_simp
theorem enter76 (args : Array Value) (W : World) : (callFunc 145 args).run Try.prog W = .ok (.enter 145 args) W := by go_simp

/-- Where a queue lies in a box, another one's memory being new, behind a call from W. -/
structure QBox (P : Nat → Prop) (hb : Nat) (W : World) (g cap : Nat) (L : QuL) (next : Int) (q : QD) (va : Option Addr) (vc : Nat) (qb : Nat) (w1 : World) : Prop where
  bel : Below W.heap.size W w1
  hall : HallIn P hb w1 (.slice (some ⟨g, 0, none⟩) L.length cap) L next
  qblk : Blk w1 qb [.string q.name, .int .i64 q.limit, .slice va q.items.length vc]
  ql : W.heap.size ≤ qb
  items : SliceI (fun b => Made W.heap.size w1.heap.size b ∧ b ≠ qb) w1 (.slice va q.items.length vc) q.items

theorem QBox.new {P : Nat → Prop} {hb : Nat} {W w1 : World} {g cap : Nat} {L : QuL} {next : Int} {q : QD} {va : Option Addr} {vc : Nat} (H : HallIn P hb W (.slice (some ⟨g, 0, none⟩) L.length cap) L next) (h1 : Below W.heap.size W w1) (hI : SliceI (Made W.heap.size w1.heap.size) w1 (.slice va q.items.length vc) q.items) :
    QBox P hb W g cap L next q va vc w1.heap.size (w1.alloc (.cells #[.string q.name, .int .i64 q.limit, .slice va q.items.length vc] 76)) := by
  have h2 := h1.alloc (o := .cells #[.string q.name, .int .i64 q.limit, .slice va q.items.length vc] 76) h1.size
  exact ⟨h2, H.below h2, Blk.new _ _ _, h1.size, hI.sub fun b hb => ⟨⟨⟨hb.1, by have := hb.2; simp; omega⟩, by have := hb.2; omega⟩, Below.heap_alloc _ _ _ hb.2⟩⟩

theorem QBox.here {P : Nat → Prop} {hb : Nat} {W w1 : World} {g cap : Nat} {L : QuL} {next : Int} {q : QD} {va : Option Addr} {vc : Nat} (H : HallIn P hb W (.slice (some ⟨g, 0, none⟩) L.length cap) L next) (h1 : Below W.heap.size W w1) (hq : Blk w1 W.heap.size [.string ⟨#[]⟩, .int .i64 0, .slice none 0 0]) (hI : SliceI (Made (W.heap.size + 1) w1.heap.size) w1 (.slice va q.items.length vc) q.items) :
    QBox P hb W g cap L next q va vc W.heap.size (((w1.setCell ⟨W.heap.size, 0, none⟩ (.string q.name)).setCell ⟨W.heap.size, 1, none⟩ (.int .i64 q.limit)).setCell ⟨W.heap.size, 2, none⟩ (.slice va q.items.length vc)) := by
  have h2 : Below W.heap.size W (((w1.setCell ⟨W.heap.size, 0, none⟩ (.string q.name)).setCell ⟨W.heap.size, 1, none⟩ (.int .i64 q.limit)).setCell ⟨W.heap.size, 2, none⟩ (.slice va q.items.length vc)) := ((h1.setCell (by simp) _).setCell (by simp) _).setCell (by simp) _
  refine ⟨h2, H.below h2, ((hq.set 0 _).set 1 _).set 2 _, Nat.le_refl _, hI.sub fun b hb => ⟨⟨⟨by have := hb.1; omega, by have := hb.2; simpa using this⟩, by have := hb.1; omega⟩, ?_⟩⟩
  have hne : b ≠ W.heap.size := by have := hb.1; omega
  rw [Below.heap_setCell _ _ _ _ hne, Below.heap_setCell _ _ _ _ hne, Below.heap_setCell _ _ _ _ hne]

theorem QBox.drew {P : Nat → Prop} {hb : Nat} {W w1 : World} {g cap : Nat} {L : QuL} {next : Int} {q : QD} {va : Option Addr} {vc qb : Nat} (h : QBox P hb W g cap L next q va vc qb w1) : QBox P hb W g cap L next q va vc qb w1.drew :=
  ⟨h.bel.drew, h.hall.on (Nat.le_refl _) (fun _ _ => rfl), h.qblk, h.ql, h.items.sub fun b hb => ⟨hb, rfl⟩⟩

/-- Behind the store into the row. -/
structure QPut (P : Nat → Prop) (hb : Nat) (W : World) (g cap : Nat) (L : QuL) (k : Nat) (next : Int) (q : QD) (v : Value) (m : Nat) (w2 : World) : Prop where
  keep : Keep (fun b => b < W.heap.size ∧ b ≠ g ∧ b ≠ hb) W w2
  hall : HallIn (fun b => P b ∨ Made W.heap.size m b) hb w2 (.slice (some ⟨g, 0, none⟩) L.length cap) (L.set k (q, v)) next
  mh : m ≤ w2.heap.size
  ml : W.heap.size ≤ m

theorem QBox.put {P : Nat → Prop} {hb : Nat} {W w1 : World} {g cap : Nat} {L : QuL} {next : Int} {q : QD} {va : Option Addr} {vc qb : Nat} (h : QBox P hb W g cap L next q va vc qb w1) (hgl : g < W.heap.size) (hbl : hb < W.heap.size) (hP : ∀ b, P b → b < W.heap.size) (k : Nat) (hk : k < L.length) :
    QPut P hb W g cap L k next q (.slice va q.items.length vc) w1.heap.size (((w1.setCell ⟨g, k * 3, none⟩ (.string q.name)).setCell ⟨g, k * 3 + 1, none⟩ (.int .i64 q.limit)).setCell ⟨g, k * 3 + 2, none⟩ (.slice va q.items.length vc)).drew := by
  obtain ⟨V, hV⟩ : ∃ V, V = (((w1.setCell ⟨g, k * 3, none⟩ (.string q.name)).setCell ⟨g, k * 3 + 1, none⟩ (.int .i64 q.limit)).setCell ⟨g, k * 3 + 2, none⟩ (.slice va q.items.length vc)) := ⟨_, rfl⟩
  have hz : V.heap.size = w1.heap.size := by rw [hV]; simp
  have far : ∀ b, b ≠ g → V.heap[b]? = w1.heap[b]? := fun b hb => by
    rw [hV, Below.heap_setCell _ _ _ _ hb, Below.heap_setCell _ _ _ _ hb, Below.heap_setCell _ _ _ _ hb]
  have hos : V.os = w1.os ∧ V.tape = w1.tape ∧ V.output = w1.output := by rw [hV]; exact ⟨rfl, rfl, rfl⟩
  have hz1 := h.bel.size
  have hH : HallIn (fun b => P b ∨ Made W.heap.size w1.heap.size b) hb V (.slice (some ⟨g, 0, none⟩) L.length cap) (L.set k (q, .slice va q.items.length vc)) next := by
    rw [hV]
    refine HallIn.mono (h.hall.put rfl k hk q _ _ (fun b hb' => ?_) h.items) (fun b hb' => ?_) (fun b hb' => ?_) (fun hb' => ?_)
    · obtain ⟨⟨h1, h2⟩, h3⟩ := hb'
      exact ⟨h2, by omega, by omega⟩
    · rcases hb' with hb' | ⟨h1, h2⟩
      · exact .inl hb'
      · exact .inr h1
    · simp
      rcases hb' with hb' | hb'
      · have := hP b hb'; omega
      · exact hb'.2
    · rcases hb' with hb' | hb'
      · exact h.hall.nb hb'
      · have := hb'.1; omega
  rw [← hV]
  exact ⟨⟨hos.1.trans h.bel.os, hos.2.1.trans h.bel.tape, hos.2.2.trans h.bel.output, by show _ ≤ V.heap.size; omega, fun b hb => (far b hb.2.1).trans (h.bel.block b hb.1)⟩, hH.on (Nat.le_refl _) (fun _ _ => rfl), by show _ ≤ V.heap.size; omega, hz1⟩

/-- The end of a closure that puts a queue, and tells entries of its own. -/
theorem QPut.told {P G : Nat → Prop} {hb B : Nat} {W w2 w3 : World} {g cap : Nat} {L : QuL} {k : Nat} {h : HD} {q : QD} {v ev : Value} {m : Nat} {es : List ED} (H : QPut P hb W g cap L k h.next q v m w2) (e : L.map Prod.fst = h.queues) (hP : ∀ b, P b → B ≤ b) (hg : P g) (hbB : B ≤ hb) (hB : B ≤ W.heap.size) (h3 : Below w2.heap.size w2 w3) (hE : SliceE (Made w2.heap.size w3.heap.size) w3 ev es) :
    ∃ ea en ec, ev = .slice ea en ec ∧ (∃ va vn vc, Blk w3 hb [.slice va vn vc, .int .i64 (h.setQ k q).next] ∧ SliceQ (fun b => B ≤ b ∧ b < w3.heap.size) w3 (.slice va vn vc) (h.setQ k q).queues ∧ SliceE (fun b => B ≤ b ∧ b < w3.heap.size) w3 (.slice ea en ec) es) ∧ Keep (fun b => b < B ∧ ¬ G b) W w3 := by
  have hz := H.keep.size
  have h3z := h3.size
  have mh := H.mh
  have ml := H.ml
  refine in_alter (P := P) ⟨L.set k (q, v), fun b => P b ∨ Made W.heap.size m b, ?_, fun b hb' => .inl hb', fun b hb' => ?_, H.hall.below h3, hE.sub fun b hb' => ⟨⟨⟨by have := hb'.1; omega, hb'.2⟩, fun hp => ?_⟩, rfl⟩, ⟨h3.os.trans H.keep.os, h3.tape.trans H.keep.tape, h3.output.trans H.keep.output, by omega, fun b hb' => (h3.block b (by omega)).trans (H.keep.block b ⟨hb'.1, fun e' => hb'.2.1 (by rw [e']; rfl), hb'.2.2⟩)⟩⟩ hP hg hbB hB
  · rw [List.map_set, e]; rfl
  · rcases hb' with hb' | hb'
    · exact .inl hb'
    · exact .inr ⟨hb'.1, by have := hb'.2; omega⟩
  · have := H.hall.lt b hp
    have := hb'.1
    omega

set_option maxRecDepth 100000 in
set_option maxHeartbeats 3200000 in
theorem purge_alters (w : World) (nb : Nat) (name : ByteArray) (hb : Blk w nb [.string name]) (h : HD) (k : Nat) (hk : k < h.queues.length) (hnm : h.queues[k].name = name) (hsm : smallQ h.queues) :
    Alters w (fun _ => False) 145 [.pointer (some ⟨nb, 0, none⟩)] h k (purgeF h k h.queues[k]) (fun _ _ => True) := by
  refine ⟨enter76, fun _ _ _ _ _ _ => trivial, fun B P hb' W g cap L hH e hP hbB hwB hW => ?_⟩
  have HH : Hid (HallIn P hb' W (.slice (some ⟨g, 0, none⟩) L.length cap) L h.next) := hH
  have hkL : k < L.length := by rw [← e] at hk; simpa using hk
  have hq : h.queues[k] = (L[k]'hkL).1 := by simp [← e]
  have hsk := smallQ_at hsm hk
  obtain ⟨c0, c1, c2⟩ := (hb.below hW hb.lt).b1
  have HNB : Hid (Blk W nb [.string name]) := hb.below hW hb.lt
  obtain ⟨ia, ic, -, hI, y0, y1, y2⟩ := hH.at k hkL
  obtain ⟨b0, b1, b2, b3⟩ := hH.box.b2
  obtain ⟨hgl, hgb, hbl, hgP⟩ := hH.gl
  have hlL : L.length ≤ 4194304 := by have := congrArg List.length e; have h1 := hsm.1; simp at this; omega
  rw [← hq] at y0 y1 y2 hI
  obtain ⟨q, hqq⟩ : ∃ q, q = h.queues[k] := ⟨_, rfl⟩
  rw [← hqq] at y0 y1 y2 hI hsk hnm ⊢
  have HI : Hid (SliceI (Under W.heap.size) W (.slice ia q.items.length ic) q.items) := hI.sub fun b hb => ⟨hH.lt b hb.1, rfl⟩
  have HX : Hid (smallI q.items ∧ L.map Prod.fst = h.queues ∧ (∀ b, P b → B ≤ b) ∧ (∀ b, P b → b < W.heap.size)) := ⟨hsk, e, hP, hH.lt⟩
  have hgf := hH.f
  have hWz := hW.size
  have HNM : Hid (q.name = name) := hnm
  have hnbl := hb.lt
  have hgB := hP g hgP
  clear hH e hP hsm hb hW hI hsk hq hqq hnm
  obtain ⟨its', hits⟩ : ∃ its', its' = q.items.filter IT.out := ⟨_, rfl⟩
  obtain ⟨ids, hids⟩ : ∃ ids, ids = goneL q.items := ⟨_, rfl⟩
  have HIT : Hid (its' = q.items.filter IT.out ∧ ids = goneL q.items) := ⟨hits, hids⟩
  have hidl : ids.length ≤ 4194304 := by rw [hids]; have := goneL_len q.items; have := HX.out.1.1; omega
  clear hits hids
  go_enter Try.func145, Try.ntmps145
  go_upto_region 2 with (go_at_call 146; refine (purge_new _ q.name q.limit q.items _ HI.out HX.out.1).mono ?_; rw [← HIT.out.1, ← HIT.out.2]; rintro r w1 ⟨v1, u1, rfl, hv1, hu1, hb1⟩; obtain ⟨va, vc, rfl⟩ := hv1.shp; obtain ⟨ua, uc, rfl, -⟩ := hu1.shape; have HQ1 : Hid (QBox P hb' W g cap L h.next ⟨q.name, q.limit, its'⟩ va vc w1.heap.size (w1.alloc (.cells #[.string q.name, .int .i64 q.limit, .slice va its'.length vc] 76))) := QBox.new (q := ⟨q.name, q.limit, its'⟩) HH.out hb1 hv1; have HU1 : Hid (SliceV (Made W.heap.size w1.heap.size) w1 (.slice ua ids.length uc) ids.length (ints ids)) := hu1; have hz1 := hb1.size; clear hv1 hu1 hb1)
  obtain ⟨W2, hW2⟩ : ∃ W2, W2 = w1.alloc (.cells #[.string q.name, .int .i64 q.limit, .slice va its'.length vc] 76) := ⟨_, rfl⟩
  have HU2 : Hid (SliceV (Made W.heap.size w1.heap.size) W2 (.slice ua ids.length uc) ids.length (ints ids)) := by rw [hW2]; exact HU1.out.sub fun b hb => ⟨hb, Below.heap_alloc _ _ _ hb.2⟩
  rw [← hW2] at HQ1
  rw [← hW2]
  clear hW2 y0 y1 y2 b0 b1 b2 c0 c1 hgf HU1
  obtain ⟨q0, q1, q2, q3, q4⟩ := HQ1.out.qblk.b3
  obtain ⟨h0, h1, h2, h3⟩ := HQ1.out.hall.box.b2
  obtain ⟨ja, jc, -, -, y0, y1, y2⟩ := HQ1.out.hall.at k hkL
  have hgf := HQ1.out.hall.f
  have hgw := HQ1.out.hall.gl.1
  go_cut [] (fun wx => QPut P hb' W g cap L k h.next ⟨q.name, q.limit, its'⟩ (.slice va its'.length vc) W2.heap.size wx ∧ (∀ b, b ≠ g → wx.heap[b]? = W2.heap[b]?))
  case first =>
    go_region_law (fail)
    all_goals
      go_wp2_with fail
      go_meet
      refine ⟨HQ1.out.put hgl hbl HX.out.2.2.2 k hkL, fun b hb => ?_⟩
      exact (Below.heap_setCell _ _ _ _ hb).trans ((Below.heap_setCell _ _ _ _ hb).trans (Below.heap_setCell _ _ _ _ hb))
  case rest =>
    obtain ⟨hc1, hc2⟩ := hcut
    have HC : Hid (QPut P hb' W g cap L k h.next ⟨q.name, q.limit, its'⟩ (.slice va its'.length vc) W2.heap.size wc) := hc1
    have HU3 : Hid (SliceV (Under wc.heap.size) wc (.slice ua ids.length uc) ids.length (ints ids)) := HU2.out.sub fun b hb => ⟨by show b < _; have := hb.2; have := hc1.mh; have := q4; omega, hc2 b (by have := hb.1; omega)⟩
    have hnc := HNB.out.same (Eq.trans (hc2 nb (by omega)) (HQ1.out.bel.block nb HNB.out.lt))
    obtain ⟨c0, c1, c2⟩ := hnc.b1
    clear hc1 hc2 hnc q0 q1 q2 q3 h0 h1 h2 y0 y1 y2 hgf
    go_wp2_with (go_at_call 147; refine (gone_any name _ ids hidl _ HU3.out).mono ?_; rintro r w3 ⟨ev, rfl, ho3, hb3⟩; obtain ⟨ea, en, ec, rfl, hA1, hA2⟩ := HC.out.told (G := fun _ => False) HX.out.2.1 HX.out.2.2.1 hgP hbB (by omega) hb3 ho3.slice; have HA : Hid _ := And.intro hA1 hA2; clear hA1 hA2 ho3 hb3)
    refine bodyPost_ret (v := .tuple #[.slice ea en ec, .int .i64 0]) (by simp [results, Try.results145, go_sem, *]; done) rfl ⟨ea, en, ec, rfl, fun _ => ?_, trivial, HA.out.2⟩
    have h1 := HA.out.1
    rw [HIT.out.1, HIT.out.2, ← HNM.out] at h1
    exact h1

set_option maxRecDepth 100000 in
set_option maxHeartbeats 1000000 in
theorem hallPurge_any (v : Value) (h : HD) (name : ByteArray) (w : World) (hv : SliceQ (Under w.heap.size) w v h.queues) (hsm : smallQ h.queues) :
    Calls Try.prog 126 #[.agg #[v, .int .i64 h.next], .string name] w fun e w' => AnsH (faceF h name (fun k q => purgeF h k q)) w e w' ∧ Below w.heap.size w w' := by
  have HV : Hid (SliceQ (Under w.heap.size) w v h.queues) := hv
  have HX : Hid (smallQ h.queues) := hsm
  obtain ⟨va, vc, rfl⟩ := hv.shp
  clear hv hsm
  have three : Hid (∀ o1 o2 o3 : Obj, Below w.heap.size w (((w.alloc o1).alloc o2).alloc o3)) := fun o1 o2 o3 => ((below_alloc _ _).alloc (by simp) _).alloc (by simp; omega) _
  go_enter Try.func126, Try.ntmps126
  go_wp2_with (go_at_call 131; refine (changed_face 145 [.pointer (some ⟨w.heap.size + 1, 0, none⟩)] _ name h (fun k q => purgeF h k q) _ (HV.out.sub fun k hk => ⟨?_, (three.out _ _ _).block k hk⟩) HX.out (fun k hk hn => purge_alters _ _ name ?_ h k hk hn HX.out)).mono ?_; (simp [Under] at hk ⊢; omega); (have := (Blk.new (w.alloc (.cells #[.slice va h.queues.length vc, .int .i64 h.next] 24)) [.string name] 9).alloc (.cells #[.slice none 0 0, .int .i64 0] 24); simpa using this); rintro e w1 ⟨⟨va1, vc1, ea1, ec1, rfl, hQ1, hE1⟩, hb1⟩; obtain ⟨b0, b1, b2, b3⟩ := ((Blk.new ((w.alloc _).alloc _) _ 24).below hb1 (by simp)).b2; simp only [World.size_alloc] at b0 b1 b2 b3; have H1 : Hid _ := And.intro hQ1 (And.intro hE1 hb1); clear hQ1 hE1 hb1)
  refine bodyPost_ret (v := .tuple #[.agg #[.slice va1 (faceF h name (fun k q => purgeF h k q)).1.queues.length vc1, .int .i64 (faceF h name (fun k q => purgeF h k q)).1.next], .slice ea1 (faceF h name (fun k q => purgeF h k q)).2.1.length ec1, .int .i64 (faceF h name (fun k q => purgeF h k q)).2.2]) (by simp [results, Try.results126, go_sem, *]; done) rfl (face_end (three.out _ _ _) (by simp) H1.out.2.2 H1.out.1 H1.out.2.1 _ _)
end Go.Proofs.Ytkddkpdfeeikhaa

/-
  hall.Done.
-/
namespace Go.Proofs.Ytkddkpdfeeikhaa
open Go.RowKit
set_option linter.unusedVariables false
set_option linter.unusedSimpArgs false

attribute [local go_sem ↓] Go.wp_at_zero Go.wp_at_succ

theorem InAns.same {P G : Nat → Prop} {hb B : Nat} {W w3 : World} {g cap : Nat} {L : QuL} {h : HD} (H : HallIn P hb W (.slice (some ⟨g, 0, Option.none⟩) L.length cap) L h.next) (e : L.map Prod.fst = h.queues) (hP : ∀ b, P b → B ≤ b) (hbB : B ≤ hb) (hB : B ≤ W.heap.size) (h3 : Below W.heap.size W w3) :
    Keep (fun b => b < B ∧ ¬ G b) W w3 := Keep.of h3 fun k hk => by have := hk.1; omega

set_option maxRecDepth 100000 in
set_option maxHeartbeats 3200000 in
theorem done_alters (w : World) (tb : Nat) (tn : Int) (name : ByteArray) (id turn : Int) (hb : Blk w tb [.int .i64 tn, .string name, .int .i64 id, .int .i64 turn]) (h : HD) (k : Nat) (hk : k < h.queues.length) (hnm : h.queues[k].name = name) (hsm : smallQ h.queues) :
    Alters w (fun _ => False) 156 [.pointer (some ⟨tb, 0, none⟩)] h k (doneF h k h.queues[k] id turn) (fun _ _ => True) := by
  refine ⟨enter70, fun _ _ _ _ _ _ => trivial, fun B P hb' W g cap L hH e hP hbB hwB hW => ?_⟩
  have HH : Hid (HallIn P hb' W (.slice (some ⟨g, 0, none⟩) L.length cap) L h.next) := hH
  have hkL : k < L.length := by rw [← e] at hk; simpa using hk
  have hq : h.queues[k] = (L[k]'hkL).1 := by simp [← e]
  have hsk := smallQ_at hsm hk
  have HNB : Hid (Blk W tb [.int .i64 tn, .string name, .int .i64 id, .int .i64 turn]) := hb.below hW hb.lt
  obtain ⟨c0, c1, c2, c3⟩ : W.cell? ⟨tb, 2, none⟩ = some (.int .i64 id) ∧ W.cell? ⟨tb, 3, none⟩ = some (.int .i64 turn) ∧ (∀ o, W.frozen? ⟨tb, o, none⟩ = false) ∧ tb < W.heap.size := ⟨HNB.out.cell 2, HNB.out.cell 3, HNB.out.f, HNB.out.lt⟩
  obtain ⟨ia, ic, -, hI, y0, y1, y2⟩ := hH.at k hkL
  obtain ⟨b0, b1, b2, b3⟩ := hH.box.b2
  obtain ⟨hgl, hgb, hbl, hgP⟩ := hH.gl
  have hlL : L.length ≤ 4194304 := by have := congrArg List.length e; have h1 := hsm.1; simp at this; omega
  rw [← hq] at y0 y1 y2 hI
  obtain ⟨q, hqq⟩ : ∃ q, q = h.queues[k] := ⟨_, rfl⟩
  rw [← hqq] at y0 y1 y2 hI hsk hnm ⊢
  have HI : Hid (SliceI (Under W.heap.size) W (.slice ia q.items.length ic) q.items) := hI.sub fun b hb => ⟨hH.lt b hb.1, rfl⟩
  have HX : Hid (smallI q.items ∧ L.map Prod.fst = h.queues ∧ (∀ b, P b → B ≤ b) ∧ (∀ b, P b → b < W.heap.size)) := ⟨hsk, e, hP, hH.lt⟩
  have hgf := hH.f
  have hWz := hW.size
  have HNM : Hid (q.name = name) := hnm
  have hnbl := hb.lt
  have hgB := hP g hgP
  clear hH e hP hsm hb hW hI hsk hq hqq hnm
  have n1 : W.heap.size ≠ hb' := by omega
  have n2 : W.heap.size ≠ g := by omega
  have n3 : W.heap.size ≠ tb := by omega
  rcases idxI_cases (givenB id turn) q.items with hi | ⟨i, hil, hi, -, -⟩
  · have HXI : Hid (idxI (givenB id turn) q.items = -1) := hi
    rw [doneF_none hi]
    clear hi
    go_enter Try.func156, Try.ntmps156
    go_wp2_with fail
    go_region_held3 (fun w' => w'.cell? ⟨hb', 0, none⟩ = some (.slice (some ⟨g, 0, none⟩) L.length cap) ∧ w'.cell? ⟨g, k * 3, none⟩ = some (.string q.name) ∧ w'.cell? ⟨g, k * 3 + 1, none⟩ = some (.int .i64 q.limit) ∧ w'.cell? ⟨g, k * 3 + 2, none⟩ = some (.slice ia q.items.length ic) ∧ w'.cell? ⟨tb, 2, none⟩ = some (.int .i64 id) ∧ w'.cell? ⟨tb, 3, none⟩ = some (.int .i64 turn)) (go_keep) (first
      | (go_at_call 157; refine (done_none _ q.name q.limit id turn q.items _ ?_ HXI.out).mono ?_; (exact HI.out.sub fun b hb => ⟨Nat.lt_of_lt_of_le hb (by simp), Below.heap_alloc _ _ _ hb⟩); rintro r w1 ⟨rfl, hb1⟩; have hb1' : Below (W.heap.size + 1) (W.alloc (.cells #[.string ⟨#[]⟩, .int .i64 0, .slice none 0 0] 76)) w1 := ⟨hb1.os, hb1.tape, hb1.output, by simpa using hb1.size, fun b hb => hb1.block b (by simpa using hb)⟩; have hq1 : Blk w1 W.heap.size [.string ⟨#[]⟩, .int .i64 0, .slice none 0 0] := (Blk.new W [.string ⟨#[]⟩, .int .i64 0, .slice none 0 0] 76).below hb1' (by omega); obtain ⟨q0, q1, q2, q3, q4⟩ := hq1.b3; have HB1 : Hid (Below W.heap.size W w1) := (((below_alloc W (.cells #[.string ⟨#[]⟩, .int .i64 0, .slice none 0 0] 76)).mono (by omega)).trans (hb1'.mono (by omega))); have hc := HB1.out.cell (p := ⟨hb', 0, none⟩) hbl; have hc0 := HB1.out.cell (p := ⟨g, k * 3, none⟩) hgl; have hc1 := HB1.out.cell (p := ⟨g, k * 3 + 1, none⟩) hgl; have hc2 := HB1.out.cell (p := ⟨g, k * 3 + 2, none⟩) hgl; have hc3 := HB1.out.cell (p := ⟨tb, 2, none⟩) c3; have hc4 := HB1.out.cell (p := ⟨tb, 3, none⟩) c3; rw [b0] at hc; rw [y0] at hc0; rw [y1] at hc1; rw [y2] at hc2; rw [c0] at hc3; rw [c1] at hc4; clear hb1 hb1' hq1)
      | (go_at_call 157; refine (done_none _ q.name q.limit id turn q.items _ ?_ HXI.out).mono ?_; (exact HI.out.sub fun b hb => ⟨hb, rfl⟩); rintro r w1 ⟨rfl, hb1⟩; have HB1 : Hid (Below W.heap.size W w1) := ⟨hb1.os, hb1.tape, hb1.output, hb1.size, hb1.block⟩; have hc := HB1.out.cell (p := ⟨hb', 0, none⟩) hbl; have hc0 := HB1.out.cell (p := ⟨g, k * 3, none⟩) hgl; have hc1 := HB1.out.cell (p := ⟨g, k * 3 + 1, none⟩) hgl; have hc2 := HB1.out.cell (p := ⟨g, k * 3 + 2, none⟩) hgl; have hc3 := HB1.out.cell (p := ⟨tb, 2, none⟩) c3; have hc4 := HB1.out.cell (p := ⟨tb, 3, none⟩) c3; rw [b0] at hc; rw [y0] at hc0; rw [y1] at hc1; rw [y2] at hc2; rw [c0] at hc3; rw [c1] at hc4; clear hb1))
    all_goals
      go_wp2_with fail
      refine bodyPost_ret (v := .tuple #[.slice none 0 0, .int .i64 6]) (by simp [results, Try.results156, go_sem, *]; done) rfl ⟨none, 0, 0, rfl, fun h => by simp at h, trivial, ?_⟩
      have hB := HB1.out
      have hs1 := HB1.out.size
      first
        | (have hqx := q4; exact InAns.same HH.out HX.out.2.1 HX.out.2.2.1 hbB (by omega) (((hB.setCell (by simp) _).setCell (by simp) _).setCell (by simp) _))
        | exact InAns.same HH.out HX.out.2.1 HX.out.2.2.1 hbB (by omega) (hB.alloc (by omega) _)
  · have HXI : Hid (idxI (givenB id turn) q.items = (i : Int)) := hi
    rw [doneF_some hi]
    clear hi
    obtain ⟨its', hits⟩ : ∃ its', its' = q.items.eraseIdx i := ⟨_, rfl⟩
    rw [← hits]
    have HIT : Hid (its' = q.items.eraseIdx i) := hits
    clear hits
    go_enter Try.func156, Try.ntmps156
    go_upto_region 1 with fail
    go_cut [7, 8] (fun qp er wx => ∃ qb va vc, qp = .pointer (some ⟨qb, 0, none⟩) ∧ er = .int .i64 0 ∧ QBox P hb' W g cap L h.next ⟨q.name, q.limit, its'⟩ va vc qb wx)
    case first =>
      go_region_held3 (fun w' => w'.cell? ⟨hb', 0, none⟩ = some (.slice (some ⟨g, 0, none⟩) L.length cap) ∧ w'.cell? ⟨g, k * 3, none⟩ = some (.string q.name) ∧ w'.cell? ⟨g, k * 3 + 1, none⟩ = some (.int .i64 q.limit) ∧ w'.cell? ⟨g, k * 3 + 2, none⟩ = some (.slice ia q.items.length ic) ∧ w'.cell? ⟨tb, 2, none⟩ = some (.int .i64 id) ∧ w'.cell? ⟨tb, 3, none⟩ = some (.int .i64 turn)) (go_keep) (first
        | (go_at_call 157; refine (done_new _ q.name q.limit id turn q.items i hil _ ?_ HX.out.1 HXI.out).mono ?_; (exact HI.out.sub fun b hb => ⟨Nat.lt_of_lt_of_le hb (by simp), Below.heap_alloc _ _ _ hb⟩); rw [← HIT.out]; rintro r w1 ⟨v1, rfl, hv1, hb1⟩; obtain ⟨va, vc, rfl⟩ := hv1.shp; have hb1' : Below (W.heap.size + 1) (W.alloc (.cells #[.string ⟨#[]⟩, .int .i64 0, .slice none 0 0] 76)) w1 := ⟨hb1.os, hb1.tape, hb1.output, by simpa using hb1.size, fun b hb => hb1.block b (by simpa using hb)⟩; have hq1 : Blk w1 W.heap.size [.string ⟨#[]⟩, .int .i64 0, .slice none 0 0] := (Blk.new W [.string ⟨#[]⟩, .int .i64 0, .slice none 0 0] 76).below hb1' (by omega); have HQ1 : Hid (Blk w1 W.heap.size [.string ⟨#[]⟩, .int .i64 0, .slice none 0 0]) := hq1; obtain ⟨q0, q1, q2, q3, q4⟩ := hq1.b3; have HB1 : Hid (Below W.heap.size W w1) := (((below_alloc W (.cells #[.string ⟨#[]⟩, .int .i64 0, .slice none 0 0] 76)).mono (by omega)).trans (hb1'.mono (by omega))); have HV1 : Hid (SliceI (Made (W.heap.size + 1) w1.heap.size) w1 (.slice va its'.length vc) its') := (hv1.sub fun b hb => ⟨⟨by have := hb.1; simp at this; omega, hb.2⟩, rfl⟩); have hc := HB1.out.cell (p := ⟨hb', 0, none⟩) hbl; have hc0 := HB1.out.cell (p := ⟨g, k * 3, none⟩) hgl; have hc1 := HB1.out.cell (p := ⟨g, k * 3 + 1, none⟩) hgl; have hc2 := HB1.out.cell (p := ⟨g, k * 3 + 2, none⟩) hgl; have hc3 := HB1.out.cell (p := ⟨tb, 2, none⟩) c3; have hc4 := HB1.out.cell (p := ⟨tb, 3, none⟩) c3; rw [b0] at hc; rw [y0] at hc0; rw [y1] at hc1; rw [y2] at hc2; rw [c0] at hc3; rw [c1] at hc4; clear hb1 hv1 hb1' hq1)
        | (go_at_call 157; refine (done_new _ q.name q.limit id turn q.items i hil _ ?_ HX.out.1 HXI.out).mono ?_; (exact HI.out.sub fun b hb => ⟨hb, rfl⟩); rw [← HIT.out]; rintro r w1 ⟨v1, rfl, hv1, hb1⟩; obtain ⟨va, vc, rfl⟩ := hv1.shp; have HB1 : Hid (Below W.heap.size W w1) := ⟨hb1.os, hb1.tape, hb1.output, hb1.size, hb1.block⟩; have HV1 : Hid (SliceI (Made W.heap.size w1.heap.size) w1 (.slice va its'.length vc) its') := hv1; have hc := HB1.out.cell (p := ⟨hb', 0, none⟩) hbl; have hc0 := HB1.out.cell (p := ⟨g, k * 3, none⟩) hgl; have hc1 := HB1.out.cell (p := ⟨g, k * 3 + 1, none⟩) hgl; have hc2 := HB1.out.cell (p := ⟨g, k * 3 + 2, none⟩) hgl; have hc3 := HB1.out.cell (p := ⟨tb, 2, none⟩) c3; have hc4 := HB1.out.cell (p := ⟨tb, 3, none⟩) c3; rw [b0] at hc; rw [y0] at hc0; rw [y1] at hc1; rw [y2] at hc2; rw [c0] at hc3; rw [c1] at hc4; clear hb1 hv1))
      all_goals
        go_wp2_with fail
        go_meet
        first
          | (have HH1 := QBox.here (q := ⟨q.name, q.limit, its'⟩) HH.out HB1.out HQ1.out HV1.out; exact ⟨_, va, vc, rfl, rfl, HH1⟩)
          | (have HH1 := QBox.new (q := ⟨q.name, q.limit, its'⟩) HH.out HB1.out HV1.out; exact ⟨_, va, vc, rfl, rfl, HH1⟩)
    case rest =>
      obtain ⟨qb, va, vc, rfl, rfl, hS⟩ := hcut
      have HQ1 : Hid (QBox P hb' W g cap L h.next ⟨q.name, q.limit, its'⟩ va vc qb wc) := hS
      obtain ⟨W2, hW2⟩ : ∃ W2, W2 = wc := ⟨_, rfl⟩
      rw [← hW2] at HQ1
      rw [← hW2]
      clear hS hW2 y0 y1 y2 b0 b1 b2 c0 c1 c2 hgf
      obtain ⟨q0, q1, q2, q3, q4⟩ := HQ1.out.qblk.b3
      obtain ⟨h0, h1, h2, h3⟩ := HQ1.out.hall.box.b2
      obtain ⟨ja, jc, -, -, y0, y1, y2⟩ := HQ1.out.hall.at k hkL
      have hgf := HQ1.out.hall.f
      have hgw := HQ1.out.hall.gl.1
      go_upto_region 4 with fail
      go_cut [] (fun wx => QPut P hb' W g cap L k h.next ⟨q.name, q.limit, its'⟩ (.slice va its'.length vc) W2.heap.size wx ∧ (∀ b, b ≠ g → wx.heap[b]? = W2.heap[b]?))
      case first =>
        go_region_law (fail)
        all_goals
          go_wp2_with fail
          go_meet
          refine ⟨HQ1.out.put hgl hbl HX.out.2.2.2 k hkL, fun b hb => ?_⟩
          exact (Below.heap_setCell _ _ _ _ hb).trans ((Below.heap_setCell _ _ _ _ hb).trans (Below.heap_setCell _ _ _ _ hb))
      case rest =>
        obtain ⟨hc1, hc2⟩ := hcut
        have HC : Hid (QPut P hb' W g cap L k h.next ⟨q.name, q.limit, its'⟩ (.slice va its'.length vc) W2.heap.size wc) := hc1
        have hnc := HNB.out.same (Eq.trans (hc2 tb (by omega)) (HQ1.out.bel.block tb HNB.out.lt))
        obtain ⟨c0, c1, c2, c3'⟩ : wc.cell? ⟨tb, 1, none⟩ = some (.string name) ∧ wc.cell? ⟨tb, 2, none⟩ = some (.int .i64 id) ∧ (∀ o, wc.frozen? ⟨tb, o, none⟩ = false) ∧ tb < wc.heap.size := ⟨hnc.cell 1, hnc.cell 2, hnc.f, hnc.lt⟩
        clear hc1 hc2 hnc q0 q1 q2 q3 h0 h1 h2 y0 y1 y2 hgf
        go_wp2_with (go_at_call 147; refine (gone_any name _ [id] (by simp) _ ?_).mono ?_; (exact (row_any wc [.int .i64 id] 3 1 (by simp [maxLen])).sub fun b hb => ⟨by show b < _; simp; omega, rfl⟩); rintro r w3 ⟨ev, rfl, ho3, hb3⟩; obtain ⟨ea, en, ec, rfl, hA1, hA2⟩ := HC.out.told (G := fun _ => False) HX.out.2.1 HX.out.2.2.1 hgP hbB (by omega) ((below_alloc wc (.cells #[.int .i64 id] 3)).trans (hb3.mono (by simp))) (ho3.slice.sub fun b hb => ⟨⟨by have := hb.1; simp at this; omega, hb.2⟩, rfl⟩); have HA : Hid _ := And.intro hA1 hA2; clear hA1 hA2 ho3 hb3)
        refine bodyPost_ret (v := .tuple #[.slice ea en ec, .int .i64 0]) (by simp [results, Try.results156, go_sem, *]; done) rfl ⟨ea, en, ec, rfl, fun _ => ?_, trivial, HA.out.2⟩
        have h1 := HA.out.1
        rw [← HNM.out] at h1
        exact h1

set_option maxRecDepth 100000 in
set_option maxHeartbeats 1000000 in
theorem hallDone_any (v : Value) (h : HD) (tn : Int) (tq : ByteArray) (id turn : Int) (w : World) (hv : SliceQ (Under w.heap.size) w v h.queues) (hsm : smallQ h.queues) :
    Calls Try.prog 140 #[.agg #[v, .int .i64 h.next], .agg #[.int .i64 tn, .string tq, .int .i64 id, .int .i64 turn]] w fun e w' => AnsH (faceF h tq (fun k q => doneF h k q id turn)) w e w' ∧ Below w.heap.size w w' := by
  have HV : Hid (SliceQ (Under w.heap.size) w v h.queues) := hv
  have HX : Hid (smallQ h.queues) := hsm
  obtain ⟨va, vc, rfl⟩ := hv.shp
  clear hv hsm
  have three : Hid (∀ o1 o2 o3 : Obj, Below w.heap.size w (((w.alloc o1).alloc o2).alloc o3)) := fun o1 o2 o3 => ((below_alloc _ _).alloc (by simp) _).alloc (by simp; omega) _
  go_enter Try.func140, Try.ntmps140
  go_wp2_with (go_at_call 131; refine (changed_face 156 [.pointer (some ⟨w.heap.size + 1, 0, none⟩)] _ tq h (fun k q => doneF h k q id turn) _ (HV.out.sub fun k hk => ⟨?_, (three.out _ _ _).block k hk⟩) HX.out (fun k hk hn => done_alters _ _ tn tq id turn ?_ h k hk hn HX.out)).mono ?_; (simp [Under] at hk ⊢; omega); (have := (Blk.new (w.alloc (.cells #[.slice va h.queues.length vc, .int .i64 h.next] 24)) [.int .i64 tn, .string tq, .int .i64 id, .int .i64 turn] 50).alloc (.cells #[.slice none 0 0, .int .i64 0] 24); simpa using this); rintro e w1 ⟨⟨va1, vc1, ea1, ec1, rfl, hQ1, hE1⟩, hb1⟩; obtain ⟨b0, b1, b2, b3⟩ := ((Blk.new ((w.alloc _).alloc _) _ 24).below hb1 (by simp)).b2; simp only [World.size_alloc] at b0 b1 b2 b3; have H1 : Hid _ := And.intro hQ1 (And.intro hE1 hb1); clear hQ1 hE1 hb1)
  refine bodyPost_ret (v := .tuple #[.agg #[.slice va1 (faceF h tq (fun k q => doneF h k q id turn)).1.queues.length vc1, .int .i64 (faceF h tq (fun k q => doneF h k q id turn)).1.next], .slice ea1 (faceF h tq (fun k q => doneF h k q id turn)).2.1.length ec1, .int .i64 (faceF h tq (fun k q => doneF h k q id turn)).2.2]) (by simp [results, Try.results140, go_sem, *]; done) rfl (face_end (three.out _ _ _) (by simp) H1.out.2.2 H1.out.1 H1.out.2.1 _ _)
end Go.Proofs.Ytkddkpdfeeikhaa
