/-
  tgref1.HallTake.
-/
import Derived.Test.YtpehkoompadpaaaHTellsProofM31
import Derived.Test.YtpehkoompadpaaaHTellsProofM38
import Derived.Test.YtpehkoompadpaaaFaceK
namespace Go.Proofs.Ytpehkoompadpaaa
open Go.RowKit
set_option linter.unusedVariables false
set_option linter.unusedSimpArgs false

attribute [local go_sem ↓] Go.wp_at_zero Go.wp_at_succ

/-- A hall, an item and an error are answered: their blocks are S's or made. -/
def AnsST (S : Nat → Prop) (r : HD × List ED × Int) (it : IT) (w : World) (e : Ending) (w' : World) : Prop :=
  ∃ va vc pa pc qa qc, e = .returned (.tuple #[.agg #[.slice va r.1.queues.length vc, .int .i64 r.1.next], .agg #[.int .i64 it.id, .int .i64 it.turn, .int .i64 it.tries, .bool it.out, .int .i64 it.due, .slice pa it.note.props.length pc, .slice qa it.note.body.length qc], .int .i64 r.2.2]) ∧ SliceQ (SM S w w') w' (.slice va r.1.queues.length vc) r.1.queues ∧ NoteIs (SM S w w') w' (.slice pa it.note.props.length pc, .slice qa it.note.body.length qc) it.note
theorem AnsST.refuse (S : Nat → Prop) (en : Int) (w w' : World) : AnsST S (refuse en) zI0 w (.returned (.tuple #[.agg #[.slice none 0 0, .int .i64 0], .agg #[.int .i64 0, .int .i64 0, .int .i64 0, .bool false, .int .i64 0, .slice none 0 0, .slice none 0 0], .int .i64 en])) w' :=
  ⟨none, 0, none, 0, none, 0, rfl, SliceQ.nil _ _, NoteIs.nil _ _⟩

/-- A queue, an item and an error are answered. -/
def AnsTS (S : Nat → Prop) (q : QD) (it : IT) (en : Int) (w : World) (e : Ending) (w' : World) : Prop :=
  ∃ ra rc pa pc qa qc, e = .returned (.tuple #[.agg #[.string q.name, .int .i64 q.limit, .slice ra q.items.length rc], .agg #[.int .i64 it.id, .int .i64 it.turn, .int .i64 it.tries, .bool it.out, .int .i64 it.due, .slice pa it.note.props.length pc, .slice qa it.note.body.length qc], .int .i64 en]) ∧ SliceI (fun b => S b ∨ Made w.heap.size w'.heap.size b) w' (.slice ra q.items.length rc) q.items ∧ NoteIs S w' (.slice pa it.note.props.length pc, .slice qa it.note.body.length qc) it.note ∧ Below w.heap.size w w'

theorem take_one (h : HD) (k : Nat) (q : QD) (now : Int) (hnow : 0 ≤ now ∧ now ≤ 1000000000) (hs : smallI q.items) (hfit : ∀ i ∈ q.items, i.fits) : ∃ (q' : QD) (it : IT) (en : Int), ((en = 6 ∧ failF (takeF h k q now) = refuse 9 ∧ givenI q now = zI0) ∨ (en = 0 ∧ failF (takeF h k q now) = (h.setQ k q', [], 0) ∧ givenI q now = it)) ∧
    ∀ (S : Nat → Prop) (v : Value) (w : World), (∀ b, S b → b < w.heap.size) → SliceI S w v q.items → Calls Try.prog 81 #[.agg #[.string q.name, .int .i64 q.limit, v], .int .i64 now] w (AnsTS S q' it en w) := by
  rcases idxI_cases isInB q.items with hi | ⟨i, hil, hi, hgi, hbf⟩
  · have hno : ∀ x ∈ q.items, isInB x = false := by
      have := idxI_none' hi
      rwa [List.findIdx?_eq_none_iff] at this
    refine ⟨zQ, zI0, 6, .inl ⟨rfl, by rw [(takeF_none hi).1]; simp [failF, refuse], (takeF_none (h := h) (k := k) hi).2⟩, fun S v w hS hv => ?_⟩
    refine (refTake_none v q.name q.limit now q.items hs.1 hno w (hv.sub fun b hb => ⟨hS b hb, rfl⟩)).mono ?_
    rintro e w' ⟨rfl, hb⟩
    exact ⟨none, 0, none, 0, none, 0, rfl, SliceI.nil _ _, NoteIs.nil _ _, hb⟩
  · refine ⟨⟨q.name, q.limit, q.items.set i (takeI now q.items[i])⟩, takeI now q.items[i], 0, .inr ⟨rfl, by rw [(takeF_some hi hil).1]; simp [failF], (takeF_some (h := h) (k := k) hi hil).2⟩, fun S v w hS hv => ?_⟩
    refine (refTake_okS S v q.name q.limit now hnow q.items hs.1 i hil hgi hbf (hfit _ (List.getElem_mem hil)) w hS hv).mono ?_
    rintro e w' ⟨v', ⟨p1, p2⟩, rfl, hv', hn', hb⟩
    obtain ⟨a, c, rfl⟩ := hv'.shp
    obtain ⟨pa, pc, rfl, -⟩ := SliceV.shape hn'.1
    obtain ⟨qa, qc, rfl, -⟩ := SliceV.shape hn'.2
    exact ⟨a, c, pa, pc, qa, qc, rfl, hv', hn', hb⟩

set_option maxRecDepth 100000 in
set_option maxHeartbeats 3200000 in
theorem refHallTake_any (S : Nat → Prop) (v : Value) (h : HD) (name : ByteArray) (now : Int) (hnow : 0 ≤ now ∧ now ≤ 1000000000) (w : World) (hS : ∀ b, S b → b < w.heap.size) (hv : SliceQ S w v h.queues) (hsm : smallQ h.queues) (hfit : ∀ q ∈ h.queues, ∀ i ∈ q.items, i.fits) :
    Calls Try.prog 32 #[.agg #[v, .int .i64 h.next], .string name, .int .i64 now] w fun e w' => AnsST S (faceF h name (fun k q => takeF h k q now)) (giveF h name now) w e w' ∧ Below w.heap.size w w' := by
  have HV : Hid (SliceQ S w v h.queues) := hv
  have HM : Hid (smallQ h.queues) := hsm
  have HSS : Hid (∀ b, S b → b < w.heap.size) := hS
  have hlen := hsm.1
  obtain ⟨va, vc, rfl⟩ := hv.shp
  have three : Hid (∀ o1 o2 o3 : Obj, Below w.heap.size w (((w.alloc o1).alloc o2).alloc o3)) := fun o1 o2 o3 => ((below_alloc _ _).alloc (by simp) _).alloc (by simp; omega) _
  rcases idxQ_cases name h.queues with ⟨hd, -⟩ | ⟨k, hk, hd, hnm, -⟩
  · rw [faceF_none hd, giveF_none hd]
    have HI : Hid (idxQ name h.queues = -1) := hd
    clear hd hv hsm hS hfit
    go_enter Try.func32, Try.ntmps32
    go_wp2_with (go_at_call 11; refine (refFind_any name _ h.next h.queues _ (HV.out.sub fun b hb => ⟨?_, (three.out _ _ _).block b (HSS.out b hb)⟩)).mono ?_; (have := HSS.out b hb; simp [Under]; omega); rw [HI.out]; rintro e w1 ⟨rfl, hb1⟩; have hk1 := ((Blk.new (w.alloc _) [.slice none 0 0, .int .i64 0] 24).alloc _).below hb1 (by simp); have hk2 := (Blk.new ((w.alloc _).alloc _) [.int .i64 0, .int .i64 0, .int .i64 0, .bool false, .int .i64 0, .slice none 0 0, .slice none 0 0] 48).below hb1 (by simp); simp only [World.size_alloc] at hk1 hk2; obtain ⟨c0, c1, c2, c3⟩ := hk1.b2; obtain ⟨⟨i0, i1, i2, i3⟩, ⟨i4, i5, i6⟩, i7, i8⟩ := hk2.b7; have HB1 : Hid (Below w.heap.size w w1) := (three.out _ _ _).trans (hb1.mono (by simp; omega)); clear hb1 hk2 hk1)
    refine bodyPost_ret (v := .tuple #[.agg #[.slice none 0 0, .int .i64 0], .agg #[.int .i64 0, .int .i64 0, .int .i64 0, .bool false, .int .i64 0, .slice none 0 0, .slice none 0 0], .int .i64 6]) (by simp [results, Try.results32, go_sem, *]; done) rfl ⟨AnsST.refuse _ _ _ _, ?_⟩
    iterate 9 refine Below.setCell ?_ (by simp <;> omega) _
    exact HB1.out
  · rw [faceF_some hd hk, giveF_some hd hk]
    have HI : Hid (idxQ name h.queues = (k : Int)) := hd
    clear hd
    have hsk := HM.out.2 _ (List.getElem_mem hk)
    have hfk := hfit _ (List.getElem_mem hk)
    obtain ⟨q, hqq⟩ : ∃ q, q = h.queues[k] := ⟨_, rfl⟩
    have HQQ : Hid (q = h.queues[k]) := hqq
    rw [← hqq] at hnm hsk hfk ⊢
    obtain ⟨q', it, en, hcase, hone⟩ := take_one h k q now hnow hsk hfk
    obtain ⟨rr, hrr⟩ : ∃ rr, rr = failF (takeF h k q now) := ⟨_, rfl⟩
    obtain ⟨gi, hgi⟩ : ∃ gi, gi = givenI q now := ⟨_, rfl⟩
    rw [← hrr, ← hgi] at hcase ⊢
    have HC : Hid ((en = 6 ∧ rr = refuse 9 ∧ gi = zI0) ∨ (en = 0 ∧ rr = (h.setQ k q', [], 0) ∧ gi = it)) := hcase
    have HONE : Hid (∀ (S : Nat → Prop) (v : Value) (w : World), (∀ b, S b → b < w.heap.size) → SliceI S w v q.items → Calls Try.prog 81 #[.agg #[.string q.name, .int .i64 q.limit, v], .int .i64 now] w (AnsTS S q' it en w)) := hone
    clear hqq hnm hsk hcase hone hrr hgi hv hsm hS hfit hfk
    go_enter Try.func32, Try.ntmps32
    go_upto_region 4 with (go_at_call 11; refine (refFind_any name _ h.next h.queues _ (HV.out.sub fun b hb => ⟨?_, (three.out _ _ _).block b (HSS.out b hb)⟩)).mono ?_; (have := HSS.out b hb; simp [Under]; omega); rw [HI.out]; rintro e w1 ⟨rfl, hb1⟩; have hk0 := (((Blk.new w [.slice va h.queues.length vc, .int .i64 h.next] 24).alloc _).alloc _).below hb1 (by simp; omega); have hk1 := ((Blk.new (w.alloc _) [.slice none 0 0, .int .i64 0] 24).alloc _).below hb1 (by simp); have hk2 := (Blk.new ((w.alloc _).alloc _) [.int .i64 0, .int .i64 0, .int .i64 0, .bool false, .int .i64 0, .slice none 0 0, .slice none 0 0] 48).below hb1 (by simp); simp only [World.size_alloc] at hk0 hk1 hk2; have HK : Hid (Blk w1 w.heap.size [.slice va h.queues.length vc, .int .i64 h.next] ∧ Blk w1 (w.heap.size + 1) [.slice none 0 0, .int .i64 0] ∧ Blk w1 (w.heap.size + 1 + 1) [.int .i64 0, .int .i64 0, .int .i64 0, .bool false, .int .i64 0, .slice none 0 0, .slice none 0 0]) := ⟨hk0, hk1, hk2⟩; have HB1 : Hid (Below w.heap.size w w1) := (three.out _ _ _).trans (hb1.mono (by simp; omega)); clear hb1 hk0 hk1 hk2)
    have hz1 : w.heap.size + 3 ≤ w1.heap.size := by have := HK.out.2.2.lt; omega
    have HV1 : Hid (SliceQ S w1 (.slice va h.queues.length vc) h.queues) := HV.out.sub fun b hb => ⟨hb, HB1.out.block b (HSS.out b hb)⟩
    obtain ⟨b, off, ia, ic, rfl, hSb, hq, y0, y1, y2⟩ := HV1.out.at k hk
    have hbl : b < w1.heap.size := by have := HSS.out b hSb; omega
    rw [← HQQ.out] at y0 y1 y2 hq
    have HQ : Hid (SliceI S w1 (.slice ia q.items.length ic) q.items) := hq
    have HS1 : Hid (∀ b, S b → b < w1.heap.size) := fun b hb => by have := HSS.out b hb; omega
    clear hq
    obtain ⟨x0, x1, x2, x3⟩ := HK.out.1.b2
    go_upto_region 5 with (go_at_call 81; refine (HONE.out S _ _ HS1.out HQ.out).mono ?_; rintro e w2 ⟨ra, rc, pa, pc, qa, qc, rfl, hv2, hn2, hb2⟩; have H2 : Hid (SliceI (fun b => S b ∨ Made w1.heap.size w2.heap.size b) w2 (.slice ra q'.items.length rc) q'.items ∧ NoteIs S w2 (.slice pa it.note.props.length pc, .slice qa it.note.body.length qc) it.note ∧ Below w1.heap.size w1 w2) := ⟨hv2, hn2, hb2⟩; clear hv2 hn2 hb2 x0 x1 x2 y0 y1 y2)
    obtain ⟨W3, hW3⟩ : ∃ W3, W3 = (w2.alloc (.cells #[.string q'.name, .int .i64 q'.limit, .slice ra q'.items.length rc] 71)).alloc (.cells #[.int .i64 it.id, .int .i64 it.turn, .int .i64 it.tries, .bool it.out, .int .i64 it.due, .slice pa it.note.props.length pc, .slice qa it.note.body.length qc] 48) := ⟨_, rfl⟩
    have hz2 := H2.out.2.2.size
    have HK3 : Hid (Below w1.heap.size w1 W3 ∧ W3.heap.size = w2.heap.size + 2 ∧ (∀ b, b < w2.heap.size → W3.heap[b]? = w2.heap[b]?) ∧ Blk W3 w2.heap.size [.string q'.name, .int .i64 q'.limit, .slice ra q'.items.length rc] ∧ Blk W3 (w2.heap.size + 1) [.int .i64 it.id, .int .i64 it.turn, .int .i64 it.tries, .bool it.out, .int .i64 it.due, .slice pa it.note.props.length pc, .slice qa it.note.body.length qc]) := by
      rw [hW3]
      refine ⟨(H2.out.2.2.alloc (by omega) _).alloc (by simp; omega) _, by simp, fun b hb => (Below.heap_alloc _ _ _ (by simp; omega)).trans (Below.heap_alloc _ _ _ hb), (Blk.new _ _ _).alloc _, ?_⟩
      have hh := Blk.new (w2.alloc (.cells #[.string q'.name, .int .i64 q'.limit, .slice ra q'.items.length rc] 71)) [.int .i64 it.id, .int .i64 it.turn, .int .i64 it.tries, .bool it.out, .int .i64 it.due, .slice pa it.note.props.length pc, .slice qa it.note.body.length qc] 48
      rw [World.size_alloc] at hh
      exact hh
    rw [← hW3]
    clear hW3
    have HKW : Hid (Blk W3 w.heap.size [.slice (some ⟨b, off, none⟩) h.queues.length vc, .int .i64 h.next] ∧ Blk W3 (w.heap.size + 1) [.slice none 0 0, .int .i64 0] ∧ Blk W3 (w.heap.size + 1 + 1) [.int .i64 0, .int .i64 0, .int .i64 0, .bool false, .int .i64 0, .slice none 0 0, .slice none 0 0]) := ⟨HK.out.1.below HK3.out.1 HK.out.1.lt, HK.out.2.1.below HK3.out.1 HK.out.2.1.lt, HK.out.2.2.below HK3.out.1 HK.out.2.2.lt⟩
    have HBW : Hid (Below w.heap.size w W3) := HB1.out.trans (HK3.out.1.mono (by omega))
    obtain ⟨c0, c1, c2, c3⟩ := HKW.out.2.1.b2
    obtain ⟨⟨i0, i1, i2, i3⟩, ⟨i4, i5, i6⟩, i7, i8⟩ := HKW.out.2.2.b7
    rcases HC.out with ⟨rfl, e1, e2⟩ | ⟨rfl, e1, e2⟩
    · have HE : Hid (rr = refuse 9 ∧ gi = zI0) := ⟨e1, e2⟩
      clear e1 e2 HC
      go_wp2_with fail
      refine bodyPost_ret (v := .tuple #[.agg #[.slice none 0 0, .int .i64 0], .agg #[.int .i64 0, .int .i64 0, .int .i64 0, .bool false, .int .i64 0, .slice none 0 0, .slice none 0 0], .int .i64 9]) (by simp [results, Try.results32, go_sem, *]; done) rfl ⟨by rw [HE.out.1, HE.out.2]; exact AnsST.refuse _ _ _ _, ?_⟩
      iterate 9 refine Below.setCell ?_ (by simp <;> omega) _
      exact HBW.out
    · have HE : Hid (rr = (h.setQ k q', [], 0) ∧ gi = it) := ⟨e1, e2⟩
      clear e1 e2 HC
      obtain ⟨x0, x1, x2, x3'⟩ := HKW.out.1.b2
      obtain ⟨u0, u1, u2, u3, u4⟩ := HK3.out.2.2.2.1.b3
      obtain ⟨⟨g0, g1, g2, g3⟩, ⟨g4, g5, g6⟩, g7, g8⟩ := HK3.out.2.2.2.2.b7
      obtain ⟨T, hT⟩ : ∃ T : Nat → Prop, T = fun b => S b ∨ Made w1.heap.size w2.heap.size b := ⟨_, rfl⟩
      have HT : Hid ((∀ b, T b → (S b ∨ w.heap.size ≤ b) ∧ b < w2.heap.size ∧ b ≠ w.heap.size + 1 ∧ b ≠ w.heap.size + 1 + 1) ∧ SliceQ T W3 (.slice (some ⟨b, off, none⟩) h.queues.length vc) h.queues ∧ SliceI T W3 (.slice ra q'.items.length rc) q'.items ∧ (∀ b, T b → b < W3.heap.size) ∧ NoteIs S W3 (.slice pa it.note.props.length pc, .slice qa it.note.body.length qc) it.note) := by
        have hlt : ∀ b, T b → (S b ∨ w.heap.size ≤ b) ∧ b < w2.heap.size ∧ b ≠ w.heap.size + 1 ∧ b ≠ w.heap.size + 1 + 1 := fun b hb => by
          subst hT
          rcases hb with hb | ⟨k1, k2⟩
          · have := HSS.out b hb
            exact ⟨.inl hb, by omega, by omega, by omega⟩
          · exact ⟨.inr (by omega), by omega, by omega, by omega⟩
        refine ⟨hlt, HV.out.sub fun b hb => ⟨by subst hT; exact .inl hb, HBW.out.block b (HSS.out b hb)⟩, H2.out.1.sub fun b hb => ⟨by subst hT; exact hb, HK3.out.2.2.1 b (hlt b (by subst hT; exact hb)).2.1⟩, fun b hb => by have := (hlt b hb).2.1; have := HK3.out.2.1; omega, H2.out.2.1.sub fun b hb => ⟨hb, HK3.out.2.2.1 b (by have := HSS.out b hb; omega)⟩⟩
      clear hT
      have hz3 : w2.heap.size + 2 ≤ W3.heap.size := by have := HK3.out.2.1; omega
      have m1 : w.heap.size + 1 ≠ w.heap.size := by omega
      have m2 : w.heap.size + 1 ≠ w2.heap.size := by omega
      have m3 : w.heap.size + 1 ≠ w2.heap.size + 1 := by omega
      have m4 : w.heap.size + 1 + 1 ≠ w.heap.size := by omega
      have m5 : w.heap.size + 1 + 1 ≠ w2.heap.size := by omega
      have m6 : w.heap.size + 1 + 1 ≠ w2.heap.size + 1 := by omega
      have m7 : w.heap.size ≠ w2.heap.size := by omega
      go_upto_region 7 with fail
      go_region_held3 (fun w' => w'.cell? ⟨w.heap.size, 0, none⟩ = some (.slice (some ⟨b, off, none⟩) h.queues.length vc) ∧ w'.cell? ⟨w.heap.size, 1, none⟩ = some (.int .i64 h.next) ∧ w'.cell? ⟨w2.heap.size, 0, none⟩ = some (.string q'.name) ∧ w'.cell? ⟨w2.heap.size, 1, none⟩ = some (.int .i64 q'.limit) ∧ w'.cell? ⟨w2.heap.size, 2, none⟩ = some (.slice ra q'.items.length rc) ∧ w'.cell? ⟨w2.heap.size + 1, 0, none⟩ = some (.int .i64 it.id) ∧ w'.cell? ⟨w2.heap.size + 1, 1, none⟩ = some (.int .i64 it.turn) ∧ w'.cell? ⟨w2.heap.size + 1, 2, none⟩ = some (.int .i64 it.tries) ∧ w'.cell? ⟨w2.heap.size + 1, 3, none⟩ = some (.bool it.out) ∧ w'.cell? ⟨w2.heap.size + 1, 4, none⟩ = some (.int .i64 it.due) ∧ w'.cell? ⟨w2.heap.size + 1, 5, none⟩ = some (.slice pa it.note.props.length pc) ∧ w'.cell? ⟨w2.heap.size + 1, 6, none⟩ = some (.slice qa it.note.body.length qc)) (go_keep) (first
        | (go_at_call 66; refine (with_any _ h.queues h.next k hk q' _ hlen _ T ?_ ?_ ?_).mono ?_; (exact HT.out.2.2.2.1); (exact HT.out.2.1.sub fun b hb => ⟨hb, rfl⟩); (exact HT.out.2.2.1.sub fun b hb => ⟨hb, rfl⟩); rintro r w5 ⟨v5, rfl, hv5, hb5⟩; obtain ⟨sa, sc, e5⟩ := hv5.shp; have e5' : v5 = .slice sa h.queues.length sc := (by rw [e5, List.length_set]); subst e5'; have hbn : Below W3.heap.size W3 w5 := ⟨hb5.os, hb5.tape, hb5.output, hb5.size, hb5.block⟩; have H5 : Hid (Below W3.heap.size W3 w5 ∧ SliceQ (fun b => T b ∨ Made W3.heap.size w5.heap.size b) w5 (.slice sa h.queues.length sc) (h.setQ k q').queues) := ⟨hbn, hv5⟩; have hc0 := bel_c hbn x3' x0; have hc1 := bel_c hbn x3' x1; have hc2 := bel_c hbn u4 u0; have hc3 := bel_c hbn u4 u1; have hc4 := bel_c hbn u4 u2; have hc5 := bel_c hbn g8 g0; have hc6 := bel_c hbn g8 g1; have hc7 := bel_c hbn g8 g2; have hc8 := bel_c hbn g8 g3; have hc9 := bel_c hbn g8 g4; have hc10 := bel_c hbn g8 g5; have hc11 := bel_c hbn g8 g6; have HR5 : Hid (Blk w5 (w.heap.size + 1) [.slice none 0 0, .int .i64 0] ∧ Blk w5 (w.heap.size + 1 + 1) [.int .i64 0, .int .i64 0, .int .i64 0, .bool false, .int .i64 0, .slice none 0 0, .slice none 0 0]) := ⟨HKW.out.2.1.below hbn c3, HKW.out.2.2.below hbn i8⟩; obtain ⟨d0, d1, d2, d3⟩ := HR5.out.1.b2; obtain ⟨⟨e0, e1, e2, e3⟩, ⟨e4, e5', e6⟩, e7, e8⟩ := HR5.out.2.b7; clear hb5 hv5 e5 hbn))
      all_goals
        go_wp2_with fail
        obtain ⟨wF, hF⟩ : ∃ wF, wF = ((((((((w5.setCell ⟨w.heap.size + 1, 0, none⟩ (.slice sa h.queues.length sc)).setCell ⟨w.heap.size + 1, 1, none⟩ (.int .i64 h.next)).setCell ⟨w.heap.size + 1 + 1, 0, none⟩ (.int .i64 it.id)).setCell ⟨w.heap.size + 1 + 1, 1, none⟩ (.int .i64 it.turn)).setCell ⟨w.heap.size + 1 + 1, 2, none⟩ (.int .i64 it.tries)).setCell ⟨w.heap.size + 1 + 1, 3, none⟩ (.bool it.out)).setCell ⟨w.heap.size + 1 + 1, 4, none⟩ (.int .i64 it.due)).setCell ⟨w.heap.size + 1 + 1, 5, none⟩ (.slice pa it.note.props.length pc)).setCell ⟨w.heap.size + 1 + 1, 6, none⟩ (.slice qa it.note.body.length qc) := ⟨_, rfl⟩
        rw [← hF]
        have hF' : wF = set7 (set2 w5 (w.heap.size + 1) (.slice sa h.queues.length sc) (.int .i64 h.next)) (w.heap.size + 1 + 1) (.int .i64 it.id) (.int .i64 it.turn) (.int .i64 it.tries) (.bool it.out) (.int .i64 it.due) (.slice pa it.note.props.length pc) (.slice qa it.note.body.length qc) := hF
        clear hF
        have hb1 : Blk wF (w.heap.size + 1) [.slice sa h.queues.length sc, .int .i64 h.next] := by
          rw [hF']
          exact ((HR5.out.1.set 0 _).set 1 _).same (set7_far (by omega))
        have hb2 : Blk wF (w.heap.size + 1 + 1) [.int .i64 it.id, .int .i64 it.turn, .int .i64 it.tries, .bool it.out, .int .i64 it.due, .slice pa it.note.props.length pc, .slice qa it.note.body.length qc] := by
          rw [hF']
          exact set7_blk (HR5.out.2.same (set2_far (by omega)))
        have hx : ∀ b, b ≠ w.heap.size + 1 → b ≠ w.heap.size + 1 + 1 → wF.heap[b]? = w5.heap[b]? := fun b h1 h2 => by
          rw [hF', set7_far h2, set2_far h1]
        have hzF : wF.heap.size = w5.heap.size := by rw [hF', set7_size]; unfold set2; simp
        have hBF : Below w.heap.size w wF := by
          rw [hF']
          refine below_set7 (b := w.heap.size + 1 + 1) ?_ (by omega)
          unfold set2
          exact ((HBW.out.trans (H5.out.1.mono (by omega))).setCell (by simp) _).setCell (by simp) _
        have hz5 := H5.out.1.size
        have hA : AnsST S rr gi w (.returned (.tuple #[.agg #[.slice sa h.queues.length sc, .int .i64 h.next], .agg #[.int .i64 it.id, .int .i64 it.turn, .int .i64 it.tries, .bool it.out, .int .i64 it.due, .slice pa it.note.props.length pc, .slice qa it.note.body.length qc], .int .i64 0])) wF := by
          rw [HE.out.1, HE.out.2]
          have hl : (h.setQ k q').queues.length = h.queues.length := by simp [HD.setQ]
          refine ⟨sa, sc, pa, pc, qa, qc, by simp only [hl]; rfl, ?_, HT.out.2.2.2.2.sub fun b hb => ⟨.inl hb, (hx b (by have := HSS.out b hb; omega) (by have := HSS.out b hb; omega)).trans (H5.out.1.block b (by have := HSS.out b hb; omega))⟩⟩
          simp only [hl]
          refine H5.out.2.sub fun b hb => ?_
          rcases hb with hb | ⟨k1, k2⟩
          · have h1 := HT.out.1 b hb
            exact ⟨h1.1.imp (fun h => h) (fun h => ⟨h, by omega⟩), hx b h1.2.2.1 h1.2.2.2⟩
          · exact ⟨.inr ⟨by omega, by omega⟩, hx b (by omega) (by omega)⟩
        obtain ⟨f0, f1, f2, f3⟩ := hb1.b2
        obtain ⟨⟨l0, l1, l2, l3⟩, ⟨l4, l5, l6⟩, l7, l8⟩ := hb2.b7
        clear hF' hx hzF
        exact bodyPost_ret (by simp [results, Try.results32, go_sem, f0, f1, l0, l1, l2, l3, l4, l5, l6]; done) rfl ⟨hA, hBF⟩
end Go.Proofs.Ytpehkoompadpaaa
