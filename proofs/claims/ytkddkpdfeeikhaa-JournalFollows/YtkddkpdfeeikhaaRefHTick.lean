/-
  tgref1.HallTick.
-/
import Derived.Test.YtkddkpdfeeikhaaRefHBack
import Derived.Test.YtkddkpdfeeikhaaJFollowsProofM41
import Derived.Test.YtkddkpdfeeikhaaJFollowsProofM49
import Derived.Deep.LoopGhost
namespace Go.Proofs.Ytkddkpdfeeikhaa
open Go.RowKit
set_option linter.unusedVariables false
set_option linter.unusedSimpArgs false

attribute [local go_sem ↓] Go.wp_at_zero Go.wp_at_succ

/-- A hall in a box and entries, behind a call from W. -/
structure XB (S : Nat → Prop) (W : World) (r : HD × List ED × Int) (va : Option Addr) (vc : Nat) (ea : Option Addr) (ec : Nat) (xb : Nat) (w1 : World) : Prop where
  bel : Below W.heap.size W w1
  blk : Blk w1 xb [.slice va r.1.queues.length vc, .int .i64 r.1.next]
  ql : W.heap.size ≤ xb
  hall : SliceQ (fun b => S b ∨ (Made W.heap.size w1.heap.size b ∧ b ≠ xb)) w1 (.slice va r.1.queues.length vc) r.1.queues
  es : SliceE (fun b => S b ∨ (Made W.heap.size w1.heap.size b ∧ b ≠ xb)) w1 (.slice ea r.2.1.length ec) r.2.1
theorem XB.new {S : Nat → Prop} {W w1 : World} {r : HD × List ED × Int} {va ea : Option Addr} {vc ec : Nat} (hS : ∀ b, S b → b < W.heap.size) (h1 : Below W.heap.size W w1) (hI : SliceQ (fun b => S b ∨ Made W.heap.size w1.heap.size b) w1 (.slice va r.1.queues.length vc) r.1.queues) (hE : SliceE (fun b => S b ∨ Made W.heap.size w1.heap.size b) w1 (.slice ea r.2.1.length ec) r.2.1) :
    XB S W r va vc ea ec w1.heap.size (w1.alloc (.cells #[.slice va r.1.queues.length vc, .int .i64 r.1.next] 24)) := by
  have hz := h1.size
  have key : ∀ b, (S b ∨ Made W.heap.size w1.heap.size b) → (S b ∨ (Made W.heap.size (w1.alloc (.cells #[.slice va r.1.queues.length vc, .int .i64 r.1.next] 24)).heap.size b ∧ b ≠ w1.heap.size)) ∧ (w1.alloc (.cells #[.slice va r.1.queues.length vc, .int .i64 r.1.next] 24)).heap[b]? = w1.heap[b]? := fun b hb => by
    have hb' : b < w1.heap.size := by
      rcases hb with h | h
      · have := hS b h; omega
      · exact h.2
    exact ⟨hb.imp (fun h => h) (fun h => ⟨⟨h.1, by have := h.2; simp; omega⟩, by have := h.2; omega⟩), Below.heap_alloc _ _ _ hb'⟩
  exact ⟨h1.alloc h1.size _, Blk.new _ _ _, h1.size, hI.sub key, hE.sub key⟩
theorem XB.here {S : Nat → Prop} {W w1 : World} {r : HD × List ED × Int} {va ea : Option Addr} {vc ec : Nat} (hS : ∀ b, S b → b < W.heap.size) (h1 : Below W.heap.size W w1) (hq : Blk w1 W.heap.size [.slice none 0 0, .int .i64 0]) (hI : SliceQ (fun b => S b ∨ Made (W.heap.size + 1) w1.heap.size b) w1 (.slice va r.1.queues.length vc) r.1.queues) (hE : SliceE (fun b => S b ∨ Made (W.heap.size + 1) w1.heap.size b) w1 (.slice ea r.2.1.length ec) r.2.1) :
    XB S W r va vc ea ec W.heap.size ((w1.setCell ⟨W.heap.size, 0, none⟩ (.slice va r.1.queues.length vc)).setCell ⟨W.heap.size, 1, none⟩ (.int .i64 r.1.next)) := by
  have key : ∀ b, (S b ∨ Made (W.heap.size + 1) w1.heap.size b) → (S b ∨ (Made W.heap.size ((w1.setCell ⟨W.heap.size, 0, none⟩ (.slice va r.1.queues.length vc)).setCell ⟨W.heap.size, 1, none⟩ (.int .i64 r.1.next)).heap.size b ∧ b ≠ W.heap.size)) ∧ ((w1.setCell ⟨W.heap.size, 0, none⟩ (.slice va r.1.queues.length vc)).setCell ⟨W.heap.size, 1, none⟩ (.int .i64 r.1.next)).heap[b]? = w1.heap[b]? := fun b hb => by
    have hne : b ≠ W.heap.size := by
      rcases hb with h | h
      · have := hS b h; omega
      · have := h.1; omega
    refine ⟨hb.imp (fun h => h) (fun h => ⟨⟨by have := h.1; omega, by have := h.2; simpa using this⟩, hne⟩), ?_⟩
    rw [Below.heap_setCell _ _ _ _ hne, Below.heap_setCell _ _ _ _ hne]
  exact ⟨(h1.setCell (by simp) _).setCell (by simp) _, (hq.set 0 _).set 1 _, Nat.le_refl _, hI.sub key, hE.sub key⟩

/-- What holds in HallTick's loop. -/
structure TK (S : Nat → Prop) (w : World) (now M : Int) (ns : List ByteArray) (n : Nat) (tot : HD × List ED) (g k : Nat) (h' : HD) (P : Nat → Prop) (va : Option Addr) (vc : Nat) (LG : EnL) (ev : Value) (wr : World) : Prop where
  bel : Below w.heap.size w wr
  hall : Blk wr w.heap.size [.slice va h'.queues.length vc, .int .i64 h'.next]
  res : Blk wr (w.heap.size + 1) [.slice none 0 0, .int .i64 0]
  qs : SliceQ P wr (.slice va h'.queues.length vc) h'.queues
  row : wr.ownsRow (w.heap.size + 2) 30 6 ev LG.length (cellsE LG)
  notes : ∀ x ∈ LG, NoteIs P wr x.2 x.1.note
  pb : ∀ b, P b → (S b ∨ w.heap.size + 2 ≤ b) ∧ b < wr.heap.size ∧ ev.ownBlock ≠ some b
  sub : ∀ b, S b → P b
  tok : h'.tok (M + ((44 - g : Nat) : Int)) ns
  len : h'.queues.length = n
  kn : k ≤ n
  left : g = leftN n k h'
  gl : g ≤ 44
  esl : LG.length ≤ 2 * (44 - g)
  tot1 : tot.1 = (tickF now (n - k) k h').1
  tot2 : tot.2 = LG.map Prod.fst ++ (tickF now (n - k) k h').2

def AnsSE (S : Nat → Prop) (r : HD × List ED) (w : World) (e : Ending) (w' : World) : Prop :=
  ∃ va vc ea ec, e = .returned (.tuple #[.agg #[.slice va r.1.queues.length vc, .int .i64 r.1.next], .slice ea r.2.length ec]) ∧ SliceQ (SM S w w') w' (.slice va r.1.queues.length vc) r.1.queues ∧ SliceE (SM S w w') w' (.slice ea r.2.length ec) r.2

set_option maxRecDepth 100000 in
set_option maxHeartbeats 3200000 in
theorem refHallTick_any (S : Nat → Prop) (v : Value) (h : HD) (now M : Int) (hM : 0 ≤ M ∧ M ≤ 10000000) (ns : List ByteArray) (tok : h.tok M ns) (huniq : ∀ k (hk : k < h.queues.length), idxQ h.queues[k].name h.queues = (k : Int)) (w : World) (hS : ∀ b, S b → b < w.heap.size) (hv : SliceQ S w v h.queues) :
    Calls Try.prog 34 #[.agg #[v, .int .i64 h.next], .int .i64 now] w fun e w' => AnsSE S (tickF now h.queues.length 0 h) w e w' ∧ Below w.heap.size w w' := by
  obtain ⟨t0, ht0, tz0, tz1, tz2⟩ := info_parts info92
  have HSS : Hid (∀ b, S b → b < w.heap.size) := hS
  obtain ⟨va, vc, rfl⟩ := hv.shp
  obtain ⟨n, hn⟩ : ∃ n, n = h.queues.length := ⟨_, rfl⟩
  obtain ⟨tot, htot⟩ : ∃ tot, tot = tickF now h.queues.length 0 h := ⟨_, rfl⟩
  have hn4 : n ≤ 4 := by rw [hn]; exact tok.good.1
  have HU : Hid (∀ (h' : HD), h'.queues.map QD.name = ns → ∀ k (hk : k < h'.queues.length), idxQ h'.queues[k].name h'.queues = (k : Int)) := by
    intro h' e k hk
    have e2 : h'.queues.map QD.name = h.queues.map QD.name := e.trans tok.names.symm
    have hl : h'.queues.length = h.queues.length := by have := congrArg List.length e2; simpa using this
    have hk2 : k < h.queues.length := by omega
    have hnm : h'.queues[k].name = h.queues[k].name := by
      have := List.getElem_of_eq e2 (by simpa using hk)
      simpa using this
    rw [idxQ_names e2, hnm]
    exact huniq k hk2
  have H0 : ∃ g, TK S w now M ns n tot g 0 h S va vc [] (.slice none 0 0) ((w.alloc (.cells #[.slice va h.queues.length vc, .int .i64 h.next] 24)).alloc (.cells #[.slice none 0 0, .int .i64 0] 24)) := by
    have hl : leftN n 0 h ≤ 44 := left_le tok.good hn4
    have b2 : Below w.heap.size w ((w.alloc (.cells #[.slice va h.queues.length vc, .int .i64 h.next] 24)).alloc (.cells #[.slice none 0 0, .int .i64 0] 24)) := (below_alloc _ _).alloc (by simp) _
    refine ⟨leftN n 0 h, b2, (Blk.new _ _ _).alloc _, ?_, hv.sub fun b hb => ⟨hb, b2.block b (hS b hb)⟩, World.ownsRow_nil _ _ _ _, by simp, fun b hb => ⟨.inl hb, by have := hS b hb; simp; omega, by simp [Value.ownBlock]⟩, fun b hb => hb, ⟨tok.good.mono (by omega), tok.right, tok.names⟩, hn.symm, Nat.zero_le _, rfl, hl, by simp, by rw [htot, hn]; simp, by rw [htot, hn]; simp⟩
    have := Blk.new (w.alloc (.cells #[.slice va h.queues.length vc, .int .i64 h.next] 24)) [.slice none 0 0, .int .i64 0] 24
    simpa using this
  obtain ⟨N, hN⟩ := H0
  have HN : Hid (TK S w now M ns n tot N 0 h S va vc [] (.slice none 0 0) _) := hN
  rw [← htot]
  clear hN htot hv hS huniq tok
  go_enter Try.func34, Try.ntmps34
  go_wp2_with fail
  go_loopg [6, 7] N (fun g ev kv wr => ∃ k h' P va vc LG, kv = .int .i64 (k : Nat) ∧ TK S w now M ns n tot g k h' P va vc LG ev wr)
  case atStart => exact ⟨0, _, _, _, _, _, rfl, HN.out⟩
  case round =>
    obtain ⟨k, h', P, va', vc', LG, rfl, hI⟩ := hrel
    clear HN
    have HI : Hid (TK S w now M ns n tot gk k h' P va' vc' LG u6 wr) := hI
    obtain ⟨ta, tc, htv, -⟩ := own_shape hI.row
    subst htv
    obtain ⟨b0, b1, b2, b3⟩ := hI.hall.b2
    have hlen := hI.len
    have hkn := hI.kn
    by_cases hlt : k < n
    · have hkq : k < h'.queues.length := by omega
      have hki : (k : Int) < (h'.queues.length : Int) := by omega
      obtain ⟨q, hqq⟩ : ∃ q, q = h'.queues[k] := ⟨_, rfl⟩
      have HQQ : Hid (h'.queues[k]? = some q ∧ q = h'.queues[k] ∧ idxQ q.name h'.queues = (k : Int) ∧ smallI q.items) := ⟨by rw [hqq]; exact List.getElem?_eq_getElem hkq, hqq, by rw [hqq]; exact HU.out h' hI.tok.names k hkq, by rw [hqq]; exact (hI.tok.good.2.2 _ (List.getElem_mem hkq)).small⟩
      obtain ⟨b, off, ia, ic, rfl, hPb, hq, y0, y1, y2⟩ := hI.qs.at k hkq
      rw [← hqq] at y0 y1 y2 hq
      have hbl : b < wr.heap.size := (hI.pb b hPb).2.1
      have HQ : Hid (SliceI (Under wr.heap.size) wr (.slice ia q.items.length ic) q.items) := hq.sub fun b hb => ⟨(hI.pb b hb).2.1, rfl⟩
      clear hI hqq hq
      have HLEN : Hid (h'.queues.length = n) := hlen
      clear hlen
      rcases idxI_cases (lateB now) q.items with hi | ⟨i, hil, hi, hin, hbf⟩
      · have hno : ∀ x ∈ q.items, lateB now x = false := by
          have := idxI_none' hi
          rwa [List.findIdx?_eq_none_iff] at this
        have HX : Hid (idxI (lateB now) q.items = -1 ∧ ∀ x ∈ q.items, lateB now x = false) := ⟨hi, hno⟩
        clear hi hno
        go_wp2_with (go_at_call 65; refine (refLate_none _ q.name q.limit now q.items HQQ.out.2.2.2.1 HX.out.2 _ HQ.out).mono ?_; rintro r w1 ⟨rfl, hb1⟩)
        go_roundg (leftN n (k + 1) h')
        case rel =>
          have hb2 := hb1.alloc (o := .cells #[.int .i64 0, .int .i64 0, .int .i64 0, .bool false, .int .i64 0, .slice none 0 0, .slice none 0 0] 78) hb1.size
          obtain ⟨a1, a2, a3, a4, a5, a6, a7, a8, a9, a10, a11, a12, a13, a14, a15, a16⟩ := HI.out
          have hl := left_skip a9.good hlt
          refine ⟨k + 1, h', P, some ⟨b, off, none⟩, vc', LG, by go_num, ⟨a1.trans (hb2.mono a1.size), a2.below hb2 a2.lt, a3.below hb2 a3.lt, a4.sub fun b hb => ⟨hb, hb2.block b (a7 b hb).2.1⟩, own_below a5 hb2, fun x hx => (a6 x hx).sub fun b hb => ⟨hb, hb2.block b (a7 b hb).2.1⟩, fun b hb => ⟨(a7 b hb).1, Nat.lt_of_lt_of_le (a7 b hb).2.1 hb2.size, (a7 b hb).2.2⟩, a8, ⟨a9.good.mono (by omega), a9.right, a9.names⟩, a10, hlt, rfl, by omega, by omega, ?_, ?_⟩⟩
          · rw [a15, tick_skip hlt HQQ.out.1 HX.out.1]
          · rw [a16, tick_skip hlt HQQ.out.1 HX.out.1]
        case measure =>
          have hl := left_skip HI.out.tok.good hlt
          have := HI.out.left
          omega
      · have HX : Hid (idxI (lateB now) q.items = (i : Int) ∧ lateB now q.items[i] = true ∧ ∀ j (hj : j < i), lateB now (q.items[j]'(Nat.lt_trans hj hil)) = false) := ⟨hi, hin, hbf⟩
        obtain ⟨it, hit⟩ : ∃ it, it = q.items[i] := ⟨_, rfl⟩
        obtain ⟨r, hr⟩ : ∃ r, r = backF h' k q it.id it.turn := ⟨_, rfl⟩
        have HR : Hid (it = q.items[i] ∧ r = backF h' k q it.id it.turn ∧ faceF h' q.name (fun k q => backF h' k q it.id it.turn) = r ∧ r.2.1.length ≤ 2) := by
          refine ⟨hit, hr, ?_, by rw [hr]; exact backF_es _ _ _ _ _⟩
          rw [faceF_some HQQ.out.2.2.1 hkq, ← HQQ.out.2.1, ← hr]
          have h0 : r.2.2 = 0 := by rw [hr, hit]; exact back_ok hi hil
          simp [failF, h0]
        clear hi hin hbf hr hit
        go_upto_region 5 with (go_at_call 65; refine (refLate_ok _ q.name q.limit now q.items HQQ.out.2.2.2.1 i hil HX.out.2.1 HX.out.2.2 _ HQ.out).mono ?_; rw [← HR.out.1]; rintro e w1 ⟨⟨p1, p2⟩, rfl, hn1, hb1⟩; obtain ⟨pa, pc, rfl, -⟩ := SliceV.shape hn1.1; obtain ⟨ba, bc, rfl, -⟩ := SliceV.shape hn1.2; simp only [IT.val]; have HB1 : Hid (Below wr.heap.size wr w1) := hb1; clear hn1 hb1)
        obtain ⟨W2, hW2⟩ : ∃ W2, W2 = w1.alloc (.cells #[.int .i64 it.id, .int .i64 it.turn, .int .i64 it.tries, .bool it.out, .int .i64 it.due, .slice pa it.note.props.length pc, .slice ba it.note.body.length bc] 78) := ⟨_, rfl⟩
        rw [← hW2]
        have hz1 := HB1.out.size
        have H2 : Hid (Below wr.heap.size wr W2 ∧ Blk W2 w1.heap.size [.int .i64 it.id, .int .i64 it.turn, .int .i64 it.tries, .bool it.out, .int .i64 it.due, .slice pa it.note.props.length pc, .slice ba it.note.body.length bc]) := by
          rw [hW2]; exact ⟨HB1.out.alloc hz1 _, Blk.new _ _ _⟩
        have hz2 : w1.heap.size + 1 ≤ W2.heap.size := by rw [hW2]; simp
        clear hW2
        have HT2 : Hid (TK S w now M ns n tot gk k h' P (some ⟨b, off, none⟩) vc' LG (.slice ta LG.length tc) W2) := by
          obtain ⟨a1, a2, a3, a4, a5, a6, a7, a8, a9, a10, a11, a12, a13, a14, a15, a16⟩ := HI.out
          have hb2 := H2.out.1
          exact ⟨a1.trans (hb2.mono a1.size), a2.below hb2 a2.lt, a3.below hb2 a3.lt, a4.sub fun b hb => ⟨hb, hb2.block b (a7 b hb).2.1⟩, own_below a5 hb2, fun x hx => (a6 x hx).sub fun b hb => ⟨hb, hb2.block b (a7 b hb).2.1⟩, fun b hb => ⟨(a7 b hb).1, Nat.lt_of_lt_of_le (a7 b hb).2.1 hb2.size, (a7 b hb).2.2⟩, a8, a9, a10, a11, a12, a13, a14, a15, a16⟩
        have hwr : w.heap.size + 2 ≤ wr.heap.size := by have := HI.out.res.lt; omega
        clear b0 b1 b2 b3
        obtain ⟨b0, b1, b2, b3⟩ := HT2.out.hall.b2
        obtain ⟨⟨i0, i1, i2, i3⟩, ⟨i4, i5, i6⟩, i7, i8⟩ := H2.out.2.b7
        have y0' := bel_c H2.out.1 hbl y0
        have hbl2 : b < W2.heap.size := Nat.lt_of_lt_of_le hbl H2.out.1.size
        have HP2 : Hid (∀ b, P b → b < W2.heap.size) := fun b hb => (HT2.out.pb b hb).2.1
        have HTOK : Hid (smallQ h'.queues ∧ (∀ q ∈ h'.queues, ∀ i ∈ q.items, i.fits) ∧ (0 ≤ h'.next ∧ h'.next ≤ 1000000000) ∧ ∀ q ∈ h'.queues, ∀ i ∈ q.items, i.note.wrong = 0 ∧ i.note.fitN) := by
          have t := HT2.out.tok
          refine ⟨t.good.small, t.good.fits, by have h1 := t.good.2.1; omega, fun q hq i hi => ⟨t.right q hq i hi, ND.wrong_fit (t.right q hq i hi)⟩⟩
        have n1 : W2.heap.size ≠ w.heap.size := by omega
        have n2 : W2.heap.size ≠ b := by omega
        have n3 : W2.heap.size ≠ w1.heap.size := by omega
        clear y0 y1 y2 HQ HI HB1
        go_upto_region 7 with fail
        go_cut [10, 11] (fun xp mv wx => ∃ xb sa sc ea ec, xp = .pointer (some ⟨xb, 0, none⟩) ∧ mv = .slice ea r.2.1.length ec ∧ XB P W2 r sa sc ea ec xb wx)
        case first =>
          go_region_held3 (fun w' => w'.cell? ⟨w.heap.size, 0, none⟩ = some (.slice (some ⟨b, off, none⟩) h'.queues.length vc') ∧ w'.cell? ⟨w.heap.size, 1, none⟩ = some (.int .i64 h'.next) ∧ w'.cell? ⟨b, off + k * 3, none⟩ = some (.string q.name) ∧ w'.cell? ⟨w1.heap.size, 0, none⟩ = some (.int .i64 it.id) ∧ w'.cell? ⟨w1.heap.size, 1, none⟩ = some (.int .i64 it.turn)) (go_keep) (first
            | (go_at_call 32; refine (refHallBack_any P _ h' 0 q.name it.id it.turn _ ?_ ?_ HTOK.out.1 HTOK.out.2.1 HTOK.out.2.2.1 HTOK.out.2.2.2).mono ?_; (intro b hb; have := HP2.out b hb; simp; omega); (exact HT2.out.qs.sub fun b hb => ⟨hb, Below.heap_alloc _ _ _ (HP2.out b hb)⟩); rw [HR.out.2.2.1]; rintro e w3 ⟨⟨sa, sc, ea, ec, rfl, hv3, he3⟩, hb3⟩; have hb3' : Below (W2.heap.size + 1) (W2.alloc (.cells #[.slice none 0 0, .int .i64 0] 24)) w3 := ⟨hb3.os, hb3.tape, hb3.output, by simpa using hb3.size, fun b hb => hb3.block b (by simpa using hb)⟩; have hq1 : Blk w3 W2.heap.size [.slice none 0 0, .int .i64 0] := (Blk.new W2 [.slice none 0 0, .int .i64 0] 24).below hb3' (by omega); have HQ1 : Hid (Blk w3 W2.heap.size [.slice none 0 0, .int .i64 0]) := hq1; obtain ⟨q0, q1, q2, q3⟩ := hq1.b2; have hbn : Below W2.heap.size W2 w3 := (((below_alloc W2 (.cells #[.slice none 0 0, .int .i64 0] 24)).mono (by omega)).trans (hb3'.mono (by omega))); have H3 : Hid (SliceQ (fun b => P b ∨ Made (W2.heap.size + 1) w3.heap.size b) w3 (.slice sa r.1.queues.length sc) r.1.queues ∧ SliceE (fun b => P b ∨ Made (W2.heap.size + 1) w3.heap.size b) w3 (.slice ea r.2.1.length ec) r.2.1 ∧ Below W2.heap.size W2 w3) := ⟨hv3.sub fun b hb => ⟨hb.imp (fun h => h) (fun h => ⟨by have := h.1; simp at this; omega, h.2⟩), rfl⟩, he3.sub fun b hb => ⟨hb.imp (fun h => h) (fun h => ⟨by have := h.1; simp at this; omega, h.2⟩), rfl⟩, hbn⟩; have hc0 := bel_c hbn b3 b0; have hc1 := bel_c hbn b3 b1; have hc2 := bel_c hbn hbl2 y0'; have hc3 := bel_c hbn i8 i0; have hc4 := bel_c hbn i8 i1; clear hb3 hb3' hq1 hv3 he3 hbn)
            | (go_at_call 32; refine (refHallBack_any P _ h' 0 q.name it.id it.turn _ ?_ ?_ HTOK.out.1 HTOK.out.2.1 HTOK.out.2.2.1 HTOK.out.2.2.2).mono ?_; (exact HP2.out); (exact HT2.out.qs.sub fun b hb => ⟨hb, rfl⟩); rw [HR.out.2.2.1]; rintro e w3 ⟨⟨sa, sc, ea, ec, rfl, hv3, he3⟩, hb3⟩; have hbn : Below W2.heap.size W2 w3 := ⟨hb3.os, hb3.tape, hb3.output, hb3.size, hb3.block⟩; have H3 : Hid (SliceQ (fun b => P b ∨ Made W2.heap.size w3.heap.size b) w3 (.slice sa r.1.queues.length sc) r.1.queues ∧ SliceE (fun b => P b ∨ Made W2.heap.size w3.heap.size b) w3 (.slice ea r.2.1.length ec) r.2.1 ∧ Below W2.heap.size W2 w3) := ⟨hv3.sub fun b hb => ⟨hb.imp (fun h => h) (fun h => ⟨h.1, h.2⟩), rfl⟩, he3.sub fun b hb => ⟨hb.imp (fun h => h) (fun h => ⟨h.1, h.2⟩), rfl⟩, hbn⟩; have hc0 := bel_c hbn b3 b0; have hc1 := bel_c hbn b3 b1; have hc2 := bel_c hbn hbl2 y0'; have hc3 := bel_c hbn i8 i0; have hc4 := bel_c hbn i8 i1; clear hb3 hv3 he3 hbn))
          all_goals
            go_wp2_with fail
            go_meet
            first
              | exact ⟨_, sa, sc, ea, ec, rfl, rfl, XB.here (r := r) HP2.out H3.out.2.2 HQ1.out H3.out.1 H3.out.2.1⟩
              | exact ⟨_, sa, sc, ea, ec, rfl, rfl, XB.new (r := r) HP2.out H3.out.2.2 H3.out.1 H3.out.2.1⟩
        case rest =>
          obtain ⟨xb, sa, sc, ea, ec, rfl, rfl, hXB⟩ := hcut
          obtain ⟨W3, hW3⟩ : ∃ W3, W3 = wc := ⟨_, rfl⟩
          rw [← hW3] at hXB
          rw [← hW3]
          have HXB : Hid (XB P W2 r sa sc ea ec xb W3) := hXB
          clear hXB hW3 b0 b1 b2 i0 i1 i2 i3 i4 i5 i6 i7 y0'
          have hx3 := HXB.out.bel.size
          have hxq := HXB.out.ql
          obtain ⟨c0, c1, c2, c3⟩ := HXB.out.blk.b2
          have hh3 := HT2.out.hall.below HXB.out.bel b3
          obtain ⟨d0, d1, d2, d3⟩ := hh3.b2
          have HH3 : Hid (Blk W3 w.heap.size [.slice (some ⟨b, off, none⟩) h'.queues.length vc', .int .i64 h'.next]) := hh3
          clear hh3
          go_upto_region 9 with fail
          obtain ⟨W5, hW5⟩ : ∃ W5, W5 = (W3.setCell ⟨w.heap.size, 0, none⟩ (.slice sa r.1.queues.length sc)).setCell ⟨w.heap.size, 1, none⟩ (.int .i64 r.1.next) := ⟨_, rfl⟩
          rw [← hW5]
          have hz5 : W5.heap.size = W3.heap.size := by rw [hW5]; simp
          have hx5 : ∀ b, b ≠ w.heap.size → W5.heap[b]? = W3.heap[b]? := fun b hb => by rw [hW5, Below.heap_setCell _ _ _ _ hb, Below.heap_setCell _ _ _ _ hb]
          have hb5 : Blk W5 w.heap.size [.slice sa r.1.queues.length sc, .int .i64 r.1.next] := by rw [hW5]; exact (HH3.out.set 0 _).set 1 _
          have ho5 : W5.os = W3.os ∧ W5.tape = W3.tape ∧ W5.output = W3.output := by rw [hW5]; exact ⟨rfl, rfl, rfl⟩
          obtain ⟨LE, hLE, hLV, hLN⟩ := HXB.out.es
          have hll : r.2.1.length = LE.length := by rw [← hLE]; simp
          have hrow5 : W5.ownsRow (w.heap.size + 2) 30 6 (.slice ta LG.length tc) LG.length (cellsE LG) := own_same (own_below HT2.out.row HXB.out.bel) (fun b e => hx5 b (by have := (HT2.out.row.lt b e).1; omega))
          have H5 : Hid (W5.ownsRow (w.heap.size + 2) 30 6 (.slice ta LG.length tc) LG.length (cellsE LG) ∧ SliceV (fun b => P b ∨ (Made W2.heap.size W3.heap.size b ∧ b ≠ xb)) W5 (.slice ea r.2.1.length ec) r.2.1.length (cellsE LE) ∧ (∀ x ∈ LE, NoteIs (fun b => P b ∨ (Made W2.heap.size W3.heap.size b ∧ b ≠ xb)) W3 x.2 x.1.note) ∧ LE.map Prod.fst = r.2.1 ∧ (cellsE LE).length = r.2.1.length * 6 ∧ (∀ u ∈ cellsE LE, u.oneCell' = true) ∧ (∀ b, b ≠ w.heap.size → W5.heap[b]? = W3.heap[b]?) ∧ Blk W5 w.heap.size [.slice sa r.1.queues.length sc, .int .i64 r.1.next] ∧ W5.heap.size = W3.heap.size ∧ (W5.os = W3.os ∧ W5.tape = W3.tape ∧ W5.output = W3.output)) := by
            refine ⟨hrow5, ?_, hLN, hLE, by rw [cellsE_len, hll], cellsE_one LE hLN, hx5, hb5, hz5, ho5⟩
            have h1 : SliceV (fun b => P b ∨ (Made W2.heap.size W3.heap.size b ∧ b ≠ xb)) W3 (.slice ea r.2.1.length ec) r.2.1.length (cellsE LE) := by rw [hll] at hLV ⊢; exact hLV
            refine h1.sub fun b hb => ⟨hb, hx5 b ?_⟩
            rcases hb with hb | hb
            · rcases (HT2.out.pb b hb).1 with h | h
              · have := HSS.out b h; omega
              · omega
            · have := hb.1.1; omega
          have hlr := HR.out.2.2.2
          have hlg : LG.length ≤ 88 := by have := HT2.out.esl; omega
          have HLE0 : Hid (r.2.1.length = LE.length) := hll
          clear hW5 hz5 hx5 hb5 ho5 hLE hLV hLN hll hrow5 c0 c1 c2 d0 d1 d2
          go_wp2_with (at_builtin; refine wpList_appV rfl (.tmp 50) (.tmp 51) 37 rfl 30 t0 _ 6 88 Try.underlying37 ht0 tz0 tz1 tz2 rfl (by omega) (w.heap.size + 2) (.slice ta LG.length tc) LG.length (cellsE LG) rfl H5.out.1 _ (.slice ea r.2.1.length ec) r.2.1.length (cellsE LE) rfl H5.out.2.1 H5.out.2.2.2.2.1 H5.out.2.2.2.2.2.1 (by unfold maxLen; omega) (by omega) (by have := H5.out.2.2.2.2.2.2.2.2.1; omega) ?_; intro ao acap w7 ho7 hg7 hm7)
          have hlb := left_back (n := n) HQQ.out.1 HX.out.1 hil
          rw [← HR.out.1, ← HR.out.2.1] at hlb
          go_roundg (leftN n k r.1)
          case rel =>
            obtain ⟨a1, a2, a3, a4, a5, a6, a7, a8, a9, a10, a11, a12, a13, a14, a15, a16⟩ := HT2.out
            obtain ⟨e1, e2, e3, e4, e5, e6, e7, e8, e9, e10⟩ := H5.out
            have hzx := hg7.size
            have hrl : ∀ b, (Value.slice ta LG.length tc).ownBlock = some b → w.heap.size + 2 ≤ b ∧ b < W2.heap.size := fun b e => a5.lt b e
            have k7 : ∀ b, b < W5.heap.size → (Value.slice ta LG.length tc).ownBlock ≠ some b → w7.heap[b]? = W5.heap[b]? := fun b h1 h2 => hg7.block b h1 (fun e => h2 e.symm)
            obtain ⟨P', hP'⟩ : ∃ P' : Nat → Prop, P' = fun b => P b ∨ (Made W2.heap.size W3.heap.size b ∧ b ≠ xb) := ⟨_, rfl⟩
            have hPb : ∀ b, P' b → (S b ∨ w.heap.size + 2 ≤ b) ∧ b < W3.heap.size ∧ b ≠ w.heap.size ∧ (Value.slice ta LG.length tc).ownBlock ≠ some b := fun b hb => by
              subst hP'
              rcases hb with hb | ⟨⟨h1, h2⟩, h3⟩
              · have h1 := a7 b hb
                refine ⟨h1.1, by omega, ?_, h1.2.2⟩
                rcases h1.1 with h | h
                · have := HSS.out b h; omega
                · omega
              · exact ⟨.inr (by omega), h2, by omega, fun e => by have := (hrl b e).2; omega⟩
            have k3 : ∀ b, P' b → w7.heap[b]? = W3.heap[b]? := fun b hb => (k7 b (by have := (hPb b hb).2.1; omega) (hPb b hb).2.2.2).trans (e7 b (hPb b hb).2.2.1)
            have hle := HLE0.out
            have ho : w7.ownsRow (w.heap.size + 2) 30 6 (.slice ao (LG.length + r.2.1.length) acap) (LG ++ LE).length (cellsE (LG ++ LE)) := by
              rw [List.length_append, cellsE_append, ← hle]; exact ho7
            have hob : ∀ b, (Value.slice ao (LG.length + r.2.1.length) acap).ownBlock = some b → (Value.slice ta LG.length tc).ownBlock = some b ∨ W5.heap.size ≤ b := fun b e => hm7 b e
            refine ⟨k, r.1, P', sa, sc, LG ++ LE, rfl, ⟨?_, ?_, ?_, ?_, ho, fun x hx => ?_, fun b hb => ⟨(hPb b hb).1, by have := (hPb b hb).2.1; omega, fun e => ?_⟩, fun b hb => by rw [hP']; exact .inl (a8 b hb), ?_, ?_, a11, rfl, by omega, ?_, ?_, ?_⟩⟩
            · refine ⟨hg7.os.trans (e10.1.trans (HXB.out.bel.os.trans a1.os)), hg7.tape.trans (e10.2.1.trans (HXB.out.bel.tape.trans a1.tape)), hg7.output.trans (e10.2.2.trans (HXB.out.bel.output.trans a1.output)), by have := a1.size; omega, fun b hb => ?_⟩
              rw [k7 b (by have := a1.size; omega) (fun e => by have := (hrl b e).1; omega), e7 b (by omega), HXB.out.bel.block b (by have := a1.size; omega)]
              exact a1.block b hb
            · exact e8.same (k7 _ e8.lt (fun e => by have := (hrl _ e).1; omega))
            · have h3 := a3.below HXB.out.bel a3.lt
              exact (h3.same (e7 _ (by omega))).same (k7 _ (by have := h3.lt; omega) (fun e => by have := (hrl _ e).1; omega))
            · rw [hP'] at k3 ⊢
              exact HXB.out.hall.sub fun b hb => ⟨hb, k3 b hb⟩
            · rw [List.mem_append] at hx
              rcases hx with hx | hx
              · exact (a6 x hx).sub fun b hb => ⟨by rw [hP']; exact .inl hb, (k3 b (by rw [hP']; exact .inl hb)).trans (HXB.out.bel.block b (HP2.out b hb))⟩
              · refine (e3 x hx).sub fun b hb => ?_
                rw [hP'] at k3 ⊢
                exact ⟨hb, k3 b hb⟩
            · rcases hob b e with h | h
              · exact (hPb b hb).2.2.2 h
              · have := (hPb b hb).2.1; omega
            · have t2 := back_tok a9 k HQQ.out.1 it.id it.turn
              rw [← HR.out.2.1] at t2
              exact ⟨t2.good.mono (by omega), t2.right, t2.names⟩
            · rw [HR.out.2.1, back_len]; exact a10
            · rw [List.length_append, ← hle]; omega
            · rw [a15, (tick_back hlt HQQ.out.1 HX.out.1 hil).1, ← HR.out.1, ← HR.out.2.1]
            · rw [a16, (tick_back hlt HQQ.out.1 HX.out.1 hil).2, ← HR.out.1, ← HR.out.2.1, List.map_append, e4, List.append_assoc]
          case measure =>
            have := HT2.out.left
            omega
    · obtain rfl : k = n := by omega
      have hres := hI.res
      obtain ⟨c0, c1, c2, c3⟩ := hres.b2
      have hki : ¬ (k : Int) < (h'.queues.length : Int) := by omega
      clear HU hI hlen hres
      go_wp2_with fail
      obtain ⟨a1, a2, a3, a4, a5, a6, a7, a8, a9, a10, a11, a12, a13, a14, a15, a16⟩ := HI.out
      have F := Fn.B a3 (.slice va' h'.queues.length vc') (.int .i64 h'.next)
      obtain ⟨wF, hF⟩ : ∃ wF, wF = (wr.setCell ⟨w.heap.size + 1, 0, none⟩ (.slice va' h'.queues.length vc')).setCell ⟨w.heap.size + 1, 1, none⟩ (.int .i64 h'.next) := ⟨_, rfl⟩
      rw [← hF] at F
      rw [← hF]
      clear hF
      have hzF := F.size
      have hP : ∀ b, P b → SM S w wF b ∧ wF.heap[b]? = wr.heap[b]? := fun b hb => by
        have h1 := a7 b hb
        have hne : b ≠ w.heap.size + 1 := by
          rcases h1.1 with h | h
          · have := HSS.out b h; omega
          · omega
        exact ⟨h1.1.imp (fun h => h) (fun h => ⟨by omega, by omega⟩), F.keep b h1.2.1 hne⟩
      have hrowF : wF.ownsRow (w.heap.size + 2) 30 6 (.slice ta LG.length tc) LG.length (cellsE LG) := own_same a5 (fun b e => F.keep b (a5.lt b e).2 (by have := (a5.lt b e).1; omega))
      have ht1 : tot.1 = h' := by rw [a15]; simp [tickF]
      have ht2 : tot.2 = LG.map Prod.fst := by rw [a16]; simp [tickF]
      have hA : AnsSE S tot w (.returned (.tuple #[.agg #[.slice va' h'.queues.length vc', .int .i64 h'.next], .slice ta LG.length tc])) wF := by
        refine ⟨va', vc', ta, tc, by rw [ht1, ht2]; simp, by rw [ht1]; exact a4.sub hP, ?_⟩
        rw [ht2]
        simp only [List.length_map]
        refine ⟨LG, rfl, (own_slice hrowF).sub fun b hb => ⟨.inr ⟨by have := (hrowF.lt b hb).1; omega, (hrowF.lt b hb).2⟩, rfl⟩, fun x hx => (a6 x hx).sub hP⟩
      obtain ⟨f0, f1, f2, f3⟩ := F.box.b2
      have hBF := F.below (by omega) a1
      clear hP hrowF ht1 ht2 a15 a16 a12 a10 a14 c0 c1 c2
      exact bodyPost_ret (by simp [results, Try.results34, go_sem, f0, f1]; done) rfl ⟨hA, hBF⟩
end Go.Proofs.Ytkddkpdfeeikhaa
