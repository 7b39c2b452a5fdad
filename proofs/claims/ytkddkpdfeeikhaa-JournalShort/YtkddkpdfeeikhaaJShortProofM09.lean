/-
  Each; Find; Gone: texts laid together.
-/
import Derived.Test.YtkddkpdfeeikhaaHall
/-
  hall.eachOf answers what a function makes of each queue, in new memory; hall.Own.
-/
namespace Go.Proofs.Ytkddkpdfeeikhaa
open Go.RowKit
set_option linter.unusedVariables false
set_option linter.unusedSimpArgs false

attribute [local go_sem ↓] Go.wp_at_zero Go.wp_at_succ

/-- A function that makes a queue of a queue, in new memory. -/
structure Makes (F : Nat) (caps : List Value) (g : QD → QD) : Prop where
  enter : ∀ args W, (callFunc F args).run Try.prog W = .ok (.enter F args) W
  call : ∀ (q : QD) (v : Value) (W : World), smallI q.items → SliceI (Under W.heap.size) W v q.items → Calls Try.prog F (Value.agg #[.string q.name, .int .i64 q.limit, v] :: caps).toArray W fun e w' => ∃ v', e = .returned (.agg #[.string (g q).name, .int .i64 (g q).limit, v']) ∧ SliceI (Made W.heap.size w'.heap.size) w' v' (g q).items ∧ Below W.heap.size W w'

/-- What holds in 'eachOf', behind k queues. -/
structure EI (w : World) (next : Int) (g : QD → QD) (qs : List QD) (k : Nat) (wr : World) (vi : Value) (L' : QuL) : Prop where
  bel : Below w.heap.size w wr
  res : Blk wr (w.heap.size + 1) [.slice none 0 0, .int .i64 0]
  out : Blk wr (w.heap.size + 1 + 1) [vi, .int .i64 next]
  own : wr.ownsRow (w.heap.size + 3) 76 3 vi L'.length (cellsQ L')
  items : ∀ x ∈ L', SliceI (fun b => w.heap.size + 3 ≤ b ∧ b < wr.heap.size ∧ vi.ownBlock ≠ some b) wr x.2 x.1.items
  list : L'.map Prod.fst = (qs.take k).map g

section
variable {w : World} {next : Int} {g : QD → QD} {qs : List QD} {k : Nat} {wr : World} {vi : Value} {L' : QuL}

theorem EI.lt (h : EI w next g qs k wr vi L') : w.heap.size + 3 ≤ wr.heap.size := by have := h.out.lt; omega

theorem EI.on (h : EI w next g qs k wr vi L') {W : World} (hb : Below wr.heap.size wr W) : EI w next g qs k W vi L' := by
  have hl := h.lt
  exact ⟨h.bel.trans (hb.mono h.bel.size), h.res.below hb h.res.lt, h.out.below hb h.out.lt, own_below h.own hb, fun x hx => (h.items x hx).sub fun b hbb => ⟨⟨hbb.1, by have := hb.size; omega, hbb.2.2⟩, hb.block b hbb.2.1⟩, h.list⟩

theorem EI.more (h : EI w next g qs k wr vi L') (hk : k < qs.length) {w1 w2 : World} {v : Value} {o : Obj} {gg cap : Nat}
    (hn : SliceI (Made wr.heap.size w1.heap.size) w1 v (g qs[k]).items) (h1 : Below wr.heap.size wr w1)
    (ho : w2.ownsRow (w.heap.size + 3) 76 3 (.slice (some ⟨gg, 0, none⟩) (L'.length + 1) cap) (L'.length + 1) (cellsQ L' ++ (g qs[k]).cells v)) (hg : (w1.alloc o).grownBy w2 vi.ownBlock) (hat : vi.ownBlock = some gg ∨ gg = w1.heap.size + 1) (hgl : gg < w2.heap.size) :
    EI w next g qs (k + 1) (w2.setCell ⟨w.heap.size + 1 + 1, 0, none⟩ (.slice (some ⟨gg, 0, none⟩) (L'.length + 1) cap)) (.slice (some ⟨gg, 0, none⟩) (L'.length + 1) cap) (L' ++ [(g qs[k], v)]) := by
  have hl := h.lt
  have hz1 := h1.size
  have hz2 : w1.heap.size + 1 ≤ w2.heap.size := by have := hg.size; simp at this; omega
  have hown : ∀ b, vi.ownBlock = some b → w.heap.size + 3 ≤ b ∧ b < wr.heap.size := fun b hb => h.own.lt b hb
  have blk : ∀ b, b < w1.heap.size → vi.ownBlock ≠ some b → w2.heap[b]? = w1.heap[b]? := fun b hb hn => (hg.block b (by simp; omega) (fun e => hn e.symm)).trans (Below.heap_alloc _ _ _ hb)
  have blk' : ∀ b, b < wr.heap.size → vi.ownBlock ≠ some b → w2.heap[b]? = wr.heap[b]? := fun b hb hn => (blk b (by omega) hn).trans (h1.block b hb)
  have blo : ∀ b, b < w.heap.size + 3 → w2.heap[b]? = wr.heap[b]? := fun b hb => blk' b (by omega) (fun e => by have := (hown b e).1; omega)
  have hge : ∀ b, vi.ownBlock ≠ some b → b < w1.heap.size → (Value.slice (some ⟨gg, 0, none⟩) (L'.length + 1) cap).ownBlock ≠ some b := fun b hb hlt e => by
    simp only [Value.ownBlock, Option.some.injEq] at e
    subst e
    rcases hat with h | h
    · exact hb h
    · omega
  refine ⟨⟨?_, ?_, ?_, ?_, fun b hb => ?_⟩, ?_, ?_, ?_, fun x hx => ?_, ?_⟩
  · exact hg.os.trans (h1.os.trans h.bel.os)
  · exact hg.tape.trans (h1.tape.trans h.bel.tape)
  · exact hg.output.trans (h1.output.trans h.bel.output)
  · simp; have := h.bel.size; omega
  · rw [Below.heap_setCell _ _ _ _ (by simp; omega), blo b (by omega)]
    exact h.bel.block b hb
  · exact (h.res.same (blo _ (by omega))).far (by simp) _
  · exact (h.out.same (blo _ (by omega))).set 0 _
  · rw [List.length_append, cellsQ_append]
    have : cellsQ [(g qs[k], v)] = (g qs[k]).cells v := by simp [cellsQ]
    rw [this]
    exact ownsRow_setCell_below ho (by simp) _
  · rw [List.mem_append, List.mem_singleton] at hx
    rcases hx with hx | rfl
    · refine (h.items x hx).sub fun b hb => ⟨⟨hb.1, by simp; omega, hge b hb.2.2 (by omega)⟩, ?_⟩
      rw [Below.heap_setCell _ _ _ _ (by simp; omega), blk' b hb.2.1 hb.2.2]
    · refine hn.sub fun b hb => ?_
      obtain ⟨hb1, hb2⟩ := hb
      have hno : vi.ownBlock ≠ some b := fun e => by have := (hown b e).2; omega
      refine ⟨⟨by omega, by simp; omega, hge b hno hb2⟩, ?_⟩
      rw [Below.heap_setCell _ _ _ _ (by simp; omega), blk b hb2 hno]
  · rw [List.map_append, h.list, List.take_succ_eq_append_getElem hk, List.map_append]
    simp
end

theorem info25 : (Try.prog.info? 76).map (fun i => (i.zero, i.size, i.bytes)) = some (some (.agg #[.string ByteArray.empty, .int .i64 0, .slice none 0 0]), 3, 48) := by kernel_rfl

theorem EI.start (w : World) (next : Int) (g : QD → QD) (qs : List QD) (v : Value) :
    EI w next g qs 0 (((w.alloc (.cells #[v, .int .i64 next] 24)).alloc (.cells #[.slice none 0 0, .int .i64 0] 24)).alloc (.cells #[.slice none 0 0, .int .i64 next] 24)) (.slice none 0 0) [] := by
  have b3 : Below w.heap.size w (((w.alloc (.cells #[v, .int .i64 next] 24)).alloc (.cells #[.slice none 0 0, .int .i64 0] 24)).alloc (.cells #[.slice none 0 0, .int .i64 next] 24)) := ((below_alloc _ _).alloc (by simp) _).alloc (by simp; omega) _
  refine ⟨b3, ?_, ?_, World.ownsRow_nil _ _ _ _, by simp, by simp⟩
  · have := (Blk.new (w.alloc (.cells #[v, .int .i64 next] 24)) [.slice none 0 0, .int .i64 0] 24).alloc (.cells #[.slice none 0 0, .int .i64 next] 24)
    simpa using this
  · have := Blk.new ((w.alloc (.cells #[v, .int .i64 next] 24)).alloc (.cells #[.slice none 0 0, .int .i64 0] 24)) [.slice none 0 0, .int .i64 next] 24
    simpa using this

/-- Queues of one's own: a row that the call made, items in other blocks that it made. -/
def OwnQ (base : Nat) (w : World) (v : Value) (qs : List QD) : Prop :=
  ∃ L : QuL, L.map Prod.fst = qs ∧ w.ownsRow base 76 3 v L.length (cellsQ L) ∧ ∀ x ∈ L, SliceI (fun b => base ≤ b ∧ b < w.heap.size ∧ v.ownBlock ≠ some b) w x.2 x.1.items

def smallQ (qs : List QD) : Prop := qs.length ≤ 4194304 ∧ ∀ q ∈ qs, smallI q.items

set_option maxRecDepth 100000 in
set_option maxHeartbeats 3200000 in
theorem eachOf_any (F : Nat) (caps : List Value) (g : QD → QD) (v : Value) (next : Int) (qs : List QD) (w : World) (hv : SliceQ (Under w.heap.size) w v qs) (hsm : smallQ qs) (hs : Makes F caps g) :
    Calls Try.prog 86 #[.agg #[v, .int .i64 next], .func (.func F) #[] caps.toArray] w fun e w' => ∃ vi, e = .returned (.agg #[vi, .int .i64 next]) ∧ OwnQ w.heap.size w' vi (qs.map g) ∧ Below w.heap.size w w' := by
  obtain ⟨i0, hi0, hz0, hz1, hz2⟩ := info_parts info25
  have HV : Hid (SliceQ (Under w.heap.size) w v qs) := hv
  have HM : Hid (smallQ qs) := hsm
  have HS : Hid (Makes F caps g) := hs
  have HK : Hid (EI w next g qs 0 _ (.slice none 0 0) []) := EI.start w next g qs v
  have hE := hs.enter
  obtain ⟨va, vc, rfl, h1, h2, h3⟩ := hv.shape
  have hlen := hsm.1
  unfold maxLen at h2
  clear hv hsm hs
  go_enter Try.func86, Try.ntmps86
  go_wp2
  go_loopw [14] (fun i wr => ∃ k : Nat, k ≤ qs.length ∧ i = .int .i64 k ∧ ∃ vi L', EI w next g qs k wr vi L')
    (fun i _ => qs.length - (intOf i).toNat)
  case atStart => exact ⟨0, Nat.zero_le _, rfl, _, _, HK.out⟩
  case round =>
    obtain ⟨k, hk, rfl, vi, L', hI⟩ := hrel
    clear HK
    have hL' : L'.length ≤ k := by
      have := congrArg List.length hI.list
      simp at this
      omega
    by_cases hlt : k < qs.length
    · obtain ⟨b, off, ia, ic, rfl, hS, hq, c0, c1, c2⟩ := (SliceQ.sub (T := Under w.heap.size) HV.out (fun b hb => ⟨hb, hI.bel.block b hb⟩)).at k hlt
      have HQ : Hid (SliceI (Under w.heap.size) wr (.slice ia qs[k].items.length ic) qs[k].items) := hq
      have hsm := HM.out.2 qs[k] (List.getElem_mem hlt)
      have HI : Hid (EI w next g qs k (wr.alloc (.cells #[.string qs[k].name, .int .i64 qs[k].limit, .slice ia qs[k].items.length ic] 76)) vi L') := hI.on (below_alloc _ _)
      have hl := hI.lt
      obtain ⟨o0, o1, o2, o3⟩ := (hI.out.alloc (.cells #[.string qs[k].name, .int .i64 qs[k].limit, .slice ia qs[k].items.length ic] 76)).b2
      have HI0 : Hid (EI w next g qs k wr vi L') := hI
      clear hI hq
      obtain ⟨q, hqe⟩ : ∃ q, q = qs[k] := ⟨_, rfl⟩
      rw [← hqe] at c0 c1 c2 HQ hsm HI o0 o1 o2 o3
      have HQE : Hid (q = qs[k]) := hqe
      clear hqe
      go_wp2_with fail
      go_region_law (first
          | (go_simp; (with_reducible show Calls Try.prog F _ _ _); refine (HS.out.call q _ _ hsm ?_).mono ?_; (exact HQ.out.sub fun b hb => ⟨Nat.lt_of_lt_of_le hb (by simp; omega), Below.heap_alloc _ _ _ (Nat.lt_of_lt_of_le hb (by omega))⟩); rintro e w2 ⟨v2, rfl, hn2, hb2⟩; obtain ⟨xa, xc, rfl⟩ := hn2.shp; have HI2 : Hid (EI w next g qs k w2 vi L') := HI.out.on ⟨hb2.os, hb2.tape, hb2.output, hb2.size, hb2.block⟩; obtain ⟨r0, r1, r2, r3⟩ := HI2.out.out.b2)
          | (refine step_append_lies _ (by rfl) _ _ _ (by rfl) (w.heap.size + 3) 76 i0 _ 3 48 Try.underlying22 hi0 hz0 hz1 hz2 rfl (by omega) vi L'.length (cellsQ L') (by rfl) (own_below HI2.out.own (below_alloc _ _)) ⟨w2.heap.size, 0, none⟩ 1 1 ((g q).cells (.slice xa (g q).items.length xc)) (by rfl) (by rfl) (World.news_of_block (cs := #[.string (g q).name, .int .i64 (g q).limit, .slice xa (g q).items.length xc]) (t := 76) (fr := (0, 0)) (heap_alloc_new w2 _)) (by simp [QD.cells, Value.oneCell']) (by omega) (by unfold maxLen; omega) (by omega) (by simp; omega) (w2.heap.size + 1) (by simp) ?_; intro gg cap w3 hown3 hg3 hat3 hlt3; obtain ⟨t0, t1, t2, t3⟩ := ((HI2.out.out.alloc _).same (hg3.block _ (by simp; omega) (fun e => by have := (HI2.out.own.lt _ e.symm).1; omega))).b2))
      all_goals
        have hb2' : Below wr.heap.size wr w2 := (below_alloc _ _).trans (Below.mono (B := wr.heap.size + 1) ⟨hb2.os, hb2.tape, hb2.output, hb2.size, fun b hb => hb2.block b (by simpa using hb)⟩ (by omega))
        have RR : EI w next g qs (k + 1) _ _ _ := HI0.out.more hlt (HQE.out ▸ hn2.sub fun b hb => ⟨⟨by have := hb.1; simp at this; omega, hb.2⟩, rfl⟩) hb2' (HQE.out ▸ hown3) hg3 hat3 hlt3
        clear hg3 hat3 hlt3 hown3 HI2 hn2 hb2 hb2'
        go_wp2
        go_roundw
        case rel => exact ⟨k + 1, by omega, by go_num, _, _, RR⟩
        case measure => simp [intOf]; omega
    · obtain ⟨o0, o1, o2, o3⟩ := hI.out.b2
      obtain ⟨r0, r1, r2, r3⟩ := hI.res.b2
      obtain ⟨xa, xc, rfl, -⟩ := own_shape hI.own
      obtain rfl : k = qs.length := by omega
      have HI : Hid (EI w next g qs qs.length wr (.slice xa L'.length xc) L') := hI
      clear hI
      go_wp2
      have hl := HI.out.lt
      refine bodyPost_ret (v := .agg #[.slice xa L'.length xc, .int .i64 next]) (by simp [results, Try.results86, go_sem, *]; done) rfl ⟨_, rfl, ⟨L', ?_, ?_, fun x hx => ?_⟩, ?_⟩
      · have := HI.out.list
        rwa [List.take_of_length_le (Nat.le_refl _)] at this
      · refine own_mono (base := w.heap.size + 3) ?_ (by omega)
        iterate 2 refine ownsRow_setCell_below ?_ (by simp) _
        exact HI.out.own
      · refine (HI.out.items x hx).sub fun b hb => ?_
        refine ⟨⟨by omega, by simpa using hb.2.1, hb.2.2⟩, ?_⟩
        iterate 2 rw [Below.heap_setCell _ _ _ _ (by simp; omega)]
      · iterate 2 refine Below.setCell ?_ (by simp) _
        exact HI.out.bel

theorem enter47 (args : Array Value) (W : World) : (callFunc 87 args).run Try.prog W = .ok (.enter 87 args) W := by go_simp

theorem own_makes : Makes 87 [] id :=
  ⟨enter47, fun q v W hs hv => (own_any v q.name q.limit q.items W hv hs).mono fun e w' ⟨vi, h1, h2, h3⟩ => ⟨vi, h1, h2.made, h3⟩⟩

set_option maxRecDepth 100000 in
set_option maxHeartbeats 1000000 in
theorem hallOwn_any (v : Value) (h : HD) (w : World) (hv : SliceQ (Under w.heap.size) w v h.queues) (hsm : smallQ h.queues) :
    Calls Try.prog 55 #[.agg #[v, .int .i64 h.next]] w fun e w' => ∃ vi, e = .returned (.agg #[vi, .int .i64 h.next]) ∧ OwnQ w.heap.size w' vi h.queues ∧ Below w.heap.size w w' := by
  have HV : Hid (SliceQ (Under w.heap.size) w v h.queues) := hv
  have HM : Hid (smallQ h.queues) := hsm
  obtain ⟨va, vc, rfl⟩ := hv.shp
  clear hv hsm
  have two : Hid (∀ o1 o2 : Obj, Below w.heap.size w ((w.alloc o1).alloc o2)) := fun o1 o2 => (below_alloc _ _).alloc (by simp) _
  go_enter Try.func55, Try.ntmps55
  go_wp2_with (go_at_call 86; refine (eachOf_any 87 [] id _ h.next h.queues _ (HV.out.sub fun k hk => ⟨?_, (two.out _ _).block k hk⟩) HM.out own_makes).mono ?_; (simp [Under] at hk ⊢; omega); rintro e w1 ⟨vi, rfl, ho1, hb1⟩; rw [List.map_id] at ho1; have ho1' := ho1; obtain ⟨L, hL, hr, hn⟩ := ho1; obtain ⟨xa, xc, rfl, -⟩ := own_shape hr; obtain ⟨b0, b1, b2, b3⟩ := ((Blk.new (w.alloc _) _ 24).below hb1 (by simp)).b2; simp only [World.size_alloc] at b0 b1 b2 b3)
  refine bodyPost_ret (v := .agg #[.slice xa L.length xc, .int .i64 h.next]) (by simp [results, Try.results55, go_sem, *]; done) rfl ⟨_, rfl, ⟨L, hL, ?_, fun x hx => ?_⟩, ?_⟩
  · refine own_mono (base := w.heap.size + 2) ?_ (by omega)
    iterate 2 refine ownsRow_setCell_below ?_ (by simp) _
    exact own_mono hr (by simp)
  · refine (hn x hx).sub fun b hb => ?_
    have h1 := hb.1
    simp at h1
    refine ⟨⟨by omega, by simpa using hb.2.1, hb.2.2⟩, ?_⟩
    iterate 2 rw [Below.heap_setCell _ _ _ _ (by simp; omega)]
  · iterate 2 refine Below.setCell ?_ (by simp) _
    exact (two.out _ _).trans (hb1.mono (by simp; omega))

theorem OwnQ.slice {base : Nat} {w : World} {v : Value} {qs : List QD} (h : OwnQ base w v qs) : SliceQ (Made base w.heap.size) w v qs := by
  obtain ⟨L, e, h1, h2⟩ := h
  exact ⟨L, e, (own_slice h1).sub fun k hk => ⟨h1.lt k hk, rfl⟩, fun x hx => (h2 x hx).sub fun b hb => ⟨⟨hb.1, hb.2.1⟩, rfl⟩⟩
theorem SliceQ.under {lo hi : Nat} {w : World} {v : Value} {qs : List QD} (h : SliceQ (Made lo hi) w v qs) : SliceQ (Under hi) w v qs := h.sub fun k hk => ⟨hk.2, rfl⟩
theorem SliceE.under {lo hi : Nat} {w : World} {v : Value} {qs : List ED} (h : SliceE (Made lo hi) w v qs) : SliceE (Under hi) w v qs := h.sub fun k hk => ⟨hk.2, rfl⟩

/-- A box for it. -/
theorem OwnQ.box {base : Nat} {w : World} {v : Value} {h : HD} (H : OwnQ base w v h.queues) : ∃ L : QuL, L.map Prod.fst = h.queues ∧ HallIn (Made base w.heap.size) w.heap.size (w.alloc (.cells #[v, .int .i64 h.next] 24)) v L h.next := by
  obtain ⟨L, e, h1, h2⟩ := H
  refine ⟨L, e, Blk.new _ _ _, (own_mono h1 (Nat.zero_le _)).alloc _, fun b hb => h1.lt b hb, fun x hx => (h2 x hx).sub fun b hb => ⟨⟨⟨hb.1, hb.2.1⟩, hb.2.2⟩, Below.heap_alloc _ _ _ hb.2.1⟩, fun b hb => by have := hb.2; simp; omega, fun hb => by have := hb.2; omega⟩
end Go.Proofs.Ytkddkpdfeeikhaa

/-
  hall.Find tells the place of a queue.
-/
namespace Go.Proofs.Ytkddkpdfeeikhaa
open Go.RowKit
set_option linter.unusedVariables false
set_option linter.unusedSimpArgs false

attribute [local go_sem ↓] Go.wp_at_zero Go.wp_at_succ

/-- Whether a queue has this name. -/
def nameB (name : ByteArray) (q : QD) : Bool := q.name.toList == name.toList
theorem bytes_inj {a b : ByteArray} (h : a.toList = b.toList) : a = b := by
  rw [ByteArray.toList_eq, ByteArray.toList_eq] at h
  exact ByteArray.ext (Array.toList_inj.1 h)
theorem nameB_eq {name : ByteArray} {q : QD} (h : nameB name q = true) : q.name = name := bytes_inj (by simpa [nameB] using h)
theorem nameB_self (q : QD) : nameB q.name q = true := by simp [nameB]
theorem nameB_no {name : ByteArray} {q : QD} (h : nameB name q = false) : q.name ≠ name := fun e => by rw [← e, nameB_self] at h; cases h

/-- The place of the first that fits; else -1. -/
def idxQ (name : ByteArray) (qs : List QD) : Int := match qs.findIdx? (nameB name) with
  | some k => (k : Int)
  | none => -1

theorem idxQ_yes (name : ByteArray) (qs : List QD) (k : Nat) (hk : k < qs.length) (hn : ∀ x ∈ qs.take k, nameB name x = false) (hp : nameB name qs[k] = true) : idxQ name qs = k := by
  have : qs.findIdx? (nameB name) = some k := by
    rw [List.findIdx?_eq_some_iff_getElem]
    refine ⟨hk, hp, fun j hj => ?_⟩
    have := hn qs[j] (by rw [List.mem_take_iff_getElem]; exact ⟨j, by omega, rfl⟩)
    simpa using this
  simp [idxQ, this]
theorem idxQ_no (name : ByteArray) (qs : List QD) (hn : ∀ x ∈ qs, nameB name x = false) : idxQ name qs = -1 := by
  have : qs.findIdx? (nameB name) = none := by
    rw [List.findIdx?_eq_none_iff]
    exact hn
  simp [idxQ, this]
theorem idxQ_cases (name : ByteArray) (qs : List QD) : (idxQ name qs = -1 ∧ ∀ x ∈ qs, nameB name x = false) ∨ ∃ k, ∃ h : k < qs.length, idxQ name qs = (k : Int) ∧ qs[k].name = name ∧ ∀ j (hj : j < k), nameB name (qs[j]'(by omega)) = false := by
  cases h : qs.findIdx? (nameB name) with
  | none =>
    rw [List.findIdx?_eq_none_iff] at h
    exact .inl ⟨idxQ_no _ _ h, h⟩
  | some k =>
    have h' := h
    rw [List.findIdx?_eq_some_iff_getElem] at h
    obtain ⟨hk, hp, hn⟩ := h
    exact .inr ⟨k, hk, by simp [idxQ, h'], nameB_eq hp, fun j hj => by simpa using hn j hj⟩

set_option maxHeartbeats 1000000 in
theorem nameIs_tells (g : Nat) (name : ByteArray) (q : QD) (a : Option Addr) (n c : Nat) (W : World) (hg : Blk W g [.string name]) :
   Calls Try.prog 163 #[.agg #[.string q.name, .int .i64 q.limit, .slice a n c], .pointer (some ⟨g, 0, none⟩)] W fun e w' => e = .returned (.bool (nameB name q)) ∧ Below W.heap.size W w' := by
  obtain ⟨c0, c1, c2⟩ := hg.b1
  obtain ⟨qn, ql, qi⟩ := q
  simp only [nameB]
  go_enter Try.func163, Try.ntmps163
  go_wp2
  go_ret
  exact ⟨rfl, below_alloc _ _⟩

theorem enter59 (args : Array Value) (W : World) : (callFunc 163 args).run Try.prog W = .ok (.enter 163 args) W := by go_simp

set_option maxRecDepth 100000 in
set_option maxHeartbeats 3200000 in
theorem indexQ_any (g : Nat) (name : ByteArray) (v : Value) (qs : List QD) (w : World) (h : SliceQ (Under w.heap.size) w v qs) (hg : Blk w g [.string name]) :
    Calls Try.prog 162 #[v, .func (.func 163) #[] #[.pointer (some ⟨g, 0, none⟩)]] w fun e w' => e = .returned (.int .i64 (idxQ name qs)) ∧ Below w.heap.size w w' := by
  have HL : Hid (SliceQ (Under w.heap.size) w v qs) := h
  have HG : Hid (Blk w g [.string name]) := hg
  have hgl := hg.lt
  obtain ⟨va, vc, rfl, h1, h2, h3⟩ := h.shape
  unfold maxLen at h2
  clear h hg
  go_enter Try.func162, Try.ntmps162
  go_wp2
  go_loopw [8] (fun i wr => ∃ k : Nat, k ≤ qs.length ∧ i = .int .i64 k ∧ Below w.heap.size w wr ∧ ∀ x ∈ qs.take k, nameB name x = false)
    (fun i _ => qs.length - (intOf i).toNat)
  case atStart => exact ⟨0, Nat.zero_le _, rfl, Below.refl _ _, by simp⟩
  case round =>
    obtain ⟨k, hk, rfl, hb, hno⟩ := hrel
    have HN : Hid (∀ x ∈ qs.take k, nameB name x = false) := hno
    clear hno
    by_cases hlt : k < qs.length
    · obtain ⟨b, off, ia, ic, rfl, hS, hq, c0, c1, c2⟩ := (SliceQ.sub (T := Under w.heap.size) HL.out (fun b hb' => ⟨hb', hb.block b hb'⟩)).at k hlt
      clear hq
      cases hp : nameB name qs[k]
      · go_wp2_with (go_at_call 163; refine (nameIs_tells g name qs[k] _ _ _ _ (HG.out.below hb hgl)).mono ?_; rw [hp]; rintro e w1 ⟨rfl, hb1⟩)
        go_roundw
        case rel =>
          refine ⟨k + 1, by omega, by go_num, hb.trans (hb1.mono hb.size), fun x hx => ?_⟩
          rw [List.take_succ_eq_append_getElem hlt, List.mem_append, List.mem_singleton] at hx
          rcases hx with hx | rfl
          · exact HN.out x hx
          · exact hp
        case measure => simp [intOf]; omega
      · go_wp2_with (go_at_call 163; refine (nameIs_tells g name qs[k] _ _ _ _ (HG.out.below hb hgl)).mono ?_; rw [hp]; rintro e w1 ⟨rfl, hb1⟩)
        go_ret
        exact ⟨ret_i64 (idxQ_yes name qs k hlt HN.out hp).symm, hb.trans (hb1.mono hb.size)⟩
    · go_wp2
      go_ret
      refine ⟨ret_i64 (idxQ_no name qs fun x hx => HN.out x ?_).symm, hb⟩
      rw [List.take_of_length_le (by omega)]; exact hx

set_option maxRecDepth 100000 in
set_option maxHeartbeats 1000000 in
theorem find_hall (name : ByteArray) (v : Value) (next : Int) (qs : List QD) (w : World) (h : SliceQ (Under w.heap.size) w v qs) :
    Calls Try.prog 150 #[.agg #[v, .int .i64 next], .string name] w fun e w' => e = .returned (.int .i64 (idxQ name qs)) ∧ Below w.heap.size w w' := by
  have HL : Hid (SliceQ (Under w.heap.size) w v qs) := h
  obtain ⟨va, vc, rfl⟩ := h.shp
  clear h
  have two : Hid (∀ o1 o2 : Obj, Below w.heap.size w ((w.alloc o1).alloc o2)) := fun o1 o2 => (below_alloc _ _).alloc (by simp) _
  go_enter Try.func150, Try.ntmps150
  go_wp2_with (go_at_call 162; refine (indexQ_any _ name _ qs _ (HL.out.sub fun k hk => ⟨?_, (two.out _ _).block k hk⟩) ?_).mono ?_; (simp [Under] at hk ⊢; omega); (have := Blk.new (w.alloc (.cells #[.slice va qs.length vc, .int .i64 next] 24)) [.string name] 9; simpa using this); rintro e w1 ⟨rfl, hb1⟩)
  go_ret
  exact ⟨rfl, (two.out _ _).trans (hb1.mono (by simp; omega))⟩
end Go.Proofs.Ytkddkpdfeeikhaa

/-
  hall.gone tells entries of items that are no more.
-/
namespace Go.Proofs.Ytkddkpdfeeikhaa
open Go.RowKit
set_option linter.unusedVariables false
set_option linter.unusedSimpArgs false

attribute [local go_sem ↓] Go.wp_at_zero Go.wp_at_succ

def nN : ND := ⟨[], []⟩
def goneE (name : ByteArray) (id : Int) : ED := ⟨4, name, 0, id, nN⟩
def putE (name : ByteArray) (id : Int) (n : ND) : ED := ⟨3, name, 0, id, n⟩

/-- Entries of one's own: a row that the call made, notes in other blocks that it made. -/
def OwnE (base : Nat) (w : World) (v : Value) (es : List ED) : Prop :=
  ∃ L : EnL, L.map Prod.fst = es ∧ w.ownsRow base 30 6 v L.length (cellsE L) ∧ ∀ x ∈ L, NoteIs (fun b => base ≤ b ∧ b < w.heap.size ∧ v.ownBlock ≠ some b) w x.2 x.1.note

theorem OwnE.slice {base : Nat} {w : World} {v : Value} {es : List ED} (h : OwnE base w v es) : SliceE (Made base w.heap.size) w v es := by
  obtain ⟨L, e, h1, h2⟩ := h
  exact ⟨L, e, (own_slice h1).sub fun k hk => ⟨h1.lt k hk, rfl⟩, fun x hx => (h2 x hx).sub fun b hb => ⟨⟨hb.1, hb.2.1⟩, rfl⟩⟩
theorem OwnE.nil (base : Nat) (w : World) : OwnE base w (.slice none 0 0) [] := ⟨[], rfl, World.ownsRow_nil _ _ _ _, by simp⟩
theorem OwnE.mono {base base' : Nat} {w : World} {v : Value} {es : List ED} (h : OwnE base w v es) (hb : base' ≤ base) : OwnE base' w v es := by
  obtain ⟨L, e, h1, h2⟩ := h
  exact ⟨L, e, own_mono h1 hb, fun x hx => (h2 x hx).sub fun b h => ⟨⟨Nat.le_trans hb h.1, h.2⟩, rfl⟩⟩
theorem OwnE.kept {base : Nat} {w w' : World} {v : Value} {es : List ED} (h : OwnE base w v es) (hz : w.heap.size ≤ w'.heap.size) (hb : ∀ k, base ≤ k → k < w.heap.size → w'.heap[k]? = w.heap[k]?) : OwnE base w' v es := by
  obtain ⟨L, e, h1, h2⟩ := h
  exact ⟨L, e, own_same h1 (fun b hb' => hb b (h1.lt b hb').1 (h1.lt b hb').2), fun x hx => (h2 x hx).sub fun b h => ⟨⟨h.1, by omega, h.2.2⟩, hb b h.1 h.2.1⟩⟩
theorem OwnE.shp {base : Nat} {w : World} {v : Value} {es : List ED} (h : OwnE base w v es) : ∃ a cap, v = .slice a es.length cap := h.slice.shp

theorem info92 : (Try.prog.info? 30).map (fun i => (i.zero, i.size, i.bytes)) = some (some (.agg #[.int .i64 0, .string ByteArray.empty, .int .i64 0, .int .i64 0, .slice none 0 0, .slice none 0 0]), 6, 88) := by kernel_rfl

/-- A new row, whole. -/
theorem row_any (w : World) (cs : List Value) (t : TypeId) (n : Nat) (hn : n ≤ maxLen) : SliceV (fun b => b = w.heap.size) (w.alloc (.cells cs.toArray t)) (.slice (some ⟨w.heap.size, 0, none⟩) n n) n cs := by
  refine ⟨_, _, rfl, Nat.le_refl _, hn, fun h => by simp at h, fun i hi => ⟨w.heap.size, 0, rfl, rfl, ?_⟩⟩
  rw [(Blk.new w cs t).cell]
  simp [hi]

def goneL' (name : ByteArray) (ids : List Int) : EnL := ids.map fun id => (goneE name id, (.slice none 0 0, .slice none 0 0))

set_option maxRecDepth 100000 in
set_option maxHeartbeats 3200000 in
theorem gone_any (name : ByteArray) (u : Value) (ids : List Int) (hlen : ids.length ≤ 4194304) (w : World) (hu : SliceV (Under w.heap.size) w u ids.length (ints ids)) :
    Calls Try.prog 147 #[.string name, u] w fun e w' => ∃ v, e = .returned v ∧ OwnE w.heap.size w' v (ids.map (goneE name)) ∧ Below w.heap.size w w' := by
  obtain ⟨i0, hi0, hz0, hz1, hz2⟩ := info_parts info92
  have HU : Hid (SliceV (Under w.heap.size) w u ids.length (ints ids)) := hu
  obtain ⟨ua, uc, rfl, h1, h2, h3⟩ := hu.shape
  unfold maxLen at h2
  clear hu
  go_enter Try.func147, Try.ntmps147
  go_wp2
  go_loopw [5, 10] (fun tv i wr => ∃ k : Nat, k ≤ ids.length ∧ i = .int .i64 k ∧ Below w.heap.size w wr ∧ wr.ownsRow w.heap.size 30 6 tv k (cellsE (goneL' name (ids.take k))))
    (fun _ i _ => ids.length - (intOf i).toNat)
  case atStart => exact ⟨0, Nat.zero_le _, rfl, Below.refl _ _, World.ownsRow_nil _ _ _ _⟩
  case round =>
    obtain ⟨k, hk, rfl, hb, ho⟩ := hrel
    have HO : Hid (wr.ownsRow w.heap.size 30 6 u5 k (cellsE (goneL' name (ids.take k)))) := ho
    have hzr := hb.size
    by_cases hlt : k < ids.length
    · obtain ⟨a', cap', e, -, -, -, hR⟩ := HU.out
      obtain ⟨b, off, rfl, hS, hc⟩ := hR k (by simp [ints, hlt])
      simp only [Value.slice.injEq] at e
      obtain ⟨rfl, -, rfl⟩ := e
      have c0 : wr.cell? ⟨b, off + k, none⟩ = some (.int .i64 ids[k]) := by
        rw [World.cell?_of_block (hb.block b hS), hc]
        simp [ints]
      obtain ⟨ta, tc, rfl, -⟩ := own_shape ho
      clear hc hR ho
      go_wp2_with (at_builtin; refine wpList_appV rfl (.tmp 14) (.tmp 18) 37 rfl 30 i0 _ 6 88 Try.underlying37 hi0 hz0 hz1 hz2 rfl (by omega) w.heap.size (.slice ta k tc) k (cellsE (goneL' name (ids.take k))) rfl (own_below HO.out (below_alloc _ _)) (fun b => b = wr.heap.size) (.slice (some ⟨wr.heap.size, 0, none⟩) 1 1) 1 ((goneE name ids[k]).cells (.slice none 0 0, .slice none 0 0)) rfl (row_any _ _ _ _ (by simp [maxLen])) rfl (by simp [ED.cells, Value.oneCell']) (by unfold maxLen; omega) (by omega) (by simp <;> omega) ?_; intro ao cap w1 ho1 hg1 hm1)
      go_roundw
      case rel =>
        refine ⟨k + 1, by omega, by go_num, ?_, ?_⟩
        · exact hb.trans ((below_alloc _ _).mono hzr |>.trans (below_of_grownBy hg1 (by simp; omega) (fun b hb' => (HO.out.lt b hb').1)))
        · have e : cellsE (goneL' name (ids.take (k + 1))) = cellsE (goneL' name (ids.take k)) ++ (goneE name ids[k]).cells (.slice none 0 0, .slice none 0 0) := by
            rw [List.take_succ_eq_append_getElem hlt]
            unfold goneL'
            rw [List.map_append, cellsE_append]
            simp [cellsE]
          rw [e]
          exact ho1
      case measure => simp [intOf]; omega
    · obtain rfl : k = ids.length := by omega
      obtain ⟨ta, tc, rfl, -⟩ := own_shape ho
      clear ho
      go_wp2
      go_ret
      refine ⟨_, rfl, ⟨goneL' name ids, by simp [goneL', Function.comp_def], ?_, fun x hx => ?_⟩, hb⟩
      · have := HO.out
        rw [List.take_of_length_le (Nat.le_refl _)] at this
        simpa [goneL'] using this
      · simp only [goneL', List.mem_map] at hx
        obtain ⟨i, -, rfl⟩ := hx
        exact NoteIs.nil _ _
end Go.Proofs.Ytkddkpdfeeikhaa
