/-
  JOwn; JTo: texts laid together.
-/
import Derived.Test.YtkddkpdfeeikhaaJTellsProofM12
import Derived.Test.YtkddkpdfeeikhaaJApply2
/-
  hall.Own answers a hall whose rows are all one's own.
-/
namespace Go.Proofs.Ytkddkpdfeeikhaa
open Go.RowKit Go.WideMaps Go.Maps
set_option linter.unusedVariables false
set_option linter.unusedSimpArgs false

attribute [local go_sem ↓] Go.wp_at_zero Go.wp_at_succ

section
variable {lo : Nat} {N X : Nat → Prop} {w : World} {v : Value} {L : QuL}

/-- A queue more, with items of its own. -/
theorem HR.push (H : HR lo N X w v L) {w1 w2 : World} {u v' : Value} {LI : ItL} {q : QD} {N' : Nat → Prop} (h1 : Below w.heap.size w w1) (hq : LI.map Prod.fst = q.items) (hu : w1.ownsRow lo 78 7 u LI.length (cellsI LI)) (hub : ∀ b, u.ownBlock = some b → w.heap.size ≤ b)
    (hno : ∀ y ∈ LI, NoteIs N' w1 y.2 y.1.note) (hN : ∀ b, N b → N' b) (hN' : ∀ b, N' b → N b ∨ (w.heap.size ≤ b ∧ b < w1.heap.size ∧ u.ownBlock ≠ some b))
    (ho : w2.ownsRow lo 76 3 v' (L.length + 1) (cellsQ L ++ q.cells u)) (hg : w1.grownBy w2 v.ownBlock) (hat : ∀ b, v'.ownBlock = some b → v.ownBlock = some b ∨ w1.heap.size ≤ b) : HR lo N' X w2 v' (L ++ [(q, u)]) := by
  have hz1 := h1.size
  have hz2 := hg.size
  have hx2 : ∀ x ∈ L ++ [(q, u)], x ∈ L ∨ x = (q, u) := fun x hx => by simpa using hx
  have hvl : ∀ b, v.ownBlock = some b → b < w.heap.size := fun b h => (H.foot_lt (.inl h)).2
  have hul : ∀ b, u.ownBlock = some b → b < w1.heap.size := fun b h => (hu.lt b h).2
  have hfoot : ∀ b, Foot v' (L ++ [(q, u)]) b → Foot v L b ∨ w1.heap.size ≤ b ∨ u.ownBlock = some b := fun b hb => by
    rcases hb with h | ⟨x, hx, h⟩
    · rcases hat b h with h | h
      · exact .inl (.inl h)
      · exact .inr (.inl h)
    · rcases hx2 x hx with hx | rfl
      · exact .inl (.inr ⟨x, hx, h⟩)
      · exact .inr (.inr h)
  refine ⟨?_, fun x hx => ?_, fun x hx b hb => ?_, ?_, fun b hb hf => ?_, fun b hb => ?_⟩
  · rw [List.length_append, cellsQ_append]
    simpa [cellsQ] using ho
  · rcases hx2 x hx with hx | rfl
    · obtain ⟨LJ, e, ho', hn⟩ := H.items x hx
      refine ⟨LJ, e, own_same ho' fun b e => ?_, fun y hy => (hn y hy).sub fun b hb => ⟨hN b hb, ?_⟩⟩
      · have hl := (ho'.lt b e).2
        rw [hg.block b (by omega) (fun h => H.sep x hx b e h.symm), h1.block b hl]
      · have hl := H.lt b (.inl hb)
        rw [hg.block b (by omega) (fun h => H.off b (.inl hb) (.inl h.symm)), h1.block b hl]
    · refine ⟨LI, hq, own_same hu fun b e => hg.block b (hul b e) (fun h => ?_), fun y hy => (hno y hy).sub fun b hb => ⟨hb, ?_⟩⟩
      · have := hvl b h.symm
        have := hub b e
        omega
      · rcases hN' b hb with h | h
        · have hl := H.lt b (.inl h)
          exact hg.block b (by omega) (fun e => H.off b (.inl h) (.inl e.symm))
        · exact hg.block b h.2.1 (fun e => by have := hvl b e.symm; omega)
  · rcases hx2 x hx with hx | rfl
    · intro h
      rcases hat b h with h | h
      · exact H.sep x hx b hb h
      · have := (H.foot_lt (.inr ⟨x, hx, hb⟩)).2
        omega
    · intro h
      rcases hat b h with h | h
      · have := hvl b h
        have := hub b hb
        omega
      · have := hul b hb
        omega
  · rw [List.pairwise_append]
    refine ⟨H.pair, by simp, fun x hx y hy b hb => ?_⟩
    simp only [List.mem_singleton] at hy
    subst hy
    intro h
    have := (H.foot_lt (.inr ⟨x, hx, hb⟩)).2
    have := hub b h
    omega
  · rcases hfoot b hf with h | h | h
    · rcases hb with hb | hb
      · rcases hN' b hb with h3 | h3
        · exact H.off b (.inl h3) h
        · have := (H.foot_lt h).2; omega
      · exact H.off b (.inr hb) h
    · have : b < w1.heap.size := by
        rcases hb with hb | hb
        · rcases hN' b hb with h3 | h3
          · have := H.lt b (.inl h3); omega
          · exact h3.2.1
        · have := H.lt b (.inr hb); omega
      omega
    · rcases hb with hb | hb
      · rcases hN' b hb with h3 | h3
        · have := H.lt b (.inl h3)
          have := hub b h
          omega
        · exact h3.2.2 h
      · have := H.lt b (.inr hb)
        have := hub b h
        omega
  · rcases hb with hb | hb
    · rcases hN' b hb with h3 | h3
      · have := H.lt b (.inl h3); omega
      · have := h3.2.1; omega
    · have := H.lt b (.inr hb); omega
end

/-- What holds in 'eachOf' of hall.Own, behind k queues. -/
structure EIM (w : World) (next : Int) (qs : List QD) (k : Nat) (wr : World) (vi : Value) (L' : QuL) (N : Nat → Prop) : Prop where
  bel : Below w.heap.size w wr
  res : Blk wr (w.heap.size + 1) [.slice none 0 0, .int .i64 0]
  out : Blk wr (w.heap.size + 1 + 1) [vi, .int .i64 next]
  rows : HR (w.heap.size + 3) N (fun _ => False) wr vi L'
  hN : ∀ b, N b → w.heap.size + 3 ≤ b
  list : L'.map Prod.fst = qs.take k

section
variable {w : World} {next : Int} {qs : List QD} {k : Nat} {wr : World} {vi : Value} {L' : QuL} {N : Nat → Prop}

theorem EIM.lt (h : EIM w next qs k wr vi L' N) : w.heap.size + 3 ≤ wr.heap.size := by have := h.out.lt; omega

theorem EIM.on (h : EIM w next qs k wr vi L' N) {W : World} (hb : Below wr.heap.size wr W) : EIM w next qs k W vi L' N := by
  have hl := h.lt
  exact ⟨h.bel.trans (hb.mono h.bel.size), h.res.below hb h.res.lt, h.out.below hb h.out.lt, h.rows.below hb, h.hN, h.list⟩

theorem EIM.more (h : EIM w next qs k wr vi L' N) (hk : k < qs.length) {w1 w2 : World} {v : Value} {o : Obj} {gg cap : Nat}
    (hn : OwnI wr.heap.size w1 v qs[k].items) (h1 : Below wr.heap.size wr w1)
    (ho : w2.ownsRow (w.heap.size + 3) 76 3 (.slice (some ⟨gg, 0, none⟩) (L'.length + 1) cap) (L'.length + 1) (cellsQ L' ++ qs[k].cells v)) (hg : (w1.alloc o).grownBy w2 vi.ownBlock) (hat : vi.ownBlock = some gg ∨ gg = w1.heap.size + 1) (hgl : gg < w2.heap.size) :
    ∃ N', EIM w next qs (k + 1) (w2.setCell ⟨w.heap.size + 1 + 1, 0, none⟩ (.slice (some ⟨gg, 0, none⟩) (L'.length + 1) cap)) (.slice (some ⟨gg, 0, none⟩) (L'.length + 1) cap) (L' ++ [(qs[k], v)]) N' := by
  have hl := h.lt
  have hz1 := h1.size
  have hz2 : w1.heap.size + 1 ≤ w2.heap.size := by have := hg.size; simp at this; omega
  obtain ⟨LI, hLI, hown, hno⟩ := hn
  have hvb : ∀ b, vi.ownBlock = some b → w.heap.size + 3 ≤ b ∧ b < wr.heap.size := fun b hb => h.rows.foot_lt (.inl hb)
  have hg' : w1.grownBy w2 vi.ownBlock := grownBy_trans (World.grownBy_alloc _ _ _) hg
  have blo : ∀ b, b < w.heap.size + 3 → w2.heap[b]? = wr.heap[b]? := fun b hb => by
    rw [hg'.block b (by omega) (fun e => by have := (hvb b e.symm).1; omega), h1.block b (by omega)]
  have key := h.rows.push (w1 := w1) (w2 := w2) (u := v) (v' := .slice (some ⟨gg, 0, none⟩) (L'.length + 1) cap) (LI := LI) (q := qs[k]) (N' := fun b => N b ∨ (wr.heap.size ≤ b ∧ b < w1.heap.size ∧ v.ownBlock ≠ some b)) h1 hLI (own_mono hown (by omega)) (fun b e => (hown.lt b e).1) (fun y hy => (hno y hy).sub fun b hb => ⟨.inr hb, rfl⟩) (fun b h => .inl h) (fun b h => h) ho hg' (fun b e => by
    simp only [Value.ownBlock, Option.some.injEq] at e
    subst e
    rcases hat with h | h
    · exact .inl h
    · right; omega)
  have hfar : ∀ b, b ≠ w.heap.size + 1 + 1 → (w2.setCell ⟨w.heap.size + 1 + 1, 0, none⟩ (.slice (some ⟨gg, 0, none⟩) (L'.length + 1) cap)).heap[b]? = w2.heap[b]? := fun b hb => Below.heap_setCell _ _ _ _ hb
  refine ⟨_, ⟨⟨?_, ?_, ?_, ?_, fun b hb => ?_⟩, ?_, ?_, key.on (by simp) fun b hb => hfar b ?_, fun b hb => ?_, ?_⟩⟩
  · exact hg.os.trans (h1.os.trans h.bel.os)
  · exact hg.tape.trans (h1.tape.trans h.bel.tape)
  · exact hg.output.trans (h1.output.trans h.bel.output)
  · simp; have := h.bel.size; omega
  · rw [hfar b (by omega), blo b (by omega)]
    exact h.bel.block b hb
  · exact (h.res.same (blo _ (by omega))).far (by simp) _
  · exact (h.out.same (blo _ (by omega))).set 0 _
  · rcases hb with hb | hb
    · rcases hb with hb | hb
      · have := h.hN b hb; omega
      · omega
    · have := (key.foot_lt hb).1; omega
  · rcases hb with hb | hb
    · exact h.hN b hb
    · omega
  · rw [List.map_append, h.list, List.take_succ_eq_append_getElem hk]
    simp
end

theorem EIM.start (w : World) (next : Int) (qs : List QD) (v : Value) :
    EIM w next qs 0 (((w.alloc (.cells #[v, .int .i64 next] 24)).alloc (.cells #[.slice none 0 0, .int .i64 0] 24)).alloc (.cells #[.slice none 0 0, .int .i64 next] 24)) (.slice none 0 0) [] (fun _ => False) := by
  have b3 : Below w.heap.size w (((w.alloc (.cells #[v, .int .i64 next] 24)).alloc (.cells #[.slice none 0 0, .int .i64 0] 24)).alloc (.cells #[.slice none 0 0, .int .i64 next] 24)) := ((below_alloc _ _).alloc (by simp) _).alloc (by simp; omega) _
  refine ⟨b3, ?_, ?_, ⟨World.ownsRow_nil _ _ _ _, by simp, by simp, by simp, fun b h => by simp at h, fun b h => by simp at h⟩, by simp, by simp⟩
  · have := (Blk.new (w.alloc (.cells #[v, .int .i64 next] 24)) [.slice none 0 0, .int .i64 0] 24).alloc (.cells #[.slice none 0 0, .int .i64 next] 24)
    simpa using this
  · have := Blk.new ((w.alloc (.cells #[v, .int .i64 next] 24)).alloc (.cells #[.slice none 0 0, .int .i64 0] 24)) [.slice none 0 0, .int .i64 next] 24
    simpa using this

/-- A hall of one's own. -/
def OwnH (base : Nat) (w : World) (v : Value) (qs : List QD) : Prop := ∃ (L : QuL) (N : Nat → Prop), L.map Prod.fst = qs ∧ HR base N (fun _ => False) w v L ∧ ∀ b, N b → base ≤ b

theorem HR.lower {lo lo' : Nat} {N X : Nat → Prop} {w : World} {v : Value} {L : QuL} (H : HR lo N X w v L) (h : lo' ≤ lo) : HR lo' N X w v L :=
  ⟨own_mono H.row h, fun x hx => by obtain ⟨LI, e, ho, hn⟩ := H.items x hx; exact ⟨LI, e, own_mono ho h, hn⟩, H.sep, H.pair, H.off, H.lt⟩

set_option maxRecDepth 100000 in
set_option maxHeartbeats 3200000 in
theorem eachOwn_any (v : Value) (next : Int) (qs : List QD) (w : World) (hv : SliceQ (Under w.heap.size) w v qs) (hsm : smallQ qs) :
    Calls Try.prog 86 #[.agg #[v, .int .i64 next], .func (.func 87) #[] #[]] w fun e w' => ∃ vi, e = .returned (.agg #[vi, .int .i64 next]) ∧ OwnH w.heap.size w' vi qs ∧ Below w.heap.size w w' := by
  obtain ⟨i0, hi0, hz0, hz1, hz2⟩ := info_parts info25
  have HV : Hid (SliceQ (Under w.heap.size) w v qs) := hv
  have HM : Hid (smallQ qs) := hsm
  have HK : Hid (EIM w next qs 0 _ (.slice none 0 0) [] (fun _ => False)) := EIM.start w next qs v
  have hE := enter47
  obtain ⟨va, vc, rfl, h1, h2, h3⟩ := hv.shape
  have hlen := hsm.1
  unfold maxLen at h2
  clear hv hsm
  go_enter Try.func86, Try.ntmps86
  go_wp2
  go_loopw [14] (fun i wr => ∃ k : Nat, k ≤ qs.length ∧ i = .int .i64 k ∧ ∃ vi L' N, EIM w next qs k wr vi L' N)
    (fun i _ => qs.length - (intOf i).toNat)
  case atStart => exact ⟨0, Nat.zero_le _, rfl, _, _, _, HK.out⟩
  case round =>
    obtain ⟨k, hk, rfl, vi, L', N, hI⟩ := hrel
    clear HK
    have hL' : L'.length ≤ k := by
      have := congrArg List.length hI.list
      simp at this
      omega
    by_cases hlt : k < qs.length
    · obtain ⟨b, off, ia, ic, rfl, hS, hq, c0, c1, c2⟩ := (SliceQ.sub (T := Under w.heap.size) HV.out (fun b hb => ⟨hb, hI.bel.block b hb⟩)).at k hlt
      have HQ : Hid (SliceI (Under w.heap.size) wr (.slice ia qs[k].items.length ic) qs[k].items) := hq
      have hsm := HM.out.2 qs[k] (List.getElem_mem hlt)
      have HI : Hid (EIM w next qs k (wr.alloc (.cells #[.string qs[k].name, .int .i64 qs[k].limit, .slice ia qs[k].items.length ic] 76)) vi L' N) := hI.on (below_alloc _ _)
      have hl := hI.lt
      obtain ⟨o0, o1, o2, o3⟩ := (hI.out.alloc (.cells #[.string qs[k].name, .int .i64 qs[k].limit, .slice ia qs[k].items.length ic] 76)).b2
      have HI0 : Hid (EIM w next qs k wr vi L' N) := hI
      clear hI hq
      obtain ⟨q, hqe⟩ : ∃ q, q = qs[k] := ⟨_, rfl⟩
      rw [← hqe] at c0 c1 c2 HQ hsm HI o0 o1 o2 o3
      have HQE : Hid (q = qs[k]) := hqe
      clear hqe
      go_wp2_with fail
      go_region_law (first
          | (go_simp; (with_reducible show Calls Try.prog 87 _ _ _); refine (own_any _ q.name q.limit q.items _ ?_ hsm).mono ?_; (exact HQ.out.sub fun b hb => ⟨Nat.lt_of_lt_of_le hb (by simp; omega), Below.heap_alloc _ _ _ (Nat.lt_of_lt_of_le hb (by omega))⟩); rintro e w2 ⟨v2, rfl, hn2, hb2⟩; obtain ⟨xa, xc, rfl⟩ := hn2.made.shp; have HI2 : Hid (EIM w next qs k w2 vi L' N) := HI.out.on ⟨hb2.os, hb2.tape, hb2.output, hb2.size, hb2.block⟩; obtain ⟨r0, r1, r2, r3⟩ := HI2.out.out.b2)
          | (refine step_append_lies _ (by rfl) _ _ _ (by rfl) (w.heap.size + 3) 76 i0 _ 3 48 Try.underlying22 hi0 hz0 hz1 hz2 rfl (by omega) vi L'.length (cellsQ L') (by rfl) (own_below HI2.out.rows.row (below_alloc _ _)) ⟨w2.heap.size, 0, none⟩ 1 1 (q.cells (.slice xa q.items.length xc)) (by rfl) (by rfl) (World.news_of_block (cs := #[.string q.name, .int .i64 q.limit, .slice xa q.items.length xc]) (t := 76) (fr := (0, 0)) (heap_alloc_new w2 _)) (by simp [QD.cells, Value.oneCell']) (by omega) (by unfold maxLen; omega) (by omega) (by simp; omega) (w2.heap.size + 1) (by simp) ?_; intro gg cap w3 hown3 hg3 hat3 hlt3; obtain ⟨t0, t1, t2, t3⟩ := ((HI2.out.out.alloc _).same (hg3.block _ (by simp; omega) (fun e => by have := (HI2.out.rows.foot_lt (.inl e.symm)).1; omega))).b2))
      all_goals
        have hb2' : Below wr.heap.size wr w2 := (below_alloc _ _).trans (Below.mono (B := wr.heap.size + 1) ⟨hb2.os, hb2.tape, hb2.output, hb2.size, fun b hb => hb2.block b (by simpa using hb)⟩ (by omega))
        have RR : ∃ N', EIM w next qs (k + 1) _ _ _ N' := HI0.out.more hlt (HQE.out ▸ hn2.mono (by simp)) hb2' (HQE.out ▸ hown3) hg3 hat3 hlt3
        obtain ⟨N', RR⟩ := RR
        clear hg3 hat3 hlt3 hown3 HI2 hn2 hb2 hb2'
        go_wp2
        go_roundw
        case rel => exact ⟨k + 1, by omega, by go_num, _, _, _, RR⟩
        case measure => simp [intOf]; omega
    · obtain ⟨o0, o1, o2, o3⟩ := hI.out.b2
      obtain ⟨r0, r1, r2, r3⟩ := hI.res.b2
      obtain ⟨xa, xc, rfl, -⟩ := own_shape hI.rows.row
      obtain rfl : k = qs.length := by omega
      have HI : Hid (EIM w next qs qs.length wr (.slice xa L'.length xc) L' N) := hI
      clear hI
      go_wp2
      have hl := HI.out.lt
      refine bodyPost_ret (v := .agg #[.slice xa L'.length xc, .int .i64 next]) (by simp [results, Try.results86, go_sem, *]; done) rfl ⟨_, rfl, ⟨L', N, ?_, ?_, fun b hb => by have := HI.out.hN b hb; omega⟩, ?_⟩
      · have := HI.out.list
        rwa [List.take_of_length_le (Nat.le_refl _)] at this
      · refine (HI.out.rows.lower (by omega)).on (by simp) fun b hb => ?_
        have : w.heap.size + 3 ≤ b := by
          rcases hb with hb | hb
          · exact HI.out.hN b hb
          · exact (HI.out.rows.foot_lt hb).1
        iterate 2 rw [Below.heap_setCell _ _ _ _ (by simp; omega)]
      · iterate 2 refine Below.setCell ?_ (by simp) _
        exact HI.out.bel

set_option maxRecDepth 100000 in
set_option maxHeartbeats 1000000 in
theorem hallOwnH_any (v : Value) (h : HD) (w : World) (hv : SliceQ (Under w.heap.size) w v h.queues) (hsm : smallQ h.queues) :
    Calls Try.prog 55 #[.agg #[v, .int .i64 h.next]] w fun e w' => ∃ vi, e = .returned (.agg #[vi, .int .i64 h.next]) ∧ OwnH w.heap.size w' vi h.queues ∧ Below w.heap.size w w' := by
  have HV : Hid (SliceQ (Under w.heap.size) w v h.queues) := hv
  have HM : Hid (smallQ h.queues) := hsm
  obtain ⟨va, vc, rfl⟩ := hv.shp
  clear hv hsm
  have two : Hid (∀ o1 o2 : Obj, Below w.heap.size w ((w.alloc o1).alloc o2)) := fun o1 o2 => (below_alloc _ _).alloc (by simp) _
  go_enter Try.func55, Try.ntmps55
  go_wp2_with (go_at_call 86; refine (eachOwn_any _ h.next h.queues _ (HV.out.sub fun k hk => ⟨?_, (two.out _ _).block k hk⟩) HM.out).mono ?_; (simp [Under] at hk ⊢; omega); rintro e w1 ⟨vi, rfl, ho1, hb1⟩; obtain ⟨L, N, hL, hr, hn⟩ := ho1; obtain ⟨xa, xc, rfl, -⟩ := own_shape hr.row; obtain ⟨b0, b1, b2, b3⟩ := ((Blk.new (w.alloc _) _ 24).below hb1 (by simp)).b2; simp only [World.size_alloc] at b0 b1 b2 b3)
  refine bodyPost_ret (v := .agg #[.slice xa L.length xc, .int .i64 h.next]) (by simp [results, Try.results55, go_sem, *]; done) rfl ⟨_, rfl, ⟨L, N, hL, ?_, fun b hb => by have := hn b hb; simp at this; omega⟩, ?_⟩
  · refine (hr.lower (by simp; omega)).on (by simp) fun b hb => ?_
    have : w.heap.size + 2 ≤ b := by
      rcases hb with hb | hb
      · have := hn b hb; simpa using this
      · have := (hr.foot_lt hb).1; simpa using this
    iterate 2 rw [Below.heap_setCell _ _ _ _ (by simp; omega)]
  · iterate 2 refine Below.setCell ?_ (by simp) _
    exact (two.out _ _).trans (hb1.mono (by simp; omega))
end Go.Proofs.Ytkddkpdfeeikhaa

/-
  journal.applyTo and journal.Apply.
-/
namespace Go.Proofs.Ytkddkpdfeeikhaa
open Go.RowKit Go.WideMaps Go.Maps
set_option linter.unusedVariables false
set_option linter.unusedSimpArgs false

attribute [local go_sem ↓] Go.wp_at_zero Go.wp_at_succ

/-- A hall that one may apply an entry to: no list of it too long, no name. -/
structure HD.fits (c : Nat) (h : HD) : Prop where
  len : h.queues.length < c
  items : ∀ q ∈ h.queues, q.items.length < c
  names : ∀ q ∈ h.queues, q.name.size ≤ maxLen
/-- An entry that one may apply. -/
structure ED.fits (e : ED) : Prop where
  queue : e.queue.size ≤ maxLen
  id : 0 ≤ e.id ∧ e.id ≤ 4294967296
  note : e.note.small

theorem applyF_none {h : HD} {e : ED} (hn : h.queues.findIdx? (nameB e.queue) = none) : applyF h e = if e.kind = 1 then ⟨h.queues ++ [⟨e.queue, e.n, []⟩], h.next⟩ else h := by
  unfold applyF; rw [hn]
theorem applyF_some {h : HD} {e : ED} {k : Nat} (hk : k < h.queues.length) (hn : h.queues.findIdx? (nameB e.queue) = some k) : applyF h e =
    if e.kind = 2 then ⟨h.queues.eraseIdx k, h.next⟩
      else if e.kind = 3 then ⟨h.queues.set k ⟨h.queues[k].name, h.queues[k].limit, h.queues[k].items ++ [e.item]⟩, max h.next (e.id + 1)⟩
      else if e.kind = 4 then ⟨h.queues.set k ⟨h.queues[k].name, h.queues[k].limit, h.queues[k].items.filter (fun i => !idB e.id i)⟩, h.next⟩
      else h := by
  unfold applyF; rw [hn]; simp only [List.getElem?_eq_getElem hk]

theorem applyE_any {lo : Nat} {N : Nat → Prop} {hb xb pb mb : Nat} {w : World} {v : Value} {L : QuL} {h : HD} (H : JH lo N hb xb pb mb w v L h.next) (hL : L.map Prod.fst = h.queues) (hf : h.fits 4194304) (e : ED) (he : e.fits) (pv bv : Value) (hnt : NoteIs (Under w.heap.size) w (pv, bv) e.note) :
    Calls Try.prog 78 #[.agg #[.int .i64 e.kind, .string e.queue, .int .i64 e.n, .int .i64 e.id, pv, bv], .pointer (some ⟨pb, 0, none⟩), .pointer (some ⟨xb, 0, none⟩)] w fun r w' => (∃ u, r = .returned u) ∧ StepAns lo N hb xb pb w (applyF h e) w' := by
  have hlL : L.length = h.queues.length := by rw [← hL]; simp
  have hlen : L.length < 4194304 := by rw [hlL]; exact hf.len
  have hit : ∀ x ∈ L, x.1.items.length ≤ 4194304 := fun x hx => Nat.le_of_lt (hf.items x.1 (by rw [← hL]; exact List.mem_map_of_mem hx))
  have hnm : ∀ x ∈ L, x.1.name.size ≤ maxLen := fun x hx => hf.names x.1 (by rw [← hL]; exact List.mem_map_of_mem hx)
  have hgq : ∀ k (hk : k < L.length) (hk2 : k < h.queues.length), h.queues[k] = L[k].1 := fun k hk hk2 => by simp [← hL]
  cases hn : h.queues.findIdx? (nameB e.queue) with
  | none =>
    have hno : ∀ q ∈ L.map Prod.fst, nameB e.queue q = false := by rw [hL]; exact List.findIdx?_eq_none_iff.1 hn
    rw [applyF_none hn]
    by_cases h1 : e.kind = 1
    · rw [if_pos h1]
      have := apply_make H e.kind e.queue e.n e.id e.note pv bv hnt he.queue hlen hno h1
      rw [hL] at this
      exact this
    · rw [if_neg h1]
      have := apply_none H e.kind e.queue e.n e.id e.note pv bv hnt he.queue hlen hno h1
      rw [hL] at this
      exact this
  | some k =>
    have hk2 : k < h.queues.length := (List.findIdx?_eq_some_iff_getElem.1 hn).1
    have hk : k < L.length := by omega
    have hix : (L.map Prod.fst).findIdx? (nameB e.queue) = some k := by rw [hL]; exact hn
    rw [applyF_some hk2 hn]
    by_cases h2 : e.kind = 2
    · rw [if_pos h2]
      have := apply_drop H e.kind e.queue e.n e.id e.note pv bv hnt he.queue hlen k hk hix h2 hnm
      rw [hL] at this
      exact this
    rw [if_neg h2]
    by_cases h3 : e.kind = 3
    · rw [if_pos h3, hgq k hk hk2]
      have := apply_put H e.kind e.queue e.n e.id e.note pv bv hnt he.queue hlen k hk hix h3 (hit _ (List.getElem_mem hk)) he.id he.note
      rw [hL] at this
      exact this
    rw [if_neg h3]
    by_cases h4 : e.kind = 4
    · rw [if_pos h4, hgq k hk hk2]
      have := apply_gone H e.kind e.queue e.n e.id e.note pv bv hnt he.queue hlen k hk hix h4 (hit _ (List.getElem_mem hk))
      rw [hL] at this
      exact this
    rw [if_neg h4]
    have := apply_other H e.kind e.queue e.n e.id e.note pv bv hnt he.queue hlen k hk hix ⟨h2, h3, h4⟩
    rw [hL] at this
    exact this

/-- A hall's rows, and its box, make what applyTo needs. -/
structure HB (lo : Nat) (N : Nat → Prop) (hb : Nat) (w : World) (v : Value) (L : QuL) (next : Int) : Prop where
  rows : HR lo N (fun b => b = hb) w v L
  box : Blk w hb [v, .int .i64 next]
  los : lo ≤ hb
  note : ∀ b, N b → b ≠ hb

set_option maxRecDepth 100000 in
set_option maxHeartbeats 1000000 in
theorem applyTo_any {lo : Nat} {N : Nat → Prop} {hb : Nat} {w : World} {v : Value} {L : QuL} {next : Int} (H : HB lo N hb w v L next) (hlen : L.length ≤ 4194304) (hnm : ∀ x ∈ L, x.1.name.size ≤ maxLen) :
    Calls Try.prog 46 #[.pointer (some ⟨hb, 0, none⟩)] w fun r w' => ∃ xb pb mb, r = .returned (.func (.func 78) #[] #[.pointer (some ⟨pb, 0, none⟩), .pointer (some ⟨xb, 0, none⟩)]) ∧ JH lo N hb xb pb mb w' v L next ∧ Below w.heap.size w w' := by
  have HH : Hid (HB lo N hb w v L next) := H
  have HN : Hid (∀ q ∈ L.map Prod.fst, q.name.size ≤ maxLen) := fun q hq => by
    obtain ⟨x, hx, rfl⟩ := List.mem_map.1 hq
    exact hnm x hx
  obtain ⟨va, vc, rfl, -⟩ := own_shape H.rows.row
  obtain ⟨b0, b1, b2, b3⟩ := H.box.b2
  have hll : (L.map Prod.fst).length ≤ 4194304 := by simpa using hlen
  have hne : hb ≠ w.heap.size := by omega
  obtain ⟨A, hA⟩ : ∃ A, A = w.alloc (.cells #[.pointer (some ⟨hb, 0, none⟩)] 93) := ⟨_, rfl⟩
  have hAz : A.heap.size = w.heap.size + 1 := by rw [hA]; simp
  have hAB : Below w.heap.size w A := by rw [hA]; exact below_alloc _ _
  have HAX : Hid (Blk A w.heap.size [.pointer (some ⟨hb, 0, none⟩)] ∧ Below w.heap.size w A ∧ SliceQ (Under A.heap.size) A (.slice va L.length vc) (L.map Prod.fst)) := ⟨by rw [hA]; exact Blk.new _ _ _, hAB, (H.rows.below hAB).slice⟩
  obtain ⟨c0, c1, c2, c3⟩ := (H.box.below hAB b3).b2
  obtain ⟨a0, a1, a2⟩ := HAX.out.1.b1
  clear H hnm hAB
  go_enter Try.func46, Try.ntmps46
  go_upto_region 1 with fail
  rw [← hA]
  clear hA b0 b1 b2
  go_wp2_with (go_at_call 77; refine (places_any _ (L.map Prod.fst) _ HAX.out.2.2 hll HN.out).mono ?_; rintro r w4 ⟨rfl, ⟨D4, hm4, hp4⟩, hb4, hz4⟩; rw [List.length_map] at hm4; have HM4 : Hid _ := And.intro hm4 (And.intro hp4 hb4); clear hm4 hp4 hb4)
  obtain ⟨hm4, hp4, hb4⟩ := HM4.out
  have hz1 := hb4.size
  rw [hAz] at hm4
  have hB : Below w.heap.size w w4 := HAX.out.2.1.trans (hb4.mono (by omega))
  go_ret
  refine ⟨w.heap.size, w4.heap.size, w.heap.size + 1, rfl, ?_, ?_⟩
  · have hW : ∀ (o : Obj), Below w4.heap.size w4 (w4.alloc o) := fun o => below_alloc _ _
    have hH := HH.out
    have R4 := hH.rows.below hB
    refine ⟨(R4.below (hW _)).more (fun b h => h) fun b h => ?_, (hH.box.below hB b3).alloc _, (HAX.out.1.below hb4 a2).alloc _, Blk.new _ _ _, ⟨D4, hm4.alloc _, hp4⟩, ⟨by omega, by omega, by omega, by omega, by omega, by omega⟩, ⟨hH.los, by have := hH.los; omega, by have := hH.los; omega, by have := hH.los; omega⟩, fun b h hx => ?_⟩
    · rcases h with h | h | h | h | h
      · exact .inl (.inl h)
      · exact .inl (.inr h)
      · refine .inr ⟨by simp; omega, fun hf => ?_⟩
        have := (hH.rows.foot_lt hf).2
        omega
      · refine .inr ⟨by simp; omega, fun hf => ?_⟩
        have := (hH.rows.foot_lt hf).2
        omega
      · refine .inr ⟨by simp; omega, fun hf => ?_⟩
        have := (hH.rows.foot_lt hf).2
        omega
    · have hl := hH.rows.lt b (.inl h)
      rcases hx with hx | hx | hx | hx
      · exact hH.note b h hx
      · omega
      · omega
      · omega
  · exact hB.alloc (by omega) _

theorem smallQ.fits {h : HD} (hs : smallQ h.queues) (hn : ∀ q ∈ h.queues, q.name.size ≤ maxLen) (h1 : h.queues.length < 4194304) (h2 : ∀ q ∈ h.queues, q.items.length < 4194304) : h.fits 4194304 := ⟨h1, h2, hn⟩

theorem HR.sliceM {lo : Nat} {N X : Nat → Prop} {w : World} {v : Value} {L : QuL} (H : HR lo N X w v L) (hN : ∀ b, N b → lo ≤ b) : SliceQ (Made lo w.heap.size) w v (L.map Prod.fst) := by
  refine ⟨L, rfl, (own_slice H.row).sub fun b hb => ⟨H.row.lt b hb, rfl⟩, fun x hx => ?_⟩
  obtain ⟨LI, e, ho, hn⟩ := H.items x hx
  exact ⟨LI, e, (own_slice ho).sub fun b hb => ⟨ho.lt b hb, rfl⟩, fun y hy => (hn y hy).sub fun b hb => ⟨⟨hN b hb, H.lt b (.inl hb)⟩, rfl⟩⟩

set_option maxRecDepth 100000 in
set_option maxHeartbeats 3200000 in
theorem applyM_any (v : Value) (h : HD) (e : ED) (pv bv : Value) (w : World) (hv : SliceQ (Under w.heap.size) w v h.queues) (hsm : smallQ h.queues) (hf : h.fits 4194304) (he : e.fits) (hnt : NoteIs (Under w.heap.size) w (pv, bv) e.note) :
    Calls Try.prog 17 #[.agg #[v, .int .i64 h.next], .agg #[.int .i64 e.kind, .string e.queue, .int .i64 e.n, .int .i64 e.id, pv, bv]] w fun r w' => ∃ vi, r = .returned (.agg #[vi, .int .i64 (applyF h e).next]) ∧ SliceQ (Made w.heap.size w'.heap.size) w' vi (applyF h e).queues ∧ Below w.heap.size w w' := by
  have HV : Hid (SliceQ (Under w.heap.size) w v h.queues) := hv
  have HM : Hid (smallQ h.queues ∧ h.fits 4194304 ∧ e.fits) := ⟨hsm, hf, he⟩
  have HNT : Hid (NoteIs (Under w.heap.size) w (pv, bv) e.note) := hnt
  obtain ⟨va, vc, rfl⟩ := hv.shp
  obtain ⟨pa, pc, rfl, -⟩ := SliceV.shape hnt.1
  obtain ⟨ba, bc, rfl, -⟩ := SliceV.shape hnt.2
  clear hv hsm hf he hnt
  obtain ⟨A, hA⟩ : ∃ A, A = ((w.alloc (.cells #[.slice va h.queues.length vc, .int .i64 h.next] 24)).alloc (.cells #[.int .i64 e.kind, .string e.queue, .int .i64 e.n, .int .i64 e.id, .slice pa e.note.props.length pc, .slice ba e.note.body.length bc] 30)).alloc (.cells #[.slice none 0 0, .int .i64 0] 24) := ⟨_, rfl⟩
  have hAz : A.heap.size = w.heap.size + 3 := by rw [hA]; simp
  have hAB : Below w.heap.size w A := by rw [hA]; exact ((below_alloc _ _).alloc (by simp) _).alloc (by simp; omega) _
  have hA0 : Blk A w.heap.size [.slice va h.queues.length vc, .int .i64 h.next] := by rw [hA]; exact ((Blk.new _ _ _).alloc _).alloc _
  have hA1 : Blk A (w.heap.size + 1) [.int .i64 e.kind, .string e.queue, .int .i64 e.n, .int .i64 e.id, .slice pa e.note.props.length pc, .slice ba e.note.body.length bc] := by
    rw [hA]
    have := (Blk.new (w.alloc (.cells #[.slice va h.queues.length vc, .int .i64 h.next] 24)) [.int .i64 e.kind, .string e.queue, .int .i64 e.n, .int .i64 e.id, .slice pa e.note.props.length pc, .slice ba e.note.body.length bc] 30).alloc (.cells #[.slice none 0 0, .int .i64 0] 24)
    simpa using this
  have hA2 : Blk A (w.heap.size + 2) [.slice none 0 0, .int .i64 0] := by
    rw [hA]
    have := Blk.new ((w.alloc (.cells #[.slice va h.queues.length vc, .int .i64 h.next] 24)).alloc (.cells #[.int .i64 e.kind, .string e.queue, .int .i64 e.n, .int .i64 e.id, .slice pa e.note.props.length pc, .slice ba e.note.body.length bc] 30)) [.slice none 0 0, .int .i64 0] 24
    simpa using this
  have HAB : Hid (Below w.heap.size w A ∧ Blk A (w.heap.size + 1) [.int .i64 e.kind, .string e.queue, .int .i64 e.n, .int .i64 e.id, .slice pa e.note.props.length pc, .slice ba e.note.body.length bc] ∧ Blk A (w.heap.size + 2) [.slice none 0 0, .int .i64 0]) := ⟨hAB, hA1, hA2⟩
  have HVA : Hid (SliceQ (Under A.heap.size) A (.slice va h.queues.length vc) h.queues) := HV.out.sub fun k hk => ⟨Nat.lt_of_lt_of_le hk hAB.size, hAB.block k hk⟩
  obtain ⟨c0, c1, c2, c3⟩ := hA0.b2
  clear hAB hA0 hA1 hA2
  go_enter Try.func17, Try.ntmps17
  go_upto_region 1 with fail
  rw [← hA]
  clear hA
  go_upto_region 2 with (go_at_call 55; refine (hallOwnH_any _ h _ HVA.out HM.out.1).mono ?_; rintro r w1 ⟨vi, rfl, ho1, hb1⟩; obtain ⟨L, N, hL, hr, hn⟩ := ho1; obtain ⟨xa, xc, rfl, -⟩ := own_shape hr.row; have HR1 : Hid (L.map Prod.fst = h.queues ∧ HR A.heap.size N (fun _ => False) w1 (.slice xa L.length xc) L ∧ (∀ b, N b → A.heap.size ≤ b) ∧ Below A.heap.size A w1) := ⟨hL, hr, hn, hb1⟩; have hz1 := hb1.size; clear hL hr hn hb1)
  obtain ⟨B, hB⟩ : ∃ B, B = w1.alloc (.cells #[.slice xa L.length xc, .int .i64 h.next] 24) := ⟨_, rfl⟩
  have hBz : B.heap.size = w1.heap.size + 1 := by rw [hB]; simp
  have hBB : Below w1.heap.size w1 B := by rw [hB]; exact below_alloc _ _
  have hBb : Blk B w1.heap.size [.slice xa L.length xc, .int .i64 h.next] := by rw [hB]; exact Blk.new _ _ _
  have hAB : Below A.heap.size A B := HR1.out.2.2.2.trans (hBB.mono (by omega))
  have HHB : Hid (HB A.heap.size N w1.heap.size B (.slice xa L.length xc) L h.next) := by
    obtain ⟨-, hr, hn, -⟩ := HR1.out
    refine ⟨(hr.below hBB).more (fun b h => h) fun b h => ?_, hBb, hz1, fun b h e => ?_⟩
    · rcases h with h | h
      · exact .inl (.inl h)
      · subst h
        exact .inr ⟨by omega, fun hf => by have := (hr.foot_lt hf).2; omega⟩
    · have := hr.lt b (.inl h); omega
  have HFT : Hid (L.length ≤ 4194304 ∧ ∀ x ∈ L, x.1.name.size ≤ maxLen) := by
    have hL := HR1.out.1
    refine ⟨?_, fun x hx => HM.out.2.1.names x.1 (by rw [← hL]; exact List.mem_map_of_mem hx)⟩
    have h1 := HM.out.2.1.len
    rw [← hL, List.length_map] at h1
    omega
  have HE : Hid (∀ W, Below A.heap.size A W → Blk W (w.heap.size + 1) [.int .i64 e.kind, .string e.queue, .int .i64 e.n, .int .i64 e.id, .slice pa e.note.props.length pc, .slice ba e.note.body.length bc] ∧ Blk W (w.heap.size + 2) [.slice none 0 0, .int .i64 0] ∧ Below w.heap.size w W ∧ NoteIs (Under W.heap.size) W (.slice pa e.note.props.length pc, .slice ba e.note.body.length bc) e.note) := by
    show ∀ W, Below A.heap.size A W → _
    intro W hW
    obtain ⟨k1, k2, k3⟩ := HAB.out
    have kB : Below w.heap.size w W := k1.trans (hW.mono (by omega))
    exact ⟨k2.below hW (by omega), k3.below hW (by omega), kB, HNT.out.sub fun b hb => ⟨Nat.lt_of_lt_of_le hb kB.size, kB.block b hb⟩⟩
  have HAP : Hid (∀ {xb pb mb : Nat} {W : World}, JH A.heap.size N w1.heap.size xb pb mb W (.slice xa L.length xc) L h.next → NoteIs (Under W.heap.size) W (.slice pa e.note.props.length pc, .slice ba e.note.body.length bc) e.note → Calls Try.prog 78 #[.agg #[.int .i64 e.kind, .string e.queue, .int .i64 e.n, .int .i64 e.id, .slice pa e.note.props.length pc, .slice ba e.note.body.length bc], .pointer (some ⟨pb, 0, none⟩), .pointer (some ⟨xb, 0, none⟩)] W fun r w' => (∃ u, r = .returned u) ∧ StepAns A.heap.size N w1.heap.size xb pb W (applyF h e) w') := fun {_ _ _ _} H1 H2 => applyE_any H1 HR1.out.1 HM.out.2.1 e HM.out.2.2 _ _ H2
  have HAB2 : Hid (Below A.heap.size A B) := hAB
  have hE := (HE.out B hAB).1
  have e0 : B.cell? ⟨w.heap.size + 1, 0, none⟩ = some (.int .i64 e.kind) := hE.cell 0
  have e1 : B.cell? ⟨w.heap.size + 1, 1, none⟩ = some (.string e.queue) := hE.cell 1
  have e2 : B.cell? ⟨w.heap.size + 1, 2, none⟩ = some (.int .i64 e.n) := hE.cell 2
  have e3 : B.cell? ⟨w.heap.size + 1, 3, none⟩ = some (.int .i64 e.id) := hE.cell 3
  have e4 : B.cell? ⟨w.heap.size + 1, 4, none⟩ = some (.slice pa e.note.props.length pc) := hE.cell 4
  have e5 : B.cell? ⟨w.heap.size + 1, 5, none⟩ = some (.slice ba e.note.body.length bc) := hE.cell 5
  rw [← hB]
  clear hB hBB hBb hAB hE c0 c1 c2 c3
  go_region_held3 (fun w' => w'.cell? ⟨w.heap.size + 1, 0, none⟩ = some (.int .i64 e.kind) ∧ w'.cell? ⟨w.heap.size + 1, 1, none⟩ = some (.string e.queue) ∧ w'.cell? ⟨w.heap.size + 1, 2, none⟩ = some (.int .i64 e.n) ∧ w'.cell? ⟨w.heap.size + 1, 3, none⟩ = some (.int .i64 e.id) ∧ w'.cell? ⟨w.heap.size + 1, 4, none⟩ = some (.slice pa e.note.props.length pc) ∧ w'.cell? ⟨w.heap.size + 1, 5, none⟩ = some (.slice ba e.note.body.length bc)) (go_keep) (first
    | (go_at_call 46; refine (applyTo_any (w := B.drew) (v := .slice xa L.length xc) (L := L) (next := h.next) (N := N) (lo := A.heap.size) ⟨HHB.out.rows.on (Nat.le_refl _) (fun _ _ => rfl), HHB.out.box, HHB.out.los, HHB.out.note⟩ HFT.out.1 HFT.out.2).mono ?_; rintro r w2 ⟨xb, pb, mb, rfl, hj2, hb2⟩; have HJ2 : Hid (JH A.heap.size N w1.heap.size xb pb mb w2 (.slice xa L.length xc) L h.next ∧ Below A.heap.size A w2) := ⟨hj2, HAB2.out.trans (Below.mono (B := B.heap.size) ⟨hb2.os, hb2.tape, hb2.output, hb2.size, hb2.block⟩ (by omega))⟩; have hE := (HE.out w2 HJ2.out.2).1; have f0 : w2.cell? ⟨w.heap.size + 1, 0, none⟩ = some (.int .i64 e.kind) := hE.cell 0; have f1 : w2.cell? ⟨w.heap.size + 1, 1, none⟩ = some (.string e.queue) := hE.cell 1; have f2 : w2.cell? ⟨w.heap.size + 1, 2, none⟩ = some (.int .i64 e.n) := hE.cell 2; have f3 : w2.cell? ⟨w.heap.size + 1, 3, none⟩ = some (.int .i64 e.id) := hE.cell 3; have f4 : w2.cell? ⟨w.heap.size + 1, 4, none⟩ = some (.slice pa e.note.props.length pc) := hE.cell 4; have f5 : w2.cell? ⟨w.heap.size + 1, 5, none⟩ = some (.slice ba e.note.body.length bc) := hE.cell 5; clear hj2 hb2 hE)
    | (go_at_call 78; refine (HAP.out HJ2.out.1 (HE.out w2 HJ2.out.2).2.2.2).mono ?_; rintro r w3 ⟨⟨u, rfl⟩, hs3⟩; have HS3 : Hid (StepAns A.heap.size N w1.heap.size xb pb w2 (applyF h e) w3) := hs3; have HB3 : Hid (Below A.heap.size A w3) := (by obtain ⟨_, _, _, _, -, -, -, k4⟩ := hs3; exact HJ2.out.2.trans k4.bel); have hE := (HE.out w3 HB3.out).1; have g0 : w3.cell? ⟨w.heap.size + 1, 0, none⟩ = some (.int .i64 e.kind) := hE.cell 0; have g1 : w3.cell? ⟨w.heap.size + 1, 1, none⟩ = some (.string e.queue) := hE.cell 1; have g2 : w3.cell? ⟨w.heap.size + 1, 2, none⟩ = some (.int .i64 e.n) := hE.cell 2; have g3 : w3.cell? ⟨w.heap.size + 1, 3, none⟩ = some (.int .i64 e.id) := hE.cell 3; have g4 : w3.cell? ⟨w.heap.size + 1, 4, none⟩ = some (.slice pa e.note.props.length pc) := hE.cell 4; have g5 : w3.cell? ⟨w.heap.size + 1, 5, none⟩ = some (.slice ba e.note.body.length bc) := hE.cell 5; clear hs3 hE))
  obtain ⟨N', mb', v', L', hN', hL', hj, hk'⟩ := HS3.out
  have HJ3 : Hid (JH A.heap.size N' w1.heap.size xb pb mb' w3 v' L' (applyF h e).next ∧ L'.map Prod.fst = (applyF h e).queues) := ⟨hj, hL'⟩
  have HN3 : Hid (∀ b, N' b → A.heap.size ≤ b) := fun b hb => by
    rcases hN'.2 b hb with h | h
    · exact HR1.out.2.2.1 b h
    · have := HJ2.out.2.size; omega
  obtain ⟨ya, yc, rfl, -⟩ := own_shape hj.rows.row
  obtain ⟨r0, r1, r2, r3⟩ := hj.box.b2
  obtain ⟨t0, t1, t2, t3⟩ := (HE.out w3 HB3.out).2.1.b2
  have hne : w1.heap.size ≠ w.heap.size + 2 := by omega
  clear hj hk' hL' hN' e0 e1 e2 e3 e4 e5 f0 f1 f2 f3 f4 f5 g0 g1 g2 g3 g4 g5
  go_wp2_with fail
  refine bodyPost_ret (v := .agg #[.slice ya L'.length yc, .int .i64 (applyF h e).next]) (by simp [results, Try.results17, go_sem, *]; done) rfl ⟨_, rfl, ?_, ?_⟩
  · obtain ⟨hj, hL'⟩ := HJ3.out
    rw [← hL']
    have hlo : ∀ b, (N' b ∨ Foot (.slice ya L'.length yc) L' b) → b ≠ w.heap.size + 2 := fun b hb e => by
      rcases hb with hb | hb
      · have := HN3.out b hb; omega
      · have := (hj.rows.foot_lt hb).1; omega
    refine (((hj.rows.on (W := _) (by simp) fun b hb => ?_).sliceM HN3.out).sub fun b hb => ⟨⟨by have := hb.1; omega, hb.2⟩, rfl⟩)
    iterate 2 rw [Below.heap_setCell _ _ _ _ (hlo b hb)]
  · iterate 2 refine Below.setCell ?_ (show w.heap.size ≤ w.heap.size + 1 + 1 by omega) _
    exact (HE.out w3 HB3.out).2.2.1
theorem applyJ_any (v : Value) (h : HD) (e : ED) (pv bv : Value) (w : World) (hv : SliceQ (Under w.heap.size) w v h.queues) (hsm : smallQ h.queues) (hf : h.fits 4194304) (he : e.fits) (hnt : NoteIs (Under w.heap.size) w (pv, bv) e.note) :
    Calls Try.prog 17 #[.agg #[v, .int .i64 h.next], .agg #[.int .i64 e.kind, .string e.queue, .int .i64 e.n, .int .i64 e.id, pv, bv]] w fun r w' => ∃ vi, r = .returned (.agg #[vi, .int .i64 (applyF h e).next]) ∧ SliceQ (Under w'.heap.size) w' vi (applyF h e).queues ∧ Below w.heap.size w w' :=
  (applyM_any v h e pv bv w hv hsm hf he hnt).mono fun r w' ⟨vi, h1, h2, h3⟩ => ⟨vi, h1, h2.under, h3⟩
end Go.Proofs.Ytkddkpdfeeikhaa
