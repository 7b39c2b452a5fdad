/-
  hall.Own answers a hall whose rows are all one's own.
-/
import Derived.Test.YtkddkpdfeeikhaaJShortProofM36
namespace Go.Proofs.Ytkddkpdfeeikhaa
open Go.RowKit Go.WideMaps Go.Maps
set_option linter.unusedVariables false
set_option linter.unusedSimpArgs false

attribute [local go_sem ↓] Go.wp_at_zero Go.wp_at_succ

section
variable {lo : Nat} {N X : Nat → Prop} {w : World} {v : Value} {L : QuL}

/-- A queue more, with items of its own. -/
theorem HR.push (H : HR lo N X w v L) {w1 w2 : World} {u v' : Value} {LI : ItL} {q : QD} {N' : Nat → Prop} (h1 : Below w.heap.size w w1) (hq : LI.map Prod.fst = q.items) (hu : w1.ownsRow lo 78 7 u LI.length (cellsI LI)) (hub : ∀ b, u.ownBlock = some b → w.heap.size ≤ b)
    (hno : ∀ y ∈ LI, NoteIs N' w1 y.2 y.1.note) (hN : ∀ b, N b → N' b) (hN' : ∀ b, N' b → N b ∨ (w.heap.size ≤ b ∧ b < w1.heap.size ∧ u.ownBlock ≠ some b))
    (ho : w2.ownsRow lo 76 3 v' (L.length + 1) (cellsQ L ++ q.cells u)) (hg : w1.grownBy w2 v.ownBlock) (hat : ∀ b, v'.ownBlock = some b → v.ownBlock = some b ∨ w1.heap.size ≤ b) : HR lo N' X w2 v' (L ++ [(q, u)]) := by
  have hz1 := h1.size
  have hz2 := hg.size
  have hx2 : ∀ x ∈ L ++ [(q, u)], x ∈ L ∨ x = (q, u) := fun x hx => by simpa using hx
  have hvl : ∀ b, v.ownBlock = some b → b < w.heap.size := fun b h => (H.foot_lt (.inl h)).2
  have hul : ∀ b, u.ownBlock = some b → b < w1.heap.size := fun b h => (hu.lt b h).2
  have hfoot : ∀ b, Foot v' (L ++ [(q, u)]) b → Foot v L b ∨ w1.heap.size ≤ b ∨ u.ownBlock = some b := fun b hb => by
    rcases hb with h | ⟨x, hx, h⟩
    · rcases hat b h with h | h
      · exact .inl (.inl h)
      · exact .inr (.inl h)
    · rcases hx2 x hx with hx | rfl
      · exact .inl (.inr ⟨x, hx, h⟩)
      · exact .inr (.inr h)
  refine ⟨?_, fun x hx => ?_, fun x hx b hb => ?_, ?_, fun b hb hf => ?_, fun b hb => ?_⟩
  · rw [List.length_append, cellsQ_append]
    simpa [cellsQ] using ho
  · rcases hx2 x hx with hx | rfl
    · obtain ⟨LJ, e, ho', hn⟩ := H.items x hx
      refine ⟨LJ, e, own_same ho' fun b e => ?_, fun y hy => (hn y hy).sub fun b hb => ⟨hN b hb, ?_⟩⟩
      · have hl := (ho'.lt b e).2
        rw [hg.block b (by omega) (fun h => H.sep x hx b e h.symm), h1.block b hl]
      · have hl := H.lt b (.inl hb)
        rw [hg.block b (by omega) (fun h => H.off b (.inl hb) (.inl h.symm)), h1.block b hl]
    · refine ⟨LI, hq, own_same hu fun b e => hg.block b (hul b e) (fun h => ?_), fun y hy => (hno y hy).sub fun b hb => ⟨hb, ?_⟩⟩
      · have := hvl b h.symm
        have := hub b e
        omega
      · rcases hN' b hb with h | h
        · have hl := H.lt b (.inl h)
          exact hg.block b (by omega) (fun e => H.off b (.inl h) (.inl e.symm))
        · exact hg.block b h.2.1 (fun e => by have := hvl b e.symm; omega)
  · rcases hx2 x hx with hx | rfl
    · intro h
      rcases hat b h with h | h
      · exact H.sep x hx b hb h
      · have := (H.foot_lt (.inr ⟨x, hx, hb⟩)).2
        omega
    · intro h
      rcases hat b h with h | h
      · have := hvl b h
        have := hub b hb
        omega
      · have := hul b hb
        omega
  · rw [List.pairwise_append]
    refine ⟨H.pair, by simp, fun x hx y hy b hb => ?_⟩
    simp only [List.mem_singleton] at hy
    subst hy
    intro h
    have := (H.foot_lt (.inr ⟨x, hx, hb⟩)).2
    have := hub b h
    omega
  · rcases hfoot b hf with h | h | h
    · rcases hb with hb | hb
      · rcases hN' b hb with h3 | h3
        · exact H.off b (.inl h3) h
        · have := (H.foot_lt h).2; omega
      · exact H.off b (.inr hb) h
    · have : b < w1.heap.size := by
        rcases hb with hb | hb
        · rcases hN' b hb with h3 | h3
          · have := H.lt b (.inl h3); omega
          · exact h3.2.1
        · have := H.lt b (.inr hb); omega
      omega
    · rcases hb with hb | hb
      · rcases hN' b hb with h3 | h3
        · have := H.lt b (.inl h3)
          have := hub b h
          omega
        · exact h3.2.2 h
      · have := H.lt b (.inr hb)
        have := hub b h
        omega
  · rcases hb with hb | hb
    · rcases hN' b hb with h3 | h3
      · have := H.lt b (.inl h3); omega
      · have := h3.2.1; omega
    · have := H.lt b (.inr hb); omega
end

/-- What holds in 'eachOf' of hall.Own, behind k queues. -/
structure EIM (w : World) (next : Int) (qs : List QD) (k : Nat) (wr : World) (vi : Value) (L' : QuL) (N : Nat → Prop) : Prop where
  bel : Below w.heap.size w wr
  res : Blk wr (w.heap.size + 1) [.slice none 0 0, .int .i64 0]
  out : Blk wr (w.heap.size + 1 + 1) [vi, .int .i64 next]
  rows : HR (w.heap.size + 3) N (fun _ => False) wr vi L'
  hN : ∀ b, N b → w.heap.size + 3 ≤ b
  list : L'.map Prod.fst = qs.take k

section
variable {w : World} {next : Int} {qs : List QD} {k : Nat} {wr : World} {vi : Value} {L' : QuL} {N : Nat → Prop}

theorem EIM.lt (h : EIM w next qs k wr vi L' N) : w.heap.size + 3 ≤ wr.heap.size := by have := h.out.lt; omega

theorem EIM.on (h : EIM w next qs k wr vi L' N) {W : World} (hb : Below wr.heap.size wr W) : EIM w next qs k W vi L' N := by
  have hl := h.lt
  exact ⟨h.bel.trans (hb.mono h.bel.size), h.res.below hb h.res.lt, h.out.below hb h.out.lt, h.rows.below hb, h.hN, h.list⟩

theorem EIM.more (h : EIM w next qs k wr vi L' N) (hk : k < qs.length) {w1 w2 : World} {v : Value} {o : Obj} {gg cap : Nat}
    (hn : OwnI wr.heap.size w1 v qs[k].items) (h1 : Below wr.heap.size wr w1)
    (ho : w2.ownsRow (w.heap.size + 3) 76 3 (.slice (some ⟨gg, 0, none⟩) (L'.length + 1) cap) (L'.length + 1) (cellsQ L' ++ qs[k].cells v)) (hg : (w1.alloc o).grownBy w2 vi.ownBlock) (hat : vi.ownBlock = some gg ∨ gg = w1.heap.size + 1) (hgl : gg < w2.heap.size) :
    ∃ N', EIM w next qs (k + 1) (w2.setCell ⟨w.heap.size + 1 + 1, 0, none⟩ (.slice (some ⟨gg, 0, none⟩) (L'.length + 1) cap)) (.slice (some ⟨gg, 0, none⟩) (L'.length + 1) cap) (L' ++ [(qs[k], v)]) N' := by
  have hl := h.lt
  have hz1 := h1.size
  have hz2 : w1.heap.size + 1 ≤ w2.heap.size := by have := hg.size; simp at this; omega
  obtain ⟨LI, hLI, hown, hno⟩ := hn
  have hvb : ∀ b, vi.ownBlock = some b → w.heap.size + 3 ≤ b ∧ b < wr.heap.size := fun b hb => h.rows.foot_lt (.inl hb)
  have hg' : w1.grownBy w2 vi.ownBlock := grownBy_trans (World.grownBy_alloc _ _ _) hg
  have blo : ∀ b, b < w.heap.size + 3 → w2.heap[b]? = wr.heap[b]? := fun b hb => by
    rw [hg'.block b (by omega) (fun e => by have := (hvb b e.symm).1; omega), h1.block b (by omega)]
  have key := h.rows.push (w1 := w1) (w2 := w2) (u := v) (v' := .slice (some ⟨gg, 0, none⟩) (L'.length + 1) cap) (LI := LI) (q := qs[k]) (N' := fun b => N b ∨ (wr.heap.size ≤ b ∧ b < w1.heap.size ∧ v.ownBlock ≠ some b)) h1 hLI (own_mono hown (by omega)) (fun b e => (hown.lt b e).1) (fun y hy => (hno y hy).sub fun b hb => ⟨.inr hb, rfl⟩) (fun b h => .inl h) (fun b h => h) ho hg' (fun b e => by
    simp only [Value.ownBlock, Option.some.injEq] at e
    subst e
    rcases hat with h | h
    · exact .inl h
    · right; omega)
  have hfar : ∀ b, b ≠ w.heap.size + 1 + 1 → (w2.setCell ⟨w.heap.size + 1 + 1, 0, none⟩ (.slice (some ⟨gg, 0, none⟩) (L'.length + 1) cap)).heap[b]? = w2.heap[b]? := fun b hb => Below.heap_setCell _ _ _ _ hb
  refine ⟨_, ⟨⟨?_, ?_, ?_, ?_, fun b hb => ?_⟩, ?_, ?_, key.on (by simp) fun b hb => hfar b ?_, fun b hb => ?_, ?_⟩⟩
  · exact hg.os.trans (h1.os.trans h.bel.os)
  · exact hg.tape.trans (h1.tape.trans h.bel.tape)
  · exact hg.output.trans (h1.output.trans h.bel.output)
  · simp; have := h.bel.size; omega
  · rw [hfar b (by omega), blo b (by omega)]
    exact h.bel.block b hb
  · exact (h.res.same (blo _ (by omega))).far (by simp) _
  · exact (h.out.same (blo _ (by omega))).set 0 _
  · rcases hb with hb | hb
    · rcases hb with hb | hb
      · have := h.hN b hb; omega
      · omega
    · have := (key.foot_lt hb).1; omega
  · rcases hb with hb | hb
    · exact h.hN b hb
    · omega
  · rw [List.map_append, h.list, List.take_succ_eq_append_getElem hk]
    simp
end

theorem EIM.start (w : World) (next : Int) (qs : List QD) (v : Value) :
    EIM w next qs 0 (((w.alloc (.cells #[v, .int .i64 next] 24)).alloc (.cells #[.slice none 0 0, .int .i64 0] 24)).alloc (.cells #[.slice none 0 0, .int .i64 next] 24)) (.slice none 0 0) [] (fun _ => False) := by
  have b3 : Below w.heap.size w (((w.alloc (.cells #[v, .int .i64 next] 24)).alloc (.cells #[.slice none 0 0, .int .i64 0] 24)).alloc (.cells #[.slice none 0 0, .int .i64 next] 24)) := ((below_alloc _ _).alloc (by simp) _).alloc (by simp; omega) _
  refine ⟨b3, ?_, ?_, ⟨World.ownsRow_nil _ _ _ _, by simp, by simp, by simp, fun b h => by simp at h, fun b h => by simp at h⟩, by simp, by simp⟩
  · have := (Blk.new (w.alloc (.cells #[v, .int .i64 next] 24)) [.slice none 0 0, .int .i64 0] 24).alloc (.cells #[.slice none 0 0, .int .i64 next] 24)
    simpa using this
  · have := Blk.new ((w.alloc (.cells #[v, .int .i64 next] 24)).alloc (.cells #[.slice none 0 0, .int .i64 0] 24)) [.slice none 0 0, .int .i64 next] 24
    simpa using this

/-- A hall of one's own. -/
def OwnH (base : Nat) (w : World) (v : Value) (qs : List QD) : Prop := ∃ (L : QuL) (N : Nat → Prop), L.map Prod.fst = qs ∧ HR base N (fun _ => False) w v L ∧ ∀ b, N b → base ≤ b

theorem HR.lower {lo lo' : Nat} {N X : Nat → Prop} {w : World} {v : Value} {L : QuL} (H : HR lo N X w v L) (h : lo' ≤ lo) : HR lo' N X w v L :=
  ⟨own_mono H.row h, fun x hx => by obtain ⟨LI, e, ho, hn⟩ := H.items x hx; exact ⟨LI, e, own_mono ho h, hn⟩, H.sep, H.pair, H.off, H.lt⟩

set_option maxRecDepth 100000 in
set_option maxHeartbeats 3200000 in
theorem eachOwn_any (v : Value) (next : Int) (qs : List QD) (w : World) (hv : SliceQ (Under w.heap.size) w v qs) (hsm : smallQ qs) :
    Calls Try.prog 86 #[.agg #[v, .int .i64 next], .func (.func 87) #[] #[]] w fun e w' => ∃ vi, e = .returned (.agg #[vi, .int .i64 next]) ∧ OwnH w.heap.size w' vi qs ∧ Below w.heap.size w w' := by
  obtain ⟨i0, hi0, hz0, hz1, hz2⟩ := info_parts info25
  have HV : Hid (SliceQ (Under w.heap.size) w v qs) := hv
  have HM : Hid (smallQ qs) := hsm
  have HK : Hid (EIM w next qs 0 _ (.slice none 0 0) [] (fun _ => False)) := EIM.start w next qs v
  have hE := enter47
  obtain ⟨va, vc, rfl, h1, h2, h3⟩ := hv.shape
  have hlen := hsm.1
  unfold maxLen at h2
  clear hv hsm
  go_enter Try.func86, Try.ntmps86
  go_wp2
  go_loopw [14] (fun i wr => ∃ k : Nat, k ≤ qs.length ∧ i = .int .i64 k ∧ ∃ vi L' N, EIM w next qs k wr vi L' N)
    (fun i _ => qs.length - (intOf i).toNat)
  case atStart => exact ⟨0, Nat.zero_le _, rfl, _, _, _, HK.out⟩
  case round =>
    obtain ⟨k, hk, rfl, vi, L', N, hI⟩ := hrel
    clear HK
    have hL' : L'.length ≤ k := by
      have := congrArg List.length hI.list
      simp at this
      omega
    by_cases hlt : k < qs.length
    · obtain ⟨b, off, ia, ic, rfl, hS, hq, c0, c1, c2⟩ := (SliceQ.sub (T := Under w.heap.size) HV.out (fun b hb => ⟨hb, hI.bel.block b hb⟩)).at k hlt
      have HQ : Hid (SliceI (Under w.heap.size) wr (.slice ia qs[k].items.length ic) qs[k].items) := hq
      have hsm := HM.out.2 qs[k] (List.getElem_mem hlt)
      have HI : Hid (EIM w next qs k (wr.alloc (.cells #[.string qs[k].name, .int .i64 qs[k].limit, .slice ia qs[k].items.length ic] 76)) vi L' N) := hI.on (below_alloc _ _)
      have hl := hI.lt
      obtain ⟨o0, o1, o2, o3⟩ := (hI.out.alloc (.cells #[.string qs[k].name, .int .i64 qs[k].limit, .slice ia qs[k].items.length ic] 76)).b2
      have HI0 : Hid (EIM w next qs k wr vi L' N) := hI
      clear hI hq
      obtain ⟨q, hqe⟩ : ∃ q, q = qs[k] := ⟨_, rfl⟩
      rw [← hqe] at c0 c1 c2 HQ hsm HI o0 o1 o2 o3
      have HQE : Hid (q = qs[k]) := hqe
      clear hqe
      go_wp2_with fail
      go_region_law (first
          | (go_simp; (with_reducible show Calls Try.prog 87 _ _ _); refine (own_any _ q.name q.limit q.items _ ?_ hsm).mono ?_; (exact HQ.out.sub fun b hb => ⟨Nat.lt_of_lt_of_le hb (by simp; omega), Below.heap_alloc _ _ _ (Nat.lt_of_lt_of_le hb (by omega))⟩); rintro e w2 ⟨v2, rfl, hn2, hb2⟩; obtain ⟨xa, xc, rfl⟩ := hn2.made.shp; have HI2 : Hid (EIM w next qs k w2 vi L' N) := HI.out.on ⟨hb2.os, hb2.tape, hb2.output, hb2.size, hb2.block⟩; obtain ⟨r0, r1, r2, r3⟩ := HI2.out.out.b2)
          | (refine step_append_lies _ (by rfl) _ _ _ (by rfl) (w.heap.size + 3) 76 i0 _ 3 48 Try.underlying22 hi0 hz0 hz1 hz2 rfl (by omega) vi L'.length (cellsQ L') (by rfl) (own_below HI2.out.rows.row (below_alloc _ _)) ⟨w2.heap.size, 0, none⟩ 1 1 (q.cells (.slice xa q.items.length xc)) (by rfl) (by rfl) (World.news_of_block (cs := #[.string q.name, .int .i64 q.limit, .slice xa q.items.length xc]) (t := 76) (fr := (0, 0)) (heap_alloc_new w2 _)) (by simp [QD.cells, Value.oneCell']) (by omega) (by unfold maxLen; omega) (by omega) (by simp; omega) (w2.heap.size + 1) (by simp) ?_; intro gg cap w3 hown3 hg3 hat3 hlt3; obtain ⟨t0, t1, t2, t3⟩ := ((HI2.out.out.alloc _).same (hg3.block _ (by simp; omega) (fun e => by have := (HI2.out.rows.foot_lt (.inl e.symm)).1; omega))).b2))
      all_goals
        have hb2' : Below wr.heap.size wr w2 := (below_alloc _ _).trans (Below.mono (B := wr.heap.size + 1) ⟨hb2.os, hb2.tape, hb2.output, hb2.size, fun b hb => hb2.block b (by simpa using hb)⟩ (by omega))
        have RR : ∃ N', EIM w next qs (k + 1) _ _ _ N' := HI0.out.more hlt (HQE.out ▸ hn2.mono (by simp)) hb2' (HQE.out ▸ hown3) hg3 hat3 hlt3
        obtain ⟨N', RR⟩ := RR
        clear hg3 hat3 hlt3 hown3 HI2 hn2 hb2 hb2'
        go_wp2
        go_roundw
        case rel => exact ⟨k + 1, by omega, by go_num, _, _, _, RR⟩
        case measure => simp [intOf]; omega
    · obtain ⟨o0, o1, o2, o3⟩ := hI.out.b2
      obtain ⟨r0, r1, r2, r3⟩ := hI.res.b2
      obtain ⟨xa, xc, rfl, -⟩ := own_shape hI.rows.row
      obtain rfl : k = qs.length := by omega
      have HI : Hid (EIM w next qs qs.length wr (.slice xa L'.length xc) L' N) := hI
      clear hI
      go_wp2
      have hl := HI.out.lt
      refine bodyPost_ret (v := .agg #[.slice xa L'.length xc, .int .i64 next]) (by simp [results, Try.results86, go_sem, *]; done) rfl ⟨_, rfl, ⟨L', N, ?_, ?_, fun b hb => by have := HI.out.hN b hb; omega⟩, ?_⟩
      · have := HI.out.list
        rwa [List.take_of_length_le (Nat.le_refl _)] at this
      · refine (HI.out.rows.lower (by omega)).on (by simp) fun b hb => ?_
        have : w.heap.size + 3 ≤ b := by
          rcases hb with hb | hb
          · exact HI.out.hN b hb
          · exact (HI.out.rows.foot_lt hb).1
        iterate 2 rw [Below.heap_setCell _ _ _ _ (by simp; omega)]
      · iterate 2 refine Below.setCell ?_ (by simp) _
        exact HI.out.bel

set_option maxRecDepth 100000 in
set_option maxHeartbeats 1000000 in
theorem hallOwnH_any (v : Value) (h : HD) (w : World) (hv : SliceQ (Under w.heap.size) w v h.queues) (hsm : smallQ h.queues) :
    Calls Try.prog 55 #[.agg #[v, .int .i64 h.next]] w fun e w' => ∃ vi, e = .returned (.agg #[vi, .int .i64 h.next]) ∧ OwnH w.heap.size w' vi h.queues ∧ Below w.heap.size w w' := by
  have HV : Hid (SliceQ (Under w.heap.size) w v h.queues) := hv
  have HM : Hid (smallQ h.queues) := hsm
  obtain ⟨va, vc, rfl⟩ := hv.shp
  clear hv hsm
  have two : Hid (∀ o1 o2 : Obj, Below w.heap.size w ((w.alloc o1).alloc o2)) := fun o1 o2 => (below_alloc _ _).alloc (by simp) _
  go_enter Try.func55, Try.ntmps55
  go_wp2_with (go_at_call 86; refine (eachOwn_any _ h.next h.queues _ (HV.out.sub fun k hk => ⟨?_, (two.out _ _).block k hk⟩) HM.out).mono ?_; (simp [Under] at hk ⊢; omega); rintro e w1 ⟨vi, rfl, ho1, hb1⟩; obtain ⟨L, N, hL, hr, hn⟩ := ho1; obtain ⟨xa, xc, rfl, -⟩ := own_shape hr.row; obtain ⟨b0, b1, b2, b3⟩ := ((Blk.new (w.alloc _) _ 24).below hb1 (by simp)).b2; simp only [World.size_alloc] at b0 b1 b2 b3)
  refine bodyPost_ret (v := .agg #[.slice xa L.length xc, .int .i64 h.next]) (by simp [results, Try.results55, go_sem, *]; done) rfl ⟨_, rfl, ⟨L, N, hL, ?_, fun b hb => by have := hn b hb; simp at this; omega⟩, ?_⟩
  · refine (hr.lower (by simp; omega)).on (by simp) fun b hb => ?_
    have : w.heap.size + 2 ≤ b := by
      rcases hb with hb | hb
      · have := hn b hb; simpa using this
      · have := (hr.foot_lt hb).1; simpa using this
    iterate 2 rw [Below.heap_setCell _ _ _ _ (by simp; omega)]
  · iterate 2 refine Below.setCell ?_ (by simp) _
    exact (two.out _ _).trans (hb1.mono (by simp; omega))
end Go.Proofs.Ytkddkpdfeeikhaa
