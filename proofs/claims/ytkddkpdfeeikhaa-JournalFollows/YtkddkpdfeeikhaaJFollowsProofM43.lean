/-
  RefMake; RefDrop: texts laid together.
-/
import Derived.Test.YtkddkpdfeeikhaaJFollowsProofM23
import Derived.Test.YtkddkpdfeeikhaaJFollowsProofM36
/-
  tgref1.MakeQueue.
-/
namespace Go.Proofs.Ytkddkpdfeeikhaa
open Go.RowKit
set_option linter.unusedVariables false
set_option linter.unusedSimpArgs false

attribute [local go_sem ↓] Go.wp_at_zero Go.wp_at_succ

/-- What is left of a world below B. -/
structure Kp (B : Nat) (w w' : World) : Prop where
  os : w'.os = w.os
  tape : w'.tape = w.tape
  output : w'.output = w.output
  size : w.heap.size ≤ w'.heap.size
  block : ∀ b, b < B → w'.heap[b]? = w.heap[b]?
theorem Kp.below {w w' : World} {B : Nat} (h : Kp B w w') : Below B w w' := ⟨h.os, h.tape, h.output, h.size, h.block⟩

theorem refuse_make {h : HD} {name : ByteArray} {limit : Int} {c : Int} (hw : wrongMakeF h name limit = c) (hc : c ≠ 0) : makeF h name limit = refuse c := by
  unfold makeF; rw [hw, if_neg hc]

set_option maxRecDepth 100000 in
set_option maxHeartbeats 3200000 in
theorem refMake_any (S : Nat → Prop) (v : Value) (h : HD) (name : ByteArray) (limit : Int) (w : World) (hS : ∀ b, S b → b < w.heap.size) (hv : SliceQ S w v h.queues) (hlen : h.queues.length ≤ 4194304) (hs : name.size ≤ maxLen) :
    Calls Try.prog 28 #[.agg #[v, .int .i64 h.next], .string name, .int .i64 limit] w fun e w' => AnsS S (makeF h name limit) w e w' ∧ Below w.heap.size w w' := by
  obtain ⟨i0, hi0, hz0, hz1, hz2⟩ := info_parts info25
  have HV : Hid (SliceQ S w v h.queues) := hv
  have HSS : Hid (∀ b, S b → b < w.heap.size) := hS
  obtain ⟨va, vc, rfl, -⟩ := hv.shape
  clear hv hS
  have two : Hid (∀ o1 o2 : Obj, Below w.heap.size w ((w.alloc o1).alloc o2)) := fun o1 o2 => (below_alloc _ _).alloc (by simp) _
  cases hkey : keyB name
  · rw [refuse_make (c := 7) (by simp [wrongMakeF, hkey]) (by omega)]
    have HKY : Hid (keyB name = false) := hkey
    clear hkey
    go_enter Try.func28, Try.ntmps28
    go_wp2_with (go_at_call 49; refine (refKey_is name _ hs).mono ?_; rw [HKY.out]; rintro e w1 ⟨rfl, hb1⟩; have hk1 := (Blk.new (w.alloc _) [.slice none 0 0, .int .i64 0] 24).below hb1 (by simp); simp only [World.size_alloc] at hk1; obtain ⟨b0, b1, b2, b3⟩ := hk1.b2; have HB1 : Hid (Below w.heap.size w w1) := (two.out _ _).trans (hb1.mono (by simp; omega)); clear hb1 hk1)
    refine bodyPost_ret (v := .tuple #[.agg #[.slice none 0 0, .int .i64 0], .slice none 0 0, .int .i64 7]) (by simp [results, Try.results28, go_sem, *]; done) rfl ⟨AnsS.refuse _ _ _ _, ?_⟩
    iterate 2 refine Below.setCell ?_ (by simp) _
    exact HB1.out
  · have HKY : Hid (keyB name = true) := hkey
    rcases idxQ_cases name h.queues with ⟨hd, -⟩ | ⟨k, hk, hd, hnm, -⟩
    · have HI : Hid (idxQ name h.queues = -1) := hd
      by_cases hl1 : limit < 1
      · rw [refuse_make (c := 3) (by simp [wrongMakeF, hkey, hd, hl1]) (by omega)]
        clear hkey hd
        go_enter Try.func28, Try.ntmps28
        go_wp2_with (first
          | (go_at_call 49; refine (refKey_is name _ hs).mono ?_; rw [HKY.out]; rintro e w1 ⟨rfl, hb1⟩; have hk0 := ((Blk.new w [.slice va h.queues.length vc, .int .i64 h.next] 24).alloc _).below hb1 (by simp; omega); have hk1 := (Blk.new (w.alloc _) [.slice none 0 0, .int .i64 0] 24).below hb1 (by simp); simp only [World.size_alloc] at hk0 hk1; have HKB : Hid (Blk w1 (w.heap.size + 1) [.slice none 0 0, .int .i64 0]) := hk1; obtain ⟨a0, a1, a2, a3⟩ := hk0.b2; have HB1 : Hid (Below w.heap.size w w1) := (two.out _ _).trans (hb1.mono (by simp; omega)); clear hb1 hk1 hk0)
          | (go_at_call 56; refine (refFind_any name _ h.next h.queues _ (HV.out.sub fun b hb => ⟨Nat.lt_of_lt_of_le (HSS.out b hb) HB1.out.size, HB1.out.block b (HSS.out b hb)⟩)).mono ?_; rw [HI.out]; rintro e w2 ⟨rfl, hb2⟩; have hk1 := HKB.out.below hb2 HKB.out.lt; obtain ⟨b0, b1, b2, b3⟩ := hk1.b2; have HB2 : Hid (Below w.heap.size w w2) := HB1.out.trans (hb2.mono HB1.out.size); clear hb2 hk1))
        refine bodyPost_ret (v := .tuple #[.agg #[.slice none 0 0, .int .i64 0], .slice none 0 0, .int .i64 3]) (by simp [results, Try.results28, go_sem, *]; done) rfl ⟨AnsS.refuse _ _ _ _, ?_⟩
        iterate 2 refine Below.setCell ?_ (by simp) _
        exact HB2.out
      · by_cases hl2 : 8 < limit
        · rw [refuse_make (c := 3) (by simp [wrongMakeF, hkey, hd, hl2]) (by omega)]
          clear hkey hd
          go_enter Try.func28, Try.ntmps28
          go_wp2_with (first
            | (go_at_call 49; refine (refKey_is name _ hs).mono ?_; rw [HKY.out]; rintro e w1 ⟨rfl, hb1⟩; have hk0 := ((Blk.new w [.slice va h.queues.length vc, .int .i64 h.next] 24).alloc _).below hb1 (by simp; omega); have hk1 := (Blk.new (w.alloc _) [.slice none 0 0, .int .i64 0] 24).below hb1 (by simp); simp only [World.size_alloc] at hk0 hk1; have HKB : Hid (Blk w1 (w.heap.size + 1) [.slice none 0 0, .int .i64 0]) := hk1; obtain ⟨a0, a1, a2, a3⟩ := hk0.b2; have HB1 : Hid (Below w.heap.size w w1) := (two.out _ _).trans (hb1.mono (by simp; omega)); clear hb1 hk1 hk0)
            | (go_at_call 56; refine (refFind_any name _ h.next h.queues _ (HV.out.sub fun b hb => ⟨Nat.lt_of_lt_of_le (HSS.out b hb) HB1.out.size, HB1.out.block b (HSS.out b hb)⟩)).mono ?_; rw [HI.out]; rintro e w2 ⟨rfl, hb2⟩; have hk1 := HKB.out.below hb2 HKB.out.lt; obtain ⟨b0, b1, b2, b3⟩ := hk1.b2; have HB2 : Hid (Below w.heap.size w w2) := HB1.out.trans (hb2.mono HB1.out.size); clear hb2 hk1))
          refine bodyPost_ret (v := .tuple #[.agg #[.slice none 0 0, .int .i64 0], .slice none 0 0, .int .i64 3]) (by simp [results, Try.results28, go_sem, *]; done) rfl ⟨AnsS.refuse _ _ _ _, ?_⟩
          iterate 2 refine Below.setCell ?_ (by simp) _
          exact HB2.out
        · by_cases hl3 : (4 : Int) ≤ (h.queues.length : Int)
          · rw [refuse_make (c := 5) (by simp [wrongMakeF, hkey, hd, hl1, hl2]; omega) (by omega)]
            clear hkey hd
            go_enter Try.func28, Try.ntmps28
            go_wp2_with (first
              | (go_at_call 49; refine (refKey_is name _ hs).mono ?_; rw [HKY.out]; rintro e w1 ⟨rfl, hb1⟩; have hk0 := ((Blk.new w [.slice va h.queues.length vc, .int .i64 h.next] 24).alloc _).below hb1 (by simp; omega); have hk1 := (Blk.new (w.alloc _) [.slice none 0 0, .int .i64 0] 24).below hb1 (by simp); simp only [World.size_alloc] at hk0 hk1; have HKB : Hid (Blk w1 w.heap.size [.slice va h.queues.length vc, .int .i64 h.next] ∧ Blk w1 (w.heap.size + 1) [.slice none 0 0, .int .i64 0]) := ⟨hk0, hk1⟩; obtain ⟨a0, a1, a2, a3⟩ := hk0.b2; have HB1 : Hid (Below w.heap.size w w1) := (two.out _ _).trans (hb1.mono (by simp; omega)); clear hb1 hk1 hk0)
              | (go_at_call 56; refine (refFind_any name _ h.next h.queues _ (HV.out.sub fun b hb => ⟨Nat.lt_of_lt_of_le (HSS.out b hb) HB1.out.size, HB1.out.block b (HSS.out b hb)⟩)).mono ?_; rw [HI.out]; rintro e w2 ⟨rfl, hb2⟩; have hk0 := HKB.out.1.below hb2 HKB.out.1.lt; have hk1 := HKB.out.2.below hb2 HKB.out.2.lt; obtain ⟨c0, c1, c2, c3⟩ := hk0.b2; obtain ⟨b0, b1, b2, b3⟩ := hk1.b2; have HB2 : Hid (Below w.heap.size w w2) := HB1.out.trans (hb2.mono HB1.out.size); clear hb2 hk1 hk0))
            refine bodyPost_ret (v := .tuple #[.agg #[.slice none 0 0, .int .i64 0], .slice none 0 0, .int .i64 5]) (by simp [results, Try.results28, go_sem, *]; done) rfl ⟨AnsS.refuse _ _ _ _, ?_⟩
            iterate 2 refine Below.setCell ?_ (by simp) _
            exact HB2.out
          · have hmk : makeF h name limit = (⟨h.queues ++ [⟨name, limit, []⟩], h.next⟩, [⟨1, name, limit, 0, nN⟩], 0) := by
              unfold makeF; rw [if_pos (by simp [wrongMakeF, hkey, hd, hl1, hl2]; omega)]
            rw [hmk]
            clear hkey hd hmk
            obtain ⟨L, hLe, hL, hN⟩ := HV.out
            have hLl : h.queues.length = L.length := by rw [← hLe]; simp
            rw [hLl] at hl3 hlen HV ⊢
            have HL : Hid (SliceV S w (.slice va L.length vc) L.length (cellsQ L)) := by rw [hLl] at hL; exact hL
            have HN : Hid (L.map Prod.fst = h.queues ∧ ∀ x ∈ L, SliceI S w x.2 x.1.items) := ⟨hLe, hN⟩
            have HO : Hid (∀ u ∈ cellsQ L, u.oneCell' = true) := cellsQ_one L hN
            clear hLe hL hN hLl
            go_enter Try.func28, Try.ntmps28
            have ny : Hid True := trivial
            go_wp2_with (first
              | (go_at_call 49; refine (refKey_is name _ hs).mono ?_; rw [HKY.out]; rintro e w1 ⟨rfl, hb1⟩; have hk0 := ((Blk.new w [.slice va L.length vc, .int .i64 h.next] 24).alloc _).below hb1 (by simp; omega); have hk1 := (Blk.new (w.alloc _) [.slice none 0 0, .int .i64 0] 24).below hb1 (by simp); simp only [World.size_alloc] at hk0 hk1; have HKB : Hid (Blk w1 w.heap.size [.slice va L.length vc, .int .i64 h.next] ∧ Blk w1 (w.heap.size + 1) [.slice none 0 0, .int .i64 0]) := ⟨hk0, hk1⟩; obtain ⟨a0, a1, a2, a3⟩ := hk0.b2; have HB1 : Hid (Below w.heap.size w w1) := (two.out _ _).trans (hb1.mono (by simp; omega)); clear hb1 hk1 hk0)
              | (go_at_call 56; refine (refFind_any name _ h.next h.queues _ (HV.out.sub fun b hb => ⟨Nat.lt_of_lt_of_le (HSS.out b hb) HB1.out.size, HB1.out.block b (HSS.out b hb)⟩)).mono ?_; rw [HI.out]; rintro e w2 ⟨rfl, hb2⟩; have hk0 := HKB.out.1.below hb2 HKB.out.1.lt; have hk1 := HKB.out.2.below hb2 HKB.out.2.lt; have HKC : Hid (Blk w2 w.heap.size [.slice va L.length vc, .int .i64 h.next] ∧ Blk w2 (w.heap.size + 1) [.slice none 0 0, .int .i64 0]) := ⟨hk0, hk1⟩; obtain ⟨c0, c1, c2, c3⟩ := hk0.b2; have HB2 : Hid (Below w.heap.size w w2) := HB1.out.trans (hb2.mono HB1.out.size); have hz2' : w.heap.size + 2 ≤ w2.heap.size := (by have := HKC.out.2.lt; omega); clear hb2 hk1 hk0 HKB)
              | (at_builtin; clear ny; refine wpList_appV rfl (.tmp 31) (.tmp 33) 22 rfl 76 i0 _ 3 48 Try.underlying22 hi0 hz0 hz1 hz2 rfl (by omega) w2.heap.size (.slice (some ⟨w2.heap.size, 0, none⟩) 0 0) 0 [] rfl (emptyQ_own _ _ _ (by simp) (by omega)) S (.slice va L.length vc) L.length (cellsQ L) rfl (HL.out.sub fun b hb => ⟨hb, (Below.heap_alloc _ _ _ (by have := HSS.out b hb; omega)).trans (HB2.out.block b (HSS.out b hb))⟩) (cellsQ_len L) HO.out (by unfold maxLen; omega) (by omega) (by simp) ?_; intro ao cap w3 ho3 hg3 hm3; have HO3 : Hid (w3.ownsRow w2.heap.size 76 3 (.slice ao L.length cap) L.length (cellsQ L) ∧ Kp w2.heap.size w2 w3) := ⟨by simpa using ho3, hg3.os, hg3.tape, hg3.output, by have := hg3.size; simp at this; omega, fun b hb => (hg3.block b (by simp; omega) (fun e => by simp only [Value.ownBlock, Option.some.injEq] at e; omega)).trans (Below.heap_alloc _ _ _ hb)⟩; have hz3' := HO3.out.2.size; clear ho3 hg3 hm3)
              | (at_builtin; refine wpList_appV rfl (.tmp 34) (.tmp 38) 22 rfl 76 i0 _ 3 48 Try.underlying22 hi0 hz0 hz1 hz2 rfl (by omega) w2.heap.size (.slice ao L.length cap) L.length (cellsQ L) rfl (own_below HO3.out.1 (below_alloc _ _)) (fun b => b = w3.heap.size) (.slice (some ⟨w3.heap.size, 0, none⟩) 1 1) 1 (QD.cells ⟨name, limit, []⟩ (.slice none 0 0)) rfl (row_any' _ _ _ _ _ rfl (by simp [maxLen])) rfl (by simp [QD.cells, Value.oneCell']) (by unfold maxLen; omega) (by omega) (by simp <;> omega) ?_; intro ao2 cap2 w4 ho4 hg4 hm4; have HO4 : Hid (w4.ownsRow w2.heap.size 76 3 (.slice ao2 (L.length + 1) cap2) (L.length + 1) (cellsQ L ++ QD.cells ⟨name, limit, []⟩ (.slice none 0 0)) ∧ Kp w2.heap.size w2 w4) := ⟨ho4, hg4.os.trans HO3.out.2.os, hg4.tape.trans HO3.out.2.tape, hg4.output.trans HO3.out.2.output, by have := hg4.size; simp at this; omega, fun b hb => (hg4.block b (by simp; omega) (fun e => by have := (HO3.out.1.lt b e.symm).1; omega)).trans ((Below.heap_alloc _ _ _ (by omega)).trans (HO3.out.2.block b hb))⟩; have hz4' := HO4.out.2.size; have hk0 := HKC.out.1.same (HO4.out.2.block _ HKC.out.1.lt); have hk1 := HKC.out.2.same (HO4.out.2.block _ HKC.out.2.lt); obtain ⟨d0, d1, d2, d3⟩ := hk0.b2; obtain ⟨e0, e1, e2, e3⟩ := hk1.b2; have HE4 : Hid (Blk w4 (w.heap.size + 1) [.slice none 0 0, .int .i64 0]) := hk1; clear ho4 hg4 hm4 hk0 hk1 c0 c1 c2 c3 a0 a1 a2 a3))
            obtain ⟨W5, hW5⟩ : ∃ W5, W5 = w4.setCell ⟨w.heap.size, 0, none⟩ (.slice ao2 (L.length + 1) cap2) := ⟨_, rfl⟩
            rw [← hW5]
            have hz5 : W5.heap.size = w4.heap.size := by rw [hW5]; simp
            have hx5 : ∀ b, b ≠ w.heap.size → W5.heap[b]? = w4.heap[b]? := fun b hb => by rw [hW5, Below.heap_setCell _ _ _ _ hb]
            have hR5 : Blk W5 (w.heap.size + 1) [.slice none 0 0, .int .i64 0] := HE4.out.same (hx5 _ (by omega))
            have hB5 : Below w.heap.size w W5 := by
              rw [hW5]
              exact (HB2.out.trans (HO4.out.2.below.mono (by omega))).setCell (by simp) _
            have hQ5 : SliceQ (fun b => S b ∨ (w2.heap.size ≤ b ∧ b < w4.heap.size)) W5 (.slice ao2 (L.length + 1) cap2) (h.queues ++ [⟨name, limit, []⟩]) := by
              refine ⟨L ++ [(⟨name, limit, []⟩, .slice none 0 0)], by rw [List.map_append, HN.out.1]; rfl, ?_, fun x hx => ?_⟩
              · rw [List.length_append, cellsQ_append]
                refine SliceV.sub (own_slice HO4.out.1) fun b hb => ?_
                have h1 := HO4.out.1.lt b hb
                exact ⟨.inr h1, hx5 b (by omega)⟩
              · rw [List.mem_append, List.mem_singleton] at hx
                rcases hx with hx | rfl
                · exact (HN.out.2 x hx).sub fun b hb => ⟨.inl hb, hB5.block b (HSS.out b hb)⟩
                · exact nilQ _ _
            have hT5 : ∀ b, (S b ∨ (w2.heap.size ≤ b ∧ b < w4.heap.size)) → (S b ∨ w.heap.size ≤ b) ∧ b < W5.heap.size ∧ b ≠ w.heap.size + 1 := fun b hb => by
              rcases hb with hb | hb
              · have := HSS.out b hb
                exact ⟨.inl hb, by omega, by omega⟩
              · exact ⟨.inr (by omega), by omega, by omega⟩
            have F := Fn.A hR5 (.slice ao2 (L.length + 1) cap2) (.int .i64 h.next) (.cells #[.int .i64 1, .string name, .int .i64 limit, .int .i64 0, .slice none 0 0, .slice none 0 0] 30)
            obtain ⟨wF, hF⟩ : ∃ wF, wF = ((W5.setCell ⟨w.heap.size + 1, 0, none⟩ (.slice ao2 (L.length + 1) cap2)).setCell ⟨w.heap.size + 1, 1, none⟩ (.int .i64 h.next)).alloc (.cells #[.int .i64 1, .string name, .int .i64 limit, .int .i64 0, .slice none 0 0, .slice none 0 0] 30) := ⟨_, rfl⟩
            have hE : Blk wF w4.heap.size (ED.cells ⟨1, name, limit, 0, nN⟩ (.slice none 0 0, .slice none 0 0)) := by
              have := Blk.new ((W5.setCell ⟨w.heap.size + 1, 0, none⟩ (.slice ao2 (L.length + 1) cap2)).setCell ⟨w.heap.size + 1, 1, none⟩ (.int .i64 h.next)) [.int .i64 1, .string name, .int .i64 limit, .int .i64 0, .slice none 0 0, .slice none 0 0] 30
              simp only [World.size_setCell] at this
              rw [← hF, hz5] at this
              exact this
            rw [← hF] at F
            rw [← hF]
            have hA := Fn.ans (S := S) (hd := ⟨h.queues ++ [⟨name, limit, []⟩], h.next⟩) F (by omega) hB5 hQ5 hT5 (entry_one ⟨1, name, limit, 0, nN⟩ _ hE (.inr ⟨by omega, hE.lt⟩) (NoteIs.nil _ _))
            obtain ⟨f0, f1, f2, f3⟩ := F.box.b2
            clear hF hT5 hE hz5 hx5 hW5 d0 d1 e0 e1
            exact bodyPost_ret (v := .tuple #[.agg #[.slice ao2 (L.length + 1) cap2, .int .i64 h.next], .slice (some ⟨w4.heap.size, 0, none⟩) 1 1, .int .i64 0]) (by simp [results, Try.results28, go_sem, *]; done) rfl hA
    · rw [refuse_make (c := 7) (by simp [wrongMakeF, hkey, hd]) (by omega)]
      have HI : Hid (idxQ name h.queues = (k : Int)) := hd
      clear hkey hd
      go_enter Try.func28, Try.ntmps28
      go_wp2_with (first
        | (go_at_call 49; refine (refKey_is name _ hs).mono ?_; rw [HKY.out]; rintro e w1 ⟨rfl, hb1⟩; have hk0 := ((Blk.new w [.slice va h.queues.length vc, .int .i64 h.next] 24).alloc _).below hb1 (by simp; omega); have hk1 := (Blk.new (w.alloc _) [.slice none 0 0, .int .i64 0] 24).below hb1 (by simp); simp only [World.size_alloc] at hk0 hk1; have HKB : Hid (Blk w1 (w.heap.size + 1) [.slice none 0 0, .int .i64 0]) := hk1; obtain ⟨a0, a1, a2, a3⟩ := hk0.b2; have HB1 : Hid (Below w.heap.size w w1) := (two.out _ _).trans (hb1.mono (by simp; omega)); clear hb1 hk1 hk0)
        | (go_at_call 56; refine (refFind_any name _ h.next h.queues _ (HV.out.sub fun b hb => ⟨Nat.lt_of_lt_of_le (HSS.out b hb) HB1.out.size, HB1.out.block b (HSS.out b hb)⟩)).mono ?_; rw [HI.out]; rintro e w2 ⟨rfl, hb2⟩; have hk1 := HKB.out.below hb2 HKB.out.lt; obtain ⟨b0, b1, b2, b3⟩ := hk1.b2; have HB2 : Hid (Below w.heap.size w w2) := HB1.out.trans (hb2.mono HB1.out.size); clear hb2 hk1))
      refine bodyPost_ret (v := .tuple #[.agg #[.slice none 0 0, .int .i64 0], .slice none 0 0, .int .i64 7]) (by simp [results, Try.results28, go_sem, *]; done) rfl ⟨AnsS.refuse _ _ _ _, ?_⟩
      iterate 2 refine Below.setCell ?_ (by simp) _
      exact HB2.out
end Go.Proofs.Ytkddkpdfeeikhaa

/-
  tgref1.DropQueue.
-/
namespace Go.Proofs.Ytkddkpdfeeikhaa
open Go.RowKit
set_option linter.unusedVariables false
set_option linter.unusedSimpArgs false

attribute [local go_sem ↓] Go.wp_at_zero Go.wp_at_succ

theorem cellsQ_take (L : QuL) (k : Nat) (hk : k ≤ L.length) : (cellsQ L).take (k * 3) = cellsQ (L.take k) := flat_take _ 3 (fun _ => rfl) L k hk
theorem cellsQ_drop (L : QuL) (k : Nat) (hk : k ≤ L.length) : (cellsQ L).drop (k * 3) = cellsQ (L.drop k) := flat_drop _ 3 (fun _ => rfl) L k hk

theorem sliceQ_take {S : Nat → Prop} {w : World} {a : Option Addr} {n cap : Nat} {L : QuL} (h : SliceV S w (.slice a n cap) n (cellsQ L)) (hn : n = L.length) (k : Nat) (hk : k ≤ n) : SliceV S w (.slice a k cap) k (cellsQ (L.take k)) := by
  obtain ⟨a', cap', e, h1, h2, h3, h4⟩ := h
  simp only [Value.slice.injEq] at e
  obtain ⟨rfl, -, rfl⟩ := e
  refine ⟨a, cap, rfl, by omega, h2, h3, fun i hi => ?_⟩
  have hl := cellsQ_len L
  rw [cellsQ_len, List.length_take] at hi
  obtain ⟨b, off, e, hs, hc⟩ := h4 i (by omega)
  refine ⟨b, off, e, hs, ?_⟩
  rw [hc]
  congr 1
  have e2 := cellsQ_take L k (by omega)
  simp only [← e2, List.getElem_take]

theorem sliceQ_drop {S : Nat → Prop} {w : World} {b off n cap : Nat} {L : QuL} (h : SliceV S w (.slice (some ⟨b, off, none⟩) n cap) n (cellsQ L)) (hn : n = L.length) (k : Nat) (hk : k ≤ n) (A : Addr) (hA : (if cap = k then some (⟨b, off, none⟩ : Addr) else some ⟨b, off + k * 3, none⟩) = some A) : SliceV S w (.slice (some A) (n - k) (cap - k)) (n - k) (cellsQ (L.drop k)) := by
  obtain ⟨a', cap', e, h1, h2, h3, h4⟩ := h
  simp only [Value.slice.injEq] at e
  obtain ⟨rfl, -, rfl⟩ := e
  refine ⟨some A, cap - k, rfl, by omega, by unfold maxLen at *; omega, fun h => by simp at h, fun i hi => ?_⟩
  rw [cellsQ_len, List.length_drop] at hi
  have hne : ¬ cap = k := by omega
  rw [if_neg hne, Option.some.injEq] at hA
  subst hA
  have hl := cellsQ_len L
  obtain ⟨b', off', e, hs, hc⟩ := h4 (k * 3 + i) (by omega)
  simp only [Option.some.injEq, Addr.mk.injEq, and_true] at e
  obtain ⟨rfl, rfl⟩ := e
  refine ⟨b, off + k * 3, rfl, hs, ?_⟩
  rw [Nat.add_assoc, hc]
  congr 1
  have e2 := cellsQ_drop L k (by omega)
  simp only [← e2, List.getElem_drop]

set_option maxRecDepth 100000 in
set_option maxHeartbeats 3200000 in
theorem refDrop_any (S : Nat → Prop) (v : Value) (h : HD) (name : ByteArray) (w : World) (hS : ∀ b, S b → b < w.heap.size) (hv : SliceQ S w v h.queues) (hlen : h.queues.length ≤ 4194304) :
    Calls Try.prog 29 #[.agg #[v, .int .i64 h.next], .string name] w fun e w' => AnsS S (faceF h name (fun k q => dropF h k q)) w e w' ∧ Below w.heap.size w w' := by
  obtain ⟨i0, hi0, hz0, hz1, hz2⟩ := info_parts info25
  have HV : Hid (SliceQ S w v h.queues) := hv
  have HSS : Hid (∀ b, S b → b < w.heap.size) := hS
  obtain ⟨va, vc, rfl, hc1, hc2, -⟩ := hv.shape
  have two : Hid (∀ o1 o2 : Obj, Below w.heap.size w ((w.alloc o1).alloc o2)) := fun o1 o2 => (below_alloc _ _).alloc (by simp) _
  rcases idxQ_cases name h.queues with ⟨hd, -⟩ | ⟨k, hk, hd, hnm, -⟩
  · rw [faceF_none hd]
    have HI : Hid (idxQ name h.queues = -1) := hd
    clear hd hv hS
    go_enter Try.func29, Try.ntmps29
    go_wp2_with (go_at_call 56; refine (refFind_any name _ h.next h.queues _ (HV.out.sub fun b hb => ⟨?_, (two.out _ _).block b (HSS.out b hb)⟩)).mono ?_; (have := HSS.out b hb; simp [Under]; omega); rw [HI.out]; rintro e w1 ⟨rfl, hb1⟩; have hk2 := (Blk.new (w.alloc _) [.slice none 0 0, .int .i64 0] 24).below hb1 (by simp); simp only [World.size_alloc] at hk2; obtain ⟨c0, c1, c2, c3⟩ := hk2.b2; have HB1 : Hid (Below w.heap.size w w1) := (two.out _ _).trans (hb1.mono (by simp; omega)); clear hb1 hk2)
    refine bodyPost_ret (v := .tuple #[.agg #[.slice none 0 0, .int .i64 0], .slice none 0 0, .int .i64 6]) (by simp [results, Try.results29, go_sem, *]; done) rfl ⟨AnsS.refuse _ _ _ _, ?_⟩
    iterate 2 refine Below.setCell ?_ (by simp) _
    exact HB1.out
  · rw [faceF_some hd hk]
    have hfl : failF (dropF h k h.queues[k]) = (⟨h.queues.eraseIdx k, h.next⟩, [⟨2, name, 0, 0, nN⟩], 0) := by simp [failF, dropF, hnm]
    rw [hfl]
    have HI : Hid (idxQ name h.queues = (k : Int)) := hd
    obtain ⟨L, hLe, hL, hN⟩ := hv
    have hLl : h.queues.length = L.length := by rw [← hLe]; simp
    obtain ⟨m, hm⟩ : ∃ m, L.length = k + m + 1 := ⟨L.length - k - 1, by omega⟩
    rw [hLl, hm] at hk hc1 hlen HV ⊢
    rw [hLl, hm] at hL
    have HL : Hid (SliceV S w (.slice va (k + m + 1) vc) (k + m + 1) (cellsQ L)) := by rw [← hm] at hL ⊢; exact hL
    have HN : Hid (L.map Prod.fst = h.queues ∧ ∀ x ∈ L, SliceI S w x.2 x.1.items) := ⟨hLe, hN⟩
    have HO : Hid (∀ u ∈ cellsQ L, u.oneCell' = true) := cellsQ_one L hN
    have HMM : Hid (L.length = k + m + 1) := hm
    obtain ⟨b, off, rfl, -⟩ : ∃ b off, va = some ⟨b, off, none⟩ ∧ True := by
      obtain ⟨_, _, e, _, _, _, h4⟩ := HL.out
      obtain ⟨b, off, e2, -⟩ := h4 0 (by rw [cellsQ_len]; omega)
      simp only [Value.slice.injEq] at e
      exact ⟨b, off, e.1.trans e2, trivial⟩
    obtain ⟨A, hA⟩ : ∃ A : Addr, (if vc = k + 1 then some (⟨b, off, none⟩ : Addr) else some ⟨b, off + (k + 1) * 3, none⟩) = some A := by
      split <;> exact ⟨_, rfl⟩
    have hT : Hid (∀ u ∈ cellsQ (L.take k), u.oneCell' = true) := fun u hu => HO.out u (List.mem_of_mem_take (by rw [cellsQ_take L k (by have := HMM.out; omega)]; exact hu))
    have hD : Hid (∀ u ∈ cellsQ (L.drop (k + 1)), u.oneCell' = true) := fun u hu => HO.out u (List.mem_of_mem_drop (by rw [cellsQ_drop L (k + 1) (by have := HMM.out; omega)]; exact hu))
    have HLT : Hid ((cellsQ (L.take k)).length = k * 3 ∧ (cellsQ (L.drop (k + 1))).length = m * 3) := by
      have := HMM.out
      refine ⟨by rw [cellsQ_len, List.length_take]; omega, by rw [cellsQ_len, List.length_drop]; omega⟩
    clear hd hfl hLe hL hN hLl hm hS hnm
    have hkc : k ≤ vc := by omega
    have hkc1 : k + 1 ≤ vc := by omega
    have hnn : (0 : Int) ≤ (k : Int) + 1 := by omega
    have hnmm : (k : Int) ≤ (k : Int) + (m : Int) := by omega
    have hn3 : (k : Int) + 1 ≤ (k : Int) + (m : Int) + 1 := by omega
    have hn4 : (k : Int) + 1 ≤ ((k + m + 1 : Nat) : Int) := by omega
    have hn5 : (k : Int) ≤ ((k + m + 1 : Nat) : Int) := by omega
    have hn6 : (k : Int) + 1 ≤ (vc : Int) := by omega
    have hwr : IntKind.i64.wrap ((k : Int) + 1) = (k : Int) + 1 := by rw [IntKind.wrap_i64]; omega
    have htn : ((k : Int) + 1).toNat = k + 1 := by omega
    unfold maxLen at hc2
    go_enter Try.func29, Try.ntmps29
    go_upto_region 4 with (go_at_call 56; refine (refFind_any name _ h.next h.queues _ (HV.out.sub fun b hb => ⟨?_, (two.out _ _).block b (HSS.out b hb)⟩)).mono ?_; (have := HSS.out b hb; simp [Under]; omega); rw [HI.out]; rintro e w1 ⟨rfl, hb1⟩; have hk0 := ((Blk.new w [.slice (some ⟨b, off, none⟩) (k + m + 1) vc, .int .i64 h.next] 24).alloc _).below hb1 (by simp; omega); have hk1 := (Blk.new (w.alloc _) [.slice none 0 0, .int .i64 0] 24).below hb1 (by simp); simp only [World.size_alloc] at hk0 hk1; have HK : Hid (Blk w1 w.heap.size [.slice (some ⟨b, off, none⟩) (k + m + 1) vc, .int .i64 h.next] ∧ Blk w1 (w.heap.size + 1) [.slice none 0 0, .int .i64 0]) := ⟨hk0, hk1⟩; have HB1 : Hid (Below w.heap.size w w1) := (two.out _ _).trans (hb1.mono (by simp; omega)); clear hb1 hk0 hk1)
    obtain ⟨x0, x1, x2, x3⟩ := HK.out.1.b2
    obtain ⟨c0, c1, c2, c3⟩ := HK.out.2.b2
    have n1 : w1.heap.size ≠ w.heap.size := by omega
    have ny : Hid True := trivial
    go_region_law (first
      | (clear ny; refine step_appV (by rfl) _ _ 22 (by rfl) 76 i0 _ 3 48 Try.underlying22 hi0 hz0 hz1 hz2 rfl (by omega) w1.heap.size (.slice (some ⟨w1.heap.size, 0, none⟩) 0 0) 0 [] (by rfl) (emptyQ_own _ _ _ (by simp) (by omega)) S (.slice (some ⟨b, off, none⟩) k vc) k (cellsQ (L.take k)) (by rfl) (sliceQ_take (SliceV.sub HL.out (fun i hi => ⟨hi, (Below.heap_alloc _ _ _ (by have := HSS.out i hi; omega)).trans (HB1.out.block i (HSS.out i hi))⟩)) HMM.out.symm k (by omega)) HLT.out.1 hT.out (by unfold maxLen; omega) (by omega) (by simp) ?_; intro ao cap w2 ho2 hg2 hm2; have HO2 : Hid (w2.ownsRow w1.heap.size 76 3 (.slice ao k cap) k (cellsQ (L.take k)) ∧ Below w1.heap.size w1 w2) := ⟨by simpa using ho2, hg2.os, hg2.tape, hg2.output, by have := hg2.size; simp at this; omega, fun i hi => (hg2.block i (by simp; omega) (fun e => by simp only [Value.ownBlock, Option.some.injEq] at e; omega)).trans (Below.heap_alloc _ _ _ hi)⟩; have q0 := bel_c HO2.out.2 x3 x0; have hz2' := HO2.out.2.size; clear ho2 hg2 hm2)
      | (refine step_appV (by rfl) _ _ 22 (by rfl) 76 i0 _ 3 48 Try.underlying22 hi0 hz0 hz1 hz2 rfl (by omega) w1.heap.size (.slice ao k cap) k (cellsQ (L.take k)) (by rfl) HO2.out.1 S (.slice (some A) m (vc - (k + 1))) m (cellsQ (L.drop (k + 1))) (by rfl) (by have h := sliceQ_drop (SliceV.sub (T := S) HL.out (fun i hi => ⟨hi, (HO2.out.2.block i (by have := HSS.out i hi; omega)).trans (HB1.out.block i (HSS.out i hi))⟩)) HMM.out.symm (k + 1) (by omega) A hA; rw [show k + m + 1 - (k + 1) = m by omega] at h; exact h) HLT.out.2 hD.out (by unfold maxLen; omega) (by omega) (by omega) ?_; intro ao2 cap2 w3 ho3 hg3 hm3; have HO3 : Hid (w3.ownsRow w1.heap.size 76 3 (.slice ao2 (k + m) cap2) (k + m) (cellsQ (L.take k) ++ cellsQ (L.drop (k + 1))) ∧ Below w1.heap.size w1 w3) := ⟨ho3, hg3.os.trans HO2.out.2.os, hg3.tape.trans HO2.out.2.tape, hg3.output.trans HO2.out.2.output, Nat.le_trans hz2' hg3.size, fun i hi => (hg3.block i (by omega) (fun e => by have := (HO2.out.1.lt i e.symm).1; omega)).trans (HO2.out.2.block i hi)⟩; have hk0 := HK.out.1.below HO3.out.2 HK.out.1.lt; have hk1 := HK.out.2.below HO3.out.2 HK.out.2.lt; obtain ⟨d0, d1, d2, d3⟩ := hk0.b2; obtain ⟨e0, e1, e2, e3⟩ := hk1.b2; have HE3 : Hid (Blk w3 (w.heap.size + 1) [.slice none 0 0, .int .i64 0]) := hk1; have hz3' := HO3.out.2.size; clear ho3 hg3 hm3 hk0 hk1))
    all_goals
      go_wp2_with fail
      obtain ⟨W5, hW5⟩ : ∃ W5, W5 = w3.setCell ⟨w.heap.size, 0, none⟩ (.slice ao2 (k + m) cap2) := ⟨_, rfl⟩
      rw [← hW5]
      have hz5 : W5.heap.size = w3.heap.size := by rw [hW5]; simp
      have hx5 : ∀ b, b ≠ w.heap.size → W5.heap[b]? = w3.heap[b]? := fun b hb => by rw [hW5, Below.heap_setCell _ _ _ _ hb]
      have hR5 : Blk W5 (w.heap.size + 1) [.slice none 0 0, .int .i64 0] := HE3.out.same (hx5 _ (by omega))
      have hB5 : Below w.heap.size w W5 := by
        rw [hW5]
        exact (HB1.out.trans (HO3.out.2.mono (by omega))).setCell (by simp) _
      have hQ5 : SliceQ (fun b => S b ∨ (w1.heap.size ≤ b ∧ b < w3.heap.size)) W5 (.slice ao2 (k + m) cap2) (h.queues.eraseIdx k) := by
        have hll : (L.take k ++ L.drop (k + 1)).length = k + m := by have := HMM.out; simp; omega
        refine ⟨L.take k ++ L.drop (k + 1), by rw [← HN.out.1]; exact del_L _ _ _, ?_, fun x hx => ?_⟩
        · rw [hll, cellsQ_append]
          refine SliceV.sub (own_slice HO3.out.1) fun b hb => ?_
          have h1 := HO3.out.1.lt b hb
          exact ⟨.inr h1, hx5 b (by omega)⟩
        · have hxL : x ∈ L := by
            rcases List.mem_append.1 hx with h | h
            · exact List.mem_of_mem_take h
            · exact List.mem_of_mem_drop h
          exact (HN.out.2 x hxL).sub fun b hb => ⟨.inl hb, hB5.block b (HSS.out b hb)⟩
      have hT5 : ∀ b, (S b ∨ (w1.heap.size ≤ b ∧ b < w3.heap.size)) → (S b ∨ w.heap.size ≤ b) ∧ b < W5.heap.size ∧ b ≠ w.heap.size + 1 := fun b hb => by
        rcases hb with hb | hb
        · have := HSS.out b hb
          exact ⟨.inl hb, by omega, by omega⟩
        · exact ⟨.inr (by omega), by omega, by omega⟩
      have F := Fn.A hR5 (.slice ao2 (k + m) cap2) (.int .i64 h.next) (.cells #[.int .i64 2, .string name, .int .i64 0, .int .i64 0, .slice none 0 0, .slice none 0 0] 30)
      obtain ⟨wF, hF⟩ : ∃ wF, wF = ((W5.setCell ⟨w.heap.size + 1, 0, none⟩ (.slice ao2 (k + m) cap2)).setCell ⟨w.heap.size + 1, 1, none⟩ (.int .i64 h.next)).alloc (.cells #[.int .i64 2, .string name, .int .i64 0, .int .i64 0, .slice none 0 0, .slice none 0 0] 30) := ⟨_, rfl⟩
      have hE : Blk wF w3.heap.size (ED.cells ⟨2, name, 0, 0, nN⟩ (.slice none 0 0, .slice none 0 0)) := by
        have := Blk.new ((W5.setCell ⟨w.heap.size + 1, 0, none⟩ (.slice ao2 (k + m) cap2)).setCell ⟨w.heap.size + 1, 1, none⟩ (.int .i64 h.next)) [.int .i64 2, .string name, .int .i64 0, .int .i64 0, .slice none 0 0, .slice none 0 0] 30
        simp only [World.size_setCell] at this
        rw [← hF, hz5] at this
        exact this
      rw [← hF] at F
      rw [← hF]
      have hA := Fn.ans (S := S) (hd := ⟨h.queues.eraseIdx k, h.next⟩) F (by omega) hB5 hQ5 hT5 (entry_one ⟨2, name, 0, 0, nN⟩ _ hE (.inr ⟨by omega, hE.lt⟩) (NoteIs.nil _ _))
      obtain ⟨f0, f1, f2, f3⟩ := F.box.b2
      clear hF hT5 hE hz5 hx5 hW5 d0 d1 e0 e1
      exact bodyPost_ret (v := .tuple #[.agg #[.slice ao2 (k + m) cap2, .int .i64 h.next], .slice (some ⟨w3.heap.size, 0, none⟩) 1 1, .int .i64 0]) (by simp [results, Try.results29, go_sem, *]; done) rfl hA
end Go.Proofs.Ytkddkpdfeeikhaa
