/-
  tgref1.MakeQueue.
-/
import Derived.Test.YtpehkoompadpaaaHTellsProofM31
import Derived.Test.YtpehkoompadpaaaHTellsProofM19
namespace Go.Proofs.Ytpehkoompadpaaa
open Go.RowKit
set_option linter.unusedVariables false
set_option linter.unusedSimpArgs false

attribute [local go_sem ↓] Go.wp_at_zero Go.wp_at_succ

/-- What is left of a world below B. -/
structure Kp (B : Nat) (w w' : World) : Prop where
  os : w'.os = w.os
  tape : w'.tape = w.tape
  output : w'.output = w.output
  size : w.heap.size ≤ w'.heap.size
  block : ∀ b, b < B → w'.heap[b]? = w.heap[b]?
theorem Kp.below {w w' : World} {B : Nat} (h : Kp B w w') : Below B w w' := ⟨h.os, h.tape, h.output, h.size, h.block⟩

theorem refuse_make {h : HD} {name : ByteArray} {limit : Int} {c : Int} (hw : wrongMakeF h name limit = c) (hc : c ≠ 0) : makeF h name limit = refuse c := by
  unfold makeF; rw [hw, if_neg hc]

set_option maxRecDepth 100000 in
set_option maxHeartbeats 3200000 in
theorem refMake_any (S : Nat → Prop) (v : Value) (h : HD) (name : ByteArray) (limit : Int) (w : World) (hS : ∀ b, S b → b < w.heap.size) (hv : SliceQ S w v h.queues) (hlen : h.queues.length ≤ 1000) (hs : name.size ≤ maxLen) :
    Calls Try.prog 18 #[.agg #[v, .int .i64 h.next], .string name, .int .i64 limit] w fun e w' => AnsS S (makeF h name limit) w e w' ∧ Below w.heap.size w w' := by
  obtain ⟨i0, hi0, hz0, hz1, hz2⟩ := info_parts info25
  have HV : Hid (SliceQ S w v h.queues) := hv
  have HSS : Hid (∀ b, S b → b < w.heap.size) := hS
  obtain ⟨va, vc, rfl, -⟩ := hv.shape
  clear hv hS
  have two : Hid (∀ o1 o2 : Obj, Below w.heap.size w ((w.alloc o1).alloc o2)) := fun o1 o2 => (below_alloc _ _).alloc (by simp) _
  cases hkey : keyB name
  · rw [refuse_make (c := 7) (by simp [wrongMakeF, hkey]) (by omega)]
    have HKY : Hid (keyB name = false) := hkey
    clear hkey
    go_enter Try.func18, Try.ntmps18
    go_wp2_with (go_at_call 50; refine (refKey_is name _ hs).mono ?_; rw [HKY.out]; rintro e w1 ⟨rfl, hb1⟩; have hk1 := (Blk.new (w.alloc _) [.slice none 0 0, .int .i64 0] 24).below hb1 (by simp); simp only [World.size_alloc] at hk1; obtain ⟨b0, b1, b2, b3⟩ := hk1.b2; have HB1 : Hid (Below w.heap.size w w1) := (two.out _ _).trans (hb1.mono (by simp; omega)); clear hb1 hk1)
    refine bodyPost_ret (v := .tuple #[.agg #[.slice none 0 0, .int .i64 0], .slice none 0 0, .int .i64 7]) (by simp [results, Try.results18, go_sem, *]; done) rfl ⟨AnsS.refuse _ _ _ _, ?_⟩
    iterate 2 refine Below.setCell ?_ (by simp) _
    exact HB1.out
  · have HKY : Hid (keyB name = true) := hkey
    rcases idxQ_cases name h.queues with ⟨hd, -⟩ | ⟨k, hk, hd, hnm, -⟩
    · have HI : Hid (idxQ name h.queues = -1) := hd
      by_cases hl1 : limit < 1
      · rw [refuse_make (c := 3) (by simp [wrongMakeF, hkey, hd, hl1]) (by omega)]
        clear hkey hd
        go_enter Try.func18, Try.ntmps18
        go_wp2_with (first
          | (go_at_call 50; refine (refKey_is name _ hs).mono ?_; rw [HKY.out]; rintro e w1 ⟨rfl, hb1⟩; have hk0 := ((Blk.new w [.slice va h.queues.length vc, .int .i64 h.next] 24).alloc _).below hb1 (by simp; omega); have hk1 := (Blk.new (w.alloc _) [.slice none 0 0, .int .i64 0] 24).below hb1 (by simp); simp only [World.size_alloc] at hk0 hk1; have HKB : Hid (Blk w1 (w.heap.size + 1) [.slice none 0 0, .int .i64 0]) := hk1; obtain ⟨a0, a1, a2, a3⟩ := hk0.b2; have HB1 : Hid (Below w.heap.size w w1) := (two.out _ _).trans (hb1.mono (by simp; omega)); clear hb1 hk1 hk0)
          | (go_at_call 11; refine (refFind_any name _ h.next h.queues _ (HV.out.sub fun b hb => ⟨Nat.lt_of_lt_of_le (HSS.out b hb) HB1.out.size, HB1.out.block b (HSS.out b hb)⟩)).mono ?_; rw [HI.out]; rintro e w2 ⟨rfl, hb2⟩; have hk1 := HKB.out.below hb2 HKB.out.lt; obtain ⟨b0, b1, b2, b3⟩ := hk1.b2; have HB2 : Hid (Below w.heap.size w w2) := HB1.out.trans (hb2.mono HB1.out.size); clear hb2 hk1))
        refine bodyPost_ret (v := .tuple #[.agg #[.slice none 0 0, .int .i64 0], .slice none 0 0, .int .i64 3]) (by simp [results, Try.results18, go_sem, *]; done) rfl ⟨AnsS.refuse _ _ _ _, ?_⟩
        iterate 2 refine Below.setCell ?_ (by simp) _
        exact HB2.out
      · by_cases hl2 : 8 < limit
        · rw [refuse_make (c := 3) (by simp [wrongMakeF, hkey, hd, hl2]) (by omega)]
          clear hkey hd
          go_enter Try.func18, Try.ntmps18
          go_wp2_with (first
            | (go_at_call 50; refine (refKey_is name _ hs).mono ?_; rw [HKY.out]; rintro e w1 ⟨rfl, hb1⟩; have hk0 := ((Blk.new w [.slice va h.queues.length vc, .int .i64 h.next] 24).alloc _).below hb1 (by simp; omega); have hk1 := (Blk.new (w.alloc _) [.slice none 0 0, .int .i64 0] 24).below hb1 (by simp); simp only [World.size_alloc] at hk0 hk1; have HKB : Hid (Blk w1 (w.heap.size + 1) [.slice none 0 0, .int .i64 0]) := hk1; obtain ⟨a0, a1, a2, a3⟩ := hk0.b2; have HB1 : Hid (Below w.heap.size w w1) := (two.out _ _).trans (hb1.mono (by simp; omega)); clear hb1 hk1 hk0)
            | (go_at_call 11; refine (refFind_any name _ h.next h.queues _ (HV.out.sub fun b hb => ⟨Nat.lt_of_lt_of_le (HSS.out b hb) HB1.out.size, HB1.out.block b (HSS.out b hb)⟩)).mono ?_; rw [HI.out]; rintro e w2 ⟨rfl, hb2⟩; have hk1 := HKB.out.below hb2 HKB.out.lt; obtain ⟨b0, b1, b2, b3⟩ := hk1.b2; have HB2 : Hid (Below w.heap.size w w2) := HB1.out.trans (hb2.mono HB1.out.size); clear hb2 hk1))
          refine bodyPost_ret (v := .tuple #[.agg #[.slice none 0 0, .int .i64 0], .slice none 0 0, .int .i64 3]) (by simp [results, Try.results18, go_sem, *]; done) rfl ⟨AnsS.refuse _ _ _ _, ?_⟩
          iterate 2 refine Below.setCell ?_ (by simp) _
          exact HB2.out
        · by_cases hl3 : (4 : Int) ≤ (h.queues.length : Int)
          · rw [refuse_make (c := 5) (by simp [wrongMakeF, hkey, hd, hl1, hl2]; omega) (by omega)]
            clear hkey hd
            go_enter Try.func18, Try.ntmps18
            go_wp2_with (first
              | (go_at_call 50; refine (refKey_is name _ hs).mono ?_; rw [HKY.out]; rintro e w1 ⟨rfl, hb1⟩; have hk0 := ((Blk.new w [.slice va h.queues.length vc, .int .i64 h.next] 24).alloc _).below hb1 (by simp; omega); have hk1 := (Blk.new (w.alloc _) [.slice none 0 0, .int .i64 0] 24).below hb1 (by simp); simp only [World.size_alloc] at hk0 hk1; have HKB : Hid (Blk w1 w.heap.size [.slice va h.queues.length vc, .int .i64 h.next] ∧ Blk w1 (w.heap.size + 1) [.slice none 0 0, .int .i64 0]) := ⟨hk0, hk1⟩; obtain ⟨a0, a1, a2, a3⟩ := hk0.b2; have HB1 : Hid (Below w.heap.size w w1) := (two.out _ _).trans (hb1.mono (by simp; omega)); clear hb1 hk1 hk0)
              | (go_at_call 11; refine (refFind_any name _ h.next h.queues _ (HV.out.sub fun b hb => ⟨Nat.lt_of_lt_of_le (HSS.out b hb) HB1.out.size, HB1.out.block b (HSS.out b hb)⟩)).mono ?_; rw [HI.out]; rintro e w2 ⟨rfl, hb2⟩; have hk0 := HKB.out.1.below hb2 HKB.out.1.lt; have hk1 := HKB.out.2.below hb2 HKB.out.2.lt; obtain ⟨c0, c1, c2, c3⟩ := hk0.b2; obtain ⟨b0, b1, b2, b3⟩ := hk1.b2; have HB2 : Hid (Below w.heap.size w w2) := HB1.out.trans (hb2.mono HB1.out.size); clear hb2 hk1 hk0))
            refine bodyPost_ret (v := .tuple #[.agg #[.slice none 0 0, .int .i64 0], .slice none 0 0, .int .i64 5]) (by simp [results, Try.results18, go_sem, *]; done) rfl ⟨AnsS.refuse _ _ _ _, ?_⟩
            iterate 2 refine Below.setCell ?_ (by simp) _
            exact HB2.out
          · have hmk : makeF h name limit = (⟨h.queues ++ [⟨name, limit, []⟩], h.next⟩, [⟨1, name, limit, 0, nN⟩], 0) := by
              unfold makeF; rw [if_pos (by simp [wrongMakeF, hkey, hd, hl1, hl2]; omega)]
            rw [hmk]
            clear hkey hd hmk
            obtain ⟨L, hLe, hL, hN⟩ := HV.out
            have hLl : h.queues.length = L.length := by rw [← hLe]; simp
            rw [hLl] at hl3 hlen HV ⊢
            have HL : Hid (SliceV S w (.slice va L.length vc) L.length (cellsQ L)) := by rw [hLl] at hL; exact hL
            have HN : Hid (L.map Prod.fst = h.queues ∧ ∀ x ∈ L, SliceI S w x.2 x.1.items) := ⟨hLe, hN⟩
            have HO : Hid (∀ u ∈ cellsQ L, u.oneCell' = true) := cellsQ_one L hN
            clear hLe hL hN hLl
            go_enter Try.func18, Try.ntmps18
            have ny : Hid True := trivial
            go_wp2_with (first
              | (go_at_call 50; refine (refKey_is name _ hs).mono ?_; rw [HKY.out]; rintro e w1 ⟨rfl, hb1⟩; have hk0 := ((Blk.new w [.slice va L.length vc, .int .i64 h.next] 24).alloc _).below hb1 (by simp; omega); have hk1 := (Blk.new (w.alloc _) [.slice none 0 0, .int .i64 0] 24).below hb1 (by simp); simp only [World.size_alloc] at hk0 hk1; have HKB : Hid (Blk w1 w.heap.size [.slice va L.length vc, .int .i64 h.next] ∧ Blk w1 (w.heap.size + 1) [.slice none 0 0, .int .i64 0]) := ⟨hk0, hk1⟩; obtain ⟨a0, a1, a2, a3⟩ := hk0.b2; have HB1 : Hid (Below w.heap.size w w1) := (two.out _ _).trans (hb1.mono (by simp; omega)); clear hb1 hk1 hk0)
              | (go_at_call 11; refine (refFind_any name _ h.next h.queues _ (HV.out.sub fun b hb => ⟨Nat.lt_of_lt_of_le (HSS.out b hb) HB1.out.size, HB1.out.block b (HSS.out b hb)⟩)).mono ?_; rw [HI.out]; rintro e w2 ⟨rfl, hb2⟩; have hk0 := HKB.out.1.below hb2 HKB.out.1.lt; have hk1 := HKB.out.2.below hb2 HKB.out.2.lt; have HKC : Hid (Blk w2 w.heap.size [.slice va L.length vc, .int .i64 h.next] ∧ Blk w2 (w.heap.size + 1) [.slice none 0 0, .int .i64 0]) := ⟨hk0, hk1⟩; obtain ⟨c0, c1, c2, c3⟩ := hk0.b2; have HB2 : Hid (Below w.heap.size w w2) := HB1.out.trans (hb2.mono HB1.out.size); have hz2' : w.heap.size + 2 ≤ w2.heap.size := (by have := HKC.out.2.lt; omega); clear hb2 hk1 hk0 HKB)
              | (at_builtin; clear ny; refine wpList_appV rfl (.tmp 31) (.tmp 33) 22 rfl 71 i0 _ 3 48 Try.underlying22 hi0 hz0 hz1 hz2 rfl (by omega) w2.heap.size (.slice (some ⟨w2.heap.size, 0, none⟩) 0 0) 0 [] rfl (emptyQ_own _ _ _ (by simp) (by omega)) S (.slice va L.length vc) L.length (cellsQ L) rfl (HL.out.sub fun b hb => ⟨hb, (Below.heap_alloc _ _ _ (by have := HSS.out b hb; omega)).trans (HB2.out.block b (HSS.out b hb))⟩) (cellsQ_len L) HO.out (by unfold maxLen; omega) (by omega) (by simp) ?_; intro ao cap w3 ho3 hg3 hm3; have HO3 : Hid (w3.ownsRow w2.heap.size 71 3 (.slice ao L.length cap) L.length (cellsQ L) ∧ Kp w2.heap.size w2 w3) := ⟨by simpa using ho3, hg3.os, hg3.tape, hg3.output, by have := hg3.size; simp at this; omega, fun b hb => (hg3.block b (by simp; omega) (fun e => by simp only [Value.ownBlock, Option.some.injEq] at e; omega)).trans (Below.heap_alloc _ _ _ hb)⟩; have hz3' := HO3.out.2.size; clear ho3 hg3 hm3)
              | (at_builtin; refine wpList_appV rfl (.tmp 34) (.tmp 38) 22 rfl 71 i0 _ 3 48 Try.underlying22 hi0 hz0 hz1 hz2 rfl (by omega) w2.heap.size (.slice ao L.length cap) L.length (cellsQ L) rfl (own_below HO3.out.1 (below_alloc _ _)) (fun b => b = w3.heap.size) (.slice (some ⟨w3.heap.size, 0, none⟩) 1 1) 1 (QD.cells ⟨name, limit, []⟩ (.slice none 0 0)) rfl (row_any' _ _ _ _ _ rfl (by simp [maxLen])) rfl (by simp [QD.cells, Value.oneCell']) (by unfold maxLen; omega) (by omega) (by simp <;> omega) ?_; intro ao2 cap2 w4 ho4 hg4 hm4; have HO4 : Hid (w4.ownsRow w2.heap.size 71 3 (.slice ao2 (L.length + 1) cap2) (L.length + 1) (cellsQ L ++ QD.cells ⟨name, limit, []⟩ (.slice none 0 0)) ∧ Kp w2.heap.size w2 w4) := ⟨ho4, hg4.os.trans HO3.out.2.os, hg4.tape.trans HO3.out.2.tape, hg4.output.trans HO3.out.2.output, by have := hg4.size; simp at this; omega, fun b hb => (hg4.block b (by simp; omega) (fun e => by have := (HO3.out.1.lt b e.symm).1; omega)).trans ((Below.heap_alloc _ _ _ (by omega)).trans (HO3.out.2.block b hb))⟩; have hz4' := HO4.out.2.size; have hk0 := HKC.out.1.same (HO4.out.2.block _ HKC.out.1.lt); have hk1 := HKC.out.2.same (HO4.out.2.block _ HKC.out.2.lt); obtain ⟨d0, d1, d2, d3⟩ := hk0.b2; obtain ⟨e0, e1, e2, e3⟩ := hk1.b2; have HE4 : Hid (Blk w4 (w.heap.size + 1) [.slice none 0 0, .int .i64 0]) := hk1; clear ho4 hg4 hm4 hk0 hk1 c0 c1 c2 c3 a0 a1 a2 a3))
            obtain ⟨W5, hW5⟩ : ∃ W5, W5 = w4.setCell ⟨w.heap.size, 0, none⟩ (.slice ao2 (L.length + 1) cap2) := ⟨_, rfl⟩
            rw [← hW5]
            have hz5 : W5.heap.size = w4.heap.size := by rw [hW5]; simp
            have hx5 : ∀ b, b ≠ w.heap.size → W5.heap[b]? = w4.heap[b]? := fun b hb => by rw [hW5, Below.heap_setCell _ _ _ _ hb]
            have hR5 : Blk W5 (w.heap.size + 1) [.slice none 0 0, .int .i64 0] := HE4.out.same (hx5 _ (by omega))
            have hB5 : Below w.heap.size w W5 := by
              rw [hW5]
              exact (HB2.out.trans (HO4.out.2.below.mono (by omega))).setCell (by simp) _
            have hQ5 : SliceQ (fun b => S b ∨ (w2.heap.size ≤ b ∧ b < w4.heap.size)) W5 (.slice ao2 (L.length + 1) cap2) (h.queues ++ [⟨name, limit, []⟩]) := by
              refine ⟨L ++ [(⟨name, limit, []⟩, .slice none 0 0)], by rw [List.map_append, HN.out.1]; rfl, ?_, fun x hx => ?_⟩
              · rw [List.length_append, cellsQ_append]
                refine SliceV.sub (own_slice HO4.out.1) fun b hb => ?_
                have h1 := HO4.out.1.lt b hb
                exact ⟨.inr h1, hx5 b (by omega)⟩
              · rw [List.mem_append, List.mem_singleton] at hx
                rcases hx with hx | rfl
                · exact (HN.out.2 x hx).sub fun b hb => ⟨.inl hb, hB5.block b (HSS.out b hb)⟩
                · exact nilQ _ _
            have hT5 : ∀ b, (S b ∨ (w2.heap.size ≤ b ∧ b < w4.heap.size)) → (S b ∨ w.heap.size ≤ b) ∧ b < W5.heap.size ∧ b ≠ w.heap.size + 1 := fun b hb => by
              rcases hb with hb | hb
              · have := HSS.out b hb
                exact ⟨.inl hb, by omega, by omega⟩
              · exact ⟨.inr (by omega), by omega, by omega⟩
            have F := Fn.A hR5 (.slice ao2 (L.length + 1) cap2) (.int .i64 h.next) (.cells #[.int .i64 1, .string name, .int .i64 limit, .int .i64 0, .slice none 0 0, .slice none 0 0] 54)
            obtain ⟨wF, hF⟩ : ∃ wF, wF = ((W5.setCell ⟨w.heap.size + 1, 0, none⟩ (.slice ao2 (L.length + 1) cap2)).setCell ⟨w.heap.size + 1, 1, none⟩ (.int .i64 h.next)).alloc (.cells #[.int .i64 1, .string name, .int .i64 limit, .int .i64 0, .slice none 0 0, .slice none 0 0] 54) := ⟨_, rfl⟩
            have hE : Blk wF w4.heap.size (ED.cells ⟨1, name, limit, 0, nN⟩ (.slice none 0 0, .slice none 0 0)) := by
              have := Blk.new ((W5.setCell ⟨w.heap.size + 1, 0, none⟩ (.slice ao2 (L.length + 1) cap2)).setCell ⟨w.heap.size + 1, 1, none⟩ (.int .i64 h.next)) [.int .i64 1, .string name, .int .i64 limit, .int .i64 0, .slice none 0 0, .slice none 0 0] 54
              simp only [World.size_setCell] at this
              rw [← hF, hz5] at this
              exact this
            rw [← hF] at F
            rw [← hF]
            have hA := Fn.ans (S := S) (hd := ⟨h.queues ++ [⟨name, limit, []⟩], h.next⟩) F (by omega) hB5 hQ5 hT5 (entry_one ⟨1, name, limit, 0, nN⟩ _ hE (.inr ⟨by omega, hE.lt⟩) (NoteIs.nil _ _))
            obtain ⟨f0, f1, f2, f3⟩ := F.box.b2
            clear hF hT5 hE hz5 hx5 hW5 d0 d1 e0 e1
            exact bodyPost_ret (v := .tuple #[.agg #[.slice ao2 (L.length + 1) cap2, .int .i64 h.next], .slice (some ⟨w4.heap.size, 0, none⟩) 1 1, .int .i64 0]) (by simp [results, Try.results18, go_sem, *]; done) rfl hA
    · rw [refuse_make (c := 7) (by simp [wrongMakeF, hkey, hd]) (by omega)]
      have HI : Hid (idxQ name h.queues = (k : Int)) := hd
      clear hkey hd
      go_enter Try.func18, Try.ntmps18
      go_wp2_with (first
        | (go_at_call 50; refine (refKey_is name _ hs).mono ?_; rw [HKY.out]; rintro e w1 ⟨rfl, hb1⟩; have hk0 := ((Blk.new w [.slice va h.queues.length vc, .int .i64 h.next] 24).alloc _).below hb1 (by simp; omega); have hk1 := (Blk.new (w.alloc _) [.slice none 0 0, .int .i64 0] 24).below hb1 (by simp); simp only [World.size_alloc] at hk0 hk1; have HKB : Hid (Blk w1 (w.heap.size + 1) [.slice none 0 0, .int .i64 0]) := hk1; obtain ⟨a0, a1, a2, a3⟩ := hk0.b2; have HB1 : Hid (Below w.heap.size w w1) := (two.out _ _).trans (hb1.mono (by simp; omega)); clear hb1 hk1 hk0)
        | (go_at_call 11; refine (refFind_any name _ h.next h.queues _ (HV.out.sub fun b hb => ⟨Nat.lt_of_lt_of_le (HSS.out b hb) HB1.out.size, HB1.out.block b (HSS.out b hb)⟩)).mono ?_; rw [HI.out]; rintro e w2 ⟨rfl, hb2⟩; have hk1 := HKB.out.below hb2 HKB.out.lt; obtain ⟨b0, b1, b2, b3⟩ := hk1.b2; have HB2 : Hid (Below w.heap.size w w2) := HB1.out.trans (hb2.mono HB1.out.size); clear hb2 hk1))
      refine bodyPost_ret (v := .tuple #[.agg #[.slice none 0 0, .int .i64 0], .slice none 0 0, .int .i64 7]) (by simp [results, Try.results18, go_sem, *]; done) rfl ⟨AnsS.refuse _ _ _ _, ?_⟩
      iterate 2 refine Below.setCell ?_ (by simp) _
      exact HB2.out
end Go.Proofs.Ytpehkoompadpaaa
