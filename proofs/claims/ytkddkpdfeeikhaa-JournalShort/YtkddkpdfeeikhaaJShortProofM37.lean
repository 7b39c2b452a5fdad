/-
  JPut; JStep2: texts laid together.
-/
import Derived.Test.YtkddkpdfeeikhaaJShortProofM36
/-
  journal.putIn puts an entry's item into a queue, in place.
-/
namespace Go.Proofs.Ytkddkpdfeeikhaa
open Go.RowKit Go.WideMaps Go.Maps
set_option linter.unusedVariables false
set_option linter.unusedSimpArgs false

attribute [local go_sem ↓] Go.wp_at_zero Go.wp_at_succ

/-- What a step of a hall in place answers. -/
def StepAns (lo : Nat) (N : Nat → Prop) (hb xb pb : Nat) (w : World) (h : HD) (w' : World) : Prop :=
  ∃ (N' : Nat → Prop) (mb' : Nat) (v' : Value) (L' : QuL), ((∀ b, N b → N' b) ∧ ∀ b, N' b → N b ∨ w.heap.size ≤ b) ∧ L'.map Prod.fst = h.queues ∧ JH lo N' hb xb pb mb' w' v' L' h.next ∧ Kept lo N w w'

theorem StepAns.drew {lo : Nat} {N : Nat → Prop} {hb xb pb : Nat} {w : World} {h : HD} {w' : World} (H : StepAns lo N hb xb pb w h w') : StepAns lo N hb xb pb w h w'.drew := by
  obtain ⟨N', mb', v', L', h1, h2, h3, h4⟩ := H
  exact ⟨N', mb', v', L', h1, h2, h3.on (Nat.le_refl _) (fun _ _ _ => rfl), ⟨h4.note, ⟨h4.bel.os, h4.bel.tape, h4.bel.output, h4.bel.size, h4.bel.block⟩⟩⟩

section
variable {lo : Nat} {N : Nat → Prop} {hb xb pb mb : Nat} {w : World} {L : QuL} {next : Int} {g n cap : Nat}

/-- Behind the append: the queue has one item more. -/
theorem JH.put (H : JH lo N hb xb pb mb w (.slice (some ⟨g, 0, none⟩) n cap) L next) (hn : n = L.length) {k : Nat} (hk : k < L.length) {LI : ItL} (hLI : LI.map Prod.fst = L[k].1.items) (hnotes : ∀ y ∈ LI, NoteIs N w y.2 y.1.note) (hown : w.ownsRow lo 78 7 L[k].2 LI.length (cellsI LI))
    {w2 w3 : World} {p : Value × Value} {nt : ND} (id : Int) (hb2 : Below w.heap.size w w2) (hnt : NoteIs (Made (w.heap.size + 1) w2.heap.size) w2 p nt) {o : Obj} {gg c3 : Nat}
    (ho3 : w3.ownsRow lo 78 7 (.slice (some ⟨gg, 0, none⟩) (LI.length + 1) c3) (LI.length + 1) (cellsI LI ++ (newI id nt).cells p)) (hg3 : (w2.alloc o).grownBy w3 L[k].2.ownBlock) (hat3 : L[k].2.ownBlock = some gg ∨ gg = w2.heap.size + 1) (hlt : gg < w3.heap.size) :
    ∃ N' : Nat → Prop, ((∀ b, N b → N' b) ∧ ∀ b, N' b → N b ∨ w.heap.size ≤ b) ∧ JH lo N' hb xb pb mb (w3.setCell ⟨g, k * 3 + 2, none⟩ (.slice (some ⟨gg, 0, none⟩) (LI.length + 1) c3)) (.slice (some ⟨g, 0, none⟩) n cap) (L.set k (⟨L[k].1.name, L[k].1.limit, L[k].1.items ++ [newI id nt]⟩, .slice (some ⟨gg, 0, none⟩) (LI.length + 1) c3)) next ∧
      Kept lo N w (w3.setCell ⟨g, k * 3 + 2, none⟩ (.slice (some ⟨gg, 0, none⟩) (LI.length + 1) c3)) := by
  have hz2 := hb2.size
  have hz3 : w2.heap.size + 1 ≤ w3.heap.size := by have := hg3.size; simpa using this
  have hog : ∀ b, L[k].2.ownBlock = some b → b < w.heap.size := fun b h => (hown.lt b h).2
  have blk : ∀ b, b < w2.heap.size → L[k].2.ownBlock ≠ some b → w3.heap[b]? = w2.heap[b]? := fun b h1 h2 => by
    rw [hg3.block b (by simp; omega) (fun e => h2 e.symm), Below.heap_alloc _ _ _ h1]
  have hg : w.grownBy w3 L[k].2.ownBlock := by
    refine grownBy_trans (grownBy_of_below hb2) (grownBy_trans (World.grownBy_alloc _ _ _) hg3)
  have hblocks : ∀ b, (Value.slice (some ⟨gg, 0, none⟩) (LI.length + 1) c3).ownBlock = some b → b = gg := fun b h => by simpa [Value.ownBlock] using h.symm
  have key := H.item hn hk (w1 := w3) (u := .slice (some ⟨gg, 0, none⟩) (LI.length + 1) c3) (LI := LI ++ [(newI id nt, p)]) (N' := fun b => N b ∨ (w.heap.size + 1 ≤ b ∧ b < w2.heap.size)) (L[k].1.items ++ [newI id nt]) (by simp [hLI])
    (by rw [List.length_append, cellsI_append]; simpa [cellsI] using ho3)
    (fun y hy => ?_) hg (fun b h => ?_) (fun b h => .inl h) (fun b h => ?_)
  · exact ⟨_, ⟨fun b h => .inl h, fun b h => h.imp (fun h => h) (fun h => by omega)⟩, key⟩
  · rw [List.mem_append, List.mem_singleton] at hy
    rcases hy with hy | rfl
    · refine (hnotes y hy).sub fun b hb => ⟨.inl hb, ?_⟩
      have hlt := H.rows.lt b (.inl hb)
      rw [blk b (by omega) (fun e => H.rows.off b (.inl hb) (.inr ⟨_, List.getElem_mem hk, e⟩)), hb2.block b hlt]
    · refine hnt.sub fun b hb => ⟨.inr hb, blk b hb.2 (fun e => ?_)⟩
      have := hog b e
      have := hb.1
      omega
  · have := hblocks b h
    subst this
    rcases hat3 with h | h
    · exact .inl h
    · right; omega
  · rcases h with h | h
    · exact .inl h
    · refine .inr ⟨by omega, by omega, fun e => ?_⟩
      have := hblocks b e
      subst this
      rcases hat3 with h3 | h3
      · have := hog _ h3; omega
      · omega
end

set_option maxRecDepth 100000 in
set_option maxHeartbeats 3200000 in
theorem jputIn_any {lo : Nat} {N : Nat → Prop} {hb xb pb mb : Nat} {w : World} {v : Value} {L : QuL} {next : Int} (H : JH lo N hb xb pb mb w v L next) (k : Nat) (hk : k < L.length) (hlen : L.length ≤ 4194304) (hil : L[k].1.items.length ≤ 4194304) (kind : Int) (queue : ByteArray) (en id : Int) (hid : 0 ≤ id ∧ id ≤ 4294967296) (nt : ND) (hsm : nt.small) (pv bv : Value) (hnt : NoteIs (Under w.heap.size) w (pv, bv) nt) :
    Calls Try.prog 80 #[.pointer (some ⟨hb, 0, none⟩), .int .i64 k, .agg #[.int .i64 kind, .string queue, .int .i64 en, .int .i64 id, pv, bv]] w fun r w' => (∃ u, r = .returned u) ∧ StepAns lo N hb xb pb w ⟨(L.map Prod.fst).set k ⟨L[k].1.name, L[k].1.limit, L[k].1.items ++ [newI id nt]⟩, max next (id + 1)⟩ w' := by
  obtain ⟨i0, hi0, hz0, hz1, hz2⟩ := info_parts info34
  obtain ⟨LI, hLI, hown, hnotes⟩ := H.rows.items _ (List.getElem_mem hk)
  obtain ⟨g, cap, rfl⟩ : ∃ g cap, v = .slice (some ⟨g, 0, none⟩) L.length cap := by
    rcases H.rows.row.2 with ⟨-, h0⟩ | ⟨g, cap, cur, e, -⟩
    · omega
    · exact ⟨g, cap, e⟩
  obtain ⟨n, hn⟩ : ∃ n, n = L.length := ⟨_, rfl⟩
  have hrow := H.rows.row
  rw [← hn] at H hrow hlen
  obtain ⟨_, _, e, hnc, hcm, -⟩ := own_shape hrow
  simp only [Value.slice.injEq] at e
  obtain ⟨rfl, -, rfl⟩ := e
  obtain ⟨xa, xc, hxe, hx1, hx2, -⟩ := own_shape hown
  have hLIn : LI.length ≤ 4194304 := by have := congrArg List.length hLI; simp at this; omega
  obtain ⟨pa, pc, rfl, -⟩ := SliceV.shape hnt.1
  obtain ⟨ba, bc, rfl, -⟩ := SliceV.shape hnt.2
  have hkn : k < n := by omega
  -- the cells, in any world behind
  have cells : Hid (∀ W : World, (∀ b, b = g ∨ b = hb → W.heap[b]? = w.heap[b]?) → (W.cell? ⟨g, k * 3 + 2, none⟩ = some (.slice xa LI.length xc) ∧ (∀ o, W.frozen? ⟨g, o, none⟩ = false)) ∧ (W.cell? ⟨hb, 0, none⟩ = some (.slice (some ⟨g, 0, none⟩) n cap) ∧ W.cell? ⟨hb, 1, none⟩ = some (.int .i64 next) ∧ (∀ o, W.frozen? ⟨hb, o, none⟩ = false) ∧ hb < W.heap.size)) := fun W hW => by
    have h1 := own_same hrow (w' := W) fun b e => hW b (.inl (by simpa [Value.ownBlock] using e.symm))
    refine ⟨⟨?_, h1.frozenAt⟩, (H.box.same (hW hb (.inr rfl))).b2⟩
    rw [h1.cellAt (k * 3 + 2) (by omega), cellsQ_at L k 2 hk (by omega), ← hxe]
    rfl
  have HNT : Hid (NoteIs (Under w.heap.size) w (.slice pa nt.props.length pc, .slice ba nt.body.length bc) nt) := hnt
  have HH : Hid (JH lo N hb xb pb mb w (.slice (some ⟨g, 0, none⟩) n cap) L next) := H
  have HK : Hid (LI.map Prod.fst = L[k].1.items ∧ (∀ y ∈ LI, NoteIs N w y.2 y.1.note) ∧ w.ownsRow lo 78 7 L[k].2 LI.length (cellsI LI) ∧ n = L.length ∧ L[k].2 = .slice xa LI.length xc) := ⟨hLI, hnotes, hown, hn, hxe⟩
  have HS : Hid nt.small := hsm
  have hgl := (H.rows.foot_lt (b := g) (.inl rfl)).2
  have hbl := H.box.lt
  have hgb : g ≠ hb := fun e => H.rows.off hb (.inr (.inl rfl)) (.inl (by rw [e]; rfl))
  have hxg : ∀ b, (Value.slice xa LI.length xc).ownBlock = some b → b < w.heap.size ∧ b ≠ g ∧ b ≠ hb ∧ lo ≤ b := fun b e => by
    rw [← hxe] at e
    have hf := H.rows.foot_lt (.inr ⟨_, List.getElem_mem hk, e⟩)
    refine ⟨hf.2, fun h => H.rows.sep _ (List.getElem_mem hk) b e (by rw [h]; rfl), fun h => H.rows.off hb (.inr (.inl rfl)) (.inr ⟨_, List.getElem_mem hk, h ▸ e⟩), hf.1⟩
  have HXG : Hid (∀ b, (Value.slice xa LI.length xc).ownBlock = some b → b < w.heap.size ∧ b ≠ g ∧ b ≠ hb ∧ lo ≤ b) := hxg
  have hlo := H.lo_le
  unfold maxLen at hcm hx2
  obtain ⟨A, hA⟩ : ∃ A, A = w.alloc (.cells #[.int .i64 kind, .string queue, .int .i64 en, .int .i64 id, .slice pa nt.props.length pc, .slice ba nt.body.length bc] 30) := ⟨_, rfl⟩
  have hAz : A.heap.size = w.heap.size + 1 := by rw [hA]; simp
  have hAB : Below w.heap.size w A := by rw [hA]; exact below_alloc _ _
  have hAE : Blk A w.heap.size [.int .i64 kind, .string queue, .int .i64 en, .int .i64 id, .slice pa nt.props.length pc, .slice ba nt.body.length bc] := by rw [hA]; exact Blk.new _ _ _
  have HAE : Hid (Blk A w.heap.size [.int .i64 kind, .string queue, .int .i64 en, .int .i64 id, .slice pa nt.props.length pc, .slice ba nt.body.length bc] ∧ Below w.heap.size w A) := ⟨hAE, hAB⟩
  have hAo : ∀ b, b = g ∨ b = hb → A.heap[b]? = w.heap[b]? := fun b h => hAB.block b (by rcases h with h | h <;> omega)
  obtain ⟨⟨q0, q1⟩, r0, r1, r2, r3⟩ := cells.out A hAo
  have a0 : ∀ o, A.frozen? ⟨w.heap.size, o, none⟩ = false := hAE.f
  have a3 : A.cell? ⟨w.heap.size, 3, none⟩ = some (.int .i64 id) := hAE.cell 3
  have a4 : A.cell? ⟨w.heap.size, 4, none⟩ = some (.slice pa nt.props.length pc) := hAE.cell 4
  have a5 : A.cell? ⟨w.heap.size, 5, none⟩ = some (.slice ba nt.body.length bc) := hAE.cell 5
  clear H hLI hnotes hown hrow hnt hsm hxg hAE hAB hAo hxe hn
  go_enter Try.func80, Try.ntmps80
  go_upto_region 1 with fail
  rw [← hA]
  clear hA
  go_upto_region 2 with fail
  go_cut [] (fun wx => ∃ (N' : Nat → Prop) (u : Value), ((∀ b, N b → N' b) ∧ ∀ b, N' b → N b ∨ w.heap.size ≤ b) ∧ JH lo N' hb xb pb mb wx (.slice (some ⟨g, 0, none⟩) n cap) (L.set k (⟨L[k].1.name, L[k].1.limit, L[k].1.items ++ [newI id nt]⟩, u)) next ∧ Kept lo N w wx ∧ Blk wx w.heap.size [.int .i64 kind, .string queue, .int .i64 en, .int .i64 id, .slice pa nt.props.length pc, .slice ba nt.body.length bc])
  case first =>
    go_region_law (first
      | (go_simp; go_at_call 60; refine (noteOwn_any _ _ nt HS.out _ ?_).mono ?_; (exact HNT.out.sub fun b hb => ⟨Nat.lt_of_lt_of_le hb HAE.out.2.size, HAE.out.2.block b hb⟩); rintro e w2 ⟨⟨q1, q2⟩, rfl, hn2, hb2⟩; obtain ⟨ra, rc, rfl, -⟩ := SliceV.shape hn2.1; obtain ⟨sa, sc, rfl, -⟩ := SliceV.shape hn2.2; have hb2' : Below A.heap.size A w2 := ⟨hb2.os, hb2.tape, hb2.output, hb2.size, hb2.block⟩; have HN2 : Hid (NoteIs (Made (w.heap.size + 1) w2.heap.size) w2 (.slice ra nt.props.length rc, .slice sa nt.body.length sc) nt) := hn2.sub (fun b hb => ⟨⟨by have := hb.1; simp at this; omega, hb.2⟩, rfl⟩); have HB2 : Hid (Below w.heap.size w w2 ∧ Blk w2 w.heap.size [.int .i64 kind, .string queue, .int .i64 en, .int .i64 id, .slice pa nt.props.length pc, .slice ba nt.body.length bc]) := ⟨HAE.out.2.trans (hb2'.mono (by omega)), HAE.out.1.below hb2' (by omega)⟩; have hz2' := hb2'.size; have HO2 : Hid (w2.ownsRow lo 78 7 (.slice xa LI.length xc) LI.length (cellsI LI)) := (by have h := HK.out.2.2.1; rw [HK.out.2.2.2.2] at h; exact own_below h HB2.out.1); obtain ⟨⟨y0, y1⟩, y2, y3, y4, y5⟩ := cells.out w2 (fun b h => HB2.out.1.block b (by rcases h with h | h <;> omega)); have x3 : w2.cell? ⟨w.heap.size, 3, none⟩ = some (.int .i64 id) := HB2.out.2.cell 3; have hgw2 : g < w2.heap.size := (by omega); have hww2 : w.heap.size < w2.heap.size := (by omega); have xf : ∀ o, w2.frozen? ⟨w.heap.size, o, none⟩ = false := HB2.out.2.f; clear hn2 hb2 hb2')
      | (refine step_append_lies _ (by rfl) _ _ _ (by rfl) lo 78 i0 _ 7 88 Try.underlying74 hi0 hz0 hz1 hz2 rfl (by omega) (.slice xa LI.length xc) LI.length (cellsI LI) (by rfl) (own_below HO2.out (below_alloc _ _)) ⟨w2.heap.size, 0, none⟩ 1 1 ((newI id nt).cells (.slice ra nt.props.length rc, .slice sa nt.body.length sc)) (by rfl) (by rfl) (World.news_of_block (cs := #[.int .i64 id, .int .i64 0, .int .i64 0, .bool false, .int .i64 0, .slice ra nt.props.length rc, .slice sa nt.body.length sc]) (t := 78) (fr := (0, 0)) (heap_alloc_new w2 _)) (by simp [IT.cells, newI, Value.oneCell']) (by omega) (by unfold maxLen; omega) (by omega) (by simp; omega) (w2.heap.size + 1) (by simp) ?_; intro gg c3 w3 hown3 hg3 hat3 hlt3; have h6 := HB2.out.2.same (show w3.heap[w.heap.size]? = w2.heap[w.heap.size]? from (by rw [hg3.block _ (by simp; omega) (fun e => by have := (HXG.out _ e.symm).1; omega), Below.heap_alloc _ _ _ (by omega)])); have HG3 : Hid (w3.ownsRow lo 78 7 (.slice (some ⟨gg, 0, none⟩) (LI.length + 1) c3) (LI.length + 1) (cellsI LI ++ (newI id nt).cells (.slice ra nt.props.length rc, .slice sa nt.body.length sc)) ∧ (w2.alloc (.cells #[.int .i64 id, .int .i64 0, .int .i64 0, .bool false, .int .i64 0, .slice ra nt.props.length rc, .slice sa nt.body.length sc] 78)).grownBy w3 (Value.slice xa LI.length xc).ownBlock ∧ ((Value.slice xa LI.length xc).ownBlock = some gg ∨ gg = w2.heap.size + 1) ∧ Blk w3 w.heap.size [.int .i64 kind, .string queue, .int .i64 en, .int .i64 id, .slice pa nt.props.length pc, .slice ba nt.body.length bc]) := ⟨hown3, hg3, hat3, h6⟩; have hb3 : ∀ b, b < w2.heap.size → (Value.slice xa LI.length xc).ownBlock ≠ some b → w3.heap[b]? = w2.heap[b]? := (fun b h1 h2 => (by rw [hg3.block b (by simp; omega) (fun e => h2 e.symm), Below.heap_alloc _ _ _ h1])); have hz3 : w2.heap.size + 1 ≤ w3.heap.size := (by have := hg3.size; simpa using this); obtain ⟨⟨s0, s1⟩, s2, s3, s4, s5⟩ := cells.out w3 (fun b h => (by have h1 : b < w.heap.size := (by rcases h with h | h <;> omega); rw [hb3 b (by omega) (fun e => by have := HXG.out b e; omega), HB2.out.1.block b h1])); have t3 : w3.cell? ⟨w.heap.size, 3, none⟩ = some (.int .i64 id) := h6.cell 3; have tf : ∀ o, w3.frozen? ⟨w.heap.size, o, none⟩ = false := h6.f; have hwz : w.heap.size < w3.heap.size := (by omega); clear hown3 hg3 hat3 hb3 h6))
    all_goals
      go_wp2_with fail
      go_meet
      obtain ⟨k1, k2, k3, k4, k5⟩ := HK.out
      obtain ⟨g1, g2, g3, g4⟩ := HG3.out
      rw [← k5] at g2 g3
      obtain ⟨N', j1, j2, j3⟩ := HH.out.put k4 hk k1 k2 k3 id HB2.out.1 HN2.out g1 g2 g3 hlt3
      exact ⟨N', _, j1, j2, j3, g4.far (by simp; omega) _⟩
  case rest =>
    obtain ⟨N', u, j1, j2, j3, j4⟩ := hcut
    have HJ : Hid (JH lo N' hb xb pb mb wc (.slice (some ⟨g, 0, none⟩) n cap) (L.set k (⟨L[k].1.name, L[k].1.limit, L[k].1.items ++ [newI id nt]⟩, u)) next ∧ ((∀ b, N b → N' b) ∧ ∀ b, N' b → N b ∨ w.heap.size ≤ b) ∧ Kept lo N w wc) := ⟨j2, j1, j3⟩
    obtain ⟨b0, b1, b2, b3⟩ := j2.box.b2
    have t3 : wc.cell? ⟨w.heap.size, 3, none⟩ = some (.int .i64 id) := j4.cell 3
    have tf : ∀ o, wc.frozen? ⟨w.heap.size, o, none⟩ = false := j4.f
    have tl := j4.lt
    clear j1 j2 j3 j4 q0 q1 r0 r1 r2 r3 a0 a3 a4 a5
    have HEND : Hid (StepAns lo N hb xb pb w ⟨(L.map Prod.fst).set k ⟨L[k].1.name, L[k].1.limit, L[k].1.items ++ [newI id nt]⟩, max next (id + 1)⟩ (wc.setCell ⟨hb, 1, none⟩ (.int .i64 (max next (id + 1))))) := by
      obtain ⟨j2, j1, j3⟩ := HJ.out
      obtain ⟨j4, j5⟩ := j2.nextTo (max next (id + 1))
      exact ⟨N', mb, _, _, j1, by rw [List.map_set], j4, j3.trans (j5.anti j1.1)⟩
    have hwr : IntKind.i64.wrap (id + 1) = id + 1 := by rw [IntKind.wrap_i64]; omega
    have hmx : (if next < id + 1 then id + 1 else next) = max next (id + 1) := by omega
    clear HJ
    go_wp2_with fail
    go_region_law (fail)
    all_goals
      exact bodyPost_end (by simp [results, Try.results80]; rfl) rfl ⟨⟨_, rfl⟩, HEND.out.drew⟩
end Go.Proofs.Ytkddkpdfeeikhaa

/-
  More steps of a hall in place: a queue is made, a queue is dropped.
-/
namespace Go.Proofs.Ytkddkpdfeeikhaa
open Go.RowKit Go.WideMaps Go.Maps
set_option linter.unusedVariables false
set_option linter.unusedSimpArgs false

section
variable {lo : Nat} {N X : Nat → Prop} {hb xb pb mb : Nat} {w : World} {v : Value} {L : QuL} {next : Int}

theorem HR.slice (H : HR lo N X w v L) : SliceQ (Under w.heap.size) w v (L.map Prod.fst) := by
  refine ⟨L, rfl, (own_slice H.row).sub fun b hb => ⟨(H.row.lt b hb).2, rfl⟩, fun x hx => ?_⟩
  obtain ⟨LI, e, ho, hn⟩ := H.items x hx
  exact ⟨LI, e, (own_slice ho).sub fun b hb => ⟨(ho.lt b hb).2, rfl⟩, fun y hy => (hn y hy).sub fun b hb => ⟨H.lt b (.inl hb), rfl⟩⟩

theorem JH.make (H : JH lo N hb xb pb mb w v L next) {w1 w2 : World} {o : Obj} {v' : Value} {q : QD} (hq : q.items = []) (h1 : w.grownBy w1 (some mb)) (hm : ∃ D : DataW Unit, w1.ownsMap Try.prog 9 (plainElem Try.prog 3) mb (L.length + 1) D ∧ PM D 0 (L.map Prod.fst ++ [q]))
    (ho : w2.ownsRow lo 76 3 v' (L.length + 1) (cellsQ L ++ q.cells (.slice none 0 0))) (h2 : (w1.alloc o).grownBy w2 v.ownBlock) (hat : ∀ b, v'.ownBlock = some b → v.ownBlock = some b ∨ w1.heap.size + 1 ≤ b) :
    JH lo N hb xb pb mb (w2.setCell ⟨hb, 0, none⟩ v') v' (L ++ [(q, .slice none 0 0)]) next ∧ Kept lo N w (w2.setCell ⟨hb, 0, none⟩ v') := by
  obtain ⟨D, hm, hp⟩ := hm
  have ne := H.ne
  have hz1 := h1.size
  have hz2 : w1.heap.size + 1 ≤ w2.heap.size := by have := h2.size; simpa using this
  have fmb : ∀ b, Foot v L b → b ≠ mb := fun b hf e => H.rows.off b (.inr (.inr (.inr (.inr e)))) hf
  have nmb : ∀ b, N b → b ≠ mb := fun b hf e => H.note b hf (.inr (.inr (.inr e)))
  have b1 : ∀ b, b < w.heap.size → b ≠ mb → w1.heap[b]? = w.heap[b]? := fun b hl hn => h1.block b hl (fun e => hn (by simpa using e))
  have b1' : ∀ b, b < w1.heap.size → (w1.alloc o).heap[b]? = w1.heap[b]? := fun b hl => Below.heap_alloc _ _ _ hl
  have HR1 : HR lo N (fun b => b = hb ∨ b = xb ∨ b = pb ∨ b = mb) (w1.alloc o) v L := H.rows.on (by simp; omega) fun b h => by
    rcases h with h | h
    · have hl := H.rows.lt b (.inl h)
      rw [b1' b (by omega), b1 b hl (nmb b h)]
    · have hl := (H.rows.foot_lt h).2
      rw [b1' b (by omega), b1 b hl (fmb b h)]
  have HR2 := HR1.make hq ho h2 (fun b e => (hat b e).imp id (fun h => by simpa using h))
  have far : ∀ b, b ≠ hb → (w2.setCell ⟨hb, 0, none⟩ v').heap[b]? = w2.heap[b]? := fun b h => Below.heap_setCell _ _ _ _ h
  have old : ∀ b, b < w1.heap.size → ¬ Foot v L b → w2.heap[b]? = w1.heap[b]? := fun b hl hn => by
    rw [h2.block b (by simp; omega) (fun e => hn (.inl e.symm)), b1' b hl]
  have offX : ∀ b, (b = hb ∨ b = xb ∨ b = pb) → w2.heap[b]? = w.heap[b]? := fun b h => by
    have hX : b = hb ∨ b = xb ∨ b = pb ∨ b = mb := by rcases h with h | h | h <;> simp [h]
    have hl := H.rows.lt b (.inr hX)
    have hne : b ≠ mb := by omega
    rw [old b (by omega) (H.rows.off b (.inr hX)), b1 b hl hne]
  refine ⟨⟨HR2.on (by simp) fun b h => far b ?_, ?_, (H.xbox.same (offX _ (.inr (.inl rfl)))).same (far _ (fun h => ne.1 h.symm)), (H.pbox.same (offX _ (.inr (.inr rfl)))).same (far _ (fun h => ne.2.1 h.symm)), ⟨D, ?_, ?_⟩, H.ne, H.los, H.note⟩, ⟨fun b h => ?_, ?_⟩⟩
  · rcases h with h | h
    · exact fun e => H.note b h (.inl e)
    · exact fun e => HR2.off b (.inr (.inl e)) h
  · exact (H.box.same (offX _ (.inl rfl))).set 0 _
  · have hml := hm.lt
    rw [List.length_append]
    obtain ⟨es, clock, k1, k2⟩ := hm
    refine ⟨es, clock, ?_, k2⟩
    rw [far _ (fun h => ne.2.2.1 h.symm), old mb hml (H.rows.off mb (.inr (.inr (.inr (.inr rfl))))), k1]
  · simpa using hp
  · have hl := H.rows.lt b (.inl h)
    rw [far b (fun e => H.note b h (.inl e)), old b (by omega) (H.rows.off b (.inl h)), b1 b hl (nmb b h)]
  · have e1 : Below lo w w1 := below_of_grownBy h1 H.lo_le (fun k h => by have := H.los.2.2.2; simp at h; omega)
    have e2 : Below lo (w1.alloc o) w2 := below_of_grownBy h2 (by have := H.lo_le; simp; omega) (fun k h => (H.rows.foot_lt (.inl h)).1)
    exact ((e1.alloc (by have := H.lo_le; omega) o).trans e2).setCell H.los.1 _

/-- A queue goes: the row is shorter, the map is made anew. -/
theorem JH.drop (H : JH lo N hb xb pb mb w v L next) {k n : Nat} (hk : k < L.length) {w1 : World} {v' : Value} (hn : n = (L.eraseIdx k).length) (ho : w1.ownsRow lo 76 3 v' n (cellsQ (L.eraseIdx k))) (h1 : w.grownBy w1 v.ownBlock) (hat : v'.ownBlock = v.ownBlock) :
    (HR lo N (fun b => b = hb ∨ b = xb ∨ b = pb ∨ b = mb) (w1.setCell ⟨hb, 0, none⟩ v') v' (L.eraseIdx k) ∧ Blk (w1.setCell ⟨hb, 0, none⟩ v') hb [v', .int .i64 next] ∧ Blk (w1.setCell ⟨hb, 0, none⟩ v') xb [.pointer (some ⟨hb, 0, none⟩)] ∧ Blk (w1.setCell ⟨hb, 0, none⟩ v') pb [.map (some mb)] ∧ Kept lo N w (w1.setCell ⟨hb, 0, none⟩ v')) ∧
    ∀ W : World, Below (w1.setCell ⟨hb, 0, none⟩ v').heap.size (w1.setCell ⟨hb, 0, none⟩ v') W → ∀ (mb' : Nat) (D : DataW Unit), w1.heap.size ≤ mb' → W.ownsMap Try.prog 9 (plainElem Try.prog 3) mb' (L.eraseIdx k).length D → PM D 0 ((L.eraseIdx k).map Prod.fst) →
      JH lo N hb xb pb mb' (W.setCell ⟨pb, 0, none⟩ (.map (some mb'))) v' (L.eraseIdx k) next ∧ Kept lo N w (W.setCell ⟨pb, 0, none⟩ (.map (some mb'))) := by
  have ne := H.ne
  have hz1 := h1.size
  have HR1 := H.rows.drop hk hn ho h1 hat
  have far : ∀ b, b ≠ hb → (w1.setCell ⟨hb, 0, none⟩ v').heap[b]? = w1.heap[b]? := fun b h => Below.heap_setCell _ _ _ _ h
  have old : ∀ b, b < w.heap.size → ¬ Foot v L b → w1.heap[b]? = w.heap[b]? := fun b hl hn => h1.block b hl (fun e => hn (.inl e.symm))
  have offX : ∀ b, (b = hb ∨ b = xb ∨ b = pb ∨ b = mb) → w1.heap[b]? = w.heap[b]? := fun b h => old b (H.rows.lt b (.inr h)) (H.rows.off b (.inr h))
  have HR2 : HR lo N (fun b => b = hb ∨ b = xb ∨ b = pb ∨ b = mb) (w1.setCell ⟨hb, 0, none⟩ v') v' (L.eraseIdx k) := HR1.on (by simp) fun b h => far b (by
    rcases h with h | h
    · exact fun e => H.note b h (.inl e)
    · exact fun e => HR1.off b (.inr (.inl e)) h)
  have B1 : Blk (w1.setCell ⟨hb, 0, none⟩ v') hb [v', .int .i64 next] := (H.box.same (offX _ (.inl rfl))).set 0 _
  have B2 : Blk (w1.setCell ⟨hb, 0, none⟩ v') xb [.pointer (some ⟨hb, 0, none⟩)] := (H.xbox.same (offX _ (.inr (.inl rfl)))).same (far _ (fun h => ne.1 h.symm))
  have B3 : Blk (w1.setCell ⟨hb, 0, none⟩ v') pb [.map (some mb)] := (H.pbox.same (offX _ (.inr (.inr (.inl rfl))))).same (far _ (fun h => ne.2.1 h.symm))
  have KK : Kept lo N w (w1.setCell ⟨hb, 0, none⟩ v') := ⟨fun b h => by rw [far b (fun e => H.note b h (.inl e)), old b (H.rows.lt b (.inl h)) (H.rows.off b (.inl h))], (below_of_grownBy h1 H.lo_le (fun k h => (H.rows.foot_lt (.inl h)).1)).setCell H.los.1 _⟩
  refine ⟨⟨HR2, B1, B2, B3, KK⟩, fun W hW mb' D hmb hm hp => ?_⟩
  have hzs : (w1.setCell ⟨hb, 0, none⟩ v').heap.size = w1.heap.size := by simp
  have hzW := hW.size
  rw [hzs] at hzW
  have lts : ∀ b, (b = hb ∨ b = xb ∨ b = pb ∨ b = mb) → b < w.heap.size := fun b h => H.rows.lt b (.inr h)
  have hhb := lts hb (.inl rfl)
  have hxb := lts xb (.inr (.inl rfl))
  have hpb := lts pb (.inr (.inr (.inl rfl)))
  have far2 : ∀ b, b ≠ pb → (W.setCell ⟨pb, 0, none⟩ (.map (some mb'))).heap[b]? = W.heap[b]? := fun b h => Below.heap_setCell _ _ _ _ h
  have HR3 : HR lo N (fun b => b = hb ∨ b = xb ∨ b = pb ∨ b = mb') W v' (L.eraseIdx k) := by
    refine (HR2.below hW).more (fun b h => h) fun b h => ?_
    rcases h with h | h | h | h | h
    · exact .inl (.inl h)
    · exact .inl (.inr (.inl h))
    · exact .inl (.inr (.inr (.inl h)))
    · exact .inl (.inr (.inr (.inr (.inl h))))
    · subst h
      refine .inr ⟨hm.lt, fun hf => ?_⟩
      have := (HR2.foot_lt hf).2
      omega
  refine ⟨⟨HR3.on (by simp) fun b h => far2 b ?_, (B1.below hW (by omega)).same (far2 _ ne.2.1), (B2.below hW (by omega)).same (far2 _ ne.2.2.2.1), ?_, ⟨D, ?_, hp⟩, ⟨ne.1, ne.2.1, by omega, ne.2.2.2.1, by omega, by omega⟩, ⟨H.los.1, H.los.2.1, H.los.2.2.1, by have := H.lo_le; omega⟩, fun b h hx => ?_⟩, ⟨fun b h => ?_, ?_⟩⟩
  · rcases h with h | h
    · exact fun e => H.note b h (.inr (.inr (.inl e)))
    · exact fun e => HR3.off b (.inr (.inr (.inr (.inl e)))) h
  · exact (B3.below hW (by omega)).set 0 _
  · obtain ⟨es, clock, k1, k2⟩ := hm
    exact ⟨es, clock, by rw [far2 _ (by omega)]; exact k1, k2⟩
  · rcases hx with hx | hx | hx | hx
    · exact H.note b h (.inl hx)
    · exact H.note b h (.inr (.inl hx))
    · exact H.note b h (.inr (.inr (.inl hx)))
    · have := H.rows.lt b (.inl h); omega
  · have hl := H.rows.lt b (.inl h)
    rw [far2 b (fun e => H.note b h (.inr (.inr (.inl e)))), hW.block b (by omega), KK.note b h]
  · exact (KK.bel.trans (hW.mono (by have := H.lo_le; omega))).setCell H.los.2.2.1 _
end
end Go.Proofs.Ytkddkpdfeeikhaa
