/-
  Late; Put: texts laid together.
-/
import Derived.Test.YtkddkpdfeeikhaaSsTagProofM03
import Derived.Test.YtkddkpdfeeikhaaSsTagProofM02
/-
  queue.Late, queue.Purge.
-/
namespace Go.Proofs.Ytkddkpdfeeikhaa
open Go.RowKit
set_option linter.unusedVariables false
set_option linter.unusedSimpArgs false

attribute [local go_sem ↓] Go.wp_at_zero Go.wp_at_succ

theorem SliceI.at {S : Nat → Prop} {w : World} {a : Option Addr} {n cap : Nat} {its : List IT} (h : SliceI S w (.slice a n cap) its) (k : Nat) (hk : k < its.length) :
    ∃ b off pa pc qa qc, a = some ⟨b, off, none⟩ ∧ S b ∧ NoteIs S w (.slice pa its[k].note.props.length pc, .slice qa its[k].note.body.length qc) its[k].note ∧ (w.cell? ⟨b, off + k * 7, none⟩ = some (.int .i64 its[k].id) ∧ w.cell? ⟨b, off + k * 7 + 1, none⟩ = some (.int .i64 its[k].turn) ∧ w.cell? ⟨b, off + k * 7 + 2, none⟩ = some (.int .i64 its[k].tries) ∧ w.cell? ⟨b, off + k * 7 + 3, none⟩ = some (.bool its[k].out)) ∧
      (w.cell? ⟨b, off + k * 7 + 4, none⟩ = some (.int .i64 its[k].due) ∧ w.cell? ⟨b, off + k * 7 + 5, none⟩ = some (.slice pa its[k].note.props.length pc) ∧ w.cell? ⟨b, off + k * 7 + 6, none⟩ = some (.slice qa its[k].note.body.length qc)) := by
  obtain ⟨L, rfl, hL⟩ := h
  have hk' : k < L.length := by simpa using hk
  obtain ⟨b, off, e, hS, ⟨c0, c1, c2, c3⟩, c4, c5, c6⟩ := hL.at k hk'
  have hn := hL.2 L[k] (List.getElem_mem hk')
  obtain ⟨pa, pc, e1, -⟩ := SliceV.shape hn.1
  obtain ⟨qa, qc, e2, -⟩ := SliceV.shape hn.2
  have hg : (L.map Prod.fst)[k] = L[k].1 := by simp
  rw [e1] at c5
  rw [e2] at c6
  rw [hg]
  refine ⟨b, off, pa, pc, qa, qc, e, hS, ?_, ⟨c0, c1, c2, c3⟩, c4, c5, c6⟩
  rw [← e1, ← e2]
  exact hn

def lateB (now : Int) (i : IT) : Bool := i.out && decide (i.due ≤ now)
theorem enter28 (args : Array Value) (W : World) : (callFunc 159 args).run Try.prog W = .ok (.enter 159 args) W := by go_simp
theorem info3 : (Try.prog.info? 3).map (fun i => (i.zero, i.size, i.bytes)) = some (some (.int .i64 0), 1, 8) := by kernel_rfl

def goneL (its : List IT) : List Int := (its.filter (fun i => !i.out)).map IT.id
def ints (l : List Int) : List Value := l.map (Value.int .i64)
theorem goneL_len (its : List IT) : (goneL its).length ≤ its.length := by
  have := List.length_filter_le (fun i : IT => !i.out) its
  simpa [goneL] using this
theorem goneL_snoc (its : List IT) (it : IT) : goneL (its ++ [it]) = goneL its ++ (if it.out then [] else [it.id]) := by
  cases h : it.out <;> simp [goneL, h]

/-- What Purge's function has made: the numbers of those that went, in the variable at G. -/
def GoneR (G : Nat) (its : List IT) (k : Nat) (W : World) (fp : Nat → Prop) : Prop :=
  ∃ gv, Blk W G [gv] ∧ W.ownsRow (G + 1) 3 1 gv (goneL (its.take k)).length (ints (goneL (its.take k))) ∧ ∀ b, fp b ↔ (b = G ∨ gv.ownBlock = some b)

section
variable {w : World} {ops : Array Oper} {rest : List Oper} {o : Oper} {a : Act} {Q : Exit → Act → World → Prop}
theorem wpList_appV (hgd : o.guard = none) (s x : Operand) (t : TypeId) (ho : o.op = .call { callee := .builtin .append, args := #[s, x], argTypes := #[t, t] })
    (e : TypeId) (i : TypeInfo) (z : Value) (size bytes : Nat) (ht : Try.prog.underlying t = some (.slice e)) (hi : Try.prog.info? e = some i) (hz : i.zero = some z)
    (hsize : i.size = size) (hby : i.bytes = bytes) (hzs : z.cells.size = size) (hsz : 0 < size)
    (base : Nat) (v : Value) (n : Nat) (xs : List Value) (hs : a.eval s = v) (hown : w.ownsRow base e size v n xs) (S : Nat → Prop) (u : Value) (m : Nat) (ys : List Value) (hx : a.eval x = u) (hu : SliceV S w u m ys) (hl : ys.length = m * size) (h1 : ∀ u ∈ ys, u.oneCell' = true)
    (h63 : n + m ≤ maxLen) (hb : (n + m) * bytes ≤ 140737488355328) (hbase : base ≤ w.heap.size)
    (h : ∀ ao cap w', w'.ownsRow base e size (.slice ao (n + m) cap) (n + m) (xs ++ ys) → w.grownBy w' v.ownBlock → Moved w v (.slice ao (n + m) cap) → wpList Try.prog ops Q rest (a.put o.dst (.slice ao (n + m) cap)) w') :
    wpList Try.prog ops Q (o :: rest) a w := by
  refine wpList_plain hgd fun K hK => ?_
  obtain ⟨ao, cap, w', hr, h1, h2, h3⟩ := run_appV w t o.type e i z size bytes ht hi hz hsize hby hzs hsz base v n xs hown S u m ys hu hl h1 h63 hb hbase
  exact wp_app_of s x ho hs hx hr (hK _ _ (h ao cap w' h1 h2 h3))
end

/-- A new row of one cell. -/
theorem one_slice (w : World) (x : Value) (t : TypeId) : SliceV (fun _ => True) (w.alloc (.cells #[x] t)) (.slice (some ⟨w.heap.size, 0, none⟩) 1 1) 1 [x] := by
  refine ⟨_, _, rfl, Nat.le_refl _, by simp [maxLen], fun h => by simp at h, fun i hi => ⟨w.heap.size, 0, rfl, trivial, ?_⟩⟩
  have : i = 0 := by simpa using hi
  subst this
  exact (Blk.new w [x] t).cell 0

theorem one_slice' (w : World) (x : Value) (t : TypeId) (g : Nat) (hg : w.heap.size = g) : SliceV (fun _ => True) (w.alloc (.cells #[x] t)) (.slice (some ⟨g, 0, none⟩) 1 1) 1 [x] := by
  subst hg; exact one_slice w x t

set_option maxRecDepth 100000 in
set_option maxHeartbeats 3200000 in
theorem gone_stays (G : Nat) (its : List IT) (hlen : its.length ≤ 4194304) : Stays 159 [.pointer (some ⟨G, 0, none⟩)] IT.out (GoneR G its) its := by
  obtain ⟨i0, hi0, hz0, hz1, hz2⟩ := info_parts info3
  refine ⟨enter28, fun k W W' fp h hz hb => ?_, fun k it hk va ua vn vc un uc W fp hR hf => ?_⟩
  · obtain ⟨gv, h1, h2, h3⟩ := h
    refine ⟨gv, h1.same (hb G ((h3 G).2 (.inl rfl))), ⟨h2.1, ?_⟩, h3⟩
    rcases h2.2 with h4 | ⟨g, cap, cur, e, hbg, hg, hr⟩
    · exact .inl h4
    · exact .inr ⟨g, cap, cur, e, hbg, (hb g ((h3 g).2 (.inr (by rw [e]; rfl)))).trans hg, hr⟩
  · obtain ⟨gv, h1, h2, h3⟩ := hR
    have htk : its.take (k + 1) = its.take k ++ [it] := by
      rw [List.take_add_one, hk]; rfl
    have hGl := h1.lt
    have hgn : (goneL (its.take k)).length ≤ 4194304 := by
      have := goneL_len (its.take k)
      simp at this; omega
    obtain ⟨ga, gc, rfl, -⟩ := own_shape h2
    have HT : Hid (goneL (its.take (k + 1)) = goneL (its.take k) ++ (if it.out then [] else [it.id])) := by rw [htk]; exact goneL_snoc _ _
    obtain ⟨gl, hgl⟩ : ∃ gl, gl = goneL (its.take k) := ⟨_, rfl⟩
    rw [← hgl] at h2 hgn HT
    have HO : Hid (W.ownsRow (G + 1) 3 1 (.slice ga gl.length gc) gl.length (ints gl)) := h2
    have H3 : Hid (∀ b, fp b ↔ (b = G ∨ (Value.slice ga gl.length gc).ownBlock = some b)) := by rw [hgl]; exact h3
    rw [← hgl] at h1
    obtain ⟨c0, c1, c2⟩ := h1.b1
    have H1 : Hid (Blk W G [.slice ga gl.length gc]) := h1
    have HG : Hid (∀ b, (Value.slice ga gl.length gc).ownBlock = some b → G + 1 ≤ b ∧ b < W.heap.size) := fun b hb => h2.lt b hb
    clear h1 h2 h3 hgl htk hk
    obtain ⟨id, turn, tries, out, due, note⟩ := it
    cases out
    · simp only
      have HT2 : Hid (goneL (its.take (k + 1)) = gl ++ [id]) := by
        have := HT.out
        simp at this
        exact this
      go_enter Try.func159, Try.ntmps159
      go_wp2_with (at_builtin; refine wpList_appV rfl (.tmp 7) (.tmp 10) 115 rfl 3 i0 _ 1 8 Try.underlying115 hi0 hz0 hz1 hz2 rfl (by omega) (G + 1) _ gl.length (ints gl) rfl (own_below (own_below HO.out (below_alloc _ _)) (below_alloc _ _)) (fun _ => True) (.slice (some ⟨W.heap.size + 1, 0, none⟩) 1 1) 1 [.int .i64 id] rfl (one_slice' _ _ _ _ (by simp)) rfl (by simp [Value.oneCell']) (by unfold maxLen; omega) (by omega) (by simp; omega) ?_; intro ao cap w2 ho2 hg2 hm2; have hbk : ∀ b, b < W.heap.size → (Value.slice ga gl.length gc).ownBlock ≠ some b → w2.heap[b]? = W.heap[b]? := (fun b hb hn => (hg2.block b (by simp; omega) (fun e => hn e.symm)).trans (((below_alloc _ _).alloc (by simp) _).block b hb)); have hkG := (H1.out.same (hbk G hGl (fun e => by have := (HG.out G e).1; omega))); have hz2' : W.heap.size + 1 + 1 ≤ w2.heap.size := (by have := hg2.size; simpa using this); obtain ⟨d0, d1, d2⟩ := hkG.b1; have hkI := (((Blk.new W _ 78).alloc _).same (hg2.block W.heap.size (by simp; omega) (fun e => by have := (HG.out _ e.symm).2; omega))); obtain ⟨⟨k0, k1, k2, k3⟩, ⟨k4, k5, k6⟩, k7, k8⟩ := hkI.b7)
      go_ret
      refine ⟨rfl, fun b => b = G ∨ (Value.slice ao (gl.length + 1) cap).ownBlock = some b, ⟨_, hkG.set 0 _, ?_, fun b => Iff.rfl⟩, fun b hb => ?_, ?_⟩
      · rw [HT2.out]
        have : ints (gl ++ [id]) = ints gl ++ [.int .i64 id] := by simp [ints]
        rw [this, List.length_append]
        exact ownsRow_setCell_below ho2 (by simp) _
      · rcases hb with rfl | hb
        · exact .inl ((H3.out _).2 (.inl rfl))
        · rcases hm2 b hb with h | h
          · exact .inl ((H3.out _).2 (.inr h))
          · simp at h
            have := (ho2.lt b hb).2
            exact .inr ⟨by omega, by simpa using this⟩
      · refine ⟨hg2.os, hg2.tape, hg2.output, by simp; omega, fun b hb => ?_⟩
        rw [Below.heap_setCell _ _ _ _ (fun e => hb.2 ((H3.out b).2 (.inl e)))]
        exact hbk b hb.1 (fun e => hb.2 ((H3.out b).2 (.inr e)))
    · simp only
      go_enter Try.func159, Try.ntmps159
      go_wp2
      go_ret
      refine ⟨rfl, fp, ⟨_, H1.out.alloc _, ?_, H3.out⟩, fun b hb => .inl hb, Keep.of (below_alloc _ _) (fun k h => h.1)⟩
      have := HT.out
      simp at this
      rw [this]
      exact own_below HO.out (below_alloc _ _)

set_option maxRecDepth 100000 in
set_option maxHeartbeats 3200000 in
theorem purge_new (v : Value) (name : ByteArray) (limit : Int) (its : List IT) (w : World) (hv : SliceI (Under w.heap.size) w v its) (hs : smallI its) :
    Calls Try.prog 146 #[.agg #[.string name, .int .i64 limit, v]] w fun e w' => ∃ v' u, e = .returned (.tuple #[.agg #[.string name, .int .i64 limit, v'], u]) ∧ SliceI (Made w.heap.size w'.heap.size) w' v' (its.filter IT.out) ∧ SliceV (Made w.heap.size w'.heap.size) w' u (goneL its).length (ints (goneL its)) ∧ Below w.heap.size w w' := by
  obtain ⟨L, e, hL⟩ := hv
  subst e
  obtain ⟨hs1, hs2⟩ := hs
  have HL : Hid (SliceL (Under w.heap.size) w v L) := hL
  have HS : Hid (∀ x ∈ L, x.1.note.small) := fun x hx => hs2 _ (List.mem_map_of_mem hx)
  have HGS : Hid (Stays 159 [.pointer (some ⟨w.heap.size + 1 + 1, 0, none⟩)] IT.out (GoneR (w.heap.size + 1 + 1) (L.map Prod.fst)) (L.map Prod.fst)) := gone_stays _ _ hs1
  obtain ⟨va, vc, rfl, -⟩ := hL.1.shape
  have hlen : L.length ≤ 4194304 := by simpa using hs1
  clear hL hs2 hs1
  have three : Hid (∀ o1 o2 o3 : Obj, Below w.heap.size w (((w.alloc o1).alloc o2).alloc o3)) := fun o1 o2 o3 => ((below_alloc _ _).alloc (by simp) _).alloc (by simp; omega) _
  have HR0 : Hid (∀ o1 o2, GoneR (w.heap.size + 1 + 1) (L.map Prod.fst) 0 (((w.alloc o1).alloc o2).alloc (.cells #[.slice none 0 0] 115)) (fun b => b = w.heap.size + 1 + 1)) := fun o1 o2 => by
    refine ⟨.slice none 0 0, ?_, World.ownsRow_nil _ _ _ _, fun b => by simp [Value.ownBlock]⟩
    have := Blk.new ((w.alloc o1).alloc o2) [.slice none 0 0] 115
    simpa using this
  go_enter Try.func146, Try.ntmps146
  go_wp2_with (go_at_call 109; refine (kept_any 159 [.pointer (some ⟨w.heap.size + 1 + 1, 0, none⟩)] IT.out (GoneR (w.heap.size + 1 + 1) (L.map Prod.fst)) (fun b => b = w.heap.size + 1 + 1) _ name limit L _ (HL.out.sub fun k hk => ⟨⟨?_, ?_⟩, (three.out _ _ _).block k hk⟩) HS.out hlen HGS.out (HR0.out _ _) (fun b h => ?_)).mono ?_; (simp [Under] at hk ⊢; omega); (simp [Under] at hk ⊢; omega); (subst h; simp); rintro e w1 ⟨vi, L', fp, rfl, hm1, ho1, hn1, hk1, hr1, hf1⟩; simp only [World.size_alloc] at ho1 hn1 hf1; obtain ⟨xa, xc, rfl, -⟩ := own_shape ho1; obtain ⟨gv, hg1, hgo, hgf⟩ := hr1; obtain ⟨ga, gc, rfl, -⟩ := own_shape hgo; have hz1 := hk1.size; simp only [World.size_alloc] at hz1; have hbk : ∀ b, b < w.heap.size + 1 + 1 → w1.heap[b]? = _ := (fun b hb => hk1.block b ⟨by simp; omega, by omega⟩); have hk2 := (((Blk.new (w.alloc _) _ 76).alloc _).same (hbk _ (by simp))); simp only [World.size_alloc] at hk2; have HB1 : Hid (Below w.heap.size w w1) := (three.out _ _ _).trans ⟨hk1.os, hk1.tape, hk1.output, hk1.size, fun b hb => hbk b (by omega)⟩; have hgw : w.heap.size + 1 + 1 < w1.heap.size := hg1.lt)
  have htk : (L.map Prod.fst).take L.length = L.map Prod.fst := List.take_of_length_le (by simp)
  rw [htk] at hg1 hgo
  obtain ⟨gl, hgl⟩ : ∃ gl, gl = goneL (L.map Prod.fst) := ⟨_, rfl⟩
  rw [← hgl] at hg1 hgo
  have HG : Hid (gl = goneL (L.map Prod.fst)) := hgl
  have HM : Hid (L'.map Prod.fst = (L.map Prod.fst).filter IT.out) := hm1
  obtain ⟨W2, hW2⟩ : ∃ W2, W2 = w1.alloc (.cells #[.string name, .int .i64 limit, .slice xa L'.length xc] 76) := ⟨_, rfl⟩
  have hzW : W2.heap.size = w1.heap.size + 1 := by rw [hW2]; simp
  have hbW : Below w1.heap.size w1 W2 := by rw [hW2]; exact below_alloc _ _
  have hq : Blk W2 w1.heap.size [.string name, .int .i64 limit, .slice xa L'.length xc] := by rw [hW2]; exact Blk.new _ _ _
  have HO : Hid (W2.ownsRow (w.heap.size + 1 + 1 + 1 + 3) 78 7 (.slice xa L'.length xc) L'.length (cellsI L')) := own_below ho1 hbW
  have HN : Hid (∀ x ∈ L', NoteIs (fun b => w.heap.size + 1 + 1 + 1 + 3 ≤ b ∧ b < w1.heap.size) W2 x.2 x.1.note) := fun x hx => (hn1 x hx).sub fun b hb => ⟨⟨hb.1, hb.2.1⟩, hbW.block b hb.2.1⟩
  have HGO : Hid (W2.ownsRow (w.heap.size + 1 + 1 + 1) 3 1 (.slice ga gl.length gc) gl.length (ints gl)) := own_below hgo hbW
  have HB2 : Hid (Below w.heap.size w W2) := HB1.out.trans (hbW.mono (by omega))
  obtain ⟨a0, a1, a2, a3, a4⟩ := hq.b3
  obtain ⟨b0, b1, b2, b3, b4⟩ := (hk2.below hbW (by omega)).b3
  obtain ⟨c0, c1, c2⟩ := (hg1.below hbW (by omega)).b1
  rw [← hW2]
  clear hW2 hq hk2 hg1 hgo ho1 hn1 hk1 hbk hgl hm1 hgf hf1 hbW htk HL HGS HR0 HB1
  go_region_law (fail)
  all_goals
    go_wp2
    refine bodyPost_ret (v := .tuple #[.agg #[.string name, .int .i64 limit, .slice xa L'.length xc], .slice ga gl.length gc]) (by simp [results, Try.results146, go_sem, *]; done) rfl ⟨.slice xa L'.length xc, .slice ga gl.length gc, rfl, ?_, ?_, ?_⟩
    · refine ⟨L', HM.out, (own_slice HO.out).sub fun k hk => ?_, fun x hx => (HN.out x hx).sub fun k hk => ?_⟩
      · have h1 := HO.out.lt k hk
        refine ⟨⟨by omega, by simpa using h1.2⟩, ?_⟩
        show (((W2.setCell _ _).setCell _ _).setCell _ _).heap[k]? = _
        iterate 3 rw [Below.heap_setCell _ _ _ _ (by simp; omega)]
      · refine ⟨⟨by omega, by simp; omega⟩, ?_⟩
        show (((W2.setCell _ _).setCell _ _).setCell _ _).heap[k]? = _
        iterate 3 rw [Below.heap_setCell _ _ _ _ (by simp; omega)]
    · rw [← HG.out]
      refine (own_slice HGO.out).sub fun k hk => ?_
      have h1 := HGO.out.lt k hk
      refine ⟨⟨by omega, by simpa using h1.2⟩, ?_⟩
      show (((W2.setCell _ _).setCell _ _).setCell _ _).heap[k]? = _
      iterate 3 rw [Below.heap_setCell _ _ _ _ (by simp; omega)]
    · refine Below.drew ?_
      iterate 3 refine Below.setCell ?_ (by simp <;> omega) _
      exact HB2.out

end Go.Proofs.Ytkddkpdfeeikhaa

/-
  queue.Put.
-/
namespace Go.Proofs.Ytkddkpdfeeikhaa
open Go.RowKit
set_option linter.unusedVariables false
set_option linter.unusedSimpArgs false

attribute [local go_sem ↓] Go.wp_at_zero Go.wp_at_succ

def newI (id : Int) (n : ND) : IT := ⟨id, 0, 0, false, 0, n⟩

theorem SliceI.shape {S : Nat → Prop} {w : World} {v : Value} {its : List IT} (h : SliceI S w v its) : ∃ a cap, v = .slice a its.length cap ∧ its.length ≤ cap ∧ cap ≤ maxLen ∧ (a = none → cap = 0) := by
  obtain ⟨L, rfl, h, -⟩ := h
  obtain ⟨a, cap, rfl, h1, h2, h3⟩ := h.shape
  exact ⟨a, cap, by simp, by simpa using h1, h2, h3⟩

set_option maxRecDepth 100000 in
set_option maxHeartbeats 3200000 in
theorem put_full (v pv bv : Value) (name : ByteArray) (limit id : Int) (its : List IT) (w : World) (hv : SliceI (Under w.heap.size) w v its) (hf : limit ≤ its.length) (hsp : ∃ a n c, pv = .slice a n c) (hsb : ∃ a n c, bv = .slice a n c) :
    Calls Try.prog 158 #[.agg #[.string name, .int .i64 limit, v], .int .i64 id, .agg #[pv, bv]] w fun e w' => e = .returned (.tuple #[.agg #[.string ⟨#[]⟩, .int .i64 0, .slice none 0 0], .int .i64 8]) ∧ Below w.heap.size w w' := by
  obtain ⟨va, vc, rfl, h1, h2, -⟩ := hv.shape
  obtain ⟨pa, pn, pc, rfl⟩ := hsp
  obtain ⟨ba, bn, bc, rfl⟩ := hsb
  clear hv
  unfold maxLen at h2
  go_enter Try.func158, Try.ntmps158
  go_wp2
  refine bodyPost_ret (v := .tuple #[.agg #[.string ⟨#[]⟩, .int .i64 0, .slice none 0 0], .int .i64 8]) (by simp [results, Try.results158, go_sem, *]; done) rfl ⟨rfl, ?_⟩
  exact ((below_alloc _ _).alloc (by simp) _).alloc (by simp; omega) _

theorem put_end {w w1 W1 w2 w3 W' : World} {o : Obj} {v : Value} {L : ItL} {its : List IT} {id : Int} {n : ND} {q : Value × Value} {gg cap : Nat} (hB : Below w.heap.size w w1) (hz : w.heap.size + 3 ≤ w1.heap.size) (hL : L.map Prod.fst = its)
    (ho : w1.ownsRow (w.heap.size + 3) 78 7 v L.length (cellsI L)) (hn : ∀ x ∈ L, NoteIs (fun b => w.heap.size + 3 ≤ b ∧ b < w1.heap.size ∧ v.ownBlock ≠ some b) w1 x.2 x.1.note)
    (hb1 : Below w1.heap.size w1 W1) (hz1 : W1.heap.size = w1.heap.size + 1) (hb2 : Below W1.heap.size W1 w2) (hn2 : NoteIs (Made W1.heap.size w2.heap.size) w2 q n)
    (ho3 : w3.ownsRow (w.heap.size + 3) 78 7 (.slice (some ⟨gg, 0, none⟩) (L.length + 1) cap) (L.length + 1) (cellsI L ++ (newI id n).cells q)) (hg3 : (w2.alloc o).grownBy w3 v.ownBlock) (hat : v.ownBlock = some gg ∨ gg = w2.heap.size + 1)
    (hW : Keep (fun b => b ≠ w1.heap.size ∧ b ≠ w.heap.size + 1 + 1) w3 W') :
    SliceI (Made w.heap.size W'.heap.size) W' (.slice (some ⟨gg, 0, none⟩) (L.length + 1) cap) (its ++ [newI id n]) ∧ Below w.heap.size w W' := by
  have z2 := hb2.size
  have z3 : w2.heap.size + 1 ≤ w3.heap.size := by have := hg3.size; simpa using this
  have zW := hW.size
  have hown : ∀ b, v.ownBlock = some b → w.heap.size + 3 ≤ b ∧ b < w1.heap.size := fun b hb => ho.lt b hb
  have blk : ∀ b, b < w2.heap.size → v.ownBlock ≠ some b → w3.heap[b]? = w2.heap[b]? := fun b hb hn => (hg3.block b (by simp; omega) (fun e => hn e.symm)).trans (Below.heap_alloc _ _ _ hb)
  have blk1 : ∀ b, b < w1.heap.size → v.ownBlock ≠ some b → w3.heap[b]? = w1.heap[b]? := fun b hb hn => (blk b (by omega) hn).trans ((hb2.block b (by omega)).trans (hb1.block b hb))
  refine ⟨⟨L ++ [(newI id n, q)], by simp [hL], ?_, fun x hx => ?_⟩, ?_⟩
  · have h1 := own_slice ho3
    rw [List.length_append, cellsI_snoc]
    refine h1.sub fun k hk => ?_
    simp only [Value.ownBlock, Option.some.injEq] at hk
    subst hk
    have hk3 := ho3.lt gg rfl
    refine ⟨?_, hW.block gg ⟨?_, by omega⟩⟩
    · exact ⟨by omega, by omega⟩
    · rcases hat with h | h
      · have := (hown gg h).2; omega
      · omega
  · rw [List.mem_append, List.mem_singleton] at hx
    rcases hx with hx | rfl
    · refine (hn x hx).sub fun b hb => ⟨?_, (hW.block b ⟨by omega, by omega⟩).trans (blk1 b hb.2.1 hb.2.2)⟩
      exact ⟨by omega, by omega⟩
    · refine hn2.sub fun b hb => ?_
      obtain ⟨h1, h2⟩ := hb
      refine ⟨?_, (hW.block b ⟨by omega, by omega⟩).trans (blk b h2 (fun e => by have := (hown b e).2; omega))⟩
      exact ⟨by omega, by omega⟩
  · refine hB.trans ⟨?_, ?_, ?_, by omega, fun b hb => (hW.block b ⟨by omega, by omega⟩).trans (blk1 b (by omega) (fun e => by have := (hown b e).1; omega))⟩
    · exact hW.os.trans (hg3.os.trans (hb2.os.trans hb1.os))
    · exact hW.tape.trans (hg3.tape.trans (hb2.tape.trans hb1.tape))
    · exact hW.output.trans (hg3.output.trans (hb2.output.trans hb1.output))

set_option maxRecDepth 100000 in
set_option maxHeartbeats 3200000 in
theorem put_new (v pv bv : Value) (name : ByteArray) (limit id : Int) (its : List IT) (n : ND) (w : World) (hv : SliceI (Under w.heap.size) w v its) (hs : smallI its) (hn : NoteIs (Under w.heap.size) w (pv, bv) n) (hsm : n.small) (hf : ¬ limit ≤ (its.length : Int)) :
    Calls Try.prog 158 #[.agg #[.string name, .int .i64 limit, v], .int .i64 id, .agg #[pv, bv]] w fun e w' => ∃ v', e = .returned (.tuple #[.agg #[.string name, .int .i64 limit, v'], .int .i64 0]) ∧ SliceI (Made w.heap.size w'.heap.size) w' v' (its ++ [newI id n]) ∧ Below w.heap.size w w' := by
  obtain ⟨i0, hi0, hz0, hz1, hz2⟩ := info_parts info34
  have HV : Hid (SliceI (Under w.heap.size) w v its) := hv
  have HN : Hid (NoteIs (Under w.heap.size) w (pv, bv) n) := hn
  have HS : Hid (smallI its) := hs
  have HM : Hid n.small := hsm
  have hlen := hs.1
  obtain ⟨va, vc, rfl, h1, h2, -⟩ := hv.shape
  obtain ⟨pa, pc, rfl, -⟩ := SliceV.shape hn.1
  obtain ⟨ba, bc, rfl, -⟩ := SliceV.shape hn.2
  unfold maxLen at h2
  clear hv hn hs hsm
  have three : Hid (∀ o1 o2 o3 : Obj, Below w.heap.size w (((w.alloc o1).alloc o2).alloc o3)) := fun o1 o2 o3 => ((below_alloc _ _).alloc (by simp) _).alloc (by simp; omega) _
  go_enter Try.func158, Try.ntmps158
  go_wp2_with (first
    | (go_at_call 87; refine (own_any _ name limit its _ (HV.out.sub fun k hk => ⟨?_, (three.out _ _ _).block k hk⟩) HS.out).mono ?_; (simp [Under] at hk ⊢; omega); rintro e w1 ⟨vi, rfl, ho1, hb1⟩; obtain ⟨L, hL, how, hnw⟩ := ho1.mono (base' := w.heap.size + 3) (by simp); obtain ⟨xa, xc, rfl, -⟩ := own_shape how; have hz1' := hb1.size; simp only [World.size_alloc] at hz1'; have HB1 : Hid (Below w.heap.size w w1) := (three.out _ _ _).trans (hb1.mono (by simp; omega)); have hblk1 := (((Blk.new (w.alloc _) _ 28).alloc _).below hb1 (by simp)); have hblk2 := ((Blk.new ((w.alloc _).alloc _) _ 76).below hb1 (by simp)); simp only [World.size_alloc] at hblk1 hblk2; obtain ⟨b0, b1, b2, b3⟩ := hblk1.b2; obtain ⟨c0, c1, c2, c3, c4⟩ := hblk2.b3; have HL : Hid (L.map Prod.fst = its) := hL; have hLn : L.length ≤ 4194304 := (by have := congrArg List.length hL; simp at this; omega); have HO : Hid (w1.ownsRow (w.heap.size + 3) 78 7 (.slice xa L.length xc) L.length (cellsI L)) := how; have HW : Hid (∀ x ∈ L, NoteIs (fun b => w.heap.size + 3 ≤ b ∧ b < w1.heap.size ∧ (Value.slice xa L.length xc).ownBlock ≠ some b) w1 x.2 x.1.note) := hnw; have HZ : Hid _ := And.intro hblk1 hblk2; have HN1 : Hid (NoteIs (Under w1.heap.size) w1 (.slice pa n.props.length pc, .slice ba n.body.length bc) n) := HN.out.sub (fun k hk => ⟨Nat.lt_of_lt_of_le hk (by omega), HB1.out.block k hk⟩); clear hL how hnw hblk1 hblk2 ho1 hb1))
  obtain ⟨W1, hW1⟩ : ∃ W1, W1 = (w1.alloc (.cells #[.string name, .int .i64 limit, .slice xa L.length xc] 76)) := ⟨_, rfl⟩
  have hzW : W1.heap.size = w1.heap.size + 1 := by rw [hW1]; simp
  have hbW : Below w1.heap.size w1 W1 := by rw [hW1]; exact below_alloc _ _
  have hoW : Blk W1 w1.heap.size [.string name, .int .i64 limit, .slice xa L.length xc] := by rw [hW1]; exact Blk.new _ _ _
  rw [← hW1]
  clear hW1
  obtain ⟨d0, d1, d2, d3⟩ := (HZ.out.1.below hbW b3).b2
  obtain ⟨f0, f1, f2, f3, f4⟩ := (HZ.out.2.below hbW c4).b3
  obtain ⟨g0, g1, g2, g3, g4⟩ := hoW.b3
  have HOW : Hid (w1.ownsRow (w.heap.size + 3) 78 7 (.slice xa L.length xc) L.length (cellsI L) ∧ Below w1.heap.size w1 W1 ∧ Blk W1 w1.heap.size [.string name, .int .i64 limit, .slice xa L.length xc]) := ⟨HO.out, hbW, hoW⟩
  clear hbW hoW b0 b1 b2 c0 c1 c2 c3
  go_region_law (first
    | (go_simp; go_at_call 60; refine (noteOwn_any _ _ n HM.out _ ?_).mono ?_; (exact HN1.out.sub fun b hb => ⟨Nat.lt_of_lt_of_le hb HOW.out.2.1.size, HOW.out.2.1.block b hb⟩); rintro e w2 ⟨⟨q1, q2⟩, rfl, hn2, hb2⟩; obtain ⟨ra, rc, rfl, -⟩ := SliceV.shape hn2.1; obtain ⟨sa, sc, rfl, -⟩ := SliceV.shape hn2.2; have hb2' : Below W1.heap.size W1 w2 := ⟨hb2.os, hb2.tape, hb2.output, hb2.size, hb2.block⟩; have hn2' : NoteIs (Made W1.heap.size w2.heap.size) w2 (.slice ra n.props.length rc, .slice sa n.body.length sc) n := hn2; have hz2' := hb2'.size; obtain ⟨k0, k1, k2, k3, k4⟩ := (HOW.out.2.2.below hb2' (by omega)).b3; have HO2 : Hid (w2.ownsRow (w.heap.size + 3) 78 7 (.slice xa L.length xc) L.length (cellsI L)) := own_below HOW.out.1 (HOW.out.2.1.trans (hb2'.mono (by omega))); clear hn2 hb2)
    | (refine step_append_lies _ (by rfl) _ _ _ (by rfl) (w.heap.size + 3) 78 i0 _ 7 88 Try.underlying74 hi0 hz0 hz1 hz2 rfl (by omega) (.slice xa L.length xc) L.length (cellsI L) (by rfl) (own_below HO2.out (below_alloc _ _)) ⟨w2.heap.size, 0, none⟩ 1 1 ((newI id n).cells (.slice ra n.props.length rc, .slice sa n.body.length sc)) (by rfl) (by rfl) (World.news_of_block (cs := #[.int .i64 id, .int .i64 0, .int .i64 0, .bool false, .int .i64 0, .slice ra n.props.length rc, .slice sa n.body.length sc]) (t := 78) (fr := (0, 0)) (heap_alloc_new w2 _)) (by simp [IT.cells, newI, Value.oneCell']) (by omega) (by unfold maxLen; omega) (by omega) (by simp; omega) (w2.heap.size + 1) (by simp) ?_; intro gg cap w3 hown3 hg3 hat3 hlt3; have hblk3 := (((HOW.out.2.2.below hb2' (by omega)).alloc (.cells #[.int .i64 id, .int .i64 0, .int .i64 0, .bool false, .int .i64 0, .slice ra n.props.length rc, .slice sa n.body.length sc] 78)).same (hg3.block _ (by simp; omega) (fun e => by have := (HO.out.lt _ e.symm).2; omega))); obtain ⟨t0, t1, t2, t3, t4⟩ := hblk3.b3; have hblk4 := ((((HZ.out.2.below HOW.out.2.1 c4).below hb2' (by omega)).alloc (.cells #[.int .i64 id, .int .i64 0, .int .i64 0, .bool false, .int .i64 0, .slice ra n.props.length rc, .slice sa n.body.length sc] 78)).same (hg3.block _ (by simp; omega) (fun e => by have := (HO.out.lt _ e.symm).1; omega))); obtain ⟨m0, m1, m2, m3, m4⟩ := hblk4.b3))
  all_goals
    clear d0 d1 d2 d3 f0 f1 f2 f3 g0 g1 g2 g3 hblk3 hblk4
    have HE : Hid (∀ W', Keep (fun b => b ≠ w1.heap.size ∧ b ≠ w.heap.size + 1 + 1) w3 W' → SliceI (Made w.heap.size W'.heap.size) W' (.slice (some ⟨gg, 0, none⟩) (L.length + 1) cap) (its ++ [newI id n]) ∧ Below w.heap.size w W') := fun W' hW => put_end HB1.out (by omega) HL.out HO.out HW.out HOW.out.2.1 hzW hb2' hn2' hown3 hg3 hat3 hW
    clear hown3 hg3 hat3 hb2' hn2' HO2 HOW HO HW HZ HN1 HN HB1
    go_wp2
    refine bodyPost_ret (v := .tuple #[.agg #[.string name, .int .i64 limit, .slice (some ⟨gg, 0, none⟩) (L.length + 1) cap], .int .i64 0]) (by simp [results, Try.results158, go_sem, *]; done) rfl ⟨_, rfl, HE.out _ ⟨rfl, rfl, rfl, by simp, fun b hb => ?_⟩⟩
    iterate 4 rw [Below.heap_setCell _ _ _ _ (by first | exact hb.1 | exact hb.2)]

end Go.Proofs.Ytkddkpdfeeikhaa
