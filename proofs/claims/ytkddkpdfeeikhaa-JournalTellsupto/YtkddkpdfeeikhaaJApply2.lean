/-
  The function that applyTo answers: a queue is dropped, items are gone.
-/
import Derived.Test.YtkddkpdfeeikhaaJApply
namespace Go.Proofs.Ytkddkpdfeeikhaa
open Go.RowKit Go.WideMaps Go.Maps
set_option linter.unusedVariables false
set_option linter.unusedSimpArgs false

attribute [local go_sem ↓] Go.wp_at_zero Go.wp_at_succ

/-- Behind the row's deletion: what stands in the world W2, and what is there when the map is made anew. -/
def DropAns (lo : Nat) (N : Nat → Prop) (hb xb pb : Nat) (w W2 : World) (v' : Value) (L' : QuL) (next : Int) : Prop :=
  (SliceQ (Under W2.heap.size) W2 v' (L'.map Prod.fst) ∧ Blk W2 hb [v', .int .i64 next] ∧ Blk W2 xb [.pointer (some ⟨hb, 0, none⟩)] ∧ ∃ mb, Blk W2 pb [.map (some mb)]) ∧
  ∀ W : World, Below W2.heap.size W2 W → ∀ (mb' : Nat) (D : DataW Unit), W2.heap.size ≤ mb' → W.ownsMap Try.prog 9 (plainElem Try.prog 3) mb' L'.length D → PM D 0 (L'.map Prod.fst) →
    StepAns lo N hb xb pb w ⟨L'.map Prod.fst, next⟩ (W.setCell ⟨pb, 0, none⟩ (.map (some mb')))

theorem JH.dropA {lo : Nat} {N : Nat → Prop} {hb xb pb mb : Nat} {w : World} {v : Value} {L : QuL} {next : Int} (H : JH lo N hb xb pb mb w v L next) {k n : Nat} (hk : k < L.length) {w1 : World} {v' : Value} (hn : n = (L.eraseIdx k).length) (ho : w1.ownsRow lo 76 3 v' n (cellsQ (L.eraseIdx k))) (h1 : w.grownBy w1 v.ownBlock) (hat : v'.ownBlock = v.ownBlock) :
    DropAns lo N hb xb pb w (w1.setCell ⟨hb, 0, none⟩ v') v' (L.eraseIdx k) next := by
  obtain ⟨⟨k1, k2, k3, k4, k5⟩, k6⟩ := H.drop hk hn ho h1 hat
  refine ⟨⟨k1.slice, k2, k3, mb, k4⟩, fun W hW mb' D hm h2 h3 => ?_⟩
  obtain ⟨j1, j2⟩ := k6 W hW mb' D (by simpa using hm) h2 h3
  exact ⟨N, mb', v', _, ⟨fun _ h => h, fun _ h => .inl h⟩, rfl, j1, j2⟩


set_option maxRecDepth 100000 in
set_option maxHeartbeats 3200000 in
theorem apply_drop {lo : Nat} {N : Nat → Prop} {hb xb pb mb : Nat} {w : World} {v : Value} {L : QuL} {next : Int} (H : JH lo N hb xb pb mb w v L next) (kind : Int) (queue : ByteArray) (en id : Int) (nt : ND) (pv bv : Value) (hnt : NoteIs (Under w.heap.size) w (pv, bv) nt) (hq : queue.size ≤ maxLen) (hlen : L.length < 4194304) (k : Nat) (hk : k < L.length) (hix : (L.map Prod.fst).findIdx? (nameB queue) = some k) (hkd : kind = 2) (hnm : ∀ x ∈ L, x.1.name.size ≤ maxLen) :
    Calls Try.prog 78 #[.agg #[.int .i64 kind, .string queue, .int .i64 en, .int .i64 id, pv, bv], .pointer (some ⟨pb, 0, none⟩), .pointer (some ⟨xb, 0, none⟩)] w fun r w' => (∃ u, r = .returned u) ∧ StepAns lo N hb xb pb w ⟨(L.map Prod.fst).eraseIdx k, next⟩ w' := by
  obtain ⟨D, hmap, hpm⟩ := H.map
  obtain ⟨pa, pc, rfl, -⟩ := SliceV.shape hnt.1
  obtain ⟨ba, bc, rfl, -⟩ := SliceV.shape hnt.2
  obtain ⟨va, vc, rfl, hv1, hv2, -⟩ := own_shape H.rows.row
  obtain ⟨n, hn⟩ : ∃ n, n = L.length := ⟨_, rfl⟩
  have HLN : Hid (n = L.length) := hn
  have hlo := H.lo_le
  obtain ⟨A, hA⟩ : ∃ A, A = w.alloc (.cells #[.int .i64 kind, .string queue, .int .i64 en, .int .i64 id, .slice pa nt.props.length pc, .slice ba nt.body.length bc] 30) := ⟨_, rfl⟩
  have hAz : A.heap.size = w.heap.size + 1 := by rw [hA]; simp
  have hAB : Below w.heap.size w A := by rw [hA]; exact below_alloc _ _
  have hAE : Blk A w.heap.size [.int .i64 kind, .string queue, .int .i64 en, .int .i64 id, .slice pa nt.props.length pc, .slice ba nt.body.length bc] := by rw [hA]; exact Blk.new _ _ _
  have a0 : ∀ o, A.frozen? ⟨w.heap.size, o, none⟩ = false := hAE.f
  have a1 : A.cell? ⟨w.heap.size, 0, none⟩ = some (.int .i64 kind) := hAE.cell 0
  have a2 : A.cell? ⟨w.heap.size, 1, none⟩ = some (.string queue) := hAE.cell 1
  have a3 : A.cell? ⟨w.heap.size, 2, none⟩ = some (.int .i64 en) := hAE.cell 2
  have a4 : A.cell? ⟨w.heap.size, 3, none⟩ = some (.int .i64 id) := hAE.cell 3
  have a5 : A.cell? ⟨w.heap.size, 4, none⟩ = some (.slice pa nt.props.length pc) := hAE.cell 4
  have a6 : A.cell? ⟨w.heap.size, 5, none⟩ = some (.slice ba nt.body.length bc) := hAE.cell 5
  have HJA := H.below hAB
  obtain ⟨DA, hmapA, hpmA⟩ := HJA.map
  have HMA : Hid (∀ W : World, W.heap[mb]? = A.heap[mb]? → W.ownsMap Try.prog 9 (plainElem Try.prog 3) mb n DA) := by
    show ∀ W : World, W.heap[mb]? = A.heap[mb]? → _
    intro W hW
    rw [hn]
    obtain ⟨es, clock, h1, h2⟩ := hmapA
    exact ⟨es, clock, hW.trans h1, h2⟩
  have hkey : keyOf Try.prog 9 (.string queue) = some (keyS queue) := keyOf_string_mk Try.underlying9 hq
  have HPM : Hid (PM DA 0 (L.map Prod.fst) ∧ IsMap DA) := ⟨hpmA, (hmapA.tidy keyed9).isMap⟩
  obtain ⟨p0, p1, p2⟩ := HJA.pbox.b1
  obtain ⟨x0, x1, x2⟩ := HJA.xbox.b1
  obtain ⟨b0, b1, b2, b3⟩ := HJA.box.b2
  rw [← hn] at b0
  have HF : Hid (∀ {w' : World} {h : HD}, StepAns lo N hb xb pb A h w' → StepAns lo N hb xb pb w h w') := fun {_ _} h => StepAns.from hlo (fun b hb => H.rows.lt b (.inl hb)) hAB h
  have HJ : Hid (JH lo N hb xb pb mb A (.slice va n vc) L next) := by rw [hn]; exact HJA
  have HNT : Hid (NoteIs (Under A.heap.size) A (.slice pa nt.props.length pc, .slice ba nt.body.length bc) nt) := hnt.sub fun b hb => ⟨Nat.lt_of_lt_of_le hb hAB.size, hAB.block b hb⟩
  have HAE : Hid (Blk A w.heap.size [.int .i64 kind, .string queue, .int .i64 en, .int .i64 id, .slice pa nt.props.length pc, .slice ba nt.body.length bc]) := hAE
  have hwA : w.heap.size < A.heap.size := by omega
  have HOLI : Hid (∀ b, (∃ x ∈ L, x.2.ownBlock = some b) → b < w.heap.size) := fun b e => (H.rows.foot_lt (.inr e)).2
  have HOLD : Hid (∀ b, (Value.slice va n vc).ownBlock = some b → b < w.heap.size) := fun b e => (H.rows.foot_lt (.inl (by rw [hn] at e; exact e))).2
  have HJB : Hid (mb < w.heap.size ∧ hb < w.heap.size ∧ xb < w.heap.size ∧ pb < w.heap.size) := ⟨hmap.lt, H.box.lt, H.xbox.lt, H.pbox.lt⟩
  have hlenn : n < 4194304 := by omega
  have hhas : Maps.has DA (keyS queue) = true := by
    rw [(HPM.out.1 queue).1, List.any_eq_true]
    obtain ⟨hk2, hp, -⟩ := List.findIdx?_eq_some_iff_getElem.1 hix
    exact ⟨_, List.getElem_mem hk2, hp⟩
  have HAT : Hid (∀ c : Int, DA.atKey (keyS queue) (.lit (.int .i64 0)) = .lit (.int .i64 c) → c = k) := fun c hc => by
    have h := (HPM.out.1 queue).2 k hix
    rw [h] at hc
    simp at hc
    omega
  obtain ⟨g, rfl⟩ : ∃ g, va = some ⟨g, 0, none⟩ := by
    rcases HJ.out.rows.row.2 with ⟨-, h0⟩ | ⟨g, cap, cur, e, -⟩
    · omega
    · simp only [Value.slice.injEq] at e
      exact ⟨g, e.1⟩
  have HRW : Hid (∀ W : World, W.heap = A.heap → W.ownsRow lo 76 3 (.slice (some ⟨g, 0, none⟩) n vc) n (cellsQ L)) := by
    show ∀ W : World, W.heap = A.heap → W.ownsRow lo 76 3 (.slice (some ⟨g, 0, none⟩) n vc) n (cellsQ L)
    intro W hW
    have h := HJ.out.rows.row
    rw [← HLN.out] at h
    exact own_same h fun b _ => by rw [hW]
  have hgl := (HJ.out.rows.foot_lt (b := g) (.inl rfl)).2
  have hgx : g ≠ xb := fun e => HJ.out.rows.off xb (.inr (.inr (.inl rfl))) (.inl (by rw [e]; rfl))
  have hgh : g ≠ hb := fun e => HJ.out.rows.off hb (.inr (.inl rfl)) (.inl (by rw [e]; rfl))
  have hgp : g ≠ pb := fun e => HJ.out.rows.off pb (.inr (.inr (.inr (.inl rfl)))) (.inl (by rw [e]; rfl))
  have hne := HJ.out.ne
  have z0 : hb ≠ xb := hne.1
  have hnw : hb ≠ w.heap.size := by have := HJB.out; omega
  have hxw : xb ≠ w.heap.size := by have := HJB.out; omega
  have hgw : g ≠ w.heap.size := by have := HOLD.out g rfl; omega
  subst hkd
  obtain ⟨m, rfl⟩ : ∃ m, n = k + m + 1 := ⟨n - k - 1, by have := HLN.out; omega⟩
  have HO1 : Hid (∀ u ∈ cellsQ L, u.oneCell' = true) := by
    obtain ⟨L2, e2, h1, h2⟩ := HJ.out.rows.slice
    refine cellsQ_one (S := Under A.heap.size) (w := A) L fun x hx => ?_
    obtain ⟨LI, e, ho, hn⟩ := HJ.out.rows.items x hx
    exact ⟨LI, e, (own_slice ho).sub fun b hb => ⟨(ho.lt b hb).2, rfl⟩, fun y hy => (hn y hy).sub fun b hb => ⟨HJ.out.rows.lt b (.inl hb), rfl⟩⟩
  have hel : k + m = (L.eraseIdx k).length := by rw [List.length_eraseIdx, if_pos hk]; have := HLN.out; omega
  have HDR : Hid (∀ w1 : World, w1.ownsRow lo 76 3 (.slice (some ⟨g, 0, none⟩) (k + m) vc) (k + m) (cellsQ (L.eraseIdx k)) → A.grownBy w1 (some g) → DropAns lo N hb xb pb A (w1.setCell ⟨hb, 0, none⟩ (.slice (some ⟨g, 0, none⟩) (k + m) vc)) (.slice (some ⟨g, 0, none⟩) (k + m) vc) (L.eraseIdx k) next) := fun w1 h1 h2 => HJ.out.dropA (v' := .slice (some ⟨g, 0, none⟩) (k + m) vc) hk hel h1 h2 rfl
  have HNM : Hid (∀ q ∈ (L.eraseIdx k).map Prod.fst, q.name.size ≤ maxLen) := fun q hq => by
    obtain ⟨x, hx, rfl⟩ := List.mem_map.1 hq
    exact hnm x (List.mem_of_mem_eraseIdx hx)
  have HEL : Hid (k + m = (L.eraseIdx k).length) := hel
  have hge : (L.map Prod.fst).eraseIdx k = (L.eraseIdx k).map Prod.fst := by rw [List.eraseIdx_eq_take_drop_succ, List.eraseIdx_eq_take_drop_succ, List.map_append, List.map_take, List.map_drop]
  rw [hge]
  obtain ⟨L', hL'⟩ : ∃ L', L' = L.eraseIdx k := ⟨_, rfl⟩
  have HER : Hid (cellsQ L' = (cellsQ L).take (k * 3) ++ (cellsQ L).drop ((k + 1) * 3)) := by
    show cellsQ L' = _
    rw [hL']; exact (cellsQ_erase L k hk).symm
  rw [← hL'] at HDR HNM HEL ⊢
  have HDQ : Hid (Calls Try.prog 79 #[.slice (some ⟨g, 0, none⟩) (k + m + 1) vc, .int .i64 k, .int .i64 (k + 1)] A.drew fun e w' => e = .returned (.slice (some ⟨g, 0, none⟩) (k + m) vc) ∧ w'.ownsRow lo 76 3 (.slice (some ⟨g, 0, none⟩) (k + m) vc) (k + m) ((cellsQ L).take (k * 3) ++ (cellsQ L).drop ((k + 1) * 3)) ∧ A.drew.grownBy w' (some g)) :=
    deleteQ_any lo g k m vc (cellsQ L) A.drew (HRW.out A.drew rfl) HO1.out (by omega)
  have hkn1 : IntKind.i64.wrap ((k : Int) + 1) = (k : Int) + 1 := by have := HLN.out; rw [IntKind.wrap_i64]; omega
  clear hel hnm hge hL' HJ HPM HNT HAE HJB HOLD HOLI hix

  clear H HJA hmap hmapA hpm hpmA hnt hAE hAB hn
  go_enter Try.func78, Try.ntmps78
  go_upto_region 1 with fail
  rw [← hA]
  clear hA
  go_upto_region 6 with (first | (at_lookup; refine wpList_lookup_own_ok_int _ rfl _ _ 132 rfl 9 3 .i64 keyed9 Try.underlying132 Try.underlying3 (zero3J _) mb _ DA rfl (HMA.out _ rfl) _ _ rfl hkey ?_; intro c hat hwc; obtain rfl := HAT.out c hat; clear hat hwc) | go_in)
  refine wp_region_noPanic ?_
  refine wp_region_held_drew (S := (fun w' => w'.cell? ⟨xb, 0, none⟩ = some (.pointer (some ⟨hb, 0, none⟩)))) (by kernel_rfl) ?_ (fun hHeld => ?_)
  · (try dsimp only); go_keep
  refine wpAnyH_take (i := 0) (oi := _) (v := ?_) rfl (by kernel_rfl) (by kernel_rfl) (by kernel_rfl) (fun _ _ _ h => h) (Or.inl ⟨by rfl, ?_⟩) (by assumption) ?_
  rotate_left
  · (intro w' hSw; (try dsimp only at hSw); go_simp <;> (try with_reducible rfl))
  try simp only [Act.put, List.setIfInBounds_toArray, List.set_cons_zero, List.set_cons_succ]
  refine wpAnyH_take (i := 1) (oi := _) (v := ?_) rfl (by kernel_rfl) (by kernel_rfl) (by kernel_rfl) (fun _ _ _ h => h) (Or.inl ⟨by rfl, ?_⟩) (by assumption) ?_
  rotate_left
  · (intro w' hSw; (try dsimp only at hSw); go_simp <;> (try with_reducible rfl))
  try simp only [Act.put, List.setIfInBounds_toArray, List.set_cons_zero, List.set_cons_succ]
  refine wpAnyH_take (i := 2) (oi := _) (v := ?_) rfl (by kernel_rfl) (by kernel_rfl) (by kernel_rfl) (fun _ _ _ h => h) (Or.inl ⟨by rfl, ?_⟩) (by assumption) ?_
  rotate_left
  · (intro w' hSw; (try dsimp only at hSw); go_simp <;> (try with_reducible rfl))
  try simp only [Act.put, List.setIfInBounds_toArray, List.set_cons_zero, List.set_cons_succ]
  refine wpAnyH_take (i := 3) (oi := _) (v := ?_) rfl (by kernel_rfl) (by kernel_rfl) (by kernel_rfl) (fun _ _ _ h => h) (Or.inl ⟨by rfl, ?_⟩) (by assumption) ?_
  rotate_left
  · (intro w' hSw; (try dsimp only at hSw); go_simp <;> (try with_reducible rfl))
  try simp only [Act.put, List.setIfInBounds_toArray, List.set_cons_zero, List.set_cons_succ]
  refine wpAnyH_take (i := 5) (oi := _) (v := ?_) rfl (by kernel_rfl) (by kernel_rfl) (by kernel_rfl) (fun _ _ _ h => h) (Or.inl ⟨by rfl, ?_⟩) (by assumption) ?_
  rotate_left
  · (intro w' hSw; (try dsimp only at hSw); go_simp <;> (try with_reducible rfl))
  try simp only [Act.put, List.setIfInBounds_toArray, List.set_cons_zero, List.set_cons_succ]
  refine wpAnyH_take (i := 6) (oi := _) (v := ?_) rfl (by kernel_rfl) (by kernel_rfl) (by kernel_rfl) (fun _ _ _ h => h) (Or.inl ⟨by rfl, ?_⟩) (by assumption) ?_
  rotate_left
  · (intro w' hSw; (try dsimp only at hSw); go_simp <;> (try with_reducible rfl))
  try simp only [Act.put, List.setIfInBounds_toArray, List.set_cons_zero, List.set_cons_succ]
  refine wpAnyH_take (i := 7) (oi := _) (v := ?_) rfl (by kernel_rfl) (by kernel_rfl) (by kernel_rfl) (fun _ _ _ h => h) (Or.inl ⟨by rfl, ?_⟩) (by assumption) ?_
  rotate_left
  · (intro w' hSw; (try dsimp only at hSw); go_simp <;> (try with_reducible rfl))
  try simp only [Act.put, List.setIfInBounds_toArray, List.set_cons_zero, List.set_cons_succ]
  refine wpAnyH_ready (rs := [4]) (by kernel_rfl) (by simp) ?_
  refine AllReadyH.cons (o := _) rfl (fun K hK => ?_) AllReadyH.nil
  go_simp
  refine hK.out _ _ ?_ (fun hHeld => ?_)
  · (try dsimp only); go_keep
  clear hK K
  try simp only [Act.put, List.setIfInBounds_toArray, List.set_cons_zero, List.set_cons_succ]
  refine wpAnyH_ready (rs := [8]) (by kernel_rfl) (by simp) ?_
  refine AllReadyH.cons (o := _) rfl (fun K hK => ?_) AllReadyH.nil
  (go_simp; go_at_call 79; refine HDQ.out.mono ?_; rintro r w1 ⟨rfl, ho1, hg1⟩; rw [← HER.out] at ho1; have HD : Hid _ := HDR.out w1 ho1 ⟨hg1.os, hg1.tape, hg1.output, hg1.size, hg1.block⟩; have d4 : w1.cell? ⟨xb, 0, none⟩ = some (.pointer (some ⟨hb, 0, none⟩)) := hg1.cell (a := ⟨xb, 0, none⟩) x0 (fun e => hgx (by simpa using e.symm)); have d5 : w1.cell? ⟨hb, 0, none⟩ = some (.slice (some ⟨g, 0, none⟩) (k + m + 1) vc) := hg1.cell (a := ⟨hb, 0, none⟩) b0 (fun e => hgh (by simpa using e.symm)); have d6 : ∀ o, w1.frozen? ⟨hb, o, none⟩ = false := (fun o => (by rw [World.frozen?, hg1.block hb b3 (fun e => hgh (by simpa using e.symm))]; exact b2 o)); clear ho1 hg1; try go_wp2_with fail)
  refine hK.out _ _ ?_ (fun hHeld => ?_)
  · (try dsimp only); go_keep
  clear hK K
  try simp only [Act.put, List.setIfInBounds_toArray, List.set_cons_zero, List.set_cons_succ]
  refine wpAnyH_take (i := 9) (oi := _) (v := ?_) rfl (by kernel_rfl) (by kernel_rfl) (by kernel_rfl) (fun _ _ _ h => h) (Or.inl ⟨by rfl, ?_⟩) (by assumption) ?_
  rotate_left
  · (intro w' hSw; (try dsimp only at hSw); go_simp <;> (try with_reducible rfl))
  try simp only [Act.put, List.setIfInBounds_toArray, List.set_cons_zero, List.set_cons_succ]
  refine wpAnyH_take (i := 10) (oi := _) (v := ?_) rfl (by kernel_rfl) (by kernel_rfl) (by kernel_rfl) (fun _ _ _ h => h) (Or.inl ⟨by rfl, ?_⟩) (by assumption) ?_
  rotate_left
  · (intro w' hSw; (try dsimp only at hSw); go_simp <;> (try with_reducible rfl))
  try simp only [Act.put, List.setIfInBounds_toArray, List.set_cons_zero, List.set_cons_succ]
  refine wpAnyH_ready (rs := [11]) (by kernel_rfl) (by simp) ?_
  refine AllReadyH.cons (o := _) rfl (fun K hK => ?_) AllReadyH.nil
  go_simp
  refine hK.out _ _ ?_ (fun hHeld => ?_)
  · (try dsimp only); go_keep
  clear hK K
  try simp only [Act.put, List.setIfInBounds_toArray, List.set_cons_zero, List.set_cons_succ]
  refine wpAnyH_done (by kernel_rfl) ?_ _
  refine NoPanic.normal ?_
  obtain ⟨W2, hW2⟩ : ∃ W2, W2 = w1.setCell ⟨hb, 0, none⟩ (.slice (some ⟨g, 0, none⟩) (k + m) vc) := ⟨_, rfl⟩
  rw [← hW2] at HD
  rw [← hW2]
  obtain ⟨⟨hs, hbb, hxx, mbo, hpp⟩, hfin⟩ := HD.out
  have HS2 : Hid (SliceQ (Under W2.heap.size) W2 (.slice (some ⟨g, 0, none⟩) (k + m) vc) (L'.map Prod.fst)) := hs
  have HFIN : Hid (∀ W : World, Below W2.heap.size W2 W → ∀ (mb' : Nat) (D : DataW Unit), W2.heap.size ≤ mb' → W.ownsMap Try.prog 9 (plainElem Try.prog 3) mb' L'.length D → PM D 0 (L'.map Prod.fst) → StepAns lo N hb xb pb A ⟨L'.map Prod.fst, next⟩ (W.setCell ⟨pb, 0, none⟩ (.map (some mb')))) := hfin
  have HPP : Hid (Blk W2 pb [.map (some mbo)]) := hpp
  have hppl := hpp.lt
  obtain ⟨r0, r1, r2, r3⟩ := hbb.b2
  obtain ⟨s0, s1, s2⟩ := hxx.b1
  have hll : (L'.map Prod.fst).length ≤ 4194304 := by have := HEL.out; simp; omega
  clear HD hHeld hW2 hs hfin hpp hbb hxx d4 d5 d6 x0 x1 x2 b0 b1 b2 b3 p0 p1 p2
  go_wp2_with (go_at_call 77; refine (places_any _ (L'.map Prod.fst) _ HS2.out hll HNM.out).mono ?_; rintro r w4 ⟨rfl, ⟨D4, hm4, hp4⟩, hb4, hz4⟩; obtain ⟨t0, t1, t2⟩ := (HPP.out.below hb4 hppl).b1; rw [List.length_map] at hm4; have HM4 : Hid _ := And.intro hm4 (And.intro hp4 hb4); clear hm4 hp4 hb4)
  exact bodyPost_end (by simp [results, Try.results78]; rfl) rfl ⟨⟨_, rfl⟩, HF.out (HFIN.out w4 HM4.out.2.2 _ D4 (Nat.le_refl _) HM4.out.1 HM4.out.2.1)⟩

set_option maxRecDepth 100000 in
set_option maxHeartbeats 3200000 in
theorem apply_gone {lo : Nat} {N : Nat → Prop} {hb xb pb mb : Nat} {w : World} {v : Value} {L : QuL} {next : Int} (H : JH lo N hb xb pb mb w v L next) (kind : Int) (queue : ByteArray) (en id : Int) (nt : ND) (pv bv : Value) (hnt : NoteIs (Under w.heap.size) w (pv, bv) nt) (hq : queue.size ≤ maxLen) (hlen : L.length < 4194304) (k : Nat) (hk : k < L.length) (hix : (L.map Prod.fst).findIdx? (nameB queue) = some k) (hkd : kind = 4) (hil : L[k].1.items.length ≤ 4194304) :
    Calls Try.prog 78 #[.agg #[.int .i64 kind, .string queue, .int .i64 en, .int .i64 id, pv, bv], .pointer (some ⟨pb, 0, none⟩), .pointer (some ⟨xb, 0, none⟩)] w fun r w' => (∃ u, r = .returned u) ∧ StepAns lo N hb xb pb w ⟨(L.map Prod.fst).set k ⟨L[k].1.name, L[k].1.limit, L[k].1.items.filter (fun i => !idB id i)⟩, next⟩ w' := by
  obtain ⟨D, hmap, hpm⟩ := H.map
  obtain ⟨pa, pc, rfl, -⟩ := SliceV.shape hnt.1
  obtain ⟨ba, bc, rfl, -⟩ := SliceV.shape hnt.2
  obtain ⟨va, vc, rfl, hv1, hv2, -⟩ := own_shape H.rows.row
  obtain ⟨n, hn⟩ : ∃ n, n = L.length := ⟨_, rfl⟩
  have HLN : Hid (n = L.length) := hn
  have hlo := H.lo_le
  obtain ⟨A, hA⟩ : ∃ A, A = w.alloc (.cells #[.int .i64 kind, .string queue, .int .i64 en, .int .i64 id, .slice pa nt.props.length pc, .slice ba nt.body.length bc] 30) := ⟨_, rfl⟩
  have hAz : A.heap.size = w.heap.size + 1 := by rw [hA]; simp
  have hAB : Below w.heap.size w A := by rw [hA]; exact below_alloc _ _
  have hAE : Blk A w.heap.size [.int .i64 kind, .string queue, .int .i64 en, .int .i64 id, .slice pa nt.props.length pc, .slice ba nt.body.length bc] := by rw [hA]; exact Blk.new _ _ _
  have a0 : ∀ o, A.frozen? ⟨w.heap.size, o, none⟩ = false := hAE.f
  have a1 : A.cell? ⟨w.heap.size, 0, none⟩ = some (.int .i64 kind) := hAE.cell 0
  have a2 : A.cell? ⟨w.heap.size, 1, none⟩ = some (.string queue) := hAE.cell 1
  have a3 : A.cell? ⟨w.heap.size, 2, none⟩ = some (.int .i64 en) := hAE.cell 2
  have a4 : A.cell? ⟨w.heap.size, 3, none⟩ = some (.int .i64 id) := hAE.cell 3
  have a5 : A.cell? ⟨w.heap.size, 4, none⟩ = some (.slice pa nt.props.length pc) := hAE.cell 4
  have a6 : A.cell? ⟨w.heap.size, 5, none⟩ = some (.slice ba nt.body.length bc) := hAE.cell 5
  have HJA := H.below hAB
  obtain ⟨DA, hmapA, hpmA⟩ := HJA.map
  have HMA : Hid (∀ W : World, W.heap[mb]? = A.heap[mb]? → W.ownsMap Try.prog 9 (plainElem Try.prog 3) mb n DA) := by
    show ∀ W : World, W.heap[mb]? = A.heap[mb]? → _
    intro W hW
    rw [hn]
    obtain ⟨es, clock, h1, h2⟩ := hmapA
    exact ⟨es, clock, hW.trans h1, h2⟩
  have hkey : keyOf Try.prog 9 (.string queue) = some (keyS queue) := keyOf_string_mk Try.underlying9 hq
  have HPM : Hid (PM DA 0 (L.map Prod.fst) ∧ IsMap DA) := ⟨hpmA, (hmapA.tidy keyed9).isMap⟩
  obtain ⟨p0, p1, p2⟩ := HJA.pbox.b1
  obtain ⟨x0, x1, x2⟩ := HJA.xbox.b1
  obtain ⟨b0, b1, b2, b3⟩ := HJA.box.b2
  rw [← hn] at b0
  have HF : Hid (∀ {w' : World} {h : HD}, StepAns lo N hb xb pb A h w' → StepAns lo N hb xb pb w h w') := fun {_ _} h => StepAns.from hlo (fun b hb => H.rows.lt b (.inl hb)) hAB h
  have HJ : Hid (JH lo N hb xb pb mb A (.slice va n vc) L next) := by rw [hn]; exact HJA
  have HNT : Hid (NoteIs (Under A.heap.size) A (.slice pa nt.props.length pc, .slice ba nt.body.length bc) nt) := hnt.sub fun b hb => ⟨Nat.lt_of_lt_of_le hb hAB.size, hAB.block b hb⟩
  have HAE : Hid (Blk A w.heap.size [.int .i64 kind, .string queue, .int .i64 en, .int .i64 id, .slice pa nt.props.length pc, .slice ba nt.body.length bc]) := hAE
  have hwA : w.heap.size < A.heap.size := by omega
  have HOLI : Hid (∀ b, (∃ x ∈ L, x.2.ownBlock = some b) → b < w.heap.size) := fun b e => (H.rows.foot_lt (.inr e)).2
  have HOLD : Hid (∀ b, (Value.slice va n vc).ownBlock = some b → b < w.heap.size) := fun b e => (H.rows.foot_lt (.inl (by rw [hn] at e; exact e))).2
  have HJB : Hid (mb < w.heap.size ∧ hb < w.heap.size ∧ xb < w.heap.size ∧ pb < w.heap.size) := ⟨hmap.lt, H.box.lt, H.xbox.lt, H.pbox.lt⟩
  have hlenn : n < 4194304 := by omega
  have hhas : Maps.has DA (keyS queue) = true := by
    rw [(HPM.out.1 queue).1, List.any_eq_true]
    obtain ⟨hk2, hp, -⟩ := List.findIdx?_eq_some_iff_getElem.1 hix
    exact ⟨_, List.getElem_mem hk2, hp⟩
  have HAT : Hid (∀ c : Int, DA.atKey (keyS queue) (.lit (.int .i64 0)) = .lit (.int .i64 c) → c = k) := fun c hc => by
    have h := (HPM.out.1 queue).2 k hix
    rw [h] at hc
    simp at hc
    omega
  obtain ⟨g, rfl⟩ : ∃ g, va = some ⟨g, 0, none⟩ := by
    rcases HJ.out.rows.row.2 with ⟨-, h0⟩ | ⟨g, cap, cur, e, -⟩
    · omega
    · simp only [Value.slice.injEq] at e
      exact ⟨g, e.1⟩
  have HRW : Hid (∀ W : World, W.heap = A.heap → W.ownsRow lo 76 3 (.slice (some ⟨g, 0, none⟩) n vc) n (cellsQ L)) := by
    show ∀ W : World, W.heap = A.heap → W.ownsRow lo 76 3 (.slice (some ⟨g, 0, none⟩) n vc) n (cellsQ L)
    intro W hW
    have h := HJ.out.rows.row
    rw [← HLN.out] at h
    exact own_same h fun b _ => by rw [hW]
  have hgl := (HJ.out.rows.foot_lt (b := g) (.inl rfl)).2
  have hgx : g ≠ xb := fun e => HJ.out.rows.off xb (.inr (.inr (.inl rfl))) (.inl (by rw [e]; rfl))
  have hgh : g ≠ hb := fun e => HJ.out.rows.off hb (.inr (.inl rfl)) (.inl (by rw [e]; rfl))
  have hgp : g ≠ pb := fun e => HJ.out.rows.off pb (.inr (.inr (.inr (.inl rfl)))) (.inl (by rw [e]; rfl))
  have hne := HJ.out.ne
  have z0 : hb ≠ xb := hne.1
  have hnw : hb ≠ w.heap.size := by have := HJB.out; omega
  have hxw : xb ≠ w.heap.size := by have := HJB.out; omega
  have hgw : g ≠ w.heap.size := by have := HOLD.out g rfl; omega
  subst hkd
  obtain ⟨LI, hLI, hown, hnotes⟩ := HJ.out.rows.items _ (List.getElem_mem hk)
  obtain ⟨xa, xc, hxe, hx1, hx2, -⟩ := own_shape hown
  have HK : Hid (LI.map Prod.fst = L[k].1.items ∧ (∀ y ∈ LI, NoteIs N A y.2 y.1.note) ∧ A.ownsRow lo 78 7 L[k].2 LI.length (cellsI LI) ∧ L[k].2 = .slice xa LI.length xc) := ⟨hLI, hnotes, hown, hxe⟩
  have hLIn : LI.length ≤ 4194304 := by have := congrArg List.length hLI; simp at this; omega
  have q0 : A.cell? ⟨g, k * 3 + 2, none⟩ = some (.slice xa LI.length xc) := by
    have := HLN.out
    rw [(HRW.out A rfl).cellAt (k * 3 + 2) (by omega), cellsQ_at L k 2 hk (by omega), ← hxe]
    rfl
  have q1 : ∀ o, A.frozen? ⟨g, o, none⟩ = false := (HRW.out A rfl).frozenAt
  have hkn : k < n := by have := HLN.out; omega
  have HWO : Hid (∀ W : World, W.heap = A.heap → Calls Try.prog 81 #[.slice xa LI.length xc, .int .i64 id] W fun e w' => ∃ v', e = .returned v' ∧ w'.ownsRow lo 78 7 v' (LI.filter (fun x => !idB id x.1)).length (cellsI (LI.filter (fun x => !idB id x.1))) ∧ v'.ownBlock = (Value.slice xa LI.length xc).ownBlock ∧ W.grownBy w' (Value.slice xa LI.length xc).ownBlock) := by
    show ∀ W : World, W.heap = A.heap → _
    intro W hW
    have hl : ∀ b, N b → b < A.heap.size := fun b h => HJ.out.rows.lt b (.inl h)
    exact withoutId_any lo id _ LI W N (own_same (hxe ▸ hown) fun b _ => by rw [hW]) (fun y hy => (hnotes y hy).sub fun b hb => ⟨hb, by rw [hW]⟩) (fun b h => by rw [hW]; exact hl b h) hLIn
  have HXB : Hid (∀ b, (Value.slice xa LI.length xc).ownBlock = some b → b ≠ xb ∧ b ≠ hb ∧ b ≠ g ∧ b < w.heap.size) := fun b e => by
    rw [← hxe] at e
    have hf : Foot (.slice (some ⟨g, 0, none⟩) n vc) L b := .inr ⟨_, List.getElem_mem hk, e⟩
    refine ⟨fun h => HJ.out.rows.off b (.inr (.inr (.inl h))) hf, fun h => HJ.out.rows.off b (.inr (.inl h)) hf, fun h => HJ.out.rows.sep _ (List.getElem_mem hk) b e (by rw [h]; rfl), HOLI.out b ⟨_, List.getElem_mem hk, e⟩⟩
  have HGE : Hid (∀ (w1 : World) (v' : Value), w1.ownsRow lo 78 7 v' (LI.filter (fun x => !idB id x.1)).length (cellsI (LI.filter (fun x => !idB id x.1))) → v'.ownBlock = (Value.slice xa LI.length xc).ownBlock → A.grownBy w1 (Value.slice xa LI.length xc).ownBlock → StepAns lo N hb xb pb w ⟨(L.map Prod.fst).set k ⟨L[k].1.name, L[k].1.limit, L[k].1.items.filter (fun i => !idB id i)⟩, next⟩ (w1.setCell ⟨g, k * 3 + 2, none⟩ v')) := by
    show ∀ (w1 : World) (v' : Value), _ → _ → _ → _
    intro w1 v' h1 h2 h3
    rw [← hxe] at h2 h3
    obtain ⟨j1, j2⟩ := HJ.out.item HLN.out hk (w1 := w1) (u := v') (LI := LI.filter (fun x => !idB id x.1)) (N' := N) (L[k].1.items.filter (fun i => !idB id i)) (by rw [← hLI, List.filter_map]; rfl) h1
      (fun y hy => (hnotes y ((List.mem_filter.1 hy).1)).sub fun b hb => ⟨hb, h3.block b (HJ.out.rows.lt b (.inl hb)) (fun e => HJ.out.rows.off b (.inl hb) (.inr ⟨_, List.getElem_mem hk, e.symm⟩))⟩) h3 (fun b e => .inl (h2 ▸ e)) (fun b h => h) (fun b h => .inl h)
    exact HF.out ⟨N, mb, _, _, ⟨fun _ h => h, fun _ h => .inl h⟩, by rw [List.map_set], j1, j2⟩
  clear hLI hown hnotes hxe HK HJ HF HPM HNT HAE HLN

  clear H HJA hmap hmapA hpm hpmA hnt hAE hAB hn
  go_enter Try.func78, Try.ntmps78
  go_upto_region 1 with fail
  rw [← hA]
  clear hA
  go_upto_region 11 with (first | (at_lookup; refine wpList_lookup_own_ok_int _ rfl _ _ 132 rfl 9 3 .i64 keyed9 Try.underlying132 Try.underlying3 (zero3J _) mb _ DA rfl (HMA.out _ rfl) _ _ rfl hkey ?_; intro c hat hwc; obtain rfl := HAT.out c hat; clear hat hwc) | go_in)
  refine wp_region_noPanic ?_
  refine wp_region_held_drew (S := (fun w' => w'.cell? ⟨xb, 0, none⟩ = some (.pointer (some ⟨hb, 0, none⟩)) ∧ w'.cell? ⟨hb, 0, none⟩ = some (.slice (some ⟨g, 0, none⟩) n vc) ∧ w'.cell? ⟨w.heap.size, 3, none⟩ = some (.int .i64 id))) (by kernel_rfl) ?_ (fun hHeld => ?_)
  · (try dsimp only); go_keep
  refine wpAnyH_take (i := 0) (oi := _) (v := ?_) rfl (by kernel_rfl) (by kernel_rfl) (by kernel_rfl) (fun _ _ _ h => h) (Or.inl ⟨by rfl, ?_⟩) (by assumption) ?_
  rotate_left
  · (intro w' hSw; (try dsimp only at hSw); go_simp <;> (try with_reducible rfl))
  try simp only [Act.put, List.setIfInBounds_toArray, List.set_cons_zero, List.set_cons_succ]
  refine wpAnyH_take (i := 1) (oi := _) (v := ?_) rfl (by kernel_rfl) (by kernel_rfl) (by kernel_rfl) (fun _ _ _ h => h) (Or.inl ⟨by rfl, ?_⟩) (by assumption) ?_
  rotate_left
  · (intro w' hSw; (try dsimp only at hSw); go_simp <;> (try with_reducible rfl))
  try simp only [Act.put, List.setIfInBounds_toArray, List.set_cons_zero, List.set_cons_succ]
  refine wpAnyH_take (i := 2) (oi := _) (v := ?_) rfl (by kernel_rfl) (by kernel_rfl) (by kernel_rfl) (fun _ _ _ h => h) (Or.inl ⟨by rfl, ?_⟩) (by assumption) ?_
  rotate_left
  · (intro w' hSw; (try dsimp only at hSw); go_simp <;> (try with_reducible rfl))
  try simp only [Act.put, List.setIfInBounds_toArray, List.set_cons_zero, List.set_cons_succ]
  refine wpAnyH_take (i := 3) (oi := _) (v := ?_) rfl (by kernel_rfl) (by kernel_rfl) (by kernel_rfl) (fun _ _ _ h => h) (Or.inl ⟨by rfl, ?_⟩) (by assumption) ?_
  rotate_left
  · (intro w' hSw; (try dsimp only at hSw); go_simp <;> (try with_reducible rfl))
  try simp only [Act.put, List.setIfInBounds_toArray, List.set_cons_zero, List.set_cons_succ]
  refine wpAnyH_take (i := 4) (oi := _) (v := ?_) rfl (by kernel_rfl) (by kernel_rfl) (by kernel_rfl) (fun _ _ _ h => h) (Or.inl ⟨by rfl, ?_⟩) (by assumption) ?_
  rotate_left
  · (intro w' hSw; (try dsimp only at hSw); go_simp <;> (try with_reducible rfl))
  try simp only [Act.put, List.setIfInBounds_toArray, List.set_cons_zero, List.set_cons_succ]
  refine wpAnyH_take (i := 5) (oi := _) (v := ?_) rfl (by kernel_rfl) (by kernel_rfl) (by kernel_rfl) (fun _ _ _ h => h) (Or.inl ⟨by rfl, ?_⟩) (by assumption) ?_
  rotate_left
  · (intro w' hSw; (try dsimp only at hSw); go_simp <;> (try with_reducible rfl))
  try simp only [Act.put, List.setIfInBounds_toArray, List.set_cons_zero, List.set_cons_succ]
  refine wpAnyH_take (i := 6) (oi := _) (v := ?_) rfl (by kernel_rfl) (by kernel_rfl) (by kernel_rfl) (fun _ _ _ h => h) (Or.inl ⟨by rfl, ?_⟩) (by assumption) ?_
  rotate_left
  · (intro w' hSw; (try dsimp only at hSw); go_simp <;> (try with_reducible rfl))
  try simp only [Act.put, List.setIfInBounds_toArray, List.set_cons_zero, List.set_cons_succ]
  refine wpAnyH_take (i := 7) (oi := _) (v := ?_) rfl (by kernel_rfl) (by kernel_rfl) (by kernel_rfl) (fun _ _ _ h => h) (Or.inl ⟨by rfl, ?_⟩) (by assumption) ?_
  rotate_left
  · (intro w' hSw; (try dsimp only at hSw); go_simp <;> (try with_reducible rfl))
  try simp only [Act.put, List.setIfInBounds_toArray, List.set_cons_zero, List.set_cons_succ]
  refine wpAnyH_take (i := 8) (oi := _) (v := ?_) rfl (by kernel_rfl) (by kernel_rfl) (by kernel_rfl) (fun _ _ _ h => h) (Or.inl ⟨by rfl, ?_⟩) (by assumption) ?_
  rotate_left
  · (intro w' hSw; (try dsimp only at hSw); go_simp <;> (try with_reducible rfl))
  try simp only [Act.put, List.setIfInBounds_toArray, List.set_cons_zero, List.set_cons_succ]
  refine wpAnyH_take (i := 9) (oi := _) (v := ?_) rfl (by kernel_rfl) (by kernel_rfl) (by kernel_rfl) (fun _ _ _ h => h) (Or.inl ⟨by rfl, ?_⟩) (by assumption) ?_
  rotate_left
  · (intro w' hSw; (try dsimp only at hSw); go_simp <;> (try with_reducible rfl))
  try simp only [Act.put, List.setIfInBounds_toArray, List.set_cons_zero, List.set_cons_succ]
  refine wpAnyH_take (i := 10) (oi := _) (v := ?_) rfl (by kernel_rfl) (by kernel_rfl) (by kernel_rfl) (fun _ _ _ h => h) (Or.inl ⟨by rfl, ?_⟩) (by assumption) ?_
  rotate_left
  · (intro w' hSw; (try dsimp only at hSw); go_simp <;> (try with_reducible rfl))
  try simp only [Act.put, List.setIfInBounds_toArray, List.set_cons_zero, List.set_cons_succ]
  refine wpAnyH_take (i := 11) (oi := _) (v := ?_) rfl (by kernel_rfl) (by kernel_rfl) (by kernel_rfl) (fun _ _ _ h => h) (Or.inl ⟨by rfl, ?_⟩) (by assumption) ?_
  rotate_left
  · (intro w' hSw; (try dsimp only at hSw); go_simp <;> (try with_reducible rfl))
  try simp only [Act.put, List.setIfInBounds_toArray, List.set_cons_zero, List.set_cons_succ]
  refine wpAnyH_take (i := 13) (oi := _) (v := ?_) rfl (by kernel_rfl) (by kernel_rfl) (by kernel_rfl) (fun _ _ _ h => h) (Or.inl ⟨by rfl, ?_⟩) (by assumption) ?_
  rotate_left
  · (intro w' hSw; (try dsimp only at hSw); go_simp <;> (try with_reducible rfl))
  try simp only [Act.put, List.setIfInBounds_toArray, List.set_cons_zero, List.set_cons_succ]
  refine wpAnyH_take (i := 14) (oi := _) (v := ?_) rfl (by kernel_rfl) (by kernel_rfl) (by kernel_rfl) (fun _ _ _ h => h) (Or.inl ⟨by rfl, ?_⟩) (by assumption) ?_
  rotate_left
  · (intro w' hSw; (try dsimp only at hSw); go_simp <;> (try with_reducible rfl))
  try simp only [Act.put, List.setIfInBounds_toArray, List.set_cons_zero, List.set_cons_succ]
  refine wpAnyH_ready (rs := [12]) (by kernel_rfl) (by simp) ?_
  refine AllReadyH.cons (o := _) rfl (fun K hK => ?_) AllReadyH.nil
  go_simp
  refine hK.out _ _ ?_ (fun hHeld => ?_)
  · (try dsimp only); go_keep
  clear hK K
  try simp only [Act.put, List.setIfInBounds_toArray, List.set_cons_zero, List.set_cons_succ]
  refine wpAnyH_ready (rs := [15]) (by kernel_rfl) (by simp) ?_
  refine AllReadyH.cons (o := _) rfl (fun K hK => ?_) AllReadyH.nil
  (go_simp; go_at_call 81; refine (HWO.out A.drew rfl).mono ?_; rintro r w1 ⟨v', rfl, ho1, hv1', hg1⟩; obtain ⟨ya, yc, rfl, -⟩ := own_shape ho1; have HG1 := HGE.out w1 _ ho1 hv1' ⟨hg1.os, hg1.tape, hg1.output, hg1.size, hg1.block⟩; have HG2 : Hid _ := HG1; have d4 : w1.cell? ⟨xb, 0, none⟩ = some (.pointer (some ⟨hb, 0, none⟩)) := hg1.cell (a := ⟨xb, 0, none⟩) x0 (fun e => (HXB.out xb e.symm).1 rfl); have d5 : w1.cell? ⟨hb, 0, none⟩ = some (.slice (some ⟨g, 0, none⟩) n vc) := hg1.cell (a := ⟨hb, 0, none⟩) b0 (fun e => (HXB.out hb e.symm).2.1 rfl); have d6 : w1.cell? ⟨w.heap.size, 3, none⟩ = some (.int .i64 id) := hg1.cell (a := ⟨w.heap.size, 3, none⟩) a4 (fun e => absurd (HXB.out w.heap.size e.symm).2.2.2 (Nat.lt_irrefl _)); have d7 : w1.cell? ⟨g, k * 3 + 2, none⟩ = some (.slice xa LI.length xc) := hg1.cell (a := ⟨g, k * 3 + 2, none⟩) q0 (fun e => (HXB.out g e.symm).2.2.1 rfl); have d8 : ∀ o, w1.frozen? ⟨g, o, none⟩ = false := (fun o => (by rw [World.frozen?, hg1.block g hgl (fun e => (HXB.out g e.symm).2.2.1 rfl)]; exact q1 o)); clear HG1 ho1 hv1' hg1; try go_wp2_with fail)
  refine hK.out _ _ ?_ (fun hHeld => ?_)
  · (try dsimp only); go_keep
  clear hK K
  try simp only [Act.put, List.setIfInBounds_toArray, List.set_cons_zero, List.set_cons_succ]
  refine wpAnyH_take (i := 16) (oi := _) (v := ?_) rfl (by kernel_rfl) (by kernel_rfl) (by kernel_rfl) (fun _ _ _ h => h) (Or.inl ⟨by rfl, ?_⟩) (by assumption) ?_
  rotate_left
  · (intro w' hSw; (try dsimp only at hSw); go_simp <;> (try with_reducible rfl))
  try simp only [Act.put, List.setIfInBounds_toArray, List.set_cons_zero, List.set_cons_succ]
  refine wpAnyH_take (i := 17) (oi := _) (v := ?_) rfl (by kernel_rfl) (by kernel_rfl) (by kernel_rfl) (fun _ _ _ h => h) (Or.inl ⟨by rfl, ?_⟩) (by assumption) ?_
  rotate_left
  · (intro w' hSw; (try dsimp only at hSw); go_simp <;> (try with_reducible rfl))
  try simp only [Act.put, List.setIfInBounds_toArray, List.set_cons_zero, List.set_cons_succ]
  refine wpAnyH_ready (rs := [18]) (by kernel_rfl) (by simp) ?_
  refine AllReadyH.cons (o := _) rfl (fun K hK => ?_) AllReadyH.nil
  go_simp
  refine hK.out _ _ ?_ (fun hHeld => ?_)
  · (try dsimp only); go_keep
  clear hK K
  try simp only [Act.put, List.setIfInBounds_toArray, List.set_cons_zero, List.set_cons_succ]
  refine wpAnyH_done (by kernel_rfl) ?_ _
  refine NoPanic.normal ?_
  go_wp2_with fail
  exact bodyPost_end (by simp [results, Try.results78]; rfl) rfl ⟨⟨_, rfl⟩, by first | exact HG2.out | exact HG2.out.drew⟩
end Go.Proofs.Ytkddkpdfeeikhaa
