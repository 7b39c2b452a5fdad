/-
  The function that applyTo answers: an entry changes a hall in place.
-/
import Derived.Test.YtkddkpdfeeikhaaJTellsProofM13
import Derived.Deep.RegionHeld3
namespace Go.Proofs.Ytkddkpdfeeikhaa
open Go.RowKit Go.WideMaps Go.Maps
set_option linter.unusedVariables false
set_option linter.unusedSimpArgs false

attribute [local go_sem ↓] Go.wp_at_zero Go.wp_at_succ

theorem bcx {w3 wc : World} {o : Option Nat} (hc : ∀ b, b < wc.heap.size → o ≠ some b → w3.heap[b]? = wc.heap[b]?) {b : Nat} (hl : b < wc.heap.size) (hn : o ≠ some b) (k : Nat) : w3.cell? ⟨b, k, none⟩ = wc.cell? ⟨b, k, none⟩ := by
  simp only [World.cell?, hc b hl hn]

/-- The box of the entry stands ahead of all. -/
theorem StepAns.from {lo : Nat} {N : Nat → Prop} {hb xb pb : Nat} {w A : World} {h : HD} {w' : World} (hlo : lo ≤ w.heap.size) (hN : ∀ b, N b → b < w.heap.size) (hA : Below w.heap.size w A) (H : StepAns lo N hb xb pb A h w') : StepAns lo N hb xb pb w h w' := by
  obtain ⟨N', mb', v', L', h1, h2, h3, h4⟩ := H
  exact ⟨N', mb', v', L', ⟨h1.1, fun b hb => (h1.2 b hb).imp id (fun h => by have := hA.size; omega)⟩, h2, h3, Kept.trans ⟨fun b hb => hA.block b (hN b hb), hA.mono hlo⟩ h4⟩

set_option maxRecDepth 100000 in
set_option maxHeartbeats 3200000 in
theorem apply_none {lo : Nat} {N : Nat → Prop} {hb xb pb mb : Nat} {w : World} {v : Value} {L : QuL} {next : Int} (H : JH lo N hb xb pb mb w v L next) (kind : Int) (queue : ByteArray) (en id : Int) (nt : ND) (pv bv : Value) (hnt : NoteIs (Under w.heap.size) w (pv, bv) nt) (hq : queue.size ≤ maxLen) (hlen : L.length < 4194304) (hno : ∀ q ∈ L.map Prod.fst, nameB queue q = false) (hkd : kind ≠ 1) :
    Calls Try.prog 78 #[.agg #[.int .i64 kind, .string queue, .int .i64 en, .int .i64 id, pv, bv], .pointer (some ⟨pb, 0, none⟩), .pointer (some ⟨xb, 0, none⟩)] w fun r w' => (∃ u, r = .returned u) ∧ StepAns lo N hb xb pb w ⟨L.map Prod.fst, next⟩ w' := by
  obtain ⟨D, hmap, hpm⟩ := H.map
  obtain ⟨pa, pc, rfl, -⟩ := SliceV.shape hnt.1
  obtain ⟨ba, bc, rfl, -⟩ := SliceV.shape hnt.2
  obtain ⟨va, vc, rfl, hv1, hv2, -⟩ := own_shape H.rows.row
  obtain ⟨n, hn⟩ : ∃ n, n = L.length := ⟨_, rfl⟩
  have HLN : Hid (n = L.length) := hn
  have hlo := H.lo_le
  obtain ⟨A, hA⟩ : ∃ A, A = w.alloc (.cells #[.int .i64 kind, .string queue, .int .i64 en, .int .i64 id, .slice pa nt.props.length pc, .slice ba nt.body.length bc] 30) := ⟨_, rfl⟩
  have hAz : A.heap.size = w.heap.size + 1 := by rw [hA]; simp
  have hAB : Below w.heap.size w A := by rw [hA]; exact below_alloc _ _
  have hAE : Blk A w.heap.size [.int .i64 kind, .string queue, .int .i64 en, .int .i64 id, .slice pa nt.props.length pc, .slice ba nt.body.length bc] := by rw [hA]; exact Blk.new _ _ _
  have a0 : ∀ o, A.frozen? ⟨w.heap.size, o, none⟩ = false := hAE.f
  have a1 : A.cell? ⟨w.heap.size, 0, none⟩ = some (.int .i64 kind) := hAE.cell 0
  have a2 : A.cell? ⟨w.heap.size, 1, none⟩ = some (.string queue) := hAE.cell 1
  have a3 : A.cell? ⟨w.heap.size, 2, none⟩ = some (.int .i64 en) := hAE.cell 2
  have a4 : A.cell? ⟨w.heap.size, 3, none⟩ = some (.int .i64 id) := hAE.cell 3
  have a5 : A.cell? ⟨w.heap.size, 4, none⟩ = some (.slice pa nt.props.length pc) := hAE.cell 4
  have a6 : A.cell? ⟨w.heap.size, 5, none⟩ = some (.slice ba nt.body.length bc) := hAE.cell 5
  have HJA := H.below hAB
  obtain ⟨DA, hmapA, hpmA⟩ := HJA.map
  have HMA : Hid (∀ W : World, W.heap[mb]? = A.heap[mb]? → W.ownsMap Try.prog 9 (plainElem Try.prog 3) mb n DA) := by
    show ∀ W : World, W.heap[mb]? = A.heap[mb]? → _
    intro W hW
    rw [hn]
    obtain ⟨es, clock, h1, h2⟩ := hmapA
    exact ⟨es, clock, hW.trans h1, h2⟩
  have hkey : keyOf Try.prog 9 (.string queue) = some (keyS queue) := keyOf_string_mk Try.underlying9 hq
  have HPM : Hid (PM DA 0 (L.map Prod.fst) ∧ IsMap DA) := ⟨hpmA, (hmapA.tidy keyed9).isMap⟩
  obtain ⟨p0, p1, p2⟩ := HJA.pbox.b1
  obtain ⟨x0, x1, x2⟩ := HJA.xbox.b1
  obtain ⟨b0, b1, b2, b3⟩ := HJA.box.b2
  rw [← hn] at b0
  have HF : Hid (∀ {w' : World} {h : HD}, StepAns lo N hb xb pb A h w' → StepAns lo N hb xb pb w h w') := fun {_ _} h => StepAns.from hlo (fun b hb => H.rows.lt b (.inl hb)) hAB h
  have HJ : Hid (JH lo N hb xb pb mb A (.slice va n vc) L next) := by rw [hn]; exact HJA
  have HNT : Hid (NoteIs (Under A.heap.size) A (.slice pa nt.props.length pc, .slice ba nt.body.length bc) nt) := hnt.sub fun b hb => ⟨Nat.lt_of_lt_of_le hb hAB.size, hAB.block b hb⟩
  have HAE : Hid (Blk A w.heap.size [.int .i64 kind, .string queue, .int .i64 en, .int .i64 id, .slice pa nt.props.length pc, .slice ba nt.body.length bc]) := hAE
  have hwA : w.heap.size < A.heap.size := by omega
  have HOLD : Hid (∀ b, (Value.slice va n vc).ownBlock = some b → b < w.heap.size) := fun b e => (H.rows.foot_lt (.inl (by rw [hn] at e; exact e))).2
  have HJB : Hid (mb < w.heap.size ∧ hb < w.heap.size ∧ xb < w.heap.size ∧ pb < w.heap.size) := ⟨hmap.lt, H.box.lt, H.xbox.lt, H.pbox.lt⟩
  have hlenn : n < 4194304 := by omega
  have hhas : Maps.has DA (keyS queue) = false := by
    rw [(HPM.out.1 queue).1, List.any_eq_false]
    exact fun x hx => by simpa using hno x hx
  have hk1 : (kind == 1) = false := by simp [hkd]

  clear H HJA hmap hmapA hpm hpmA hnt hAE hAB hn
  go_enter Try.func78, Try.ntmps78
  go_upto_region 1 with fail
  rw [← hA]
  clear hA
  go_wp2_with (first | (at_lookup; refine wpList_lookup_own_ok_int _ rfl _ _ 132 rfl 9 3 .i64 keyed9 Try.underlying132 Try.underlying3 (zero3J _) mb n DA rfl (HMA.out _ rfl) _ _ rfl hkey ?_; intro c hat hwc) | go_in)
  exact bodyPost_end (by simp [results, Try.results78]; rfl) rfl ⟨⟨_, rfl⟩, HF.out ⟨N, mb, _, L, ⟨fun _ h => h, fun _ h => .inl h⟩, rfl, HJ.out, Kept.refl _ _ _⟩⟩

set_option maxRecDepth 100000 in
set_option maxHeartbeats 3200000 in
theorem apply_other {lo : Nat} {N : Nat → Prop} {hb xb pb mb : Nat} {w : World} {v : Value} {L : QuL} {next : Int} (H : JH lo N hb xb pb mb w v L next) (kind : Int) (queue : ByteArray) (en id : Int) (nt : ND) (pv bv : Value) (hnt : NoteIs (Under w.heap.size) w (pv, bv) nt) (hq : queue.size ≤ maxLen) (hlen : L.length < 4194304) (k : Nat) (hk : k < L.length) (hix : (L.map Prod.fst).findIdx? (nameB queue) = some k) (hkd : kind ≠ 2 ∧ kind ≠ 3 ∧ kind ≠ 4) :
    Calls Try.prog 78 #[.agg #[.int .i64 kind, .string queue, .int .i64 en, .int .i64 id, pv, bv], .pointer (some ⟨pb, 0, none⟩), .pointer (some ⟨xb, 0, none⟩)] w fun r w' => (∃ u, r = .returned u) ∧ StepAns lo N hb xb pb w ⟨L.map Prod.fst, next⟩ w' := by
  obtain ⟨D, hmap, hpm⟩ := H.map
  obtain ⟨pa, pc, rfl, -⟩ := SliceV.shape hnt.1
  obtain ⟨ba, bc, rfl, -⟩ := SliceV.shape hnt.2
  obtain ⟨va, vc, rfl, hv1, hv2, -⟩ := own_shape H.rows.row
  obtain ⟨n, hn⟩ : ∃ n, n = L.length := ⟨_, rfl⟩
  have HLN : Hid (n = L.length) := hn
  have hlo := H.lo_le
  obtain ⟨A, hA⟩ : ∃ A, A = w.alloc (.cells #[.int .i64 kind, .string queue, .int .i64 en, .int .i64 id, .slice pa nt.props.length pc, .slice ba nt.body.length bc] 30) := ⟨_, rfl⟩
  have hAz : A.heap.size = w.heap.size + 1 := by rw [hA]; simp
  have hAB : Below w.heap.size w A := by rw [hA]; exact below_alloc _ _
  have hAE : Blk A w.heap.size [.int .i64 kind, .string queue, .int .i64 en, .int .i64 id, .slice pa nt.props.length pc, .slice ba nt.body.length bc] := by rw [hA]; exact Blk.new _ _ _
  have a0 : ∀ o, A.frozen? ⟨w.heap.size, o, none⟩ = false := hAE.f
  have a1 : A.cell? ⟨w.heap.size, 0, none⟩ = some (.int .i64 kind) := hAE.cell 0
  have a2 : A.cell? ⟨w.heap.size, 1, none⟩ = some (.string queue) := hAE.cell 1
  have a3 : A.cell? ⟨w.heap.size, 2, none⟩ = some (.int .i64 en) := hAE.cell 2
  have a4 : A.cell? ⟨w.heap.size, 3, none⟩ = some (.int .i64 id) := hAE.cell 3
  have a5 : A.cell? ⟨w.heap.size, 4, none⟩ = some (.slice pa nt.props.length pc) := hAE.cell 4
  have a6 : A.cell? ⟨w.heap.size, 5, none⟩ = some (.slice ba nt.body.length bc) := hAE.cell 5
  have HJA := H.below hAB
  obtain ⟨DA, hmapA, hpmA⟩ := HJA.map
  have HMA : Hid (∀ W : World, W.heap[mb]? = A.heap[mb]? → W.ownsMap Try.prog 9 (plainElem Try.prog 3) mb n DA) := by
    show ∀ W : World, W.heap[mb]? = A.heap[mb]? → _
    intro W hW
    rw [hn]
    obtain ⟨es, clock, h1, h2⟩ := hmapA
    exact ⟨es, clock, hW.trans h1, h2⟩
  have hkey : keyOf Try.prog 9 (.string queue) = some (keyS queue) := keyOf_string_mk Try.underlying9 hq
  have HPM : Hid (PM DA 0 (L.map Prod.fst) ∧ IsMap DA) := ⟨hpmA, (hmapA.tidy keyed9).isMap⟩
  obtain ⟨p0, p1, p2⟩ := HJA.pbox.b1
  obtain ⟨x0, x1, x2⟩ := HJA.xbox.b1
  obtain ⟨b0, b1, b2, b3⟩ := HJA.box.b2
  rw [← hn] at b0
  have HF : Hid (∀ {w' : World} {h : HD}, StepAns lo N hb xb pb A h w' → StepAns lo N hb xb pb w h w') := fun {_ _} h => StepAns.from hlo (fun b hb => H.rows.lt b (.inl hb)) hAB h
  have HJ : Hid (JH lo N hb xb pb mb A (.slice va n vc) L next) := by rw [hn]; exact HJA
  have HNT : Hid (NoteIs (Under A.heap.size) A (.slice pa nt.props.length pc, .slice ba nt.body.length bc) nt) := hnt.sub fun b hb => ⟨Nat.lt_of_lt_of_le hb hAB.size, hAB.block b hb⟩
  have HAE : Hid (Blk A w.heap.size [.int .i64 kind, .string queue, .int .i64 en, .int .i64 id, .slice pa nt.props.length pc, .slice ba nt.body.length bc]) := hAE
  have hwA : w.heap.size < A.heap.size := by omega
  have HOLD : Hid (∀ b, (Value.slice va n vc).ownBlock = some b → b < w.heap.size) := fun b e => (H.rows.foot_lt (.inl (by rw [hn] at e; exact e))).2
  have HJB : Hid (mb < w.heap.size ∧ hb < w.heap.size ∧ xb < w.heap.size ∧ pb < w.heap.size) := ⟨hmap.lt, H.box.lt, H.xbox.lt, H.pbox.lt⟩
  have hlenn : n < 4194304 := by omega
  have hhas : Maps.has DA (keyS queue) = true := by
    rw [(HPM.out.1 queue).1, List.any_eq_true]
    obtain ⟨hk2, hp, -⟩ := List.findIdx?_eq_some_iff_getElem.1 hix
    exact ⟨_, List.getElem_mem hk2, hp⟩
  have HAT : Hid (∀ c : Int, DA.atKey (keyS queue) (.lit (.int .i64 0)) = .lit (.int .i64 c) → c = k) := fun c hc => by
    have h := (HPM.out.1 queue).2 k hix
    rw [h] at hc
    simp at hc
    omega
  have hk1 : (kind == 2) = false := by simp [hkd.1]
  have hk2 : (kind == 3) = false := by simp [hkd.2.1]
  have hk3 : (kind == 4) = false := by simp [hkd.2.2]

  clear H HJA hmap hmapA hpm hpmA hnt hAE hAB hn
  go_enter Try.func78, Try.ntmps78
  go_upto_region 1 with fail
  rw [← hA]
  clear hA
  go_wp2_with (first | (at_lookup; refine wpList_lookup_own_ok_int _ rfl _ _ 132 rfl 9 3 .i64 keyed9 Try.underlying132 Try.underlying3 (zero3J _) mb n DA rfl (HMA.out _ rfl) _ _ rfl hkey ?_; intro c hat hwc; obtain rfl := HAT.out c hat; clear hat hwc) | go_in)
  exact bodyPost_end (by simp [results, Try.results78]; rfl) rfl ⟨⟨_, rfl⟩, HF.out ⟨N, mb, _, L, ⟨fun _ h => h, fun _ h => .inl h⟩, rfl, HJ.out, Kept.refl _ _ _⟩⟩

set_option maxRecDepth 100000 in
set_option maxHeartbeats 3200000 in
theorem apply_put {lo : Nat} {N : Nat → Prop} {hb xb pb mb : Nat} {w : World} {v : Value} {L : QuL} {next : Int} (H : JH lo N hb xb pb mb w v L next) (kind : Int) (queue : ByteArray) (en id : Int) (nt : ND) (pv bv : Value) (hnt : NoteIs (Under w.heap.size) w (pv, bv) nt) (hq : queue.size ≤ maxLen) (hlen : L.length < 4194304) (k : Nat) (hk : k < L.length) (hix : (L.map Prod.fst).findIdx? (nameB queue) = some k) (hkd : kind = 3) (hil : L[k].1.items.length ≤ 4194304) (hid : 0 ≤ id ∧ id ≤ 4294967296) (hsm : nt.small) :
    Calls Try.prog 78 #[.agg #[.int .i64 kind, .string queue, .int .i64 en, .int .i64 id, pv, bv], .pointer (some ⟨pb, 0, none⟩), .pointer (some ⟨xb, 0, none⟩)] w fun r w' => (∃ u, r = .returned u) ∧ StepAns lo N hb xb pb w ⟨(L.map Prod.fst).set k ⟨L[k].1.name, L[k].1.limit, L[k].1.items ++ [newI id nt]⟩, max next (id + 1)⟩ w' := by
  obtain ⟨D, hmap, hpm⟩ := H.map
  obtain ⟨pa, pc, rfl, -⟩ := SliceV.shape hnt.1
  obtain ⟨ba, bc, rfl, -⟩ := SliceV.shape hnt.2
  obtain ⟨va, vc, rfl, hv1, hv2, -⟩ := own_shape H.rows.row
  obtain ⟨n, hn⟩ : ∃ n, n = L.length := ⟨_, rfl⟩
  have HLN : Hid (n = L.length) := hn
  have hlo := H.lo_le
  obtain ⟨A, hA⟩ : ∃ A, A = w.alloc (.cells #[.int .i64 kind, .string queue, .int .i64 en, .int .i64 id, .slice pa nt.props.length pc, .slice ba nt.body.length bc] 30) := ⟨_, rfl⟩
  have hAz : A.heap.size = w.heap.size + 1 := by rw [hA]; simp
  have hAB : Below w.heap.size w A := by rw [hA]; exact below_alloc _ _
  have hAE : Blk A w.heap.size [.int .i64 kind, .string queue, .int .i64 en, .int .i64 id, .slice pa nt.props.length pc, .slice ba nt.body.length bc] := by rw [hA]; exact Blk.new _ _ _
  have a0 : ∀ o, A.frozen? ⟨w.heap.size, o, none⟩ = false := hAE.f
  have a1 : A.cell? ⟨w.heap.size, 0, none⟩ = some (.int .i64 kind) := hAE.cell 0
  have a2 : A.cell? ⟨w.heap.size, 1, none⟩ = some (.string queue) := hAE.cell 1
  have a3 : A.cell? ⟨w.heap.size, 2, none⟩ = some (.int .i64 en) := hAE.cell 2
  have a4 : A.cell? ⟨w.heap.size, 3, none⟩ = some (.int .i64 id) := hAE.cell 3
  have a5 : A.cell? ⟨w.heap.size, 4, none⟩ = some (.slice pa nt.props.length pc) := hAE.cell 4
  have a6 : A.cell? ⟨w.heap.size, 5, none⟩ = some (.slice ba nt.body.length bc) := hAE.cell 5
  have HJA := H.below hAB
  obtain ⟨DA, hmapA, hpmA⟩ := HJA.map
  have HMA : Hid (∀ W : World, W.heap[mb]? = A.heap[mb]? → W.ownsMap Try.prog 9 (plainElem Try.prog 3) mb n DA) := by
    show ∀ W : World, W.heap[mb]? = A.heap[mb]? → _
    intro W hW
    rw [hn]
    obtain ⟨es, clock, h1, h2⟩ := hmapA
    exact ⟨es, clock, hW.trans h1, h2⟩
  have hkey : keyOf Try.prog 9 (.string queue) = some (keyS queue) := keyOf_string_mk Try.underlying9 hq
  have HPM : Hid (PM DA 0 (L.map Prod.fst) ∧ IsMap DA) := ⟨hpmA, (hmapA.tidy keyed9).isMap⟩
  obtain ⟨p0, p1, p2⟩ := HJA.pbox.b1
  obtain ⟨x0, x1, x2⟩ := HJA.xbox.b1
  obtain ⟨b0, b1, b2, b3⟩ := HJA.box.b2
  rw [← hn] at b0
  have HF : Hid (∀ {w' : World} {h : HD}, StepAns lo N hb xb pb A h w' → StepAns lo N hb xb pb w h w') := fun {_ _} h => StepAns.from hlo (fun b hb => H.rows.lt b (.inl hb)) hAB h
  have HJ : Hid (JH lo N hb xb pb mb A (.slice va n vc) L next) := by rw [hn]; exact HJA
  have HNT : Hid (NoteIs (Under A.heap.size) A (.slice pa nt.props.length pc, .slice ba nt.body.length bc) nt) := hnt.sub fun b hb => ⟨Nat.lt_of_lt_of_le hb hAB.size, hAB.block b hb⟩
  have HAE : Hid (Blk A w.heap.size [.int .i64 kind, .string queue, .int .i64 en, .int .i64 id, .slice pa nt.props.length pc, .slice ba nt.body.length bc]) := hAE
  have hwA : w.heap.size < A.heap.size := by omega
  have HOLD : Hid (∀ b, (Value.slice va n vc).ownBlock = some b → b < w.heap.size) := fun b e => (H.rows.foot_lt (.inl (by rw [hn] at e; exact e))).2
  have HJB : Hid (mb < w.heap.size ∧ hb < w.heap.size ∧ xb < w.heap.size ∧ pb < w.heap.size) := ⟨hmap.lt, H.box.lt, H.xbox.lt, H.pbox.lt⟩
  have hlenn : n < 4194304 := by omega
  have hhas : Maps.has DA (keyS queue) = true := by
    rw [(HPM.out.1 queue).1, List.any_eq_true]
    obtain ⟨hk2, hp, -⟩ := List.findIdx?_eq_some_iff_getElem.1 hix
    exact ⟨_, List.getElem_mem hk2, hp⟩
  have HAT : Hid (∀ c : Int, DA.atKey (keyS queue) (.lit (.int .i64 0)) = .lit (.int .i64 c) → c = k) := fun c hc => by
    have h := (HPM.out.1 queue).2 k hix
    rw [h] at hc
    simp at hc
    omega
  subst hkd
  have HP : Hid (Calls Try.prog 80 #[.pointer (some ⟨hb, 0, none⟩), .int .i64 k, .agg #[.int .i64 3, .string queue, .int .i64 en, .int .i64 id, .slice pa nt.props.length pc, .slice ba nt.body.length bc]] A fun r w' => (∃ u, r = .returned u) ∧ StepAns lo N hb xb pb A ⟨(L.map Prod.fst).set k ⟨L[k].1.name, L[k].1.limit, L[k].1.items ++ [newI id nt]⟩, max next (id + 1)⟩ w') :=
    jputIn_any HJ.out k hk (by omega) hil 3 queue en id hid nt hsm _ _ HNT.out

  clear H HJA hmap hmapA hpm hpmA hnt hAE hAB hn
  go_enter Try.func78, Try.ntmps78
  go_upto_region 1 with fail
  rw [← hA]
  clear hA
  go_wp2_with (first | (at_lookup; refine wpList_lookup_own_ok_int _ rfl _ _ 132 rfl 9 3 .i64 keyed9 Try.underlying132 Try.underlying3 (zero3J _) mb n DA rfl (HMA.out _ rfl) _ _ rfl hkey ?_; intro c hat hwc; obtain rfl := HAT.out c hat; clear hat hwc) | (go_at_call 80; refine HP.out.mono ?_; rintro r w2 ⟨⟨u, rfl⟩, hs⟩) | go_in)
  exact bodyPost_end (by simp [results, Try.results78]; rfl) rfl ⟨⟨_, rfl⟩, HF.out hs⟩

set_option maxRecDepth 100000 in
set_option maxHeartbeats 3200000 in
theorem apply_make {lo : Nat} {N : Nat → Prop} {hb xb pb mb : Nat} {w : World} {v : Value} {L : QuL} {next : Int} (H : JH lo N hb xb pb mb w v L next) (kind : Int) (queue : ByteArray) (en id : Int) (nt : ND) (pv bv : Value) (hnt : NoteIs (Under w.heap.size) w (pv, bv) nt) (hq : queue.size ≤ maxLen) (hlen : L.length < 4194304) (hno : ∀ q ∈ L.map Prod.fst, nameB queue q = false) (hkd : kind = 1) :
    Calls Try.prog 78 #[.agg #[.int .i64 kind, .string queue, .int .i64 en, .int .i64 id, pv, bv], .pointer (some ⟨pb, 0, none⟩), .pointer (some ⟨xb, 0, none⟩)] w fun r w' => (∃ u, r = .returned u) ∧ StepAns lo N hb xb pb w ⟨L.map Prod.fst ++ [⟨queue, en, []⟩], next⟩ w' := by
  obtain ⟨D, hmap, hpm⟩ := H.map
  obtain ⟨pa, pc, rfl, -⟩ := SliceV.shape hnt.1
  obtain ⟨ba, bc, rfl, -⟩ := SliceV.shape hnt.2
  obtain ⟨va, vc, rfl, hv1, hv2, -⟩ := own_shape H.rows.row
  obtain ⟨n, hn⟩ : ∃ n, n = L.length := ⟨_, rfl⟩
  have HLN : Hid (n = L.length) := hn
  have hlo := H.lo_le
  obtain ⟨A, hA⟩ : ∃ A, A = w.alloc (.cells #[.int .i64 kind, .string queue, .int .i64 en, .int .i64 id, .slice pa nt.props.length pc, .slice ba nt.body.length bc] 30) := ⟨_, rfl⟩
  have hAz : A.heap.size = w.heap.size + 1 := by rw [hA]; simp
  have hAB : Below w.heap.size w A := by rw [hA]; exact below_alloc _ _
  have hAE : Blk A w.heap.size [.int .i64 kind, .string queue, .int .i64 en, .int .i64 id, .slice pa nt.props.length pc, .slice ba nt.body.length bc] := by rw [hA]; exact Blk.new _ _ _
  have a0 : ∀ o, A.frozen? ⟨w.heap.size, o, none⟩ = false := hAE.f
  have a1 : A.cell? ⟨w.heap.size, 0, none⟩ = some (.int .i64 kind) := hAE.cell 0
  have a2 : A.cell? ⟨w.heap.size, 1, none⟩ = some (.string queue) := hAE.cell 1
  have a3 : A.cell? ⟨w.heap.size, 2, none⟩ = some (.int .i64 en) := hAE.cell 2
  have a4 : A.cell? ⟨w.heap.size, 3, none⟩ = some (.int .i64 id) := hAE.cell 3
  have a5 : A.cell? ⟨w.heap.size, 4, none⟩ = some (.slice pa nt.props.length pc) := hAE.cell 4
  have a6 : A.cell? ⟨w.heap.size, 5, none⟩ = some (.slice ba nt.body.length bc) := hAE.cell 5
  have HJA := H.below hAB
  obtain ⟨DA, hmapA, hpmA⟩ := HJA.map
  have HMA : Hid (∀ W : World, W.heap[mb]? = A.heap[mb]? → W.ownsMap Try.prog 9 (plainElem Try.prog 3) mb n DA) := by
    show ∀ W : World, W.heap[mb]? = A.heap[mb]? → _
    intro W hW
    rw [hn]
    obtain ⟨es, clock, h1, h2⟩ := hmapA
    exact ⟨es, clock, hW.trans h1, h2⟩
  have hkey : keyOf Try.prog 9 (.string queue) = some (keyS queue) := keyOf_string_mk Try.underlying9 hq
  have HPM : Hid (PM DA 0 (L.map Prod.fst) ∧ IsMap DA) := ⟨hpmA, (hmapA.tidy keyed9).isMap⟩
  obtain ⟨p0, p1, p2⟩ := HJA.pbox.b1
  obtain ⟨x0, x1, x2⟩ := HJA.xbox.b1
  obtain ⟨b0, b1, b2, b3⟩ := HJA.box.b2
  rw [← hn] at b0
  have HF : Hid (∀ {w' : World} {h : HD}, StepAns lo N hb xb pb A h w' → StepAns lo N hb xb pb w h w') := fun {_ _} h => StepAns.from hlo (fun b hb => H.rows.lt b (.inl hb)) hAB h
  have HJ : Hid (JH lo N hb xb pb mb A (.slice va n vc) L next) := by rw [hn]; exact HJA
  have HNT : Hid (NoteIs (Under A.heap.size) A (.slice pa nt.props.length pc, .slice ba nt.body.length bc) nt) := hnt.sub fun b hb => ⟨Nat.lt_of_lt_of_le hb hAB.size, hAB.block b hb⟩
  have HAE : Hid (Blk A w.heap.size [.int .i64 kind, .string queue, .int .i64 en, .int .i64 id, .slice pa nt.props.length pc, .slice ba nt.body.length bc]) := hAE
  have hwA : w.heap.size < A.heap.size := by omega
  have HOLD : Hid (∀ b, (Value.slice va n vc).ownBlock = some b → b < w.heap.size) := fun b e => (H.rows.foot_lt (.inl (by rw [hn] at e; exact e))).2
  have HJB : Hid (mb < w.heap.size ∧ hb < w.heap.size ∧ xb < w.heap.size ∧ pb < w.heap.size) := ⟨hmap.lt, H.box.lt, H.xbox.lt, H.pbox.lt⟩
  have hlenn : n < 4194304 := by omega
  have hhas : Maps.has DA (keyS queue) = false := by
    rw [(HPM.out.1 queue).1, List.any_eq_false]
    exact fun x hx => by simpa using hno x hx
  subst hkd
  obtain ⟨i0, hi0, hz0, hz1, hz2⟩ := info_parts info25
  have hne := HJ.out.ne
  have hmbl : mb < A.heap.size := (HMA.out A rfl).lt
  have hne1 : w.heap.size ≠ mb := by
    have := HJB.out
    omega

  clear H HJA hmap hmapA hpm hpmA hnt hAE hAB hn
  go_enter Try.func78, Try.ntmps78
  go_upto_region 1 with fail
  rw [← hA]
  clear hA
  have hnb : hb ≠ w.heap.size := by have := HJB.out; omega
  have hnx : xb ≠ w.heap.size := by have := HJB.out; omega
  have HPUT : Hid (PM (DA.put (keyS queue) (.lit (.int .i64 (n : Int)))) 0 (L.map Prod.fst ++ [⟨queue, en, []⟩])) := by
    have := HPM.out.1.snoc (q := ⟨queue, en, []⟩) HPM.out.2 hno
    rw [List.length_map, ← HLN.out] at this
    exact this
  go_upto_region 3 with (first | (at_lookup; refine wpList_lookup_own_ok_int _ rfl _ _ 132 rfl 9 3 .i64 keyed9 Try.underlying132 Try.underlying3 (zero3J _) mb n DA rfl (HMA.out _ rfl) _ _ rfl hkey ?_; intro c hat hwc) | go_in)
  clear hat hwc
  go_cut [] (fun wx => A.grownBy wx (some mb) ∧ ∃ D : DataW Unit, wx.ownsMap Try.prog 9 (plainElem Try.prog 3) mb (n + 1) D ∧ PM D 0 (L.map Prod.fst ++ [⟨queue, en, []⟩]))
  case first =>
    obtain ⟨w1, hrun, hown1, hgrow1⟩ := (HMA.out A.drew rfl).update (val := .int .i64 (n : Int)) (t := 132) (e := 3) keyed9 Try.underlying132 (by unfold maxLen; omega) hkey (plainElem_int Try.underlying3 (WalkArith.wf_i64 (by omega)))
    have y0 : w1.cell? ⟨xb, 0, none⟩ = some (.pointer (some ⟨hb, 0, none⟩)) := hgrow1.cell (a := ⟨xb, 0, none⟩) x0 (by simp; omega)
    have y1 : w1.cell? ⟨hb, 0, none⟩ = some (.slice va n vc) := hgrow1.cell (a := ⟨hb, 0, none⟩) b0 (by simp; omega)
    have y2 : w1.cell? ⟨pb, 0, none⟩ = some (.map (some mb)) := hgrow1.cell (a := ⟨pb, 0, none⟩) p0 (by simp; omega)
    have y3 : w1.cell? ⟨w.heap.size, 1, none⟩ = some (.string queue) := hgrow1.cell (a := ⟨w.heap.size, 1, none⟩) a2 (by simp; omega)
    go_region_held3 (fun w' => w'.cell? ⟨xb, 0, none⟩ = some (.pointer (some ⟨hb, 0, none⟩)) ∧ w'.cell? ⟨hb, 0, none⟩ = some (.slice va n vc) ∧ w'.cell? ⟨pb, 0, none⟩ = some (.map (some mb)) ∧ w'.cell? ⟨w.heap.size, 1, none⟩ = some (.string queue)) (go_keep) (fail)
    all_goals
      go_wp2_with fail
      go_meet
      exact ⟨⟨hgrow1.os, hgrow1.tape, hgrow1.output, hgrow1.size, hgrow1.block⟩, _, hown1, HPUT.out⟩
  case rest =>
    obtain ⟨hg1, D', hm1, hp1⟩ := hcut
    have HG1 : Hid (A.grownBy wc (some mb) ∧ ∃ D : DataW Unit, wc.ownsMap Try.prog 9 (plainElem Try.prog 3) mb (n + 1) D ∧ PM D 0 (L.map Prod.fst ++ [⟨queue, en, []⟩])) := ⟨hg1, D', hm1, hp1⟩
    have hzc := hg1.size
    have keep : ∀ b, b < A.heap.size → b ≠ mb → wc.heap[b]? = A.heap[b]? := fun b h1 h2 => hg1.block b h1 (fun e => h2 (by simpa using e))
    obtain ⟨x0', x1', x2'⟩ := (HJ.out.xbox.same (keep xb x2 hne.2.2.2.2.1)).b1
    obtain ⟨b0', b1', b2', b3'⟩ := (HJ.out.box.same (keep hb b3 hne.2.2.1)).b2
    have hE := HAE.out.same (keep w.heap.size hwA hne1)
    have e0 : ∀ o, wc.frozen? ⟨w.heap.size, o, none⟩ = false := hE.f
    have e1 : wc.cell? ⟨w.heap.size, 1, none⟩ = some (.string queue) := hE.cell 1
    have e2 : wc.cell? ⟨w.heap.size, 2, none⟩ = some (.int .i64 en) := hE.cell 2
    have el := hE.lt
    have HOW : Hid (∀ W : World, W.heap = (wc.alloc (.cells #[.string queue, .int .i64 en, .slice none 0 0] 76)).heap → W.ownsRow lo 76 3 (.slice va n vc) n (cellsQ L)) := by
      show ∀ W : World, W.heap = (wc.alloc (.cells #[.string queue, .int .i64 en, .slice none 0 0] 76)).heap → W.ownsRow lo 76 3 (.slice va n vc) n (cellsQ L)
      intro W hW
      have h := HJ.out.rows.row
      rw [← HLN.out] at h
      refine own_same (own_below (w' := wc.alloc (.cells #[.string queue, .int .i64 en, .slice none 0 0] 76)) ?_ (below_alloc wc _)) fun b _ => by rw [hW]
      exact own_same h fun b e => keep b (h.lt b e).2 (fun e2 => HJ.out.rows.off mb (.inr (.inr (.inr (.inr rfl)))) (.inl (e2 ▸ e)))
    have HB3 : Hid (Blk wc hb [.slice va n vc, .int .i64 next]) := HJ.out.box.same (keep hb b3 hne.2.2.1)
    have HVB : Hid (∀ b, (Value.slice va n vc).ownBlock = some b → b ≠ hb) := fun b e h => HJ.out.rows.off hb (.inr (.inl rfl)) (.inl (h ▸ e))
    have hloc : lo ≤ wc.heap.size := by have := HJ.out.lo_le; omega
    clear hg1 hm1 hp1 keep hE x0 x1 b0 b1 b2 a0 a1 a2 a3 a4 a5 a6 p0 p1
    go_wp2_with fail
    have z0 : hb ≠ xb := hne.1
    have z1 : xb < wc.heap.size := x2'
    have z2 : xb ≠ wc.heap.size := by omega
    have z3 : w.heap.size ≠ wc.heap.size := by omega
    have z4 : hb ≠ wc.heap.size := by omega
    have HXO : Hid (∀ b, (Value.slice va n vc).ownBlock = some b → b ≠ xb ∧ b ≠ w.heap.size) := fun b e => ⟨fun h => HJ.out.rows.off xb (.inr (.inr (.inl rfl))) (.inl (h ▸ e)), fun h => by
      have := (HOLD.out b e)
      omega⟩
    have HEND : Hid (∀ (w3 : World) (gg cap : Nat), w3.ownsRow lo 76 3 (.slice (some ⟨gg, 0, none⟩) (n + 1) cap) (n + 1) (cellsQ L ++ QD.cells ⟨queue, en, []⟩ (.slice none 0 0)) → (wc.alloc (.cells #[.string queue, .int .i64 en, .slice none 0 0] 76)).grownBy w3 (Value.slice va n vc).ownBlock → ((Value.slice va n vc).ownBlock = some gg ∨ gg = wc.heap.size + 1) → StepAns lo N hb xb pb w ⟨L.map Prod.fst ++ [⟨queue, en, []⟩], next⟩ (w3.setCell ⟨hb, 0, none⟩ (.slice (some ⟨gg, 0, none⟩) (n + 1) cap))) := by
      show ∀ (w3 : World) (gg cap : Nat), w3.ownsRow lo 76 3 (.slice (some ⟨gg, 0, none⟩) (n + 1) cap) (n + 1) (cellsQ L ++ QD.cells ⟨queue, en, []⟩ (.slice none 0 0)) → (wc.alloc (.cells #[.string queue, .int .i64 en, .slice none 0 0] 76)).grownBy w3 (Value.slice va n vc).ownBlock → ((Value.slice va n vc).ownBlock = some gg ∨ gg = wc.heap.size + 1) → StepAns lo N hb xb pb w ⟨L.map Prod.fst ++ [⟨queue, en, []⟩], next⟩ (w3.setCell ⟨hb, 0, none⟩ (.slice (some ⟨gg, 0, none⟩) (n + 1) cap))
      intro w3 gg cap g1 g2 g3
      obtain ⟨m1, m2⟩ := HG1.out
      have hJ := HJ.out
      have hn := HLN.out
      obtain ⟨j1, j2⟩ := hJ.make (q := ⟨queue, en, []⟩) (v' := .slice (some ⟨gg, 0, none⟩) (n + 1) cap) rfl m1 (by rw [← hn]; exact m2) (by rw [← hn]; exact g1) g2 (fun b e => by
        simp only [Value.ownBlock, Option.some.injEq] at e
        subst e
        rcases g3 with h | h
        · exact .inl h
        · right; omega)
      exact HF.out ⟨N, mb, _, _, ⟨fun _ h => h, fun _ h => .inl h⟩, by simp, j1, j2⟩
    clear HG1 HJ HF HPM HPUT HMA HNT HAE HJB HOLD hkey hhas hno hq hlen hlo hAz hwA hne hne1 hnx hmbl hv1 p2 x2 b3 hzc HLN
    refine wp_region_noPanic ?_
    refine wp_region_held_drew (S := (fun w' => w'.cell? ⟨xb, 0, none⟩ = some (.pointer (some ⟨hb, 0, none⟩)) ∧ w'.cell? ⟨w.heap.size, 1, none⟩ = some (.string queue) ∧ w'.cell? ⟨w.heap.size, 2, none⟩ = some (.int .i64 en))) (by kernel_rfl) ?_ (fun hHeld => ?_)
    · (try dsimp only); go_keep
    refine wpAnyH_take (i := 0) (oi := _) (v := ?_) rfl (by kernel_rfl) (by kernel_rfl) (by kernel_rfl) (fun _ _ _ h => h) (Or.inl ⟨by rfl, ?_⟩) (by assumption) ?_
    rotate_left
    · (intro w' hSw; (try dsimp only at hSw); go_simp <;> (try with_reducible rfl))
    try simp only [Act.put, List.setIfInBounds_toArray, List.set_cons_zero, List.set_cons_succ]
    refine wpAnyH_take (i := 1) (oi := _) (v := ?_) rfl (by kernel_rfl) (by kernel_rfl) (by kernel_rfl) (fun _ _ _ h => h) (Or.inl ⟨by rfl, ?_⟩) (by assumption) ?_
    rotate_left
    · (intro w' hSw; (try dsimp only at hSw); go_simp <;> (try with_reducible rfl))
    try simp only [Act.put, List.setIfInBounds_toArray, List.set_cons_zero, List.set_cons_succ]
    refine wpAnyH_take (i := 2) (oi := _) (v := ?_) rfl (by kernel_rfl) (by kernel_rfl) (by kernel_rfl) (fun _ _ _ h => h) (Or.inl ⟨by rfl, ?_⟩) (by assumption) ?_
    rotate_left
    · (intro w' hSw; (try dsimp only at hSw); go_simp <;> (try with_reducible rfl))
    try simp only [Act.put, List.setIfInBounds_toArray, List.set_cons_zero, List.set_cons_succ]
    refine wpAnyH_take (i := 3) (oi := _) (v := ?_) rfl (by kernel_rfl) (by kernel_rfl) (by kernel_rfl) (fun _ _ _ h => h) (Or.inl ⟨by rfl, ?_⟩) (by assumption) ?_
    rotate_left
    · (intro w' hSw; (try dsimp only at hSw); go_simp <;> (try with_reducible rfl))
    try simp only [Act.put, List.setIfInBounds_toArray, List.set_cons_zero, List.set_cons_succ]
    refine wpAnyH_take (i := 5) (oi := _) (v := ?_) rfl (by kernel_rfl) (by kernel_rfl) (by kernel_rfl) (fun _ _ _ h => h) (Or.inl ⟨by rfl, ?_⟩) (by assumption) ?_
    rotate_left
    · (intro w' hSw; (try dsimp only at hSw); go_simp <;> (try with_reducible rfl))
    try simp only [Act.put, List.setIfInBounds_toArray, List.set_cons_zero, List.set_cons_succ]
    refine wpAnyH_take (i := 6) (oi := _) (v := ?_) rfl (by kernel_rfl) (by kernel_rfl) (by kernel_rfl) (fun _ _ _ h => h) (Or.inl ⟨by rfl, ?_⟩) (by assumption) ?_
    rotate_left
    · (intro w' hSw; (try dsimp only at hSw); go_simp <;> (try with_reducible rfl))
    try simp only [Act.put, List.setIfInBounds_toArray, List.set_cons_zero, List.set_cons_succ]
    refine wpAnyH_take (i := 7) (oi := _) (v := ?_) rfl (by kernel_rfl) (by kernel_rfl) (by kernel_rfl) (fun _ _ _ h => h) (Or.inl ⟨by rfl, ?_⟩) (by assumption) ?_
    rotate_left
    · (intro w' hSw; (try dsimp only at hSw); go_simp <;> (try with_reducible rfl))
    try simp only [Act.put, List.setIfInBounds_toArray, List.set_cons_zero, List.set_cons_succ]
    refine wpAnyH_take (i := 8) (oi := _) (v := ?_) rfl (by kernel_rfl) (by kernel_rfl) (by kernel_rfl) (fun _ _ _ h => h) (Or.inl ⟨by rfl, ?_⟩) (by assumption) ?_
    rotate_left
    · (intro w' hSw; (try dsimp only at hSw); go_simp <;> (try with_reducible rfl))
    try simp only [Act.put, List.setIfInBounds_toArray, List.set_cons_zero, List.set_cons_succ]
    refine wpAnyH_take (i := 9) (oi := _) (v := ?_) rfl (by kernel_rfl) (by kernel_rfl) (by kernel_rfl) (fun _ _ _ h => h) (Or.inl ⟨by rfl, ?_⟩) (by assumption) ?_
    rotate_left
    · (intro w' hSw; (try dsimp only at hSw); go_simp <;> (try with_reducible rfl))
    try simp only [Act.put, List.setIfInBounds_toArray, List.set_cons_zero, List.set_cons_succ]
    refine wpAnyH_ready (rs := [4, 10]) (by kernel_rfl) (by simp) ?_
    refine AllReadyH.cons (o := _) rfl (fun K hK => ?_) (AllReadyH.cons (o := _) rfl (fun K hK => ?_) AllReadyH.nil)
    · go_simp
      refine hK.out _ _ ?_ (fun hHeld => ?_)
      · (try dsimp only); go_keep
      clear hK K
      try simp only [Act.put, List.setIfInBounds_toArray, List.set_cons_zero, List.set_cons_succ]
      refine wpAnyH_ready (rs := [10]) (by kernel_rfl) (by simp) ?_
      refine AllReadyH.cons (o := _) rfl (fun K hK => ?_) AllReadyH.nil
      go_simp
      refine hK.out _ _ ?_ (fun hHeld => ?_)
      · (try dsimp only); go_keep
      clear hK K
      try simp only [Act.put, List.setIfInBounds_toArray, List.set_cons_zero, List.set_cons_succ]
      refine wpAnyH_ready (rs := [11]) (by kernel_rfl) (by simp) ?_
      refine AllReadyH.cons (o := _) rfl (fun K hK => ?_) AllReadyH.nil
      (refine step_append_lies _ (by rfl) _ _ _ (by rfl) lo 76 i0 _ 3 48 Try.underlying22 hi0 hz0 hz1 hz2 rfl (by omega) (.slice va n vc) n (cellsQ L) (by rfl) (HOW.out _ rfl) ⟨wc.heap.size, 0, none⟩ 1 1 (QD.cells ⟨queue, en, []⟩ (.slice none 0 0)) (by rfl) (by rfl) (World.news_of_block (cs := #[.string queue, .int .i64 en, .slice none 0 0]) (t := 76) (fr := (0, 0)) (heap_alloc_new wc _)) (by simp [QD.cells, Value.oneCell']) (by omega) (by unfold maxLen; omega) (by omega) (by simp; omega) (wc.heap.size + 1) (by simp) ?_; intro gg cap w3 hown3 hg3 hat3 hlt3; have HG3 : Hid (w3.ownsRow lo 76 3 (.slice (some ⟨gg, 0, none⟩) (n + 1) cap) (n + 1) (cellsQ L ++ QD.cells ⟨queue, en, []⟩ (.slice none 0 0)) ∧ (wc.alloc (.cells #[.string queue, .int .i64 en, .slice none 0 0] 76)).grownBy w3 (Value.slice va n vc).ownBlock ∧ ((Value.slice va n vc).ownBlock = some gg ∨ gg = wc.heap.size + 1)) := ⟨hown3, ⟨hg3.os, hg3.tape, hg3.output, hg3.size, hg3.block⟩, hat3⟩; have hc : ∀ b, b < wc.heap.size → (Value.slice va n vc).ownBlock ≠ some b → w3.heap[b]? = wc.heap[b]? := (fun b h1 h2 => (hg3.block b (by simp; omega) (fun e => h2 e.symm)).trans (Below.heap_alloc _ _ _ h1)); obtain ⟨d0, d1, d2, d3⟩ := (HB3.out.same (hc hb (by omega) (fun e => HVB.out hb e rfl))).b2; have d4 := (bcx hc (b := xb) z1 (fun e => (HXO.out xb e).1 rfl) 0); have d5 := (bcx hc (b := w.heap.size) el (fun e => (HXO.out _ e).2 rfl) 1); have d6 := (bcx hc (b := w.heap.size) el (fun e => (HXO.out _ e).2 rfl) 2); rw [x0'] at d4; rw [e1] at d5; rw [e2] at d6; have d7 : xb < w3.heap.size := (by have := hg3.size; simp at this; omega); clear hown3 hg3 hat3 hc)
      refine hK.out _ _ ?_ (fun hHeld => ?_)
      · (try dsimp only); go_keep
      clear hK K
      try simp only [Act.put, List.setIfInBounds_toArray, List.set_cons_zero, List.set_cons_succ]
      refine wpAnyH_take (i := 12) (oi := _) (v := ?_) rfl (by kernel_rfl) (by kernel_rfl) (by kernel_rfl) (fun _ _ _ h => h) (Or.inl ⟨by rfl, ?_⟩) (by assumption) ?_
      rotate_left
      · (intro w' hSw; (try dsimp only at hSw); go_simp <;> (try with_reducible rfl))
      try simp only [Act.put, List.setIfInBounds_toArray, List.set_cons_zero, List.set_cons_succ]
      refine wpAnyH_take (i := 13) (oi := _) (v := ?_) rfl (by kernel_rfl) (by kernel_rfl) (by kernel_rfl) (fun _ _ _ h => h) (Or.inl ⟨by rfl, ?_⟩) (by assumption) ?_
      rotate_left
      · (intro w' hSw; (try dsimp only at hSw); go_simp <;> (try with_reducible rfl))
      try simp only [Act.put, List.setIfInBounds_toArray, List.set_cons_zero, List.set_cons_succ]
      refine wpAnyH_ready (rs := [14]) (by kernel_rfl) (by simp) ?_
      refine AllReadyH.cons (o := _) rfl (fun K hK => ?_) AllReadyH.nil
      go_simp
      refine hK.out _ _ ?_ (fun hHeld => ?_)
      · (try dsimp only); go_keep
      clear hK K
      try simp only [Act.put, List.setIfInBounds_toArray, List.set_cons_zero, List.set_cons_succ]
      refine wpAnyH_done (by kernel_rfl) ?_ _
      refine NoPanic.normal ?_
      go_wp2_with fail
      obtain ⟨g1, g2, g3⟩ := HG3.out
      exact bodyPost_end (by simp [results, Try.results78]; rfl) rfl ⟨⟨_, rfl⟩, by first | exact HEND.out _ _ _ g1 g2 g3 | exact (HEND.out _ _ _ g1 g2 g3).drew⟩

    · go_simp
      refine hK.out _ _ ?_ (fun hHeld => ?_)
      · (try dsimp only); go_keep
      clear hK K
      try simp only [Act.put, List.setIfInBounds_toArray, List.set_cons_zero, List.set_cons_succ]
      refine wpAnyH_ready (rs := [4]) (by kernel_rfl) (by simp) ?_
      refine AllReadyH.cons (o := _) rfl (fun K hK => ?_) AllReadyH.nil
      go_simp
      refine hK.out _ _ ?_ (fun hHeld => ?_)
      · (try dsimp only); go_keep
      clear hK K
      try simp only [Act.put, List.setIfInBounds_toArray, List.set_cons_zero, List.set_cons_succ]
      refine wpAnyH_ready (rs := [11]) (by kernel_rfl) (by simp) ?_
      refine AllReadyH.cons (o := _) rfl (fun K hK => ?_) AllReadyH.nil
      (refine step_append_lies _ (by rfl) _ _ _ (by rfl) lo 76 i0 _ 3 48 Try.underlying22 hi0 hz0 hz1 hz2 rfl (by omega) (.slice va n vc) n (cellsQ L) (by rfl) (HOW.out _ rfl) ⟨wc.heap.size, 0, none⟩ 1 1 (QD.cells ⟨queue, en, []⟩ (.slice none 0 0)) (by rfl) (by rfl) (World.news_of_block (cs := #[.string queue, .int .i64 en, .slice none 0 0]) (t := 76) (fr := (0, 0)) (heap_alloc_new wc _)) (by simp [QD.cells, Value.oneCell']) (by omega) (by unfold maxLen; omega) (by omega) (by simp; omega) (wc.heap.size + 1) (by simp) ?_; intro gg cap w3 hown3 hg3 hat3 hlt3; have HG3 : Hid (w3.ownsRow lo 76 3 (.slice (some ⟨gg, 0, none⟩) (n + 1) cap) (n + 1) (cellsQ L ++ QD.cells ⟨queue, en, []⟩ (.slice none 0 0)) ∧ (wc.alloc (.cells #[.string queue, .int .i64 en, .slice none 0 0] 76)).grownBy w3 (Value.slice va n vc).ownBlock ∧ ((Value.slice va n vc).ownBlock = some gg ∨ gg = wc.heap.size + 1)) := ⟨hown3, ⟨hg3.os, hg3.tape, hg3.output, hg3.size, hg3.block⟩, hat3⟩; have hc : ∀ b, b < wc.heap.size → (Value.slice va n vc).ownBlock ≠ some b → w3.heap[b]? = wc.heap[b]? := (fun b h1 h2 => (hg3.block b (by simp; omega) (fun e => h2 e.symm)).trans (Below.heap_alloc _ _ _ h1)); obtain ⟨d0, d1, d2, d3⟩ := (HB3.out.same (hc hb (by omega) (fun e => HVB.out hb e rfl))).b2; have d4 := (bcx hc (b := xb) z1 (fun e => (HXO.out xb e).1 rfl) 0); have d5 := (bcx hc (b := w.heap.size) el (fun e => (HXO.out _ e).2 rfl) 1); have d6 := (bcx hc (b := w.heap.size) el (fun e => (HXO.out _ e).2 rfl) 2); rw [x0'] at d4; rw [e1] at d5; rw [e2] at d6; have d7 : xb < w3.heap.size := (by have := hg3.size; simp at this; omega); clear hown3 hg3 hat3 hc)
      refine hK.out _ _ ?_ (fun hHeld => ?_)
      · (try dsimp only); go_keep
      clear hK K
      try simp only [Act.put, List.setIfInBounds_toArray, List.set_cons_zero, List.set_cons_succ]
      refine wpAnyH_take (i := 12) (oi := _) (v := ?_) rfl (by kernel_rfl) (by kernel_rfl) (by kernel_rfl) (fun _ _ _ h => h) (Or.inl ⟨by rfl, ?_⟩) (by assumption) ?_
      rotate_left
      · (intro w' hSw; (try dsimp only at hSw); go_simp <;> (try with_reducible rfl))
      try simp only [Act.put, List.setIfInBounds_toArray, List.set_cons_zero, List.set_cons_succ]
      refine wpAnyH_take (i := 13) (oi := _) (v := ?_) rfl (by kernel_rfl) (by kernel_rfl) (by kernel_rfl) (fun _ _ _ h => h) (Or.inl ⟨by rfl, ?_⟩) (by assumption) ?_
      rotate_left
      · (intro w' hSw; (try dsimp only at hSw); go_simp <;> (try with_reducible rfl))
      try simp only [Act.put, List.setIfInBounds_toArray, List.set_cons_zero, List.set_cons_succ]
      refine wpAnyH_ready (rs := [14]) (by kernel_rfl) (by simp) ?_
      refine AllReadyH.cons (o := _) rfl (fun K hK => ?_) AllReadyH.nil
      go_simp
      refine hK.out _ _ ?_ (fun hHeld => ?_)
      · (try dsimp only); go_keep
      clear hK K
      try simp only [Act.put, List.setIfInBounds_toArray, List.set_cons_zero, List.set_cons_succ]
      refine wpAnyH_done (by kernel_rfl) ?_ _
      refine NoPanic.normal ?_
      go_wp2_with fail
      obtain ⟨g1, g2, g3⟩ := HG3.out
      exact bodyPost_end (by simp [results, Try.results78]; rfl) rfl ⟨⟨_, rfl⟩, by first | exact HEND.out _ _ _ g1 g2 g3 | exact (HEND.out _ _ _ g1 g2 g3).drew⟩


end Go.Proofs.Ytkddkpdfeeikhaa
