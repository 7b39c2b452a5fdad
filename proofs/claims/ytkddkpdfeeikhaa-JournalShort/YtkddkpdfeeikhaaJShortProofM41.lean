/-
  JTo; JParsed: texts laid together.
-/
import Derived.Test.YtkddkpdfeeikhaaJApply2
import Derived.Test.YtkddkpdfeeikhaaJOwn
import Derived.Test.YtkddkpdfeeikhaaJShortProofM34
import Derived.Test.YtkddkpdfeeikhaaJShortProofM29
/-
  journal.applyTo and journal.Apply.
-/
namespace Go.Proofs.Ytkddkpdfeeikhaa
open Go.RowKit Go.WideMaps Go.Maps
set_option linter.unusedVariables false
set_option linter.unusedSimpArgs false

attribute [local go_sem ↓] Go.wp_at_zero Go.wp_at_succ

/-- A hall that one may apply an entry to: no list of it too long, no name. -/
structure HD.fits (c : Nat) (h : HD) : Prop where
  len : h.queues.length < c
  items : ∀ q ∈ h.queues, q.items.length < c
  names : ∀ q ∈ h.queues, q.name.size ≤ maxLen
/-- An entry that one may apply. -/
structure ED.fits (e : ED) : Prop where
  queue : e.queue.size ≤ maxLen
  id : 0 ≤ e.id ∧ e.id ≤ 4294967296
  note : e.note.small

theorem applyF_none {h : HD} {e : ED} (hn : h.queues.findIdx? (nameB e.queue) = none) : applyF h e = if e.kind = 1 then ⟨h.queues ++ [⟨e.queue, e.n, []⟩], h.next⟩ else h := by
  unfold applyF; rw [hn]
theorem applyF_some {h : HD} {e : ED} {k : Nat} (hk : k < h.queues.length) (hn : h.queues.findIdx? (nameB e.queue) = some k) : applyF h e =
    if e.kind = 2 then ⟨h.queues.eraseIdx k, h.next⟩
      else if e.kind = 3 then ⟨h.queues.set k ⟨h.queues[k].name, h.queues[k].limit, h.queues[k].items ++ [e.item]⟩, max h.next (e.id + 1)⟩
      else if e.kind = 4 then ⟨h.queues.set k ⟨h.queues[k].name, h.queues[k].limit, h.queues[k].items.filter (fun i => !idB e.id i)⟩, h.next⟩
      else h := by
  unfold applyF; rw [hn]; simp only [List.getElem?_eq_getElem hk]

theorem applyE_any {lo : Nat} {N : Nat → Prop} {hb xb pb mb : Nat} {w : World} {v : Value} {L : QuL} {h : HD} (H : JH lo N hb xb pb mb w v L h.next) (hL : L.map Prod.fst = h.queues) (hf : h.fits 4194304) (e : ED) (he : e.fits) (pv bv : Value) (hnt : NoteIs (Under w.heap.size) w (pv, bv) e.note) :
    Calls Try.prog 78 #[.agg #[.int .i64 e.kind, .string e.queue, .int .i64 e.n, .int .i64 e.id, pv, bv], .pointer (some ⟨pb, 0, none⟩), .pointer (some ⟨xb, 0, none⟩)] w fun r w' => (∃ u, r = .returned u) ∧ StepAns lo N hb xb pb w (applyF h e) w' := by
  have hlL : L.length = h.queues.length := by rw [← hL]; simp
  have hlen : L.length < 4194304 := by rw [hlL]; exact hf.len
  have hit : ∀ x ∈ L, x.1.items.length ≤ 4194304 := fun x hx => Nat.le_of_lt (hf.items x.1 (by rw [← hL]; exact List.mem_map_of_mem hx))
  have hnm : ∀ x ∈ L, x.1.name.size ≤ maxLen := fun x hx => hf.names x.1 (by rw [← hL]; exact List.mem_map_of_mem hx)
  have hgq : ∀ k (hk : k < L.length) (hk2 : k < h.queues.length), h.queues[k] = L[k].1 := fun k hk hk2 => by simp [← hL]
  cases hn : h.queues.findIdx? (nameB e.queue) with
  | none =>
    have hno : ∀ q ∈ L.map Prod.fst, nameB e.queue q = false := by rw [hL]; exact List.findIdx?_eq_none_iff.1 hn
    rw [applyF_none hn]
    by_cases h1 : e.kind = 1
    · rw [if_pos h1]
      have := apply_make H e.kind e.queue e.n e.id e.note pv bv hnt he.queue hlen hno h1
      rw [hL] at this
      exact this
    · rw [if_neg h1]
      have := apply_none H e.kind e.queue e.n e.id e.note pv bv hnt he.queue hlen hno h1
      rw [hL] at this
      exact this
  | some k =>
    have hk2 : k < h.queues.length := (List.findIdx?_eq_some_iff_getElem.1 hn).1
    have hk : k < L.length := by omega
    have hix : (L.map Prod.fst).findIdx? (nameB e.queue) = some k := by rw [hL]; exact hn
    rw [applyF_some hk2 hn]
    by_cases h2 : e.kind = 2
    · rw [if_pos h2]
      have := apply_drop H e.kind e.queue e.n e.id e.note pv bv hnt he.queue hlen k hk hix h2 hnm
      rw [hL] at this
      exact this
    rw [if_neg h2]
    by_cases h3 : e.kind = 3
    · rw [if_pos h3, hgq k hk hk2]
      have := apply_put H e.kind e.queue e.n e.id e.note pv bv hnt he.queue hlen k hk hix h3 (hit _ (List.getElem_mem hk)) he.id he.note
      rw [hL] at this
      exact this
    rw [if_neg h3]
    by_cases h4 : e.kind = 4
    · rw [if_pos h4, hgq k hk hk2]
      have := apply_gone H e.kind e.queue e.n e.id e.note pv bv hnt he.queue hlen k hk hix h4 (hit _ (List.getElem_mem hk))
      rw [hL] at this
      exact this
    rw [if_neg h4]
    have := apply_other H e.kind e.queue e.n e.id e.note pv bv hnt he.queue hlen k hk hix ⟨h2, h3, h4⟩
    rw [hL] at this
    exact this

/-- A hall's rows, and its box, make what applyTo needs. -/
structure HB (lo : Nat) (N : Nat → Prop) (hb : Nat) (w : World) (v : Value) (L : QuL) (next : Int) : Prop where
  rows : HR lo N (fun b => b = hb) w v L
  box : Blk w hb [v, .int .i64 next]
  los : lo ≤ hb
  note : ∀ b, N b → b ≠ hb

set_option maxRecDepth 100000 in
set_option maxHeartbeats 1000000 in
theorem applyTo_any {lo : Nat} {N : Nat → Prop} {hb : Nat} {w : World} {v : Value} {L : QuL} {next : Int} (H : HB lo N hb w v L next) (hlen : L.length ≤ 4194304) (hnm : ∀ x ∈ L, x.1.name.size ≤ maxLen) :
    Calls Try.prog 46 #[.pointer (some ⟨hb, 0, none⟩)] w fun r w' => ∃ xb pb mb, r = .returned (.func (.func 78) #[] #[.pointer (some ⟨pb, 0, none⟩), .pointer (some ⟨xb, 0, none⟩)]) ∧ JH lo N hb xb pb mb w' v L next ∧ Below w.heap.size w w' := by
  have HH : Hid (HB lo N hb w v L next) := H
  have HN : Hid (∀ q ∈ L.map Prod.fst, q.name.size ≤ maxLen) := fun q hq => by
    obtain ⟨x, hx, rfl⟩ := List.mem_map.1 hq
    exact hnm x hx
  obtain ⟨va, vc, rfl, -⟩ := own_shape H.rows.row
  obtain ⟨b0, b1, b2, b3⟩ := H.box.b2
  have hll : (L.map Prod.fst).length ≤ 4194304 := by simpa using hlen
  have hne : hb ≠ w.heap.size := by omega
  obtain ⟨A, hA⟩ : ∃ A, A = w.alloc (.cells #[.pointer (some ⟨hb, 0, none⟩)] 93) := ⟨_, rfl⟩
  have hAz : A.heap.size = w.heap.size + 1 := by rw [hA]; simp
  have hAB : Below w.heap.size w A := by rw [hA]; exact below_alloc _ _
  have HAX : Hid (Blk A w.heap.size [.pointer (some ⟨hb, 0, none⟩)] ∧ Below w.heap.size w A ∧ SliceQ (Under A.heap.size) A (.slice va L.length vc) (L.map Prod.fst)) := ⟨by rw [hA]; exact Blk.new _ _ _, hAB, (H.rows.below hAB).slice⟩
  obtain ⟨c0, c1, c2, c3⟩ := (H.box.below hAB b3).b2
  obtain ⟨a0, a1, a2⟩ := HAX.out.1.b1
  clear H hnm hAB
  go_enter Try.func46, Try.ntmps46
  go_upto_region 1 with fail
  rw [← hA]
  clear hA b0 b1 b2
  go_wp2_with (go_at_call 77; refine (places_any _ (L.map Prod.fst) _ HAX.out.2.2 hll HN.out).mono ?_; rintro r w4 ⟨rfl, ⟨D4, hm4, hp4⟩, hb4, hz4⟩; rw [List.length_map] at hm4; have HM4 : Hid _ := And.intro hm4 (And.intro hp4 hb4); clear hm4 hp4 hb4)
  obtain ⟨hm4, hp4, hb4⟩ := HM4.out
  have hz1 := hb4.size
  rw [hAz] at hm4
  have hB : Below w.heap.size w w4 := HAX.out.2.1.trans (hb4.mono (by omega))
  go_ret
  refine ⟨w.heap.size, w4.heap.size, w.heap.size + 1, rfl, ?_, ?_⟩
  · have hW : ∀ (o : Obj), Below w4.heap.size w4 (w4.alloc o) := fun o => below_alloc _ _
    have hH := HH.out
    have R4 := hH.rows.below hB
    refine ⟨(R4.below (hW _)).more (fun b h => h) fun b h => ?_, (hH.box.below hB b3).alloc _, (HAX.out.1.below hb4 a2).alloc _, Blk.new _ _ _, ⟨D4, hm4.alloc _, hp4⟩, ⟨by omega, by omega, by omega, by omega, by omega, by omega⟩, ⟨hH.los, by have := hH.los; omega, by have := hH.los; omega, by have := hH.los; omega⟩, fun b h hx => ?_⟩
    · rcases h with h | h | h | h | h
      · exact .inl (.inl h)
      · exact .inl (.inr h)
      · refine .inr ⟨by simp; omega, fun hf => ?_⟩
        have := (hH.rows.foot_lt hf).2
        omega
      · refine .inr ⟨by simp; omega, fun hf => ?_⟩
        have := (hH.rows.foot_lt hf).2
        omega
      · refine .inr ⟨by simp; omega, fun hf => ?_⟩
        have := (hH.rows.foot_lt hf).2
        omega
    · have hl := hH.rows.lt b (.inl h)
      rcases hx with hx | hx | hx | hx
      · exact hH.note b h hx
      · omega
      · omega
      · omega
  · exact hB.alloc (by omega) _

theorem smallQ.fits {h : HD} (hs : smallQ h.queues) (hn : ∀ q ∈ h.queues, q.name.size ≤ maxLen) (h1 : h.queues.length < 4194304) (h2 : ∀ q ∈ h.queues, q.items.length < 4194304) : h.fits 4194304 := ⟨h1, h2, hn⟩

theorem HR.sliceM {lo : Nat} {N X : Nat → Prop} {w : World} {v : Value} {L : QuL} (H : HR lo N X w v L) (hN : ∀ b, N b → lo ≤ b) : SliceQ (Made lo w.heap.size) w v (L.map Prod.fst) := by
  refine ⟨L, rfl, (own_slice H.row).sub fun b hb => ⟨H.row.lt b hb, rfl⟩, fun x hx => ?_⟩
  obtain ⟨LI, e, ho, hn⟩ := H.items x hx
  exact ⟨LI, e, (own_slice ho).sub fun b hb => ⟨ho.lt b hb, rfl⟩, fun y hy => (hn y hy).sub fun b hb => ⟨⟨hN b hb, H.lt b (.inl hb)⟩, rfl⟩⟩

set_option maxRecDepth 100000 in
set_option maxHeartbeats 3200000 in
theorem applyM_any (v : Value) (h : HD) (e : ED) (pv bv : Value) (w : World) (hv : SliceQ (Under w.heap.size) w v h.queues) (hsm : smallQ h.queues) (hf : h.fits 4194304) (he : e.fits) (hnt : NoteIs (Under w.heap.size) w (pv, bv) e.note) :
    Calls Try.prog 17 #[.agg #[v, .int .i64 h.next], .agg #[.int .i64 e.kind, .string e.queue, .int .i64 e.n, .int .i64 e.id, pv, bv]] w fun r w' => ∃ vi, r = .returned (.agg #[vi, .int .i64 (applyF h e).next]) ∧ SliceQ (Made w.heap.size w'.heap.size) w' vi (applyF h e).queues ∧ Below w.heap.size w w' := by
  have HV : Hid (SliceQ (Under w.heap.size) w v h.queues) := hv
  have HM : Hid (smallQ h.queues ∧ h.fits 4194304 ∧ e.fits) := ⟨hsm, hf, he⟩
  have HNT : Hid (NoteIs (Under w.heap.size) w (pv, bv) e.note) := hnt
  obtain ⟨va, vc, rfl⟩ := hv.shp
  obtain ⟨pa, pc, rfl, -⟩ := SliceV.shape hnt.1
  obtain ⟨ba, bc, rfl, -⟩ := SliceV.shape hnt.2
  clear hv hsm hf he hnt
  obtain ⟨A, hA⟩ : ∃ A, A = ((w.alloc (.cells #[.slice va h.queues.length vc, .int .i64 h.next] 24)).alloc (.cells #[.int .i64 e.kind, .string e.queue, .int .i64 e.n, .int .i64 e.id, .slice pa e.note.props.length pc, .slice ba e.note.body.length bc] 30)).alloc (.cells #[.slice none 0 0, .int .i64 0] 24) := ⟨_, rfl⟩
  have hAz : A.heap.size = w.heap.size + 3 := by rw [hA]; simp
  have hAB : Below w.heap.size w A := by rw [hA]; exact ((below_alloc _ _).alloc (by simp) _).alloc (by simp; omega) _
  have hA0 : Blk A w.heap.size [.slice va h.queues.length vc, .int .i64 h.next] := by rw [hA]; exact ((Blk.new _ _ _).alloc _).alloc _
  have hA1 : Blk A (w.heap.size + 1) [.int .i64 e.kind, .string e.queue, .int .i64 e.n, .int .i64 e.id, .slice pa e.note.props.length pc, .slice ba e.note.body.length bc] := by
    rw [hA]
    have := (Blk.new (w.alloc (.cells #[.slice va h.queues.length vc, .int .i64 h.next] 24)) [.int .i64 e.kind, .string e.queue, .int .i64 e.n, .int .i64 e.id, .slice pa e.note.props.length pc, .slice ba e.note.body.length bc] 30).alloc (.cells #[.slice none 0 0, .int .i64 0] 24)
    simpa using this
  have hA2 : Blk A (w.heap.size + 2) [.slice none 0 0, .int .i64 0] := by
    rw [hA]
    have := Blk.new ((w.alloc (.cells #[.slice va h.queues.length vc, .int .i64 h.next] 24)).alloc (.cells #[.int .i64 e.kind, .string e.queue, .int .i64 e.n, .int .i64 e.id, .slice pa e.note.props.length pc, .slice ba e.note.body.length bc] 30)) [.slice none 0 0, .int .i64 0] 24
    simpa using this
  have HAB : Hid (Below w.heap.size w A ∧ Blk A (w.heap.size + 1) [.int .i64 e.kind, .string e.queue, .int .i64 e.n, .int .i64 e.id, .slice pa e.note.props.length pc, .slice ba e.note.body.length bc] ∧ Blk A (w.heap.size + 2) [.slice none 0 0, .int .i64 0]) := ⟨hAB, hA1, hA2⟩
  have HVA : Hid (SliceQ (Under A.heap.size) A (.slice va h.queues.length vc) h.queues) := HV.out.sub fun k hk => ⟨Nat.lt_of_lt_of_le hk hAB.size, hAB.block k hk⟩
  obtain ⟨c0, c1, c2, c3⟩ := hA0.b2
  clear hAB hA0 hA1 hA2
  go_enter Try.func17, Try.ntmps17
  go_upto_region 1 with fail
  rw [← hA]
  clear hA
  go_upto_region 2 with (go_at_call 55; refine (hallOwnH_any _ h _ HVA.out HM.out.1).mono ?_; rintro r w1 ⟨vi, rfl, ho1, hb1⟩; obtain ⟨L, N, hL, hr, hn⟩ := ho1; obtain ⟨xa, xc, rfl, -⟩ := own_shape hr.row; have HR1 : Hid (L.map Prod.fst = h.queues ∧ HR A.heap.size N (fun _ => False) w1 (.slice xa L.length xc) L ∧ (∀ b, N b → A.heap.size ≤ b) ∧ Below A.heap.size A w1) := ⟨hL, hr, hn, hb1⟩; have hz1 := hb1.size; clear hL hr hn hb1)
  obtain ⟨B, hB⟩ : ∃ B, B = w1.alloc (.cells #[.slice xa L.length xc, .int .i64 h.next] 24) := ⟨_, rfl⟩
  have hBz : B.heap.size = w1.heap.size + 1 := by rw [hB]; simp
  have hBB : Below w1.heap.size w1 B := by rw [hB]; exact below_alloc _ _
  have hBb : Blk B w1.heap.size [.slice xa L.length xc, .int .i64 h.next] := by rw [hB]; exact Blk.new _ _ _
  have hAB : Below A.heap.size A B := HR1.out.2.2.2.trans (hBB.mono (by omega))
  have HHB : Hid (HB A.heap.size N w1.heap.size B (.slice xa L.length xc) L h.next) := by
    obtain ⟨-, hr, hn, -⟩ := HR1.out
    refine ⟨(hr.below hBB).more (fun b h => h) fun b h => ?_, hBb, hz1, fun b h e => ?_⟩
    · rcases h with h | h
      · exact .inl (.inl h)
      · subst h
        exact .inr ⟨by omega, fun hf => by have := (hr.foot_lt hf).2; omega⟩
    · have := hr.lt b (.inl h); omega
  have HFT : Hid (L.length ≤ 4194304 ∧ ∀ x ∈ L, x.1.name.size ≤ maxLen) := by
    have hL := HR1.out.1
    refine ⟨?_, fun x hx => HM.out.2.1.names x.1 (by rw [← hL]; exact List.mem_map_of_mem hx)⟩
    have h1 := HM.out.2.1.len
    rw [← hL, List.length_map] at h1
    omega
  have HE : Hid (∀ W, Below A.heap.size A W → Blk W (w.heap.size + 1) [.int .i64 e.kind, .string e.queue, .int .i64 e.n, .int .i64 e.id, .slice pa e.note.props.length pc, .slice ba e.note.body.length bc] ∧ Blk W (w.heap.size + 2) [.slice none 0 0, .int .i64 0] ∧ Below w.heap.size w W ∧ NoteIs (Under W.heap.size) W (.slice pa e.note.props.length pc, .slice ba e.note.body.length bc) e.note) := by
    show ∀ W, Below A.heap.size A W → _
    intro W hW
    obtain ⟨k1, k2, k3⟩ := HAB.out
    have kB : Below w.heap.size w W := k1.trans (hW.mono (by omega))
    exact ⟨k2.below hW (by omega), k3.below hW (by omega), kB, HNT.out.sub fun b hb => ⟨Nat.lt_of_lt_of_le hb kB.size, kB.block b hb⟩⟩
  have HAP : Hid (∀ {xb pb mb : Nat} {W : World}, JH A.heap.size N w1.heap.size xb pb mb W (.slice xa L.length xc) L h.next → NoteIs (Under W.heap.size) W (.slice pa e.note.props.length pc, .slice ba e.note.body.length bc) e.note → Calls Try.prog 78 #[.agg #[.int .i64 e.kind, .string e.queue, .int .i64 e.n, .int .i64 e.id, .slice pa e.note.props.length pc, .slice ba e.note.body.length bc], .pointer (some ⟨pb, 0, none⟩), .pointer (some ⟨xb, 0, none⟩)] W fun r w' => (∃ u, r = .returned u) ∧ StepAns A.heap.size N w1.heap.size xb pb W (applyF h e) w') := fun {_ _ _ _} H1 H2 => applyE_any H1 HR1.out.1 HM.out.2.1 e HM.out.2.2 _ _ H2
  have HAB2 : Hid (Below A.heap.size A B) := hAB
  have hE := (HE.out B hAB).1
  have e0 : B.cell? ⟨w.heap.size + 1, 0, none⟩ = some (.int .i64 e.kind) := hE.cell 0
  have e1 : B.cell? ⟨w.heap.size + 1, 1, none⟩ = some (.string e.queue) := hE.cell 1
  have e2 : B.cell? ⟨w.heap.size + 1, 2, none⟩ = some (.int .i64 e.n) := hE.cell 2
  have e3 : B.cell? ⟨w.heap.size + 1, 3, none⟩ = some (.int .i64 e.id) := hE.cell 3
  have e4 : B.cell? ⟨w.heap.size + 1, 4, none⟩ = some (.slice pa e.note.props.length pc) := hE.cell 4
  have e5 : B.cell? ⟨w.heap.size + 1, 5, none⟩ = some (.slice ba e.note.body.length bc) := hE.cell 5
  rw [← hB]
  clear hB hBB hBb hAB hE c0 c1 c2 c3
  go_region_held3 (fun w' => w'.cell? ⟨w.heap.size + 1, 0, none⟩ = some (.int .i64 e.kind) ∧ w'.cell? ⟨w.heap.size + 1, 1, none⟩ = some (.string e.queue) ∧ w'.cell? ⟨w.heap.size + 1, 2, none⟩ = some (.int .i64 e.n) ∧ w'.cell? ⟨w.heap.size + 1, 3, none⟩ = some (.int .i64 e.id) ∧ w'.cell? ⟨w.heap.size + 1, 4, none⟩ = some (.slice pa e.note.props.length pc) ∧ w'.cell? ⟨w.heap.size + 1, 5, none⟩ = some (.slice ba e.note.body.length bc)) (go_keep) (first
    | (go_at_call 46; refine (applyTo_any (w := B.drew) (v := .slice xa L.length xc) (L := L) (next := h.next) (N := N) (lo := A.heap.size) ⟨HHB.out.rows.on (Nat.le_refl _) (fun _ _ => rfl), HHB.out.box, HHB.out.los, HHB.out.note⟩ HFT.out.1 HFT.out.2).mono ?_; rintro r w2 ⟨xb, pb, mb, rfl, hj2, hb2⟩; have HJ2 : Hid (JH A.heap.size N w1.heap.size xb pb mb w2 (.slice xa L.length xc) L h.next ∧ Below A.heap.size A w2) := ⟨hj2, HAB2.out.trans (Below.mono (B := B.heap.size) ⟨hb2.os, hb2.tape, hb2.output, hb2.size, hb2.block⟩ (by omega))⟩; have hE := (HE.out w2 HJ2.out.2).1; have f0 : w2.cell? ⟨w.heap.size + 1, 0, none⟩ = some (.int .i64 e.kind) := hE.cell 0; have f1 : w2.cell? ⟨w.heap.size + 1, 1, none⟩ = some (.string e.queue) := hE.cell 1; have f2 : w2.cell? ⟨w.heap.size + 1, 2, none⟩ = some (.int .i64 e.n) := hE.cell 2; have f3 : w2.cell? ⟨w.heap.size + 1, 3, none⟩ = some (.int .i64 e.id) := hE.cell 3; have f4 : w2.cell? ⟨w.heap.size + 1, 4, none⟩ = some (.slice pa e.note.props.length pc) := hE.cell 4; have f5 : w2.cell? ⟨w.heap.size + 1, 5, none⟩ = some (.slice ba e.note.body.length bc) := hE.cell 5; clear hj2 hb2 hE)
    | (go_at_call 78; refine (HAP.out HJ2.out.1 (HE.out w2 HJ2.out.2).2.2.2).mono ?_; rintro r w3 ⟨⟨u, rfl⟩, hs3⟩; have HS3 : Hid (StepAns A.heap.size N w1.heap.size xb pb w2 (applyF h e) w3) := hs3; have HB3 : Hid (Below A.heap.size A w3) := (by obtain ⟨_, _, _, _, -, -, -, k4⟩ := hs3; exact HJ2.out.2.trans k4.bel); have hE := (HE.out w3 HB3.out).1; have g0 : w3.cell? ⟨w.heap.size + 1, 0, none⟩ = some (.int .i64 e.kind) := hE.cell 0; have g1 : w3.cell? ⟨w.heap.size + 1, 1, none⟩ = some (.string e.queue) := hE.cell 1; have g2 : w3.cell? ⟨w.heap.size + 1, 2, none⟩ = some (.int .i64 e.n) := hE.cell 2; have g3 : w3.cell? ⟨w.heap.size + 1, 3, none⟩ = some (.int .i64 e.id) := hE.cell 3; have g4 : w3.cell? ⟨w.heap.size + 1, 4, none⟩ = some (.slice pa e.note.props.length pc) := hE.cell 4; have g5 : w3.cell? ⟨w.heap.size + 1, 5, none⟩ = some (.slice ba e.note.body.length bc) := hE.cell 5; clear hs3 hE))
  obtain ⟨N', mb', v', L', hN', hL', hj, hk'⟩ := HS3.out
  have HJ3 : Hid (JH A.heap.size N' w1.heap.size xb pb mb' w3 v' L' (applyF h e).next ∧ L'.map Prod.fst = (applyF h e).queues) := ⟨hj, hL'⟩
  have HN3 : Hid (∀ b, N' b → A.heap.size ≤ b) := fun b hb => by
    rcases hN'.2 b hb with h | h
    · exact HR1.out.2.2.1 b h
    · have := HJ2.out.2.size; omega
  obtain ⟨ya, yc, rfl, -⟩ := own_shape hj.rows.row
  obtain ⟨r0, r1, r2, r3⟩ := hj.box.b2
  obtain ⟨t0, t1, t2, t3⟩ := (HE.out w3 HB3.out).2.1.b2
  have hne : w1.heap.size ≠ w.heap.size + 2 := by omega
  clear hj hk' hL' hN' e0 e1 e2 e3 e4 e5 f0 f1 f2 f3 f4 f5 g0 g1 g2 g3 g4 g5
  go_wp2_with fail
  refine bodyPost_ret (v := .agg #[.slice ya L'.length yc, .int .i64 (applyF h e).next]) (by simp [results, Try.results17, go_sem, *]; done) rfl ⟨_, rfl, ?_, ?_⟩
  · obtain ⟨hj, hL'⟩ := HJ3.out
    rw [← hL']
    have hlo : ∀ b, (N' b ∨ Foot (.slice ya L'.length yc) L' b) → b ≠ w.heap.size + 2 := fun b hb e => by
      rcases hb with hb | hb
      · have := HN3.out b hb; omega
      · have := (hj.rows.foot_lt hb).1; omega
    refine (((hj.rows.on (W := _) (by simp) fun b hb => ?_).sliceM HN3.out).sub fun b hb => ⟨⟨by have := hb.1; omega, hb.2⟩, rfl⟩)
    iterate 2 rw [Below.heap_setCell _ _ _ _ (hlo b hb)]
  · iterate 2 refine Below.setCell ?_ (show w.heap.size ≤ w.heap.size + 1 + 1 by omega) _
    exact (HE.out w3 HB3.out).2.2.1
theorem applyJ_any (v : Value) (h : HD) (e : ED) (pv bv : Value) (w : World) (hv : SliceQ (Under w.heap.size) w v h.queues) (hsm : smallQ h.queues) (hf : h.fits 4194304) (he : e.fits) (hnt : NoteIs (Under w.heap.size) w (pv, bv) e.note) :
    Calls Try.prog 17 #[.agg #[v, .int .i64 h.next], .agg #[.int .i64 e.kind, .string e.queue, .int .i64 e.n, .int .i64 e.id, pv, bv]] w fun r w' => ∃ vi, r = .returned (.agg #[vi, .int .i64 (applyF h e).next]) ∧ SliceQ (Under w'.heap.size) w' vi (applyF h e).queues ∧ Below w.heap.size w w' :=
  (applyM_any v h e pv bv w hv hsm hf he hnt).mono fun r w' ⟨vi, h1, h2, h3⟩ => ⟨vi, h1, h2.under, h3⟩
end Go.Proofs.Ytkddkpdfeeikhaa

/-
  What is read is an entry that may be applied; what records come to, plainly.
-/
namespace Go.Proofs.Ytkddkpdfeeikhaa
open Go.RowKit
set_option linter.unusedVariables false
set_option linter.unusedSimpArgs false

/-- The entry that bytes are read as. -/
def readE (b : List UInt8) : ED := ⟨(jparseF b).1, (jparseF b).2.1, (jparseF b).2.2.1, (jparseF b).2.2.2.1, ⟨(jparseF b).2.2.2.2.1.map upPD, (jparseF b).2.2.2.2.2.1⟩⟩
def readOk (b : List UInt8) : Bool := (jparseF b).2.2.2.2.2.2 == 0
/-- A record is applied, if it is an entry. -/
def stepF (h : HD) (r : List UInt8) : HD := if readOk r then applyF h (readE r) else h
def replayL (h : HD) (rs : List (List UInt8)) : HD := rs.foldl stepF h

theorem headF_len {b : List UInt8} {k : UInt8} {q r : List UInt8} (h : headF b = some (k, q, r)) : q.length ≤ 255 := by
  unfold headF at h
  split at h
  · rename_i k' n r'
    split at h
    · cases h
    · simp only [Option.some.injEq, Prod.mk.injEq] at h
      obtain ⟨-, rfl, -⟩ := h
      have := n.toNat_lt
      simp
      omega
  · cases h

theorem bstr_size (q : List UInt8) : (bstr q).size = q.length := by simp [bstr, ByteArray.size]

theorem readE_fits (b : List UInt8) : (readE b).fits ∧ (readE b).queue.size ≤ 255 := by
  unfold readE jparseF
  have hno : ED.fits ⟨0, ⟨#[]⟩, 0, 0, ⟨List.map upPD [], []⟩⟩ ∧ (⟨#[]⟩ : ByteArray).size ≤ 255 := ⟨⟨by simp [ByteArray.size, maxLen], by simp, by simp [ND.small]⟩, by simp [ByteArray.size]⟩
  cases hh : headF b with
  | none => exact hno
  | some x =>
    obtain ⟨k, q, r⟩ := x
    simp only
    have hq := headF_len hh
    split
    · split
      · rename_i hk hr
        have hqs : (bstr q).size ≤ 255 := by rw [bstr_size]; exact hq
        refine ⟨⟨by simp only; unfold maxLen; omega, ?_, ?_⟩, hqs⟩
        · simp only [restF]
          have h4 : ∀ l : List UInt8, l.length ≤ 4 → (0 : Int) ≤ NT.valB l ∧ (NT.valB l : Int) ≤ 4294967296 := fun l hl => ⟨by omega, by have := NT.valB_lt4 l hl; omega⟩
          split
          · simp
          · split
            · split
              · simp
              · exact h4 _ (by simp; omega)
            · split
              · simp only [idF]
                split
                · exact h4 _ (by omega)
                · simp
              · simp
        · simp only [restF] at hr ⊢
          by_cases h1 : (k.toNat : Int) = 1
          · simp [h1, ND.small]
          by_cases h3 : (k.toNat : Int) = 3
          · simp only [h3] at hr ⊢
            by_cases hl : r.length < 4
            · simp [hl] at hr
            · simp [hl] at hr ⊢
              have hb := NT.parse_back (r.drop 4) hr.1
              have hw := NT.wrongN_zero _ _ hb.1
              simp [ND.small]
              omega
          · simp only [h1, h3, if_false] at hr ⊢
            split <;> simp [ND.small]
      · exact hno
    · exact hno

/-- How much a hall holds grows by one a step. -/
theorem applyF_grow {c : Nat} {h : HD} {e : ED} (hf : h.fits c) (he : e.queue.size ≤ maxLen) : (applyF h e).fits (c + 1) := by
  obtain ⟨h1, h2, h3⟩ := hf
  have same : h.fits (c + 1) := ⟨by omega, fun q hq => by have := h2 q hq; omega, h3⟩
  cases hn : h.queues.findIdx? (nameB e.queue) with
  | none =>
    rw [applyF_none hn]
    split
    · refine ⟨by simp; omega, fun q hq => ?_, fun q hq => ?_⟩
      · rw [List.mem_append, List.mem_singleton] at hq
        rcases hq with hq | rfl
        · have := h2 q hq; omega
        · simp
      · rw [List.mem_append, List.mem_singleton] at hq
        rcases hq with hq | rfl
        · exact h3 q hq
        · exact he
    · exact same
  | some k =>
    have hk : k < h.queues.length := (List.findIdx?_eq_some_iff_getElem.1 hn).1
    have hm := List.getElem_mem hk
    have hset : ∀ its : List IT, its.length ≤ h.queues[k].items.length + 1 → ∀ nx, HD.fits (c + 1) ⟨h.queues.set k ⟨h.queues[k].name, h.queues[k].limit, its⟩, nx⟩ := fun its hi nx => by
      refine ⟨by simp; omega, fun q hq => ?_, fun q hq => ?_⟩
      · rcases List.mem_or_eq_of_mem_set hq with hq | rfl
        · have := h2 q hq; omega
        · have := h2 _ hm; simp only; omega
      · rcases List.mem_or_eq_of_mem_set hq with hq | rfl
        · exact h3 q hq
        · show h.queues[k].name.size ≤ maxLen
          exact h3 _ hm
    rw [applyF_some hk hn]
    split
    · refine ⟨by simp [List.length_eraseIdx, hk]; omega, fun q hq => ?_, fun q hq => ?_⟩
      · have := h2 q (List.mem_of_mem_eraseIdx hq); omega
      · exact h3 q (List.mem_of_mem_eraseIdx hq)
    · split
      · exact hset _ (by simp) _
      · split
        · exact hset _ (by have := List.length_filter_le (fun i => !idB e.id i) h.queues[k].items; omega) _
        · exact same

theorem stepF_grow {c : Nat} {h : HD} (hf : h.fits c) (r : List UInt8) : (stepF h r).fits (c + 1) := by
  unfold stepF
  split
  · exact applyF_grow hf (readE_fits r).1.queue
  · exact ⟨by have := hf.len; omega, fun q hq => by have := hf.items q hq; omega, hf.names⟩

theorem replayL_fits (rs : List (List UInt8)) : (replayL ⟨[], 0⟩ rs).fits (rs.length + 1) := by
  suffices H : ∀ (rs : List (List UInt8)) (h : HD) (c : Nat), h.fits c → (replayL h rs).fits (c + rs.length) by
    have := H rs ⟨[], 0⟩ 1 ⟨by simp, by simp, by simp⟩
    rwa [Nat.add_comm] at this
  intro rs
  induction rs with
  | nil => intro h c hf; exact hf
  | cons r rs ih =>
    intro h c hf
    have := ih _ _ (stepF_grow hf r)
    rw [show c + (r :: rs).length = c + 1 + rs.length by simp; omega]
    exact this
theorem replayL_take (rs : List (List UInt8)) (k : Nat) (hk : k < rs.length) : replayL ⟨[], 0⟩ (rs.take (k + 1)) = stepF (replayL ⟨[], 0⟩ (rs.take k)) rs[k] := by
  unfold replayL
  rw [List.take_succ_eq_append_getElem hk, List.foldl_append]
  rfl
end Go.Proofs.Ytkddkpdfeeikhaa
