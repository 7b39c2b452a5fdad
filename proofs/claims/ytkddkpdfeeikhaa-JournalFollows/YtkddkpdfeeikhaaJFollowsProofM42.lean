/-
  JFollow; JFollowG: texts laid together.
-/
import Derived.Test.YtkddkpdfeeikhaaJFollowsProofM41
import Derived.Test.YtkddkpdfeeikhaaJFollowsProofM23
import Derived.Test.YtkddkpdfeeikhaaJFollowsProofM38
import Derived.Deep.RegionHeld3
/-
  The closure of the law JournalFollows: of entries that tell of what was done it leaves the bool true.
-/
namespace Go.Proofs.Ytkddkpdfeeikhaa
open Go.RowKit Go.WideMaps Go.Maps
set_option linter.unusedVariables false
set_option linter.unusedSimpArgs false

attribute [local go_sem ↓] Go.wp_at_zero Go.wp_at_succ

/-- What stands in the round behind k entries. -/
structure FI (w : World) (xv : Value) (x p : HD) (pb : Nat) (wr : World) : Prop where
  bel : Below w.heap.size w wr
  xbox : Blk wr w.heap.size [xv, .int .i64 x.next]
  lt : w.heap.size < pb
  box : ∃ va vc, Blk wr pb [.slice va p.queues.length vc, .int .i64 p.next] ∧ SliceQ (fun b => b < wr.heap.size ∧ b ≠ pb ∧ b ≠ w.heap.size) wr (.slice va p.queues.length vc) p.queues

theorem FI.on {w : World} {xv : Value} {x p : HD} {pb : Nat} {wr W : World} (H : FI w xv x p pb wr) (hb : Below wr.heap.size wr W) : FI w xv x p pb W := by
  obtain ⟨h1, h2, h3, va, vc, h4, h5⟩ := H
  have hz := hb.size
  exact ⟨h1.trans (hb.mono h1.size), h2.below hb h2.lt, h3, va, vc, h4.below hb h4.lt, h5.sub fun b hb' => ⟨⟨by have := hb'.1; omega, hb'.2⟩, hb.block b hb'.1⟩⟩

/-- The next hall is stored. -/
theorem FI.next {w : World} {xv : Value} {x p p' : HD} {pb : Nat} {wr W : World} (H : FI w xv x p pb wr) (hb : Below wr.heap.size wr W) {va : Option Addr} {vc : Nat} (hq : SliceQ (Made wr.heap.size W.heap.size) W (.slice va p'.queues.length vc) p'.queues) :
    FI w xv x p' pb ((W.setCell ⟨pb, 0, none⟩ (.slice va p'.queues.length vc)).setCell ⟨pb, 1, none⟩ (.int .i64 p'.next)) := by
  have h := H.on hb
  have hwl := H.xbox.lt
  obtain ⟨h1, h2, h3, va', vc', h4, h5⟩ := h
  obtain ⟨-, -, -, _, _, h6, -⟩ := H
  have hpl := h6.lt
  have far : ∀ b, b ≠ pb → ((W.setCell ⟨pb, 0, none⟩ (.slice va p'.queues.length vc)).setCell ⟨pb, 1, none⟩ (.int .i64 p'.next)).heap[b]? = W.heap[b]? := fun b hb => by
    rw [Below.heap_setCell _ _ _ _ hb, Below.heap_setCell _ _ _ _ hb]
  refine ⟨(h1.setCell (show w.heap.size ≤ pb by omega) _).setCell (show w.heap.size ≤ pb by omega) _, h2.same (far _ (by omega)), h3, va, vc, (h4.set 0 _).set 1 _, hq.sub fun b hb' => ⟨⟨by simpa using hb'.2, by have := hb'.1; omega, by have := hb'.1; omega⟩, far b (by have := hb'.1; omega)⟩⟩

set_option maxRecDepth 100000 in
set_option maxHeartbeats 3200000 in
theorem follows_skip (hb okb : Nat) (xv : Value) (nx : Int) (ev : Value) (n : Nat) (err : Int) (w : World) (he : err ≠ 0) :
    Calls Try.prog 26 #[.agg #[xv, .int .i64 nx], ev, .int .i64 err, .pointer (some ⟨hb, 0, none⟩), .pointer (some ⟨okb, 0, none⟩)] w fun e w' => e = .returned (.tuple #[]) ∧ Below w.heap.size w w' := by
  have hne : ¬ err = 0 := he
  go_enter Try.func26, Try.ntmps26
  go_wp2_with fail
  exact bodyPost_ret (v := .tuple #[]) (by simp [results, Try.results26]; done) rfl ⟨rfl, below_alloc _ _⟩

set_option maxRecDepth 100000 in
set_option maxHeartbeats 3200000 in
theorem follows_done (hb okb : Nat) (hv : Value) (h : HD) (xv : Value) (x : HD) (ev : Value) (es : List ED) (w : World) (hH : Blk w hb [hv, .int .i64 h.next]) (hO : Blk w okb [.bool true])
    (hQ : SliceQ (Under w.heap.size) w hv h.queues) (hX : SliceQ (Under w.heap.size) w xv x.queues) (hE : SliceE (Under w.heap.size) w ev es) (hsx : smallQ x.queues) (hf : FolOk h x es) :
    Calls Try.prog 26 #[.agg #[xv, .int .i64 x.next], ev, .int .i64 0, .pointer (some ⟨hb, 0, none⟩), .pointer (some ⟨okb, 0, none⟩)] w fun e w' => e = .returned (.tuple #[]) ∧ Below okb w w' ∧ Blk w' okb [.bool true] := by
  have HQ : Hid (SliceQ (Under w.heap.size) w hv h.queues) := hQ
  have HX : Hid (SliceQ (Under w.heap.size) w xv x.queues) := hX
  have HE : Hid (SliceE (Under w.heap.size) w ev es) := hE
  have HF : Hid (smallQ x.queues ∧ FolOk h x es) := ⟨hsx, hf⟩
  have HO : Hid (Blk w okb [.bool true]) := hO
  have hol := hO.lt
  have hhl := hH.lt
  obtain ⟨ha, hc, rfl⟩ := hQ.shp
  obtain ⟨xa, xc, rfl⟩ := hX.shp
  obtain ⟨ea, ec, rfl⟩ := hE.shp
  obtain ⟨n, hn⟩ : ∃ n, n = es.length := ⟨_, rfl⟩
  have HN : Hid (n = es.length ∧ n ≤ 4000) := ⟨hn, by rw [hn]; exact hf.len⟩
  rw [← hn] at HE
  rw [← hn]
  obtain ⟨xn, hxn⟩ : ∃ xn, xn = x.queues.length := ⟨_, rfl⟩
  have HXN : Hid (xn = x.queues.length) := hxn
  rw [← hxn] at HX
  rw [← hxn]
  obtain ⟨A, hA⟩ : ∃ A, A = w.alloc (.cells #[.slice xa xn xc, .int .i64 x.next] 24) := ⟨_, rfl⟩
  have hAz : A.heap.size = w.heap.size + 1 := by rw [hA]; simp
  have hAB : Below w.heap.size w A := by rw [hA]; exact below_alloc _ _
  have hAX : Blk A w.heap.size [.slice xa xn xc, .int .i64 x.next] := by rw [hA]; exact Blk.new _ _ _
  have HAB : Hid (Below w.heap.size w A ∧ Blk A w.heap.size [.slice xa xn xc, .int .i64 x.next]) := ⟨hAB, hAX⟩
  obtain ⟨a0, a1, a2, a3⟩ := (hH.below hAB hhl).b2
  have HPL : Hid (Calls Try.prog 27 #[.agg #[.slice ha h.queues.length hc, .int .i64 h.next]] A fun e w' => ∃ v', e = .returned (.agg #[v', .int .i64 h.next]) ∧ SliceQ (SM (Under w.heap.size) A w') w' v' (h.queues.map plainQ) ∧ Below A.heap.size A w') :=
    refPlain_any (Under w.heap.size) _ h A (fun b hb => by have : b < w.heap.size := hb; omega) (hQ.sub fun b hb => ⟨hb, hAB.block b hb⟩) hf.cap.plain.1
  clear hQ hX hE hsx hf hO hH hAB hAX hn hxn
  go_enter Try.func26, Try.ntmps26
  go_upto_region 1 with fail
  rw [← hA]
  clear hA
  go_upto_region 3 with (go_at_call 27; refine HPL.out.mono ?_; rintro r w1 ⟨pv, rfl, hp1, hb1⟩; obtain ⟨pa, pc, rfl⟩ := hp1.shp; have HP1 : Hid (SliceQ (SM (Under w.heap.size) A w1) w1 (.slice pa (h.queues.map plainQ).length pc) (h.queues.map plainQ) ∧ Below A.heap.size A w1) := ⟨hp1, hb1⟩; have hz1 := hb1.size; clear hp1 hb1)
  obtain ⟨pb, hpb⟩ : ∃ pb, pb = w1.heap.size := ⟨_, rfl⟩
  have H0 : Hid (FI w (.slice xa xn xc) x (plainH h) pb (w1.alloc (.cells #[.slice pa (h.queues.map plainQ).length pc, .int .i64 h.next] 24))) := by
    have hz := HP1.out.2.size
    have h1 : Below w.heap.size w w1 := HAB.out.1.trans (HP1.out.2.mono (by omega))
    refine ⟨h1.alloc h1.size _, (HAB.out.2.below HP1.out.2 (by omega)).alloc _, by omega, pa, pc, by rw [hpb]; exact Blk.new _ _ _, HP1.out.1.sub fun b hb => ?_⟩
    have hb' : b < w1.heap.size ∧ b ≠ w.heap.size := by
      rcases hb with hb | hb
      · have : b < w.heap.size := hb; omega
      · have := hb.1; have := hb.2; omega
    exact ⟨⟨by simp; omega, by omega, hb'.2⟩, Below.heap_alloc _ _ _ hb'.1⟩
  have hq1 : (plainH h).queues.length = (h.queues.map plainQ).length := rfl
  obtain ⟨W1, hW1⟩ : ∃ W1, W1 = w1.alloc (.cells #[.slice pa (h.queues.map plainQ).length pc, .int .i64 h.next] 24) := ⟨_, rfl⟩
  simp only [List.length_map] at hW1
  rw [List.length_map, ← hW1] at H0
  rw [← hW1, ← hpb]
  clear hW1 hpb a0 a1 a2 hq1
  go_wp2_with fail
  go_loopw [17] (fun i wr => ∃ k : Nat, k ≤ n ∧ i = .int .i64 k ∧ FI w (.slice xa xn xc) x ((es.take k).foldl applyF (plainH h)) pb wr) (fun i _ => n - (intOf i).toNat)
  case atStart => exact ⟨0, Nat.zero_le _, rfl, H0.out⟩
  case round =>
    obtain ⟨k, hk, rfl, hI⟩ := hrel
    have HI : Hid (FI w (.slice xa xn xc) x ((es.take k).foldl applyF (plainH h)) pb wr) := hI
    have hzr := hI.bel.size
    have hn4 : n ≤ 4000 := HN.out.2
    have hz3 := hI.xbox.lt
    by_cases hlt : k < n
    · have hk2 : k < es.length := by rw [← HN.out.1]; exact hlt
      obtain ⟨b, off, na, nc, ma, mc, rfl, hS, hnt, ⟨c0, c1, c2, c3⟩, c4, c5⟩ := (SliceE.sub (T := Under w.heap.size) HE.out (fun b hb => ⟨hb, hI.bel.block b hb⟩)).at k hk2
      obtain ⟨e, hee⟩ : ∃ e, e = es[k] := ⟨_, rfl⟩
      have hS' : b < w.heap.size := hS
      have hbw : b < wr.heap.size := by omega
      rw [← hee] at c0 c1 c2 c3 c4 c5 hnt
      have hfe : e.fits := by rw [hee]; exact HF.out.2.fit _ (List.getElem_mem hk2)
      have HSTEP : Hid ((es.take (k + 1)).foldl applyF (plainH h) = applyF ((es.take k).foldl applyF (plainH h)) e) := by
        show (es.take (k + 1)).foldl applyF (plainH h) = _
        rw [List.take_succ_eq_append_getElem hk2, List.foldl_append, hee]
        rfl
      have hcap : ((es.take k).foldl applyF (plainH h)).cap 4100 := by
        have h1 := HF.out.2.cap.plainH.fold (es.take k) (fun e he => HF.out.2.fit e (List.mem_of_mem_take he))
        refine h1.mono ?_
        have := HN.out.2
        rw [List.length_take]
        omega
      obtain ⟨p, hp⟩ : ∃ p, p = (es.take k).foldl applyF (plainH h) := ⟨_, rfl⟩
      rw [← hp] at HSTEP hcap HI
      obtain ⟨va, vc, hpb, hpq⟩ := HI.out.box
      obtain ⟨b0, b1, b2, b3⟩ := hpb.b2
      have HAP : Hid (∀ W, Below wr.heap.size wr W → Calls Try.prog 17 #[.agg #[.slice va p.queues.length vc, .int .i64 p.next], .agg #[.int .i64 e.kind, .string e.queue, .int .i64 e.n, .int .i64 e.id, .slice na e.note.props.length nc, .slice ma e.note.body.length mc]] W fun r w' => ∃ vi, r = .returned (.agg #[vi, .int .i64 (applyF p e).next]) ∧ SliceQ (Made W.heap.size w'.heap.size) w' vi (applyF p e).queues ∧ Below W.heap.size W w') := by
        show ∀ W, Below wr.heap.size wr W → _
        intro W hW
        have hz := hW.size
        exact applyM_any _ p e _ _ W (hpq.sub fun b hb => ⟨Nat.lt_of_lt_of_le hb.1 hz, hW.block b hb.1⟩) (hcap.plain' (by omega)).1 (hcap.plain' (by omega)).2 hfe (hnt.sub fun b hb => ⟨by have : b < w.heap.size := hb; show b < W.heap.size; omega, hW.block b (by have : b < w.heap.size := hb; omega)⟩)
      obtain ⟨p', hp'⟩ : ∃ p', p' = applyF p e := ⟨_, rfl⟩
      rw [← hp'] at HSTEP HAP
      obtain ⟨kd, qu, nn, id, nt⟩ := e
      simp only at c0 c1 c2 c3 c4 c5
      have HPB : Hid (Blk wr pb [.slice va p.queues.length vc, .int .i64 p.next]) := hpb
      clear hp' hnt hee hfe hcap hp hI hpb hpq hS
      go_wp2_with (go_at_call 17; refine (HAP.out _ (below_alloc _ _)).mono ?_; rintro r w3 ⟨vi, rfl, hq3, hb3⟩; obtain ⟨ia, ic, rfl⟩ := hq3.shp; have HQ3 : Hid (SliceQ (Made wr.heap.size w3.heap.size) w3 (.slice ia p'.queues.length ic) p'.queues ∧ Below wr.heap.size wr w3) := ⟨hq3.sub fun b hb => ⟨⟨by have := hb.1; simp at this; omega, hb.2⟩, rfl⟩, (below_alloc wr _).trans (hb3.mono (by simp))⟩; obtain ⟨k0, k1, k2, k3⟩ := (HPB.out.below HQ3.out.2 b3).b2; clear hq3 hb3)
      have hnx := HI.out.next HQ3.out.2 HQ3.out.1
      go_roundw
      case rel =>
        refine ⟨k + 1, by omega, by go_num, ?_⟩
        rw [HSTEP.out]
        exact hnx
      case measure => simp [intOf]; omega
    · obtain rfl : k = n := by omega
      have hes : es.take k = es := List.take_of_length_le (by have := HN.out; omega)
      rw [hes, HF.out.2.fol] at HI
      have hk := HI.out.bel
      obtain ⟨va, vc, hpb, hpq⟩ := HI.out.box
      have HR : Hid (Below w.heap.size w wr ∧ Blk wr w.heap.size [.slice xa xn xc, .int .i64 x.next] ∧ Blk wr pb [.slice va (plainH x).queues.length vc, .int .i64 x.next] ∧ SliceQ (fun b => b < wr.heap.size ∧ b ≠ pb ∧ b ≠ w.heap.size) wr (.slice va (plainH x).queues.length vc) (x.queues.map plainQ) ∧ Blk wr okb [.bool true]) := ⟨hk, HI.out.xbox, hpb, hpq, HO.out.below hk hol⟩
      have hpl : (plainH x).queues.length = xn := by rw [HXN.out]; simp [plainH]
      rw [hpl] at HR
      obtain ⟨b0, b1, b2, b3⟩ := HR.out.2.2.1.b2
      obtain ⟨d0, d1, d2, d3⟩ := HR.out.2.1.b2
      obtain ⟨f0, f1, f2⟩ := HR.out.2.2.2.2.b1
      have HPX : Hid (∀ W : World, W.heap = wr.heap → Calls Try.prog 27 #[.agg #[.slice xa xn xc, .int .i64 x.next]] W fun e w' => ∃ v', e = .returned (.agg #[v', .int .i64 x.next]) ∧ SliceQ (SM (Under w.heap.size) wr w') w' v' (x.queues.map plainQ) ∧ Below W.heap.size W w') := by
        show ∀ W : World, W.heap = wr.heap → _
        intro W hW
        have h1 := refPlain_any (Under w.heap.size) _ x W (fun b hb => by rw [hW]; have : b < w.heap.size := hb; omega) (HX.out.sub fun b hb => ⟨hb, by rw [hW]; exact hk.block b hb⟩) HF.out.1
        refine h1.mono fun e w' ⟨v', h2, h3, h4⟩ => ⟨v', h2, h3.sub fun b hb => ⟨?_, rfl⟩, h4⟩
        rcases hb with hb | hb
        · exact .inl hb
        · exact .inr (by rw [hW] at hb; exact hb)
      have HSA : Hid (∀ (W : World) (u u' : Value), SliceQ (Under W.heap.size) W u (x.queues.map plainQ) → SliceQ (Under W.heap.size) W u' (x.queues.map plainQ) → Calls Try.prog 11 #[.agg #[u, .int .i64 x.next], .agg #[u', .int .i64 x.next]] W fun e w' => e = .returned (.bool true) ∧ Below W.heap.size W w') := fun W u u' h1 h2 => sameHall_true u u' ⟨x.queues.map plainQ, x.next⟩ (plain_smallQ HF.out.1) W h1 h2
      have HI0 : Hid (w.heap.size < pb) := HI.out.lt
      clear hI hpb hpq hpl hes hk HI HF HAB HPL
      have HLT : Hid (∀ (W : World), wr.heap.size ≤ W.heap.size → ∀ b, SM (Under w.heap.size) wr W b → Under W.heap.size b) := fun W hW b hb => by
        rcases hb with hb | hb
        · have : b < w.heap.size := hb
          show b < _
          omega
        · exact hb.2
      go_wp2_with fail
      have HEND : Hid (∀ W, Below wr.heap.size wr W → Below okb w (W.setCell ⟨okb, 0, none⟩ (.bool true)) ∧ Blk (W.setCell ⟨okb, 0, none⟩ (.bool true)) okb [.bool true]) := by
        show ∀ W, Below wr.heap.size wr W → _
        intro W hW
        have h1 := HR.out.1
        have h2 : Below w.heap.size w W := h1.trans (hW.mono h1.size)
        exact ⟨((h2.mono (show okb ≤ w.heap.size by omega)).setCell (Nat.le_refl _) _), ((HR.out.2.2.2.2.below hW f2).set 0 _)⟩
      have hn1 : okb ≠ pb := by have := HI0.out; omega
      have hn2 : okb ≠ w.heap.size := by omega
      have hn3 : pb ≠ okb := fun e => hn1 e.symm
      have hn4 : w.heap.size ≠ okb := fun e => hn2 e.symm
      refine wp_region_noPanic ?_
      refine wp_region_held_drew (S := (fun w' => w'.cell? ⟨okb, 0, none⟩ = some (.bool true) ∧ w'.cell? ⟨pb, 0, none⟩ = some (.slice va xn vc) ∧ w'.cell? ⟨pb, 1, none⟩ = some (.int .i64 x.next) ∧ w'.cell? ⟨w.heap.size, 0, none⟩ = some (.slice xa xn xc) ∧ w'.cell? ⟨w.heap.size, 1, none⟩ = some (.int .i64 x.next))) (by kernel_rfl) ?_ (fun hHeld => ?_)
      · (try dsimp only); go_keep
      refine wpAnyH_take (i := 0) (oi := _) (v := ?_) rfl (by kernel_rfl) (by kernel_rfl) (by kernel_rfl) (fun _ _ _ h => h) (Or.inl ⟨by rfl, ?_⟩) (by assumption) ?_
      rotate_left
      · (intro w' hSw; (try dsimp only at hSw); go_simp <;> (try with_reducible rfl))
      try simp only [Act.put, List.setIfInBounds_toArray, List.set_cons_zero, List.set_cons_succ, List.getElem_toArray, List.getElem_cons_zero, List.getElem_cons_succ]
      refine wpAnyH_take (i := 1) (oi := _) (v := ?_) rfl (by kernel_rfl) (by kernel_rfl) (by kernel_rfl) (fun _ _ _ h => h) (Or.inl ⟨by rfl, ?_⟩) (by assumption) ?_
      rotate_left
      · (intro w' hSw; (try dsimp only at hSw); go_simp <;> (try with_reducible rfl))
      try simp only [Act.put, List.setIfInBounds_toArray, List.set_cons_zero, List.set_cons_succ, List.getElem_toArray, List.getElem_cons_zero, List.getElem_cons_succ]
      refine wpAnyH_take (i := 2) (oi := _) (v := ?_) rfl (by kernel_rfl) (by kernel_rfl) (by kernel_rfl) (fun _ _ _ h => h) (Or.inl ⟨by rfl, ?_⟩) (by assumption) ?_
      rotate_left
      · (intro w' hSw; (try dsimp only at hSw); go_simp <;> (try with_reducible rfl))
      try simp only [Act.put, List.setIfInBounds_toArray, List.set_cons_zero, List.set_cons_succ, List.getElem_toArray, List.getElem_cons_zero, List.getElem_cons_succ]
      refine wpAnyH_take (i := 3) (oi := _) (v := ?_) rfl (by kernel_rfl) (by kernel_rfl) (by kernel_rfl) (fun _ _ _ h => h) (Or.inl ⟨by rfl, ?_⟩) (by assumption) ?_
      rotate_left
      · (intro w' hSw; (try dsimp only at hSw); go_simp <;> (try with_reducible rfl))
      try simp only [Act.put, List.setIfInBounds_toArray, List.set_cons_zero, List.set_cons_succ, List.getElem_toArray, List.getElem_cons_zero, List.getElem_cons_succ]
      refine wpAnyH_ready (rs := [4]) (by kernel_rfl) (by simp) ?_
      refine AllReadyH.cons (o := _) rfl (fun K hK => ?_) AllReadyH.nil
      (go_simp; go_at_call 27; refine (HPX.out wr.drew rfl).mono ?_; rintro r w5 ⟨yv, rfl, hy5, hb5'⟩; have hb5 : Below wr.heap.size wr w5 := ⟨hb5'.os, hb5'.tape, hb5'.output, hb5'.size, hb5'.block⟩; clear hb5'; obtain ⟨ya, yc, rfl⟩ := hy5.shp; rw [List.length_map, ← HXN.out] at hy5; have HY5 : Hid (SliceQ (SM (Under w.heap.size) wr w5) w5 (.slice ya xn yc) (x.queues.map plainQ) ∧ Below wr.heap.size wr w5) := ⟨hy5, hb5⟩; rw [List.length_map, ← HXN.out]; have g0 := bel_c hb5 f2 f0; have g1 := bel_c hb5 b3 b0; have g2 := bel_c hb5 b3 b1; have g3 := bel_c hb5 d3 d0; have g4 := bel_c hb5 d3 d1; clear hy5 hb5)
      refine hK.out _ _ ?_ (fun hHeld => ?_)
      · (try dsimp only); go_keep
      clear hK K
      try simp only [Act.put, List.setIfInBounds_toArray, List.set_cons_zero, List.set_cons_succ, List.getElem_toArray, List.getElem_cons_zero, List.getElem_cons_succ]
      refine wpAnyH_ready (rs := [5]) (by kernel_rfl) (by simp) ?_
      refine AllReadyH.cons (o := _) rfl (fun K hK => ?_) AllReadyH.nil
      (go_simp; go_at_call 11; refine (HSA.out w5 _ _ (HR.out.2.2.2.1.sub fun b hb => ⟨Nat.lt_of_lt_of_le hb.1 HY5.out.2.size, HY5.out.2.block b hb.1⟩) (HY5.out.1.sub fun b hb => ⟨HLT.out w5 HY5.out.2.size b hb, rfl⟩)).mono ?_; rintro r w6 ⟨rfl, hb6⟩; have HB6 : Hid (Below wr.heap.size wr w6) := HY5.out.2.trans (hb6.mono HY5.out.2.size); have k0 := bel_c HB6.out f2 f0; have k1 := bel_c HB6.out b3 b0; have k2 := bel_c HB6.out b3 b1; have k3 := bel_c HB6.out d3 d0; have k4 := bel_c HB6.out d3 d1; have k5 := (HR.out.2.2.2.2.below HB6.out f2).f; clear hb6)
      refine hK.out _ _ ?_ (fun hHeld => ?_)
      · (try dsimp only); go_keep
      clear hK K
      try simp only [Act.put, List.setIfInBounds_toArray, List.set_cons_zero, List.set_cons_succ, List.getElem_toArray, List.getElem_cons_zero, List.getElem_cons_succ]
      refine wpAnyH_take (i := 6) (oi := _) (v := ?_) rfl (by kernel_rfl) (by kernel_rfl) (by kernel_rfl) (fun _ _ _ h => h) (Or.inl ⟨by rfl, ?_⟩) (by assumption) ?_
      rotate_left
      · (intro w' hSw; (try dsimp only at hSw); go_simp <;> (try with_reducible rfl))
      try simp only [Act.put, List.setIfInBounds_toArray, List.set_cons_zero, List.set_cons_succ, List.getElem_toArray, List.getElem_cons_zero, List.getElem_cons_succ]
      refine wpAnyH_ready (rs := [7]) (by kernel_rfl) (by simp) ?_
      refine AllReadyH.cons (o := _) rfl (fun K hK => ?_) AllReadyH.nil
      go_simp
      refine hK.out _ _ ?_ (fun hHeld => ?_)
      · (try dsimp only); go_keep; exact (HEND.out _ HB6.out).2.b1.1
      clear hK K
      try simp only [Act.put, List.setIfInBounds_toArray, List.set_cons_zero, List.set_cons_succ, List.getElem_toArray, List.getElem_cons_zero, List.getElem_cons_succ]
      refine wpAnyH_done (by kernel_rfl) ?_ _
      refine NoPanic.normal ?_
      go_wp2_with fail
      exact bodyPost_end (by simp [results, Try.results26]) rfl ⟨rfl, HEND.out _ HB6.out⟩

end Go.Proofs.Ytkddkpdfeeikhaa

/-
  Each step of a right hall: behind the entries that it tells the plain hall is the plain one of what it made. Plain lists.
-/
namespace Go.Proofs.Ytkddkpdfeeikhaa
open Go.RowKit
set_option linter.unusedVariables false
set_option linter.unusedSimpArgs false

theorem sound_reg {h : HD} (s : h.sound) : h.reg := by
  refine ⟨fun k hk => ?_, fun q hq => ?_⟩
  · have h2 := (s.2.2 k hk).2
    unfold idxQ at h2
    split at h2
    · rename_i j hj
      rw [hj]
      congr 1
      omega
    · omega
  · obtain ⟨k, hk, rfl⟩ := List.mem_iff_getElem.1 hq
    have h1 := (s.2.2 k hk).1
    exact ⟨h1.2.2.2.2.imp fun h => by omega, fun i hi => (h1.2.2.2.1 i hi).2.1⟩
theorem sound_name {h : HD} (s : h.sound) : ∀ q ∈ h.queues, q.name.size ≤ 8 := fun q hq => by
  have h1 := (sound_each s q hq).1
  unfold keyB at h1
  simp at h1
  omega
theorem sound_tok {h : HD} (s : h.sound) : h.tok 1000000 (h.queues.map QD.name) := ⟨s.good, fun q hq i hi => ((sound_each s q hq).2.2.2.1 i hi).1, rfl⟩
theorem sound_cap {h : HD} (s : h.sound) : h.cap 8 := by
  have g := s.good
  refine ⟨by have := g.1; omega, fun q hq => ⟨(g.2.2 q hq).2.1, by have := sound_name s q hq; unfold maxLen; omega, fun i hi => ((g.2.2 q hq).2.2 i hi).1⟩⟩
theorem nN_small : nN.small := by simp [nN, ND.small]

theorem FolOk.small {h x : HD} {es : List ED} (H : FolOk h x es) : smallQ x.queues := by
  have h1 := H.cap.plainH.fold es H.fit
  rw [H.fol] at h1
  have hl := H.len
  refine ⟨by have := h1.len; simp [plainH] at this; omega, fun q hq => ?_⟩
  have h2 := h1.each (plainQ q) (List.mem_map_of_mem hq)
  refine ⟨by have := h2.1; simp [plainQ] at this; omega, fun i hi => ?_⟩
  exact h2.2.2 (plainI i) (List.mem_map_of_mem hi)

section
variable {h : HD} {M : Int} {ns : List ByteArray}

theorem name_fit (t : h.tok M ns) (hns : ∀ s ∈ ns, s.size ≤ maxLen) {q : QD} (hq : q ∈ h.queues) : q.name.size ≤ maxLen := hns _ (t.names ▸ List.mem_map_of_mem hq)

theorem put_fit (t : h.tok M ns) (hns : ∀ s ∈ ns, s.size ≤ maxLen) (hM : M ≤ 4294967296) {k : Nat} (hk : k < h.queues.length) {n : ND} (hn : n.small) : ∀ e ∈ (putF h k h.queues[k] n).2.1, e.fits := by
  unfold putF
  split
  · simp
  · intro e he
    simp only [List.mem_singleton] at he
    subst he
    exact ⟨name_fit t hns (List.getElem_mem hk), ⟨t.good.2.1.1, by have := t.good.2.1.2; simp only [putE]; omega⟩, hn⟩

theorem aside_fit (t : h.tok M ns) (hns : ∀ s ∈ ns, s.size ≤ maxLen) (hM : M ≤ 4294967296) (k : Nat) {n : ND} (hn : n.small) : ∀ e ∈ (asideF h k n).2, e.fits := by
  unfold asideF
  split
  · simp
  · split
    · simp
    · split
      · simp
      · rename_i j hj hne _ q hq
        obtain ⟨hk, rfl⟩ := List.getElem?_eq_some_iff.1 hq
        exact put_fit t hns hM hk hn

theorem gone_fit (t : h.tok M ns) (hns : ∀ s ∈ ns, s.size ≤ maxLen) (r : h.reg) (hM : M ≤ 4294967296) {q : QD} (hq : q ∈ h.queues) {i : IT} (hi : i ∈ q.items) : (goneE q.name i.id).fits :=
  ⟨name_fit t hns hq, ⟨((r.ids q hq).2 i hi).1, by have := ((r.ids q hq).2 i hi).2; have := t.good.2.1.2; simp only [goneE]; omega⟩, nN_small⟩

theorem back_fit (t : h.tok M ns) (hns : ∀ s ∈ ns, s.size ≤ maxLen) (r : h.reg) (hM : M ≤ 4294967296) {k : Nat} {q : QD} (hq : h.queues[k]? = some q) (id turn : Int) : ∀ e ∈ (backF h k q id turn).2.1, e.fits := by
  obtain ⟨hk, rfl⟩ := List.getElem?_eq_some_iff.1 hq
  have hm := List.getElem_mem hk
  unfold backF
  split
  · simp
  · rename_i i hi
    obtain ⟨hil, hid⟩ := given_at hi
    rw [List.getElem?_eq_getElem hil]
    simp only
    split
    · simp
    · have gq := t.good.2.2 _ hm
      have him := List.getElem_mem hil
      have e1 := fol_erase r hk hil hid
      have t1 : (h.setQ k ⟨h.queues[k].name, h.queues[k].limit, h.queues[k].items.eraseIdx i⟩).tok M ns :=
        tok_set t k hq ⟨gq.1, by have := gq.2.1; have h2 := (List.eraseIdx_sublist h.queues[k].items i).length_le; simp only; omega, fun x hx => gq.2.2 x (List.mem_of_mem_eraseIdx hx)⟩ (fun x hx => t.right _ hm x (List.mem_of_mem_eraseIdx hx)) rfl
      intro e he
      rcases List.mem_cons.1 he with rfl | he
      · rw [← hid]; exact gone_fit t hns r hM hm him
      · exact aside_fit t1 hns hM k (gq.2.2 _ him).1 e he
end

/-- What a row of steps comes to. -/
structure Many (h : HD) (M : Int) (ns : List ByteArray) (m : Nat) (x : HD) (es : List ED) : Prop where
  fol : Fol h x es
  reg : x.reg
  tok : x.tok (M + m) ns
  fit : ∀ e ∈ es, e.fits
  len : es.length ≤ 2 * m

theorem Many.nil {h : HD} {M : Int} {ns : List ByteArray} (m : Nat) (t : h.tok M ns) (r : h.reg) : Many h M ns m h [] :=
  ⟨Fol.nil _, r, ⟨t.good.mono (by omega), t.right, t.names⟩, by simp, by simp⟩
theorem Many.trans {a b c : HD} {M : Int} {ns : List ByteArray} {m n : Nat} {es fs : List ED} (h1 : Many a M ns m b es) (h2 : Many b (M + m) ns n c fs) : Many a M ns (m + n) c (es ++ fs) := by
  refine ⟨h1.fol.trans h2.fol, h2.reg, ⟨h2.tok.good.mono (by push_cast; omega), h2.tok.right, h2.tok.names⟩, fun e he => ?_, by have := h1.len; have := h2.len; simp; omega⟩
  rcases List.mem_append.1 he with he | he
  · exact h1.fit e he
  · exact h2.fit e he

theorem many_late {ns : List ByteArray} (hns : ∀ s ∈ ns, s.size ≤ maxLen) (now : Int) (k : Nat) : ∀ (n : Nat) (M : Int) (h : HD), M + n ≤ 4294967296 → h.tok M ns → h.reg → Many h M ns n (lateF now k n h).1 (lateF now k n h).2 := by
  intro n
  induction n with
  | zero => intro M h _ t r; exact Many.nil _ t r
  | succ n ih =>
    intro M h hM t r
    unfold lateF
    split
    · exact Many.nil _ t r
    · rename_i q hq
      split
      · exact Many.nil _ t r
      · split
        · exact Many.nil _ t r
        · rename_i it hit
          have hb := fol_back r t.good.2.1.1 hq it.id it.turn
          have h1 : Many h M ns 1 (backF h k q it.id it.turn).1 (backF h k q it.id it.turn).2.1 :=
            ⟨hb.1, hb.2, back_tok t k hq _ _, back_fit t hns r (by omega) hq _ _, back_len2 _ _ _ _ _⟩
          have h2 := ih (M + 1) _ (by push_cast at hM; omega) h1.tok hb.2
          have h3 := h1.trans h2
          rw [Nat.add_comm 1 n] at h3
          exact h3

theorem many_tick {ns : List ByteArray} (hns : ∀ s ∈ ns, s.size ≤ maxLen) (now : Int) : ∀ (m k : Nat) (M : Int) (h : HD), M + 8 * m ≤ 4294967296 → h.tok M ns → h.reg → Many h M ns (8 * m) (tickF now m k h).1 (tickF now m k h).2 := by
  intro m
  induction m with
  | zero => intro k M h _ t r; exact Many.nil _ t r
  | succ m ih =>
    intro k M h hM t r
    unfold tickF
    have ho := outs_le t.good k
    have h1 := many_late hns now k (outs h k) M h (by push_cast at hM; omega) t r
    have h1' : Many h M ns 8 (lateF now k (outs h k) h).1 (lateF now k (outs h k) h).2 :=
      ⟨h1.fol, h1.reg, ⟨h1.tok.good.mono (by omega), h1.tok.right, h1.tok.names⟩, h1.fit, by have := h1.len; omega⟩
    have h2 := ih (k + 1) (M + 8) _ (by push_cast at hM; omega) h1'.tok h1'.reg
    have h3 := h1'.trans h2
    rw [show 8 + 8 * m = 8 * (m + 1) by omega] at h3
    exact h3

section
variable {h : HD}

theorem fol_tick (s : h.sound) (now : Int) : FolOk h (tickF now h.queues.length 0 h).1 (tickF now h.queues.length 0 h).2 := by
  have h4 := s.1
  have H := many_tick (ns := h.queues.map QD.name) (fun x hx => by
    obtain ⟨q, hq, rfl⟩ := List.mem_map.1 hx
    have := sound_name s q hq
    unfold maxLen
    omega) now h.queues.length 0 1000000 h (by omega) (sound_tok s) (sound_reg s)
  exact ⟨H.fol, by have := H.len; omega, H.fit, sound_cap s⟩

theorem names_of (s : h.sound) : ∀ x ∈ h.queues.map QD.name, x.size ≤ maxLen := fun x hx => by
  obtain ⟨q, hq, rfl⟩ := List.mem_map.1 hx
  have := sound_name s q hq
  unfold maxLen
  omega

theorem face_at {name : ByteArray} {f : Nat → QD → HD × List ED × Int} (h0 : (faceF h name f).2.2 = 0) : ∃ k, ∃ hk : k < h.queues.length, faceF h name f = f k h.queues[k] ∧ h.queues[k].name = name := by
  unfold faceF at h0 ⊢
  split at h0
  · simp [refuse] at h0
  · rename_i k hk
    obtain ⟨hkl, hn, -⟩ := List.findIdx?_eq_some_iff_getElem.1 hk
    simp only [hk, List.getElem?_eq_getElem hkl] at h0 ⊢
    refine ⟨k, hkl, ?_, nameB_eq hn⟩
    unfold failF at h0 ⊢
    split
    · rfl
    · rename_i hne
      rw [if_neg hne] at h0
      exact absurd h0 hne

theorem fol_make (s : h.sound) (name : ByteArray) (limit : Int) (hs : name.size ≤ maxLen) (h0 : (makeF h name limit).2.2 = 0) : FolOk h (makeF h name limit).1 (makeF h name limit).2.1 := by
  unfold makeF at h0 ⊢
  split
  · rename_i hw
    have hi : ¬ 0 ≤ idxQ name h.queues := by
      intro hi
      unfold wrongMakeF at hw
      rw [if_pos (Or.inr hi)] at hw
      omega
    have hf : h.queues.findIdx? (nameB name) = none := by
      unfold idxQ at hi
      split at hi
      · omega
      · assumption
    refine ⟨?_, by simp, ?_, sound_cap s⟩
    · unfold Fol
      simp only [List.foldl_cons, List.foldl_nil]
      have hp : (plainH h).queues.findIdx? (nameB name) = none := by
        have : (plainH h).queues.map QD.name = h.queues.map QD.name := plain_names _
        rw [find_names this]; exact hf
      rw [applyF_none (e := ⟨1, name, limit, 0, nN⟩) hp]
      simp [plainH, plainQ]
    · intro e he
      simp only [List.mem_singleton] at he
      subst he
      exact ⟨hs, by simp, nN_small⟩
  · rename_i hw
    rw [if_neg hw] at h0
    exact absurd h0 hw

theorem fol_drop (s : h.sound) (name : ByteArray) (h0 : (faceF h name (fun k q => dropF h k q)).2.2 = 0) : FolOk h (faceF h name (fun k q => dropF h k q)).1 (faceF h name (fun k q => dropF h k q)).2.1 := by
  obtain ⟨k, hk, e, hn⟩ := face_at h0
  rw [e]
  have r := sound_reg s
  refine ⟨?_, by simp [dropF], ?_, sound_cap s⟩
  · unfold Fol
    simp only [dropF, List.foldl_cons, List.foldl_nil]
    have hk' : k < (plainH h).queues.length := by simpa [plainH] using hk
    rw [applyF_some (e := ⟨2, h.queues[k].name, 0, 0, nN⟩) hk' (find_plain r hk)]
    simp only [if_true, plainH]
    congr 1
    rw [List.eraseIdx_eq_take_drop_succ, List.eraseIdx_eq_take_drop_succ, List.map_append, List.map_take, List.map_drop]
  · intro e he
    simp only [dropF, List.mem_singleton] at he
    subst he
    exact ⟨names_of s _ (List.mem_map_of_mem (List.getElem_mem hk)), by simp, nN_small⟩

theorem fol_hput (s : h.sound) (name : ByteArray) (n : ND) (h0 : (hallPutF h name n).2.2 = 0) : FolOk h (hallPutF h name n).1 (hallPutF h name n).2.1 := by
  unfold hallPutF at h0 ⊢
  split
  · rename_i hw
    rw [if_pos hw] at h0
    obtain ⟨k, hk, e, hn⟩ := face_at h0
    rw [e]
    have H := fol_put (sound_reg s) hk n s.2.1.1
    exact ⟨H.1, by have := put_len h k h.queues[k] n; omega, put_fit (sound_tok s) (names_of s) (by omega) hk (wrong_small hw), sound_cap s⟩
  · rename_i hw
    rw [if_neg hw] at h0
    exact absurd h0 hw

theorem fol_done (s : h.sound) (name : ByteArray) (id turn : Int) (h0 : (faceF h name (fun k q => doneF h k q id turn)).2.2 = 0) : FolOk h (faceF h name (fun k q => doneF h k q id turn)).1 (faceF h name (fun k q => doneF h k q id turn)).2.1 := by
  obtain ⟨k, hk, e, hn⟩ := face_at h0
  rw [e] at h0 ⊢
  unfold doneF at h0 ⊢
  split
  · rename_i hi
    simp [hi] at h0
  · rename_i i hi
    obtain ⟨hil, hid⟩ := given_at hi
    have H := fol_erase (sound_reg s) hk hil hid
    refine ⟨H.1, by simp, fun e he => ?_, sound_cap s⟩
    simp only [List.mem_singleton] at he
    subst he
    rw [← hid]
    exact gone_fit (sound_tok s) (names_of s) (sound_reg s) (by omega) (List.getElem_mem hk) (List.getElem_mem hil)

theorem fol_hback (s : h.sound) (name : ByteArray) (id turn : Int) (h0 : (faceF h name (fun k q => backF h k q id turn)).2.2 = 0) : FolOk h (faceF h name (fun k q => backF h k q id turn)).1 (faceF h name (fun k q => backF h k q id turn)).2.1 := by
  obtain ⟨k, hk, e, hn⟩ := face_at h0
  rw [e]
  have hq := List.getElem?_eq_getElem hk
  exact ⟨(fol_back (sound_reg s) s.2.1.1 hq id turn).1, by have := back_len2 h k h.queues[k] id turn; omega, back_fit (sound_tok s) (names_of s) (sound_reg s) (by omega) hq id turn, sound_cap s⟩

theorem gones_fold (s : h.sound) {k : Nat} (hk : k < h.queues.length) : ∀ (ids : List Int) (its : List IT), (ids.map (goneE h.queues[k].name)).foldl applyF (plainH (h.setQ k ⟨h.queues[k].name, h.queues[k].limit, its⟩)) = plainH (h.setQ k ⟨h.queues[k].name, h.queues[k].limit, its.filter (fun i => ids.all (fun id => !idB id i))⟩) := by
  intro ids
  induction ids with
  | nil =>
    intro its
    have : its.filter (fun i => ([] : List Int).all (fun id => !idB id i)) = its := List.filter_eq_self.2 fun i _ => rfl
    rw [this]; rfl
  | cons id ids ih =>
    intro its
    rw [List.map_cons, List.foldl_cons]
    obtain ⟨g, hg⟩ : ∃ g, g = h.setQ k ⟨h.queues[k].name, h.queues[k].limit, its⟩ := ⟨_, rfl⟩
    have hkg : k < (plainH g).queues.length := by rw [hg]; simpa [plainH, HD.setQ] using hk
    have hnm : (plainH g).queues.map QD.name = h.queues.map QD.name := by
      rw [hg]
      exact (plain_names _).trans (set_names hk rfl)
    have hfi : (plainH g).queues.findIdx? (nameB h.queues[k].name) = some k := by
      rw [find_names hnm]; exact (sound_reg s).uniq k hk
    have hgk : (plainH g).queues[k] = ⟨h.queues[k].name, h.queues[k].limit, its.map plainI⟩ := by
      simp [hg, plainH, HD.setQ, plainQ]
    have e1 : applyF (plainH g) (goneE h.queues[k].name id) = plainH (h.setQ k ⟨h.queues[k].name, h.queues[k].limit, its.filter (fun i => !idB id i)⟩) := by
      rw [applyF_some hkg hfi]
      simp only [goneE, show ¬ (4 : Int) = 2 by omega, show ¬ (4 : Int) = 3 by omega, if_false, if_true]
      rw [hgk]
      simp only [map_filter_plain]
      rw [hg]
      simp only [plainH, HD.setQ, List.map_set, plainQ, List.set_set]
    rw [← hg, e1, ih]
    rw [List.filter_filter]
    simp only [List.all_cons, Bool.and_comm]

theorem fol_purge (s : h.sound) (name : ByteArray) (h0 : (faceF h name (fun k q => purgeF h k q)).2.2 = 0) : FolOk h (faceF h name (fun k q => purgeF h k q)).1 (faceF h name (fun k q => purgeF h k q)).2.1 := by
  obtain ⟨k, hk, e, hn⟩ := face_at h0
  rw [e]
  have r := sound_reg s
  have hids := r.ids _ (List.getElem_mem hk)
  have hq8 := (s.good.2.2 _ (List.getElem_mem hk)).2.1
  refine ⟨?_, by have := goneL_len h.queues[k].items; simp [purgeF]; omega, fun e he => ?_, sound_cap s⟩
  · unfold Fol purgeF
    simp only
    have h1 := gones_fold s hk (goneL h.queues[k].items) h.queues[k].items
    have h2 : plainH (h.setQ k ⟨h.queues[k].name, h.queues[k].limit, h.queues[k].items⟩) = plainH h := same_set hk rfl
    rw [h2] at h1
    rw [h1]
    have h3 : h.queues[k].items.filter (fun i => (goneL h.queues[k].items).all (fun id => !idB id i)) = h.queues[k].items.filter IT.out := by
      refine List.filter_congr fun i hi => ?_
      cases ho : i.out with
      | false =>
        rw [List.all_eq_false]
        refine ⟨i.id, ?_, by simp [idB]⟩
        unfold goneL
        exact List.mem_map_of_mem (List.mem_filter.2 ⟨hi, by simp [ho]⟩)
      | true =>
        rw [List.all_eq_true]
        intro id hid
        unfold goneL at hid
        obtain ⟨j, hj, rfl⟩ := List.mem_map.1 hid
        obtain ⟨hj1, hj2⟩ := List.mem_filter.1 hj
        simp only [idB, Bool.not_eq_true', beq_eq_false_iff_ne]
        intro e
        obtain ⟨a, ha, rfl⟩ := List.mem_iff_getElem.1 hi
        obtain ⟨b, hb, rfl⟩ := List.mem_iff_getElem.1 hj1
        have hp := List.pairwise_iff_getElem.1 hids.1
        by_cases hab : a = b
        · subst hab
          rw [ho] at hj2
          simp at hj2
        · rcases Nat.lt_or_gt_of_ne hab with h | h
          · exact hp a b ha hb h e
          · exact hp b a hb ha h e.symm
    rw [h3]
  · simp only [purgeF] at he
    obtain ⟨id, hid, rfl⟩ := List.mem_map.1 he
    unfold goneL at hid
    obtain ⟨j, hj, rfl⟩ := List.mem_map.1 hid
    exact gone_fit (sound_tok s) (names_of s) r (by omega) (List.getElem_mem hk) (List.mem_filter.1 hj).1
end
end Go.Proofs.Ytkddkpdfeeikhaa
