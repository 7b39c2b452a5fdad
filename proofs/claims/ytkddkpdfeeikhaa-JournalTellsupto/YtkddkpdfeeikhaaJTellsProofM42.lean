/-
  SrOwn; JReplay; TickF; LateIn: texts laid together.
-/
import Derived.Test.YtkddkpdfeeikhaaJTellsProofM27
import Derived.Test.YtkddkpdfeeikhaaJTellsProofM41
import Derived.Test.YtkddkpdfeeikhaaJTellsProofM10
import Derived.Deep.LoopGhost
/-
  store.Records answers what it made.
-/
namespace Go.Proofs.Ytkddkpdfeeikhaa.SR
open Go.RowKit
set_option linter.unusedVariables false
set_option linter.unusedSimpArgs false

set_option maxHeartbeats 1000000 in
theorem records_own (v : Value) (b : List UInt8) (w : World) (hb : SliceB w.heap.size w v b) (hbl : b.length ≤ 1000000000) :
    Calls Try.prog 47 #[v] w fun e w' => ∃ a cap vs, e = .returned (.tuple #[.slice a (recsF b).length cap, .int .i64 (sizeR (recsF b))]) ∧ (RowS w.heap.size w' (.slice a (recsF b).length cap) vs (recsF b) ∧ ∀ u ∈ vs, ∀ g, u.ownBlock = some g → w.heap.size ≤ g) ∧ Below w.heap.size w w' := by
  have HB : Hid (SliceB w.heap.size w v b) := hb
  obtain ⟨a, cap, rfl, h1, h2, hn, h3⟩ := hb
  unfold maxLen at h2
  clear hn h3
  go_enter Try.func47, Try.ntmps47
  go_wp2
  go_loopw [4, 5] (fun v i wr => ∃ dn vs, i = .int .i64 (sizeR dn) ∧ (RowS w.heap.size wr v vs dn ∧ ∀ u ∈ vs, ∀ g, u.ownBlock = some g → w.heap.size ≤ g) ∧ recsF b = dn ++ recsF (b.drop (sizeR dn)) ∧ sizeR dn ≤ b.length ∧ Below w.heap.size w wr)
    (fun _ i _ => b.length - (intOf i).toNat)
  case atStart => exact ⟨[], [], rfl, ⟨RowS.nil _ _, by simp⟩, rfl, Nat.zero_le _, Below.refl _ _⟩
  case round =>
    obtain ⟨dn, vs, rfl, ⟨hrow, hlow⟩, hrec, hle, hbel⟩ := hrel
    have HLW : Hid (∀ u ∈ vs, ∀ g, u.ownBlock = some g → w.heap.size ≤ g) := hlow
    obtain ⟨n, hn⟩ : ∃ n, n = sizeR dn := ⟨_, rfl⟩
    have HN : Hid (n = sizeR dn) := hn
    rw [← hn] at hrec hle ⊢
    have HR : Hid (recsF b = dn ++ recsF (b.drop n)) := hrec
    have HW : Hid (RowS w.heap.size wr _ vs dn) := hrow
    have hdl := sizeR_len4 dn
    rw [← hn] at hdl
    obtain ⟨va, vc, rfl, hv1, hv2, -⟩ := own_shape hrow.1
    clear hrec hn hrow hlow
    have HS : Hid (SliceB w.heap.size wr (.slice a b.length cap) b) := HB.out.same hbel.block
    cases hwh : wholeB (b.drop n) with
    | false =>
      have HE : Hid (recsF b = dn) := by
        show recsF b = dn
        rw [HR.out, recsF_stop _ hwh, List.append_nil]
      have fin : ∀ m, Below w.heap.size w (wr.drewN m) := fun m => hbel.trans ⟨rfl, rfl, rfl, Nat.le_refl _, fun _ _ => rfl⟩
      have FIN : Hid (∀ m, ∃ a cap vs, Ending.returned (.tuple #[.slice va dn.length vc, .int .i64 n]) = .returned (.tuple #[.slice a (recsF b).length cap, .int .i64 (sizeR (recsF b))]) ∧ (RowS w.heap.size (wr.drewN m) (.slice a (recsF b).length cap) vs (recsF b) ∧ ∀ u ∈ vs, ∀ g, u.ownBlock = some g → w.heap.size ≤ g) ∧ Below w.heap.size w (wr.drewN m)) := by
        show ∀ m, _
        intro m
        rw [HE.out, ← HN.out]
        exact ⟨_, _, _, rfl, ⟨HW.out.drewN m, HLW.out⟩, fin m⟩
      clear HE fin
      by_cases hc : cap = n
      · have hc' : (cap : Int) = (n : Int) := by omega
        have hX : SliceB w.heap.size wr (.slice a (b.length - n) 0) (b.drop n) := by
          have := slice_drop0 HS.out n (by omega)
          rw [show b.length - n = 0 by omega]
          exact this
        go_wp2_with (go_at_call 82; refine (first_any _ _ (b.drop n) _ hX).mono ?_; rw [hwh]; rintro e w1 ⟨u, rfl, hu, m, rfl⟩)
        exact bodyPost_ret (v := .tuple #[.slice va dn.length vc, .int .i64 n]) (by simp [results, Try.results47, go_sem]) rfl (FIN.out m)
      · have hc' : ¬ (cap : Int) = (n : Int) := by omega
        have hX := slice_drop HS.out n (by omega)
        go_wp2_with (go_at_call 82; refine (first_any _ _ (b.drop n) _ hX).mono ?_; rw [hwh]; rintro e w1 ⟨u, rfl, hu, m, rfl⟩)
        exact bodyPost_ret (v := .tuple #[.slice va dn.length vc, .int .i64 n]) (by simp [results, Try.results47, go_sem]) rfl (FIN.out m)
    | true =>
      obtain ⟨r, hr⟩ : ∃ r, r = firstV (b.drop n) := ⟨_, rfl⟩
      have HP : Hid (recsF b = (dn ++ [r]) ++ recsF (b.drop (sizeR (dn ++ [r]))) ∧ sizeR (dn ++ [r]) = n + (r.length + 4) ∧ sizeR (dn ++ [r]) ≤ b.length) := by
        show _ ∧ _
        rw [HN.out] at hwh hr ⊢
        exact recs_push b dn r (by rw [← HN.out]; exact HR.out) hwh hr
      have HRR : Hid (r = firstV (b.drop n)) := hr
      clear hr
      have hrl : n + (r.length + 4) ≤ b.length := by have := HP.out; omega
      have hc' : ¬ (cap : Int) = (n : Int) := by omega
      have hX := slice_drop HS.out n (by omega)
      have hz := hbel.size
      go_wp2_with (first
        | (go_at_call 82; refine (first_any _ _ (b.drop n) _ hX).mono ?_; rw [hwh, ← HRR.out]; rintro e w1 ⟨u, rfl, hu, m, rfl⟩; obtain ⟨ua, uc, rfl, u1, u2, -⟩ := id hu; unfold maxLen at u2; have HU : Hid (SliceB w.heap.size wr (.slice ua r.length uc) r) := hu; clear hu)
        | (go_at_call 83; refine (copied_any w.heap.size _ r _ (HU.out.drewN m) (by omega)).mono ?_; rintro e w2 ⟨xa, xc, rfl, hx2, hb2⟩; have hz2 := hb2.size)
        | (at_builtin; refine wpList_appV rfl (.tmp 19) (.tmp 22) rfl w.heap.size _ dn.length vs rfl ((own_below (HW.out.drewN m).1 hb2).alloc _) (w2.heap.size + 1) _ [.slice xa r.length xc] rfl (new_row w2 _) (by intro x hx; simp at hx; subst hx; rfl) (by simp; omega) (by simp at hz2 ⊢; omega) ?_; intro ao cap4 w4 hown4 hg4 hm4))
      have hp := (HW.out.drewN m).push (r := r) (by simp; omega) hb2 hx2 (by simpa using hown4) hg4 hm4
      obtain ⟨p1, p2, p3⟩ := HP.out
      go_roundw
      case rel =>
        refine ⟨dn ++ [r], _, ?_, ⟨hp, fun u hu g hg => ?_⟩, p1, p3, ?_⟩
        · rw [p2]; go_num
        · rcases List.mem_append.1 hu with hu | hu
          · exact HLW.out u hu g hg
          · simp only [List.mem_singleton] at hu
            subst hu
            have := (hx2.lt g hg).1
            simp at this
            omega
        · have c1 : Below w.heap.size w (wr.drewN m) := hbel.trans ⟨rfl, rfl, rfl, Nat.le_refl _, fun _ _ => rfl⟩
          have c2 := c1.trans (hb2.mono c1.size)
          exact (c2.alloc c2.size _).trans (own_dropG ((own_below (HW.out.drewN m).1 hb2).alloc _) (by have := c2.size; simp; omega) hg4)
      case measure => simp [intOf]; omega
end Go.Proofs.Ytkddkpdfeeikhaa.SR

/-
  journal.Replay.
-/
namespace Go.Proofs.Ytkddkpdfeeikhaa
open Go.RowKit Go.WideMaps Go.Maps
set_option linter.unusedVariables false
set_option linter.unusedSimpArgs false

attribute [local go_sem ↓] Go.wp_at_zero Go.wp_at_succ

theorem nt_props {B : Nat} {w : World} {v : Value} {ps : List NT.PD} (h : NT.SliceP B w v ps) : SliceP (Under B) w v (ps.map upPD) := by
  obtain ⟨a, cap, rfl, h1, h2, h3, h4⟩ := h
  have hl := cellsL_len (ps.map upPD)
  rw [List.length_map] at hl
  refine ⟨a, cap, by simp, by simpa using h1, h2, h3, fun i hi => ?_⟩
  have hd : i = i / 4 * 4 + i % 4 := by omega
  have hj : i / 4 < ps.length := by omega
  obtain ⟨b, off, rfl, hlt, hp0, hp1, hp2, hp3⟩ := h4 (i / 4) hj
  refine ⟨b, off, rfl, hlt, ?_⟩
  have e := cellsL_at4 (ps.map upPD) (i / 4) (i % 4) (by simpa using hj) (by omega)
  rw [← hd, List.getElem?_eq_getElem hi] at e
  rw [e]
  have hx : (ps.map upPD)[i / 4]'(by simpa using hj) = upPD ps[i / 4] := by simp
  rw [hx]
  have hm : i % 4 = 0 ∨ i % 4 = 1 ∨ i % 4 = 2 ∨ i % 4 = 3 := by omega
  have ho : off + i = off + i / 4 * 4 + i % 4 := by omega
  rw [ho]
  rcases hm with hm | hm | hm | hm <;> rw [hm]
  · exact hp0
  · exact hp1
  · exact hp2
  · exact hp3

theorem srBytes_on {B B' : Nat} {w w' : World} {u : Value} {bs : List UInt8} (h : SR.SliceB B w u bs) (hB : B ≤ B') (hg : ∀ g, u.ownBlock = some g → w'.heap[g]? = w.heap[g]?) : SR.SliceB B' w' u bs := by
  obtain ⟨a, cap, rfl, h1, h2, h3, h4⟩ := h
  refine ⟨a, cap, rfl, h1, h2, h3, fun i hi => ?_⟩
  obtain ⟨b, off, rfl, hlt, hc⟩ := h4 i hi
  exact ⟨b, off, rfl, by omega, (World.cell?_of_block (hg b rfl)).trans hc⟩

/-- More blocks that are let alone. -/
theorem JH.more {lo : Nat} {N N' : Nat → Prop} {hb xb pb mb : Nat} {w : World} {v : Value} {L : QuL} {next : Int} (H : JH lo N hb xb pb mb w v L next) (hN : ∀ b, N b → N' b) (hN' : ∀ b, N' b → N b ∨ (b < w.heap.size ∧ ¬ Foot v L b ∧ ¬ (b = hb ∨ b = xb ∨ b = pb ∨ b = mb))) : JH lo N' hb xb pb mb w v L next := by
  refine ⟨H.rows.more hN fun b h => ?_, H.box, H.xbox, H.pbox, H.map, H.ne, H.los, fun b h => ?_⟩
  · rcases h with h | h
    · rcases hN' b h with h | h
      · exact .inl (.inl h)
      · exact .inr ⟨h.1, h.2.1⟩
    · exact .inl (.inr h)
  · rcases hN' b h with h | h
    · exact H.note b h
    · exact h.2.2

/-- What holds in 'Replay', behind k records. -/
structure RPI (lo : Nat) (N0 : Nat → Prop) (hb xb pb : Nat) (w2 : World) (h : HD) (wr : World) : Prop where
  step : ∃ (N : Nat → Prop) (mb : Nat) (v : Value) (L : QuL), (∀ b, N0 b → N b) ∧ L.map Prod.fst = h.queues ∧ JH lo N hb xb pb mb wr v L h.next ∧ ∀ b, N b → lo ≤ b
  kept : Kept lo N0 w2 wr

theorem RPI.on {lo : Nat} {N0 : Nat → Prop} {hb xb pb : Nat} {w2 : World} {h : HD} {wr W : World} (H : RPI lo N0 hb xb pb w2 h wr) (hlo : lo ≤ wr.heap.size) (hlt : ∀ b, N0 b → b < wr.heap.size) (hB : Below wr.heap.size wr W) : RPI lo N0 hb xb pb w2 h W := by
  obtain ⟨⟨N, mb, v, L, h1, h2, h3, h4⟩, hk⟩ := H
  exact ⟨⟨N, mb, v, L, h1, h2, h3.below hB, h4⟩, hk.trans ⟨fun b hb => hB.block b (hlt b hb), hB.mono hlo⟩⟩

theorem RPI.next {lo : Nat} {N0 N : Nat → Prop} {hb xb pb : Nat} {w2 : World} {h' : HD} {W w4 : World} (hN0 : ∀ b, N0 b → N b) (hlN : ∀ b, N b → lo ≤ b) (hlo : lo ≤ W.heap.size) (hk : Kept lo N0 w2 W) (hs : StepAns lo N hb xb pb W h' w4) : RPI lo N0 hb xb pb w2 h' w4 := by
  obtain ⟨N', mb', v', L', ⟨k1, k2⟩, k3, k4, k5⟩ := hs
  exact ⟨⟨N', mb', v', L', fun b h => k1 b (hN0 b h), k3, k4, fun b h => (k2 b h).elim (hlN b) (fun h => by omega)⟩, hk.trans (k5.anti hN0)⟩

set_option maxRecDepth 100000 in
set_option maxHeartbeats 3200000 in
theorem replay_any (v : Value) (b : List UInt8) (w : World) (hv : SliceB (Under w.heap.size) w v b) (hl : b.length ≤ 4194303) :
    Calls Try.prog 12 #[v] w fun r w' => ∃ vi, r = .returned (.agg #[vi, .int .i64 (replayL ⟨[], 0⟩ (SR.recsF b)).next]) ∧ SliceQ (Under w'.heap.size) w' vi (replayL ⟨[], 0⟩ (SR.recsF b)).queues ∧ Below w.heap.size w w' := by
  have HV : Hid (SliceB (Under w.heap.size) w v b) := hv
  obtain ⟨va, vc, rfl, -⟩ := SliceV.shape hv
  clear hv
  obtain ⟨A, hA⟩ : ∃ A, A = (w.alloc (.cells #[.slice none 0 0, .int .i64 0] 24)).alloc (.cells #[.slice none 0 0, .int .i64 0] 24) := ⟨_, rfl⟩
  have hAz : A.heap.size = w.heap.size + 2 := by rw [hA]; simp
  have hAB : Below w.heap.size w A := by rw [hA]; exact (below_alloc _ _).alloc (by simp) _
  have hA0 : Blk A w.heap.size [.slice none 0 0, .int .i64 0] := by rw [hA]; exact (Blk.new _ _ _).alloc _
  have hA1 : Blk A (w.heap.size + 1) [.slice none 0 0, .int .i64 0] := by
    rw [hA]
    have := Blk.new (w.alloc (.cells #[.slice none 0 0, .int .i64 0] 24)) [.slice none 0 0, .int .i64 0] 24
    simpa using this
  have HAB : Hid (Below w.heap.size w A ∧ Blk A w.heap.size [.slice none 0 0, .int .i64 0]) := ⟨hAB, hA0⟩
  have HHB : Hid (HB (w.heap.size + 1) (fun _ => False) (w.heap.size + 1) A (.slice none 0 0) [] 0) :=
    ⟨⟨World.ownsRow_nil _ _ _ _, by simp, by simp, by simp, fun b h hf => by rcases hf with hf | ⟨x, hx, -⟩ <;> simp_all [Value.ownBlock], fun b h => h.elim (fun h => h.elim) (fun h => by omega)⟩, hA1, Nat.le_refl _, by simp⟩
  clear hAB hA0 hA1
  go_enter Try.func12, Try.ntmps12
  go_upto_region 2 with fail
  rw [← hA]
  clear hA
  go_upto_region 4 with (first
    | (go_at_call 46; refine (applyTo_any HHB.out (by simp) (by simp)).mono ?_; rintro r w1 ⟨xb, pb, mb, rfl, hj1, hb1⟩; have HJ1 : Hid (JH (w.heap.size + 1) (fun _ => False) (w.heap.size + 1) xb pb mb w1 (.slice none 0 0) [] 0 ∧ Below A.heap.size A w1) := ⟨hj1, hb1⟩; have hz1 := hb1.size; clear hj1 hb1)
    | (go_at_call 47; refine (SR.records_own _ b _ ?_ (by omega)).mono ?_; (exact bytes_sr (SliceV.sub HV.out fun k hk => ⟨by have : k < w.heap.size := hk; show k < w1.heap.size; omega, (HJ1.out.2.block k (by have : k < w.heap.size := hk; omega)).trans (HAB.out.1.block k hk)⟩)); rintro r w2 ⟨ra, rc, vs, rfl, hrow, hb2⟩; have HRW : Hid ((SR.RowS w1.heap.size w2 (.slice ra (SR.recsF b).length rc) vs (SR.recsF b) ∧ ∀ u ∈ vs, ∀ g, u.ownBlock = some g → w1.heap.size ≤ g) ∧ Below w1.heap.size w1 w2) := ⟨hrow, hb2⟩; have hz2 := hb2.size; clear hrow hb2))
  obtain ⟨rs, hrs⟩ : ∃ rs, rs = SR.recsF b := ⟨_, rfl⟩
  have HRS : Hid (rs = SR.recsF b) := hrs
  have hrl : rs.length ≤ 1048576 := by
    have h1 := SR.sizeR_len4 rs
    have h2 := SR.recsF_size b
    rw [← hrs] at h2
    omega
  rw [← hrs] at HRW
  rw [← hrs]
  have HJ2 : Hid (RPI (w.heap.size + 1) (fun b => w1.heap.size ≤ b ∧ b < w2.heap.size) (w.heap.size + 1) xb pb w2 ⟨[], 0⟩ w2) := by
    obtain ⟨hj, hb⟩ := HJ1.out
    have hX : ∀ b, (b = w.heap.size + 1 ∨ b = xb ∨ b = pb ∨ b = mb) → b < w1.heap.size := fun b h => hj.rows.lt b (.inr h)
    refine ⟨⟨_, mb, _, [], fun b h => h, rfl, (hj.below HRW.out.2).more (N' := fun b => w1.heap.size ≤ b ∧ b < w2.heap.size) (fun b h => h.elim) (fun b h => .inr ⟨h.2, fun hf => ?_, fun hx => by have := hX b hx; omega⟩), fun b h => by omega⟩, Kept.refl _ _ _⟩
    rcases hf with hf | ⟨x, hx, -⟩
    · simp [Value.ownBlock] at hf
    · simp at hx
  have HW2 : Hid (Below w.heap.size w w2 ∧ Blk w2 w.heap.size [.slice none 0 0, .int .i64 0] ∧ w.heap.size + 2 ≤ w1.heap.size ∧ w1.heap.size ≤ w2.heap.size) := by
    have h1 := HAB.out.1.trans (HJ1.out.2.mono (by omega))
    exact ⟨h1.trans (HRW.out.2.mono (by omega)), (HAB.out.2.below HJ1.out.2 (by omega)).below HRW.out.2 (by omega), by omega, by omega⟩
  clear hrs
  go_wp2_with fail
  go_loopw [19] (fun i wr => ∃ k : Nat, k ≤ rs.length ∧ i = .int .i64 k ∧ RPI (w.heap.size + 1) (fun b => w1.heap.size ≤ b ∧ b < w2.heap.size) (w.heap.size + 1) xb pb w2 (replayL ⟨[], 0⟩ (rs.take k)) wr) (fun i _ => rs.length - (intOf i).toNat)
  case atStart => exact ⟨0, Nat.zero_le _, rfl, HJ2.out⟩
  case round =>
    obtain ⟨k, hk, rfl, hI⟩ := hrel
    have hzr := hI.kept.bel.size
    by_cases hlt : k < rs.length
    · obtain ⟨⟨⟨hro, hre, hrb⟩, hlow⟩, -⟩ := HRW.out
      obtain ⟨u, hu, hub⟩ := hre.2 k hlt
      obtain ⟨g, cap, e⟩ : ∃ g cap, Value.slice ra rs.length rc = .slice (some ⟨g, 0, none⟩) rs.length cap := by
        rcases hro.2 with ⟨-, h0⟩ | ⟨g, cap, cur, e, -⟩
        · omega
        · exact ⟨g, cap, e⟩
      simp only [Value.slice.injEq, true_and] at e
      obtain ⟨rfl, rfl⟩ := e
      have hgl := hro.lt g rfl
      have hrow' := own_same hro (w' := wr) fun b e => hI.kept.note b (by have := hro.lt b e; omega)
      have c0 : wr.cell? ⟨g, k, none⟩ = some u := by rw [hrow'.cellAt k (by omega)]; exact hu
      have hum : u ∈ vs := List.mem_of_getElem? hu
      have hub' : SR.SliceB wr.heap.size wr u rs[k] := srBytes_on hub hzr fun x hx => hI.kept.note x ⟨hlow u hum x hx, (hrb u hum x hx).1⟩
      obtain ⟨ua, uc, rfl, -⟩ := SliceV.shape (sr_bytes hub')
      obtain ⟨r, hr⟩ : ∃ r, r = rs[k] := ⟨_, rfl⟩
      rw [← hr] at c0 hub'
      have HRK : Hid (r = rs[k]) := hr
      have HPA : Hid (Calls Try.prog 8 #[.slice ua r.length uc] wr (ParseAns (readE r).kind (readE r).queue (readE r).n (readE r).id (jparseF r).2.2.2.2.1 (jparseF r).2.2.2.2.2.1 (jparseF r).2.2.2.2.2.2 wr)) := jparse_any ua uc r wr (bytes_nt (sr_bytes hub'))
      have HI : Hid (RPI (w.heap.size + 1) (fun b => w1.heap.size ≤ b ∧ b < w2.heap.size) (w.heap.size + 1) xb pb w2 (replayL ⟨[], 0⟩ (rs.take k)) wr) := hI
      have hgw : g < wr.heap.size := by omega
      clear hro hre hrb hlow hu hub hrow' hum hub' hI hr
      have hfit := readE_fits r
      have HSTEP : Hid (replayL ⟨[], 0⟩ (rs.take (k + 1)) = if readOk r then applyF (replayL ⟨[], 0⟩ (rs.take k)) (readE r) else replayL ⟨[], 0⟩ (rs.take k)) := by
        show replayL ⟨[], 0⟩ (rs.take (k + 1)) = _
        rw [replayL_take rs k hlt, HRK.out]
        rfl
      have hfitH : (replayL ⟨[], 0⟩ (rs.take k)).fits 4194304 := by
        obtain ⟨f1, f2, f3⟩ := replayL_fits (rs.take k)
        have : (rs.take k).length ≤ 1048576 := by simp; omega
        exact ⟨by omega, fun q hq => by have := f2 q hq; omega, f3⟩
      obtain ⟨h, hh⟩ : ∃ h, h = replayL ⟨[], 0⟩ (rs.take k) := ⟨_, rfl⟩
      have hnote : (readE r).note = ⟨(jparseF r).2.2.2.2.1.map upPD, (jparseF r).2.2.2.2.2.1⟩ := rfl
      obtain ⟨en, hen⟩ : ∃ en, en = (jparseF r).2.2.2.2.2.2 := ⟨_, rfl⟩
      obtain ⟨ps, hps⟩ : ∃ ps, ps = (jparseF r).2.2.2.2.1 := ⟨_, rfl⟩
      obtain ⟨bs, hbs⟩ : ∃ bs, bs = (jparseF r).2.2.2.2.2.1 := ⟨_, rfl⟩
      have hok : readOk r = (en == 0) := by unfold readOk; rw [hen]
      rw [← hps, ← hbs] at hnote
      rw [← hen, ← hps, ← hbs] at HPA
      obtain ⟨e, he⟩ : ∃ e, e = readE r := ⟨_, rfl⟩
      rw [hok] at HSTEP
      rw [← hh] at HSTEP hfitH HI
      rw [← he] at HSTEP HPA hfit hnote
      have hloW : ∀ W, Below wr.heap.size wr W → w.heap.size + 1 ≤ W.heap.size := fun W hW => by have := hW.size; have := HW2.out; omega
      have HAPP : Hid (∀ W, Below wr.heap.size wr W → ∀ pv bv, NoteIs (Under W.heap.size) W (pv, bv) e.note → Calls Try.prog 78 #[.agg #[.int .i64 e.kind, .string e.queue, .int .i64 e.n, .int .i64 e.id, pv, bv], .pointer (some ⟨pb, 0, none⟩), .pointer (some ⟨xb, 0, none⟩)] W fun r w' => (∃ u, r = .returned u) ∧ RPI (w.heap.size + 1) (fun b => w1.heap.size ≤ b ∧ b < w2.heap.size) (w.heap.size + 1) xb pb w2 (applyF h e) w') := by
        show ∀ W, Below wr.heap.size wr W → _
        intro W hW pv bv hnt
        have hIW := HI.out.on (by have := HW2.out; omega) (fun b hb => by omega) hW
        obtain ⟨⟨N, mb', v', L', k1, k2, k3, k4⟩, k5⟩ := hIW
        exact (applyE_any k3 k2 hfitH e hfit.1 pv bv hnt).mono fun r w' ⟨h1, h2⟩ => ⟨h1, RPI.next k1 k4 (hloW W hW) k5 h2⟩
      have HON : Hid (∀ W, Below wr.heap.size wr W → RPI (w.heap.size + 1) (fun b => w1.heap.size ≤ b ∧ b < w2.heap.size) (w.heap.size + 1) xb pb w2 h W) := fun W hW => HI.out.on (by have := HW2.out; omega) (fun b hb => by omega) hW
      have HNO : Hid (e.note = ⟨ps.map upPD, bs⟩) := hnote
      clear HI HRK hfit hfitH hh hen hps hbs hok he hnote hloW
      obtain ⟨kd, qu, nn, id, nt⟩ := e
      simp only at HPA HAPP HNO
      by_cases h0 : en = 0
      · subst h0
        go_wp2_with (first
          | (go_at_call 8; refine HPA.out.mono ?_; rintro r' w3 ⟨pa, pc, qa, qc, rfl, hp3, hq3, hB3, -, -⟩; have HN3 : Hid (NoteIs (Under w3.heap.size) w3 (.slice pa ps.length pc, .slice qa bs.length qc) nt ∧ Below wr.heap.size wr w3) := ⟨by rw [HNO.out]; exact ⟨nt_props hp3, nt_bytes hq3⟩, hB3⟩; clear hp3 hq3 hB3)
          | (go_at_call 78; refine (HAPP.out _ (HN3.out.2.trans ((below_alloc w3 _).mono HN3.out.2.size)) _ _ (HN3.out.1.sub fun b hb => ⟨by have : b < w3.heap.size := hb; simp [Under]; omega, Below.heap_alloc _ _ _ hb⟩)).mono ?_; rintro r' w4 ⟨⟨u', rfl⟩, hI4⟩))
        go_roundw
        case rel =>
          refine ⟨k + 1, by omega, by go_num, ?_⟩
          rw [HSTEP.out]
          exact hI4
        case measure => simp [intOf]; omega
      · have h0' : (en == 0) = false := by simpa using h0
        go_wp2_with (go_at_call 8; refine HPA.out.mono ?_; rintro r' w3 ⟨pa, pc, qa, qc, rfl, -, -, hB3, -, -⟩)
        go_roundw
        case rel =>
          refine ⟨k + 1, by omega, by go_num, ?_⟩
          rw [HSTEP.out, h0']
          exact HON.out _ (hB3.alloc hB3.size _)
        case measure => simp [intOf]; omega
    · obtain rfl : k = rs.length := by omega
      obtain ⟨⟨N, mb', v', L', k1, k2, k3, k4⟩, k5⟩ := hI
      rw [List.take_length] at k2 k3
      have HJ3 : Hid (L'.map Prod.fst = (replayL ⟨[], 0⟩ rs).queues ∧ JH (w.heap.size + 1) N (w.heap.size + 1) xb pb mb' wr v' L' (replayL ⟨[], 0⟩ rs).next ∧ (∀ b, N b → w.heap.size + 1 ≤ b) ∧ Below (w.heap.size + 1) w2 wr) := ⟨k2, k3, k4, k5.bel⟩
      obtain ⟨ya, yc, rfl, -⟩ := own_shape k3.rows.row
      obtain ⟨b0, b1, b2, b3⟩ := k3.box.b2
      obtain ⟨c0, c1, c2, c3⟩ := (HW2.out.2.1.below k5.bel (by omega)).b2
      obtain ⟨nx, hnx⟩ : ∃ nx, nx = (replayL ⟨[], 0⟩ rs).next := ⟨_, rfl⟩
      have HNX : Hid (nx = (replayL ⟨[], 0⟩ rs).next) := hnx
      rw [← hnx] at b1
      clear k1 k2 k3 k4 k5 hnx
      have hne : w.heap.size + 1 ≠ w.heap.size := by omega
      go_wp2_with fail
      refine bodyPost_ret (v := .agg #[.slice ya L'.length yc, .int .i64 nx]) (by simp [results, Try.results12, go_sem, *]; done) rfl ⟨.slice ya L'.length yc, by rw [HNX.out, HRS.out], ?_, ?_⟩
      · obtain ⟨k2, k3, k4, k5⟩ := HJ3.out
        rw [← HRS.out, ← k2]
        refine ((k3.rows.on (by simp) fun b hb => ?_).slice)
        have hlo : b ≠ w.heap.size := by
          rcases hb with hb | hb
          · have := k4 b hb; omega
          · have := (k3.rows.foot_lt hb).1; omega
        iterate 2 rw [Below.heap_setCell _ _ _ _ hlo]
      · iterate 2 refine Below.setCell ?_ (show w.heap.size ≤ w.heap.size by omega) _
        exact HW2.out.1.trans (HJ3.out.2.2.2.mono (by omega))
end Go.Proofs.Ytkddkpdfeeikhaa

/-
  What Tick does, in plain terms; halls that are good stay so.
-/
namespace Go.Proofs.Ytkddkpdfeeikhaa
open Go.RowKit
set_option linter.unusedVariables false
set_option linter.unusedSimpArgs false

def IT.good (i : IT) : Prop := i.note.small ∧ i.fits ∧ i.tries ≤ 2
def QD.good (q : QD) : Prop := q.limit ≤ 8 ∧ q.items.length ≤ 8 ∧ ∀ i ∈ q.items, i.good
def HD.good (M : Int) (h : HD) : Prop := h.queues.length ≤ 4 ∧ (0 ≤ h.next ∧ h.next ≤ M) ∧ ∀ q ∈ h.queues, q.good

theorem QD.good.small {q : QD} (h : q.good) : smallI q.items := ⟨by have := h.2.1; omega, fun i hi => (h.2.2 i hi).1⟩
theorem HD.good.small {M : Int} {h : HD} (g : h.good M) : smallQ h.queues := ⟨by have := g.1; omega, fun q hq => (g.2.2 q hq).small⟩
theorem HD.good.fits {M : Int} {h : HD} (g : h.good M) : ∀ q ∈ h.queues, ∀ i ∈ q.items, i.fits := fun q hq i hi => ((g.2.2 q hq).2.2 i hi).2.1
theorem HD.good.mono {M M' : Int} {h : HD} (g : h.good M) (hM : M ≤ M') : h.good M' := ⟨g.1, ⟨g.2.1.1, by have := g.2.1.2; omega⟩, g.2.2⟩

theorem good_setQ {M : Int} {h : HD} (g : h.good M) (k : Nat) {q : QD} (hq : q.good) : (h.setQ k q).good M := by
  refine ⟨by simpa [HD.setQ] using g.1, g.2.1, fun x hx => ?_⟩
  rcases List.mem_or_eq_of_mem_set hx with hx | rfl
  · exact g.2.2 x hx
  · exact hq

theorem good_aside {M : Int} {h : HD} (g : h.good M) (k : Nat) {n : ND} (hn : n.small) : (asideF h k n).1.good (M + 1) := by
  unfold asideF
  split
  · exact g.mono (by omega)
  · split
    · exact g.mono (by omega)
    · split
      · exact g.mono (by omega)
      · rename_i j hj hne _ q hq
        have hmem : q ∈ h.queues := List.mem_of_getElem? hq
        have gq := g.2.2 q hmem
        unfold putF
        split
        · exact g.mono (by omega)
        · rename_i hl
          have := good_setQ (q := ⟨q.name, q.limit, q.items ++ [newI h.next n]⟩) g j ⟨gq.1, by have h1 := gq.1; simp; omega, fun i hi => by
            rw [List.mem_append, List.mem_singleton] at hi
            rcases hi with hi | rfl
            · exact gq.2.2 i hi
            · exact ⟨hn, ⟨by simp [newI], by simp [newI]⟩, by simp [newI]⟩⟩
          exact ⟨this.1, ⟨by have := g.2.1.1; simp; omega, by have := g.2.1.2; simp; omega⟩, this.2.2⟩

theorem good_back {M : Int} {h : HD} (g : h.good M) (k : Nat) {q : QD} (hq : q ∈ h.queues) (id turn : Int) : (backF h k q id turn).1.good (M + 1) := by
  have gq := g.2.2 q hq
  unfold backF
  split
  · exact g.mono (by omega)
  · split
    · exact g.mono (by omega)
    · rename_i i hi _ it hit
      have hmem : it ∈ q.items := List.mem_of_getElem? hit
      have gi := gq.2.2 it hmem
      have hil : i < q.items.length := (List.getElem?_eq_some_iff.1 hit).1
      split
      · rename_i ht
        refine (good_setQ (q := ⟨q.name, q.limit, q.items.set i (backI it)⟩) g k ⟨gq.1, by simpa using gq.2.1, fun x hx => ?_⟩).mono (by omega)
        rcases List.mem_or_eq_of_mem_set hx with hx | rfl
        · exact gq.2.2 x hx
        · refine ⟨gi.1, ⟨gi.2.1.1, ?_⟩, by have : (backI it).tries < 3 := ht; omega⟩
          have h1 := gi.2.1.2
          simp [backI] at ht ⊢
          omega
      · refine good_aside (good_setQ (q := ⟨q.name, q.limit, q.items.eraseIdx i⟩) g k ⟨gq.1, ?_, fun x hx => gq.2.2 x (List.mem_of_mem_eraseIdx hx)⟩) k gi.1
        have := List.length_eraseIdx_le q.items i
        exact Nat.le_trans this gq.2.1

/-- How many items of a queue are given. -/
def outs (h : HD) (k : Nat) : Nat := match h.queues[k]? with
  | none => 0
  | some q => (q.items.filter IT.out).length

theorem aside_at (h : HD) (k : Nat) (n : ND) : (asideF h k n).1.queues[k]? = h.queues[k]? ∧ (asideF h k n).1.queues.length = h.queues.length := by
  unfold asideF
  split
  · exact ⟨rfl, rfl⟩
  · split
    · exact ⟨rfl, rfl⟩
    · split
      · exact ⟨rfl, rfl⟩
      · unfold putF
        split
        · exact ⟨rfl, rfl⟩
        · rename_i hne _ _ _ _
          exact ⟨by simp [List.getElem?_set, hne], by simp⟩

theorem back_len (h : HD) (k : Nat) (q : QD) (id turn : Int) : (backF h k q id turn).1.queues.length = h.queues.length := by
  unfold backF
  split
  · rfl
  · split
    · rfl
    · split
      · simp [HD.setQ]
      · simp only [(aside_at _ _ _).2]; simp [HD.setQ]

theorem outs_erase {its : List IT} {i : Nat} (hi : i < its.length) (ho : its[i].out = true) : ((its.eraseIdx i).filter IT.out).length + 1 = (its.filter IT.out).length := by
  have e : its = its.take i ++ its[i] :: its.drop (i + 1) := by rw [List.getElem_cons_drop, List.take_append_drop]
  have e2 : its.eraseIdx i = its.take i ++ its.drop (i + 1) := List.eraseIdx_eq_take_drop_succ _ _
  rw [e2]
  conv => rhs; rw [e]
  simp only [List.filter_append, List.length_append, List.filter_cons, ho, if_true, List.length_cons]
  omega
theorem outs_set {its : List IT} {i : Nat} (hi : i < its.length) (ho : its[i].out = true) {x : IT} (hx : x.out = false) : ((its.set i x).filter IT.out).length + 1 = (its.filter IT.out).length := by
  have e : its = its.take i ++ its[i] :: its.drop (i + 1) := by rw [List.getElem_cons_drop, List.take_append_drop]
  have e2 : its.set i x = its.take i ++ x :: its.drop (i + 1) := by rw [List.set_eq_take_append_cons_drop, if_pos hi]
  rw [e2]
  conv => rhs; rw [e]
  simp only [List.filter_append, List.length_append, List.filter_cons, ho, hx, if_true, List.length_cons]
  simp
  omega

theorem given_isOut {id turn : Int} {x : IT} (h : givenB id turn x = true) : x.out = true := by
  unfold givenB at h
  simp at h
  exact h.1.1

theorem outs_back {h : HD} {k : Nat} {q : QD} (hq : h.queues[k]? = some q) {id turn : Int} {i : Nat} (hi : q.items.findIdx? (givenB id turn) = some i) : outs (backF h k q id turn).1 k + 1 = outs h k := by
  have hk : k < h.queues.length := (List.getElem?_eq_some_iff.1 hq).1
  obtain ⟨hil, hg, -⟩ := List.findIdx?_eq_some_iff_getElem.1 hi
  have ho := given_isOut hg
  have e1 : outs h k = (q.items.filter IT.out).length := by simp [outs, hq]
  have e0 : q.items[i]? = some q.items[i] := List.getElem?_eq_getElem hil
  rw [e1]
  unfold backF
  rw [hi]
  simp only [e0]
  split
  · rw [← outs_set hil ho (x := backI q.items[i]) rfl]
    simp [outs, HD.setQ, hk]
  · rw [← outs_erase hil ho]
    simp only [outs, (aside_at _ _ _).1]
    simp [HD.setQ, hk]

/-- All late items of a queue come back. -/
def lateF (now : Int) (k : Nat) : Nat → HD → HD × List ED
  | 0, h => (h, [])
  | n + 1, h => match h.queues[k]? with
    | none => (h, [])
    | some q => match q.items.findIdx? (lateB now) with
      | none => (h, [])
      | some i => match q.items[i]? with
        | none => (h, [])
        | some it => ((lateF now k n (backF h k q it.id it.turn).1).1, (backF h k q it.id it.turn).2.1 ++ (lateF now k n (backF h k q it.id it.turn).1).2)

theorem lateF_none {now : Int} {k n : Nat} {h : HD} {q : QD} (hq : h.queues[k]? = some q) (hi : idxI (lateB now) q.items = -1) : lateF now k n h = (h, []) := by
  cases n with
  | zero => rfl
  | succ n => simp [lateF, hq, idxI_none' hi]
theorem lateF_some {now : Int} {k n : Nat} {h : HD} {q : QD} {i : Nat} (hq : h.queues[k]? = some q) (hi : idxI (lateB now) q.items = (i : Int)) (hil : i < q.items.length) : lateF now k (n + 1) h = ((lateF now k n (backF h k q q.items[i].id q.items[i].turn).1).1, (backF h k q q.items[i].id q.items[i].turn).2.1 ++ (lateF now k n (backF h k q q.items[i].id q.items[i].turn).1).2) := by
  simp [lateF, hq, idxI_some hi, hil]

theorem late_given {now : Int} {q : QD} {i : Nat} (hi : idxI (lateB now) q.items = (i : Int)) (hil : i < q.items.length) : ∃ j, q.items.findIdx? (givenB q.items[i].id q.items[i].turn) = some j := by
  obtain ⟨_, hl, -⟩ := List.findIdx?_eq_some_iff_getElem.1 (idxI_some hi)
  cases hf : q.items.findIdx? (givenB q.items[i].id q.items[i].turn) with
  | some j => exact ⟨j, rfl⟩
  | none =>
    rw [List.findIdx?_eq_none_iff] at hf
    have := hf _ (List.getElem_mem hil)
    have ho : q.items[i].out = true := by simp [lateB] at hl; exact hl.1
    simp [givenB, ho] at this

theorem late_outs {now : Int} {h : HD} {k : Nat} {q : QD} {i : Nat} (hq : h.queues[k]? = some q) (hi : idxI (lateB now) q.items = (i : Int)) (hil : i < q.items.length) : outs (backF h k q q.items[i].id q.items[i].turn).1 k + 1 = outs h k := by
  obtain ⟨j, hj⟩ := late_given hi hil
  exact outs_back hq hj

end Go.Proofs.Ytkddkpdfeeikhaa

/-
  hall.lateIn has all late items of a queue come back.
-/
namespace Go.Proofs.Ytkddkpdfeeikhaa
open Go.RowKit
set_option linter.unusedVariables false
set_option linter.unusedSimpArgs false

attribute [local go_sem ↓] Go.wp_at_zero Go.wp_at_succ

theorem backF_es (h : HD) (k : Nat) (q : QD) (id turn : Int) : (backF h k q id turn).2.1.length ≤ 2 := by
  unfold backF
  split
  · simp
  · split
    · simp
    · split
      · simp
      · simp only [List.length_cons]
        exact Nat.succ_le_succ (asideF_len _ _ _)

/-- What holds in the loop of 'lateIn'. -/
structure LI (P0 : Nat → Prop) (hb : Nat) (w : World) (v : Value) (now : Int) (k N : Nat) (M : Int) (h0 : HD) (n : Nat) (h : HD) (L : QuL) (P T : Nat → Prop) (es : List ED) (tv : Value) (wr : World) : Prop where
  hall : HallIn P hb wr v L h.next
  map : L.map Prod.fst = h.queues
  up : ∀ b, P0 b → P b
  dn : ∀ b, P b → P0 b ∨ Made w.heap.size wr.heap.size b
  told : OwnT T wr tv es
  tm : ∀ b, T b → Made w.heap.size wr.heap.size b
  tp : ∀ b, T b → ¬ P b
  tb : ¬ T hb
  keep : Keep (fun b => b < w.heap.size ∧ v.ownBlock ≠ some b ∧ b ≠ hb) w wr
  nN : n ≤ N
  good : h.good (M + ((N - n : Nat) : Int))
  len : h.queues.length = h0.queues.length
  outs : outs h k ≤ n
  eq1 : (lateF now k n h).1 = (lateF now k N h0).1
  eq2 : es ++ (lateF now k n h).2 = (lateF now k N h0).2
  esl : es.length ≤ 2 * (N - n)

section
variable {P0 : Nat → Prop} {hb : Nat} {w : World} {v : Value} {now : Int} {k N : Nat} {M : Int} {h0 : HD} {n : Nat} {h : HD} {L : QuL} {P T : Nat → Prop} {es : List ED} {tv : Value} {wr : World}

theorem LI.below (H : LI P0 hb w v now k N M h0 n h L P T es tv wr) {W : World} (hB : Below wr.heap.size wr W) : LI P0 hb w v now k N M h0 n h L P T es tv W := by
  have hz := hB.size
  have hkz := H.keep.size
  exact ⟨H.hall.below hB, H.map, H.up, fun b hb' => (H.dn b hb').imp id (fun h => ⟨h.1, by have := h.2; omega⟩), H.told.on hz (fun b hb' => hB.block b (H.tm b hb').2), fun b hb' => ⟨(H.tm b hb').1, by have := (H.tm b hb').2; omega⟩, H.tp, H.tb, ⟨hB.os.trans H.keep.os, hB.tape.trans H.keep.tape, hB.output.trans H.keep.output, by omega, fun b hb' => (hB.block b (by omega)).trans (H.keep.block b hb')⟩, H.nN, H.good, H.len, H.outs, H.eq1, H.eq2, H.esl⟩

theorem LI.done (H : LI P0 hb w v now k N M h0 n h L P T es tv wr) {q : QD} (hq : h.queues[k]? = some q) (hi : idxI (lateB now) q.items = -1) : InAns P0 hb w v (lateF now k N h0).1 (lateF now k N h0).2 tv wr := by
  have e1 := H.eq1
  have e2 := H.eq2
  rw [lateF_none hq hi] at e1 e2
  simp only [List.append_nil] at e2
  rw [← e1, ← e2]
  exact ⟨L, P, H.map, H.up, H.dn, H.hall, H.told.slice.sub fun b hb' => ⟨⟨H.tm b hb', H.tp b hb'⟩, rfl⟩, H.keep⟩
theorem LI.step (H : LI P0 hb w v now k N M h0 (n + 1) h L P T es tv wr) {q : QD} {i : Nat} (hq : h.queues[k]? = some q) (hi : idxI (lateB now) q.items = (i : Int)) (hil : i < q.items.length) {it : IT} (hit : it = q.items[i]) {L2 : QuL} {P2 T2 : Nat → Prop} {tv2 : Value} {w2 w3 : World}
    (e2 : L2.map Prod.fst = (backF h k q it.id it.turn).1.queues) (h12 : ∀ b, P b → P2 b) (h2 : ∀ b, P2 b → P b ∨ Made wr.heap.size w2.heap.size b) (hw : w2.heap.size ≤ w3.heap.size) (hH : HallIn P2 hb w3 v L2 (backF h k q it.id it.turn).1.next) (hT : OwnT T2 w3 tv2 (es ++ (backF h k q it.id it.turn).2.1)) (hTs : ∀ b, T2 b → T b ∨ Made wr.heap.size w3.heap.size b) (hTP : ∀ b, T2 b → ¬ P2 b) (hTb : ¬ T2 hb) (hK : Keep (fun b => b < wr.heap.size ∧ v.ownBlock ≠ some b ∧ b ≠ hb ∧ ¬ T b) wr w3) :
    LI P0 hb w v now k N M h0 n (backF h k q it.id it.turn).1 L2 P2 T2 (es ++ (backF h k q it.id it.turn).2.1) tv2 w3 := by
  have hz := H.keep.size
  have hz3 := hK.size
  have hn := H.nN
  have ho := late_outs hq hi hil
  rw [← hit] at ho
  have hl := lateF_some (n := n) hq hi hil
  rw [← hit] at hl
  have e1 := H.eq1
  have e3 := H.eq2
  rw [hl] at e1 e3
  have hou := H.outs
  have hb2 := backF_es h k q it.id it.turn
  have hel := H.esl
  refine ⟨hH, e2, fun b hb' => h12 b (H.up b hb'), fun b hb' => ?_, hT, fun b hb' => ?_, hTP, hTb, ⟨hK.os.trans H.keep.os, hK.tape.trans H.keep.tape, hK.output.trans H.keep.output, by omega, fun b hb' => (hK.block b ⟨by omega, hb'.2.1, hb'.2.2, fun t => by have := (H.tm b t).1; omega⟩).trans (H.keep.block b hb')⟩, by omega, ?_, (back_len _ _ _ _ _).trans H.len, by omega, e1, by rw [List.append_assoc]; exact e3, by rw [List.length_append]; omega⟩
  · rcases h2 b hb' with h | h
    · rcases H.dn b h with h | h
      · exact .inl h
      · exact .inr ⟨h.1, by have := h.2; omega⟩
    · exact .inr ⟨by have := h.1; omega, by have := h.2; omega⟩
  · rcases hTs b hb' with h | h
    · have := H.tm b h
      exact ⟨this.1, by have := this.2; omega⟩
    · exact ⟨by have := h.1; omega, h.2⟩
  · exact (good_back H.good k (List.mem_of_getElem? hq) it.id it.turn).mono (by omega)
end

end Go.Proofs.Ytkddkpdfeeikhaa
