/-
  JParsed; SrOwn; JReplay; JWrite: texts laid together.
-/
import Derived.Test.YtkddkpdfeeikhaaJFollowsProofM27
import Derived.Test.YtkddkpdfeeikhaaJFollowsProofM33
import Derived.Test.YtkddkpdfeeikhaaJFollowsProofM23
import Derived.Test.YtkddkpdfeeikhaaJFollowsProofM16
import Derived.Test.YtkddkpdfeeikhaaJFollowsProofM24
import Derived.Test.YtkddkpdfeeikhaaJFollowsProofM17
/-
  What is read is an entry that may be applied; what records come to, plainly.
-/
namespace Go.Proofs.Ytkddkpdfeeikhaa
open Go.RowKit
set_option linter.unusedVariables false
set_option linter.unusedSimpArgs false

/-- The entry that bytes are read as. -/
def readE (b : List UInt8) : ED := ⟨(jparseF b).1, (jparseF b).2.1, (jparseF b).2.2.1, (jparseF b).2.2.2.1, ⟨(jparseF b).2.2.2.2.1.map upPD, (jparseF b).2.2.2.2.2.1⟩⟩
def readOk (b : List UInt8) : Bool := (jparseF b).2.2.2.2.2.2 == 0
/-- A record is applied, if it is an entry. -/
def stepF (h : HD) (r : List UInt8) : HD := if readOk r then applyF h (readE r) else h
def replayL (h : HD) (rs : List (List UInt8)) : HD := rs.foldl stepF h

theorem headF_len {b : List UInt8} {k : UInt8} {q r : List UInt8} (h : headF b = some (k, q, r)) : q.length ≤ 255 := by
  unfold headF at h
  split at h
  · rename_i k' n r'
    split at h
    · cases h
    · simp only [Option.some.injEq, Prod.mk.injEq] at h
      obtain ⟨-, rfl, -⟩ := h
      have := n.toNat_lt
      simp
      omega
  · cases h

theorem bstr_size (q : List UInt8) : (bstr q).size = q.length := by simp [bstr, ByteArray.size]

theorem readE_fits (b : List UInt8) : (readE b).fits ∧ (readE b).queue.size ≤ 255 := by
  unfold readE jparseF
  have hno : ED.fits ⟨0, ⟨#[]⟩, 0, 0, ⟨List.map upPD [], []⟩⟩ ∧ (⟨#[]⟩ : ByteArray).size ≤ 255 := ⟨⟨by simp [ByteArray.size, maxLen], by simp, by simp [ND.small]⟩, by simp [ByteArray.size]⟩
  cases hh : headF b with
  | none => exact hno
  | some x =>
    obtain ⟨k, q, r⟩ := x
    simp only
    have hq := headF_len hh
    split
    · split
      · rename_i hk hr
        have hqs : (bstr q).size ≤ 255 := by rw [bstr_size]; exact hq
        refine ⟨⟨by simp only; unfold maxLen; omega, ?_, ?_⟩, hqs⟩
        · simp only [restF]
          have h4 : ∀ l : List UInt8, l.length ≤ 4 → (0 : Int) ≤ NT.valB l ∧ (NT.valB l : Int) ≤ 4294967296 := fun l hl => ⟨by omega, by have := NT.valB_lt4 l hl; omega⟩
          split
          · simp
          · split
            · split
              · simp
              · exact h4 _ (by simp; omega)
            · split
              · simp only [idF]
                split
                · exact h4 _ (by omega)
                · simp
              · simp
        · simp only [restF] at hr ⊢
          by_cases h1 : (k.toNat : Int) = 1
          · simp [h1, ND.small]
          by_cases h3 : (k.toNat : Int) = 3
          · simp only [h3] at hr ⊢
            by_cases hl : r.length < 4
            · simp [hl] at hr
            · simp [hl] at hr ⊢
              have hb := NT.parse_back (r.drop 4) hr.1
              have hw := NT.wrongN_zero _ _ hb.1
              simp [ND.small]
              omega
          · simp only [h1, h3, if_false] at hr ⊢
            split <;> simp [ND.small]
      · exact hno
    · exact hno

/-- How much a hall holds grows by one a step. -/
theorem applyF_grow {c : Nat} {h : HD} {e : ED} (hf : h.fits c) (he : e.queue.size ≤ maxLen) : (applyF h e).fits (c + 1) := by
  obtain ⟨h1, h2, h3⟩ := hf
  have same : h.fits (c + 1) := ⟨by omega, fun q hq => by have := h2 q hq; omega, h3⟩
  cases hn : h.queues.findIdx? (nameB e.queue) with
  | none =>
    rw [applyF_none hn]
    split
    · refine ⟨by simp; omega, fun q hq => ?_, fun q hq => ?_⟩
      · rw [List.mem_append, List.mem_singleton] at hq
        rcases hq with hq | rfl
        · have := h2 q hq; omega
        · simp
      · rw [List.mem_append, List.mem_singleton] at hq
        rcases hq with hq | rfl
        · exact h3 q hq
        · exact he
    · exact same
  | some k =>
    have hk : k < h.queues.length := (List.findIdx?_eq_some_iff_getElem.1 hn).1
    have hm := List.getElem_mem hk
    have hset : ∀ its : List IT, its.length ≤ h.queues[k].items.length + 1 → ∀ nx, HD.fits (c + 1) ⟨h.queues.set k ⟨h.queues[k].name, h.queues[k].limit, its⟩, nx⟩ := fun its hi nx => by
      refine ⟨by simp; omega, fun q hq => ?_, fun q hq => ?_⟩
      · rcases List.mem_or_eq_of_mem_set hq with hq | rfl
        · have := h2 q hq; omega
        · have := h2 _ hm; simp only; omega
      · rcases List.mem_or_eq_of_mem_set hq with hq | rfl
        · exact h3 q hq
        · show h.queues[k].name.size ≤ maxLen
          exact h3 _ hm
    rw [applyF_some hk hn]
    split
    · refine ⟨by simp [List.length_eraseIdx, hk]; omega, fun q hq => ?_, fun q hq => ?_⟩
      · have := h2 q (List.mem_of_mem_eraseIdx hq); omega
      · exact h3 q (List.mem_of_mem_eraseIdx hq)
    · split
      · exact hset _ (by simp) _
      · split
        · exact hset _ (by have := List.length_filter_le (fun i => !idB e.id i) h.queues[k].items; omega) _
        · exact same

theorem stepF_grow {c : Nat} {h : HD} (hf : h.fits c) (r : List UInt8) : (stepF h r).fits (c + 1) := by
  unfold stepF
  split
  · exact applyF_grow hf (readE_fits r).1.queue
  · exact ⟨by have := hf.len; omega, fun q hq => by have := hf.items q hq; omega, hf.names⟩

theorem replayL_fits (rs : List (List UInt8)) : (replayL ⟨[], 0⟩ rs).fits (rs.length + 1) := by
  suffices H : ∀ (rs : List (List UInt8)) (h : HD) (c : Nat), h.fits c → (replayL h rs).fits (c + rs.length) by
    have := H rs ⟨[], 0⟩ 1 ⟨by simp, by simp, by simp⟩
    rwa [Nat.add_comm] at this
  intro rs
  induction rs with
  | nil => intro h c hf; exact hf
  | cons r rs ih =>
    intro h c hf
    have := ih _ _ (stepF_grow hf r)
    rw [show c + (r :: rs).length = c + 1 + rs.length by simp; omega]
    exact this
theorem replayL_take (rs : List (List UInt8)) (k : Nat) (hk : k < rs.length) : replayL ⟨[], 0⟩ (rs.take (k + 1)) = stepF (replayL ⟨[], 0⟩ (rs.take k)) rs[k] := by
  unfold replayL
  rw [List.take_succ_eq_append_getElem hk, List.foldl_append]
  rfl
end Go.Proofs.Ytkddkpdfeeikhaa

/-
  store.Records answers what it made.
-/
namespace Go.Proofs.Ytkddkpdfeeikhaa.SR
open Go.RowKit
set_option linter.unusedVariables false
set_option linter.unusedSimpArgs false

set_option maxHeartbeats 1000000 in
theorem records_own (v : Value) (b : List UInt8) (w : World) (hb : SliceB w.heap.size w v b) (hbl : b.length ≤ 1000000000) :
    Calls Try.prog 47 #[v] w fun e w' => ∃ a cap vs, e = .returned (.tuple #[.slice a (recsF b).length cap, .int .i64 (sizeR (recsF b))]) ∧ (RowS w.heap.size w' (.slice a (recsF b).length cap) vs (recsF b) ∧ ∀ u ∈ vs, ∀ g, u.ownBlock = some g → w.heap.size ≤ g) ∧ Below w.heap.size w w' := by
  have HB : Hid (SliceB w.heap.size w v b) := hb
  obtain ⟨a, cap, rfl, h1, h2, hn, h3⟩ := hb
  unfold maxLen at h2
  clear hn h3
  go_enter Try.func47, Try.ntmps47
  go_wp2
  go_loopw [4, 5] (fun v i wr => ∃ dn vs, i = .int .i64 (sizeR dn) ∧ (RowS w.heap.size wr v vs dn ∧ ∀ u ∈ vs, ∀ g, u.ownBlock = some g → w.heap.size ≤ g) ∧ recsF b = dn ++ recsF (b.drop (sizeR dn)) ∧ sizeR dn ≤ b.length ∧ Below w.heap.size w wr)
    (fun _ i _ => b.length - (intOf i).toNat)
  case atStart => exact ⟨[], [], rfl, ⟨RowS.nil _ _, by simp⟩, rfl, Nat.zero_le _, Below.refl _ _⟩
  case round =>
    obtain ⟨dn, vs, rfl, ⟨hrow, hlow⟩, hrec, hle, hbel⟩ := hrel
    have HLW : Hid (∀ u ∈ vs, ∀ g, u.ownBlock = some g → w.heap.size ≤ g) := hlow
    obtain ⟨n, hn⟩ : ∃ n, n = sizeR dn := ⟨_, rfl⟩
    have HN : Hid (n = sizeR dn) := hn
    rw [← hn] at hrec hle ⊢
    have HR : Hid (recsF b = dn ++ recsF (b.drop n)) := hrec
    have HW : Hid (RowS w.heap.size wr _ vs dn) := hrow
    have hdl := sizeR_len4 dn
    rw [← hn] at hdl
    obtain ⟨va, vc, rfl, hv1, hv2, -⟩ := own_shape hrow.1
    clear hrec hn hrow hlow
    have HS : Hid (SliceB w.heap.size wr (.slice a b.length cap) b) := HB.out.same hbel.block
    cases hwh : wholeB (b.drop n) with
    | false =>
      have HE : Hid (recsF b = dn) := by
        show recsF b = dn
        rw [HR.out, recsF_stop _ hwh, List.append_nil]
      have fin : ∀ m, Below w.heap.size w (wr.drewN m) := fun m => hbel.trans ⟨rfl, rfl, rfl, Nat.le_refl _, fun _ _ => rfl⟩
      have FIN : Hid (∀ m, ∃ a cap vs, Ending.returned (.tuple #[.slice va dn.length vc, .int .i64 n]) = .returned (.tuple #[.slice a (recsF b).length cap, .int .i64 (sizeR (recsF b))]) ∧ (RowS w.heap.size (wr.drewN m) (.slice a (recsF b).length cap) vs (recsF b) ∧ ∀ u ∈ vs, ∀ g, u.ownBlock = some g → w.heap.size ≤ g) ∧ Below w.heap.size w (wr.drewN m)) := by
        show ∀ m, _
        intro m
        rw [HE.out, ← HN.out]
        exact ⟨_, _, _, rfl, ⟨HW.out.drewN m, HLW.out⟩, fin m⟩
      clear HE fin
      by_cases hc : cap = n
      · have hc' : (cap : Int) = (n : Int) := by omega
        have hX : SliceB w.heap.size wr (.slice a (b.length - n) 0) (b.drop n) := by
          have := slice_drop0 HS.out n (by omega)
          rw [show b.length - n = 0 by omega]
          exact this
        go_wp2_with (go_at_call 82; refine (first_any _ _ (b.drop n) _ hX).mono ?_; rw [hwh]; rintro e w1 ⟨u, rfl, hu, m, rfl⟩)
        exact bodyPost_ret (v := .tuple #[.slice va dn.length vc, .int .i64 n]) (by simp [results, Try.results47, go_sem]) rfl (FIN.out m)
      · have hc' : ¬ (cap : Int) = (n : Int) := by omega
        have hX := slice_drop HS.out n (by omega)
        go_wp2_with (go_at_call 82; refine (first_any _ _ (b.drop n) _ hX).mono ?_; rw [hwh]; rintro e w1 ⟨u, rfl, hu, m, rfl⟩)
        exact bodyPost_ret (v := .tuple #[.slice va dn.length vc, .int .i64 n]) (by simp [results, Try.results47, go_sem]) rfl (FIN.out m)
    | true =>
      obtain ⟨r, hr⟩ : ∃ r, r = firstV (b.drop n) := ⟨_, rfl⟩
      have HP : Hid (recsF b = (dn ++ [r]) ++ recsF (b.drop (sizeR (dn ++ [r]))) ∧ sizeR (dn ++ [r]) = n + (r.length + 4) ∧ sizeR (dn ++ [r]) ≤ b.length) := by
        show _ ∧ _
        rw [HN.out] at hwh hr ⊢
        exact recs_push b dn r (by rw [← HN.out]; exact HR.out) hwh hr
      have HRR : Hid (r = firstV (b.drop n)) := hr
      clear hr
      have hrl : n + (r.length + 4) ≤ b.length := by have := HP.out; omega
      have hc' : ¬ (cap : Int) = (n : Int) := by omega
      have hX := slice_drop HS.out n (by omega)
      have hz := hbel.size
      go_wp2_with (first
        | (go_at_call 82; refine (first_any _ _ (b.drop n) _ hX).mono ?_; rw [hwh, ← HRR.out]; rintro e w1 ⟨u, rfl, hu, m, rfl⟩; obtain ⟨ua, uc, rfl, u1, u2, -⟩ := id hu; unfold maxLen at u2; have HU : Hid (SliceB w.heap.size wr (.slice ua r.length uc) r) := hu; clear hu)
        | (go_at_call 83; refine (copied_any w.heap.size _ r _ (HU.out.drewN m) (by omega)).mono ?_; rintro e w2 ⟨xa, xc, rfl, hx2, hb2⟩; have hz2 := hb2.size)
        | (at_builtin; refine wpList_appV rfl (.tmp 19) (.tmp 22) rfl w.heap.size _ dn.length vs rfl ((own_below (HW.out.drewN m).1 hb2).alloc _) (w2.heap.size + 1) _ [.slice xa r.length xc] rfl (new_row w2 _) (by intro x hx; simp at hx; subst hx; rfl) (by simp; omega) (by simp at hz2 ⊢; omega) ?_; intro ao cap4 w4 hown4 hg4 hm4))
      have hp := (HW.out.drewN m).push (r := r) (by simp; omega) hb2 hx2 (by simpa using hown4) hg4 hm4
      obtain ⟨p1, p2, p3⟩ := HP.out
      go_roundw
      case rel =>
        refine ⟨dn ++ [r], _, ?_, ⟨hp, fun u hu g hg => ?_⟩, p1, p3, ?_⟩
        · rw [p2]; go_num
        · rcases List.mem_append.1 hu with hu | hu
          · exact HLW.out u hu g hg
          · simp only [List.mem_singleton] at hu
            subst hu
            have := (hx2.lt g hg).1
            simp at this
            omega
        · have c1 : Below w.heap.size w (wr.drewN m) := hbel.trans ⟨rfl, rfl, rfl, Nat.le_refl _, fun _ _ => rfl⟩
          have c2 := c1.trans (hb2.mono c1.size)
          exact (c2.alloc c2.size _).trans (own_dropG ((own_below (HW.out.drewN m).1 hb2).alloc _) (by have := c2.size; simp; omega) hg4)
      case measure => simp [intOf]; omega
end Go.Proofs.Ytkddkpdfeeikhaa.SR

/-
  journal.Replay.
-/
namespace Go.Proofs.Ytkddkpdfeeikhaa
open Go.RowKit Go.WideMaps Go.Maps
set_option linter.unusedVariables false
set_option linter.unusedSimpArgs false

attribute [local go_sem ↓] Go.wp_at_zero Go.wp_at_succ

theorem nt_props {B : Nat} {w : World} {v : Value} {ps : List NT.PD} (h : NT.SliceP B w v ps) : SliceP (Under B) w v (ps.map upPD) := by
  obtain ⟨a, cap, rfl, h1, h2, h3, h4⟩ := h
  have hl := cellsL_len (ps.map upPD)
  rw [List.length_map] at hl
  refine ⟨a, cap, by simp, by simpa using h1, h2, h3, fun i hi => ?_⟩
  have hd : i = i / 4 * 4 + i % 4 := by omega
  have hj : i / 4 < ps.length := by omega
  obtain ⟨b, off, rfl, hlt, hp0, hp1, hp2, hp3⟩ := h4 (i / 4) hj
  refine ⟨b, off, rfl, hlt, ?_⟩
  have e := cellsL_at4 (ps.map upPD) (i / 4) (i % 4) (by simpa using hj) (by omega)
  rw [← hd, List.getElem?_eq_getElem hi] at e
  rw [e]
  have hx : (ps.map upPD)[i / 4]'(by simpa using hj) = upPD ps[i / 4] := by simp
  rw [hx]
  have hm : i % 4 = 0 ∨ i % 4 = 1 ∨ i % 4 = 2 ∨ i % 4 = 3 := by omega
  have ho : off + i = off + i / 4 * 4 + i % 4 := by omega
  rw [ho]
  rcases hm with hm | hm | hm | hm <;> rw [hm]
  · exact hp0
  · exact hp1
  · exact hp2
  · exact hp3

theorem srBytes_on {B B' : Nat} {w w' : World} {u : Value} {bs : List UInt8} (h : SR.SliceB B w u bs) (hB : B ≤ B') (hg : ∀ g, u.ownBlock = some g → w'.heap[g]? = w.heap[g]?) : SR.SliceB B' w' u bs := by
  obtain ⟨a, cap, rfl, h1, h2, h3, h4⟩ := h
  refine ⟨a, cap, rfl, h1, h2, h3, fun i hi => ?_⟩
  obtain ⟨b, off, rfl, hlt, hc⟩ := h4 i hi
  exact ⟨b, off, rfl, by omega, (World.cell?_of_block (hg b rfl)).trans hc⟩

/-- More blocks that are let alone. -/
theorem JH.more {lo : Nat} {N N' : Nat → Prop} {hb xb pb mb : Nat} {w : World} {v : Value} {L : QuL} {next : Int} (H : JH lo N hb xb pb mb w v L next) (hN : ∀ b, N b → N' b) (hN' : ∀ b, N' b → N b ∨ (b < w.heap.size ∧ ¬ Foot v L b ∧ ¬ (b = hb ∨ b = xb ∨ b = pb ∨ b = mb))) : JH lo N' hb xb pb mb w v L next := by
  refine ⟨H.rows.more hN fun b h => ?_, H.box, H.xbox, H.pbox, H.map, H.ne, H.los, fun b h => ?_⟩
  · rcases h with h | h
    · rcases hN' b h with h | h
      · exact .inl (.inl h)
      · exact .inr ⟨h.1, h.2.1⟩
    · exact .inl (.inr h)
  · rcases hN' b h with h | h
    · exact H.note b h
    · exact h.2.2

/-- What holds in 'Replay', behind k records. -/
structure RPI (lo : Nat) (N0 : Nat → Prop) (hb xb pb : Nat) (w2 : World) (h : HD) (wr : World) : Prop where
  step : ∃ (N : Nat → Prop) (mb : Nat) (v : Value) (L : QuL), (∀ b, N0 b → N b) ∧ L.map Prod.fst = h.queues ∧ JH lo N hb xb pb mb wr v L h.next ∧ ∀ b, N b → lo ≤ b
  kept : Kept lo N0 w2 wr

theorem RPI.on {lo : Nat} {N0 : Nat → Prop} {hb xb pb : Nat} {w2 : World} {h : HD} {wr W : World} (H : RPI lo N0 hb xb pb w2 h wr) (hlo : lo ≤ wr.heap.size) (hlt : ∀ b, N0 b → b < wr.heap.size) (hB : Below wr.heap.size wr W) : RPI lo N0 hb xb pb w2 h W := by
  obtain ⟨⟨N, mb, v, L, h1, h2, h3, h4⟩, hk⟩ := H
  exact ⟨⟨N, mb, v, L, h1, h2, h3.below hB, h4⟩, hk.trans ⟨fun b hb => hB.block b (hlt b hb), hB.mono hlo⟩⟩

theorem RPI.next {lo : Nat} {N0 N : Nat → Prop} {hb xb pb : Nat} {w2 : World} {h' : HD} {W w4 : World} (hN0 : ∀ b, N0 b → N b) (hlN : ∀ b, N b → lo ≤ b) (hlo : lo ≤ W.heap.size) (hk : Kept lo N0 w2 W) (hs : StepAns lo N hb xb pb W h' w4) : RPI lo N0 hb xb pb w2 h' w4 := by
  obtain ⟨N', mb', v', L', ⟨k1, k2⟩, k3, k4, k5⟩ := hs
  exact ⟨⟨N', mb', v', L', fun b h => k1 b (hN0 b h), k3, k4, fun b h => (k2 b h).elim (hlN b) (fun h => by omega)⟩, hk.trans (k5.anti hN0)⟩

set_option maxRecDepth 100000 in
set_option maxHeartbeats 3200000 in
theorem replay_any (v : Value) (b : List UInt8) (w : World) (hv : SliceB (Under w.heap.size) w v b) (hl : b.length ≤ 4194303) :
    Calls Try.prog 12 #[v] w fun r w' => ∃ vi, r = .returned (.agg #[vi, .int .i64 (replayL ⟨[], 0⟩ (SR.recsF b)).next]) ∧ SliceQ (Under w'.heap.size) w' vi (replayL ⟨[], 0⟩ (SR.recsF b)).queues ∧ Below w.heap.size w w' := by
  have HV : Hid (SliceB (Under w.heap.size) w v b) := hv
  obtain ⟨va, vc, rfl, -⟩ := SliceV.shape hv
  clear hv
  obtain ⟨A, hA⟩ : ∃ A, A = (w.alloc (.cells #[.slice none 0 0, .int .i64 0] 24)).alloc (.cells #[.slice none 0 0, .int .i64 0] 24) := ⟨_, rfl⟩
  have hAz : A.heap.size = w.heap.size + 2 := by rw [hA]; simp
  have hAB : Below w.heap.size w A := by rw [hA]; exact (below_alloc _ _).alloc (by simp) _
  have hA0 : Blk A w.heap.size [.slice none 0 0, .int .i64 0] := by rw [hA]; exact (Blk.new _ _ _).alloc _
  have hA1 : Blk A (w.heap.size + 1) [.slice none 0 0, .int .i64 0] := by
    rw [hA]
    have := Blk.new (w.alloc (.cells #[.slice none 0 0, .int .i64 0] 24)) [.slice none 0 0, .int .i64 0] 24
    simpa using this
  have HAB : Hid (Below w.heap.size w A ∧ Blk A w.heap.size [.slice none 0 0, .int .i64 0]) := ⟨hAB, hA0⟩
  have HHB : Hid (HB (w.heap.size + 1) (fun _ => False) (w.heap.size + 1) A (.slice none 0 0) [] 0) :=
    ⟨⟨World.ownsRow_nil _ _ _ _, by simp, by simp, by simp, fun b h hf => by rcases hf with hf | ⟨x, hx, -⟩ <;> simp_all [Value.ownBlock], fun b h => h.elim (fun h => h.elim) (fun h => by omega)⟩, hA1, Nat.le_refl _, by simp⟩
  clear hAB hA0 hA1
  go_enter Try.func12, Try.ntmps12
  go_upto_region 2 with fail
  rw [← hA]
  clear hA
  go_upto_region 4 with (first
    | (go_at_call 46; refine (applyTo_any HHB.out (by simp) (by simp)).mono ?_; rintro r w1 ⟨xb, pb, mb, rfl, hj1, hb1⟩; have HJ1 : Hid (JH (w.heap.size + 1) (fun _ => False) (w.heap.size + 1) xb pb mb w1 (.slice none 0 0) [] 0 ∧ Below A.heap.size A w1) := ⟨hj1, hb1⟩; have hz1 := hb1.size; clear hj1 hb1)
    | (go_at_call 47; refine (SR.records_own _ b _ ?_ (by omega)).mono ?_; (exact bytes_sr (SliceV.sub HV.out fun k hk => ⟨by have : k < w.heap.size := hk; show k < w1.heap.size; omega, (HJ1.out.2.block k (by have : k < w.heap.size := hk; omega)).trans (HAB.out.1.block k hk)⟩)); rintro r w2 ⟨ra, rc, vs, rfl, hrow, hb2⟩; have HRW : Hid ((SR.RowS w1.heap.size w2 (.slice ra (SR.recsF b).length rc) vs (SR.recsF b) ∧ ∀ u ∈ vs, ∀ g, u.ownBlock = some g → w1.heap.size ≤ g) ∧ Below w1.heap.size w1 w2) := ⟨hrow, hb2⟩; have hz2 := hb2.size; clear hrow hb2))
  obtain ⟨rs, hrs⟩ : ∃ rs, rs = SR.recsF b := ⟨_, rfl⟩
  have HRS : Hid (rs = SR.recsF b) := hrs
  have hrl : rs.length ≤ 1048576 := by
    have h1 := SR.sizeR_len4 rs
    have h2 := SR.recsF_size b
    rw [← hrs] at h2
    omega
  rw [← hrs] at HRW
  rw [← hrs]
  have HJ2 : Hid (RPI (w.heap.size + 1) (fun b => w1.heap.size ≤ b ∧ b < w2.heap.size) (w.heap.size + 1) xb pb w2 ⟨[], 0⟩ w2) := by
    obtain ⟨hj, hb⟩ := HJ1.out
    have hX : ∀ b, (b = w.heap.size + 1 ∨ b = xb ∨ b = pb ∨ b = mb) → b < w1.heap.size := fun b h => hj.rows.lt b (.inr h)
    refine ⟨⟨_, mb, _, [], fun b h => h, rfl, (hj.below HRW.out.2).more (N' := fun b => w1.heap.size ≤ b ∧ b < w2.heap.size) (fun b h => h.elim) (fun b h => .inr ⟨h.2, fun hf => ?_, fun hx => by have := hX b hx; omega⟩), fun b h => by omega⟩, Kept.refl _ _ _⟩
    rcases hf with hf | ⟨x, hx, -⟩
    · simp [Value.ownBlock] at hf
    · simp at hx
  have HW2 : Hid (Below w.heap.size w w2 ∧ Blk w2 w.heap.size [.slice none 0 0, .int .i64 0] ∧ w.heap.size + 2 ≤ w1.heap.size ∧ w1.heap.size ≤ w2.heap.size) := by
    have h1 := HAB.out.1.trans (HJ1.out.2.mono (by omega))
    exact ⟨h1.trans (HRW.out.2.mono (by omega)), (HAB.out.2.below HJ1.out.2 (by omega)).below HRW.out.2 (by omega), by omega, by omega⟩
  clear hrs
  go_wp2_with fail
  go_loopw [19] (fun i wr => ∃ k : Nat, k ≤ rs.length ∧ i = .int .i64 k ∧ RPI (w.heap.size + 1) (fun b => w1.heap.size ≤ b ∧ b < w2.heap.size) (w.heap.size + 1) xb pb w2 (replayL ⟨[], 0⟩ (rs.take k)) wr) (fun i _ => rs.length - (intOf i).toNat)
  case atStart => exact ⟨0, Nat.zero_le _, rfl, HJ2.out⟩
  case round =>
    obtain ⟨k, hk, rfl, hI⟩ := hrel
    have hzr := hI.kept.bel.size
    by_cases hlt : k < rs.length
    · obtain ⟨⟨⟨hro, hre, hrb⟩, hlow⟩, -⟩ := HRW.out
      obtain ⟨u, hu, hub⟩ := hre.2 k hlt
      obtain ⟨g, cap, e⟩ : ∃ g cap, Value.slice ra rs.length rc = .slice (some ⟨g, 0, none⟩) rs.length cap := by
        rcases hro.2 with ⟨-, h0⟩ | ⟨g, cap, cur, e, -⟩
        · omega
        · exact ⟨g, cap, e⟩
      simp only [Value.slice.injEq, true_and] at e
      obtain ⟨rfl, rfl⟩ := e
      have hgl := hro.lt g rfl
      have hrow' := own_same hro (w' := wr) fun b e => hI.kept.note b (by have := hro.lt b e; omega)
      have c0 : wr.cell? ⟨g, k, none⟩ = some u := by rw [hrow'.cellAt k (by omega)]; exact hu
      have hum : u ∈ vs := List.mem_of_getElem? hu
      have hub' : SR.SliceB wr.heap.size wr u rs[k] := srBytes_on hub hzr fun x hx => hI.kept.note x ⟨hlow u hum x hx, (hrb u hum x hx).1⟩
      obtain ⟨ua, uc, rfl, -⟩ := SliceV.shape (sr_bytes hub')
      obtain ⟨r, hr⟩ : ∃ r, r = rs[k] := ⟨_, rfl⟩
      rw [← hr] at c0 hub'
      have HRK : Hid (r = rs[k]) := hr
      have HPA : Hid (Calls Try.prog 8 #[.slice ua r.length uc] wr (ParseAns (readE r).kind (readE r).queue (readE r).n (readE r).id (jparseF r).2.2.2.2.1 (jparseF r).2.2.2.2.2.1 (jparseF r).2.2.2.2.2.2 wr)) := jparse_any ua uc r wr (bytes_nt (sr_bytes hub'))
      have HI : Hid (RPI (w.heap.size + 1) (fun b => w1.heap.size ≤ b ∧ b < w2.heap.size) (w.heap.size + 1) xb pb w2 (replayL ⟨[], 0⟩ (rs.take k)) wr) := hI
      have hgw : g < wr.heap.size := by omega
      clear hro hre hrb hlow hu hub hrow' hum hub' hI hr
      have hfit := readE_fits r
      have HSTEP : Hid (replayL ⟨[], 0⟩ (rs.take (k + 1)) = if readOk r then applyF (replayL ⟨[], 0⟩ (rs.take k)) (readE r) else replayL ⟨[], 0⟩ (rs.take k)) := by
        show replayL ⟨[], 0⟩ (rs.take (k + 1)) = _
        rw [replayL_take rs k hlt, HRK.out]
        rfl
      have hfitH : (replayL ⟨[], 0⟩ (rs.take k)).fits 4194304 := by
        obtain ⟨f1, f2, f3⟩ := replayL_fits (rs.take k)
        have : (rs.take k).length ≤ 1048576 := by simp; omega
        exact ⟨by omega, fun q hq => by have := f2 q hq; omega, f3⟩
      obtain ⟨h, hh⟩ : ∃ h, h = replayL ⟨[], 0⟩ (rs.take k) := ⟨_, rfl⟩
      have hnote : (readE r).note = ⟨(jparseF r).2.2.2.2.1.map upPD, (jparseF r).2.2.2.2.2.1⟩ := rfl
      obtain ⟨en, hen⟩ : ∃ en, en = (jparseF r).2.2.2.2.2.2 := ⟨_, rfl⟩
      obtain ⟨ps, hps⟩ : ∃ ps, ps = (jparseF r).2.2.2.2.1 := ⟨_, rfl⟩
      obtain ⟨bs, hbs⟩ : ∃ bs, bs = (jparseF r).2.2.2.2.2.1 := ⟨_, rfl⟩
      have hok : readOk r = (en == 0) := by unfold readOk; rw [hen]
      rw [← hps, ← hbs] at hnote
      rw [← hen, ← hps, ← hbs] at HPA
      obtain ⟨e, he⟩ : ∃ e, e = readE r := ⟨_, rfl⟩
      rw [hok] at HSTEP
      rw [← hh] at HSTEP hfitH HI
      rw [← he] at HSTEP HPA hfit hnote
      have hloW : ∀ W, Below wr.heap.size wr W → w.heap.size + 1 ≤ W.heap.size := fun W hW => by have := hW.size; have := HW2.out; omega
      have HAPP : Hid (∀ W, Below wr.heap.size wr W → ∀ pv bv, NoteIs (Under W.heap.size) W (pv, bv) e.note → Calls Try.prog 78 #[.agg #[.int .i64 e.kind, .string e.queue, .int .i64 e.n, .int .i64 e.id, pv, bv], .pointer (some ⟨pb, 0, none⟩), .pointer (some ⟨xb, 0, none⟩)] W fun r w' => (∃ u, r = .returned u) ∧ RPI (w.heap.size + 1) (fun b => w1.heap.size ≤ b ∧ b < w2.heap.size) (w.heap.size + 1) xb pb w2 (applyF h e) w') := by
        show ∀ W, Below wr.heap.size wr W → _
        intro W hW pv bv hnt
        have hIW := HI.out.on (by have := HW2.out; omega) (fun b hb => by omega) hW
        obtain ⟨⟨N, mb', v', L', k1, k2, k3, k4⟩, k5⟩ := hIW
        exact (applyE_any k3 k2 hfitH e hfit.1 pv bv hnt).mono fun r w' ⟨h1, h2⟩ => ⟨h1, RPI.next k1 k4 (hloW W hW) k5 h2⟩
      have HON : Hid (∀ W, Below wr.heap.size wr W → RPI (w.heap.size + 1) (fun b => w1.heap.size ≤ b ∧ b < w2.heap.size) (w.heap.size + 1) xb pb w2 h W) := fun W hW => HI.out.on (by have := HW2.out; omega) (fun b hb => by omega) hW
      have HNO : Hid (e.note = ⟨ps.map upPD, bs⟩) := hnote
      clear HI HRK hfit hfitH hh hen hps hbs hok he hnote hloW
      obtain ⟨kd, qu, nn, id, nt⟩ := e
      simp only at HPA HAPP HNO
      by_cases h0 : en = 0
      · subst h0
        go_wp2_with (first
          | (go_at_call 8; refine HPA.out.mono ?_; rintro r' w3 ⟨pa, pc, qa, qc, rfl, hp3, hq3, hB3, -, -⟩; have HN3 : Hid (NoteIs (Under w3.heap.size) w3 (.slice pa ps.length pc, .slice qa bs.length qc) nt ∧ Below wr.heap.size wr w3) := ⟨by rw [HNO.out]; exact ⟨nt_props hp3, nt_bytes hq3⟩, hB3⟩; clear hp3 hq3 hB3)
          | (go_at_call 78; refine (HAPP.out _ (HN3.out.2.trans ((below_alloc w3 _).mono HN3.out.2.size)) _ _ (HN3.out.1.sub fun b hb => ⟨by have : b < w3.heap.size := hb; simp [Under]; omega, Below.heap_alloc _ _ _ hb⟩)).mono ?_; rintro r' w4 ⟨⟨u', rfl⟩, hI4⟩))
        go_roundw
        case rel =>
          refine ⟨k + 1, by omega, by go_num, ?_⟩
          rw [HSTEP.out]
          exact hI4
        case measure => simp [intOf]; omega
      · have h0' : (en == 0) = false := by simpa using h0
        go_wp2_with (go_at_call 8; refine HPA.out.mono ?_; rintro r' w3 ⟨pa, pc, qa, qc, rfl, -, -, hB3, -, -⟩)
        go_roundw
        case rel =>
          refine ⟨k + 1, by omega, by go_num, ?_⟩
          rw [HSTEP.out, h0']
          exact HON.out _ (hB3.alloc hB3.size _)
        case measure => simp [intOf]; omega
    · obtain rfl : k = rs.length := by omega
      obtain ⟨⟨N, mb', v', L', k1, k2, k3, k4⟩, k5⟩ := hI
      rw [List.take_length] at k2 k3
      have HJ3 : Hid (L'.map Prod.fst = (replayL ⟨[], 0⟩ rs).queues ∧ JH (w.heap.size + 1) N (w.heap.size + 1) xb pb mb' wr v' L' (replayL ⟨[], 0⟩ rs).next ∧ (∀ b, N b → w.heap.size + 1 ≤ b) ∧ Below (w.heap.size + 1) w2 wr) := ⟨k2, k3, k4, k5.bel⟩
      obtain ⟨ya, yc, rfl, -⟩ := own_shape k3.rows.row
      obtain ⟨b0, b1, b2, b3⟩ := k3.box.b2
      obtain ⟨c0, c1, c2, c3⟩ := (HW2.out.2.1.below k5.bel (by omega)).b2
      obtain ⟨nx, hnx⟩ : ∃ nx, nx = (replayL ⟨[], 0⟩ rs).next := ⟨_, rfl⟩
      have HNX : Hid (nx = (replayL ⟨[], 0⟩ rs).next) := hnx
      rw [← hnx] at b1
      clear k1 k2 k3 k4 k5 hnx
      have hne : w.heap.size + 1 ≠ w.heap.size := by omega
      go_wp2_with fail
      refine bodyPost_ret (v := .agg #[.slice ya L'.length yc, .int .i64 nx]) (by simp [results, Try.results12, go_sem, *]; done) rfl ⟨.slice ya L'.length yc, by rw [HNX.out, HRS.out], ?_, ?_⟩
      · obtain ⟨k2, k3, k4, k5⟩ := HJ3.out
        rw [← HRS.out, ← k2]
        refine ((k3.rows.on (by simp) fun b hb => ?_).slice)
        have hlo : b ≠ w.heap.size := by
          rcases hb with hb | hb
          · have := k4 b hb; omega
          · have := (k3.rows.foot_lt hb).1; omega
        iterate 2 rw [Below.heap_setCell _ _ _ _ hlo]
      · iterate 2 refine Below.setCell ?_ (show w.heap.size ≤ w.heap.size by omega) _
        exact HW2.out.1.trans (HJ3.out.2.2.2.mono (by omega))
end Go.Proofs.Ytkddkpdfeeikhaa

/-
  journal.Write.
-/
namespace Go.Proofs.Ytkddkpdfeeikhaa
open Go.RowKit
set_option linter.unusedVariables false
set_option linter.unusedSimpArgs false

attribute [local go_sem ↓] Go.wp_at_zero Go.wp_at_succ

theorem rowS_below {base : Nat} {w w' : World} {v : Value} {vs : List Value} {rs : List (List UInt8)} (h : SR.RowS base w v vs rs) (hb : Below w.heap.size w w') : SR.RowS base w' v vs rs :=
  ⟨own_below h.1 hb, (h.2.1.same hb.block).mono hb.size, fun u hu g hg => ⟨Nat.lt_of_lt_of_le (h.2.2 u hu g hg).1 hb.size, (h.2.2 u hu g hg).2⟩⟩

/-- Bytes do not lie in a log's box: a store into it leaves them. -/
theorem bytes_off {w : World} {v : Value} {bs : List UInt8} {g : Nat} (h : SR.SliceB w.heap.size w v bs) (hg : Blk w g [.slice none 0 0, .int .i64 0]) {x y : Value} : SR.SliceB ((w.setCell ⟨g, 0, none⟩ x).setCell ⟨g, 1, none⟩ y).heap.size ((w.setCell ⟨g, 0, none⟩ x).setCell ⟨g, 1, none⟩ y) v bs := by
  obtain ⟨a, cap, rfl, h1, h2, h3, h4⟩ := h
  refine ⟨a, cap, rfl, h1, h2, h3, fun i hi => ?_⟩
  obtain ⟨b, off, rfl, hlt, hc⟩ := h4 i hi
  refine ⟨b, off, rfl, by simpa using hlt, ?_⟩
  have hne : b ≠ g := fun e => by
    subst e
    rw [hg.cell (off + i)] at hc
    have : off + i = 0 ∨ off + i = 1 ∨ 2 ≤ off + i := by omega
    rcases this with h | h | h
    · rw [h] at hc; simp at hc
    · rw [h] at hc; simp at hc
    · rw [List.getElem?_eq_none (by simpa using h)] at hc; cases hc
  rw [← hc]
  refine World.cell?_of_block ?_
  rw [Below.heap_setCell _ _ _ _ hne, Below.heap_setCell _ _ _ _ hne]

set_option maxRecDepth 100000 in
set_option maxHeartbeats 3200000 in
theorem write_any (u ev : Value) (sure : Int) (l : List UInt8) (es : List ED) (w : World) (hu : SliceB (Under w.heap.size) w u l) (he : SliceE (Under w.heap.size) w ev es) (hr : ∀ e ∈ es, e.right) (hel : es.length ≤ 4194304) (hll : l.length ≤ 140737488355328) :
    Calls Try.prog 20 #[.agg #[u, .int .i64 sure], ev] w fun r w' => SR.LogIs w w' r (SR.appB l (es.map entryB)) (if SR.appE l (es.map entryB) = 0 then sure else 0) (SR.appE l (es.map entryB)) := by
  have HU : Hid (SliceB (Under w.heap.size) w u l) := hu
  have HE : Hid (SliceE (Under w.heap.size) w ev es) := he
  have HR : Hid (∀ e ∈ es, e.right) := hr
  obtain ⟨ua, uc, rfl, -⟩ := SliceV.shape hu
  obtain ⟨va, vc, rfl, hv1, hv2, -⟩ := he.shape
  unfold maxLen at hv2
  clear hu he hr
  obtain ⟨n, hn⟩ : ∃ n, n = es.length := ⟨_, rfl⟩
  have HN : Hid (n = es.length) := hn
  rw [← hn] at hel hv1
  rw [← hn]
  clear hn
  obtain ⟨ans, hans⟩ : ∃ ans, ans = SR.appB l (es.map entryB) := ⟨_, rfl⟩
  obtain ⟨sr, hsr⟩ : ∃ sr, sr = (if SR.appE l (es.map entryB) = 0 then sure else 0) := ⟨_, rfl⟩
  obtain ⟨er, her⟩ : ∃ er, er = SR.appE l (es.map entryB) := ⟨_, rfl⟩
  have HANS : Hid (ans = SR.appB l (es.map entryB) ∧ sr = (if SR.appE l (es.map entryB) = 0 then sure else 0) ∧ er = SR.appE l (es.map entryB)) := ⟨hans, hsr, her⟩
  rw [← hans, ← hsr, ← her]
  clear hans hsr her
  obtain ⟨A, hA⟩ : ∃ A, A = (w.alloc (.cells #[.slice ua l.length uc, .int .i64 sure] 32)).alloc (.cells #[.slice none 0 0, .int .i64 0] 32) := ⟨_, rfl⟩
  have hAz : A.heap.size = w.heap.size + 2 := by rw [hA]; simp
  have hAB : Below w.heap.size w A := by rw [hA]; exact (below_alloc _ _).alloc (by simp) _
  have hA0 : Blk A w.heap.size [.slice ua l.length uc, .int .i64 sure] := by rw [hA]; exact (Blk.new _ _ _).alloc _
  have hA1 : Blk A (w.heap.size + 1) [.slice none 0 0, .int .i64 0] := by
    rw [hA]
    have := Blk.new (w.alloc (.cells #[.slice ua l.length uc, .int .i64 sure] 32)) [.slice none 0 0, .int .i64 0] 32
    simpa using this
  have HAB : Hid (Below w.heap.size w A ∧ Blk A w.heap.size [.slice ua l.length uc, .int .i64 sure] ∧ Blk A (w.heap.size + 1) [.slice none 0 0, .int .i64 0]) := ⟨hAB, hA0, hA1⟩
  clear hAB hA0 hA1
  go_enter Try.func20, Try.ntmps20
  go_upto_region 1 with fail
  rw [← hA]
  clear hA
  go_wp2_with fail
  go_loopw [6, 11] (fun v i wr => ∃ (k : Nat) (vs : List Value), k ≤ n ∧ i = .int .i64 k ∧ SR.RowS A.heap.size wr v vs ((es.take k).map entryB) ∧ Below A.heap.size A wr) (fun _ i _ => n - (intOf i).toNat)
  case atStart => exact ⟨0, [], Nat.zero_le _, rfl, SR.RowS.nil _ _, Below.refl _ _⟩
  case round =>
    obtain ⟨k, vs, hk, rfl, hrow, hbel⟩ := hrel
    have HW : Hid (SR.RowS A.heap.size wr _ vs ((es.take k).map entryB)) := hrow
    have HBL : Hid (Below A.heap.size A wr) := hbel
    obtain ⟨ra, rc, rfl, hr1, hr2, -⟩ := own_shape hrow.1
    have hz := hbel.size
    have hkl : ((es.take k).map entryB).length = k := by have := HN.out; simp; omega
    have hw1 := hrow.1
    rw [hkl] at HW hr1 hw1 ⊢
    have HO : Hid (wr.ownsRow A.heap.size 26 1 (.slice ra k rc) k vs) := hw1
    have HKL : Hid (((es.take k).map entryB).length = k) := hkl
    unfold maxLen at hr2
    have hBw : Below w.heap.size w wr := HAB.out.1.trans (hbel.mono (by omega))
    clear hrow hbel hkl hw1
    by_cases hlt : k < n
    · have hk2 : k < es.length := by rw [← HN.out]; exact hlt
      obtain ⟨b, off, pa, pc, qa, qc, rfl, hS, hnt, ⟨c0, c1, c2, c3⟩, c4, c5⟩ := (SliceE.sub (T := Under w.heap.size) HE.out (fun b hb => ⟨hb, hBw.block b hb⟩)).at k hk2
      have HNT : Hid (NoteIs (Under w.heap.size) wr (.slice pa es[k].note.props.length pc, .slice qa es[k].note.body.length qc) es[k].note) := hnt
      obtain ⟨e, hee⟩ : ∃ e, e = es[k] := ⟨_, rfl⟩
      have HEE : Hid (e = es[k]) := hee
      rw [← hee] at c0 c1 c2 c3 c4 c5 HNT
      have hbw : b < wr.heap.size := by have := hBw.size; have : b < w.heap.size := hS; omega
      clear hnt hee
      have HJB : Hid (∀ W, Below wr.heap.size wr W → Calls Try.prog 15 #[.agg #[.int .i64 e.kind, .string e.queue, .int .i64 e.n, .int .i64 e.id, .slice pa e.note.props.length pc, .slice qa e.note.body.length qc]] W fun r w' => ∃ v, r = .returned v ∧ w'.ownsRow W.heap.size 5 1 v (entryB e).length (u8s (entryB e)) ∧ Below W.heap.size W w') := by
        show ∀ W, Below wr.heap.size wr W → _
        intro W hW
        have h1 := hBw.size
        exact jbytes_any e (by rw [HEE.out]; exact HR.out _ (List.getElem_mem hk2)) _ _ W (HNT.out.sub fun b hb => ⟨by have := hW.size; have : b < w.heap.size := hb; show b < W.heap.size; omega, hW.block b (by have : b < w.heap.size := hb; omega)⟩)
      go_wp2_with (first
        | (go_at_call 15; refine (HJB.out _ (below_alloc _ _)).mono ?_; rintro r w2 ⟨x, rfl, hx2, hb2⟩; obtain ⟨xa, xc, rfl, hx3, hx4, -⟩ := own_shape hx2; have hz2 := hb2.size; simp only [World.size_alloc] at hz2)
        | (at_builtin; refine SR.wpList_appV rfl (.tmp 15) (.tmp 18) rfl A.heap.size _ k vs rfl ((own_below (own_below HO.out (below_alloc _ _)) hb2).alloc _) (w2.heap.size + 1) _ [.slice xa (entryB e).length xc] rfl (SR.new_row w2 _) (by intro x hx; simp at hx; subst hx; rfl) (by simp; omega) (by simp at hz2 ⊢; omega) ?_; intro ao cap4 w4 hown4 hg4 hm4))
      have hp := (rowS_below HW.out (below_alloc wr _)).push (r := entryB e) (by simp; omega) hb2 hx2 (by rw [HKL.out]; simpa using hown4) hg4 hm4
      have hbn : Below A.heap.size A w4 := by
        have c1 : Below A.heap.size A w2 := HBL.out.trans (((below_alloc wr _).trans (hb2.mono (by simp))).mono hz)
        exact (c1.alloc c1.size _).trans (SR.own_dropG ((own_below (own_below HO.out (below_alloc _ _)) hb2).alloc _) (by have := c1.size; simp; omega) hg4)
      have hst : (es.take k).map entryB ++ [entryB e] = (es.take (k + 1)).map entryB := by
        rw [List.take_succ_eq_append_getElem hk2, List.map_append, HEE.out]
        rfl
      rw [hst] at hp
      go_roundw
      case rel => exact ⟨k + 1, _, by omega, by go_num, hp, hbn⟩
      case measure => simp [intOf]; omega
    · obtain rfl : k = n := by omega
      have hes : (es.take k).map entryB = es.map entryB := by rw [List.take_of_length_le (by have := HN.out; omega)]
      rw [hes] at HW
      obtain ⟨a0, a1, a2, a3⟩ := (HAB.out.2.1.below HBL.out (by omega)).b2
      obtain ⟨b0, b1, b2, b3⟩ := (HAB.out.2.2.below HBL.out (by omega)).b2
      have HAP : Hid (Calls Try.prog 58 #[.agg #[.slice ua l.length uc, .int .i64 sure], .slice ra k rc] wr fun e w' => SR.LogIs wr w' e (SR.appB l (es.map entryB)) (if SR.appE l (es.map entryB) = 0 then sure else 0) (SR.appE l (es.map entryB))) :=
        SR.append_any _ _ sure l (es.map entryB) wr (bytes_sr (SliceV.sub HU.out fun b hb => ⟨Nat.lt_of_lt_of_le hb hBw.size, hBw.block b hb⟩)) HW.out.slice (by simp; have := HN.out; omega) hll
      have HBW : Hid (Below w.heap.size w wr ∧ A.heap.size ≤ wr.heap.size) := ⟨hBw, hz⟩
      clear hBw
      rw [← HANS.out.1, ← HANS.out.2.1, ← HANS.out.2.2] at HAP
      go_wp2_with (go_at_call 58; refine HAP.out.mono ?_; rintro r w5 ⟨ao, cap5, rfl, hs5, hb5⟩; have HB5 : Hid (SR.SliceB w5.heap.size w5 (.slice ao ans.length cap5) ans ∧ Below wr.heap.size wr w5) := ⟨hs5, hb5⟩; have hD := ((HAB.out.2.2.below HBL.out (by omega)).below hb5 b3); have HD : Hid (Blk w5 (w.heap.size + 1) [.slice none 0 0, .int .i64 0]) := hD; obtain ⟨d0, d1, d2, d3⟩ := hD.b2; clear hs5 hb5 hD)
      have hne : w.heap.size ≠ w.heap.size + 1 := by omega
      refine bodyPost_ret (v := .tuple #[.agg #[.slice ao ans.length cap5, .int .i64 sr], .int .i64 er]) (by simp [results, Try.results20, go_sem, *]; done) rfl ⟨ao, cap5, rfl, ?_, ?_⟩
      · exact bytes_off HB5.out.1 HD.out
      · iterate 2 refine Below.setCell ?_ (show w.heap.size ≤ w.heap.size + 1 by omega) _
        exact HBW.out.1.trans (HB5.out.2.mono (by have := HBW.out.1.size; omega))
end Go.Proofs.Ytkddkpdfeeikhaa
