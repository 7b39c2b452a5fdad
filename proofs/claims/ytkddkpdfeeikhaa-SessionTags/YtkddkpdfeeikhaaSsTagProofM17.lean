/-
  SrCrash; SrAppend; JBase: texts laid together.
-/
import Derived.Test.YtkddkpdfeeikhaaSsTagProofM16
import Derived.Test.YtkddkpdfeeikhaaSsTagProofM10
import Derived.Test.YtkddkpdfeeikhaaSsTagProofM06
import Derived.Test.YtkddkpdfeeikhaaSsTagProofM14
/-
  store.Crash leaves what crashB says of a log.
-/
namespace Go.Proofs.Ytkddkpdfeeikhaa.SR
open Go.RowKit
set_option linter.unusedVariables false
set_option linter.unusedSimpArgs false

attribute [local go_sem ↓] Go.wp_at_zero Go.wp_at_succ

/-- What a crash leaves of a log's bytes. -/
def leftB (l : List UInt8) (sure keep : Int) : List UInt8 := l.take (keptN l.length sure keep).toNat
def crashB (l : List UInt8) (sure keep : Int) : List UInt8 := (leftB l sure keep).take (sizeR (recsF (leftB l sure keep)))

end Go.Proofs.Ytkddkpdfeeikhaa.SR

/-
  store.Append answers what appE and appB say of a log and records.
-/
namespace Go.Proofs.Ytkddkpdfeeikhaa.SR
open Go.RowKit
set_option linter.unusedVariables false
set_option linter.unusedSimpArgs false

attribute [local go_sem ↓] Go.wp_at_zero Go.wp_at_succ

/-- What Append tells: too long a record, no room, or nothing wrong. -/
def muchB (rs : List (List UInt8)) : Bool := rs.any fun r => 65536 ≤ r.length
def appE (l : List UInt8) (rs : List (List UInt8)) : Int := if muchB rs = true then 4 else if 6000 < l.length + sizeR rs then 8 else 0
def appB (l : List UInt8) (rs : List (List UInt8)) : List UInt8 := if appE l rs = 0 then l ++ framesB rs else []

theorem muchB_false (rs : List (List UInt8)) (h : muchB rs = false) : ∀ r ∈ rs, r.length < 65536 := by
  intro r hr
  unfold muchB at h
  rw [List.any_eq_false] at h
  have := h r hr
  simpa using this
theorem muchB_at (rs : List (List UInt8)) (h : muchB rs = true) : ∃ k, ∃ hk : k < rs.length, 65536 ≤ rs[k].length ∧ ∀ j (hj : j < k), rs[j].length < 65536 := by
  induction rs with
  | nil => simp [muchB] at h
  | cons r rs ih =>
    by_cases h0 : 65536 ≤ r.length
    · exact ⟨0, by simp, h0, fun j hj => by omega⟩
    · have h1 : muchB rs = true := by
        unfold muchB at h ⊢
        rw [List.any_cons] at h
        simpa [h0] using h
      obtain ⟨k, hk, h2, h3⟩ := ih h1
      refine ⟨k + 1, by simp; omega, by simpa using h2, fun j hj => ?_⟩
      cases j with
      | zero => simp; omega
      | succ j => simpa using h3 j (by omega)

theorem below_drewN {B : Nat} {w w' : World} (h : Below B w w') (n : Nat) : Below B w (w'.drewN n) := h.trans ⟨rfl, rfl, rfl, Nat.le_refl _, fun _ _ => rfl⟩

/-- What is told of a log. -/
def LogIs (w w' : World) (e : Ending) (l : List UInt8) (sure err : Int) : Prop :=
  ∃ ao cap, e = .returned (.tuple #[.agg #[.slice ao l.length cap, .int .i64 sure], .int .i64 err]) ∧ SliceB w'.heap.size w' (.slice ao l.length cap) l ∧ Below w.heap.size w w'

/-- The same, of bytes that were made. -/
def LogIsF (w w' : World) (e : Ending) (l : List UInt8) (sure err : Int) : Prop :=
  ∃ ao cap, e = .returned (.tuple #[.agg #[.slice ao l.length cap, .int .i64 sure], .int .i64 err]) ∧ SliceB w'.heap.size w' (.slice ao l.length cap) l ∧ Below w.heap.size w w' ∧ ∀ a : Addr, ao = some a → w.heap.size ≤ a.block
theorem LogIsF.is {w w' : World} {e : Ending} {l : List UInt8} {sure err : Int} (h : LogIsF w w' e l sure err) : LogIs w w' e l sure err := by
  obtain ⟨ao, cap, h1, h2, h3, -⟩ := h
  exact ⟨ao, cap, h1, h2, h3⟩
theorem own_fresh {w : World} {base : Nat} {ty : TypeId} {size : Nat} {ao : Option Addr} {n cap : Nat} {xs : List Value} (h : w.ownsRow base ty size (.slice ao n cap) n xs) : ∀ a : Addr, ao = some a → base ≤ a.block := by
  intro a ha
  subst ha
  rcases h.2 with ⟨e, -⟩ | ⟨g, cap', cur, e, hb, -⟩
  · simp at e
  · simp only [Value.slice.injEq, Option.some.injEq] at e
    rw [e.1]
    exact hb

set_option maxRecDepth 100000 in
set_option maxHeartbeats 1600000 in
theorem append_much (u v : Value) (sure : Int) (l : List UInt8) (rs : List (List UInt8)) (w : World) (hu : SliceB w.heap.size w u l) (hv : SliceS w.heap.size w v rs) (hm : muchB rs = true) :
    Calls Try.prog 58 #[.agg #[u, .int .i64 sure], v] w fun e w' => LogIsF w w' e [] 0 4 := by
  obtain ⟨K, hK, hK1, hK2⟩ := muchB_at rs hm
  have X2 : Hid (∀ o1 o2, SliceS ((w.alloc o1).alloc o2).heap.size ((w.alloc o1).alloc o2) v rs) := fun o1 o2 => ((hv.below (below_alloc _ o1)).below (below_alloc _ o2))
  obtain ⟨va, vc, rfl, hv1, hv2⟩ := hv.shape
  obtain ⟨ua, uc, rfl, hu1, hu2, -⟩ := hu
  unfold maxLen at hu2
  have HK1 : Hid (65536 ≤ rs[K].length) := hK1
  have HK2 : Hid (∀ j (hj : j < K), rs[j].length < 65536) := hK2
  clear hK1 hK2 hm
  go_enter Try.func58, Try.ntmps58
  go_wp2
  go_loop [14] (fun i => ∃ k : Nat, k ≤ K ∧ i = .int .i64 k) (fun i => K - (intOf i).toNat)
  case atStart => exact ⟨0, Nat.zero_le _, rfl⟩
  case round =>
    obtain ⟨k, hk, rfl⟩ := hrel
    obtain ⟨g, off, ra, rc, rfl, hc, hs, hg, hr1, hr2⟩ := (X2.out (.cells #[.slice ua l.length uc, .int .i64 sure] 32) (.cells #[.slice none 0 0, .int .i64 0] 32)).at k (by omega)
    obtain ⟨R, hR⟩ : ∃ R, R = rs[k].length := ⟨_, rfl⟩
    rw [← hR] at hc hs hr2
    by_cases hlt : k < K
    · have hno : ¬ ((65536 : Int) ≤ (R : Int)) := by have := HK2.out k hlt; omega
      clear hR
      go_wp2
      go_round
      case rel => exact ⟨k + 1, by omega, by go_num⟩
      case measure => simp [intOf]; omega
    · have hyes : ((65536 : Int) ≤ (R : Int)) := by
        have e : k = K := by omega
        subst e
        have := HK1.out
        omega
      clear hR
      go_wp2
      refine bodyPost_ret (v := .tuple #[.agg #[.slice none 0 0, .int .i64 0], .int .i64 4]) (by simp [results, Try.results58, go_sem, *]; done) rfl ⟨_, _, rfl, SliceB.nil _ _, ?_, fun a h => by cases h⟩
      exact (below_alloc _ _).alloc (by simp) _

set_option maxRecDepth 100000 in
set_option maxHeartbeats 1600000 in
theorem append_full (u v : Value) (sure : Int) (l : List UInt8) (rs : List (List UInt8)) (w : World) (hu : SliceB w.heap.size w u l) (hv : SliceS w.heap.size w v rs) (hn : rs.length ≤ 8796093022208) (hll : l.length ≤ 140737488355328) (hm : muchB rs = false) (hf : 6000 < l.length + sizeR rs) :
    Calls Try.prog 58 #[.agg #[u, .int .i64 sure], v] w fun e w' => LogIsF w w' e [] 0 8 := by
  have HM : Hid (∀ r ∈ rs, r.length < 65536) := muchB_false rs hm
  have hsz : sizeR rs ≤ rs.length * (65535 + 4) := sizeR_bound rs 65535 (fun r h => by have := HM.out r h; omega)
  have X2 : Hid (∀ o1 o2 n, SliceS ((w.alloc o1).alloc o2).heap.size (((w.alloc o1).alloc o2).drewN n) v rs) := fun o1 o2 n => ((hv.below (below_alloc _ o1)).below (below_alloc _ o2)).same (fun _ _ => rfl)
  obtain ⟨va, vc, rfl, hv1, hv2⟩ := hv.shape
  obtain ⟨ua, uc, rfl, hu1, hu2, -⟩ := hu
  unfold maxLen at hu2
  obtain ⟨S, hS⟩ : ∃ S, S = sizeR rs := ⟨_, rfl⟩
  have HS : Hid (S = sizeR rs) := hS
  rw [← hS] at hsz hf
  clear hS hm
  go_enter Try.func58, Try.ntmps58
  go_wp2
  go_loop [14] (fun i => ∃ k : Nat, k ≤ rs.length ∧ i = .int .i64 k) (fun i => rs.length - (intOf i).toNat)
  case atStart => exact ⟨0, Nat.zero_le _, rfl⟩
  case round =>
    obtain ⟨k, hk, rfl⟩ := hrel
    by_cases hlt : k < rs.length
    · obtain ⟨g, off, ra, rc, rfl, hc, hs, hg, hr1, hr2⟩ := (X2.out (.cells #[.slice ua l.length uc, .int .i64 sure] 32) (.cells #[.slice none 0 0, .int .i64 0] 32) 0).at k hlt
      obtain ⟨R, hR⟩ : ∃ R, R = rs[k].length := ⟨_, rfl⟩
      rw [← hR] at hc hs hr2
      have hno : ¬ ((65536 : Int) ≤ (R : Int)) := by have := HM.out _ (List.getElem_mem hlt); omega
      simp only [World.drewN_zero] at hc
      clear hR
      go_wp2
      go_round
      case rel => exact ⟨k + 1, by omega, by go_num⟩
      case measure => simp [intOf]; omega
    · have hgt : (6000 : Int) < (l.length : Int) + (S : Int) := by omega
      go_wp2
      go_quiet ((go_at_call 88; refine (framed_any _ _ rs _ (X2.out _ _ _) (by omega) HM.out).mono ?_; rw [← HS.out]; rintro e w2 ⟨rfl, rfl⟩; exact ⟨rfl, _, rfl⟩))
      go_wp2
      refine bodyPost_ret (v := .tuple #[.agg #[.slice none 0 0, .int .i64 0], .int .i64 8]) (by simp [results, Try.results58, go_sem, *]; done) rfl ⟨_, _, rfl, SliceB.nil _ _, ?_, fun a h => by cases h⟩
      exact ((below_drewN ((below_alloc _ _).alloc (by simp) _) nq).setCell (by simp) _).setCell (by simp) _

/-- 'make([]byte, 0, n)'. -/
theorem make_run (n : Nat) (hn : n ≤ 281474976710656) : ∃ Z : Array Value, Z.size = n ∧ ∀ (W : World) (C : Int), C = (n : Int) → (Instr.makeSlice 26 (.int .i64 0) (.int .i64 C)).run Try.prog W = .ok (.slice (some ⟨W.heap.size, 0, none⟩) 0 n) (W.alloc (.cells Z 5)) := by
  obtain ⟨i0, hi0, hz0, hz1, hz2⟩ := info_parts info5
  refine ⟨madeCells (Value.int .u8 0).cells (n * 1), ?_, fun W C hC => ?_⟩
  · simp [madeCells]
  · subst hC
    have := run_make (P := Try.prog) W 26 5 i0 (.int .u8 0) Try.underlying26 hi0 hz0 .i64 .i64 0 (n : Int) (by omega) (by omega) (by rw [hz2]; omega) (by omega)
    rw [hz1] at this
    simpa using this
theorem make_own (W : World) (base n : Nat) (Z : Array Value) (hZ : Z.size = n) (hn : n ≤ 281474976710656) (hb : base ≤ W.heap.size) : (W.alloc (.cells Z 5)).ownsRow base 5 1 (.slice (some ⟨W.heap.size, 0, none⟩) 0 n) 0 [] := by
  refine ⟨by simp, .inr ⟨W.heap.size, n, Z, rfl, hb, heap_alloc_new W _, Nat.zero_le _, by unfold maxLen; omega, by simpa using hZ, by simp⟩⟩

set_option maxRecDepth 100000 in
set_option maxHeartbeats 3200000 in
theorem append_ok (u v : Value) (sure : Int) (l : List UInt8) (rs : List (List UInt8)) (w : World) (hu : SliceB w.heap.size w u l) (hv : SliceS w.heap.size w v rs) (hm : muchB rs = false) (hf : l.length + sizeR rs ≤ 6000) :
    Calls Try.prog 58 #[.agg #[u, .int .i64 sure], v] w fun e w' => LogIsF w w' e (l ++ framesB rs) sure 0 := by
  have HM : Hid (∀ r ∈ rs, r.length < 65536) := muchB_false rs hm
  have hnr := sizeR_len4 rs
  have X2 : Hid (∀ o1 o2 n, SliceS ((w.alloc o1).alloc o2).heap.size (((w.alloc o1).alloc o2).drewN n) v rs) := fun o1 o2 n => ((hv.below (below_alloc _ o1)).below (below_alloc _ o2)).same (fun _ _ => rfl)
  have U2 : Hid (∀ o1 o2 W, Below ((w.alloc o1).alloc o2).heap.size ((w.alloc o1).alloc o2) W → SliceB W.heap.size W u l) := fun o1 o2 W h => ((hu.below (below_alloc _ o1)).below (below_alloc _ o2)).below h
  obtain ⟨va, vc, rfl, hv1, hv2⟩ := hv.shape
  obtain ⟨ua, uc, rfl, hu1, hu2, -⟩ := hu
  unfold maxLen at hu2
  obtain ⟨S, hS⟩ : ∃ S, S = sizeR rs := ⟨_, rfl⟩
  have HS : Hid (S = sizeR rs) := hS
  rw [← hS] at hnr hf
  clear hS hm
  go_enter Try.func58, Try.ntmps58
  go_wp2
  go_loop [14] (fun i => ∃ k : Nat, k ≤ rs.length ∧ i = .int .i64 k) (fun i => rs.length - (intOf i).toNat)
  case atStart => exact ⟨0, Nat.zero_le _, rfl⟩
  case round =>
    obtain ⟨k, hk, rfl⟩ := hrel
    by_cases hlt : k < rs.length
    · obtain ⟨g, off, ra, rc, rfl, hc, hs, hg, hr1, hr2⟩ := (X2.out (.cells #[.slice ua l.length uc, .int .i64 sure] 32) (.cells #[.slice none 0 0, .int .i64 0] 32) 0).at k hlt
      obtain ⟨R, hR⟩ : ∃ R, R = rs[k].length := ⟨_, rfl⟩
      rw [← hR] at hc hs hr2
      have hno : ¬ ((65536 : Int) ≤ (R : Int)) := by have := HM.out _ (List.getElem_mem hlt); omega
      simp only [World.drewN_zero] at hc
      clear hR
      go_wp2
      go_round
      case rel => exact ⟨k + 1, by omega, by go_num⟩
      case measure => simp [intOf]; omega
    · have hgt : ¬ ((6000 : Int) < (l.length : Int) + (S : Int)) := by omega
      go_wp2
      go_quiet ((go_at_call 88; refine (framed_any _ _ rs _ (X2.out _ _ _) (by omega) HM.out).mono ?_; rw [← HS.out]; rintro e w2 ⟨rfl, rfl⟩; exact ⟨rfl, _, rfl⟩))
      go_wp2
      obtain ⟨Z, hZ, hmk0⟩ := make_run (l.length + S) (by omega)
      have hmk : ∀ W : World, (Instr.makeSlice 26 (.int .i64 0) (.int .i64 ((l.length : Int) + (S : Int)))).run Try.prog W = .ok (.slice (some ⟨W.heap.size, 0, none⟩) 0 (l.length + S)) (W.alloc (.cells Z 5)) := fun W => hmk0 W _ (by omega)
      have hmo : ∀ W : World, W.heap.size = w.heap.size + 1 + 1 → (W.alloc (.cells Z 5)).ownsRow (w.heap.size + 2) 5 1 (.slice (some ⟨w.heap.size + 1 + 1, 0, none⟩) 0 (l.length + S)) 0 [] := fun W e => by rw [← e]; exact make_own W _ _ Z hZ (by omega) (by omega)
      clear hmk0
      go_region_law (first
        | (refine step_app (by rfl) _ _ (by rfl) (w.heap.size + 2) _ 0 [] (by rfl) (hmo _ (by simp)) _ _ l (by rfl) (U2.out _ _ _ ((below_drewN (Below.refl _ _) nq).drew.alloc (by simp) _)) (by omega) (by simp) ?_; intro ao1 cap1 w1 hown1 hg1))
      all_goals
        have c1 : Below (w.heap.size + 2) ((w.alloc (.cells #[.slice ua l.length uc, .int .i64 sure] 32)).alloc (.cells #[.slice none 0 0, .int .i64 0] 32)) w1 := ((below_drewN (Below.refl _ _) nq).drew.alloc (by simp) _).trans (own_drop (hmo _ (by simp)) (by simp) hg1)
        have V2 : Hid (∀ W, Below (w.heap.size + 2) ((w.alloc (.cells #[.slice ua l.length uc, .int .i64 sure] 32)).alloc (.cells #[.slice none 0 0, .int .i64 0] 32)) W → SliceS (w.heap.size + 2) W (.slice va rs.length vc) rs) := fun W h => by
          have := (X2.out (.cells #[.slice ua l.length uc, .int .i64 sure] 32) (.cells #[.slice none 0 0, .int .i64 0] 32) 0).same (w' := W) (fun j hj => h.block j (by simp at hj; omega))
          simpa using this
        have hown1' : w1.ownsRow (w.heap.size + 2) 5 1 (.slice ao1 l.length cap1) (l ++ framesB (rs.take 0)).length (u8s (l ++ framesB (rs.take 0))) := by
          simpa [framesB] using hown1
        have H1 : Hid (w1.ownsRow (w.heap.size + 2) 5 1 (.slice ao1 l.length cap1) (l ++ framesB (rs.take 0)).length (u8s (l ++ framesB (rs.take 0)))) := hown1'
        clear hown1 hown1' hmk hmo hg1
        go_wp2
        go_loopw [9, 39] (fun v i wr => ∃ k : Nat, k ≤ rs.length ∧ i = .int .i64 k ∧ Below (w.heap.size + 2) ((w.alloc (.cells #[.slice ua l.length uc, .int .i64 sure] 32)).alloc (.cells #[.slice none 0 0, .int .i64 0] 32)) wr ∧
            wr.ownsRow (w.heap.size + 2) 5 1 v (l ++ framesB (rs.take k)).length (u8s (l ++ framesB (rs.take k))))
          (fun _ i _ => rs.length - (intOf i).toNat)
        case atStart => exact ⟨0, Nat.zero_le _, rfl, c1, H1.out⟩
        case round =>
          obtain ⟨j, hj, rfl, cr, hown⟩ := hrel
          obtain ⟨xs, hxs⟩ : ∃ xs, xs = l ++ framesB (rs.take j) := ⟨_, rfl⟩
          have hxl : xs.length ≤ 6000 := by
            rw [hxs, List.length_append, framesB_len]
            have := sizeR_le rs j
            have := HS.out
            omega
          have HX : Hid (xs = l ++ framesB (rs.take j)) := hxs
          rw [← hxs] at hown
          clear hxs
          have hzr := cr.size
          simp at hzr
          by_cases hltj : j < rs.length
          · obtain ⟨g, off, ra, rc, rfl, hc, hs, hg, hr1, hr2⟩ := (V2.out wr cr).at j hltj
            obtain ⟨r, hr⟩ : ∃ r, r = rs[j] := ⟨_, rfl⟩
            have hrl := HM.out _ (List.getElem_mem hltj)
            have HF : Hid (framesB (rs.take (j + 1)) = framesB (rs.take j) ++ frameB rs[j]) := framesB_take rs j hltj
            rw [← hr] at hc hs hr2 hrl HF
            have HRL : Hid (r.length < 65536) := hrl
            have HSS : Hid (SliceB (w.heap.size + 2) wr (.slice ra r.length rc) r) := hs
            clear hr hrl hs
            go_wp2_with (go_at_call 89; refine (appendFrame_any (w.heap.size + 2) _ _ xs r _ hown (by omega) (by omega) HSS.out HRL.out).mono ?_; rintro e w2 ⟨ao2, cap2, rfl, hown2, hg2, hm2⟩)
            go_roundw
            case rel =>
              refine ⟨j + 1, by omega, by go_num, cr.trans (own_drop hown (by omega) hg2), ?_⟩
              have e1 : l ++ framesB (rs.take (j + 1)) = xs ++ frameB r := by rw [HF.out, HX.out]; simp
              rw [e1, ← List.length_append]; exact hown2
            case measure => simp [intOf]; omega
          · obtain ⟨k1, k2⟩ : wr.cell? ⟨w.heap.size, 1, none⟩ = some (.int .i64 sure) ∧ (∀ o, wr.frozen? ⟨w.heap.size + 1, o, none⟩ = false) := ⟨(cr.cell (by simp)).trans (by simp), fun o => (cr.frozen (by simp)).trans (by simp)⟩
            have k3 : wr.cell? ⟨w.heap.size + 1, 0, none⟩ = some (.slice none 0 0) := (cr.cell (by simp)).trans (by simp)
            have k4 : wr.cell? ⟨w.heap.size + 1, 1, none⟩ = some (.int .i64 0) := (cr.cell (by simp)).trans (by simp)
            obtain ⟨va', vc', rfl, -⟩ := own_shape hown
            have ej : xs = l ++ framesB rs := by rw [HX.out, show j = rs.length by omega, List.take_of_length_le (Nat.le_refl _)]
            have EJ : Hid (xs = l ++ framesB rs) := ej
            clear ej
            go_wp2
            refine bodyPost_ret (v := .tuple #[.agg #[.slice va' xs.length vc', .int .i64 sure], .int .i64 0]) (by simp [results, Try.results58, go_sem, *]; done) rfl ?_
            rw [← EJ.out]
            refine ⟨_, _, rfl, own_slice (ownsRow_setCell_below (ownsRow_setCell_below hown (by simp) _) (by simp) _), ?_, fun a h => Nat.le_trans (by omega) (own_fresh hown a h)⟩
            exact (((((below_alloc _ _).alloc (by simp) _)).trans (cr.mono (by omega))).setCell (by simp) _).setCell (by simp) _

theorem append_anyF (u v : Value) (sure : Int) (l : List UInt8) (rs : List (List UInt8)) (w : World) (hu : SliceB w.heap.size w u l) (hv : SliceS w.heap.size w v rs) (hn : rs.length ≤ 8796093022208) (hll : l.length ≤ 140737488355328) :
    Calls Try.prog 58 #[.agg #[u, .int .i64 sure], v] w fun e w' => LogIsF w w' e (appB l rs) (if appE l rs = 0 then sure else 0) (appE l rs) := by
  cases hm : muchB rs with
  | true =>
    have e : appE l rs = 4 := by simp [appE, hm]
    have eb : appB l rs = [] := by simp [appB, e]
    rw [eb, e]
    exact append_much u v sure l rs w hu hv hm
  | false =>
    by_cases hf : 6000 < l.length + sizeR rs
    · have e : appE l rs = 8 := by simp [appE, hm, hf]
      have eb : appB l rs = [] := by simp [appB, e]
      rw [eb, e]
      exact append_full u v sure l rs w hu hv hn hll hm hf
    · have e : appE l rs = 0 := by simp [appE, hm, hf]
      have eb : appB l rs = l ++ framesB rs := by simp [appB, e]
      rw [eb, e]
      exact append_ok u v sure l rs w hu hv hm (by omega)

end Go.Proofs.Ytkddkpdfeeikhaa.SR

/-
  The elder texts' memory of bytes and properties, in the words of this seat's.
-/
namespace Go.Proofs.Ytkddkpdfeeikhaa
open Go.RowKit
set_option linter.unusedVariables false
set_option linter.unusedSimpArgs false

def PD.nt (p : PD) : NT.PD := ⟨p.key, p.kind, p.n, p.text⟩
theorem bytes_nt {B : Nat} {w : World} {v : Value} {bs : List UInt8} (h : SliceB (Under B) w v bs) : NT.SliceB B w v bs := by
  obtain ⟨a, cap, rfl, h1, h2, h3, h4⟩ := h
  refine ⟨a, cap, rfl, h1, h2, h3, fun i hi => ?_⟩
  obtain ⟨b, off, e, hs, hc⟩ := h4 i (by simpa [u8s] using hi)
  exact ⟨b, off, e, hs, by rw [hc]; simp [u8s]⟩
theorem bytes_sr {B : Nat} {w : World} {v : Value} {bs : List UInt8} (h : SliceB (Under B) w v bs) : SR.SliceB B w v bs := by
  obtain ⟨a, cap, rfl, h1, h2, h3, h4⟩ := h
  refine ⟨a, cap, rfl, h1, h2, h3, fun i hi => ?_⟩
  obtain ⟨b, off, e, hs, hc⟩ := h4 i (by simpa [u8s] using hi)
  exact ⟨b, off, e, hs, by rw [hc]; simp [u8s]⟩
theorem sr_bytes {B : Nat} {w : World} {v : Value} {bs : List UInt8} (h : SR.SliceB B w v bs) : SliceB (Under B) w v bs := by
  obtain ⟨a, cap, rfl, h1, h2, h3, h4⟩ := h
  refine ⟨a, cap, rfl, h1, h2, h3, fun i hi => ?_⟩
  have hi' : i < bs.length := by simpa [u8s] using hi
  obtain ⟨b, off, e, hs, hc⟩ := h4 i hi'
  exact ⟨b, off, e, hs, by rw [hc]; simp [u8s]⟩

theorem cellsL_at4 (ps : List PD) (i j : Nat) (hi : i < ps.length) (hj : j < 4) : (cellsL ps)[i * 4 + j]? = (ps[i].cells)[j]? := flat_at _ 4 (fun _ => rfl) ps i j hi hj

theorem props_nt {B : Nat} {w : World} {a : Option Addr} {n cap : Nat} {ps : List PD} (h : SliceP (Under B) w (.slice a n cap) ps) : NT.PropsAt B w a (ps.map PD.nt) := by
  obtain ⟨a', cap', e, h1, h2, h3, h4⟩ := h
  simp only [Value.slice.injEq] at e
  obtain ⟨rfl, -, rfl⟩ := e
  intro i hi
  have hi' : i < ps.length := by simpa using hi
  have hl := cellsL_len ps
  obtain ⟨b, off, rfl, hs, _⟩ := h4 (i * 4) (by omega)
  have key : ∀ j (hj : j < 4), w.cell? ⟨b, off + i * 4 + j, none⟩ = (ps[i].cells)[j]? := fun j hj => by
    obtain ⟨b', off', e, _, hc⟩ := h4 (i * 4 + j) (by omega)
    simp only [Option.some.injEq, Addr.mk.injEq] at e
    obtain ⟨rfl, rfl, -⟩ := e
    rw [← cellsL_at4 ps i j hi' hj, List.getElem?_eq_getElem (by omega), ← hc]
    congr 2; omega
  refine ⟨b, off, rfl, hs, ?_⟩
  have e : (ps.map PD.nt)[i] = ps[i].nt := by simp
  rw [e]
  exact ⟨key 0 (by omega), key 1 (by omega), key 2 (by omega), key 3 (by omega)⟩

/-- A right property is small. -/
theorem small_nt {p : PD} (h : p.wrong = 0) : p.nt.small := by
  unfold PD.wrong wrongP at h
  have hk : keyB p.key = true := by
    cases hb : keyB p.key
    · simp [hb] at h
    · rfl
  have h8 : p.key.size ≤ 8 := by
    have := hk
    unfold keyB at this
    simp at this
    omega
  have hkd : kindB p.kind = true := by
    cases hb : kindB p.kind
    · simp [hk, hb] at h
    · rfl
  have hr : rangeB p.kind p.n = true := by
    cases hb : rangeB p.kind p.n
    · simp [hk, hkd, hb] at h
    · rfl
  have hkk : p.kind = 1 ∨ p.kind = 2 ∨ p.kind = 3 := by
    unfold kindB at hkd
    simp at hkd
    rcases hkd with (h | h) | h
    · exact .inl h
    · exact .inr (.inl h)
    · exact .inr (.inr h)
  refine ⟨h8, ?_, ?_, fun h2 => ?_⟩
  · show 1 ≤ p.kind; omega
  · show p.kind ≤ 3; omega
  · have h2' : p.kind = 2 := h2
    show p.text.size ≤ 12
    apply Nat.le_of_not_lt
    intro h12
    have h12' : (decide (12 < p.text.size)) = true := by simpa using h12
    rw [h2'] at h hkd hr
    simp [hk, hkd, hr, h12] at h
end Go.Proofs.Ytkddkpdfeeikhaa
