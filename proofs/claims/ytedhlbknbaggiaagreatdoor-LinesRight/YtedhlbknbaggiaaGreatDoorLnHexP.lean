/-
  lines.Hex answers what hexF says.
-/
import Derived.Test.YtedhlbknbaggiaaGreatDoorLnApp
import Derived.Test.YtedhlbknbaggiaaGreatDoorLnHex
import Derived.Test.YtedhlbknbaggiaaGreatDoorLnRightCardM16
import Derived.Laws.MakeOwn
import Derived.Deep.RegionLaw
namespace Go.Proofs.YtedhlbknbaggiaaGreatDoor
open Go.RowKit
set_option linter.unusedVariables false
set_option linter.unusedSimpArgs false

attribute [local go_sem ↓] Go.wp_at_zero Go.wp_at_succ

theorem SliceB.at {B : Nat} {w : World} {a : Option Addr} {n cap : Nat} {bs : List UInt8} (h : SliceB B w (.slice a n cap) bs) (k : Nat) (hk : k < bs.length) :
    ∃ b off, a = some ⟨b, off, none⟩ ∧ b < B ∧ w.cell? ⟨b, off + k, none⟩ = some (.int .u8 (bs[k].toNat : Int)) := by
  obtain ⟨a', cap', e, _, _, _, h3⟩ := h
  simp only [Value.slice.injEq] at e
  obtain ⟨rfl, -, rfl⟩ := e
  exact h3 k hk
theorem SliceP.at {B : Nat} {w : World} {a : Option Addr} {n cap : Nat} {ps : List PD} (h : SliceP B w (.slice a n cap) ps) (k : Nat) (hk : k < ps.length) :
    ∃ b off, a = some ⟨b, off, none⟩ ∧ b < B ∧ PropAt w b (off + k * 4) ps[k] := by
  obtain ⟨a', cap', e, _, _, _, h3⟩ := h
  simp only [Value.slice.injEq] at e
  obtain ⟨rfl, -, rfl⟩ := e
  exact h3 k hk

/-- Bytes that read as a slice of values, and back. -/
theorem sliceB_of {S : Nat → Prop} {B : Nat} {w : World} {v : Value} {bs : List UInt8} (h : SliceV S w v bs.length (u8s bs)) (hS : ∀ b, S b → b < B) : SliceB B w v bs := by
  obtain ⟨a, cap, rfl, h1, h2, h3, h4⟩ := h
  refine ⟨a, cap, rfl, h1, h2, h3, fun i hi => ?_⟩
  obtain ⟨b, off, rfl, hs, hc⟩ := h4 i (by rw [u8s_len]; exact hi)
  exact ⟨b, off, rfl, hS b hs, by rw [hc]; simp [u8s]⟩
theorem sliceV_of {B : Nat} {w : World} {v : Value} {bs : List UInt8} (h : SliceB B w v bs) : SliceV (fun b => b < B) w v bs.length (u8s bs) := by
  obtain ⟨a, cap, rfl, h1, h2, h3, h4⟩ := h
  refine ⟨a, cap, rfl, h1, h2, h3, fun i hi => ?_⟩
  rw [u8s_len] at hi
  obtain ⟨b, off, rfl, hs, hc⟩ := h4 i hi
  exact ⟨b, off, rfl, hs, by rw [hc]; simp [u8s]⟩
theorem own_bytes {w : World} {base n : Nat} {v : Value} {bs : List UInt8} (h : w.ownsRow base 5 1 v n (u8s bs)) (hn : n = bs.length) : SliceB w.heap.size w v bs := by
  subst hn
  refine sliceB_of (own_slice h) fun b hb => (h.lt b hb).2
theorem and_fin : ∀ n : Fin 256, bits BinOp.and .u8 (n.val : Int) 15 = (n.val : Int) % 16 := by decide +kernel
theorem dig_fin : ∀ n : Fin 16, (ByteArray.mk #[48, 49, 50, 51, 52, 53, 54, 55, 56, 57, 97, 98, 99, 100, 101, 102])[n.val]'(by have := n.isLt; exact this) = hexd n.val := by decide +kernel
theorem dig_at (j : Int) (k : Nat) (hj : j.toNat = k) (hk : k < 16) (h : j.toNat < (ByteArray.mk #[48, 49, 50, 51, 52, 53, 54, 55, 56, 57, 97, 98, 99, 100, 101, 102]).size) :
    (ByteArray.mk #[48, 49, 50, 51, 52, 53, 54, 55, 56, 57, 97, 98, 99, 100, 101, 102])[j.toNat]'h = hexd k := by
  subst hj
  exact dig_fin ⟨j.toNat, hk⟩

set_option maxRecDepth 100000 in
set_option maxHeartbeats 1600000 in
theorem hex_any (v : Value) (bs : List UInt8) (w : World) (hv : SliceB w.heap.size w v bs) (hl : bs.length ≤ 70368744177664) :
    Calls Tryz.prog 15 #[v] w fun e w' => e = .returned (.string (bstr (hexF bs))) ∧ Below w.heap.size w w' := by
  have HV : Hid (SliceB w.heap.size w v bs) := hv
  obtain ⟨va, vc, rfl, v1, v2, v3, v4⟩ := hv
  clear v4
  obtain ⟨i, hi, hz, hsz, hby⟩ := info_of info5
  obtain ⟨w1, hmk, hown, hg⟩ := run_make_own (P := Tryz.prog) (w := w) w.heap.size 23 5 i _ 1 Tryz.underlying23 hi hz hsz .i64 .i64 (2 * bs.length) (by rw [hby]; omega) (by unfold maxLen; omega) (Nat.le_refl _)
  have hmk' : (Instr.makeSlice 23 (.int .i64 0) (.int .i64 (2 * (bs.length : Int)))).run Tryz.prog w = .ok (.slice (some ⟨w.heap.size, 0, none⟩) 0 (2 * bs.length)) w1 := by
    have e : ((2 * bs.length : Nat) : Int) = 2 * (bs.length : Int) := by omega
    rw [← e]
    exact hmk
  have H1 : Hid (Below w.heap.size w w1 ∧ w1.ownsRow w.heap.size 5 1 (.slice (some ⟨w.heap.size, 0, none⟩) 0 (2 * bs.length)) 0 []) := ⟨⟨hg.os, hg.tape, hg.output, hg.size, fun b hb => hg.block b hb (by simp)⟩, hown⟩
  clear hmk hown hg hi hz hsz hby
  unfold maxLen at v2
  go_enter Tryz.func15, Tryz.ntmps15
  go_upto_region 3 with fail
  go_loopw [3, 12] (fun out i wr => ∃ k : Nat, k ≤ bs.length ∧ i = .int .i64 (k : Int) ∧ wr.ownsRow w.heap.size 5 1 out (2 * k) (u8s (hexF (bs.take k))) ∧ Below w.heap.size w wr) (fun _ i _ => bs.length - (intOf i).toNat)
  case atStart => exact ⟨0, by omega, rfl, by simpa [hexF, u8s] using H1.out.2, H1.out.1⟩
  case round =>
    obtain ⟨k, hk, rfl, hown, hbel⟩ := hrel
    obtain ⟨ao, cap, rfl, g1, g2, g3⟩ := own_shape hown
    have HR : Hid (wr.ownsRow w.heap.size 5 1 (.slice ao (2 * k) cap) (2 * k) (u8s (hexF (bs.take k))) ∧ Below w.heap.size w wr) := ⟨hown, hbel⟩
    have hz := hbel.size
    clear hown g1 g2 g3 H1
    by_cases hlt : k < bs.length
    · obtain ⟨b, off, rfl, hS, hc⟩ := (HV.out.below hbel).at k hlt
      obtain ⟨c, hcc⟩ : ∃ c, c = bs[k] := ⟨_, rfl⟩
      rw [← hcc] at hc
      have HC : Hid (c = bs[k]) := hcc
      clear hcc
      have hc256 := c.toNat_lt
      have hq : 0 ≤ (c.toNat : Int) / 16 ∧ (c.toNat : Int) / 16 < 16 := by omega
      have hr : 0 ≤ (c.toNat : Int) % 16 ∧ (c.toNat : Int) % 16 < 16 := by omega
      have hand : bits BinOp.and .u8 (c.toNat : Int) 15 = (c.toNat : Int) % 16 := and_fin ⟨c.toNat, hc256⟩
      have e1 : ∀ h, (ByteArray.mk #[48, 49, 50, 51, 52, 53, 54, 55, 56, 57, 97, 98, 99, 100, 101, 102])[((c.toNat : Int) / 16).toNat]'h = hexd (c.toNat / 16) := fun h => dig_at _ _ (by omega) (by omega) h
      have e2 : ∀ h, (ByteArray.mk #[48, 49, 50, 51, 52, 53, 54, 55, 56, 57, 97, 98, 99, 100, 101, 102])[((c.toNat : Int) % 16).toNat]'h = hexd (c.toNat % 16) := fun h => dig_at _ _ (by omega) (by omega) h
      go_wp2_with fail
      go_region_law (first
        | (refine st23 rfl (.tmp 16) (.tmp 23) rfl w.heap.size (.slice ao (2 * k) cap) (2 * k) (u8s (hexF (bs.take k))) rfl ((own_below HR.out.1 (below_alloc _ _)).drew) (fun b => b = wr.heap.size) _ 2 (u8s [hexd (c.toNat / 16), hexd (c.toNat % 16)]) rfl (new_slice wr (u8s [hexd (c.toNat / 16), hexd (c.toNat % 16)]) 5 2 (by simp [u8s]) (by simp [maxLen, u8s])) rfl (u8s_one _) (by omega) (by simp; omega) ?_; intro ao2 cap2 w2 ho2 hg2 hm2)
        | fail)
      all_goals
        go_wp2
        go_roundw
        case rel =>
          refine ⟨k + 1, by omega, by go_num, ?_, ?_⟩
          · have e : u8s (hexF (bs.take (k + 1))) = u8s (hexF (bs.take k)) ++ u8s [hexd (c.toNat / 16), hexd (c.toNat % 16)] := by
              rw [List.take_succ_eq_append_getElem hlt, ← HC.out]
              simp [u8s, hexF]
            rw [e, show 2 * (k + 1) = 2 * k + 2 by omega]
            exact ho2
          · exact (HR.out.2.alloc (by omega) _).grown (grownBy_undrew hg2) (by simp; omega) (own_base HR.out.1)
        case measure => simp [intOf]; omega
    · have HE : Hid (bs.length = k) := by show bs.length = k; omega
      have hcv := conv_str (own_bytes HR.out.1 (by rw [List.take_of_length_le (by have := HE.out; omega), hexF_len]; have := HE.out; omega))
      go_wp2
      go_ret
      rw [List.take_of_length_le (by have := HE.out; omega)]
      exact ⟨rfl, HR.out.2⟩
end Go.Proofs.YtedhlbknbaggiaaGreatDoor
