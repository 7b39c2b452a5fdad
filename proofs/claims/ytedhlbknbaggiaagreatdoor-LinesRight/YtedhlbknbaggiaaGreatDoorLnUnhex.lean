/-
  lines.Unhex answers what unhexF says.
-/
import Derived.Test.YtedhlbknbaggiaaGreatDoorLnApp
import Derived.Test.YtedhlbknbaggiaaGreatDoorLnHex
import Derived.Test.YtedhlbknbaggiaaGreatDoorLnRightCardM16
import Derived.Laws.MakeOwn
namespace Go.Proofs.YtedhlbknbaggiaaGreatDoor
open Go.RowKit
set_option linter.unusedVariables false
set_option linter.unusedSimpArgs false

attribute [local go_sem ↓] Go.wp_at_zero Go.wp_at_succ

/-- The place of a digit. -/
def hexI (c : UInt8) : Int := ((hexv c).map Int.ofNat).getD (-1)
theorem hexI_fin : ∀ n : Fin 256, Go.Lib.indexByte hexL (UInt8.ofNat n.val) = hexI (UInt8.ofNat n.val) := by decide +kernel
theorem hexI_any (c : UInt8) (w : World) : Calls Tryz.prog 43 #[.string ⟨#[48, 49, 50, 51, 52, 53, 54, 55, 56, 57, 97, 98, 99, 100, 101, 102]⟩, .int .u8 (c.toNat : Int)] w fun e w' => e = .returned (.int .i64 (hexI c)) ∧ w' = w := by
  refine (Sh.strings_IndexByte _ _ w).mono fun e w' ⟨he, hw⟩ => ⟨?_, hw⟩
  rw [he]
  have h1 := hexI_fin ⟨c.toNat, c.toNat_lt⟩
  simp only [UInt8.ofNat_toNat] at h1
  have h2 : ((c.toNat : Int)).toNat.toUInt8 = c := by simp
  rw [h2]
  show Ending.returned (.int .i64 (Go.Lib.indexByte hexL c)) = _
  rw [h1]

theorem or_fin : ∀ x y : Fin 16, bits BinOp.or .i64 ((x.val : Int) * 16) (y.val : Int) = 16 * (x.val : Int) + y.val := by decide +kernel
theorem or_hex (x y : Nat) (hx : x < 16) (hy : y < 16) : Value.int .u8 (bits BinOp.or .i64 ((x : Int) * 16) (y : Int) % 256) = Value.int .u8 ((UInt8.ofNat (16 * x + y)).toNat : Int) := by
  have h := or_fin ⟨x, hx⟩ ⟨y, hy⟩
  simp only at h
  rw [h]
  congr 1

set_option maxRecDepth 100000 in
set_option maxHeartbeats 1600000 in
theorem unhex_any (s : ByteArray) (w : World) (hl : s.size ≤ 140737488355328) :
    Calls Tryz.prog 11 #[.string s] w fun e w' => (∃ v, e = .returned (.tuple #[v, .bool (unhexF s.data.toList).isSome]) ∧ w'.ownsRow w.heap.size 5 1 v ((unhexF s.data.toList).getD []).length (u8s ((unhexF s.data.toList).getD []))) ∧ Below w.heap.size w w' := by
  have hln := size_data s
  by_cases hodd : s.size % 2 = 0
  case neg =>
    have e : unhexF s.data.toList = none := unhex_odd _ (by omega)
    rw [e]
    go_enter Tryz.func11, Tryz.ntmps11
    have h1 : ((s.size : Int) % 2 != 0) = true := by simp; omega
    go_wp2
    go_ret2
    exact ⟨⟨_, rfl, World.ownsRow_nil _ _ _ _⟩, Below.refl _ _⟩
  · have h1 : ((s.size : Int) % 2 != 0) = false := by simp; omega
    obtain ⟨i, hi, hz, hsz, hby⟩ := info_of info5
    obtain ⟨w1, hmk, hown, hg⟩ := run_make_own (P := Tryz.prog) (w := w) w.heap.size 23 5 i _ 1 Tryz.underlying23 hi hz hsz .i64 .i64 (s.size / 2) (by rw [hby]; omega) (by unfold maxLen; omega) (Nat.le_refl _)
    have hmk' : (Instr.makeSlice 23 (.int .i64 0) (.int .i64 ((s.size : Int) / 2))).run Tryz.prog w = .ok (.slice (some ⟨w.heap.size, 0, none⟩) 0 (s.size / 2)) w1 := by
      have e : ((s.size / 2 : Nat) : Int) = (s.size : Int) / 2 := by omega
      rw [← e]
      exact hmk
    have H1 : Hid (Below w.heap.size w w1 ∧ w1.ownsRow w.heap.size 5 1 (.slice (some ⟨w.heap.size, 0, none⟩) 0 (s.size / 2)) 0 []) := ⟨⟨hg.os, hg.tape, hg.output, hg.size, fun b hb => hg.block b hb (by simp)⟩, hown⟩
    clear hmk hown hg hi hz hsz hby
    go_enter Tryz.func11, Tryz.ntmps11
    go_upto_region 5 with fail
    go_loopw [4, 5] (fun out i wr => ∃ k : Nat, 2 * k ≤ s.size ∧ i = .int .i64 ((2 * k : Nat) : Int) ∧ ∃ pre : List UInt8, unhexF (s.data.toList.take (2 * k)) = some pre ∧ pre.length = k ∧ wr.ownsRow w.heap.size 5 1 out k (u8s pre) ∧ Below w.heap.size w wr) (fun _ i _ => s.size - (intOf i).toNat)
    case atStart => exact ⟨0, by omega, rfl, [], by simp [unhexF], rfl, H1.out.2, H1.out.1⟩
    case round =>
      obtain ⟨k, hk, rfl, pre, hp, hpl, hown, hbel⟩ := hrel
      obtain ⟨ao, cap, rfl, g1, g2, g3⟩ := own_shape hown
      have HR : Hid (unhexF (s.data.toList.take (2 * k)) = some pre ∧ pre.length = k ∧ wr.ownsRow w.heap.size 5 1 (.slice ao k cap) k (u8s pre) ∧ Below w.heap.size w wr) := ⟨hp, hpl, hown, hbel⟩
      have hz := hbel.size
      clear hp hpl hown hbel g1 g2 g3 H1
      by_cases hlt : 2 * k < s.size
      · have hlt2 : 2 * k + 1 < s.size := by omega
        obtain ⟨a, ha⟩ : ∃ a, a = s[2 * k]'hlt := ⟨_, rfl⟩
        obtain ⟨b, hb⟩ : ∃ b, b = s[2 * k + 1]'hlt2 := ⟨_, rfl⟩
        have HS : Hid (unhexF (s.data.toList.take (2 * (k + 1))) = match hexv a, hexv b with | some h, some q => some (pre ++ [UInt8.ofNat (16 * h + q)]) | _, _ => none) := by
          have := unhex_step s.data.toList k pre HR.out.1 (by omega) (by omega) (by omega)
          rw [this, ha, hb]
          rfl
        have HL : Hid ((unhexF s.data.toList).getD [] = (unhexF s.data.toList).getD []) := rfl
        cases hxa : hexv a with
        | none =>
          have hneg : hexI (s[2 * k]'hlt) < 0 := by rw [← ha]; unfold hexI; rw [hxa]; decide
          have hnone : unhexF s.data.toList = none := unhex_stop _ (k + 1) (by rw [HS.out, hxa]) (by omega)
          have HN : Hid (unhexF s.data.toList = none) := hnone
          clear hnone ha hb
          go_wp2_with (first
            | (go_at_call 43; refine (hexI_any _ _).mono ?_; rintro e w' ⟨rfl, rfl⟩)
            | fail)
          go_ret2
          rw [HN.out]
          exact ⟨⟨_, rfl, World.ownsRow_nil _ _ _ _⟩, HR.out.2.2.2⟩
        | some x =>
          have hx16 := hexv_lt hxa
          have hpos : ¬ hexI (s[2 * k]'hlt) < 0 := by rw [← ha]; unfold hexI; rw [hxa]; simp
          cases hxb : hexv b with
          | none =>
            have hneg : hexI (s[2 * k + 1]'hlt2) < 0 := by rw [← hb]; unfold hexI; rw [hxb]; decide
            have hnone : unhexF s.data.toList = none := unhex_stop _ (k + 1) (by rw [HS.out, hxa, hxb]) (by omega)
            have HN : Hid (unhexF s.data.toList = none) := hnone
            clear hnone ha hb
            go_wp2_with (first
              | (go_at_call 43; refine (hexI_any _ _).mono ?_; rintro e w' ⟨rfl, rfl⟩)
              | fail)
            go_ret2
            rw [HN.out]
            exact ⟨⟨_, rfl, World.ownsRow_nil _ _ _ _⟩, HR.out.2.2.2⟩
          | some y =>
            have hy16 := hexv_lt hxb
            have hpos2 : ¬ hexI (s[2 * k + 1]'hlt2) < 0 := by rw [← hb]; unfold hexI; rw [hxb]; simp
            have P1 : Hid (∀ W : World, Calls Tryz.prog 43 #[.string ⟨#[48, 49, 50, 51, 52, 53, 54, 55, 56, 57, 97, 98, 99, 100, 101, 102]⟩, .int .u8 ((s[2 * k]'hlt).toNat : Int)] W fun e w' => e = .returned (.int .i64 (x : Int)) ∧ w' = W) := fun W => by
              have := hexI_any a W
              rw [ha] at this
              have e : hexI (s[2 * k]'hlt) = (x : Int) := by rw [← ha]; unfold hexI; rw [hxa]; rfl
              rw [e] at this
              exact this
            have P2 : Hid (∀ W : World, Calls Tryz.prog 43 #[.string ⟨#[48, 49, 50, 51, 52, 53, 54, 55, 56, 57, 97, 98, 99, 100, 101, 102]⟩, .int .u8 ((s[2 * k + 1]'hlt2).toNat : Int)] W fun e w' => e = .returned (.int .i64 (y : Int)) ∧ w' = W) := fun W => by
              have := hexI_any b W
              rw [hb] at this
              have e : hexI (s[2 * k + 1]'hlt2) = (y : Int) := by rw [← hb]; unfold hexI; rw [hxb]; rfl
              rw [e] at this
              exact this
            have hs2 : unhexF (s.data.toList.take (2 * (k + 1))) = some (pre ++ [UInt8.ofNat (16 * x + y)]) := by rw [HS.out, hxa, hxb]
            have HS2 : Hid (unhexF (s.data.toList.take (2 * (k + 1))) = some (pre ++ [UInt8.ofNat (16 * x + y)])) := hs2
            clear hs2
            clear ha hb hpos hpos2 hxa hxb HS
            go_wp2_with (first
              | (go_at_call 43; first | (refine (P1.out _).mono ?_; rintro e w' ⟨rfl, hw⟩; rw [hw]; clear hw w') | (refine (P2.out _).mono ?_; rintro e w' ⟨rfl, hw⟩; rw [hw]; clear hw w'))
              | (at_builtin; refine app23 rfl (.tmp 37) (.tmp 43) rfl w.heap.size (.slice ao k cap) k (u8s pre) rfl (own_below HR.out.2.2.1 (below_alloc _ _)) (fun b => b = wr.heap.size) _ 1 [.int .u8 (bits BinOp.or .i64 ((x : Int) * 16) (y : Int) % 256)] rfl (new_slice wr [.int .u8 (bits BinOp.or .i64 ((x : Int) * 16) (y : Int) % 256)] 5 1 (by simp) (by simp [maxLen])) rfl (by simp [Value.oneCell']) (by omega) (by simp; omega) ?_; intro ao2 cap2 w2 ho2 hg2 hm2)
              | fail)
            go_roundw
            case rel =>
              refine ⟨k + 1, by omega, by go_num, pre ++ [UInt8.ofNat (16 * x + y)], HS2.out, by simp [HR.out.2.1], ?_, ?_⟩
              · have e : u8s (pre ++ [UInt8.ofNat (16 * x + y)]) = u8s pre ++ [.int .u8 (bits BinOp.or .i64 ((x : Int) * 16) (y : Int) % 256)] := by rw [or_hex x y hx16 hy16]; simp [u8s]
                rw [e]
                exact ho2
              · exact (HR.out.2.2.2.alloc (by omega) _).grown hg2 (by simp; omega) (fun j hj => by
                  exact own_base HR.out.2.2.1 j hj)
            case measure => simp [intOf]; omega
      · have HE : Hid (s.size = 2 * k) := by show s.size = 2 * k; omega
        go_wp2
        go_ret2
        have e : unhexF s.data.toList = some pre := by
          have := HR.out.1
          rw [List.take_of_length_le (by have := HE.out; omega)] at this
          exact this
        rw [e]
        refine ⟨⟨_, rfl, ?_⟩, HR.out.2.2.2⟩
        simp only [Option.getD_some]
        rw [HR.out.2.1]
        exact HR.out.2.2.1
end Go.Proofs.YtedhlbknbaggiaaGreatDoor
