/-
  The reader of lines: inside, Split.
-/
import Derived.Test.YtedhlbknbaggiaaGreatDoorLnSayOf
import Derived.Test.YtedhlbknbaggiaaGreatDoorLnSplit
import Derived.Lib.SlBytesRow
namespace Go.Proofs.YtedhlbknbaggiaaGreatDoor
open Go.RowKit
set_option linter.unusedVariables false
set_option linter.unusedSimpArgs false

attribute [local go_sem ↓] Go.wp_at_zero Go.wp_at_succ

/-- What stands ahead of the first line feed, and what is told where there is none. -/
def insideL (bs : List UInt8) : List UInt8 × Int :=
  if 0 ≤ Go.Lib.indexByte (bs.take 400) 10 then (bs.take (Go.Lib.indexByte (bs.take 400) 10).toNat, 0)
  else if bs.length < 400 then ([], 9) else ([], 4)

theorem index_lt : ∀ (l : List UInt8) (c : UInt8), Go.Lib.indexByte l c < l.length
  | [], _ => by simp [Go.Lib.indexByte]
  | b :: l, c => by
    have := index_lt l c
    rw [Go.Lib.indexByte]
    simp only [List.length_cons]
    split
    · omega
    · split <;> omega

set_option maxRecDepth 100000 in
set_option maxHeartbeats 600000 in
theorem inside_any (v : Value) (bs : List UInt8) (w : World) (hv : SliceB w.heap.size w v bs) :
    Calls Tryz.prog 85 #[v] w fun e w' => e = .returned (.tuple #[.string (bstr (insideL bs).1), .int .i64 (insideL bs).2]) ∧ w' = w := by
  have HB : Hid (SliceB w.heap.size w v bs) := hv
  obtain ⟨a, cap, rfl, l1, l2, l3, l4⟩ := hv
  have IB : Hid (∀ n : Nat, n ≤ bs.length → Calls Tryz.prog 118 #[.slice a n cap, .int .u8 10] w fun e w' => e = .returned (.int .i64 (Go.Lib.indexByte (bs.take n) 10)) ∧ w' = w) := fun n hn => by
    cases a with
    | none =>
      have hc := l3 rfl
      have hb : bs = [] := List.eq_nil_of_length_eq_zero (by omega)
      subst hb
      have : n = 0 := by simpa using hn
      subst this
      rw [hc]
      exact Sh.bytes_IndexByte_nil 10 w
    | some ad =>
      by_cases h0 : n = 0
      · subst h0
        obtain ⟨b, off, fld⟩ := ad
        have := Sh.bytes_IndexByte_at ⟨b, off, fld⟩ 0 cap [] 10 w rfl (fun i hi => by omega)
        exact this
      · obtain ⟨b, off, e, -, -⟩ := l4 0 (by omega)
        obtain rfl : ad = ⟨b, off, none⟩ := by injection e
        have hz : (bstr (bs.take n)).size = n := by rw [bstr_size, List.length_take]; omega
        have := Sh.bytes_IndexByte_bytes b off cap (bstr (bs.take n)) 10 w (fun i hi => by
          have hi2 : i < n := by omega
          obtain ⟨b', off', e, -, hc⟩ := l4 i (by omega)
          simp only [Option.some.injEq, Addr.mk.injEq, and_true] at e
          obtain ⟨rfl, rfl⟩ := e
          rw [hc]
          simp [bstr, ByteArray.getElem_eq_getElem_data])
        rw [hz, bstr_data] at this
        exact this
  have CV : Hid (∀ n : Nat, n ≤ bs.length → (convert 23 9 (.slice a n cap)).run Tryz.prog w = .ok (.string (bstr (bs.take n))) w) := fun n hn => by
    refine conv_str (B := w.heap.size) ⟨a, cap, by rw [List.length_take, Nat.min_eq_left hn], by rw [List.length_take]; omega, l2, l3, fun i hi => ?_⟩
    rw [List.length_take] at hi
    obtain ⟨b, off, e, h1, h2⟩ := l4 i (by omega)
    exact ⟨b, off, e, h1, by rw [h2, List.getElem_take]⟩
  clear l3 l4
  unfold maxLen at l2
  unfold insideL
  have HL : Hid (400 ≤ bs.length ∨ bs.length < 400) := by 
    rcases Nat.lt_or_ge bs.length 400 with h | h
    · exact .inr h
    · exact .inl h
  obtain ⟨n, hn, hm, et⟩ : ∃ n : Nat, n ≤ bs.length ∧ (min (bs.length : Int) 400).toNat = n ∧ bs.take 400 = bs.take n := by
    rcases Nat.lt_or_ge bs.length 400 with h | h
    · exact ⟨bs.length, Nat.le_refl _, by omega, by rw [List.take_of_length_le (by omega), List.take_length]⟩
    · exact ⟨400, h, by omega, rfl⟩
  have hI := IB.out n hn
  rw [et]
  have hge := Go.Lib.indexByte_ge (bs.take n) 10
  have hlt2 := index_lt (bs.take n) 10
  rw [List.length_take, Nat.min_eq_left hn] at hlt2
  generalize Go.Lib.indexByte (bs.take n) 10 = ix at hI hge hlt2 ⊢
  have HI := hid hI
  clear hI et
  by_cases h0 : 0 ≤ ix
  · obtain ⟨k, rfl⟩ : ∃ k : Nat, ix = k := ⟨ix.toNat, by omega⟩
    have hC := CV.out k (by omega)
    rw [if_pos h0, Int.toNat_natCast]
    go_enter Tryz.func85, Tryz.ntmps85
    go_wp2_with (first
      | (go_at_call 118; (try rw [hm]); refine HI.out.mono ?_; rintro e w' ⟨rfl, hw⟩; rw [hw]; clear hw w')
      | fail)
    go_ret2
    exact ⟨rfl, rfl⟩
  · obtain rfl : ix = -1 := by omega
    rw [if_neg h0]
    rcases HL.out with h4 | h4
    · rw [if_neg (by omega)]
      go_enter Tryz.func85, Tryz.ntmps85
      go_wp2_with (first
        | (go_at_call 118; (try rw [hm]); refine HI.out.mono ?_; rintro e w' ⟨rfl, hw⟩; rw [hw]; clear hw w')
        | fail)
      go_ret2
      exact ⟨rfl, rfl⟩
    · rw [if_pos h4]
      go_enter Tryz.func85, Tryz.ntmps85
      go_wp2_with (first
        | (go_at_call 118; (try rw [hm]); refine HI.out.mono ?_; rintro e w' ⟨rfl, hw⟩; rw [hw]; clear hw w')
        | fail)
      go_ret2
      exact ⟨rfl, rfl⟩

theorem count_list (c : UInt8) : ∀ l : List UInt8, Go.Lib.count l [c] = l.count c
  | [] => rfl
  | b :: l => by
    by_cases h : b = c
    · subst h
      rw [Go.Lib.count_cons_eq, count_list, List.count_cons_self]; omega
    · rw [Go.Lib.count_cons_ne b c l h, count_list, List.count_cons_of_ne h]

/-- strings.Split at a blank. -/
theorem split_any (l : List UInt8) (w : World) (hl : l.length ≤ 1000000) (hv : Vars w) :
    Calls Tryz.prog 86 #[.string (bstr l), .string ⟨#[32]⟩] w fun e w' => (∃ v, e = .returned v ∧ SliceV (fun b => b = w.heap.size) w' v (splitC 32 l).length (strs (splitC 32 l))) ∧ w'.heap.size = w.heap.size + 1 ∧ Below w.heap.size w w' := by
  obtain ⟨m, hm⟩ := hv.maxl
  refine (Sh.strings_Split (bstr l) ⟨#[32]⟩ m w (by rw [bstr_size]; omega) hm (Nat.le_refl _)).mono ?_
  rintro e w' ⟨rfl, rfl⟩
  have hd : (Go.Lib.splitB ⟨#[32]⟩ 0 (Go.Lib.countB (bstr l) ⟨#[32]⟩) (bstr l)).map (·.data.toList) = splitC 32 l := by
    rw [Go.Lib.splitB_data]
    show Go.Lib.splitK [32] 0 (Go.Lib.count (bstr l).data.toList [32]) (bstr l).data.toList = _
    rw [bstr_data]
    exact split_one 32 l
  have hs : (Go.Lib.splitB ⟨#[32]⟩ 0 (Go.Lib.countB (bstr l) ⟨#[32]⟩) (bstr l)).map Value.string = strs (splitC 32 l) := by
    rw [← hd]
    unfold strs
    rw [List.map_map]
    refine List.map_congr_left fun b _ => ?_
    simp [bstr_back]
  have hlen : Go.Lib.countB (bstr l) ⟨#[32]⟩ + 1 = (splitC 32 l).length := by
    rw [splitC_length]
    show Go.Lib.count (bstr l).data.toList [32] + 1 = _
    rw [bstr_data, count_list]
  rw [hs, hlen]
  refine ⟨⟨_, rfl, ?_⟩, by simp, below_alloc _ _⟩
  have hle : (splitC 32 l).length ≤ 1000001 := by rw [splitC_length]; have := List.count_le_length (a := (32 : UInt8)) (l := l); omega
  exact new_slice w (strs (splitC 32 l)) 9 _ (by rw [strs_len]; exact Nat.le_refl _) (by rw [strs_len]; unfold maxLen; omega)
end Go.Proofs.YtedhlbknbaggiaaGreatDoor
