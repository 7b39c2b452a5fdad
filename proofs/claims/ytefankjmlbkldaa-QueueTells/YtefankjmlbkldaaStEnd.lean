/-
  tglaw3.QueueTells, its last loop: the numbers are the same, one by one.
-/
import Derived.Test.YtefankjmlbkldaaParts
import Derived.Test.YtefankjmlbkldaaTellsOut
namespace Go.Proofs.Ytefankjmlbkldaa
open Go.RowKit
set_option linter.unusedVariables false
set_option linter.unusedSimpArgs false
attribute [local go_sem ↓] Go.wp_at_zero Go.wp_at_succ

theorem ints_at {S : Nat → Prop} {w : World} {a : Option Addr} {n c : Nat} {l : List Int} (h : SliceV S w (.slice a n c) l.length (ints l)) (k : Nat) (hk : k < l.length) : ∃ b off, a = some ⟨b, off, none⟩ ∧ w.cell? ⟨b, off + k, none⟩ = some (.int .i64 l[k]) := by
  obtain ⟨a', c', e, -, -, -, h⟩ := h
  cases e
  obtain ⟨b, off, e, -, h⟩ := h k (by rw [ints_len]; exact hk)
  refine ⟨b, off, e, h.trans ?_⟩
  simp [ints]

set_option maxRecDepth 100000 in
set_option maxHeartbeats 4000000 in
theorem stEnd {w wc : World} {id turn now : Int} {A B : Nat} {gl : List Int} {ga ha : Option Addr} {gc hc : Nat} (HQ : Hid (Below w.heap.size w wc ∧ SliceV (Under wc.heap.size) wc (.slice ga gl.length gc) gl.length (ints gl) ∧ SliceV (Under wc.heap.size) wc (.slice ha gl.length hc) gl.length (ints gl))) {x0 x4 x6 x7 x8 x9 x10 x12 x14 x15 x16 x17 x18 x21 u22 u23 u24 u25 u26 u27 u28 u29 u30 u31 u32 u33 u34 u35 u36 u37 u38 u39 u40 u41 u42 u43 u44 u45 u46 u47 u48 u49 u50 u51 u52 u53 u54 u55 u56 u57 u58 u59 u60 u61 u62 u63 u64 u65 u66 u67 u68 u69 u70 u71 u72 u73 u74 u75 u76 u77 u78 u79 u80 u81 u82 u83 u84 u85 u86 u87 u88 u89 u90 u91 u92 u93 u94 u95 u96 u97 u98 u99 u100 u101 u102 u103 u104 u105 u106 u107 u108 u109 u110 u111 u112 u113 u114 u115 u116 u117 u118 u119 u120 u121 u122 u123 u124 u125 u126 u127 u128 u129 u130 u131 u132 u133 u134 u135 u136 u137 u138 u139 u140 u141 u142 u143 u144 u145 u146 u147 u148 u149 u150 u151 u152 u153 u154 u155 u156 u157 u158 u159 u160 u161 u162 u163 u164 u165 u166 u167 u168 u169 u170 u171 u172 u173 u174 u175 u176 u177 u178 u179 u180 u181 u182 u183 u184 u185 u186 u187 u188 u189 u190 u191 u192 u193 u194 u195 u196 u197 u198 u199 u200 u201 u202 u203 u204 u205 u206 u207 u208 u209 u210 u211 u212 u213 u214 u215 u216 : Value} :
    ∀ c, restAt 20 Try.f8 = some c → Code.wp Try.prog c (bodyPost Try.prog Try.f8 fun e w' => e = Ending.returned (.bool true) ∧ Below w.heap.size w w') ⟨(x0 :: .int .i64 id :: .int .i64 turn :: .int .i64 now :: x4 :: .pointer (some ⟨w.heap.size, 0, none⟩) :: x6 :: x7 :: x8 :: x9 :: x10 :: .pointer (some ⟨A, 0, none⟩) :: x12 :: .pointer (some ⟨B, 0, none⟩) :: x14 :: x15 :: x16 :: x17 :: x18 :: .slice ga gl.length gc :: .slice ha gl.length hc :: x21 :: u22 :: u23 :: u24 :: u25 :: u26 :: u27 :: u28 :: u29 :: u30 :: u31 :: u32 :: u33 :: u34 :: u35 :: u36 :: u37 :: u38 :: u39 :: u40 :: u41 :: u42 :: u43 :: u44 :: u45 :: u46 :: u47 :: u48 :: u49 :: u50 :: u51 :: u52 :: u53 :: u54 :: u55 :: u56 :: u57 :: u58 :: u59 :: u60 :: u61 :: u62 :: u63 :: u64 :: u65 :: u66 :: u67 :: u68 :: u69 :: u70 :: u71 :: u72 :: u73 :: u74 :: u75 :: u76 :: u77 :: u78 :: u79 :: u80 :: u81 :: u82 :: u83 :: u84 :: u85 :: u86 :: u87 :: u88 :: u89 :: u90 :: u91 :: u92 :: u93 :: u94 :: u95 :: u96 :: u97 :: u98 :: u99 :: u100 :: u101 :: u102 :: u103 :: u104 :: u105 :: u106 :: u107 :: u108 :: u109 :: u110 :: u111 :: u112 :: u113 :: u114 :: u115 :: u116 :: u117 :: u118 :: u119 :: u120 :: u121 :: u122 :: u123 :: u124 :: u125 :: u126 :: u127 :: u128 :: u129 :: u130 :: u131 :: u132 :: u133 :: u134 :: u135 :: u136 :: u137 :: u138 :: u139 :: u140 :: u141 :: u142 :: u143 :: u144 :: u145 :: u146 :: u147 :: u148 :: u149 :: u150 :: u151 :: u152 :: u153 :: u154 :: u155 :: u156 :: u157 :: u158 :: u159 :: u160 :: u161 :: u162 :: u163 :: u164 :: u165 :: u166 :: u167 :: u168 :: u169 :: u170 :: u171 :: u172 :: u173 :: u174 :: u175 :: u176 :: u177 :: u178 :: u179 :: u180 :: u181 :: u182 :: u183 :: u184 :: u185 :: u186 :: u187 :: u188 :: u189 :: u190 :: u191 :: u192 :: u193 :: u194 :: u195 :: u196 :: u197 :: u198 :: u199 :: u200 :: u201 :: u202 :: u203 :: u204 :: u205 :: u206 :: u207 :: u208 :: u209 :: u210 :: u211 :: u212 :: u213 :: u214 :: u215 :: u216 :: []).toArray, []⟩ wc := by
  refine all_of rfl ?_
  have hN : gl.length ≤ 9223372036854775807 := by
    obtain ⟨_, _, e, m1, m2, -⟩ := SliceV.shape HQ.out.2.1
    unfold maxLen at m2
    omega
  have HU : Hid (∀ k (hk : k < gl.length), (∃ b off, ga = some ⟨b, off, none⟩ ∧ wc.cell? ⟨b, off + k, none⟩ = some (.int .i64 gl[k])) ∧ (∃ b off, ha = some ⟨b, off, none⟩ ∧ wc.cell? ⟨b, off + k, none⟩ = some (.int .i64 gl[k]))) := fun k hk => ⟨ints_at HQ.out.2.1 k hk, ints_at HQ.out.2.2 k hk⟩
  have HBW : Hid (Below w.heap.size w wc) := HQ.out.1
  clear HQ
  go_wp2_with fail
  go_loopw [204] (fun i wr => ∃ k : Nat, k ≤ gl.length ∧ i = .int .i64 k ∧ ∃ n, wr = wc.drewN n) (fun i _ => gl.length - (intOf i).toNat)
  case atStart => exact ⟨0, Nat.zero_le _, rfl, 0, rfl⟩
  case round =>
    obtain ⟨k, hk, rfl, nd, rfl⟩ := hrel
    by_cases hlt : k < gl.length
    · obtain ⟨⟨b1, o1, e1, c1⟩, b2, o2, e2, c2⟩ := HU.out k hlt
      subst e1 e2
      obtain ⟨g, hg⟩ : ∃ g, g = gl[k] := ⟨_, rfl⟩
      rw [← hg] at c1 c2
      clear hg HU
      have hk1 : (k : Int) < (gl.length : Int) := by omega
      have hne : (g != g) = false := by simp
      go_wp2_with fail
      go_quiet (fail)
      go_wp2
      go_roundw
      case rel => exact ⟨k + 1, by omega, by go_num, ⟨_, rfl⟩⟩
      case measure => simp [intOf]; omega
    · go_wp2
      go_ret
      exact ⟨rfl, below_drewN HBW.out _⟩
end Go.Proofs.Ytefankjmlbkldaa
