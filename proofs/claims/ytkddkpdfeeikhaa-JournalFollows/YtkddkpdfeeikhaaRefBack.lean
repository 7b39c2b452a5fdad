/-
  tgref1.Back.
-/
import Derived.Test.YtkddkpdfeeikhaaJFollowsProofM19
namespace Go.Proofs.Ytkddkpdfeeikhaa
open Go.RowKit
set_option linter.unusedVariables false
set_option linter.unusedSimpArgs false

attribute [local go_sem ↓] Go.wp_at_zero Go.wp_at_succ

theorem given_not' {id turn : Int} {x : IT} (h : givenB id turn x = false) : ¬ x.id = id ∨ (x.id = id ∧ ¬ x.turn = turn) ∨ (x.id = id ∧ x.turn = turn ∧ x.out = false) := by
  rcases given_not h with e1 | ⟨e1, e2⟩ | ⟨e1, e2, e3⟩
  · exact .inl (by simpa using e1)
  · exact .inr (.inl ⟨by simpa using e1, by simpa using e2⟩)
  · exact .inr (.inr ⟨by simpa using e1, by simpa using e2, e3⟩)

set_option maxRecDepth 100000 in
set_option maxHeartbeats 3200000 in
theorem refBack_none (v : Value) (name : ByteArray) (limit id turn : Int) (its : List IT) (hlen : its.length ≤ 4194304) (hno : ∀ x ∈ its, givenB id turn x = false) (w : World) (hv : SliceI (Under w.heap.size) w v its) :
    Calls Try.prog 63 #[.agg #[.string name, .int .i64 limit, v], .int .i64 id, .int .i64 turn] w fun e w' => e = .returned (.tuple #[.agg #[.string ⟨#[]⟩, .int .i64 0, .slice none 0 0], .agg #[.int .i64 0, .int .i64 0, .int .i64 0, .bool false, .int .i64 0, .slice none 0 0, .slice none 0 0], .bool false, .int .i64 6]) ∧ Below w.heap.size w w' := by
  have HV : Hid (SliceI (Under w.heap.size) w v its) := hv
  have HNO : Hid (∀ x ∈ its, givenB id turn x = false) := hno
  obtain ⟨va, vc, rfl⟩ := hv.shp
  clear hv hno
  obtain ⟨X, hX⟩ : ∃ X, X = ((w.alloc (.cells #[.string name, .int .i64 limit, .slice va its.length vc] 76)).alloc (.cells #[.string ⟨#[]⟩, .int .i64 0, .slice none 0 0] 76)).alloc (.cells #[.int .i64 0, .int .i64 0, .int .i64 0, .bool false, .int .i64 0, .slice none 0 0, .slice none 0 0] 78) := ⟨_, rfl⟩
  have HX : Hid (X.heap.size = w.heap.size + 3 ∧ Below w.heap.size w X ∧ Blk X w.heap.size [.string name, .int .i64 limit, .slice va its.length vc] ∧ Blk X (w.heap.size + 1) [.string ⟨#[]⟩, .int .i64 0, .slice none 0 0] ∧ Blk X (w.heap.size + 1 + 1) [.int .i64 0, .int .i64 0, .int .i64 0, .bool false, .int .i64 0, .slice none 0 0, .slice none 0 0]) := by
    subst hX
    refine ⟨by simp, ((below_alloc _ _).alloc (by simp) _).alloc (by simp; omega) _, ((Blk.new _ _ _).alloc _).alloc _, ?_, ?_⟩
    · have := (Blk.new (w.alloc (.cells #[.string name, .int .i64 limit, .slice va its.length vc] 76)) [.string ⟨#[]⟩, .int .i64 0, .slice none 0 0] 76).alloc (.cells #[.int .i64 0, .int .i64 0, .int .i64 0, .bool false, .int .i64 0, .slice none 0 0, .slice none 0 0] 78)
      simpa using this
    · have := Blk.new ((w.alloc (.cells #[.string name, .int .i64 limit, .slice va its.length vc] 76)).alloc (.cells #[.string ⟨#[]⟩, .int .i64 0, .slice none 0 0] 76)) [.int .i64 0, .int .i64 0, .int .i64 0, .bool false, .int .i64 0, .slice none 0 0, .slice none 0 0] 78
      simpa using this
  go_enter Try.func63, Try.ntmps63
  go_wp2
  go_loopw [15] (fun x wr => ∃ k : Nat, k ≤ its.length ∧ x = .int .i64 k ∧ Below X.heap.size X wr) (fun x _ => its.length - (intOf x).toNat)
  case atStart => exact ⟨0, Nat.zero_le _, rfl, by rw [hX]; exact Below.refl _ _⟩
  case round =>
    obtain ⟨k, hk, rfl, hbr⟩ := hrel
    have hzr := hbr.size
    have hzx := HX.out.1
    clear hX
    have HB : Hid (Below w.heap.size w wr) := HX.out.2.1.trans (hbr.mono (by omega))
    by_cases hlt : k < its.length
    · have ho := HNO.out _ (List.getElem_mem hlt)
      obtain ⟨b, off, pa, pc, qa, qc, rfl, hS, hn, ⟨c0, c1, c2, c3⟩, c4, c5, c6⟩ := (SliceI.sub (T := Under w.heap.size) HV.out (fun x hx => ⟨hx, HB.out.block x hx⟩)).at k hlt
      clear hn
      rcases given_not' ho with e1 | ⟨e1, e2⟩ | ⟨e1, e2, e3⟩
      · go_wp2
        go_roundw
        case rel => exact ⟨k + 1, by omega, by go_num, hbr.trans ((below_alloc _ _).mono hzr)⟩
        case measure => simp [intOf]; omega
      · go_wp2
        go_roundw
        case rel => exact ⟨k + 1, by omega, by go_num, hbr.trans ((below_alloc _ _).mono hzr)⟩
        case measure => simp [intOf]; omega
      · rw [e3] at c3
        go_wp2
        go_roundw
        case rel => exact ⟨k + 1, by omega, by go_num, hbr.trans ((below_alloc _ _).mono hzr)⟩
        case measure => simp [intOf]; omega
    · obtain ⟨b0, b1, b2, b3, b4⟩ := (HX.out.2.2.2.1.below hbr (by omega)).b3
      obtain ⟨⟨d0, d1, d2, d3⟩, ⟨d4, d5, d6⟩, d7, d8⟩ := (HX.out.2.2.2.2.below hbr (by omega)).b7
      go_wp2
      refine bodyPost_ret (v := .tuple #[.agg #[.string ⟨#[]⟩, .int .i64 0, .slice none 0 0], .agg #[.int .i64 0, .int .i64 0, .int .i64 0, .bool false, .int .i64 0, .slice none 0 0, .slice none 0 0], .bool false, .int .i64 6]) (by simp [results, Try.results63, go_sem, *]; done) rfl ⟨rfl, ?_⟩
      iterate 10 refine Below.setCell ?_ (by simp <;> omega) _
      exact HB.out

end Go.Proofs.Ytkddkpdfeeikhaa
