/-
  (lines.shape).words, lines.AskBytes.
-/
import Derived.Test.YtedhlbknbaggiaaGreatDoorLnLine
import Derived.Deep.DeepCutAuto
namespace Go.Proofs.YtedhlbknbaggiaaGreatDoor
open Go.RowKit
set_option linter.unusedVariables false
set_option linter.unusedSimpArgs false

attribute [local go_sem ↓] Go.wp_at_zero Go.wp_at_succ

/-- The words of an ask of a shape. -/
def shapeW (s : ShD) (a : AD) : List (List UInt8) :=
  s.word.data.toList :: ((if s.queue then [a.queue.data.toList] else []) ++ ((if s.number then [Go.Lib.itoa a.n] else []) ++ (if s.note then noteW a.ps a.body else [])))

theorem new_str (w : World) (base : Nat) (x : ByteArray) (h : base ≤ w.heap.size) : (w.alloc (.cells #[.string x] 9)).ownsRow base 9 1 (.slice (some ⟨w.heap.size, 0, none⟩) 1 1) 1 [.string x] :=
  ⟨rfl, .inr ⟨w.heap.size, 1, _, rfl, h, heap_alloc_new w _, Nat.le_refl _, by simp [maxLen], rfl, rfl⟩⟩
theorem Blk.b5 {w : World} {b : Nat} {x0 x1 x2 x3 x4 : Value} (h : Blk w b [x0, x1, x2, x3, x4]) : (w.cell? ⟨b, 0, none⟩ = some x0 ∧ w.cell? ⟨b, 1, none⟩ = some x1 ∧ w.cell? ⟨b, 2, none⟩ = some x2 ∧ w.cell? ⟨b, 3, none⟩ = some x3 ∧ w.cell? ⟨b, 4, none⟩ = some x4) ∧ (∀ o, w.frozen? ⟨b, o, none⟩ = false) ∧ b < w.heap.size := ⟨⟨h.cell 0, h.cell 1, h.cell 2, h.cell 3, h.cell 4⟩, h.f, h.lt⟩
theorem bstr_back (s : ByteArray) : bstr s.data.toList = s := by
  obtain ⟨⟨x⟩⟩ := s; rfl
theorem own_list {w : World} {base : Nat} {e : TypeId} {size : Nat} {v : Value} {n : Nat} {xs ys : List Value} (h : w.ownsRow base e size v n xs) (he : xs = ys) : w.ownsRow base e size v n ys := he ▸ h
theorem grown_below {B : Nat} {X w1 w2 : World} {row : Option Nat} (h : Below B X w1) (hg : w1.grownBy w2 row) (hB : B ≤ w1.heap.size) (hr : ∀ k, row = some k → B ≤ k) : Below B X w2 := h.grown hg hB hr

set_option maxRecDepth 100000 in
set_option maxHeartbeats 6400000 in
theorem words_any (s : ShD) (a : AD) (v u : Value) (w : World) (hv : SliceP w.heap.size w v a.ps) (hu : SliceB w.heap.size w u a.body) (hV : Vars w) (hl : a.ps.length ≤ 1000) (hb : a.body.length ≤ 1000) (hf : ∀ p ∈ a.ps, p.fitsW) (hn : -9999999999 ≤ a.n ∧ a.n ≤ 9999999999) :
    Calls Tryz.prog 50 #[.agg #[.int .i64 s.kind, .string s.word, .bool s.queue, .bool s.number, .bool s.note], .agg #[.int .i64 a.kind, .string a.queue, .int .i64 a.n, v, u]] w fun e w' => (∃ x, e = .returned x ∧ SliceS w' x (shapeW s a)) ∧ Below w.heap.size w w' := by
  obtain ⟨sk, sw, sq, sn, so⟩ := s
  obtain ⟨ak, aq, an, ps, body⟩ := a
  simp only at hv hu hl hb hf hn ⊢
  have HPB : Hid (SliceP w.heap.size w v ps ∧ SliceB w.heap.size w u body) := ⟨hv, hu⟩
  have HV : Hid (Vars w) := hV
  have HF : Hid (∀ p ∈ ps, p.fitsW) := hf
  obtain ⟨va, vc, rfl, -⟩ := hv
  obtain ⟨ua, uc, rfl, -⟩ := hu
  clear hV hf
  obtain ⟨X, hX⟩ : ∃ X, X = (w.alloc (.cells #[.int .i64 sk, .string sw, .bool sq, .bool sn, .bool so] 71)).alloc (.cells #[.int .i64 ak, .string aq, .int .i64 an, .slice va ps.length vc, .slice ua body.length uc] 27) := ⟨_, rfl⟩
  have K : Hid (∀ W, Below X.heap.size X W → (Blk W w.heap.size [.int .i64 sk, .string sw, .bool sq, .bool sn, .bool so] ∧ Blk W (w.heap.size + 1) [.int .i64 ak, .string aq, .int .i64 an, .slice va ps.length vc, .slice ua body.length uc]) ∧ Below w.heap.size w W ∧ X.heap.size ≤ W.heap.size) := by
    show ∀ W : World, _
    intro W hW
    have hB : Below w.heap.size w X := by rw [hX]; exact (below_alloc _ _).alloc (by simp) _
    have k1 : Blk X w.heap.size [.int .i64 sk, .string sw, .bool sq, .bool sn, .bool so] := by rw [hX]; exact (Blk.new _ _ _).alloc _
    have k2 : Blk X (w.heap.size + 1) [.int .i64 ak, .string aq, .int .i64 an, .slice va ps.length vc, .slice ua body.length uc] := by
      rw [hX]
      have := Blk.new (w.alloc (.cells #[.int .i64 sk, .string sw, .bool sq, .bool sn, .bool so] 71)) [.int .i64 ak, .string aq, .int .i64 an, .slice va ps.length vc, .slice ua body.length uc] 27
      simpa using this
    exact ⟨⟨k1.below hW k1.lt, k2.below hW k2.lt⟩, hB.trans (hW.mono hB.size), hW.size⟩
  have PI : Hid (∀ W : World, Below w.heap.size w W → Calls Tryz.prog 42 #[.int .i64 an] W fun e w' => e = .returned (.string (bstr (Go.Lib.itoa an))) ∧ Below W.heap.size W w') := fun W hW => itoa_any an W (by omega) (by omega) (HV.out.on hW)
  have PN : Hid (∀ W : World, Below w.heap.size w W → Calls Tryz.prog 53 #[.agg #[.slice va ps.length vc, .slice ua body.length uc]] W fun e w' => (∃ x, e = .returned x ∧ w'.ownsRow W.heap.size 9 1 x (noteW ps body).length (strs (noteW ps body))) ∧ Below W.heap.size W w') := fun W hW =>
    noteWords_any _ _ ps body W (HPB.out.1.below hW) (HPB.out.2.below hW) (HV.out.on hW) hl hb HF.out
  have hnl : (noteW ps body).length ≤ 1001 := by simp [noteW]; omega
  have fin : Hid (∀ (W : World) (y : Value) (n : Nat) (zs : List (List UInt8)), n = zs.length → W.ownsRow X.heap.size 9 1 y n (strs zs) → SliceS W y zs) := fun W y n zs hn h => by
    subst hn
    exact SliceV.sub (own_slice h) fun b hb => ⟨(h.lt b hb).2, rfl⟩
  go_enter Tryz.func50, Tryz.ntmps50
  go_upto_region 1 with fail
  rw [← hX]
  clear hX
  have HB : Hid (Below X.heap.size X (X.alloc (.cells #[.string sw] 9))) := below_alloc _ _
  obtain ⟨⟨⟨c0, c1, c2, c3, c4⟩, cf, cz⟩, ⟨⟨d0, d1, d2, d3, d4⟩, df, dz⟩⟩ := And.intro (K.out X (Below.refl _ _)).1.1.b5 (K.out X (Below.refl _ _)).1.2.b5
  have ho := new_str X X.heap.size sw (Nat.le_refl _)
  go_upto_region 2 with fail
  obtain ⟨Y, hY⟩ : ∃ Y, Y = X.alloc (.cells #[.string sw] 9) := ⟨_, rfl⟩
  rw [← hY] at ho HB ⊢
  have HO : Hid (Y.ownsRow X.heap.size 9 1 (.slice (some ⟨X.heap.size, 0, none⟩) 1 1) 1 [.string sw]) := ho
  clear hY ho c0 c1 c2 c3 c4 cf cz d0 d1 d2 d3 d4 df dz
  obtain ⟨⟨⟨c0, c1, c2, c3, c4⟩, cf, cz⟩, ⟨⟨d0, d1, d2, d3, d4⟩, df, dz⟩⟩ := And.intro (K.out Y HB.out).1.1.b5 (K.out Y HB.out).1.2.b5
  have n1 : Hid True := trivial
  have n2 : Hid True := trivial
  have n3 : Hid True := trivial
  cases sq <;> cases sn <;> cases so
  all_goals
    go_wp2_with (first
      | (clear n1; at_builtin; refine app74 rfl (.tmp 11) (.tmp 14) rfl X.heap.size _ _ _ rfl (own_below HO.out (below_alloc _ _)) _ _ 1 [.string aq] rfl (new_slice _ [.string aq] 9 1 (by simp) (by simp [maxLen])) rfl (by simp [Value.oneCell']) (by omega) (by have := HB.out.size; simp; omega) ?_; intro ao cap W2 ho hg hm; replace HB : Hid (Below X.heap.size X W2) := grown_below (HB.out.alloc HB.out.size _) hg (by have := HB.out.size; simp; omega) (own_base HO.out); replace HO : Hid _ := ho; clear ho hg hm; clear c0 c1 c2 c3 c4 cf cz d0 d1 d2 d3 d4 df dz; obtain ⟨⟨⟨c0, c1, c2, c3, c4⟩, cf, cz⟩, ⟨⟨d0, d1, d2, d3, d4⟩, df, dz⟩⟩ := And.intro (K.out _ HB.out).1.1.b5 (K.out _ HB.out).1.2.b5)
      | (go_at_call 42; refine (PI.out _ (K.out _ HB.out).2.1).mono ?_; rintro e W2 ⟨rfl, hb2⟩; replace HO : Hid _ := own_below HO.out hb2; replace HB : Hid (Below X.heap.size X W2) := HB.out.trans (hb2.mono HB.out.size); clear hb2; clear c0 c1 c2 c3 c4 cf cz d0 d1 d2 d3 d4 df dz; obtain ⟨⟨⟨c0, c1, c2, c3, c4⟩, cf, cz⟩, ⟨⟨d0, d1, d2, d3, d4⟩, df, dz⟩⟩ := And.intro (K.out _ HB.out).1.1.b5 (K.out _ HB.out).1.2.b5)
      | (clear n2; at_builtin; refine app74 rfl (.tmp 18) (.tmp 22) rfl X.heap.size _ _ _ rfl (own_below HO.out (below_alloc _ _)) _ _ 1 [.string (bstr (Go.Lib.itoa an))] rfl (new_slice _ [.string (bstr (Go.Lib.itoa an))] 9 1 (by simp) (by simp [maxLen])) rfl (by simp [Value.oneCell']) (by omega) (by have := HB.out.size; simp; omega) ?_; intro ao cap W2 ho hg hm; replace HB : Hid (Below X.heap.size X W2) := grown_below (HB.out.alloc HB.out.size _) hg (by have := HB.out.size; simp; omega) (own_base HO.out); replace HO : Hid _ := ho; clear ho hg hm; clear c0 c1 c2 c3 c4 cf cz d0 d1 d2 d3 d4 df dz; obtain ⟨⟨⟨c0, c1, c2, c3, c4⟩, cf, cz⟩, ⟨⟨d0, d1, d2, d3, d4⟩, df, dz⟩⟩ := And.intro (K.out _ HB.out).1.1.b5 (K.out _ HB.out).1.2.b5)
      | (go_at_call 53; refine (PN.out _ (K.out _ HB.out).2.1).mono ?_; rintro e W2 ⟨⟨x, rfl, hx⟩, hb2⟩; obtain ⟨xa, xc, rfl, -⟩ := own_shape hx; replace HO : Hid _ := own_below HO.out hb2; replace HB : Hid (Below X.heap.size X W2) := HB.out.trans (hb2.mono HB.out.size); have HX : Hid _ := own_slice hx; clear hb2 hx; clear c0 c1 c2 c3 c4 cf cz d0 d1 d2 d3 d4 df dz; obtain ⟨⟨⟨c0, c1, c2, c3, c4⟩, cf, cz⟩, ⟨⟨d0, d1, d2, d3, d4⟩, df, dz⟩⟩ := And.intro (K.out _ HB.out).1.1.b5 (K.out _ HB.out).1.2.b5)
      | (clear n3; at_builtin; refine app74 rfl (.tmp 26) (.tmp 29) rfl X.heap.size _ _ _ rfl HO.out _ _ (noteW ps body).length (strs (noteW ps body)) rfl HX.out (strs_len _) (strs_one _) (by omega) HB.out.size ?_; intro ao cap W2 ho hg hm; replace HB : Hid (Below X.heap.size X W2) := grown_below HB.out hg HB.out.size (own_base HO.out); replace HO : Hid _ := ho; clear ho hg hm; clear c0 c1 c2 c3 c4 cf cz d0 d1 d2 d3 d4 df dz; obtain ⟨⟨⟨c0, c1, c2, c3, c4⟩, cf, cz⟩, ⟨⟨d0, d1, d2, d3, d4⟩, df, dz⟩⟩ := And.intro (K.out _ HB.out).1.1.b5 (K.out _ HB.out).1.2.b5)
      | fail)
  all_goals
    go_ret
    refine ⟨⟨_, rfl, fin.out _ _ _ _ ?_ (own_list HO.out ?_)⟩, (K.out _ HB.out).2.1⟩
    · simp [shapeW]
      try omega
    · simp [shapeW, strs, bstr_back]
end Go.Proofs.YtedhlbknbaggiaaGreatDoor
