/-
  lines.SayBytes.
-/
import Derived.Test.YtedhlbknbaggiaaGreatDoorLnAsk2
import Derived.Deep.RegionLaw
namespace Go.Proofs.YtedhlbknbaggiaaGreatDoor
open Go.RowKit
set_option linter.unusedVariables false
set_option linter.unusedSimpArgs false

attribute [local go_sem ↓] Go.wp_at_zero Go.wp_at_succ

/-- An answer as words, and as a line. -/
def sayW (s : SD) : List (List UInt8) :=
  if s.kind = 1 then [[43, 111, 107]] else if s.kind = 2 then [43, 105, 116, 101, 109] :: Go.Lib.itoa s.n :: Go.Lib.itoa s.m :: noteW s.ps s.body
  else if s.kind = 3 then [[43, 110, 111, 110, 101]] else [45 :: Go.Lib.itoa s.err]
def sayLineF (s : SD) : List UInt8 := lineF (sayW s)

/-- A block of one string. -/
theorem one_str (w : World) (x : ByteArray) : SliceS (w.alloc (.cells #[.string x] 9)) (.slice (some ⟨w.heap.size, 0, none⟩) 1 1) [x.data.toList] := by
  have h := SliceV.sub (T := fun b => b < (w.alloc (.cells #[.string x] 9)).heap.size) (new_slice w [.string x] 9 1 (by simp) (by simp [maxLen])) fun b hb => ⟨by subst hb; simp, rfl⟩
  have e : strs [x.data.toList] = [.string x] := by simp [strs, bstr_back]
  unfold SliceS
  rw [e]
  exact h

theorem new_three (w : World) (x y z : ByteArray) : (w.alloc (.cells #[.string x, .string y, .string z] 9)).ownsRow w.heap.size 9 1 (.slice (some ⟨w.heap.size, 0, none⟩) 3 3) 3 [.string x, .string y, .string z] :=
  ⟨rfl, .inr ⟨w.heap.size, 3, _, rfl, Nat.le_refl _, heap_alloc_new w _, Nat.le_refl _, by simp [maxLen], rfl, rfl⟩⟩
theorem own_strs {W : World} {base n : Nat} {y : Value} {zs : List (List UInt8)} (h : W.ownsRow base 9 1 y n (strs zs)) (hn : n = zs.length) : SliceS W y zs := by
  subst hn
  exact SliceV.sub (own_slice h) fun b hb => ⟨(h.lt b hb).2, rfl⟩
theorem say_len (sn sm : Int) (ps : List PD) (body : List UInt8) (hl : ps.length ≤ 100) (hb : body.length ≤ 1000) (hf : ∀ p ∈ ps, p.fitsW) (hn : -9999999999 ≤ sn ∧ sn ≤ 9999999999) (hm : -9999999999 ≤ sm ∧ sm ≤ 9999999999) :
    (joinF ([43, 105, 116, 101, 109] :: Go.Lib.itoa sn :: Go.Lib.itoa sm :: noteW ps body)).length ≤ 1000000 ∧ ([43, 105, 116, 101, 109] :: Go.Lib.itoa sn :: Go.Lib.itoa sm :: noteW ps body).length ≤ 1000000 := by
  have h1 := (itoa_len sn hn).2
  have h2 := (itoa_len sm hm).2
  have hlen : ([43, 105, 116, 101, 109] :: Go.Lib.itoa sn :: Go.Lib.itoa sm :: noteW ps body).length ≤ 104 := by simp [noteW]; omega
  have hall : ∀ x ∈ ([43, 105, 116, 101, 109] :: Go.Lib.itoa sn :: Go.Lib.itoa sm :: noteW ps body), x.length ≤ 5000 := by
    intro x hx
    simp only [List.mem_cons] at hx
    rcases hx with rfl | rfl | rfl | hx
    · simp
    · omega
    · omega
    · unfold noteW at hx
      rw [List.mem_append, List.mem_map, List.mem_singleton] at hx
      rcases hx with ⟨p, hp, rfl⟩ | rfl
      · have := hf p hp
        have hv := value_len p this
        unfold wordF
        rw [List.length_append, List.length_cons, size_list]
        have := this.1
        omega
      · rw [List.length_cons, hexF_len]; omega
  have := join_len 32 _ 5000 hall
  unfold joinF
  have h3 := Nat.mul_le_mul_right 5001 hlen
  omega
theorem Blk.b6 {w : World} {b : Nat} {x0 x1 x2 x3 x4 x5 : Value} (h : Blk w b [x0, x1, x2, x3, x4, x5]) : (w.cell? ⟨b, 0, none⟩ = some x0 ∧ w.cell? ⟨b, 1, none⟩ = some x1 ∧ w.cell? ⟨b, 2, none⟩ = some x2 ∧ w.cell? ⟨b, 3, none⟩ = some x3 ∧ w.cell? ⟨b, 4, none⟩ = some x4 ∧ w.cell? ⟨b, 5, none⟩ = some x5) ∧ (∀ o, w.frozen? ⟨b, o, none⟩ = false) ∧ b < w.heap.size := ⟨⟨h.cell 0, h.cell 1, h.cell 2, h.cell 3, h.cell 4, h.cell 5⟩, h.f, h.lt⟩

set_option maxRecDepth 100000 in
set_option maxHeartbeats 1000000 in
theorem sayBytes_any (s : SD) (v u : Value) (w : World) (hv : SliceP w.heap.size w v s.ps) (hu : SliceB w.heap.size w u s.body) (hV : Vars w) (hl : s.ps.length ≤ 100) (hb : s.body.length ≤ 1000) (hf : ∀ p ∈ s.ps, p.fitsW) (hn : -9999999999 ≤ s.n ∧ s.n ≤ 9999999999) (hm : -9999999999 ≤ s.m ∧ s.m ≤ 9999999999) (he : 0 ≤ s.err ∧ s.err ≤ 255) (hk : 1 ≤ s.kind ∧ s.kind ≤ 4) :
    Calls Tryz.prog 23 #[.agg #[.int .i64 s.kind, .int .i64 s.n, .int .i64 s.m, .int .i64 s.err, v, u]] w fun e w' => (∃ x, e = .returned x ∧ SliceB w'.heap.size w' x (sayLineF s)) ∧ Below w.heap.size w w' := by
  obtain ⟨sk, sn, sm, se, ps, body⟩ := s
  simp only at hv hu hl hb hf hn hm he hk ⊢
  have HPB : Hid (SliceP w.heap.size w v ps ∧ SliceB w.heap.size w u body) := ⟨hv, hu⟩
  have HF : Hid (∀ p ∈ ps, p.fitsW) := hf
  have HV : Hid (Vars w) := hV
  obtain ⟨va, vc, rfl, -⟩ := hv
  obtain ⟨ua, uc, rfl, -⟩ := hu
  clear hV hf
  have PI : Hid (∀ (z : Int) (W : World), (-9999999999 ≤ z ∧ z ≤ 9999999999) → Below w.heap.size w W → Calls Tryz.prog 42 #[.int .i64 z] W fun e w' => e = .returned (.string (bstr (Go.Lib.itoa z))) ∧ Below W.heap.size W w') := fun z W hz hW => itoa_any z W (by omega) (by omega) (HV.out.on hW)
  have PL : Hid (∀ (W : World) (y : Value) (ws : List (List UInt8)), SliceS W y ws → ws ≠ [] → (joinF ws).length ≤ 1000000 → ws.length ≤ 1000000 → Calls Tryz.prog 49 #[y] W fun e w' => (∃ x, e = .returned x ∧ SliceB w'.heap.size w' x (lineF ws)) ∧ Below W.heap.size W w') := fun W y ws h1 h2 h3 h4 => line_any y ws W h1 h2 h3 h4
  have hA : Hid (∀ o o2 : Obj, Below w.heap.size w ((w.alloc o).alloc o2)) := fun o o2 => (below_alloc _ _).alloc (by simp) _
  by_cases k1 : sk = 1
  · subst k1
    have hs := one_str (w.alloc (.cells #[.int .i64 1, .int .i64 sn, .int .i64 sm, .int .i64 se, .slice va ps.length vc, .slice ua body.length uc] 30)) ⟨#[43, 111, 107]⟩
    simp only [World.size_alloc] at hs
    have HS : Hid _ := hs
    clear hs
    have e : sayLineF ⟨1, sn, sm, se, ps, body⟩ = lineF [[43, 111, 107]] := by simp [sayLineF, sayW]
    rw [e]
    clear e
    go_enter Tryz.func23, Tryz.ntmps23
    go_wp2_with (first
      | (go_at_call 49; refine (PL.out _ _ _ HS.out (by simp) (by simp [joinF, List.intercalate]) (by simp)).mono ?_; rintro e w3 ⟨⟨y, rfl, hy⟩, hb3⟩)
      | fail)
    go_ret
    exact ⟨⟨_, rfl, hy⟩, (hA.out _ _).trans (hb3.mono (hA.out _ _).size)⟩
  by_cases k3 : sk = 3
  · subst k3
    have hs := one_str (w.alloc (.cells #[.int .i64 3, .int .i64 sn, .int .i64 sm, .int .i64 se, .slice va ps.length vc, .slice ua body.length uc] 30)) ⟨#[43, 110, 111, 110, 101]⟩
    simp only [World.size_alloc] at hs
    have HS : Hid _ := hs
    clear hs
    have e : sayLineF ⟨3, sn, sm, se, ps, body⟩ = lineF [[43, 110, 111, 110, 101]] := by simp [sayLineF, sayW]
    rw [e]
    clear e
    go_enter Tryz.func23, Tryz.ntmps23
    go_wp2_with (first
      | (go_at_call 49; refine (PL.out _ _ _ HS.out (by simp) (by simp [joinF, List.intercalate]) (by simp)).mono ?_; rintro e w3 ⟨⟨y, rfl, hy⟩, hb3⟩)
      | fail)
    go_ret
    exact ⟨⟨_, rfl, hy⟩, (hA.out _ _).trans (hb3.mono (hA.out _ _).size)⟩
  by_cases k4 : sk = 4
  · subst k4
    have e : sayLineF ⟨4, sn, sm, se, ps, body⟩ = lineF [45 :: Go.Lib.itoa se] := by simp [sayLineF, sayW]
    rw [e]
    clear e
    have hi := (itoa_len se (by omega)).2
    have hsz : ¬ 9223372036854775807 < 1 + (bstr (Go.Lib.itoa se)).size := by rw [bstr_size]; omega
    go_enter Tryz.func23, Tryz.ntmps23
    go_wp2_with (first
      | (go_at_call 42; refine (PI.out se _ (by omega) (below_alloc _ _)).mono ?_; rintro e w2 ⟨rfl, hb2⟩)
      | (go_at_call 49; refine (PL.out _ _ _ (one_str _ (ByteArray.mk #[45] ++ bstr (Go.Lib.itoa se))) (by simp) (by rw [bstr_cat, bstr_data]; simp [joinF, List.intercalate]; omega) (by simp)).mono ?_; rintro e w3 ⟨⟨y, rfl, hy⟩, hb3⟩)
      | fail)
    go_ret
    rw [bstr_cat, bstr_data] at hy
    have h2 : Below w.heap.size w w2 := (below_alloc _ _).trans (hb2.mono (by simp))
    have h3 : Below w.heap.size w (w2.alloc (.cells #[.string (ByteArray.mk #[45] ++ bstr (Go.Lib.itoa se))] 9)) := h2.alloc h2.size _
    exact ⟨⟨_, rfl, hy⟩, h3.trans (hb3.mono h3.size)⟩
  · have k2 : sk = 2 := by omega
    subst k2
    have e : sayLineF ⟨2, sn, sm, se, ps, body⟩ = lineF ([43, 105, 116, 101, 109] :: Go.Lib.itoa sn :: Go.Lib.itoa sm :: noteW ps body) := by simp [sayLineF, sayW]
    rw [e]
    clear e
    have PN : Hid (∀ W : World, Below w.heap.size w W → Calls Tryz.prog 53 #[.agg #[.slice va ps.length vc, .slice ua body.length uc]] W fun e w' => (∃ x, e = .returned x ∧ w'.ownsRow W.heap.size 9 1 x (noteW ps body).length (strs (noteW ps body))) ∧ Below W.heap.size W w') := fun W hW =>
      noteWords_any _ _ ps body W (HPB.out.1.below hW) (HPB.out.2.below hW) (HV.out.on hW) (by omega) hb HF.out
    have HN : Hid (-9999999999 ≤ sn ∧ sn ≤ 9999999999) := hn
    have HM : Hid (-9999999999 ≤ sm ∧ sm ≤ 9999999999) := hm
    have HK : Hid (Blk (w.alloc (.cells #[.int .i64 2, .int .i64 sn, .int .i64 sm, .int .i64 se, .slice va ps.length vc, .slice ua body.length uc] 30)) w.heap.size [.int .i64 2, .int .i64 sn, .int .i64 sm, .int .i64 se, .slice va ps.length vc, .slice ua body.length uc]) := Blk.new w _ 30
    go_enter Tryz.func23, Tryz.ntmps23
    go_upto_region 5 with fail
    obtain ⟨X, hX⟩ : ∃ X, X = w.alloc (.cells #[.int .i64 2, .int .i64 sn, .int .i64 sm, .int .i64 se, .slice va ps.length vc, .slice ua body.length uc] 30) := ⟨_, rfl⟩
    rw [← hX] at HK ⊢
    have HB : Hid (Below w.heap.size w X) := by rw [hX]; exact below_alloc _ _
    have HX : Hid (Below X.heap.size X X) := Below.refl _ _
    clear hX
    obtain ⟨⟨c0, c1, c2, c3, c4, c5⟩, cf, cz⟩ := HK.out.b6
    go_region_law (first
      | (go_simp; go_at_call 42; refine (PI.out _ _ (by first | exact HN.out | exact HM.out) (by first | exact HB.out | exact HB.out.drew)).mono ?_; rintro e w2 ⟨rfl, hb2⟩; replace HB : Hid (Below w.heap.size w w2) := HB.out.trans (Below.mono ⟨hb2.os, hb2.tape, hb2.output, hb2.size, hb2.block⟩ HB.out.size); replace HK : Hid (Blk w2 w.heap.size [.int .i64 2, .int .i64 sn, .int .i64 sm, .int .i64 se, .slice va ps.length vc, .slice ua body.length uc]) := HK.out.below ⟨hb2.os, hb2.tape, hb2.output, hb2.size, hb2.block⟩ HK.out.lt; clear hb2 c0 c1 c2 c3 c4 c5 cf cz; obtain ⟨⟨c0, c1, c2, c3, c4, c5⟩, cf, cz⟩ := HK.out.b6)
      | fail)
    all_goals
      have h3 := new_three w2 ⟨#[43, 105, 116, 101, 109]⟩ (bstr (Go.Lib.itoa sn)) (bstr (Go.Lib.itoa sm))
      have HO : Hid _ := h3
      clear h3
      have HA2 : Hid (Below w.heap.size w (w2.alloc (.cells #[.string ⟨#[43, 105, 116, 101, 109]⟩, .string (bstr (Go.Lib.itoa sn)), .string (bstr (Go.Lib.itoa sm))] 9))) := HB.out.alloc HB.out.size _
      clear hk k1 k3 k4
      go_wp2_with (first
        | (go_at_call 53; refine (PN.out _ HA2.out).mono ?_; rintro e w3 ⟨⟨x, rfl, hx⟩, hb3⟩; obtain ⟨xa, xc, rfl, -⟩ := own_shape hx; have HB3 : Hid (Below w.heap.size w w3 ∧ w2.heap.size ≤ w3.heap.size) := ⟨HA2.out.trans (hb3.mono HA2.out.size), by have := hb3.size; simp at this; omega⟩; have HO3 : Hid _ := own_below HO.out hb3; have HX3 : Hid _ := own_slice hx; clear hb3 hx)
        | (at_builtin; refine app74 rfl (.tmp 19) (.tmp 22) rfl w2.heap.size _ _ _ rfl HO3.out _ _ (noteW ps body).length (strs (noteW ps body)) rfl HX3.out (strs_len _) (strs_one _) (by have : (noteW ps body).length ≤ 101 := (by simp [noteW]; omega); omega) HB3.out.2 ?_; intro ao cap w4 ho4 hg4 hm4; have HB4 : Hid (Below w.heap.size w w4) := grown_below HB3.out.1 hg4 HB3.out.1.size (fun j hj => by have h1 := own_base HO3.out j hj; have h2 := HB.out.size; omega); have HS4 : Hid (SliceS w4 (.slice ao (3 + (noteW ps body).length) cap) ([43, 105, 116, 101, 109] :: Go.Lib.itoa sn :: Go.Lib.itoa sm :: noteW ps body)) := own_strs (own_list ho4 (by simp [strs, bstr])) (by simp; omega); clear ho4 hg4 hm4)
        | (go_at_call 49; refine (PL.out _ _ _ HS4.out (by simp) (say_len _ _ _ _ hl hb HF.out HN.out HM.out).1 (say_len _ _ _ _ hl hb HF.out HN.out HM.out).2).mono ?_; rintro e w5 ⟨⟨y, rfl, hy⟩, hb5⟩)
        | fail)
      go_ret
      exact ⟨⟨_, rfl, hy⟩, HB4.out.trans (hb5.mono HB4.out.size)⟩
end Go.Proofs.YtedhlbknbaggiaaGreatDoor
