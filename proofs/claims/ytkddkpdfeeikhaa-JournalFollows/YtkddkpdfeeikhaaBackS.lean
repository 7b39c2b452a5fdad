/-
  tgref1.Back's answers, and where they lie.
-/
import Derived.Test.YtkddkpdfeeikhaaRefBack
namespace Go.Proofs.Ytkddkpdfeeikhaa
open Go.RowKit
set_option linter.unusedVariables false
set_option linter.unusedSimpArgs false

attribute [local go_sem ↓] Go.wp_at_zero Go.wp_at_succ

set_option maxRecDepth 100000 in
set_option maxHeartbeats 3200000 in
theorem refBack_deadS (v : Value) (name : ByteArray) (limit id turn : Int) (its : List IT) (hlen : its.length ≤ 4194304) (i : Nat) (hil : i < its.length) (hin : givenB id turn its[i] = true) (hbf : ∀ j (hj : j < i), givenB id turn (its[j]'(by omega)) = false) (hfit : (its[i]).fits) (htr : ¬ (backI its[i]).tries < 3) (w : World) (S : Nat → Prop) (hS : ∀ x, S x → x < w.heap.size) (hv : SliceI S w v its) :
    Calls Try.prog 63 #[.agg #[.string name, .int .i64 limit, v], .int .i64 id, .int .i64 turn] w fun e w' => ∃ v' q, e = .returned (.tuple #[.agg #[.string name, .int .i64 limit, v'], (backI its[i]).val q, .bool true, .int .i64 0]) ∧ SliceI (fun k => S k ∨ Made w.heap.size w'.heap.size k) w' v' (its.eraseIdx i) ∧ NoteIs S w' q its[i].note ∧ Below w.heap.size w w' := by
  have HV : Hid (SliceI S w v its) := hv
  have HS0 : Hid (∀ x, S x → x < w.heap.size) := hS
  clear hS
  have HBF : Hid (∀ j (hj : j < i), givenB id turn (its[j]'(by omega)) = false) := hbf
  obtain ⟨g1, g2, g3⟩ := given_out hin
  obtain ⟨-, f1, f2⟩ := hfit
  obtain rfl : its[i].id = id := by simpa using g1
  obtain rfl : its[i].turn = turn := by simpa using g2
  have hdd : ¬ its[i].tries + 1 < 3 := htr
  obtain ⟨va, vc, rfl⟩ := hv.shp
  clear hv hbf hin htr
  obtain ⟨X, hX⟩ : ∃ X, X = ((w.alloc (.cells #[.string name, .int .i64 limit, .slice va its.length vc] 76)).alloc (.cells #[.string ⟨#[]⟩, .int .i64 0, .slice none 0 0] 76)).alloc (.cells #[.int .i64 0, .int .i64 0, .int .i64 0, .bool false, .int .i64 0, .slice none 0 0, .slice none 0 0] 78) := ⟨_, rfl⟩
  have HX : Hid (X.heap.size = w.heap.size + 3 ∧ Below w.heap.size w X ∧ Blk X w.heap.size [.string name, .int .i64 limit, .slice va its.length vc] ∧ Blk X (w.heap.size + 1) [.string ⟨#[]⟩, .int .i64 0, .slice none 0 0] ∧ Blk X (w.heap.size + 1 + 1) [.int .i64 0, .int .i64 0, .int .i64 0, .bool false, .int .i64 0, .slice none 0 0, .slice none 0 0]) := by
    subst hX
    refine ⟨by simp, ((below_alloc _ _).alloc (by simp) _).alloc (by simp; omega) _, ((Blk.new _ _ _).alloc _).alloc _, ?_, ?_⟩
    · have := (Blk.new (w.alloc (.cells #[.string name, .int .i64 limit, .slice va its.length vc] 76)) [.string ⟨#[]⟩, .int .i64 0, .slice none 0 0] 76).alloc (.cells #[.int .i64 0, .int .i64 0, .int .i64 0, .bool false, .int .i64 0, .slice none 0 0, .slice none 0 0] 78)
      simpa using this
    · have := Blk.new ((w.alloc (.cells #[.string name, .int .i64 limit, .slice va its.length vc] 76)).alloc (.cells #[.string ⟨#[]⟩, .int .i64 0, .slice none 0 0] 76)) [.int .i64 0, .int .i64 0, .int .i64 0, .bool false, .int .i64 0, .slice none 0 0, .slice none 0 0] 78
      simpa using this
  go_enter Try.func63, Try.ntmps63
  go_wp2
  go_loopw [15] (fun x wr => ∃ k : Nat, k ≤ i ∧ x = .int .i64 k ∧ Below X.heap.size X wr) (fun x _ => its.length - (intOf x).toNat)
  case atStart => exact ⟨0, Nat.zero_le _, rfl, by rw [hX]; exact Below.refl _ _⟩
  case round =>
    obtain ⟨k, hk, rfl, hbr⟩ := hrel
    have hzr := hbr.size
    have hzx := HX.out.1
    clear hX
    have HB : Hid (Below w.heap.size w wr) := HX.out.2.1.trans (hbr.mono (by omega))
    have hlt : k < its.length := by omega
    obtain ⟨b, off, pa, pc, qa, qc, rfl, hS, hn, ⟨c0, c1, c2, c3⟩, c4, c5, c6⟩ := (SliceI.sub (T := S) HV.out (fun x hx => ⟨hx, HB.out.block x (HS0.out x hx)⟩)).at k hlt
    by_cases hki : k < i
    · have ho := HBF.out k hki
      clear hn
      rcases given_not' ho with e1 | ⟨e1, e2⟩ | ⟨e1, e2, e3⟩
      · go_wp2
        go_roundw
        case rel => exact ⟨k + 1, by omega, by go_num, hbr.trans ((below_alloc _ _).mono hzr)⟩
        case measure => simp [intOf]; omega
      · go_wp2
        go_roundw
        case rel => exact ⟨k + 1, by omega, by go_num, hbr.trans ((below_alloc _ _).mono hzr)⟩
        case measure => simp [intOf]; omega
      · rw [e3] at c3
        go_wp2
        go_roundw
        case rel => exact ⟨k + 1, by omega, by go_num, hbr.trans ((below_alloc _ _).mono hzr)⟩
        case measure => simp [intOf]; omega
    · obtain rfl : k = i := by omega
      rw [g3] at c3
      have hzw := HB.out.size
      have HN : Hid (NoteIs S wr (.slice pa its[k].note.props.length pc, .slice qa its[k].note.body.length qc) its[k].note) := hn
      have HK : Hid (Blk wr w.heap.size [.string name, .int .i64 limit, .slice (some ⟨b, off, none⟩) its.length vc] ∧ Blk wr (w.heap.size + 1) [.string ⟨#[]⟩, .int .i64 0, .slice none 0 0] ∧ Blk wr (w.heap.size + 1 + 1) [.int .i64 0, .int .i64 0, .int .i64 0, .bool false, .int .i64 0, .slice none 0 0, .slice none 0 0]) := ⟨HX.out.2.2.1.below hbr (by omega), HX.out.2.2.2.1.below hbr (by omega), HX.out.2.2.2.2.below hbr (by omega)⟩
      have hkl := HK.out.2.2.lt
      obtain ⟨a0, a1, a2, a3, a4⟩ := HK.out.1.b3
      clear hn HX hbr
      obtain ⟨it2, hit2⟩ : ∃ it2, it2 = backI its[k] := ⟨_, rfl⟩
      have HIT2 : Hid (it2 = backI its[k]) := hit2
      obtain ⟨Y, hY⟩ : ∃ Y, Y = wr.alloc (.cells #[.int .i64 its[k].id, .int .i64 its[k].turn, .int .i64 (its[k].tries + 1), .bool false, .int .i64 0, .slice pa its[k].note.props.length pc, .slice qa its[k].note.body.length qc] 78) := ⟨_, rfl⟩
      have hyz : Y.heap.size = wr.heap.size + 1 := by rw [hY]; simp
      have HY : Hid (Below wr.heap.size wr Y ∧ Blk Y wr.heap.size (it2.cells (.slice pa its[k].note.props.length pc, .slice qa its[k].note.body.length qc))) := by
        rw [hY]; exact ⟨below_alloc _ _, by rw [hit2]; exact Blk.new _ _ _⟩
      have hcy : Blk Y wr.heap.size [.int .i64 its[k].id, .int .i64 its[k].turn, .int .i64 (its[k].tries + 1), .bool false, .int .i64 0, .slice pa its[k].note.props.length pc, .slice qa its[k].note.body.length qc] := by rw [hY]; exact Blk.new _ _ _
      have HCY : Hid (Blk Y wr.heap.size [.int .i64 its[k].id, .int .i64 its[k].turn, .int .i64 (its[k].tries + 1), .bool false, .int .i64 0, .slice pa its[k].note.props.length pc, .slice qa its[k].note.body.length qc]) := hcy
      obtain ⟨⟨j0, j1, j2, j3⟩, ⟨j4, j5, j6⟩, j7, j8⟩ := hcy.b7
      have HKY : Hid (Blk Y w.heap.size [.string name, .int .i64 limit, .slice (some ⟨b, off, none⟩) its.length vc] ∧ Blk Y (w.heap.size + 1) [.string ⟨#[]⟩, .int .i64 0, .slice none 0 0] ∧ Blk Y (w.heap.size + 1 + 1) [.int .i64 0, .int .i64 0, .int .i64 0, .bool false, .int .i64 0, .slice none 0 0, .slice none 0 0]) := ⟨HK.out.1.below HY.out.1 a4, HK.out.2.1.below HY.out.1 HK.out.2.1.lt, HK.out.2.2.below HY.out.1 HK.out.2.2.lt⟩
      obtain ⟨y0, y1, y2, y3, y4⟩ := HKY.out.1.b3
      have HVY : Hid (SliceI S Y (.slice (some ⟨b, off, none⟩) its.length vc) its) := HV.out.sub fun x hx => ⟨hx, (HY.out.1.block x (Nat.lt_of_lt_of_le (HS0.out x hx) hzw)).trans (HB.out.block x (HS0.out x hx))⟩
      have HNY : Hid (NoteIs S Y (.slice pa its[k].note.props.length pc, .slice qa its[k].note.body.length qc) it2.note) := by
        rw [hit2]
        exact HN.out.sub fun x hx => ⟨hx, HY.out.1.block x (Nat.lt_of_lt_of_le (HS0.out x hx) hzw)⟩
      have HBY : Hid (Below w.heap.size w Y) := HB.out.trans (HY.out.1.mono (by omega))
      have hd3 : (3 : Int) ≤ its[k].tries + 1 := by omega
      go_wp2
      rw [← hY]
      clear hY hit2 hcy a0 a1 a2 a3 c0 c1 c2 c3 c4 c5 c6
      go_region_law (first
        | (go_simp; go_at_call 91; refine (items_del _ name limit its k hil hlen _ S ?_ ?_).mono ?_; (exact fun x hx => Nat.lt_of_lt_of_le (HS0.out x hx) HBY.out.size); (exact HVY.out.sub fun x hx => ⟨hx, rfl⟩); rintro e w1 ⟨v1, rfl, hs1, hb1⟩; have hb1' : Below Y.heap.size Y w1 := ⟨hb1.os, hb1.tape, hb1.output, hb1.size, hb1.block⟩; obtain ⟨ra, rc, e1⟩ := hs1.shp; have e1' : v1 = .slice ra (its.eraseIdx k).length rc := e1; subst e1'; have hz1 := hb1'.size; obtain ⟨⟨m0, m1, m2, m3⟩, ⟨m4, m5, m6⟩, m7, m8⟩ := (HCY.out.below hb1' (by omega)).b7; obtain ⟨n0, n1, n2, n3, n4⟩ := (HKY.out.2.1.below hb1' (by omega)).b3; obtain ⟨⟨p0, p1, p2, p3⟩, ⟨p4, p5, p6⟩, p7, p8⟩ := (HKY.out.2.2.below hb1' (by omega)).b7; have HS1 : Hid (SliceI (fun x => S x ∨ Made Y.heap.size w1.heap.size x) w1 (.slice ra (its.eraseIdx k).length rc) (its.eraseIdx k)) := hs1; clear hb1 hs1 e1))
      all_goals
        clear j0 j1 j2 j3 j4 j5 j6 j7 y0 y1 y2 y3
        go_wp2
        refine bodyPost_ret (v := .tuple #[.agg #[.string name, .int .i64 limit, .slice ra (its.eraseIdx k).length rc], .agg #[.int .i64 its[k].id, .int .i64 its[k].turn, .int .i64 (its[k].tries + 1), .bool false, .int .i64 0, .slice pa its[k].note.props.length pc, .slice qa its[k].note.body.length qc], .bool true, .int .i64 0]) (by simp [results, Try.results63, go_sem, *]; done) rfl ⟨_, (.slice pa its[k].note.props.length pc, .slice qa its[k].note.body.length qc), rfl, ?_, ?_, ?_⟩
        · refine HS1.out.sub fun x hx => ?_
          have hx' : x < w.heap.size ∨ (Y.heap.size ≤ x ∧ x < w1.heap.size) := hx.imp (HS0.out x) id
          refine ⟨hx.imp id fun h => ⟨by have h1 : Y.heap.size ≤ x := h.1; omega, by have h2 : x < w1.heap.size := h.2; simp; omega⟩, ?_⟩
          iterate 10 rw [Below.heap_setCell _ _ _ _ (by simp; omega)]
        · have hn2 : NoteIs S w1 (.slice pa its[k].note.props.length pc, .slice qa its[k].note.body.length qc) it2.note := HNY.out.sub fun x hx => ⟨hx, hb1'.block x (Nat.lt_of_lt_of_le (HS0.out x hx) HBY.out.size)⟩
          rw [HIT2.out] at hn2
          refine NoteIs.sub hn2 fun x hx => ?_
          have hx' : x < w.heap.size := HS0.out x hx
          refine ⟨hx, ?_⟩
          iterate 10 rw [Below.heap_setCell _ _ _ _ (by simp; omega)]
        · iterate 10 refine Below.setCell ?_ (by simp <;> omega) _
          exact HBY.out.trans (hb1'.mono HBY.out.size)

set_option maxRecDepth 100000 in
set_option maxHeartbeats 3200000 in
theorem refBack_waitS (v : Value) (name : ByteArray) (limit id turn : Int) (its : List IT) (hlen : its.length ≤ 4194304) (i : Nat) (hil : i < its.length) (hin : givenB id turn its[i] = true) (hbf : ∀ j (hj : j < i), givenB id turn (its[j]'(by omega)) = false) (hfit : (its[i]).fits) (htr : (backI its[i]).tries < 3) (w : World) (S : Nat → Prop) (hS : ∀ x, S x → x < w.heap.size) (hv : SliceI S w v its) :
    Calls Try.prog 63 #[.agg #[.string name, .int .i64 limit, v], .int .i64 id, .int .i64 turn] w fun e w' => ∃ v', e = .returned (.tuple #[.agg #[.string name, .int .i64 limit, v'], .agg #[.int .i64 0, .int .i64 0, .int .i64 0, .bool false, .int .i64 0, .slice none 0 0, .slice none 0 0], .bool false, .int .i64 0]) ∧ SliceI (fun k => S k ∨ Made w.heap.size w'.heap.size k) w' v' (its.set i (backI its[i])) ∧ Below w.heap.size w w' := by
  have HV : Hid (SliceI S w v its) := hv
  have HS0 : Hid (∀ x, S x → x < w.heap.size) := hS
  clear hS
  have HBF : Hid (∀ j (hj : j < i), givenB id turn (its[j]'(by omega)) = false) := hbf
  obtain ⟨g1, g2, g3⟩ := given_out hin
  obtain ⟨-, f1, f2⟩ := hfit
  obtain rfl : its[i].id = id := by simpa using g1
  obtain rfl : its[i].turn = turn := by simpa using g2
  have hdd : its[i].tries + 1 < 3 := htr
  obtain ⟨va, vc, rfl⟩ := hv.shp
  clear hv hbf hin htr
  obtain ⟨X, hX⟩ : ∃ X, X = ((w.alloc (.cells #[.string name, .int .i64 limit, .slice va its.length vc] 76)).alloc (.cells #[.string ⟨#[]⟩, .int .i64 0, .slice none 0 0] 76)).alloc (.cells #[.int .i64 0, .int .i64 0, .int .i64 0, .bool false, .int .i64 0, .slice none 0 0, .slice none 0 0] 78) := ⟨_, rfl⟩
  have HX : Hid (X.heap.size = w.heap.size + 3 ∧ Below w.heap.size w X ∧ Blk X w.heap.size [.string name, .int .i64 limit, .slice va its.length vc] ∧ Blk X (w.heap.size + 1) [.string ⟨#[]⟩, .int .i64 0, .slice none 0 0] ∧ Blk X (w.heap.size + 1 + 1) [.int .i64 0, .int .i64 0, .int .i64 0, .bool false, .int .i64 0, .slice none 0 0, .slice none 0 0]) := by
    subst hX
    refine ⟨by simp, ((below_alloc _ _).alloc (by simp) _).alloc (by simp; omega) _, ((Blk.new _ _ _).alloc _).alloc _, ?_, ?_⟩
    · have := (Blk.new (w.alloc (.cells #[.string name, .int .i64 limit, .slice va its.length vc] 76)) [.string ⟨#[]⟩, .int .i64 0, .slice none 0 0] 76).alloc (.cells #[.int .i64 0, .int .i64 0, .int .i64 0, .bool false, .int .i64 0, .slice none 0 0, .slice none 0 0] 78)
      simpa using this
    · have := Blk.new ((w.alloc (.cells #[.string name, .int .i64 limit, .slice va its.length vc] 76)).alloc (.cells #[.string ⟨#[]⟩, .int .i64 0, .slice none 0 0] 76)) [.int .i64 0, .int .i64 0, .int .i64 0, .bool false, .int .i64 0, .slice none 0 0, .slice none 0 0] 78
      simpa using this
  go_enter Try.func63, Try.ntmps63
  go_wp2
  go_loopw [15] (fun x wr => ∃ k : Nat, k ≤ i ∧ x = .int .i64 k ∧ Below X.heap.size X wr) (fun x _ => its.length - (intOf x).toNat)
  case atStart => exact ⟨0, Nat.zero_le _, rfl, by rw [hX]; exact Below.refl _ _⟩
  case round =>
    obtain ⟨k, hk, rfl, hbr⟩ := hrel
    have hzr := hbr.size
    have hzx := HX.out.1
    clear hX
    have HB : Hid (Below w.heap.size w wr) := HX.out.2.1.trans (hbr.mono (by omega))
    have hlt : k < its.length := by omega
    obtain ⟨b, off, pa, pc, qa, qc, rfl, hS, hn, ⟨c0, c1, c2, c3⟩, c4, c5, c6⟩ := (SliceI.sub (T := S) HV.out (fun x hx => ⟨hx, HB.out.block x (HS0.out x hx)⟩)).at k hlt
    by_cases hki : k < i
    · have ho := HBF.out k hki
      clear hn
      rcases given_not' ho with e1 | ⟨e1, e2⟩ | ⟨e1, e2, e3⟩
      · go_wp2
        go_roundw
        case rel => exact ⟨k + 1, by omega, by go_num, hbr.trans ((below_alloc _ _).mono hzr)⟩
        case measure => simp [intOf]; omega
      · go_wp2
        go_roundw
        case rel => exact ⟨k + 1, by omega, by go_num, hbr.trans ((below_alloc _ _).mono hzr)⟩
        case measure => simp [intOf]; omega
      · rw [e3] at c3
        go_wp2
        go_roundw
        case rel => exact ⟨k + 1, by omega, by go_num, hbr.trans ((below_alloc _ _).mono hzr)⟩
        case measure => simp [intOf]; omega
    · obtain rfl : k = i := by omega
      rw [g3] at c3
      have hzw := HB.out.size
      have HN : Hid (NoteIs S wr (.slice pa its[k].note.props.length pc, .slice qa its[k].note.body.length qc) its[k].note) := hn
      have HK : Hid (Blk wr w.heap.size [.string name, .int .i64 limit, .slice (some ⟨b, off, none⟩) its.length vc] ∧ Blk wr (w.heap.size + 1) [.string ⟨#[]⟩, .int .i64 0, .slice none 0 0] ∧ Blk wr (w.heap.size + 1 + 1) [.int .i64 0, .int .i64 0, .int .i64 0, .bool false, .int .i64 0, .slice none 0 0, .slice none 0 0]) := ⟨HX.out.2.2.1.below hbr (by omega), HX.out.2.2.2.1.below hbr (by omega), HX.out.2.2.2.2.below hbr (by omega)⟩
      have hkl := HK.out.2.2.lt
      obtain ⟨a0, a1, a2, a3, a4⟩ := HK.out.1.b3
      clear hn HX hbr
      obtain ⟨it2, hit2⟩ : ∃ it2, it2 = backI its[k] := ⟨_, rfl⟩
      have HIT2 : Hid (it2 = backI its[k]) := hit2
      obtain ⟨Y, hY⟩ : ∃ Y, Y = wr.alloc (.cells #[.int .i64 its[k].id, .int .i64 its[k].turn, .int .i64 (its[k].tries + 1), .bool false, .int .i64 0, .slice pa its[k].note.props.length pc, .slice qa its[k].note.body.length qc] 78) := ⟨_, rfl⟩
      have hyz : Y.heap.size = wr.heap.size + 1 := by rw [hY]; simp
      have HY : Hid (Below wr.heap.size wr Y ∧ Blk Y wr.heap.size (it2.cells (.slice pa its[k].note.props.length pc, .slice qa its[k].note.body.length qc))) := by
        rw [hY]; exact ⟨below_alloc _ _, by rw [hit2]; exact Blk.new _ _ _⟩
      have hcy : Blk Y wr.heap.size [.int .i64 its[k].id, .int .i64 its[k].turn, .int .i64 (its[k].tries + 1), .bool false, .int .i64 0, .slice pa its[k].note.props.length pc, .slice qa its[k].note.body.length qc] := by rw [hY]; exact Blk.new _ _ _
      have HCY : Hid (Blk Y wr.heap.size [.int .i64 its[k].id, .int .i64 its[k].turn, .int .i64 (its[k].tries + 1), .bool false, .int .i64 0, .slice pa its[k].note.props.length pc, .slice qa its[k].note.body.length qc]) := hcy
      obtain ⟨⟨j0, j1, j2, j3⟩, ⟨j4, j5, j6⟩, j7, j8⟩ := hcy.b7
      have HKY : Hid (Blk Y w.heap.size [.string name, .int .i64 limit, .slice (some ⟨b, off, none⟩) its.length vc] ∧ Blk Y (w.heap.size + 1) [.string ⟨#[]⟩, .int .i64 0, .slice none 0 0] ∧ Blk Y (w.heap.size + 1 + 1) [.int .i64 0, .int .i64 0, .int .i64 0, .bool false, .int .i64 0, .slice none 0 0, .slice none 0 0]) := ⟨HK.out.1.below HY.out.1 a4, HK.out.2.1.below HY.out.1 HK.out.2.1.lt, HK.out.2.2.below HY.out.1 HK.out.2.2.lt⟩
      obtain ⟨y0, y1, y2, y3, y4⟩ := HKY.out.1.b3
      have HVY : Hid (SliceI S Y (.slice (some ⟨b, off, none⟩) its.length vc) its) := HV.out.sub fun x hx => ⟨hx, (HY.out.1.block x (Nat.lt_of_lt_of_le (HS0.out x hx) hzw)).trans (HB.out.block x (HS0.out x hx))⟩
      have HNY : Hid (NoteIs S Y (.slice pa its[k].note.props.length pc, .slice qa its[k].note.body.length qc) it2.note) := by
        rw [hit2]
        exact HN.out.sub fun x hx => ⟨hx, HY.out.1.block x (Nat.lt_of_lt_of_le (HS0.out x hx) hzw)⟩
      have HBY : Hid (Below w.heap.size w Y) := HB.out.trans (HY.out.1.mono (by omega))
      have hd3 : ¬ (3 : Int) ≤ its[k].tries + 1 := by omega
      go_wp2_with (first
        | (go_at_call 91; rw [← hY]; refine (items_set wr.heap.size it2 (.slice pa its[k].note.props.length pc) (.slice qa its[k].note.body.length qc) _ name limit its k hil hlen _ S ?_ ?_ ?_ ?_).mono ?_; (exact fun x hx => Nat.lt_of_lt_of_le (HS0.out x hx) HBY.out.size); (exact HVY.out.sub fun x hx => ⟨hx, rfl⟩); (exact HY.out.2); (exact HNY.out.sub fun x hx => ⟨hx, rfl⟩); rintro e w1 ⟨v1, rfl, hs1, hb1⟩; have hb1' : Below Y.heap.size Y w1 := ⟨hb1.os, hb1.tape, hb1.output, hb1.size, hb1.block⟩; obtain ⟨ra, rc, e1⟩ := hs1.shp; have e1' : v1 = .slice ra (its.set k it2).length rc := e1; subst e1'; have hz1 := hb1'.size; obtain ⟨⟨m0, m1, m2, m3⟩, ⟨m4, m5, m6⟩, m7, m8⟩ := (HCY.out.below hb1' (by omega)).b7; obtain ⟨n0, n1, n2, n3, n4⟩ := (HKY.out.2.1.below hb1' (by omega)).b3; obtain ⟨⟨p0, p1, p2, p3⟩, ⟨p4, p5, p6⟩, p7, p8⟩ := (HKY.out.2.2.below hb1' (by omega)).b7; have HS1 : Hid (SliceI (fun x => S x ∨ Made Y.heap.size w1.heap.size x) w1 (.slice ra (its.set k it2).length rc) (its.set k it2)) := hs1; clear hb1 hs1 e1))
      refine bodyPost_ret (v := .tuple #[.agg #[.string name, .int .i64 limit, .slice ra (its.set k it2).length rc], .agg #[.int .i64 0, .int .i64 0, .int .i64 0, .bool false, .int .i64 0, .slice none 0 0, .slice none 0 0], .bool false, .int .i64 0]) (by simp [results, Try.results63, go_sem, *]; done) rfl ⟨_, rfl, ?_, ?_⟩
      · rw [← HIT2.out]
        refine HS1.out.sub fun x hx => ?_
        have hx' : x < w.heap.size ∨ (Y.heap.size ≤ x ∧ x < w1.heap.size) := hx.imp (HS0.out x) id
        refine ⟨hx.imp id fun h => ⟨by have h1 : Y.heap.size ≤ x := h.1; omega, by have h2 : x < w1.heap.size := h.2; simp; omega⟩, ?_⟩
        iterate 10 rw [Below.heap_setCell _ _ _ _ (by simp; omega)]
      · iterate 10 refine Below.setCell ?_ (by simp <;> omega) _
        exact HBY.out.trans (hb1'.mono HBY.out.size)
end Go.Proofs.Ytkddkpdfeeikhaa
