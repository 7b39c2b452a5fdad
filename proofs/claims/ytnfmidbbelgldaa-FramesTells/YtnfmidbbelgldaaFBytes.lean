/-
  frames.AskBytes and SayBytes write what AD.inB, SD.inB and frameB say.
-/
import Derived.Test.YtnfmidbbelgldaaFMath
import Derived.Test.YtnfmidbbelgldaaAlive
namespace Go.Proofs.Ytnfmidbbelgldaa
open Go.RowKit
set_option linter.unusedVariables false
set_option linter.unusedSimpArgs false

attribute [local go_sem ↓] Go.wp_at_zero Go.wp_at_succ

set_option maxHeartbeats 400000 in
theorem fappendNumber_any (base : Nat) (v : Value) (xs : List UInt8) (n : Int) (w : World) (hown : w.ownsRow base 5 1 v xs.length (u8s xs)) (hb : base ≤ w.heap.size) (hx : xs.length ≤ 1000000) :
    Calls Try.prog 26 #[v, .int .i64 n] w fun e w' => ∃ v', e = .returned v' ∧ w'.ownsRow base 5 1 v' (xs ++ num4 n).length (u8s (xs ++ num4 n)) ∧ w.grownBy w' v.ownBlock ∧ Moved w v v' := by
  go_enter Try.func26, Try.ntmps26
  go_wp2_with (
     (at_builtin; refine wpList_app rfl (.tmp 8) (.tmp 20) rfl base v xs.length (u8s xs) rfl (hown.alloc _) (w.heap.size + 1) _ (num4 n) rfl (new_bytes w (num4 n) _ (by simp [num4, maxLen]) ?hcells) (by simp [num4]; omega) (by simp; omega) ?_; rotate_left; intro ao cap w1 hown1 hg1 hm1))
  · go_ret
    refine ⟨_, rfl, ?_, moved_grown (World.grownBy_alloc _ _ _) (Moved.refl _ _) hg1, hm1.of (by simp)⟩
    rw [u8s_append, List.length_append]
    exact hown1
  · exact num4_cells n

set_option maxHeartbeats 400000 in
theorem frame_any (v : Value) (l : List UInt8) (w : World) (hv : SliceB w.heap.size w v l) (hl : l.length ≤ 60000) :
    Calls Try.prog 28 #[v] w fun e w' => ∃ ao cap, e = .returned (.slice ao (frameB l).length cap) ∧ w'.ownsRow w.heap.size 5 1 (.slice ao (frameB l).length cap) (frameB l).length (u8s (frameB l)) ∧ Below w.heap.size w w' := by
  have HV := hv
  obtain ⟨a, c, rfl, v1, v2, v3, v4⟩ := hv
  clear v3 v4
  clear v2
  go_enter Try.func28, Try.ntmps28
  go_wp2_with (
     (at_builtin; (refine wpList_app rfl (.tmp 12) (.tmp 13) rfl w.heap.size (.slice (some ⟨w.heap.size, 0, none⟩) 2 2) 2 (u8s [UInt8.ofNat (l.length / 256), UInt8.ofNat l.length]) rfl (new_own w w.heap.size [UInt8.ofNat (l.length / 256), UInt8.ofNat l.length] _ (by simp [maxLen]) ?hcells (Nat.le_refl _)) (w.heap.size) _ l rfl (HV.same (fun k hk => Below.heap_alloc _ _ _ hk)) (by (try simp); omega) (by (try simp) <;> omega) ?_); rotate_left; intro ao cap w1 hown1 hg1 hm1))
  · go_ret
    obtain ⟨ao', cap', he, -⟩ := own_shape hown1
    simp only [Value.slice.injEq] at he
    obtain ⟨rfl, -, rfl⟩ := he
    have e : (frameB l).length = 2 + l.length := by rw [frameB_len]; omega
    have hown2 : w1.ownsRow w.heap.size 5 1 (.slice ao (2 + l.length) cap) (2 + l.length) (u8s (frameB l)) := by
      have : u8s (frameB l) = u8s [UInt8.ofNat (l.length / 256), UInt8.ofNat l.length] ++ u8s l := by rw [← u8s_append]; rfl
      rw [this]; exact hown1
    refine ⟨ao, cap, congrArg Ending.returned (by rw [e]; rfl), by rw [e]; exact hown2, ?_⟩
    exact (below_alloc w _).grown hg1 (by simp) (fun k hk => by simp [Value.ownBlock] at hk; omega)
  · simp only [u8s, List.map_cons, List.map_nil]
    rw [byte_of _ (by omega)]
    congr 2

theorem own_bl {w1 w2 : World} {base : Nat} {v : Value} {n : Nat} {xs : List Value} (h : w1.ownsRow base 5 1 v n xs) (hb : Below w1.heap.size w1 w2) : w2.ownsRow base 5 1 v n xs := h.kept (grownBy_of_below (row := none) hb) (by cases v.ownBlock <;> simp)
theorem new_own1 (w : World) (o : Obj) (bs : List UInt8) (cs : Array Value) (hl : bs.length ≤ maxLen) (h : cs.toList = u8s bs) : ((w.alloc o).alloc (.cells cs 5)).ownsRow (w.heap.size + 1) 5 1 (.slice (some ⟨w.heap.size + 1, 0, none⟩) bs.length bs.length) bs.length (u8s bs) := by
  have := new_own (w.alloc o) (w.heap.size + 1) bs cs hl h (by simp)
  simpa using this


theorem ask_xs {w : World} {base : Nat} {v : Value} {k : Int} {q : ByteArray} (h : w.ownsRow base 5 1 v (2 + q.size) (u8s [UInt8.ofNat k.toNat, UInt8.ofNat q.size] ++ u8s q.data.toList)) :
    ∃ xs : List UInt8, Hid (xs = UInt8.ofNat k.toNat :: txt q) ∧ xs.length ≤ 2 + q.size ∧ w.ownsRow base 5 1 v xs.length (u8s xs) := by
  have e : (UInt8.ofNat k.toNat :: txt q).length = 2 + q.size := by simp [txt_len]; omega
  refine ⟨UInt8.ofNat k.toNat :: txt q, rfl, by omega, ?_⟩
  rw [e]
  have : u8s (UInt8.ofNat k.toNat :: txt q) = u8s [UInt8.ofNat k.toNat, UInt8.ofNat q.size] ++ u8s q.data.toList := by rw [← u8s_append]; rfl
  rw [this]; exact h
theorem num_ys {w : World} {base : Nat} {v : Value} {xs : List UInt8} {n : Int} (h : w.ownsRow base 5 1 v (xs ++ num4 n).length (u8s (xs ++ num4 n))) :
    ∃ (ys : List UInt8) (ao : Option Addr) (cap : Nat), Hid (ys = xs ++ num4 n) ∧ ys.length ≤ xs.length + 4 ∧ v = .slice ao ys.length cap ∧ w.ownsRow base 5 1 (.slice ao ys.length cap) ys.length (u8s ys) := by
  obtain ⟨ao, cap, rfl, -⟩ := own_shape h
  exact ⟨xs ++ num4 n, ao, cap, rfl, by simp [num4], rfl, h⟩
theorem app_zs {w : World} {base : Nat} {v : Value} {ys bs : List UInt8} (h : w.ownsRow base 5 1 v (ys.length + bs.length) (u8s ys ++ u8s bs)) :
    w.ownsRow base 5 1 v (ys ++ bs).length (u8s (ys ++ bs)) := by
  rw [u8s_append, List.length_append]; exact h

set_option maxHeartbeats 1000000 in
theorem askBytes_any (a : AD) (v u : Value) (w : World) (hr : a.wrong = 0) (hv : SliceP w.heap.size w v a.ps) (hu : SliceB w.heap.size w u a.body) :
    Calls Try.prog 9 #[.agg #[.int .i64 a.kind, .string a.queue, .int .i64 a.n, v, u]] w fun e w' => ∃ ao cap, e = .returned (.slice ao (frameB a.inB).length cap) ∧ w'.ownsRow w.heap.size 5 1 (.slice ao (frameB a.inB).length cap) (frameB a.inB).length (u8s (frameB a.inB)) ∧ Below w.heap.size w w' := by
  obtain ⟨g1, g2, g3, g4, g5, g6, g7⟩ := a.right hr
  have hin := a.inB_len hr
  have HL : Hid (a.inB.length ≤ 300) := hin
  clear hin
  have hkb : Hid (((UInt8.ofNat a.kind.toNat).toNat : Int) = a.kind) := byteI _ (by omega) (by omega)
  have hqb : Hid (((UInt8.ofNat a.queue.size).toNat : Int) = a.queue.size) := byte_of _ (by omega)
  have hbl := bytesF_len a.ps a.body g6
  have HA : ∀ W, SliceP W.heap.size W v a.ps → SliceB W.heap.size W u a.body → Calls Try.prog 27 #[.agg #[v, u]] W fun e w' => ∃ ao cap, e = .returned (.slice ao (bytesF a.ps a.body).length cap) ∧ w'.ownsRow W.heap.size 5 1 (.slice ao (bytesF a.ps a.body).length cap) (bytesF a.ps a.body).length (u8s (bytesF a.ps a.body)) ∧ Below W.heap.size W w' := fun W h1 h2 => bytes_v v u a.ps a.body W h1 h2 g6
  have W0 : Hid (SliceP w.heap.size w v a.ps ∧ SliceB w.heap.size w u a.body) := ⟨hv, hu⟩
  obtain ⟨va, vc, rfl, -⟩ := hv
  obtain ⟨ua, uc, rfl, -⟩ := hu
  have HC : ∀ x y : Int, x = a.kind → y = a.queue.size → (#[Value.int IntKind.u8 x, Value.int IntKind.u8 y] : Array Value).toList = u8s [UInt8.ofNat a.kind.toNat, UInt8.ofNat a.queue.size] := by
    intro x y hx hy
    subst hx hy
    simp only [u8s, List.map_cons, List.map_nil, hkb.out, hqb.out]
  obtain ⟨nb, hnb⟩ : ∃ nb, nb = bytesF a.ps a.body := ⟨_, rfl⟩
  rw [← hnb] at HA hbl
  have hI : a.inB = UInt8.ofNat a.kind.toNat :: txt a.queue ++ num4 a.n ++ (if a.kind == 4 then nb else []) := by rw [hnb]; rfl
  have HI : Hid (a.inB = UInt8.ofNat a.kind.toNat :: txt a.queue ++ num4 a.n ++ (if a.kind == 4 then nb else [])) := hI
  clear hI hnb hr
  by_cases h4 : a.kind = 4
  · go_enter Try.func9, Try.ntmps9
    go_wp2_with (first
      | (at_builtin; (refine wpList_app_str rfl (.tmp 12) (.tmp 14) rfl (w.heap.size + 1) (.slice (some ⟨w.heap.size + 1, 0, none⟩) 2 2) 2 (u8s [UInt8.ofNat a.kind.toNat, UInt8.ofNat a.queue.size]) rfl (new_own1 w _ [UInt8.ofNat a.kind.toNat, UInt8.ofNat a.queue.size] _ (by simp [maxLen]) (HC _ _ (by omega) (by omega))) a.queue rfl (by (try simp) <;> omega) (by (try simp) <;> omega) ?_; intro ao1 cap1 w1 hown1 hg1 hm1; obtain ⟨hc1, hf1⟩ := own_far hg1 w.heap.size (by simp; omega) (by simp [Value.ownBlock]); obtain ⟨xs, HX, hxl, hown1⟩ := ask_xs hown1; have hz1 := hg1.size; simp at hz1; have hlt1 : w.heap.size < w1.heap.size := (by omega); have b1 : Below w.heap.size w w1 := ((below_alloc w _).alloc (by simp) _).grown hg1 (by simp; omega) (fun k hk => (by simp [Value.ownBlock] at hk; omega))))
      | (go_at_call 26; (refine (fappendNumber_any (w.heap.size + 1) _ xs a.n w1 hown1 (by omega) (by omega)).mono ?_); rintro e w2 ⟨v2, rfl, hown2, hg2, hm2⟩; obtain ⟨ys, ao2, cap2, HY, hyl, rfl, hown2y⟩ := num_ys hown2; obtain ⟨hc2, hf2⟩ := own_far hg2 w.heap.size hlt1 (fun e => (by have := (hown1.lt _ e.symm).1; omega)); have hz2 := hg2.size; have hlt2 : w.heap.size < w2.heap.size := (by omega); have b2 : Below w.heap.size w w2 := b1.grown hg2 (by omega) (fun k hk => (by have := (hown1.lt _ hk).1; omega)))
      | (go_at_call 27; refine (HA _ ?_ ?_).mono ?_; (exact W0.out.1.below b2); (exact W0.out.2.below b2); rintro e w3 ⟨ao3, cap3, rfl, hown3, hb3⟩; obtain ⟨hc3, hf3⟩ := bcell hb3; have hz3 := hb3.size)
      | (at_builtin; (refine wpList_app rfl (.tmp 23) (.tmp 26) rfl (w.heap.size + 1) _ ys.length (u8s ys) rfl (own_bl hown2y hb3) w3.heap.size _ nb rfl (own_slice hown3) (by omega) (by omega) ?_); intro ao4 cap4 w4 hown4 hg4 hm4; have hown4' := own_slice (app_zs hown4); have b4 : Below w.heap.size w w4 := (b2.trans (hb3.mono (by omega))).grown hg4 (by omega) (fun k hk => (by have := (hown2y.lt _ hk).1; omega)))
      | (go_at_call 28; (refine (frame_any _ _ _ hown4' ?_).mono ?_); (rw [List.length_append]; omega); rintro e w5 ⟨ao5, cap5, rfl, hown5, hb5⟩))
    go_ret
    have e : ys ++ nb = a.inB := by rw [HY.out, HX.out, HI.out, h4]; rfl
    rw [e] at hown5
    exact ⟨ao5, cap5, by rw [e]; rfl, own_mono hown5 b4.size, b4.trans (hb5.mono b4.size)⟩
  · have h4' : (a.kind == 4) = false := by simpa using h4
    go_enter Try.func9, Try.ntmps9
    go_wp2_with (first
      | (at_builtin; (refine wpList_app_str rfl (.tmp 12) (.tmp 14) rfl (w.heap.size + 1) (.slice (some ⟨w.heap.size + 1, 0, none⟩) 2 2) 2 (u8s [UInt8.ofNat a.kind.toNat, UInt8.ofNat a.queue.size]) rfl (new_own1 w _ [UInt8.ofNat a.kind.toNat, UInt8.ofNat a.queue.size] _ (by simp [maxLen]) (HC _ _ (by omega) (by omega))) a.queue rfl (by (try simp) <;> omega) (by (try simp) <;> omega) ?_; intro ao1 cap1 w1 hown1 hg1 hm1; obtain ⟨hc1, hf1⟩ := own_far hg1 w.heap.size (by simp; omega) (by simp [Value.ownBlock]); obtain ⟨xs, HX, hxl, hown1⟩ := ask_xs hown1; have hz1 := hg1.size; simp at hz1; have hlt1 : w.heap.size < w1.heap.size := (by omega); have b1 : Below w.heap.size w w1 := ((below_alloc w _).alloc (by simp) _).grown hg1 (by simp; omega) (fun k hk => (by simp [Value.ownBlock] at hk; omega))))
      | (go_at_call 26; (refine (fappendNumber_any (w.heap.size + 1) _ xs a.n w1 hown1 (by omega) (by omega)).mono ?_); rintro e w2 ⟨v2, rfl, hown2, hg2, hm2⟩; obtain ⟨ys, ao2, cap2, HY, hyl, rfl, hown2y⟩ := num_ys hown2; obtain ⟨hc2, hf2⟩ := own_far hg2 w.heap.size hlt1 (fun e => (by have := (hown1.lt _ e.symm).1; omega)); have hz2 := hg2.size; have hlt2 : w.heap.size < w2.heap.size := (by omega); have b2 : Below w.heap.size w w2 := b1.grown hg2 (by omega) (fun k hk => (by have := (hown1.lt _ hk).1; omega)))
      | (go_at_call 28; (refine (frame_any _ _ _ (own_slice hown2y) ?_).mono ?_); omega; rintro e w5 ⟨ao5, cap5, rfl, hown5, hb5⟩))
    go_ret
    have e : ys = a.inB := by rw [HY.out, HX.out, HI.out, h4']; simp
    rw [e] at hown5
    exact ⟨ao5, cap5, by rw [e]; rfl, own_mono hown5 b2.size, b2.trans (hb5.mono b2.size)⟩

theorem say_zs {w : World} {base : Nat} {ao : Option Addr} {cap : Nat} {ys : List UInt8} {m e : Int} (h : w.ownsRow base 5 1 (.slice ao (ys.length + 2) cap) (ys.length + 2) (u8s ys ++ u8s [UInt8.ofNat m.toNat, UInt8.ofNat e.toNat])) :
    ∃ zs : List UInt8, Hid (zs = ys ++ [UInt8.ofNat m.toNat, UInt8.ofNat e.toNat]) ∧ zs.length ≤ ys.length + 2 ∧ w.ownsRow base 5 1 (.slice ao (ys.length + 2) cap) zs.length (u8s zs) := by
  refine ⟨ys ++ [UInt8.ofNat m.toNat, UInt8.ofNat e.toNat], rfl, by simp, ?_⟩
  rw [u8s_append, List.length_append]; exact h

theorem say_own {w : World} {base n : Nat} {ao : Option Addr} {cap : Nat} {zs : List UInt8} (h : w.ownsRow base 5 1 (.slice ao n cap) zs.length (u8s zs)) : SliceB w.heap.size w (.slice ao n cap) zs := own_slice h

set_option maxHeartbeats 1000000 in
theorem sayBytes_any (a : SD) (v u : Value) (w : World) (hr : a.wrong = 0) (hv : SliceP w.heap.size w v a.ps) (hu : SliceB w.heap.size w u a.body) :
    Calls Try.prog 11 #[.agg #[.int .i64 a.kind, .int .i64 a.n, .int .i64 a.m, .int .i64 a.err, v, u]] w fun e w' => ∃ ao cap, e = .returned (.slice ao (frameB a.inB).length cap) ∧ w'.ownsRow w.heap.size 5 1 (.slice ao (frameB a.inB).length cap) (frameB a.inB).length (u8s (frameB a.inB)) ∧ Below w.heap.size w w' := by
  obtain ⟨g1, g2, g3, g4, g5, g5', g6, g7, g8, g9⟩ := a.right hr
  have hin := a.inB_len hr
  have HL : Hid (a.inB.length ≤ 300) := hin
  clear hin
  have hkb : Hid (((UInt8.ofNat a.kind.toNat).toNat : Int) = a.kind) := byteI _ (by omega) (by omega)
  have hmb : Hid (((UInt8.ofNat a.m.toNat).toNat : Int) = a.m) := byteI _ (by omega) (by omega)
  have heb : Hid (((UInt8.ofNat a.err.toNat).toNat : Int) = a.err) := byteI _ (by omega) (by omega)
  have hbl := bytesF_len a.ps a.body g8
  have HA : ∀ W, SliceP W.heap.size W v a.ps → SliceB W.heap.size W u a.body → Calls Try.prog 27 #[.agg #[v, u]] W fun e w' => ∃ ao cap, e = .returned (.slice ao (bytesF a.ps a.body).length cap) ∧ w'.ownsRow W.heap.size 5 1 (.slice ao (bytesF a.ps a.body).length cap) (bytesF a.ps a.body).length (u8s (bytesF a.ps a.body)) ∧ Below W.heap.size W w' := fun W h1 h2 => bytes_v v u a.ps a.body W h1 h2 g8
  have W0 : Hid (SliceP w.heap.size w v a.ps ∧ SliceB w.heap.size w u a.body) := ⟨hv, hu⟩
  obtain ⟨va, vc, rfl, -⟩ := hv
  obtain ⟨ua, uc, rfl, -⟩ := hu
  have HC : ∀ x : Int, x = a.kind → (#[Value.int IntKind.u8 x] : Array Value).toList = u8s [UInt8.ofNat a.kind.toNat] := by
    intro x hx
    subst hx
    simp only [u8s, List.map_cons, List.map_nil, hkb.out]
  have HD : ∀ x y : Int, x = a.m → y = a.err → (#[Value.int IntKind.u8 x, Value.int IntKind.u8 y] : Array Value).toList = u8s [UInt8.ofNat a.m.toNat, UInt8.ofNat a.err.toNat] := by
    intro x y hx hy
    subst hx hy
    simp only [u8s, List.map_cons, List.map_nil, hmb.out, heb.out]
  obtain ⟨nb, hnb⟩ : ∃ nb, nb = bytesF a.ps a.body := ⟨_, rfl⟩
  rw [← hnb] at HA hbl
  have hI : a.inB = UInt8.ofNat a.kind.toNat :: num4 a.n ++ [UInt8.ofNat a.m.toNat, UInt8.ofNat a.err.toNat] ++ (if a.kind == 2 then nb else []) := by rw [hnb]; rfl
  have HI : Hid (a.inB = UInt8.ofNat a.kind.toNat :: num4 a.n ++ [UInt8.ofNat a.m.toNat, UInt8.ofNat a.err.toNat] ++ (if a.kind == 2 then nb else [])) := hI
  clear hI hnb hr
  by_cases h4 : a.kind = 2
  · go_enter Try.func11, Try.ntmps11
    go_wp2_with (first
      | (go_at_call 26; (refine (fappendNumber_any (w.heap.size + 1) (.slice (some ⟨w.heap.size + 1, 0, none⟩) 1 1) [UInt8.ofNat a.kind.toNat] a.n _ (new_own1 w _ [UInt8.ofNat a.kind.toNat] _ (by simp [maxLen]) (HC _ (by omega))) (by simp) (by simp)).mono ?_); rintro e w2 ⟨v2, rfl, hown2, hg2, hm2⟩; obtain ⟨hc2, hf2⟩ := own_far hg2 w.heap.size (by simp; omega) (by simp [Value.ownBlock]); obtain ⟨ys, ao2, cap2, HY, hyl, rfl, hown2y⟩ := num_ys hown2; have hyl' : ys.length ≤ 5 := (by simpa using hyl); have hz2 := hg2.size; simp at hz2; have hlt2 : w.heap.size < w2.heap.size := (by omega); have b2 : Below w.heap.size w w2 := ((below_alloc w _).alloc (by simp) _).grown hg2 (by simp; omega) (fun k hk => (by simp [Value.ownBlock] at hk; omega)))
      | (at_builtin; (refine wpList_app rfl (.tmp 11) (.tmp 18) rfl (w.heap.size + 1) _ ys.length (u8s ys) rfl (hown2y.alloc _) (w2.heap.size + 1) _ [UInt8.ofNat a.m.toNat, UInt8.ofNat a.err.toNat] rfl (new_bytes w2 [UInt8.ofNat a.m.toNat, UInt8.ofNat a.err.toNat] _ (by simp [maxLen]) (HD _ _ (by first | omega | exact hmb.out) (by first | omega | exact heb.out))) (by (try simp) <;> omega) (by (try simp) <;> omega) ?_); intro ao6 cap6 w6 hown6 hg6 hm6; obtain ⟨hc6, hf6⟩ := own_far hg6 w.heap.size (by simp; omega) (fun e => (by have := (hown2y.lt _ e.symm).1; omega)); obtain ⟨zs, HZ, hzl, hown6z⟩ := say_zs hown6; have hz6 := hg6.size; simp at hz6; have hlt6 : w.heap.size < w6.heap.size := (by omega); have b6 : Below w.heap.size w w6 := (b2.alloc (by omega) _).grown hg6 (by simp; omega) (fun k hk => (by have := (hown2y.lt _ hk).1; omega)))
      | (go_at_call 27; (refine (HA _ ?_ ?_).mono ?_); (exact W0.out.1.below b6); (exact W0.out.2.below b6); rintro e w3 ⟨ao3, cap3, rfl, hown3, hb3⟩; obtain ⟨hc3, hf3⟩ := bcell hb3; have hz3 := hb3.size)
      | (at_builtin; (refine wpList_app rfl (.tmp 23) (.tmp 26) rfl (w.heap.size + 1) _ zs.length (u8s zs) rfl (own_bl hown6z hb3) w3.heap.size _ nb rfl (own_slice hown3) (by omega) (by omega) ?_); intro ao4 cap4 w4 hown4 hg4 hm4; have hown4' := own_slice (app_zs hown4); have b4 : Below w.heap.size w w4 := (b6.trans (hb3.mono (by omega))).grown hg4 (by omega) (fun k hk => (by have := (hown6z.lt _ hk).1; omega)))
      | (go_at_call 28; (refine (frame_any _ _ _ hown4' ?_).mono ?_); (rw [List.length_append]; omega); rintro e w5 ⟨ao5, cap5, rfl, hown5, hb5⟩))
    go_ret
    have e : zs ++ nb = a.inB := by rw [HZ.out, HY.out, HI.out, h4]; simp
    rw [e] at hown5
    exact ⟨ao5, cap5, by rw [e]; rfl, own_mono hown5 b4.size, b4.trans (hb5.mono b4.size)⟩
  · have h4' : (a.kind == 2) = false := by simpa using h4
    go_enter Try.func11, Try.ntmps11
    go_wp2_with (first
      | (go_at_call 26; (refine (fappendNumber_any (w.heap.size + 1) (.slice (some ⟨w.heap.size + 1, 0, none⟩) 1 1) [UInt8.ofNat a.kind.toNat] a.n _ (new_own1 w _ [UInt8.ofNat a.kind.toNat] _ (by simp [maxLen]) (HC _ (by omega))) (by simp) (by simp)).mono ?_); rintro e w2 ⟨v2, rfl, hown2, hg2, hm2⟩; obtain ⟨hc2, hf2⟩ := own_far hg2 w.heap.size (by simp; omega) (by simp [Value.ownBlock]); obtain ⟨ys, ao2, cap2, HY, hyl, rfl, hown2y⟩ := num_ys hown2; have hyl' : ys.length ≤ 5 := (by simpa using hyl); have hz2 := hg2.size; simp at hz2; have hlt2 : w.heap.size < w2.heap.size := (by omega); have b2 : Below w.heap.size w w2 := ((below_alloc w _).alloc (by simp) _).grown hg2 (by simp; omega) (fun k hk => (by simp [Value.ownBlock] at hk; omega)))
      | (at_builtin; (refine wpList_app rfl (.tmp 11) (.tmp 18) rfl (w.heap.size + 1) _ ys.length (u8s ys) rfl (hown2y.alloc _) (w2.heap.size + 1) _ [UInt8.ofNat a.m.toNat, UInt8.ofNat a.err.toNat] rfl (new_bytes w2 [UInt8.ofNat a.m.toNat, UInt8.ofNat a.err.toNat] _ (by simp [maxLen]) (HD _ _ (by first | omega | exact hmb.out) (by first | omega | exact heb.out))) (by (try simp) <;> omega) (by (try simp) <;> omega) ?_); intro ao6 cap6 w6 hown6 hg6 hm6; obtain ⟨hc6, hf6⟩ := own_far hg6 w.heap.size (by simp; omega) (fun e => (by have := (hown2y.lt _ e.symm).1; omega)); obtain ⟨zs, HZ, hzl, hown6z⟩ := say_zs hown6; have hz6 := hg6.size; simp at hz6; have hlt6 : w.heap.size < w6.heap.size := (by omega); have b6 : Below w.heap.size w w6 := (b2.alloc (by omega) _).grown hg6 (by simp; omega) (fun k hk => (by have := (hown2y.lt _ hk).1; omega)))
      | (go_at_call 28; (refine (frame_any _ zs _ (say_own hown6z) ?_).mono ?_); omega; rintro e w5 ⟨ao5, cap5, rfl, hown5, hb5⟩))
    go_ret
    have e : zs = a.inB := by rw [HZ.out, HY.out, HI.out, h4']; simp
    rw [e] at hown5
    exact ⟨ao5, cap5, by rw [e]; rfl, own_mono hown5 b6.size, b6.trans (hb5.mono b6.size)⟩
end Go.Proofs.Ytnfmidbbelgldaa
