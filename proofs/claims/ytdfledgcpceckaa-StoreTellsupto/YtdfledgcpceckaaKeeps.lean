/-
  The ways of tglaw2.StoreKeeps: true on each.
-/
import Derived.Test.YtdfledgcpceckaaAlive
namespace Go.Proofs.Ytdfledgcpceckaa
open Go.RowKit
set_option linter.unusedVariables false
set_option linter.unusedSimpArgs false

attribute [local go_sem ↓] Go.wp_at_zero Go.wp_at_succ

set_option maxRecDepth 100000 in
set_option maxHeartbeats 1600000 in
theorem keeps_err1 (va vb : Value) (A B : List (List UInt8)) (keep : Int) (w : World) (hA : SliceS w.heap.size w va A) (hB : SliceS w.heap.size w vb B) (hna : A.length ≤ 8796093022208) (he : ¬ appE [] A = 0) :
    Calls Try.prog 6 #[va, vb, .int .i64 keep] w fun e w' => e = .returned (.bool true) ∧ Below w.heap.size w w' := by
  have HV : Hid (SliceS w.heap.size w va A) := hA
  obtain ⟨aa, ac, rfl, ha1, ha2⟩ := hA.shape
  obtain ⟨ba, bc, rfl, hb1, hb2⟩ := hB.shape
  obtain ⟨E, hE⟩ : ∃ E, E = appE [] A := ⟨_, rfl⟩
  have HE : Hid (E = appE [] A) := hE
  rw [← hE] at he
  have hen : (E != 0) = true := by simpa using he
  clear hE hA hB
  go_enter Try.func6, Try.ntmps6
  go_wp2_with (first
    | (go_at_call 33; refine (alive_any _).mono ?_; rintro e w1 ⟨rfl, hw1⟩)
    | (go_at_call 27; refine (append_any _ _ 0 [] A _ (SliceB.nil _ _) (HV.out.below hw1) hna (by decide)).mono ?_; rw [← HE.out]; rintro e w2 ⟨ao1, cap1, rfl, hs1, hw2⟩))
  go_ret
  exact ⟨rfl, (hw1.trans (hw2.mono hw1.size)).alloc (hw1.trans (hw2.mono hw1.size)).size _⟩

set_option maxRecDepth 100000 in
set_option maxHeartbeats 800000 in
/-- Sync's bytes are its own. -/
theorem sync_own (u : Value) (sure : Int) (l : List UInt8) (w : World) (hu : SliceB w.heap.size w u l) (hl : l.length ≤ 140737488355328) :
    Calls Try.prog 26 #[.agg #[u, .int .i64 sure]] w fun e w' => ∃ ao cap, e = .returned (.agg #[.slice ao l.length cap, .int .i64 l.length]) ∧ w'.ownsRow w.heap.size 5 1 (.slice ao l.length cap) l.length (u8s l) ∧ Below w.heap.size w w' := by
  have HU : Hid (∀ o1 o2 : Obj, SliceB (((w.alloc o1).alloc o2)).heap.size ((w.alloc o1).alloc o2) u l) := fun o1 o2 => (hu.below (below_alloc _ _)).below (below_alloc _ _)
  obtain ⟨ua, uc, rfl, -⟩ := hu
  go_enter Try.func26, Try.ntmps26
  go_wp2
  go_region_with (go_at_call 46; refine (copied_any _ _ l _ (HU.out _ _).drew hl).mono ?_; rintro e w1 ⟨ao, cap, rfl, hown1, hb1⟩; have hb1' := Below.trans (Below.drew (Below.refl _ _)) hb1; obtain ⟨k1, k2⟩ := bcell hb1; have hz1 := hb1.size; simp at hz1)
  all_goals go_wp2
  all_goals
    refine bodyPost_ret (v := .agg #[.slice ao l.length cap, .int .i64 l.length]) (by simp [results, Try.results26, go_sem, *]; done) rfl ⟨_, _, rfl, own_mono (ownsRow_setCell_below (ownsRow_setCell_below hown1 (by simp) _) (by simp) _) (by simp; omega), ?_⟩
    exact ((((below_alloc _ _).alloc (by simp) _).drew.trans (hb1.mono (by simp; omega))).setCell (by simp) _).setCell (by simp) _

theorem set_blk {w : World} {g : Nat} {a b : Value} (hb : g < w.heap.size) : Below g w ((w.setCell ⟨g, 0, none⟩ a).setCell ⟨g, 1, none⟩ b) :=
  ((Below.refl _ _).setCell (by simp) _).setCell (by simp) _

set_option maxRecDepth 100000 in
set_option maxHeartbeats 3200000 in
theorem keeps_err2 (va vb : Value) (A B : List (List UInt8)) (keep : Int) (w : World) (hA : SliceS w.heap.size w va A) (hB : SliceS w.heap.size w vb B) (hna : A.length ≤ 8796093022208) (hnb : B.length ≤ 8796093022208) (he : appE [] A = 0) (he2 : ¬ appE (framesB A) B = 0) :
    Calls Try.prog 6 #[va, vb, .int .i64 keep] w fun e w' => e = .returned (.bool true) ∧ Below w.heap.size w w' := by
  have HV : Hid (∀ W, Below w.heap.size w W → SliceS W.heap.size W va A) := fun W h => hA.below h
  have HVB : Hid (∀ W, Below w.heap.size w W → SliceS W.heap.size W vb B) := fun W h => hB.below h
  obtain ⟨aa, ac, rfl, ha1, ha2⟩ := hA.shape
  obtain ⟨ba, bc, rfl, hb1, hb2⟩ := hB.shape
  obtain ⟨hsm, hle, hBB⟩ := appE_zero [] A he
  rw [List.nil_append] at hBB
  have HE : Hid (appE [] A = 0) := he
  have HB : Hid (appB [] A = framesB A) := hBB
  have hfl := framesB_len A
  obtain ⟨L, hL⟩ : ∃ L, L = framesB A := ⟨_, rfl⟩
  rw [← hL] at HB hfl he2
  have hLl : L.length ≤ 6000 := by simp at hle; omega
  obtain ⟨E, hE⟩ : ∃ E, E = appE L B := ⟨_, rfl⟩
  have HE2 : Hid (E = appE L B) := hE
  rw [← hE] at he2
  have hen : (E != 0) = true := by simpa using he2
  clear hE hL hA hB hsm hle hfl hBB he
  go_enter Try.func6, Try.ntmps6
  go_wp2_with (first
    | (go_at_call 33; refine (alive_any _).mono ?_; rintro e w1 ⟨rfl, hw1⟩)
    | (go_at_call_of 27 aa; refine (append_any _ _ 0 [] A _ (SliceB.nil _ _) (HV.out _ hw1) hna (by decide)).mono ?_; rw [HE.out, HB.out]; rintro e w2 ⟨ao2, cap2, rfl, hs2, hw2⟩; have b2 := hw1.trans (hw2.mono hw1.size); have H2 : Hid (SliceB w2.heap.size w2 (.slice ao2 L.length cap2) L) := hs2; clear hs2)
    | (go_at_call 26; refine (sync_own _ 0 L _ (H2.out.below (below_alloc _ _)) (by omega)).mono ?_; rintro e w3 ⟨ao3, cap3, rfl, hs3, hw3⟩; have b3 := (b2.alloc b2.size _).trans (hw3.mono (by have := b2.size; simp; omega)); obtain ⟨k1, k2⟩ := bcell hw3; have hz3 : w2.heap.size < w3.heap.size := (by have := hw3.size; simp at this; omega); have b3s : ∀ x y, Below w.heap.size w ((w3.setCell ⟨w2.heap.size, 0, none⟩ x).setCell ⟨w2.heap.size, 1, none⟩ y) := (fun x y => (b3.setCell b2.size _).setCell b2.size _); have h3s : ∀ x y, SliceB ((w3.setCell ⟨w2.heap.size, 0, none⟩ x).setCell ⟨w2.heap.size, 1, none⟩ y).heap.size ((w3.setCell ⟨w2.heap.size, 0, none⟩ x).setCell ⟨w2.heap.size, 1, none⟩ y) (.slice ao3 L.length cap3) L := (fun x y => own_slice (ownsRow_setCell_below (ownsRow_setCell_below hs3 (by simp) _) (by simp) _)); have H3 : Hid (∀ x y, _) := h3s; clear hs3 h3s)
    | (go_at_call_of 27 ba; refine (append_any _ _ _ L B _ (H3.out _ _) (HVB.out _ (b3s _ _)) hnb (by omega)).mono ?_; rw [← HE2.out]; rintro e w4 ⟨ao4, cap4, rfl, hs4, hw4⟩))
  go_ret
  have b4 := (b3s _ _).trans (hw4.mono (b3s _ _).size)
  exact ⟨rfl, b4.alloc b4.size _⟩

theorem keeps_pure (A B : List (List UInt8)) (keep : Int) (h : ∀ r ∈ A ++ B, r.length < 65536) :
    ∃ j, A.length ≤ j ∧ j ≤ A.length + B.length ∧ crashB (framesB A ++ framesB B) (framesB A).length keep = framesB ((A ++ B).take j) ∧ recsF (framesB ((A ++ B).take j)) = (A ++ B).take j ∧
      (¬ keep < ((framesB A ++ framesB B).length : Int) - (framesB A).length → j = A.length + B.length) := by
  have e0 : framesB A ++ framesB B = framesB (A ++ B) := (framesB_append A B).symm
  have hb := keptN_bounds (framesB (A ++ B)).length (framesB A).length keep (by omega) (by rw [framesB_append]; simp; omega)
  obtain ⟨j, h1, h2, h3, h4, h5⟩ := crash_frames (A ++ B) (keptN (framesB (A ++ B)).length (framesB A).length keep).toNat h
  refine ⟨j, ?_, by simpa using h1, ?_, h5, ?_⟩
  · refine h3 A.length (by simp) ?_
    rw [List.take_left' rfl, ← framesB_len]
    omega
  · rw [e0]
    unfold crashB leftB
    rw [h2, h4]
  · intro hk
    have h6 := h3 (A ++ B).length (Nat.le_refl _) (by
      rw [List.take_of_length_le (Nat.le_refl _), ← framesB_len]
      rw [e0] at hk
      unfold keptN
      omega)
    simp at h6 h1
    omega

theorem Each.below {w w' : World} {vs : List Value} {rs : List (List UInt8)} (h : Each w.heap.size w vs rs) (hb : Below w.heap.size w w') : Each w'.heap.size w' vs rs := (h.same hb.block).mono hb.size
theorem SliceV.below {w w' : World} {v : Value} {vs : List Value} (h : SliceV w.heap.size w v vs) (hb : Below w.heap.size w w') : SliceV w'.heap.size w' v vs := (h.same hb.block).mono hb.size
theorem Each.append {B : Nat} {w : World} {vs us : List Value} {rs qs : List (List UInt8)} (h : Each B w vs rs) (k : Each B w us qs) : Each B w (vs ++ us) (rs ++ qs) := by
  refine ⟨by simp [h.1, k.1], fun i hi => ?_⟩
  by_cases hlt : i < rs.length
  · obtain ⟨u, e, hs⟩ := h.2 i hlt
    exact ⟨u, by rw [List.getElem?_append_left (by rw [h.1]; exact hlt)]; exact e, by rw [List.getElem_append_left hlt]; exact hs⟩
  · obtain ⟨u, e, hs⟩ := k.2 (i - rs.length) (by simp at hi; omega)
    exact ⟨u, by rw [List.getElem?_append_right (by rw [h.1]; omega), h.1]; exact e, by rw [List.getElem_append_right (by omega)]; exact hs⟩

/-- A new, empty row of slices. -/
theorem new_rowV (W : World) (base : Nat) (hb : base ≤ W.heap.size) : (W.alloc (.cells #[] 23)).ownsRow base 23 1 (.slice (some ⟨W.heap.size, 0, none⟩) 0 0) 0 [] :=
  ⟨by simp, .inr ⟨W.heap.size, 0, #[], rfl, hb, heap_alloc_new W _, Nat.le_refl _, by simp [maxLen], by simp, by simp⟩⟩

theorem wpList_appN {w : World} {ops : Array Oper} {rest : List Oper} {o : Oper} {a : Act} {Q : Exit → Act → World → Prop} (hgd : o.guard = none) (s x : Operand) (ho : o.op = .call { callee := .builtin .append, args := #[s, x], argTypes := #[39, 39] })
    (base : Nat) (v : Value) (n N : Nat) (xs : List Value) (hs : a.eval s = v) (hown : w.ownsRow base 23 1 v n xs) (B : Nat) (u : Value) (vs : List Value) (hx : a.eval x = u) (hu : SliceV B w u vs) (h1c : ∀ x ∈ vs, x.oneCell' = true) (hN : n + vs.length = N)
    (hb : N * 24 ≤ 140737488355328) (hbase : base ≤ w.heap.size)
    (h : ∀ ao cap w', w'.ownsRow base 23 1 (.slice ao N cap) N (xs ++ vs) → Below base w w' → wpList Try.prog ops Q rest (a.put o.dst (.slice ao N cap)) w') :
    wpList Try.prog ops Q (o :: rest) a w := by
  subst hN
  exact wpList_appV hgd s x ho base v n xs hs hown B u vs hx hu h1c hb hbase (fun ao cap w' h1 h2 _ => h ao cap w' h1 (own_dropG hown hbase h2))

set_option maxRecDepth 100000 in
set_option maxHeartbeats 6400000 in
theorem keeps_main (va vb : Value) (A B : List (List UInt8)) (keep : Int) (w : World) (hA : SliceS w.heap.size w va A) (hB : SliceS w.heap.size w vb B) (hna : A.length ≤ 8796093022208) (hnb : B.length ≤ 8796093022208) (hk1 : keep ≤ 9223372036854775807) (hk2 : -9223372036854775808 ≤ keep) (he : appE [] A = 0) (he2 : appE (framesB A) B = 0) :
    Calls Try.prog 6 #[va, vb, .int .i64 keep] w fun e w' => e = .returned (.bool true) ∧ Below w.heap.size w w' := by
  have HV : Hid (∀ W, Below w.heap.size w W → SliceS W.heap.size W va A) := fun W h => hA.below h
  have HVB : Hid (∀ W, Below w.heap.size w W → SliceS W.heap.size W vb B) := fun W h => hB.below h
  obtain ⟨us, hvA, heA⟩ := id hA
  obtain ⟨vs, hvB, heB⟩ := id hB
  have HU1 : Hid (∀ W, Below w.heap.size w W → SliceV W.heap.size W va us) := fun W h => hvA.below h
  have HU2 : Hid (∀ W, Below w.heap.size w W → SliceV W.heap.size W vb vs) := fun W h => hvB.below h
  have HUE : Hid (∀ W, Below w.heap.size w W → Each W.heap.size W (us ++ vs) (A ++ B)) := fun W h => (heA.below h).append (heB.below h)
  have HO1 : Hid (∀ x ∈ us, x.oneCell' = true) := heA.one
  have HO2 : Hid (∀ x ∈ vs, x.oneCell' = true) := heB.one
  have hlu : us.length = A.length := heA.1
  have hlv : vs.length = B.length := heB.1
  obtain ⟨aa, ac, rfl, ha1, ha2⟩ := hA.shape
  obtain ⟨ba, bc, rfl, hb1, hb2⟩ := hB.shape
  obtain ⟨hsm, hle, hBB⟩ := appE_zero [] A he
  rw [List.nil_append] at hBB
  obtain ⟨hsm2, hle2, hBB2⟩ := appE_zero (framesB A) B he2
  have HE : Hid (appE [] A = 0) := he
  have HB : Hid (appB [] A = framesB A) := hBB
  have HE2 : Hid (appE (framesB A) B = 0) := he2
  have HB2 : Hid (appB (framesB A) B = framesB A ++ framesB B) := hBB2
  obtain ⟨j, hj1, hj2, hj3, hj4, hj5⟩ := keeps_pure A B keep (fun r hr => by rcases List.mem_append.1 hr with h | h; exact hsm r h; exact hsm2 r h)
  have hfl := framesB_len A
  have hfl2 := framesB_len B
  have hln1 := sizeR_len4 A
  have hln2 := sizeR_len4 B
  have hcl := framesB_len ((A ++ B).take j)
  have hcs := sizeR_le (A ++ B) j
  rw [sizeR_append] at hcs
  obtain ⟨C, hC⟩ : ∃ C, C = framesB ((A ++ B).take j) := ⟨_, rfl⟩
  rw [← hC] at hj3 hj4 hcl
  have hMl : ((framesB A ++ framesB B).length : Int) = (framesB A ++ framesB B).length := rfl
  obtain ⟨L, hL⟩ : ∃ L, L = framesB A := ⟨_, rfl⟩
  obtain ⟨M, hM⟩ : ∃ M, M = framesB A ++ framesB B := ⟨_, rfl⟩
  have hLM : M.length = L.length + (framesB B).length := by rw [hL, hM]; simp
  rw [← hM] at HB2 hj3 hj5
  rw [← hL] at HB HE2 HB2 hfl hj3 hj5
  have hLl : L.length ≤ M.length := by omega
  have hMl : M.length ≤ 6000 := by rw [hLM, hfl2]; rw [← hL] at hle2; omega
  have hCl : C.length ≤ 6000 := by simp at hle; omega
  have hA15 : A.length ≤ 6000 := by simp at hle; omega
  have hB15 : B.length ≤ 6000 := by omega
  have HC : Hid (crashB M L.length keep = C) := hj3
  have HR : Hid (recsF C = (A ++ B).take j) := hj4
  have HS : Hid (sizeR ((A ++ B).take j) = C.length) := hcl.symm
  have hRl : ((A ++ B).take j).length = j := by simp; omega
  have HRL : Hid (((A ++ B).take j).length = j) := hRl
  have HJ : Hid (¬ keep < (M.length : Int) - L.length → j = A.length + B.length) := hj5
  clear hC hL hM hj3 hj4 hj5 hA hB hvA hvB heA heB hsm hsm2 hle hle2 hfl hfl2 hBB hBB2 hcl hcs he he2 hRl hLM
  go_enter Try.func6, Try.ntmps6
  go_wp2_with (first
    | (go_at_call 33; refine (alive_any _).mono ?_; rintro e w1 ⟨rfl, hw1⟩)
    | (go_at_call_of 27 aa; refine (append_any _ _ 0 [] A _ (SliceB.nil _ _) (HV.out _ hw1) hna (by decide)).mono ?_; rw [HE.out, HB.out]; rintro e w2 ⟨ao2, cap2, rfl, hs2, hw2⟩; have b2 := hw1.trans (hw2.mono hw1.size); have H2 : Hid (SliceB w2.heap.size w2 (.slice ao2 L.length cap2) L) := hs2; clear hs2)
    | (go_at_call 26; refine (sync_own _ 0 L _ (H2.out.below (below_alloc _ _)) (by omega)).mono ?_; rintro e w3 ⟨ao3, cap3, rfl, hs3, hw3⟩; have b3 := (b2.alloc b2.size _).trans (hw3.mono (by have := b2.size; simp; omega)); obtain ⟨k1, k2⟩ := bcell hw3; have hz3 : w2.heap.size < w3.heap.size := (by have := hw3.size; simp at this; omega); have b3s : ∀ x y, Below w.heap.size w ((w3.setCell ⟨w2.heap.size, 0, none⟩ x).setCell ⟨w2.heap.size, 1, none⟩ y) := (fun x y => (b3.setCell b2.size _).setCell b2.size _); have h3s : ∀ x y, SliceB ((w3.setCell ⟨w2.heap.size, 0, none⟩ x).setCell ⟨w2.heap.size, 1, none⟩ y).heap.size ((w3.setCell ⟨w2.heap.size, 0, none⟩ x).setCell ⟨w2.heap.size, 1, none⟩ y) (.slice ao3 L.length cap3) L := (fun x y => own_slice (ownsRow_setCell_below (ownsRow_setCell_below hs3 (by simp) _) (by simp) _)); have H3 : Hid (∀ x y, _) := h3s; clear hs3 h3s)
    | (go_at_call_of 27 ba; refine (append_any _ _ L.length L B _ (H3.out _ _) (HVB.out _ (b3s _ _)) hnb (by omega)).mono ?_; rw [HE2.out, HB2.out]; rintro e w4 ⟨ao4, cap4, rfl, hs4, hw4⟩; have b4 := (b3s _ _).trans (hw4.mono (b3s _ _).size); have H4 : Hid (SliceB w4.heap.size w4 (.slice ao4 M.length cap4) M) := hs4; clear hs4 k1 k2 b3s H3)
    | (go_at_call 29; refine (crash_any _ L.length keep M _ (H4.out.below (below_alloc _ _)) (by omega) (by omega) hk1 hk2 (by omega)).mono ?_; rw [HC.out]; rintro e w5 ⟨ao5, cap5, rfl, hs5, hw5⟩; have b5 := (b4.alloc b4.size _).trans (hw5.mono (by have := b4.size; simp; omega)); have H5 : Hid (SliceB w5.heap.size w5 (.slice ao5 C.length cap5) C) := hs5; clear hs5; obtain ⟨k51, k52, k53⟩ := blk2 (g := w4.heap.size) rfl hw5)
    | (go_at_call 31; refine (records_any _ C _ (H5.out.below (below_alloc _ _)) (by omega)).mono ?_; rw [HR.out, HS.out, HRL.out]; rintro e w6 ⟨ao6, cap6, rfl, hs6, hw6⟩; have b6 := (b5.alloc b5.size _).trans (hw6.mono (by have := b5.size; simp; omega)); have H6 : Hid (SliceS w6.heap.size w6 (.slice ao6 j cap6) ((A ++ B).take j)) := hs6; clear hs6; obtain ⟨k61, k62, k63⟩ := blk2 (g := w5.heap.size) rfl hw6)
    | (at_builtin; refine wpList_appN rfl (.tmp 72) (.tmp 73) rfl w6.heap.size _ 0 A.length [] rfl (new_rowV _ _ (Nat.le_refl _)) _ _ us rfl (HU1.out _ (b6.alloc b6.size _)) HO1.out (by omega) (by omega) (by simp) ?_; intro ao7 cap7 w7 hown7 hw7; rw [List.nil_append] at hown7; have c7 : Below w6.heap.size w6 w7 := ((below_alloc _ _).trans hw7))
    | (at_builtin; refine wpList_appN rfl (.tmp 74) (.tmp 75) rfl w6.heap.size _ A.length (A.length + B.length) us rfl hown7 _ _ vs rfl (HU2.out _ (b6.trans (c7.mono b6.size))) HO2.out (by omega) (by omega) c7.size ?_; intro ao8 cap8 w8 hown8 hw8; have c8 : Below w6.heap.size w6 w8 := c7.trans hw8; have H8 : Hid (w8.ownsRow w6.heap.size 23 1 (.slice ao8 (A.length + B.length) cap8) (A.length + B.length) (us ++ vs)) := hown8; clear hown8 hown7))
  have c8' : Below w.heap.size w w8 := b6.trans (c8.mono b6.size)
  have HX : Hid (∀ n, SliceS (w8.drewN n).heap.size (w8.drewN n) (.slice ao8 (A.length + B.length) cap8) (A ++ B)) := fun n => by
    have h1 := own_sliceV (vs := us ++ vs) (by rw [List.length_append, hlu, hlv]; exact H8.out)
    have : SliceS w8.heap.size w8 (.slice ao8 (A.length + B.length) cap8) (A ++ B) := ⟨us ++ vs, h1, HUE.out _ c8'⟩
    exact this.same (fun _ _ => rfl)
  have HY : Hid (∀ n, SliceS (w8.drewN n).heap.size (w8.drewN n) (.slice ao6 j cap6) ((A ++ B).take j)) := fun n => (H6.out.below c8).same (fun _ _ => rfl)
  have k81 : w8.cell? ⟨w4.heap.size, 0, none⟩ = some (.slice ao4 M.length cap4) := (c8.cell (by have := hw6.size; simp at this; dsimp only; omega)).trans ((hw6.cell (by simp; omega)).trans ((World.cell?_alloc_lt _ _ _ k53).trans k51))
  have k82 : w8.cell? ⟨w4.heap.size, 1, none⟩ = some (.int .i64 L.length) := (c8.cell (by have := hw6.size; simp at this; dsimp only; omega)).trans ((hw6.cell (by simp; omega)).trans ((World.cell?_alloc_lt _ _ _ k53).trans k52))
  go_loopw [78] (fun i wr => ∃ k n : Nat, k ≤ A.length + B.length ∧ i = .int .i64 k ∧ wr = w8.drewN n) (fun i _ => A.length + B.length - (intOf i).toNat)
  case atStart => exact ⟨0, 0, Nat.zero_le _, rfl, rfl⟩
  case round =>
    obtain ⟨k, n, hk, rfl, rfl⟩ := hrel
    by_cases hlt : k < A.length + B.length
    · obtain ⟨g, off, xa, xc, rfl, hc, hs, hg, hx1, hx2⟩ := (HX.out n).at k (by simp; omega)
      have hk' : k < (A ++ B).length := by simp; omega
      obtain ⟨X, hX⟩ : ∃ X, X = (A ++ B)[k]'hk' := ⟨_, rfl⟩
      rw [← hX] at hc hs hx2
      have hcx : ∀ m, (convert 23 9 (.slice xa X.length xc)).run Try.prog (w8.drewN m) = .ok (.string (bstr X)) (w8.drewN m) := fun m => conv_str (hs.same (w' := w8.drewN m) (fun _ _ => rfl))
      simp only [World.cell?_drewN] at hc
      have lk : (k : Int) < (A.length : Int) + (B.length : Int) := by omega
      by_cases hltj : k < j
      · obtain ⟨g', off', ya, yc, rfl, hc', hs', hg', hy1, hy2⟩ := (HY.out n).at k (by rw [HRL.out]; exact hltj)
        have eX : ((A ++ B).take j)[k]'(by rw [HRL.out]; exact hltj) = X := by rw [hX]; simp
        rw [eX] at hc' hs' hy2
        have hcy : ∀ m, (convert 23 9 (.slice ya X.length yc)).run Try.prog (w8.drewN m) = .ok (.string (bstr X)) (w8.drewN m) := fun m => conv_str (hs'.same (w' := w8.drewN m) (fun _ _ => rfl))
        simp only [World.cell?_drewN] at hc'
        have lj : (k : Int) < (j : Int) := by omega
        clear hX eX hs hs'
        go_wp2
        go_quiet (fail)
        go_wp2
        go_roundw
        case rel => exact ⟨k + 1, _, by omega, by go_num, by first | rfl | exact World.drewN_drewN _ _ _⟩
        case measure => simp [intOf]; omega
      · have hd : decide ((k : Int) < (j : Int)) = false := decide_eq_false (by omega)
        clear hX hs
        go_wp2
        go_quiet (fail)
        go_wp2
        go_roundw
        case rel => exact ⟨k + 1, _, by omega, by go_num, by first | rfl | exact World.drewN_drewN _ _ _⟩
        case measure => simp [intOf]; omega
    · by_cases hkp : keep < (M.length : Int) - L.length
      · go_wp2
        go_ret
        exact ⟨ret_bool (by simp), below_drewN c8' n⟩
      · have ej := HJ.out (by omega)
        subst ej
        go_wp2
        go_ret
        exact ⟨ret_bool (by simp), below_drewN c8' n⟩

theorem keeps_any (va vb : Value) (A B : List (List UInt8)) (keep : Int) (w : World) (hA : SliceS w.heap.size w va A) (hB : SliceS w.heap.size w vb B) (hna : A.length ≤ 8796093022208) (hnb : B.length ≤ 8796093022208) (hk1 : keep ≤ 9223372036854775807) (hk2 : -9223372036854775808 ≤ keep) :
    Calls Try.prog 6 #[va, vb, .int .i64 keep] w fun e w' => e = .returned (.bool true) ∧ Below w.heap.size w w' := by
  by_cases he : appE [] A = 0
  · by_cases he2 : appE (framesB A) B = 0
    · exact keeps_main va vb A B keep w hA hB hna hnb hk1 hk2 he he2
    · exact keeps_err2 va vb A B keep w hA hB hna hnb he he2
  · exact keeps_err1 va vb A B keep w hA hB hna he
end Go.Proofs.Ytdfledgcpceckaa
