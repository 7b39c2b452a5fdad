/-
  The reader of lines: note.
-/
import Derived.Test.YtedhlbknbaggiaaGreatDoorLnRead2
import Derived.Test.YtedhlbknbaggiaaGreatDoorLnApp
import Derived.Deep.LoopGhost
import Derived.Deep.RegionLaw
namespace Go.Proofs.YtedhlbknbaggiaaGreatDoor
open Go.RowKit
set_option linter.unusedVariables false
set_option linter.unusedSimpArgs false

attribute [local go_sem ↓] Go.wp_at_zero Go.wp_at_succ

def cellsL (l : List PD) : List Value := l.flatMap PD.cells
theorem cellsL_snoc (l : List PD) (p : PD) : cellsL (l ++ [p]) = cellsL l ++ p.cells := by simp [cellsL]
theorem cellsL_at (l : List PD) (i j : Nat) (h : i < l.length) (hj : j < 4) : (cellsL l)[i * 4 + j]? = l[i].cells[j]? := by
  induction l generalizing i with
  | nil => simp at h
  | cons p r ih =>
    have e : cellsL (p :: r) = p.cells ++ cellsL r := by simp [cellsL]
    rw [e]
    cases i with
    | zero => rw [List.getElem?_append_left (by simp [PD.cells]; omega)]; simp
    | succ i =>
      rw [List.getElem?_append_right (by simp [PD.cells]; omega)]
      have := ih i (by simpa using h)
      simp only [PD.cells, List.length_cons, List.length_nil] at this ⊢
      rw [show (i + 1) * 4 + j - (0 + 1 + 1 + 1 + 1) = i * 4 + j by omega, this]
      simp
/-- What is owned reads as a slice of properties. -/
theorem own_props {w : World} {base : Nat} {v : Value} {ps : List PD} (h : w.ownsRow base 36 4 v ps.length (cellsL ps)) : SliceP w.heap.size w v ps := by
  have hl := h.lt
  obtain ⟨ao, cap, rfl, h1, h2, h3⟩ := own_shape h
  refine ⟨ao, cap, rfl, h1, h2, h3, fun i hi => ?_⟩
  rcases h.2 with ⟨e, h0⟩ | ⟨g, cap', cur, e, hb, hg, _⟩
  · omega
  · simp only [Value.slice.injEq] at e
    obtain ⟨rfl, _, _⟩ := e
    refine ⟨g, 0, rfl, (hl g rfl).2, ?_⟩
    have hc := fun j (hj : j < 4) u (hu : ps[i].cells[j]? = some u) => h.cells (g := g) rfl (i * 4 + j) u ((cellsL_at ps i j hi hj).trans hu)
    have c0 := hc 0 (by omega) _ rfl
    have c1 := hc 1 (by omega) _ rfl
    have c2 := hc 2 (by omega) _ rfl
    have c3 := hc 3 (by omega) _ rfl
    rw [add_none] at c0 c1 c2 c3
    simp only [Nat.zero_add, Nat.add_zero] at c0 c1 c2 c3
    unfold PropAt
    simp only [Nat.zero_add]
    exact ⟨c0, c1, c2, c3⟩
theorem grown_set (W : World) (b o : Nat) (x : Value) : W.grownBy (W.setCell ⟨b, o, none⟩ x) (some b) :=
  ⟨rfl, rfl, rfl, by simp, fun k _ hk => Below.heap_setCell _ _ _ _ (fun e => hk (by rw [e]))⟩
theorem own_kept {w w' : World} {base r : Nat} {e : TypeId} {size : Nat} {v : Value} {n : Nat} {xs : List Value} (h : w.ownsRow base e size v n xs) (hg : w.grownBy w' (some r)) (hr : r < base) : w'.ownsRow base e size v n xs :=
  h.kept (row := some r) hg (.inr fun hv => by have := own_base h _ hv; omega)
theorem own_set {w : World} {base b o : Nat} {e : TypeId} {size : Nat} {v x : Value} {n : Nat} {xs : List Value} (h : w.ownsRow base e size v n xs) (hr : b < base) : (w.setCell ⟨b, o, none⟩ x).ownsRow base e size v n xs := own_kept h (grown_set w b o x) hr

/-- A note taken off the words: its properties, its body, and what is left. -/
def noteR : List (List UInt8) → Bool → List PD × List UInt8 × List (List UInt8) × Bool
  | ws, true => ([], [], ws, true)
  | [], false => ([(propInF []).getD PD.zero], [], [], true)
  | x :: r, false => if Go.Lib.hasPrefix x [35] then ([], (unhexF (x.drop 1)).getD [], r, !(unhexF (x.drop 1)).isSome)
    else ((propInF x).getD PD.zero :: (noteR r (!(propInF x).isSome)).1, (noteR r (!(propInF x).isSome)).2)
theorem noteR_bad (ws : List (List UInt8)) : noteR ws true = ([], [], ws, true) := by cases ws <;> rfl
theorem noteR_end {ws : List (List UInt8)} (h : Go.Lib.hasPrefix (wordR ws false).1 [35] = true) : noteR ws false = ([], (unhexF ((wordR ws false).1.drop 1)).getD [], (wordR ws false).2.1, (wordR ws false).2.2 || !(unhexF ((wordR ws false).1.drop 1)).isSome) := by
  cases ws with
  | nil => cases h
  | cons x r =>
    show noteR (x :: r) false = ([], (unhexF (x.drop 1)).getD [], r, !(unhexF (x.drop 1)).isSome)
    rw [noteR, if_pos (show Go.Lib.hasPrefix x [35] = true from h)]
theorem noteR_more {ws : List (List UInt8)} (h : Go.Lib.hasPrefix (wordR ws false).1 [35] = false) :
    noteR ws false = ((propInF (wordR ws false).1).getD PD.zero :: (noteR (wordR ws false).2.1 ((wordR ws false).2.2 || !(propInF (wordR ws false).1).isSome)).1, (noteR (wordR ws false).2.1 ((wordR ws false).2.2 || !(propInF (wordR ws false).1).isSome)).2) := by
  cases ws with
  | nil => rfl
  | cons x r =>
    show noteR (x :: r) false = ((propInF x).getD PD.zero :: (noteR r (!(propInF x).isSome)).1, (noteR r (!(propInF x).isSome)).2)
    rw [noteR, if_neg (by rw [show Go.Lib.hasPrefix x [35] = false from h]; simp)]
theorem noteR_less {ws : List (List UInt8)} (b : Bool) : 2 * (wordR ws false).2.1.length + (if ((wordR ws false).2.2 || b) = true then 0 else 1) < 2 * ws.length + 1 ∧ (wordR ws false).2.1.length + (if ((wordR ws false).2.2 || b) = true then 0 else 1) ≤ ws.length := by
  cases ws with
  | nil => cases b <;> simp [wordR]
  | cons x r => cases b <;> simp [wordR] <;> omega

/-- What stands at the head of the loop: what was read, and what is to come. -/
def NI (w : World) (rb : Nat) (ws0 : List (List UInt8)) (b0 : Bool) (M : Nat) (g : Nat) (wr : World) : Prop := ∃ acc ws b v, (noteR ws0 b0).1 = acc ++ (noteR ws b).1 ∧ (noteR ws0 b0).2 = (noteR ws b).2 ∧
  g = 2 * ws.length + (if b = true then 0 else 1) ∧ acc.length + ws.length + (if b = true then 0 else 1) ≤ M ∧ (∀ x ∈ ws, x.length ≤ 1000000) ∧ RD wr rb ws b ∧
  wr.ownsRow (w.heap.size + 2) 36 4 v acc.length (cellsL acc) ∧ Blk wr w.heap.size [.slice none 0 0, .slice none 0 0] ∧ Blk wr (w.heap.size + 1) [v, .slice none 0 0] ∧ w.grownBy wr (some rb)

def NoteAns (w : World) (rb : Nat) (q : List PD × List UInt8 × List (List UInt8) × Bool) (e : Ending) (w' : World) : Prop :=
  (∃ v u, e = .returned (.agg #[v, u]) ∧ w'.ownsRow w.heap.size 36 4 v q.1.length (cellsL q.1) ∧ w'.ownsRow w.heap.size 5 1 u q.2.1.length (u8s q.2.1)) ∧ RD w' rb q.2.2.1 q.2.2.2 ∧ w.grownBy w' (some rb)

theorem far_row {W w2 w3 : World} {base b : Nat} {e : TypeId} {size : Nat} {v : Value} {n : Nat} {xs cs : List Value} (ho : W.ownsRow base e size v n xs) (h : Blk w2 b cs) (hg : w2.grownBy w3 v.ownBlock) (hb : b < base) : Blk w3 b cs :=
  h.same (hg.block _ h.lt (fun e => by have := own_base ho _ e.symm; omega))

theorem note_fin {w W : World} {rb : Nat} {q : List PD × List UInt8 × List (List UInt8) × Bool} {v u : Value} (hr : rb < w.heap.size) (h1 : W.ownsRow (w.heap.size + 2) 36 4 v q.1.length (cellsL q.1)) (h2 : W.ownsRow (w.heap.size + 2) 5 1 u q.2.1.length (u8s q.2.1)) (h3 : RD W rb q.2.2.1 q.2.2.2) (h4 : w.grownBy W (some rb)) :
    NoteAns w rb q (.returned (.agg #[v, u])) ((W.setCell ⟨w.heap.size, 0, none⟩ v).setCell ⟨w.heap.size, 1, none⟩ u) := by
  have hb : Below w.heap.size W ((W.setCell ⟨w.heap.size, 0, none⟩ v).setCell ⟨w.heap.size, 1, none⟩ u) := ((Below.refl w.heap.size W).setCell (Nat.le_refl _) _).setCell (Nat.le_refl _) _
  exact ⟨⟨v, u, rfl, own_mono (own_set (own_set h1 (by omega)) (by omega)) (by omega), own_mono (own_set (own_set h2 (by omega)) (by omega)) (by omega)⟩, rd_past hr h3 h4 hb⟩

set_option maxRecDepth 100000 in
set_option maxHeartbeats 600000 in
theorem note_any (rb : Nat) (bad : Bool) (ws : List (List UInt8)) (w : World) (hl : ∀ x ∈ ws, x.length ≤ 1000000) (hn : ws.length ≤ 1000) (hr6 : 6 ≤ rb) (hv : Vars w) (h : RD w rb ws bad) :
    Calls Tryz.prog 96 #[.pointer (some ⟨rb, 0, none⟩)] w (NoteAns w rb (noteR ws bad)) := by
  have HV : Hid (Vars w) := hv
  have HR : Hid (rb < w.heap.size ∧ RD w rb ws bad ∧ ∀ x ∈ ws, x.length ≤ 1000000) := ⟨by obtain ⟨v, h1, _⟩ := h; exact h1.lt, h, hl⟩
  obtain ⟨q, hq⟩ : ∃ q, q = noteR ws bad := ⟨_, rfl⟩
  have HQ : Hid (q = noteR ws bad) := hq
  clear hv h hl
  rw [← hq]
  clear hq
  go_enter Tryz.func96, Tryz.ntmps96
  go_upto_region 2 with fail
  go_loopg [] (2 * ws.length + 1) (fun g wr => ∃ g', g' ≤ g ∧ NI w rb ws bad (ws.length + 1) g' wr)
  case atStart =>
    refine ⟨_, ?_, [], ws, bad, .slice none 0 0, rfl, rfl, rfl, ?_, HR.out.2.2, (HR.out.2.1.on (below_alloc _ _)).on (below_alloc _ _), World.ownsRow_nil _ _ _ _, (Blk.new w [.slice none 0 0, .slice none 0 0] 25).alloc _, ?_, kp_trans (kp_below (below_alloc _ _)) (kp_below (below_alloc _ _))⟩
    · split <;> omega
    · simp only [List.length_nil]; split <;> omega
    · have := Blk.new (w.alloc (.cells #[.slice none 0 0, .slice none 0 0] 25)) [.slice none 0 0, .slice none 0 0] 25
      rw [World.size_alloc] at this
      exact this
  case round =>
    obtain ⟨g', hg', acc, ws', b, v, e1, e2, rfl, hM, hl, hrd, hown, hb0, hb1, hkp⟩ := hrel
    obtain ⟨ao, cap, rfl, o1, o2, o3⟩ := own_shape hown
    have HI : Hid (q.1 = acc ++ (noteR ws' b).1 ∧ q.2 = (noteR ws' b).2) := ⟨by rw [HQ.out]; exact e1, by rw [HQ.out]; exact e2⟩
    have HO : Hid (wr.ownsRow (w.heap.size + 2) 36 4 (.slice ao acc.length cap) acc.length (cellsL acc) ∧ Blk wr w.heap.size [.slice none 0 0, .slice none 0 0] ∧ Blk wr (w.heap.size + 1) [.slice ao acc.length cap, .slice none 0 0]) := ⟨hown, hb0, hb1⟩
    have HK : Hid (RD wr rb ws' b ∧ w.grownBy wr (some rb) ∧ ∀ x ∈ ws', x.length ≤ 1000000) := ⟨hrd, hkp, hl⟩
    obtain ⟨rv, r1, r2⟩ := hrd
    obtain ⟨c0, c1, cf, cz⟩ := r1.b2
    obtain ⟨d0, d1, df, dz⟩ := hb0.b2
    obtain ⟨f0, f1, ff, fz⟩ := hb1.b2
    have hne0 : Hid (w.heap.size ≠ rb ∧ w.heap.size + 1 ≠ rb ∧ rb < w.heap.size ∧ w.heap.size + 2 ≤ wr.heap.size) := ⟨by have := HR.out.1; omega, by have := HR.out.1; omega, HR.out.1, fz⟩
    clear e1 e2 hl hown hb0 hb1 hkp r1 r2 o1 o2 o3
    cases b with
    | true =>
      go_wp2
      refine bodyPost_ret (v := .agg #[.slice ao acc.length cap, .slice none 0 0]) (by simp [results, Tryz.results96, go_sem, *]; done) rfl ?_
      obtain ⟨q1, q2, q3, q4⟩ := q
      have e := HI.out
      rw [noteR_bad] at e
      simp only [List.append_nil, Prod.mk.injEq] at e
      obtain ⟨rfl, rfl, rfl, rfl⟩ := e
      exact note_fin hne0.out.2.2.1 HO.out.1 (World.ownsRow_nil _ _ _ _) HK.out.1 HK.out.2.1
    | false =>
      have PW : Hid (Calls Tryz.prog 88 #[.pointer (some ⟨rb, 0, none⟩)] wr fun e w' => e = .returned (.string (bstr (wordR ws' false).1)) ∧ RD w' rb (wordR ws' false).2.1 (wordR ws' false).2.2 ∧ wr.grownBy w' (some rb)) := word_any rb false ws' wr HK.out.1
      obtain ⟨x, hx⟩ : ∃ x, x = wordR ws' false := ⟨_, rfl⟩
      have HX : Hid (x = wordR ws' false ∧ x.1.length ≤ 1000000) := ⟨hx, by rw [hx]; exact wordR_len HK.out.2.2⟩
      rw [← hx] at PW
      have C := fun W => cutOne (bstr x.1) 35 W
      rw [bstr_data] at C
      cases hp : Go.Lib.hasPrefix x.1 [35] with
      | true =>
        rw [hp] at C
        have PC : Hid (∀ W, Calls Tryz.prog 44 #[.string (bstr x.1), .string ⟨#[35]⟩] W fun e w' => e = .returned (.tuple #[.string (bstr (x.1.drop 1)), .bool true]) ∧ w' = W) := C
        obtain ⟨o, ho⟩ : ∃ o, o = unhexF (x.1.drop 1) := ⟨_, rfl⟩
        have PU : Hid (∀ W, Calls Tryz.prog 11 #[.string (bstr (x.1.drop 1))] W fun e w' => (∃ v, e = .returned (.tuple #[v, .bool o.isSome]) ∧ w'.ownsRow W.heap.size 5 1 v (o.getD []).length (u8s (o.getD []))) ∧ Below W.heap.size W w') := fun W => by
          have := unhex_any (bstr (x.1.drop 1)) W (by rw [bstr_size, List.length_drop]; have := HX.out.2; omega)
          rw [bstr_data, ← ho] at this
          exact this
        have PM : Hid (∀ W, RD W rb x.2.1 x.2.2 → Calls Tryz.prog 120 #[.pointer (some ⟨rb, 0, none⟩), .bool o.isSome] W fun e w' => e = .returned (.tuple #[]) ∧ RD w' rb x.2.1 (x.2.2 || !o.isSome) ∧ W.grownBy w' (some rb)) := fun W hW => must_any rb _ _ _ W hW
        have HE : Hid (q = (acc, o.getD [], x.2.1, x.2.2 || !o.isSome)) := by
          have e := HI.out
          rw [HX.out.1] at hp
          rw [noteR_end hp, ← HX.out.1, ← ho] at e
          simp only [List.append_nil] at e
          exact Prod.ext e.1 e.2
        clear C hp hx HI ho
        generalize x.1.drop 1 = y at PC PU
        go_wp2_with (first
          | (go_at_call 88; refine PW.out.mono ?_; rintro e w1 ⟨rfl, hr, hg⟩; have H1 : Hid (RD w1 rb x.2.1 x.2.2 ∧ wr.grownBy w1 (some rb)) := ⟨hr, hg⟩; clear hr hg)
          | (go_at_call 44; refine (PC.out _).mono ?_; rintro e w' ⟨rfl, hw⟩; rw [hw]; clear hw w')
          | (go_at_call 11; refine (PU.out _).mono ?_; rintro e w2 ⟨⟨v2, rfl, ho2⟩, hb2⟩; obtain ⟨ua, uc, rfl, u1, u2, u3⟩ := own_shape ho2; have H2 : Hid (Below w1.heap.size w1 w2 ∧ w2.ownsRow w1.heap.size 5 1 (.slice ua (o.getD []).length uc) (o.getD []).length (u8s (o.getD []))) := ⟨hb2, ho2⟩; clear hb2 ho2 u1 u2 u3)
          | (go_at_call 120; refine (PM.out _ (H1.out.1.on H2.out.1)).mono ?_; rintro e w3 ⟨rfl, hr, hg⟩; have H3 : Hid (RD w3 rb x.2.1 (x.2.2 || !o.isSome) ∧ w2.grownBy w3 (some rb)) := ⟨hr, hg⟩; have HG : Hid (wr.grownBy w3 (some rb)) := kp_trans H1.out.2 (kp_trans (kp_below H2.out.1) hg); clear hr hg c0 c1 cf cz d0 d1 df dz f0 f1 ff fz; obtain ⟨d0, d1, df, dz⟩ := (kp_blk HO.out.2.1 HG.out hne0.out.1).b2; obtain ⟨f0, f1, ff, fz⟩ := (kp_blk HO.out.2.2 HG.out hne0.out.2.1).b2)
          | fail)
        refine bodyPost_ret (v := .agg #[.slice ao acc.length cap, .slice ua (o.getD []).length uc]) (by simp [results, Tryz.results96, go_sem, *]; done) rfl ?_
        rw [HE.out]
        have h0 := hne0.out
        have hz : w.heap.size + 2 ≤ w1.heap.size := Nat.le_trans h0.2.2.2 H1.out.2.size
        have hp := rd_past h0.2.2.1 H3.out.1 (kp_trans HK.out.2.1 HG.out) ((Below.refl w.heap.size w3).setCell (p := ⟨w.heap.size + 1, 1, none⟩) (Nat.le_succ _) (.slice ua (o.getD []).length uc))
        exact note_fin h0.2.2.1 (own_set (own_kept HO.out.1 HG.out (by omega)) (by omega)) (own_set (own_kept (own_mono H2.out.2 hz) H3.out.2 (by omega)) (by omega)) hp.1 hp.2
      | false =>
        rw [hp] at C
        have PC : Hid (∀ W, Calls Tryz.prog 44 #[.string (bstr x.1), .string ⟨#[35]⟩] W fun e w' => e = .returned (.tuple #[.string (bstr x.1), .bool false]) ∧ w' = W) := C
        obtain ⟨o, ho⟩ : ∃ o, o = propInF x.1 := ⟨_, rfl⟩
        have PP : Hid (∀ W, w.grownBy W (some rb) → RD W rb x.2.1 x.2.2 → Calls Tryz.prog 123 #[.pointer (some ⟨rb, 0, none⟩), .string (bstr x.1)] W fun e w' => e = .returned (o.getD PD.zero).val ∧ RD w' rb x.2.1 (x.2.2 || !o.isSome) ∧ W.grownBy w' (some rb)) := fun W hW hR => by
          rw [ho]
          exact propIn_any rb x.1 x.2.2 x.2.1 W HX.out.2 hr6 (HV.out.kp hW hr6) hR
        have HE : Hid (q.1 = acc ++ (o.getD PD.zero :: (noteR x.2.1 (x.2.2 || !o.isSome)).1) ∧ q.2 = (noteR x.2.1 (x.2.2 || !o.isSome)).2) := by
          have e := HI.out
          rw [HX.out.1] at hp
          rw [noteR_more hp, ← HX.out.1, ← ho] at e
          exact e
        have HL : Hid (2 * x.2.1.length + (if (x.2.2 || !o.isSome) = true then 0 else 1) < 2 * ws'.length + 1 ∧ x.2.1.length + (if (x.2.2 || !o.isSome) = true then 0 else 1) ≤ ws'.length) := by
          rw [HX.out.1]
          exact noteR_less _
        have HW : Hid (∀ z ∈ x.2.1, z.length ≤ 1000000) := fun z hz => HK.out.2.2 z (wordR_mem (bad := false) (by rw [← HX.out.1]; exact hz))
        obtain ⟨⟨y0, y1, y2, y3⟩, hy⟩ : ∃ y, y = o.getD PD.zero := ⟨_, rfl⟩
        rw [← hy] at PP HE
        unfold PD.val at PP
        clear C hp hx HI ho hy
        have n1 : Hid True := trivial
        have hA : acc.length + 1 ≤ 1000000 := by simp at hM; omega
        go_wp2_with (first
          | (go_at_call 88; refine PW.out.mono ?_; rintro e w1 ⟨rfl, hr, hg⟩; have H1 : Hid (RD w1 rb x.2.1 x.2.2 ∧ wr.grownBy w1 (some rb)) := ⟨hr, hg⟩; clear hr hg c0 c1 cf cz d0 d1 df dz f0 f1 ff fz; obtain ⟨f0, f1, ff, fz⟩ := (kp_blk HO.out.2.2 H1.out.2 hne0.out.2.1).b2)
          | (go_at_call 44; refine (PC.out _).mono ?_; rintro e w' ⟨rfl, hw⟩; rw [hw]; clear hw w')
          | fail)
        go_region_law (first
          | (go_simp; go_at_call 123; refine (PP.out _ (kp_trans HK.out.2.1 (kp_trans H1.out.2 (kp_below (Below.refl _ _).drew))) (H1.out.1.on (Below.refl _ _).drew)).mono ?_; rintro e w2 ⟨rfl, hr, hg⟩; have H2 : Hid (RD w2 rb x.2.1 (x.2.2 || !o.isSome) ∧ wr.grownBy w2 (some rb)) := ⟨hr, kp_trans H1.out.2 (kp_trans (kp_below (Below.refl _ _).drew) hg)⟩; clear hr hg f0 f1 ff fz; obtain ⟨f0, f1, ff, fz⟩ := (kp_blk HO.out.2.2 H2.out.2 hne0.out.2.1).b2)
          | (refine st22 rfl (.tmp 34) (.tmp 38) rfl (w.heap.size + 2) (.slice ao acc.length cap) acc.length (cellsL acc) rfl (own_below (own_kept HO.out.1 H2.out.2 (by have := hne0.out; omega)) (below_alloc _ _)) (fun b => b = w2.heap.size) _ 1 [.string y0, .int .i64 y1, .int .i64 y2, .string y3] rfl (new_slice w2 [.string y0, .int .i64 y1, .int .i64 y2, .string y3] 36 1 (by simp) (by simp [maxLen])) rfl (by simp [Value.oneCell']) (by omega) (by have := H2.out.2.size; have := hne0.out; simp; omega) ?_; intro ao2 cap2 w3 ho3 hg3 hm3; have H3 : Hid (w3.ownsRow (w.heap.size + 2) 36 4 (.slice ao2 (acc.length + 1) cap2) (acc.length + 1) (cellsL acc ++ [.string y0, .int .i64 y1, .int .i64 y2, .string y3]) ∧ (w2.alloc (.cells #[.string y0, .int .i64 y1, .int .i64 y2, .string y3] 36)).grownBy w3 (Value.slice ao acc.length cap).ownBlock) := ⟨ho3, hg3⟩; clear ho3 hg3 hm3; have HB : Hid (Blk w3 (w.heap.size + 1) [.slice ao acc.length cap, .slice none 0 0]) := far_row HO.out.1 ((kp_blk HO.out.2.2 H2.out.2 hne0.out.2.1).alloc _) H3.out.2 (by omega); clear f0 f1 ff fz; obtain ⟨f0, f1, ff, fz⟩ := HB.out.b2)
          | fail)
        all_goals
          go_wp2
          go_roundg (2 * x.2.1.length + (if (x.2.2 || !o.isSome) = true then 0 else 1))
          case measure => have := HL.out; simp at hg'; omega
          case rel =>
            have h0 := hne0.out
            have hs := H2.out.2.size
            have b0 : Blk w3 w.heap.size [.slice none 0 0, .slice none 0 0] := far_row HO.out.1 ((kp_blk HO.out.2.1 H2.out.2 hne0.out.1).alloc _) H3.out.2 (by omega)
            have hz3 : w2.heap.size + 1 ≤ w3.heap.size := by have := H3.out.2.size; simpa using this
            have hb : Below w.heap.size w2 (w3.setCell ⟨w.heap.size + 1, 0, none⟩ (.slice ao2 (acc.length + 1) cap2)) :=
              (((Below.refl w.heap.size w2).alloc (by omega) _).grown H3.out.2 (by simp; omega) (fun j hj => by have := own_base HO.out.1 j hj; omega)).setCell (p := ⟨w.heap.size + 1, 0, none⟩) (Nat.le_succ _) _
            have hp := rd_past h0.2.2.1 H2.out.1 (kp_trans HK.out.2.1 H2.out.2) hb
            refine ⟨_, Nat.le_refl _, acc ++ [⟨y0, y1, y2, y3⟩], x.2.1, (x.2.2 || !o.isSome), .slice ao2 (acc.length + 1) cap2, ?_, ?_, rfl, ?_, HW.out, hp.1, ?_, ?_, ?_, hp.2⟩
            · rw [← HQ.out, List.append_assoc]; exact HE.out.1
            · rw [← HQ.out]; exact HE.out.2
            · have := HL.out.2; simp only [List.length_append, List.length_cons, List.length_nil]; simp at hM; omega
            · rw [cellsL_snoc, List.length_append]
              exact own_set H3.out.1 (by omega)
            · exact b0.far (a := ⟨w.heap.size + 1, 0, none⟩) (by simp) _
            · exact HB.out.set 0 _
end Go.Proofs.YtedhlbknbaggiaaGreatDoor
