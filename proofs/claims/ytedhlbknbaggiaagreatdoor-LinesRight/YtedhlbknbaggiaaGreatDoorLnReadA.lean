/-
  lines.Ask: what bytes say.
-/
import Derived.Test.YtedhlbknbaggiaaGreatDoorLnIn
namespace Go.Proofs.YtedhlbknbaggiaaGreatDoor
open Go.RowKit
set_option linter.unusedVariables false
set_option linter.unusedSimpArgs false

attribute [local go_sem ↓] Go.wp_at_zero Go.wp_at_succ

theorem Vars.six {W : World} (h : Vars W) : 6 ≤ W.heap.size := by
  have : Go.Lib.TabIs Tryz.prog W "internal/strconv.uint64pow10" .u64 Go.Lib.pow10Tab := h.tab
  unfold Go.Lib.TabIs World.var? at this
  have hg : Tryz.prog.globalNamed "internal/strconv.uint64pow10" = some 5 := by kernel_rfl
  rw [hg] at this
  simp only [Option.bind_some] at this
  rcases Nat.lt_or_ge 5 W.heap.size with h' | h'
  · exact h'
  · rw [Array.getElem?_eq_none h'] at this; cases this

theorem unhexF_len : ∀ (l t : List UInt8), unhexF l = some t → t.length ≤ l.length
  | [], t, h => by
    rw [unhexF] at h
    injection h with h
    rw [← h]
    exact Nat.le_refl _
  | [_], t, h => by rw [unhexF] at h; cases h
  | a :: b :: r, t, h => by
    rw [unhexF] at h
    split at h
    · cases hr : unhexF r with
      | none => rw [hr] at h; cases h
      | some u =>
        rw [hr] at h
        simp only [Option.map_some, Option.some.injEq] at h
        rw [← h]
        have := unhexF_len r u hr
        simp only [List.length_cons]
        omega
    · cases h
theorem fits_prop (x : List UInt8) (hx : x.length ≤ 1000000) : ((propInF x).getD PD.zero).fits := by
  have h1 : (Go.Lib.cut x [61]).1.length ≤ x.length := by
    unfold Go.Lib.cut
    split
    · simp only [List.length_take]; omega
    · exact Nat.le_refl _
  have h2 := cut_len x [61]
  unfold propInF
  generalize Go.Lib.cut x [61] = c at h1 h2 ⊢
  unfold propV
  split
  · unfold textP
    cases h : unhexF (c.2.1.drop 1) with
    | none => exact ⟨Nat.zero_le _, Nat.zero_le _⟩
    | some t =>
      have := unhexF_len _ _ h
      rw [List.length_drop] at this
      refine ⟨?_, ?_⟩
      · show (bstr c.1).size ≤ _; rw [bstr_size]; unfold maxLen; omega
      · show (bstr t).size ≤ _; rw [bstr_size]; unfold maxLen; omega
  · split
    · unfold numP
      cases numV (c.2.1.drop 1) with
      | none => exact ⟨Nat.zero_le _, Nat.zero_le _⟩
      | some t => exact ⟨by show (bstr c.1).size ≤ _; rw [bstr_size]; unfold maxLen; omega, Nat.zero_le _⟩
    · unfold numP
      cases numV c.2.1 with
      | none => exact ⟨Nat.zero_le _, Nat.zero_le _⟩
      | some t => exact ⟨by show (bstr c.1).size ≤ _; rw [bstr_size]; unfold maxLen; omega, Nat.zero_le _⟩
theorem fits_note : ∀ (ws : List (List UInt8)) (b : Bool), (∀ x ∈ ws, x.length ≤ 1000000) → ∀ p ∈ (noteR ws b).1, p.fits
  | ws, true, _, p, hp => by rw [noteR_bad] at hp; cases hp
  | [], false, _, p, hp => by
    rw [noteR, List.mem_singleton] at hp
    subst hp
    exact fits_prop [] (Nat.zero_le _)
  | x :: r, false, h, p, hp => by
    rw [noteR] at hp
    split at hp
    · cases hp
    · rw [List.mem_cons] at hp
      rcases hp with rfl | hp
      · exact fits_prop x (h x (List.mem_cons_self ..))
      · exact fits_note r _ (fun y hy => h y (List.mem_cons_of_mem _ hy)) p hp
theorem fits_ask {ws : List (List UInt8)} {b : Bool} (hs : Small ws) : (askOfR ws b).1.queue.size ≤ maxLen ∧ ∀ p ∈ (askOfR ws b).1.ps, p.fits := by
  unfold askOfR
  have h1 := small_word hs b
  generalize wordR ws b = x at h1 ⊢
  cases shapesL.find? (fun s => decide (s.word = bstr x.1)) with
  | none => exact ⟨Nat.zero_le _, fun p hp => by cases hp⟩
  | some s =>
    dsimp only
    unfold askR qR nR tR
    dsimp only
    constructor
    · rw [bstr_size]
      split
      · have := wordR_len (bad := x.2.2) h1.1; unfold maxLen; omega
      · exact Nat.zero_le _
    · intro p hp
      split at hp
      · refine fits_note _ _ ?_ p hp
        cases s.queue <;> cases s.number
        · exact h1.1
        · exact (small_num h1 _).1
        · exact (small_word h1 _).1
        · exact (small_num (small_word h1 _) _).1
      · cases hp
theorem piece_len (c : UInt8) : ∀ (l : List UInt8), ∀ x ∈ splitC c l, x.length ≤ l.length
  | [], x, hx => by
    rw [splitC, List.mem_singleton] at hx
    rw [hx]
    exact Nat.le_refl _
  | b :: l, x, hx => by
    have ih := piece_len c l
    rw [splitC] at hx
    split at hx
    · rw [List.mem_cons] at hx
      rcases hx with rfl | hx
      · exact Nat.zero_le _
      · have := ih x hx; simp only [List.length_cons]; omega
    · rw [splitC_cons] at ih
      rw [List.mem_cons] at hx
      rcases hx with rfl | hx
      · have := ih _ (List.mem_cons_self ..)
        simp only [List.length_cons]; omega
      · have := ih x (List.mem_cons_of_mem _ hx); simp only [List.length_cons]; omega
theorem small_split (l : List UInt8) (hl : l.length ≤ 400) : Small (splitC 32 l) := by
  refine ⟨fun x hx => by have := piece_len 32 l x hx; omega, ?_⟩
  rw [splitC_length]
  have := List.count_le_length (a := (32 : UInt8)) (l := l)
  omega
theorem inside_len (bs : List UInt8) : (insideL bs).1.length ≤ 400 := by
  unfold insideL
  have := index_lt (bs.take 400) 10
  rw [List.length_take] at this
  split
  · simp only [List.length_take]; omega
  · split <;> exact Nat.zero_le _

/-- What bytes say: the ask, how many bytes it has, and what is told. -/
def readAskF (bs : List UInt8) : AD × Nat × Int :=
  if (insideL bs).2 ≠ 0 then (AD.zero, 0, (insideL bs).2)
  else
    let q := askOfR (splitC 32 (insideL bs).1) false
    if q.2.1 = false then (AD.zero, 0, 1)
    else if (!q.2.2.2 && q.2.2.1.isEmpty) = false then (AD.zero, 0, 2)
    else if q.1.wrong ≠ 0 then (AD.zero, 0, q.1.wrong)
    else (q.1, (insideL bs).1.length + 1, 0)

def ReadAns (w : World) (q : AD × Nat × Int) (e : Ending) (w' : World) : Prop :=
  (∃ v u, e = .returned (.tuple #[.agg #[.int .i64 q.1.kind, .string q.1.queue, .int .i64 q.1.n, v, u], .int .i64 (q.2.1 : Int), .int .i64 q.2.2]) ∧ w'.ownsRow w.heap.size 36 4 v q.1.ps.length (cellsL q.1.ps) ∧ w'.ownsRow w.heap.size 5 1 u q.1.body.length (u8s q.1.body)) ∧ Below w.heap.size w w'

/-- The boxes of read, and its reader. -/
structure SR (w : World) (z : List Value) (rb : Nat) (W : World) (ws : List (List UInt8)) (b : Bool) : Prop where
  rd : RD W rb ws b
  bl : Below w.heap.size w W
  lt : w.heap.size + 1 < rb
  b0 : Blk W w.heap.size z
  b1 : Blk W (w.heap.size + 1) z
theorem SR.rlt {w W : World} {z : List Value} {rb : Nat} {ws : List (List UInt8)} {b : Bool} (h : SR w z rb W ws b) : rb < W.heap.size := by
  obtain ⟨v, h1, _⟩ := h.rd
  exact h1.lt
theorem SR.call {w W w1 : World} {z : List Value} {rb : Nat} {ws ws' : List (List UInt8)} {b b' : Bool} (h : SR w z rb W ws b) (hr : RD w1 rb ws' b') (hg : W.grownBy w1 (some rb)) : SR w z rb w1 ws' b' := by
  have hlt := h.lt
  refine ⟨hr, ⟨hg.os.trans h.bl.os, hg.tape.trans h.bl.tape, hg.output.trans h.bl.output, Nat.le_trans h.bl.size hg.size, fun k hk => (hg.block k (Nat.lt_of_lt_of_le hk h.bl.size) (fun e => by injection e with e; omega)).trans (h.bl.block k hk)⟩, hlt, kp_blk h.b0 hg (by omega), kp_blk h.b1 hg (by omega)⟩
theorem SR.on {w W w1 : World} {z : List Value} {rb : Nat} {ws : List (List UInt8)} {b : Bool} (h : SR w z rb W ws b) (hb : Below W.heap.size W w1) : SR w z rb w1 ws b :=
  ⟨h.rd.on hb, h.bl.trans (hb.mono h.bl.size), h.lt, h.b0.below hb h.b0.lt, h.b1.below hb h.b1.lt⟩
theorem SR.start {w w2 : World} {x0 x1 x2 x3 x4 : Value} {t : TypeId} {v : Value} {ws : List (List UInt8)}
    (hs : SliceV (fun b => b = ((w.alloc (.cells #[x0, x1, x2, x3, x4] t)).alloc (.cells #[x0, x1, x2, x3, x4] t)).heap.size) w2 v ws.length (strs ws))
    (hz : w2.heap.size = ((w.alloc (.cells #[x0, x1, x2, x3, x4] t)).alloc (.cells #[x0, x1, x2, x3, x4] t)).heap.size + 1)
    (hb : Below ((w.alloc (.cells #[x0, x1, x2, x3, x4] t)).alloc (.cells #[x0, x1, x2, x3, x4] t)).heap.size ((w.alloc (.cells #[x0, x1, x2, x3, x4] t)).alloc (.cells #[x0, x1, x2, x3, x4] t)) w2) :
    SR w [x0, x1, x2, x3, x4] w2.heap.size (w2.alloc (.cells #[v, .bool false] 120)) ws false := by
  have bz := Blk.new (w.alloc (.cells #[x0, x1, x2, x3, x4] t)) [x0, x1, x2, x3, x4] t
  have hbz := (Blk.new w [x0, x1, x2, x3, x4] t).alloc (.cells #[x0, x1, x2, x3, x4] t)
  rw [World.size_alloc] at bz
  have hz' : w2.heap.size = w.heap.size + 3 := by simpa using hz
  have hbl : Below w.heap.size w w2 := ((below_alloc _ _).alloc (by simp) _).trans (hb.mono (by simp; omega))
  refine ⟨⟨v, Blk.new w2 [v, .bool false] 120, SliceV.sub hs fun b hb' => ⟨by rw [hb']; omega, Below.heap_alloc _ _ _ (by rw [hb']; omega)⟩⟩, hbl.alloc hbl.size _, by omega, ?_, ?_⟩
  · exact (hbz.below hb (by simp; omega)).alloc _
  · exact (bz.below hb (by simp)).alloc _

set_option maxRecDepth 100000 in
set_option maxHeartbeats 1600000 in
theorem readAsk_any (v : Value) (bs : List UInt8) (w : World) (hv : SliceB w.heap.size w v bs) (hV : Vars w) :
    Calls Tryz.prog 54 #[v, .func (.func 55) #[] #[], .func (.func 56) #[] #[]] w (ReadAns w (readAskF bs)) := by
  have HB : Hid (SliceB w.heap.size w v bs ∧ Vars w ∧ 6 ≤ w.heap.size) := ⟨hv, hV, hV.six⟩
  obtain ⟨va, vc, rfl, -⟩ := hv
  clear hV
  have PI : Hid (∀ W, Below w.heap.size w W → Calls Tryz.prog 85 #[.slice va bs.length vc] W fun e w' => e = .returned (.tuple #[.string (bstr (insideL bs).1), .int .i64 (insideL bs).2]) ∧ w' = W) := fun W hW => inside_any _ bs W (HB.out.1.below hW)
  have hin := inside_len bs
  unfold readAskF
  generalize insideL bs = t at PI hin ⊢
  obtain ⟨t1, t2⟩ := t
  dsimp only at PI hin ⊢
  have HN : Hid (t1.length ≤ 400) := hin
  clear hin
  by_cases h0 : t2 = 0
  case neg =>
    rw [if_pos h0]
    go_enter Tryz.func54, Tryz.ntmps54
    go_wp2_with (first
      | (go_at_call 85; refine (PI.out _ ((below_alloc _ _).alloc (by simp) _)).mono ?_; rintro e w' ⟨rfl, hw⟩; rw [hw]; clear hw w')
      | fail)
    refine bodyPost_ret (v := .tuple #[.agg #[.int .i64 0, .string ⟨#[]⟩, .int .i64 0, .slice none 0 0, .slice none 0 0], .int .i64 0, .int .i64 t2]) (by simp [results, Tryz.results54, go_sem, *]; done) rfl ?_
    exact ⟨⟨_, _, rfl, World.ownsRow_nil _ _ _ _, World.ownsRow_nil _ _ _ _⟩, (below_alloc _ _).alloc (by simp) _⟩
  case pos =>
    subst h0
    rw [if_neg (by simp)]
    obtain ⟨q, hq⟩ : ∃ q, q = askOfR (splitC 32 t1) false := ⟨_, rfl⟩
    have PS : Hid (∀ W, Below w.heap.size w W → Calls Tryz.prog 86 #[.string (bstr t1), .string ⟨#[32]⟩] W fun e w' => (∃ v, e = .returned v ∧ SliceV (fun b => b = W.heap.size) w' v (splitC 32 t1).length (strs (splitC 32 t1))) ∧ w'.heap.size = W.heap.size + 1 ∧ Below W.heap.size W w') := fun W hW => split_any t1 W (by have := HN.out; omega) (HB.out.2.1.on hW)
    have hsm := small_split t1 HN.out
    have hf := fits_ask (b := false) hsm
    have PP : Hid (∀ (W : World) (rb : Nat), 6 ≤ rb → Vars W → RD W rb (splitC 32 t1) false → Calls Tryz.prog 55 #[.pointer (some ⟨rb, 0, none⟩)] W (AskOfAns W rb q)) := fun W rb h6 hVW hR => by
      rw [hq]
      exact askOf_any rb false _ W hsm h6 hVW hR
    rw [← hq] at hf ⊢
    generalize splitC 32 t1 = ws at PS PP
    have HF := hid hf
    have h6 := HB.out.2.2
    clear hq hsm hf
    obtain ⟨⟨ak, aq, an, ps, body⟩, kn, ws', bd⟩ := q
    dsimp only at PP HF ⊢
    unfold AskOfAns at PP
    dsimp only at PP
    have PJ : Hid (∀ (W : World) (rb : Nat), RD W rb ws' bd → Calls Tryz.prog 87 #[.pointer (some ⟨rb, 0, none⟩)] W fun e w' => e = .returned (.bool (!bd && ws'.isEmpty)) ∧ w' = W) := fun W rb hR => just_any rb bd ws' W hR
    have PX : Hid (∀ (W : World) (v u : Value), SliceP W.heap.size W v ps → SliceB W.heap.size W u body → Calls Tryz.prog 56 #[.agg #[.int .i64 ak, .string aq, .int .i64 an, v, u]] W fun r w' => r = .returned (.int .i64 (AD.wrong ⟨ak, aq, an, ps, body⟩)) ∧ Below W.heap.size W w') := fun W v u h1 h2 => swrong_any ak an aq v u ps body W HF.out.1 h1 h2 HF.out.2
    generalize (!bd && ws'.isEmpty) = jv at PJ ⊢
    obtain ⟨wr, hwr⟩ : ∃ wr, wr = AD.wrong ⟨ak, aq, an, ps, body⟩ := ⟨_, rfl⟩
    rw [← hwr] at PX ⊢
    clear hwr
    cases kn
    case false =>
      rw [if_pos rfl]
      go_enter Tryz.func54, Tryz.ntmps54
      go_wp2_with (first
        | (go_at_call 85; refine (PI.out _ ((below_alloc _ _).alloc (by simp) _)).mono ?_; rintro e w' ⟨rfl, hw⟩; rw [hw]; clear hw w')
        | (go_at_call 86; refine (PS.out _ ((below_alloc _ _).alloc (by simp) _)).mono ?_; rintro e w2 ⟨⟨v2, rfl, hsl⟩, hz2, hb2⟩; obtain ⟨sa, sc, rfl, g1, g2, g3⟩ := SliceV.shape hsl; have S := hid (SR.start (w := w) (x0 := .int .i64 0) (x1 := .string ⟨#[]⟩) (x2 := .int .i64 0) (x3 := .slice none 0 0) (x4 := .slice none 0 0) (t := 27) (w2 := w2) hsl hz2 hb2); clear hsl hz2 hb2 g1 g2 g3)
        | (go_at_call 55; refine (PP.out _ _ (by have := S.out.lt; omega) (HB.out.2.1.on S.out.bl) S.out.rd).mono ?_; rintro e w5 ⟨⟨v, u, rfl, ho1, ho2⟩, hr, hg⟩; obtain ⟨pa, pc, rfl, g1, g2, g3⟩ := own_shape ho1; obtain ⟨ua, uc, rfl, g4, g5, g6⟩ := own_shape ho2; have HO := hid (And.intro (own_mono ho1 (Nat.le_trans S.out.lt (Nat.le_of_lt S.out.rlt))) (own_mono ho2 (Nat.le_trans S.out.lt (Nat.le_of_lt S.out.rlt)))); have S5 := hid (S.out.call hr hg); clear ho1 ho2 hr hg g1 g2 g3 g4 g5 g6; obtain ⟨⟨c0, c1, c2, c3, c4⟩, cf, cz⟩ := S5.out.b0.b5; obtain ⟨⟨d0, d1, d2, d3, d4⟩, df, dz⟩ := S5.out.b1.b5)
        | fail)
      refine bodyPost_ret (v := .tuple #[.agg #[.int .i64 0, .string ⟨#[]⟩, .int .i64 0, .slice none 0 0, .slice none 0 0], .int .i64 0, .int .i64 1]) (by simp [results, Tryz.results54, go_sem, *]; done) rfl ?_
      exact ⟨⟨_, _, rfl, World.ownsRow_nil _ _ _ _, World.ownsRow_nil _ _ _ _⟩, (((((S5.out.bl.setCell (Nat.le_refl _) _).setCell (Nat.le_refl _) _).setCell (Nat.le_refl _) _).setCell (Nat.le_refl _) _).setCell (Nat.le_refl _) _).alloc (by simpa using S5.out.bl.size) _⟩
    rw [if_neg (by simp)]
    cases jv
    case false =>
      rw [if_pos rfl]
      go_enter Tryz.func54, Tryz.ntmps54
      go_wp2_with (first
        | (go_at_call 85; refine (PI.out _ ((below_alloc _ _).alloc (by simp) _)).mono ?_; rintro e w' ⟨rfl, hw⟩; rw [hw]; clear hw w')
        | (go_at_call 86; refine (PS.out _ ((below_alloc _ _).alloc (by simp) _)).mono ?_; rintro e w2 ⟨⟨v2, rfl, hsl⟩, hz2, hb2⟩; obtain ⟨sa, sc, rfl, g1, g2, g3⟩ := SliceV.shape hsl; have S := hid (SR.start (w := w) (x0 := .int .i64 0) (x1 := .string ⟨#[]⟩) (x2 := .int .i64 0) (x3 := .slice none 0 0) (x4 := .slice none 0 0) (t := 27) (w2 := w2) hsl hz2 hb2); clear hsl hz2 hb2 g1 g2 g3)
        | (go_at_call 55; refine (PP.out _ _ (by have := S.out.lt; omega) (HB.out.2.1.on S.out.bl) S.out.rd).mono ?_; rintro e w5 ⟨⟨v, u, rfl, ho1, ho2⟩, hr, hg⟩; obtain ⟨pa, pc, rfl, g1, g2, g3⟩ := own_shape ho1; obtain ⟨ua, uc, rfl, g4, g5, g6⟩ := own_shape ho2; have HO := hid (And.intro (own_mono ho1 (Nat.le_trans S.out.lt (Nat.le_of_lt S.out.rlt))) (own_mono ho2 (Nat.le_trans S.out.lt (Nat.le_of_lt S.out.rlt)))); have S5 := hid (S.out.call hr hg); clear ho1 ho2 hr hg g1 g2 g3 g4 g5 g6; obtain ⟨⟨c0, c1, c2, c3, c4⟩, cf, cz⟩ := S5.out.b0.b5; obtain ⟨⟨d0, d1, d2, d3, d4⟩, df, dz⟩ := S5.out.b1.b5)
        | (go_at_call 87; refine (PJ.out _ _ (S5.out.on (below_alloc _ _)).rd).mono ?_; rintro e w' ⟨rfl, hw⟩; rw [hw]; clear hw w')
        | fail)
      refine bodyPost_ret (v := .tuple #[.agg #[.int .i64 0, .string ⟨#[]⟩, .int .i64 0, .slice none 0 0, .slice none 0 0], .int .i64 0, .int .i64 2]) (by simp [results, Tryz.results54, go_sem, *]; done) rfl ?_
      exact ⟨⟨_, _, rfl, World.ownsRow_nil _ _ _ _, World.ownsRow_nil _ _ _ _⟩, (((((S5.out.bl.setCell (Nat.le_refl _) _).setCell (Nat.le_refl _) _).setCell (Nat.le_refl _) _).setCell (Nat.le_refl _) _).setCell (Nat.le_refl _) _).alloc (by simpa using S5.out.bl.size) _⟩
    rw [if_neg (by simp)]
    by_cases hw0 : wr = 0
    case neg =>
      rw [if_pos hw0]
      have hwb : (wr != 0) = true := by simpa using hw0
      go_enter Tryz.func54, Tryz.ntmps54
      go_wp2_with (first
        | (go_at_call 85; refine (PI.out _ ((below_alloc _ _).alloc (by simp) _)).mono ?_; rintro e w' ⟨rfl, hw⟩; rw [hw]; clear hw w')
        | (go_at_call 86; refine (PS.out _ ((below_alloc _ _).alloc (by simp) _)).mono ?_; rintro e w2 ⟨⟨v2, rfl, hsl⟩, hz2, hb2⟩; obtain ⟨sa, sc, rfl, g1, g2, g3⟩ := SliceV.shape hsl; have S := hid (SR.start (w := w) (x0 := .int .i64 0) (x1 := .string ⟨#[]⟩) (x2 := .int .i64 0) (x3 := .slice none 0 0) (x4 := .slice none 0 0) (t := 27) (w2 := w2) hsl hz2 hb2); clear hsl hz2 hb2 g1 g2 g3)
        | (go_at_call 55; refine (PP.out _ _ (by have := S.out.lt; omega) (HB.out.2.1.on S.out.bl) S.out.rd).mono ?_; rintro e w5 ⟨⟨v, u, rfl, ho1, ho2⟩, hr, hg⟩; obtain ⟨pa, pc, rfl, g1, g2, g3⟩ := own_shape ho1; obtain ⟨ua, uc, rfl, g4, g5, g6⟩ := own_shape ho2; have HO := hid (And.intro (own_mono ho1 (Nat.le_trans S.out.lt (Nat.le_of_lt S.out.rlt))) (own_mono ho2 (Nat.le_trans S.out.lt (Nat.le_of_lt S.out.rlt)))); have S5 := hid (S.out.call hr hg); clear ho1 ho2 hr hg g1 g2 g3 g4 g5 g6; obtain ⟨⟨c0, c1, c2, c3, c4⟩, cf, cz⟩ := S5.out.b0.b5; obtain ⟨⟨d0, d1, d2, d3, d4⟩, df, dz⟩ := S5.out.b1.b5)
        | (go_at_call 87; refine (PJ.out _ _ (S5.out.on (below_alloc _ _)).rd).mono ?_; rintro e w' ⟨rfl, hw⟩; rw [hw]; clear hw w')
        | (go_at_call 56; refine (PX.out _ _ _ (own_props (own_below HO.out.1 (below_alloc _ _))) (own_bytes (own_below HO.out.2 (below_alloc _ _)) rfl)).mono ?_; rintro e w6 ⟨rfl, hb6⟩; have S6 := hid ((S5.out.on (below_alloc _ _)).on hb6); have HO6 := hid (And.intro (own_below (own_below HO.out.1 (below_alloc _ _)) hb6) (own_below (own_below HO.out.2 (below_alloc _ _)) hb6)); obtain ⟨⟨e0, e1, e2, e3, e4⟩, ef, ez⟩ := ((Blk.new w5 [.int .i64 ak, .string aq, .int .i64 an, .slice pa ps.length pc, .slice ua body.length uc] 27).below hb6 (by simp)).b5; clear hb6 c0 c1 c2 c3 c4 cf cz d0 d1 d2 d3 d4 df dz; obtain ⟨⟨c0, c1, c2, c3, c4⟩, cf, cz⟩ := S6.out.b0.b5; obtain ⟨⟨d0, d1, d2, d3, d4⟩, df, dz⟩ := S6.out.b1.b5)
        | fail)
      refine bodyPost_ret (v := .tuple #[.agg #[.int .i64 0, .string ⟨#[]⟩, .int .i64 0, .slice none 0 0, .slice none 0 0], .int .i64 0, .int .i64 wr]) (by simp [results, Tryz.results54, go_sem, *]; done) rfl ?_
      exact ⟨⟨_, _, rfl, World.ownsRow_nil _ _ _ _, World.ownsRow_nil _ _ _ _⟩, (((((S6.out.bl.setCell (Nat.le_refl _) _).setCell (Nat.le_refl _) _).setCell (Nat.le_refl _) _).setCell (Nat.le_refl _) _).setCell (Nat.le_refl _) _)⟩
    subst hw0
    rw [if_neg (by simp)]
    have hlt : (bstr t1).size ≤ 400 := by rw [bstr_size]; exact HN.out
    go_enter Tryz.func54, Tryz.ntmps54
    go_wp2_with (first
      | (go_at_call 85; refine (PI.out _ ((below_alloc _ _).alloc (by simp) _)).mono ?_; rintro e w' ⟨rfl, hw⟩; rw [hw]; clear hw w')
      | (go_at_call 86; refine (PS.out _ ((below_alloc _ _).alloc (by simp) _)).mono ?_; rintro e w2 ⟨⟨v2, rfl, hsl⟩, hz2, hb2⟩; obtain ⟨sa, sc, rfl, g1, g2, g3⟩ := SliceV.shape hsl; have S := hid (SR.start (w := w) (x0 := .int .i64 0) (x1 := .string ⟨#[]⟩) (x2 := .int .i64 0) (x3 := .slice none 0 0) (x4 := .slice none 0 0) (t := 27) (w2 := w2) hsl hz2 hb2); clear hsl hz2 hb2 g1 g2 g3)
      | (go_at_call 55; refine (PP.out _ _ (by have := S.out.lt; omega) (HB.out.2.1.on S.out.bl) S.out.rd).mono ?_; rintro e w5 ⟨⟨v, u, rfl, ho1, ho2⟩, hr, hg⟩; obtain ⟨pa, pc, rfl, g1, g2, g3⟩ := own_shape ho1; obtain ⟨ua, uc, rfl, g4, g5, g6⟩ := own_shape ho2; have HO := hid (And.intro (own_mono ho1 (Nat.le_trans S.out.lt (Nat.le_of_lt S.out.rlt))) (own_mono ho2 (Nat.le_trans S.out.lt (Nat.le_of_lt S.out.rlt)))); have S5 := hid (S.out.call hr hg); clear ho1 ho2 hr hg g1 g2 g3 g4 g5 g6; obtain ⟨⟨c0, c1, c2, c3, c4⟩, cf, cz⟩ := S5.out.b0.b5; obtain ⟨⟨d0, d1, d2, d3, d4⟩, df, dz⟩ := S5.out.b1.b5)
      | (go_at_call 87; refine (PJ.out _ _ (S5.out.on (below_alloc _ _)).rd).mono ?_; rintro e w' ⟨rfl, hw⟩; rw [hw]; clear hw w')
      | (go_at_call 56; refine (PX.out _ _ _ (own_props (own_below HO.out.1 (below_alloc _ _))) (own_bytes (own_below HO.out.2 (below_alloc _ _)) rfl)).mono ?_; rintro e w6 ⟨rfl, hb6⟩; have S6 := hid ((S5.out.on (below_alloc _ _)).on hb6); have HO6 := hid (And.intro (own_below (own_below HO.out.1 (below_alloc _ _)) hb6) (own_below (own_below HO.out.2 (below_alloc _ _)) hb6)); obtain ⟨⟨e0, e1, e2, e3, e4⟩, ef, ez⟩ := ((Blk.new w5 [.int .i64 ak, .string aq, .int .i64 an, .slice pa ps.length pc, .slice ua body.length uc] 27).below hb6 (by simp)).b5; clear hb6 c0 c1 c2 c3 c4 cf cz d0 d1 d2 d3 d4 df dz; obtain ⟨⟨c0, c1, c2, c3, c4⟩, cf, cz⟩ := S6.out.b0.b5; obtain ⟨⟨d0, d1, d2, d3, d4⟩, df, dz⟩ := S6.out.b1.b5)
      | fail)
    refine bodyPost_ret (v := .tuple #[.agg #[.int .i64 ak, .string aq, .int .i64 an, .slice pa ps.length pc, .slice ua body.length uc], .int .i64 ((t1.length + 1 : Nat) : Int), .int .i64 0]) (by simp [results, Tryz.results54, go_sem, bstr_size, *]; done) rfl ?_
    refine ⟨⟨_, _, rfl, own_mono ?_ (Nat.le_add_right _ 2), own_mono ?_ (Nat.le_add_right _ 2)⟩, (((((S6.out.bl.setCell (Nat.le_refl _) _).setCell (Nat.le_refl _) _).setCell (Nat.le_refl _) _).setCell (Nat.le_refl _) _).setCell (Nat.le_refl _) _)⟩
    · exact own_set (own_set (own_set (own_set (own_set HO6.out.1 (by omega)) (by omega)) (by omega)) (by omega)) (by omega)
    · exact own_set (own_set (own_set (own_set (own_set HO6.out.2 (by omega)) (by omega)) (by omega)) (by omega)) (by omega)

set_option maxRecDepth 100000 in
set_option maxHeartbeats 1600000 in
theorem ask_any (v : Value) (bs : List UInt8) (w : World) (hv : SliceB w.heap.size w v bs) (hV : Vars w) :
    Calls Tryz.prog 25 #[v] w (ReadAns w (readAskF bs)) := by
  have HB : Hid (SliceB w.heap.size w v bs ∧ Vars w) := ⟨hv, hV⟩
  obtain ⟨va, vc, rfl, -⟩ := hv
  clear hV
  have P : Hid (∀ W, Below w.heap.size w W → Calls Tryz.prog 54 #[.slice va bs.length vc, .func (.func 55) #[] #[], .func (.func 56) #[] #[]] W (ReadAns W (readAskF bs))) := fun W hW => readAsk_any _ bs W (HB.out.1.below hW) (HB.out.2.on hW)
  generalize readAskF bs = q at P ⊢
  obtain ⟨⟨ak, aq, an, ps, body⟩, n, err⟩ := q
  unfold ReadAns at P
  dsimp only at P
  go_enter Tryz.func25, Tryz.ntmps25
  go_wp2_with (first
    | (go_at_call 54; refine (P.out _ (below_alloc _ _)).mono ?_; rintro e w2 ⟨⟨v, u, rfl, ho1, ho2⟩, hb⟩; obtain ⟨pa, pc, rfl, g1, g2, g3⟩ := own_shape ho1; obtain ⟨ua, uc, rfl, g4, g5, g6⟩ := own_shape ho2; have H := hid (And.intro ((below_alloc w (.cells #[.int .i64 0, .string ⟨#[]⟩, .int .i64 0, .slice none 0 0, .slice none 0 0] 27)).trans (hb.mono (by simp))) (And.intro ho1 ho2)); obtain ⟨⟨c0, c1, c2, c3, c4⟩, cf, cz⟩ := ((Blk.new w [.int .i64 0, .string ⟨#[]⟩, .int .i64 0, .slice none 0 0, .slice none 0 0] 27).below hb (by simp)).b5; clear hb ho1 ho2 g1 g2 g3 g4 g5 g6)
    | fail)
  refine bodyPost_ret (v := .tuple #[.agg #[.int .i64 ak, .string aq, .int .i64 an, .slice pa ps.length pc, .slice ua body.length uc], .int .i64 (n : Int), .int .i64 err]) (by simp [results, Tryz.results25, go_sem, *]; done) rfl ?_
  have h := H.out
  rw [World.size_alloc] at h
  refine ⟨⟨_, _, rfl, own_mono ?_ (Nat.le_succ _), own_mono ?_ (Nat.le_succ _)⟩, (((((h.1.setCell (Nat.le_refl _) _).setCell (Nat.le_refl _) _).setCell (Nat.le_refl _) _).setCell (Nat.le_refl _) _).setCell (Nat.le_refl _) _)⟩
  · exact own_set (own_set (own_set (own_set (own_set h.2.1 (by omega)) (by omega)) (by omega)) (by omega)) (by omega)
  · exact own_set (own_set (own_set (own_set (own_set h.2.2 (by omega)) (by omega)) (by omega)) (by omega)) (by omega)
end Go.Proofs.YtedhlbknbaggiaaGreatDoor
