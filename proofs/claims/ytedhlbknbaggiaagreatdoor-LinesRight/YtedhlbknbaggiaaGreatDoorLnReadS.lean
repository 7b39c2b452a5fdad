/-
  lines.Say: what bytes say.
-/
import Derived.Test.YtedhlbknbaggiaaGreatDoorLnReadA
namespace Go.Proofs.YtedhlbknbaggiaaGreatDoor
open Go.RowKit
set_option linter.unusedVariables false
set_option linter.unusedSimpArgs false

attribute [local go_sem ↓] Go.wp_at_zero Go.wp_at_succ

theorem fits_say {ws : List (List UInt8)} {b : Bool} (hs : Small ws) : ∀ p ∈ (sayOfR ws b).1.ps, p.fits := by
  unfold sayOfR
  have h1 := small_word hs b
  generalize wordR ws b = x at h1 ⊢
  dsimp only
  have h2 := small_num h1 x.2.2
  generalize numberR x.2.1 x.2.2 = y at h2 ⊢
  have h3 := small_num h2 y.2.2
  generalize numberR y.2.1 y.2.2 = m at h3 ⊢
  intro p hp
  split at hp
  · cases hp
  · split at hp
    · exact fits_note _ _ h3.1 p hp
    · split at hp
      · cases hp
      · split at hp <;> cases hp

theorem SR.start6 {w w2 : World} {x0 x1 x2 x3 x4 x5 : Value} {t : TypeId} {v : Value} {ws : List (List UInt8)}
    (hs : SliceV (fun b => b = ((w.alloc (.cells #[x0, x1, x2, x3, x4, x5] t)).alloc (.cells #[x0, x1, x2, x3, x4, x5] t)).heap.size) w2 v ws.length (strs ws))
    (hz : w2.heap.size = ((w.alloc (.cells #[x0, x1, x2, x3, x4, x5] t)).alloc (.cells #[x0, x1, x2, x3, x4, x5] t)).heap.size + 1)
    (hb : Below ((w.alloc (.cells #[x0, x1, x2, x3, x4, x5] t)).alloc (.cells #[x0, x1, x2, x3, x4, x5] t)).heap.size ((w.alloc (.cells #[x0, x1, x2, x3, x4, x5] t)).alloc (.cells #[x0, x1, x2, x3, x4, x5] t)) w2) :
    SR w [x0, x1, x2, x3, x4, x5] w2.heap.size (w2.alloc (.cells #[v, .bool false] 120)) ws false := by
  have bz := Blk.new (w.alloc (.cells #[x0, x1, x2, x3, x4, x5] t)) [x0, x1, x2, x3, x4, x5] t
  have hbz := (Blk.new w [x0, x1, x2, x3, x4, x5] t).alloc (.cells #[x0, x1, x2, x3, x4, x5] t)
  rw [World.size_alloc] at bz
  have hz' : w2.heap.size = w.heap.size + 3 := by simpa using hz
  have hbl : Below w.heap.size w w2 := ((below_alloc _ _).alloc (by simp) _).trans (hb.mono (by simp; omega))
  refine ⟨⟨v, Blk.new w2 [v, .bool false] 120, SliceV.sub hs fun b hb' => ⟨by rw [hb']; omega, Below.heap_alloc _ _ _ (by rw [hb']; omega)⟩⟩, hbl.alloc hbl.size _, by omega, ?_, ?_⟩
  · exact (hbz.below hb (by simp; omega)).alloc _
  · exact (bz.below hb (by simp)).alloc _

/-- What bytes say: the answer, how many bytes it has, and what is told. -/
def readSayF (bs : List UInt8) : SD × Nat × Int :=
  if (insideL bs).2 ≠ 0 then (SD.zero, 0, (insideL bs).2)
  else
    let q := sayOfR (splitC 32 (insideL bs).1) false
    if q.2.1 = false then (SD.zero, 0, 1)
    else if (!q.2.2.2 && q.2.2.1.isEmpty) = false then (SD.zero, 0, 2)
    else if q.1.wrong ≠ 0 then (SD.zero, 0, q.1.wrong)
    else (q.1, (insideL bs).1.length + 1, 0)

def ReadSAns (w : World) (q : SD × Nat × Int) (e : Ending) (w' : World) : Prop :=
  (∃ v u, e = .returned (.tuple #[.agg #[.int .i64 q.1.kind, .int .i64 q.1.n, .int .i64 q.1.m, .int .i64 q.1.err, v, u], .int .i64 (q.2.1 : Int), .int .i64 q.2.2]) ∧ w'.ownsRow w.heap.size 36 4 v q.1.ps.length (cellsL q.1.ps) ∧ w'.ownsRow w.heap.size 5 1 u q.1.body.length (u8s q.1.body)) ∧ Below w.heap.size w w'

set_option maxRecDepth 100000 in
set_option maxHeartbeats 1600000 in
theorem readSay_any (v : Value) (bs : List UInt8) (w : World) (hv : SliceB w.heap.size w v bs) (hV : Vars w) :
    Calls Tryz.prog 61 #[v, .func (.func 62) #[] #[], .func (.func 63) #[] #[]] w (ReadSAns w (readSayF bs)) := by
  have HB : Hid (SliceB w.heap.size w v bs ∧ Vars w ∧ 6 ≤ w.heap.size) := ⟨hv, hV, hV.six⟩
  obtain ⟨va, vc, rfl, -⟩ := hv
  clear hV
  have PI : Hid (∀ W, Below w.heap.size w W → Calls Tryz.prog 85 #[.slice va bs.length vc] W fun e w' => e = .returned (.tuple #[.string (bstr (insideL bs).1), .int .i64 (insideL bs).2]) ∧ w' = W) := fun W hW => inside_any _ bs W (HB.out.1.below hW)
  have hin := inside_len bs
  unfold readSayF
  generalize insideL bs = t at PI hin ⊢
  obtain ⟨t1, t2⟩ := t
  dsimp only at PI hin ⊢
  have HN : Hid (t1.length ≤ 400) := hin
  clear hin
  by_cases h0 : t2 = 0
  case neg =>
    rw [if_pos h0]
    go_enter Tryz.func61, Tryz.ntmps61
    go_wp2_with (first
      | (go_at_call 85; refine (PI.out _ ((below_alloc _ _).alloc (by simp) _)).mono ?_; rintro e w' ⟨rfl, hw⟩; rw [hw]; clear hw w')
      | fail)
    refine bodyPost_ret (v := .tuple #[.agg #[.int .i64 0, .int .i64 0, .int .i64 0, .int .i64 0, .slice none 0 0, .slice none 0 0], .int .i64 0, .int .i64 t2]) (by simp [results, Tryz.results61, go_sem, *]; done) rfl ?_
    exact ⟨⟨_, _, rfl, World.ownsRow_nil _ _ _ _, World.ownsRow_nil _ _ _ _⟩, (below_alloc _ _).alloc (by simp) _⟩
  case pos =>
    subst h0
    rw [if_neg (by simp)]
    obtain ⟨q, hq⟩ : ∃ q, q = sayOfR (splitC 32 t1) false := ⟨_, rfl⟩
    have PS : Hid (∀ W, Below w.heap.size w W → Calls Tryz.prog 86 #[.string (bstr t1), .string ⟨#[32]⟩] W fun e w' => (∃ v, e = .returned v ∧ SliceV (fun b => b = W.heap.size) w' v (splitC 32 t1).length (strs (splitC 32 t1))) ∧ w'.heap.size = W.heap.size + 1 ∧ Below W.heap.size W w') := fun W hW => split_any t1 W (by have := HN.out; omega) (HB.out.2.1.on hW)
    have hsm := small_split t1 HN.out
    have hf := fits_say (b := false) hsm
    have PP : Hid (∀ (W : World) (rb : Nat), 6 ≤ rb → Vars W → RD W rb (splitC 32 t1) false → Calls Tryz.prog 62 #[.pointer (some ⟨rb, 0, none⟩)] W (SayOfAns W rb q)) := fun W rb h6 hVW hR => by
      rw [hq]
      exact sayOf_any rb false _ W hsm h6 hVW hR
    rw [← hq] at hf ⊢
    generalize splitC 32 t1 = ws at PS PP
    have HF := hid hf
    have h6 := HB.out.2.2
    clear hq hsm hf
    obtain ⟨⟨ak, an, am, ae, ps, body⟩, kn, ws', bd⟩ := q
    dsimp only at PP HF ⊢
    unfold SayOfAns at PP
    dsimp only at PP
    have PJ : Hid (∀ (W : World) (rb : Nat), RD W rb ws' bd → Calls Tryz.prog 87 #[.pointer (some ⟨rb, 0, none⟩)] W fun e w' => e = .returned (.bool (!bd && ws'.isEmpty)) ∧ w' = W) := fun W rb hR => just_any rb bd ws' W hR
    have PX : Hid (∀ (W : World) (v u : Value), SliceP W.heap.size W v ps → SliceB W.heap.size W u body → Calls Tryz.prog 63 #[.agg #[.int .i64 ak, .int .i64 an, .int .i64 am, .int .i64 ae, v, u]] W fun r w' => r = .returned (.int .i64 (SD.wrong ⟨ak, an, am, ae, ps, body⟩)) ∧ Below W.heap.size W w') := fun W v u h1 h2 => fwrong_any ak an am ae v u ps body W h1 h2 HF.out
    generalize (!bd && ws'.isEmpty) = jv at PJ ⊢
    obtain ⟨wr, hwr⟩ : ∃ wr, wr = SD.wrong ⟨ak, an, am, ae, ps, body⟩ := ⟨_, rfl⟩
    rw [← hwr] at PX ⊢
    clear hwr
    cases kn
    case false =>
      rw [if_pos rfl]
      go_enter Tryz.func61, Tryz.ntmps61
      go_wp2_with (first
        | (go_at_call 85; refine (PI.out _ ((below_alloc _ _).alloc (by simp) _)).mono ?_; rintro e w' ⟨rfl, hw⟩; rw [hw]; clear hw w')
        | (go_at_call 86; refine (PS.out _ ((below_alloc _ _).alloc (by simp) _)).mono ?_; rintro e w2 ⟨⟨v2, rfl, hsl⟩, hz2, hb2⟩; obtain ⟨sa, sc, rfl, g1, g2, g3⟩ := SliceV.shape hsl; have S := hid (SR.start6 (w := w) (x0 := .int .i64 0) (x1 := .int .i64 0) (x2 := .int .i64 0) (x3 := .int .i64 0) (x4 := .slice none 0 0) (x5 := .slice none 0 0) (t := 30) (w2 := w2) hsl hz2 hb2); clear hsl hz2 hb2 g1 g2 g3)
        | (go_at_call 62; refine (PP.out _ _ (by have := S.out.lt; omega) (HB.out.2.1.on S.out.bl) S.out.rd).mono ?_; rintro e w5 ⟨⟨v, u, rfl, ho1, ho2⟩, hr, hg⟩; obtain ⟨pa, pc, rfl, g1, g2, g3⟩ := own_shape ho1; obtain ⟨ua, uc, rfl, g4, g5, g6⟩ := own_shape ho2; have HO := hid (And.intro (own_mono ho1 (Nat.le_trans S.out.lt (Nat.le_of_lt S.out.rlt))) (own_mono ho2 (Nat.le_trans S.out.lt (Nat.le_of_lt S.out.rlt)))); have S5 := hid (S.out.call hr hg); clear ho1 ho2 hr hg g1 g2 g3 g4 g5 g6; obtain ⟨⟨c0, c1, c2, c3, c4, c5⟩, cf, cz⟩ := S5.out.b0.c6; obtain ⟨⟨d0, d1, d2, d3, d4, d5⟩, df, dz⟩ := S5.out.b1.c6)
        | fail)
      refine bodyPost_ret (v := .tuple #[.agg #[.int .i64 0, .int .i64 0, .int .i64 0, .int .i64 0, .slice none 0 0, .slice none 0 0], .int .i64 0, .int .i64 1]) (by simp [results, Tryz.results61, go_sem, *]; done) rfl ?_
      exact ⟨⟨_, _, rfl, World.ownsRow_nil _ _ _ _, World.ownsRow_nil _ _ _ _⟩, ((((((S5.out.bl.setCell (Nat.le_refl _) _).setCell (Nat.le_refl _) _).setCell (Nat.le_refl _) _).setCell (Nat.le_refl _) _).setCell (Nat.le_refl _) _).setCell (Nat.le_refl _) _).alloc (by simpa using S5.out.bl.size) _⟩
    rw [if_neg (by simp)]
    cases jv
    case false =>
      rw [if_pos rfl]
      go_enter Tryz.func61, Tryz.ntmps61
      go_wp2_with (first
        | (go_at_call 85; refine (PI.out _ ((below_alloc _ _).alloc (by simp) _)).mono ?_; rintro e w' ⟨rfl, hw⟩; rw [hw]; clear hw w')
        | (go_at_call 86; refine (PS.out _ ((below_alloc _ _).alloc (by simp) _)).mono ?_; rintro e w2 ⟨⟨v2, rfl, hsl⟩, hz2, hb2⟩; obtain ⟨sa, sc, rfl, g1, g2, g3⟩ := SliceV.shape hsl; have S := hid (SR.start6 (w := w) (x0 := .int .i64 0) (x1 := .int .i64 0) (x2 := .int .i64 0) (x3 := .int .i64 0) (x4 := .slice none 0 0) (x5 := .slice none 0 0) (t := 30) (w2 := w2) hsl hz2 hb2); clear hsl hz2 hb2 g1 g2 g3)
        | (go_at_call 62; refine (PP.out _ _ (by have := S.out.lt; omega) (HB.out.2.1.on S.out.bl) S.out.rd).mono ?_; rintro e w5 ⟨⟨v, u, rfl, ho1, ho2⟩, hr, hg⟩; obtain ⟨pa, pc, rfl, g1, g2, g3⟩ := own_shape ho1; obtain ⟨ua, uc, rfl, g4, g5, g6⟩ := own_shape ho2; have HO := hid (And.intro (own_mono ho1 (Nat.le_trans S.out.lt (Nat.le_of_lt S.out.rlt))) (own_mono ho2 (Nat.le_trans S.out.lt (Nat.le_of_lt S.out.rlt)))); have S5 := hid (S.out.call hr hg); clear ho1 ho2 hr hg g1 g2 g3 g4 g5 g6; obtain ⟨⟨c0, c1, c2, c3, c4, c5⟩, cf, cz⟩ := S5.out.b0.c6; obtain ⟨⟨d0, d1, d2, d3, d4, d5⟩, df, dz⟩ := S5.out.b1.c6)
        | (go_at_call 87; refine (PJ.out _ _ (S5.out.on (below_alloc _ _)).rd).mono ?_; rintro e w' ⟨rfl, hw⟩; rw [hw]; clear hw w')
        | fail)
      refine bodyPost_ret (v := .tuple #[.agg #[.int .i64 0, .int .i64 0, .int .i64 0, .int .i64 0, .slice none 0 0, .slice none 0 0], .int .i64 0, .int .i64 2]) (by simp [results, Tryz.results61, go_sem, *]; done) rfl ?_
      exact ⟨⟨_, _, rfl, World.ownsRow_nil _ _ _ _, World.ownsRow_nil _ _ _ _⟩, ((((((S5.out.bl.setCell (Nat.le_refl _) _).setCell (Nat.le_refl _) _).setCell (Nat.le_refl _) _).setCell (Nat.le_refl _) _).setCell (Nat.le_refl _) _).setCell (Nat.le_refl _) _).alloc (by simpa using S5.out.bl.size) _⟩
    rw [if_neg (by simp)]
    by_cases hw0 : wr = 0
    case neg =>
      rw [if_pos hw0]
      have hwb : (wr != 0) = true := by simpa using hw0
      go_enter Tryz.func61, Tryz.ntmps61
      go_wp2_with (first
        | (go_at_call 85; refine (PI.out _ ((below_alloc _ _).alloc (by simp) _)).mono ?_; rintro e w' ⟨rfl, hw⟩; rw [hw]; clear hw w')
        | (go_at_call 86; refine (PS.out _ ((below_alloc _ _).alloc (by simp) _)).mono ?_; rintro e w2 ⟨⟨v2, rfl, hsl⟩, hz2, hb2⟩; obtain ⟨sa, sc, rfl, g1, g2, g3⟩ := SliceV.shape hsl; have S := hid (SR.start6 (w := w) (x0 := .int .i64 0) (x1 := .int .i64 0) (x2 := .int .i64 0) (x3 := .int .i64 0) (x4 := .slice none 0 0) (x5 := .slice none 0 0) (t := 30) (w2 := w2) hsl hz2 hb2); clear hsl hz2 hb2 g1 g2 g3)
        | (go_at_call 62; refine (PP.out _ _ (by have := S.out.lt; omega) (HB.out.2.1.on S.out.bl) S.out.rd).mono ?_; rintro e w5 ⟨⟨v, u, rfl, ho1, ho2⟩, hr, hg⟩; obtain ⟨pa, pc, rfl, g1, g2, g3⟩ := own_shape ho1; obtain ⟨ua, uc, rfl, g4, g5, g6⟩ := own_shape ho2; have HO := hid (And.intro (own_mono ho1 (Nat.le_trans S.out.lt (Nat.le_of_lt S.out.rlt))) (own_mono ho2 (Nat.le_trans S.out.lt (Nat.le_of_lt S.out.rlt)))); have S5 := hid (S.out.call hr hg); clear ho1 ho2 hr hg g1 g2 g3 g4 g5 g6; obtain ⟨⟨c0, c1, c2, c3, c4, c5⟩, cf, cz⟩ := S5.out.b0.c6; obtain ⟨⟨d0, d1, d2, d3, d4, d5⟩, df, dz⟩ := S5.out.b1.c6)
        | (go_at_call 87; refine (PJ.out _ _ (S5.out.on (below_alloc _ _)).rd).mono ?_; rintro e w' ⟨rfl, hw⟩; rw [hw]; clear hw w')
        | (go_at_call 63; refine (PX.out _ _ _ (own_props (own_below HO.out.1 (below_alloc _ _))) (own_bytes (own_below HO.out.2 (below_alloc _ _)) rfl)).mono ?_; rintro e w6 ⟨rfl, hb6⟩; have S6 := hid ((S5.out.on (below_alloc _ _)).on hb6); have HO6 := hid (And.intro (own_below (own_below HO.out.1 (below_alloc _ _)) hb6) (own_below (own_below HO.out.2 (below_alloc _ _)) hb6)); obtain ⟨⟨e0, e1, e2, e3, e4, e5⟩, ef, ez⟩ := ((Blk.new w5 [.int .i64 ak, .int .i64 an, .int .i64 am, .int .i64 ae, .slice pa ps.length pc, .slice ua body.length uc] 30).below hb6 (by simp)).c6; clear hb6 c0 c1 c2 c3 c4 c5 cf cz d0 d1 d2 d3 d4 d5 df dz; obtain ⟨⟨c0, c1, c2, c3, c4, c5⟩, cf, cz⟩ := S6.out.b0.c6; obtain ⟨⟨d0, d1, d2, d3, d4, d5⟩, df, dz⟩ := S6.out.b1.c6)
        | fail)
      refine bodyPost_ret (v := .tuple #[.agg #[.int .i64 0, .int .i64 0, .int .i64 0, .int .i64 0, .slice none 0 0, .slice none 0 0], .int .i64 0, .int .i64 wr]) (by simp [results, Tryz.results61, go_sem, *]; done) rfl ?_
      exact ⟨⟨_, _, rfl, World.ownsRow_nil _ _ _ _, World.ownsRow_nil _ _ _ _⟩, ((((((S6.out.bl.setCell (Nat.le_refl _) _).setCell (Nat.le_refl _) _).setCell (Nat.le_refl _) _).setCell (Nat.le_refl _) _).setCell (Nat.le_refl _) _).setCell (Nat.le_refl _) _)⟩
    subst hw0
    rw [if_neg (by simp)]
    have hlt : (bstr t1).size ≤ 400 := by rw [bstr_size]; exact HN.out
    go_enter Tryz.func61, Tryz.ntmps61
    go_wp2_with (first
      | (go_at_call 85; refine (PI.out _ ((below_alloc _ _).alloc (by simp) _)).mono ?_; rintro e w' ⟨rfl, hw⟩; rw [hw]; clear hw w')
      | (go_at_call 86; refine (PS.out _ ((below_alloc _ _).alloc (by simp) _)).mono ?_; rintro e w2 ⟨⟨v2, rfl, hsl⟩, hz2, hb2⟩; obtain ⟨sa, sc, rfl, g1, g2, g3⟩ := SliceV.shape hsl; have S := hid (SR.start6 (w := w) (x0 := .int .i64 0) (x1 := .int .i64 0) (x2 := .int .i64 0) (x3 := .int .i64 0) (x4 := .slice none 0 0) (x5 := .slice none 0 0) (t := 30) (w2 := w2) hsl hz2 hb2); clear hsl hz2 hb2 g1 g2 g3)
      | (go_at_call 62; refine (PP.out _ _ (by have := S.out.lt; omega) (HB.out.2.1.on S.out.bl) S.out.rd).mono ?_; rintro e w5 ⟨⟨v, u, rfl, ho1, ho2⟩, hr, hg⟩; obtain ⟨pa, pc, rfl, g1, g2, g3⟩ := own_shape ho1; obtain ⟨ua, uc, rfl, g4, g5, g6⟩ := own_shape ho2; have HO := hid (And.intro (own_mono ho1 (Nat.le_trans S.out.lt (Nat.le_of_lt S.out.rlt))) (own_mono ho2 (Nat.le_trans S.out.lt (Nat.le_of_lt S.out.rlt)))); have S5 := hid (S.out.call hr hg); clear ho1 ho2 hr hg g1 g2 g3 g4 g5 g6; obtain ⟨⟨c0, c1, c2, c3, c4, c5⟩, cf, cz⟩ := S5.out.b0.c6; obtain ⟨⟨d0, d1, d2, d3, d4, d5⟩, df, dz⟩ := S5.out.b1.c6)
      | (go_at_call 87; refine (PJ.out _ _ (S5.out.on (below_alloc _ _)).rd).mono ?_; rintro e w' ⟨rfl, hw⟩; rw [hw]; clear hw w')
      | (go_at_call 63; refine (PX.out _ _ _ (own_props (own_below HO.out.1 (below_alloc _ _))) (own_bytes (own_below HO.out.2 (below_alloc _ _)) rfl)).mono ?_; rintro e w6 ⟨rfl, hb6⟩; have S6 := hid ((S5.out.on (below_alloc _ _)).on hb6); have HO6 := hid (And.intro (own_below (own_below HO.out.1 (below_alloc _ _)) hb6) (own_below (own_below HO.out.2 (below_alloc _ _)) hb6)); obtain ⟨⟨e0, e1, e2, e3, e4, e5⟩, ef, ez⟩ := ((Blk.new w5 [.int .i64 ak, .int .i64 an, .int .i64 am, .int .i64 ae, .slice pa ps.length pc, .slice ua body.length uc] 30).below hb6 (by simp)).c6; clear hb6 c0 c1 c2 c3 c4 c5 cf cz d0 d1 d2 d3 d4 d5 df dz; obtain ⟨⟨c0, c1, c2, c3, c4, c5⟩, cf, cz⟩ := S6.out.b0.c6; obtain ⟨⟨d0, d1, d2, d3, d4, d5⟩, df, dz⟩ := S6.out.b1.c6)
      | fail)
    refine bodyPost_ret (v := .tuple #[.agg #[.int .i64 ak, .int .i64 an, .int .i64 am, .int .i64 ae, .slice pa ps.length pc, .slice ua body.length uc], .int .i64 ((t1.length + 1 : Nat) : Int), .int .i64 0]) (by simp [results, Tryz.results61, go_sem, bstr_size, *]; done) rfl ?_
    refine ⟨⟨_, _, rfl, own_mono ?_ (Nat.le_add_right _ 2), own_mono ?_ (Nat.le_add_right _ 2)⟩, ((((((S6.out.bl.setCell (Nat.le_refl _) _).setCell (Nat.le_refl _) _).setCell (Nat.le_refl _) _).setCell (Nat.le_refl _) _).setCell (Nat.le_refl _) _).setCell (Nat.le_refl _) _)⟩
    · exact own_set (own_set (own_set (own_set (own_set (own_set HO6.out.1 (by omega)) (by omega)) (by omega)) (by omega)) (by omega)) (by omega)
    · exact own_set (own_set (own_set (own_set (own_set (own_set HO6.out.2 (by omega)) (by omega)) (by omega)) (by omega)) (by omega)) (by omega)

set_option maxRecDepth 100000 in
set_option maxHeartbeats 1600000 in
theorem say_any (v : Value) (bs : List UInt8) (w : World) (hv : SliceB w.heap.size w v bs) (hV : Vars w) :
    Calls Tryz.prog 28 #[v] w (ReadSAns w (readSayF bs)) := by
  have HB : Hid (SliceB w.heap.size w v bs ∧ Vars w) := ⟨hv, hV⟩
  obtain ⟨va, vc, rfl, -⟩ := hv
  clear hV
  have P : Hid (∀ W, Below w.heap.size w W → Calls Tryz.prog 61 #[.slice va bs.length vc, .func (.func 62) #[] #[], .func (.func 63) #[] #[]] W (ReadSAns W (readSayF bs))) := fun W hW => readSay_any _ bs W (HB.out.1.below hW) (HB.out.2.on hW)
  generalize readSayF bs = q at P ⊢
  obtain ⟨⟨ak, an, am, ae, ps, body⟩, n, err⟩ := q
  unfold ReadSAns at P
  dsimp only at P
  go_enter Tryz.func28, Tryz.ntmps28
  go_wp2_with (first
    | (go_at_call 61; refine (P.out _ (below_alloc _ _)).mono ?_; rintro e w2 ⟨⟨v, u, rfl, ho1, ho2⟩, hb⟩; obtain ⟨pa, pc, rfl, g1, g2, g3⟩ := own_shape ho1; obtain ⟨ua, uc, rfl, g4, g5, g6⟩ := own_shape ho2; have H := hid (And.intro ((below_alloc w (.cells #[.int .i64 0, .int .i64 0, .int .i64 0, .int .i64 0, .slice none 0 0, .slice none 0 0] 30)).trans (hb.mono (by simp))) (And.intro ho1 ho2)); obtain ⟨⟨c0, c1, c2, c3, c4, c5⟩, cf, cz⟩ := ((Blk.new w [.int .i64 0, .int .i64 0, .int .i64 0, .int .i64 0, .slice none 0 0, .slice none 0 0] 30).below hb (by simp)).c6; clear hb ho1 ho2 g1 g2 g3 g4 g5 g6)
    | fail)
  refine bodyPost_ret (v := .tuple #[.agg #[.int .i64 ak, .int .i64 an, .int .i64 am, .int .i64 ae, .slice pa ps.length pc, .slice ua body.length uc], .int .i64 (n : Int), .int .i64 err]) (by simp [results, Tryz.results28, go_sem, *]; done) rfl ?_
  have h := H.out
  rw [World.size_alloc] at h
  refine ⟨⟨_, _, rfl, own_mono ?_ (Nat.le_succ _), own_mono ?_ (Nat.le_succ _)⟩, ((((((h.1.setCell (Nat.le_refl _) _).setCell (Nat.le_refl _) _).setCell (Nat.le_refl _) _).setCell (Nat.le_refl _) _).setCell (Nat.le_refl _) _).setCell (Nat.le_refl _) _)⟩
  · exact own_set (own_set (own_set (own_set (own_set (own_set h.2.1 (by omega)) (by omega)) (by omega)) (by omega)) (by omega)) (by omega)
  · exact own_set (own_set (own_set (own_set (own_set (own_set h.2.2 (by omega)) (by omega)) (by omega)) (by omega)) (by omega)) (by omega)
end Go.Proofs.YtedhlbknbaggiaaGreatDoor
