/-
  hall.Put.
-/
import Derived.Test.YthdaccmjipomdabFaceB
namespace Go.Proofs.Ythdaccmjipomdab
open Go.RowKit
set_option linter.unusedVariables false
set_option linter.unusedSimpArgs false

attribute [local go_sem ↓] Go.wp_at_zero Go.wp_at_succ

theorem cellsL_at (L : List PD) (k j : Nat) (hk : k < L.length) (hj : j < 4) : (cellsL L)[k * 4 + j]? = (L[k].cells)[j]? := flat_at _ 4 (fun _ => rfl) L k j hk hj

theorem props_at {B : Nat} {w : World} {a : Option Addr} {n c : Nat} {ps : List PD} (h : SliceP (Under B) w (.slice a n c) ps) : PropsAt B w a ps := by
  intro i hi
  obtain ⟨a', cap', e, _, _, _, h3⟩ := h
  simp only [Value.slice.injEq] at e
  obtain ⟨rfl, -, rfl⟩ := e
  have hl := cellsL_len ps
  obtain ⟨b, off, rfl, hs, _⟩ := h3 (i * 4) (by omega)
  have key : ∀ j (hj : j < 4), w.cell? ⟨b, off + i * 4 + j, none⟩ = (ps[i].cells)[j]? := fun j hj => by
    obtain ⟨b', off', e, _, hc⟩ := h3 (i * 4 + j) (by omega)
    simp only [Option.some.injEq, Addr.mk.injEq] at e
    obtain ⟨rfl, rfl, -⟩ := e
    rw [← cellsL_at ps i j hi hj, List.getElem?_eq_getElem (by omega), ← hc]
    congr 2; omega
  exact ⟨b, off, rfl, hs, key 0 (by omega), key 1 (by omega), key 2 (by omega), key 3 (by omega)⟩

def ND.wrong (n : ND) : Int := wrongN n.props n.body.length
def ND.fitN (n : ND) : Prop := ∀ p ∈ n.props, p.fitN

theorem wrong_small {n : ND} (h : n.wrong = 0) : n.small := by
  unfold ND.wrong wrongN at h
  split at h
  · simp at h
  · split at h
    · split at h
      · simp at h
      · exact ⟨by omega, by omega⟩
    · rename_i h1 h2
      simp [h] at h2

theorem noteWrong_any (pv bv : Value) (n : ND) (w : World) (hn : NoteIs (Under w.heap.size) w (pv, bv) n) (hf : n.fitN) :
    Calls Try.prog 65 #[.agg #[pv, bv]] w fun e w' => e = .returned (.int .i64 n.wrong) ∧ Below w.heap.size w w' := by
  obtain ⟨pa, pc, rfl, h1, h2, -⟩ := SliceV.shape hn.1
  obtain ⟨ba, bc, rfl, h3, h4, -⟩ := SliceV.shape hn.2
  exact wrong_any pa pc n.props ba n.body.length bc w (props_at hn.1) hf (by omega) (by omega)

/-- Put. -/
def hallPutF (h : HD) (name : ByteArray) (n : ND) : HD × List ED × Int := if n.wrong = 0 then faceF h name (fun k q => putF h k q n) else refuse n.wrong

set_option maxRecDepth 100000 in
set_option maxHeartbeats 1000000 in
theorem hallPut_any (v : Value) (h : HD) (name : ByteArray) (pv bv : Value) (n : ND) (w : World) (hv : SliceQ (Under w.heap.size) w v h.queues) (hsm : smallQ h.queues) (hnx : 0 ≤ h.next ∧ h.next ≤ 1000000000) (hn : NoteIs (Under w.heap.size) w (pv, bv) n) (hf : n.fitN) :
    Calls Try.prog 27 #[.agg #[v, .int .i64 h.next], .string name, .agg #[pv, bv]] w fun e w' => AnsH (hallPutF h name n) w e w' ∧ Below w.heap.size w w' := by
  have HV : Hid (SliceQ (Under w.heap.size) w v h.queues) := hv
  have HN : Hid (NoteIs (Under w.heap.size) w (pv, bv) n) := hn
  have HX : Hid (smallQ h.queues ∧ n.fitN) := ⟨hsm, hf⟩
  obtain ⟨va, vc, rfl⟩ := hv.shp
  obtain ⟨pa, pc, rfl, -⟩ := SliceV.shape hn.1
  obtain ⟨ba, bc, rfl, -⟩ := SliceV.shape hn.2
  clear hv hsm hn hf
  have three : Hid (∀ o1 o2 o3 : Obj, Below w.heap.size w (((w.alloc o1).alloc o2).alloc o3)) := fun o1 o2 o3 => ((below_alloc _ _).alloc (by simp) _).alloc (by simp; omega) _
  unfold hallPutF
  by_cases hw : n.wrong = 0
  · rw [if_pos hw]
    have HW : Hid (n.wrong = 0) := hw
    have HS : Hid n.small := wrong_small hw
    go_enter Try.func27, Try.ntmps27
    go_wp2_with (first
      | (go_at_call 65; refine (noteWrong_any _ _ n _ (HN.out.sub fun k hk => ⟨?_, (three.out _ _ _).block k hk⟩) HX.out.2).mono ?_; (simp [Under] at hk ⊢; omega); rw [HW.out]; rintro e w0 ⟨rfl, hb0⟩; have hk0 := (((Blk.new w _ 43).alloc _).alloc _).below hb0 (by simp; omega); have hk1 := ((Blk.new (w.alloc _) _ 32).alloc _).below hb0 (by simp); have hk2 := (Blk.new ((w.alloc _).alloc _) _ 43).below hb0 (by simp); simp only [World.size_alloc] at hk0 hk1 hk2; obtain ⟨a0, a1, a2, a3⟩ := hk0.b2; obtain ⟨c0, c1, c2, c3⟩ := hk2.b2; have HB0 : Hid (Below w.heap.size w w0) := (three.out _ _ _).trans (hb0.mono (by simp; omega)); have HN1 : Hid (Blk w0 (w.heap.size + 1) [.slice pa n.props.length pc, .slice ba n.body.length bc] ∧ Blk w0 (w.heap.size + 1 + 1) [.slice none 0 0, .int .i64 0]) := ⟨hk1, hk2⟩; clear hb0 hk0 hk1 hk2)
      | (go_at_call 62; refine (changed_face 66 [.pointer (some ⟨w.heap.size + 1, 0, none⟩)] _ name h (fun k q => putF h k q n) _ (HV.out.sub fun k hk => ⟨Nat.lt_of_lt_of_le hk HB0.out.size, HB0.out.block k hk⟩) HX.out.1 (fun k hk hnm => put_alters _ _ _ _ n HN1.out.1 (HN.out.sub fun k hk => ⟨Nat.lt_of_lt_of_le hk HB0.out.size, HB0.out.block k hk⟩) HS.out h k hk HX.out.1 hnx)).mono ?_; rintro e w1 ⟨⟨va1, vc1, ea1, ec1, rfl, hQ1, hE1⟩, hb1⟩; obtain ⟨b0, b1, b2, b3⟩ := (HN1.out.2.below hb1 HN1.out.2.lt).b2; have H1 : Hid _ := And.intro hQ1 (And.intro hE1 hb1); clear hQ1 hE1 hb1))
    refine bodyPost_ret (v := .tuple #[.agg #[.slice va1 (faceF h name (fun k q => putF h k q n)).1.queues.length vc1, .int .i64 (faceF h name (fun k q => putF h k q n)).1.next], .slice ea1 (faceF h name (fun k q => putF h k q n)).2.1.length ec1, .int .i64 (faceF h name (fun k q => putF h k q n)).2.2]) (by simp [results, Try.results27, go_sem, *]; done) rfl (face_end HB0.out (by have := HN1.out.2.lt; omega) H1.out.2.2 H1.out.1 H1.out.2.1 _ _)
  · rw [if_neg hw]
    have hwb : (n.wrong != 0) = true := by simpa using hw
    go_enter Try.func27, Try.ntmps27
    go_wp2_with (first
      | (go_at_call 65; refine (noteWrong_any _ _ n _ (HN.out.sub fun k hk => ⟨?_, (three.out _ _ _).block k hk⟩) HX.out.2).mono ?_; (simp [Under] at hk ⊢; omega); rintro e w0 ⟨rfl, hb0⟩; have hk2 := (Blk.new ((w.alloc _).alloc _) _ 43).below hb0 (by simp); simp only [World.size_alloc] at hk2; obtain ⟨c0, c1, c2, c3⟩ := hk2.b2; have HB0 : Hid (Below w.heap.size w w0) := (three.out _ _ _).trans (hb0.mono (by simp; omega)); clear hb0 hk2))
    refine bodyPost_ret (v := .tuple #[.agg #[.slice none 0 0, .int .i64 0], .slice none 0 0, .int .i64 n.wrong]) (by simp [results, Try.results27, go_sem, *]; done) rfl ⟨AnsH.refuse _ _ _, ?_⟩
    iterate 2 refine Below.setCell ?_ (by simp; omega) _
    exact HB0.out
end Go.Proofs.Ythdaccmjipomdab
