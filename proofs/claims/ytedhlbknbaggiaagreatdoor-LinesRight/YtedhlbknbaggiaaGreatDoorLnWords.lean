/-
  lines.noteWords answers what noteW says.
-/
import Derived.Test.YtedhlbknbaggiaaGreatDoorLnProp
import Derived.Deep.RegionLaw
namespace Go.Proofs.YtedhlbknbaggiaaGreatDoor
open Go.RowKit
set_option linter.unusedVariables false
set_option linter.unusedSimpArgs false

attribute [local go_sem ↓] Go.wp_at_zero Go.wp_at_succ

def strs (ws : List (List UInt8)) : List Value := ws.map fun x => Value.string (bstr x)
theorem strs_len (ws : List (List UInt8)) : (strs ws).length = ws.length := by simp [strs]
theorem strs_one (ws : List (List UInt8)) : ∀ u ∈ strs ws, u.oneCell' = true := by
  intro u hu
  simp only [strs, List.mem_map] at hu
  obtain ⟨x, -, rfl⟩ := hu
  rfl
theorem strs_app (a b : List (List UInt8)) : strs (a ++ b) = strs a ++ strs b := by simp [strs]

/-- A property as a word; a note as words. -/
def wordF (p : PD) : List UInt8 := p.key.data.toList ++ 61 :: valueF p
def noteW (ps : List PD) (body : List UInt8) : List (List UInt8) := ps.map wordF ++ [35 :: hexF body]
/-- What the words ask of a property (a right one has it). -/
def PD.fitsW (p : PD) : Prop := p.key.size ≤ 1000 ∧ (-9999999999 ≤ p.n ∧ p.n ≤ 9999999999) ∧ p.text.size ≤ 1000

theorem value_len (p : PD) (h : p.fitsW) : (valueF p).length ≤ 2001 := by
  obtain ⟨h1, h2, h3⟩ := h
  have := (itoa_len p.n h2).2
  unfold valueF
  split
  · omega
  · split
    · rw [List.length_cons, hexF_len, size_list]; omega
    · split
      · rw [List.length_cons]; omega
      · simp
theorem word_cat (k : ByteArray) (l : List UInt8) : k ++ ByteArray.mk #[61] ++ bstr l = bstr (k.data.toList ++ 61 :: l) := by
  apply ByteArray.ext
  simp [bstr]
theorem word_add (p : PD) : p.key ++ ByteArray.mk #[61] ++ bstr (valueF p) = bstr (wordF p) := word_cat _ _

set_option maxRecDepth 100000 in
set_option maxHeartbeats 3200000 in
theorem noteWords_any (v u : Value) (ps : List PD) (body : List UInt8) (w : World) (hv : SliceP w.heap.size w v ps) (hu : SliceB w.heap.size w u body) (hV : Vars w) (hl : ps.length ≤ 1000) (hb : body.length ≤ 1000) (hf : ∀ p ∈ ps, p.fitsW) :
    Calls Tryz.prog 53 #[.agg #[v, u]] w fun e w' => (∃ x, e = .returned x ∧ w'.ownsRow w.heap.size 9 1 x (noteW ps body).length (strs (noteW ps body))) ∧ Below w.heap.size w w' := by
  have HP : Hid (SliceP w.heap.size w v ps ∧ SliceB w.heap.size w u body) := ⟨hv, hu⟩
  have HV : Hid (Vars w) := hV
  have HF : Hid (∀ p ∈ ps, p.fitsW) := hf
  obtain ⟨va, vc, rfl, v1, v2, v3, -⟩ := hv
  obtain ⟨ua, uc, rfl, u1, u2, u3, -⟩ := hu
  unfold maxLen at v2 u2
  clear hV hf v3 u3
  go_enter Tryz.func53, Tryz.ntmps53
  go_upto_region 3 with fail
  go_loopw [3, 9] (fun out i wr => ∃ k : Nat, k ≤ ps.length ∧ i = .int .i64 (k : Int) ∧ wr.ownsRow (w.heap.size + 1) 9 1 out k (strs ((ps.take k).map wordF)) ∧ Below w.heap.size w wr ∧ Blk wr w.heap.size [.slice va ps.length vc, .slice ua body.length uc]) (fun _ i _ => ps.length - (intOf i).toNat)
  case atStart => exact ⟨0, by omega, rfl, World.ownsRow_nil _ _ _ _, below_alloc _ _, Blk.new w _ 25⟩
  case round =>
    obtain ⟨k, hk, rfl, hown, hbel, hbk⟩ := hrel
    obtain ⟨ao, cap, rfl, g1, g2, g3⟩ := own_shape hown
    have HR : Hid (wr.ownsRow (w.heap.size + 1) 9 1 (.slice ao k cap) k (strs ((ps.take k).map wordF)) ∧ Below w.heap.size w wr ∧ Blk wr w.heap.size [.slice va ps.length vc, .slice ua body.length uc]) := ⟨hown, hbel, hbk⟩
    have hz := hbel.size
    have hz2 : w.heap.size + 1 ≤ wr.heap.size := hbk.lt
    clear hown g1 g2 g3 hbk
    by_cases hlt : k < ps.length
    · obtain ⟨b, off, rfl, hS, hc0, hc1, hc2, hc3⟩ := (HP.out.1.below hbel).at k hlt
      obtain ⟨p, hp⟩ : ∃ p, p = ps[k] := ⟨_, rfl⟩
      rw [← hp] at hc0 hc1 hc2 hc3
      have hfp : p.fitsW := by rw [hp]; exact HF.out _ (List.getElem_mem _)
      have HC : Hid (p = ps[k] ∧ p.fitsW) := ⟨hp, hfp⟩
      have hvl := value_len p hfp
      have hks := hfp.1
      have hs1 : ¬ 9223372036854775807 < p.key.size + 1 := by omega
      have hs2 : ¬ 9223372036854775807 < p.key.size + 1 + (bstr (valueF p)).size := by rw [bstr_size]; omega
      have P : Hid (∀ W : World, Below w.heap.size w W → Calls Tryz.prog 17 #[.agg #[.string p.key, .int .i64 p.kind, .int .i64 p.n, .string p.text]] W fun e w' => e = .returned (.string (bstr (valueF p))) ∧ Below W.heap.size W w') := fun W hW => value_any p W (HV.out.on hW) HC.out.2.2.1 (by have := HC.out.2.2.2; omega)
      have HW : Hid (∀ o, Below w.heap.size w (wr.alloc o).drew) := fun o => (HR.out.2.1.alloc HR.out.2.1.size _).drew
      clear hbel hfp hp
      go_wp2_with fail
      go_region_law (first
        | (go_simp; go_at_call 17; refine (P.out _ (HW.out _)).mono ?_; rintro e w2 ⟨rfl, hb2⟩; obtain ⟨⟨x0, x1, x2, x3⟩, xf, xz⟩ := ((Blk.new wr [.string p.key, .int .i64 p.kind, .int .i64 p.n, .string p.text] 36).drew.below hb2 (by simp)).b4; have H2 : Hid (Below w.heap.size w w2 ∧ Below wr.heap.size wr w2) := ⟨(HW.out _).trans (hb2.mono (HW.out _).size), ((below_alloc _ _).drew).trans (hb2.mono (by simp))⟩; clear hb2)
        | (refine st74 rfl (.tmp 13) (.tmp 20) rfl (w.heap.size + 1) (.slice ao k cap) k (strs ((ps.take k).map wordF)) rfl (own_below (own_below HR.out.1 H2.out.2) (below_alloc _ _)) (fun b => b = w2.heap.size) _ 1 [.string (p.key ++ ByteArray.mk #[61] ++ bstr (valueF p))] rfl (new_slice w2 [.string (p.key ++ ByteArray.mk #[61] ++ bstr (valueF p))] 9 1 (by simp) (by simp [maxLen])) rfl (by simp [Value.oneCell']) (by omega) (by have := H2.out.2.size; simp; omega) ?_; intro ao2 cap2 w3 ho3 hg3 hm3)
        | fail)
      all_goals
        go_wp2
        go_roundw
        case rel =>
          refine ⟨k + 1, by omega, by go_num, ?_, ?_, ?_⟩
          · have e : strs ((ps.take (k + 1)).map wordF) = strs ((ps.take k).map wordF) ++ [.string (p.key ++ ByteArray.mk #[61] ++ bstr (valueF p))] := by
              rw [List.take_succ_eq_append_getElem hlt, ← HC.out.1, List.map_append, strs_app, word_add]
              rfl
            rw [e]
            exact ho3
          · exact (H2.out.1.alloc H2.out.1.size _).grown hg3 (by have := H2.out.1.size; simp; omega) (fun j hj => by have := own_base HR.out.1 j hj; omega)
          · have h1 := (HR.out.2.2.below H2.out.2 HR.out.2.2.lt).alloc (.cells #[.string (p.key ++ ByteArray.mk #[61] ++ bstr (valueF p))] 9)
            refine h1.same (hg3.block _ h1.lt (fun e => ?_))
            have := own_base HR.out.1 _ e.symm
            omega
        case measure => simp [intOf]; omega
    · have HE : Hid (ps.length = k) := by show ps.length = k; omega
      obtain ⟨x0, x1, x2, x3⟩ := HR.out.2.2.b2
      have PH : Hid (Calls Tryz.prog 15 #[.slice ua body.length uc] wr fun e w' => e = .returned (.string (bstr (hexF body))) ∧ Below wr.heap.size wr w') := hex_any _ body wr (HP.out.2.below hbel) (by omega)
      have hs : ¬ 9223372036854775807 < 1 + (bstr (hexF body)).size := by rw [bstr_size, hexF_len]; omega
      clear hbel
      go_wp2_with (first
        | (go_at_call 15; refine PH.out.mono ?_; rintro e w2 ⟨rfl, hb2⟩; have H2 : Hid (Below wr.heap.size wr w2) := hb2; clear hb2)
        | (at_builtin; refine app74 rfl (.tmp 23) (.tmp 28) rfl (w.heap.size + 1) (.slice ao k cap) k (strs ((ps.take k).map wordF)) rfl (own_below (own_below HR.out.1 H2.out) (below_alloc _ _)) (fun b => b = w2.heap.size) _ 1 [.string (ByteArray.mk #[35] ++ bstr (hexF body))] rfl (new_slice w2 [.string (ByteArray.mk #[35] ++ bstr (hexF body))] 9 1 (by simp) (by simp [maxLen])) rfl (by simp [Value.oneCell']) (by omega) (by have := H2.out.size; simp; omega) ?_; intro ao2 cap2 w3 ho3 hg3 hm3)
        | fail)
      go_ret
      have e : strs ((ps.take k).map wordF) ++ [.string (ByteArray.mk #[35] ++ bstr (hexF body))] = strs (noteW ps body) := by
        rw [List.take_of_length_le (by have := HE.out; omega), bstr_cat]
        unfold noteW
        rw [strs_app]
        rfl
      rw [e] at ho3
      refine ⟨⟨_, rfl, ?_⟩, ?_⟩
      · have e2 : (noteW ps body).length = k + 1 := by have := HE.out; simp [noteW]; omega
        rw [e2]
        exact own_mono ho3 (by omega)
      · exact ((HR.out.2.1.trans (H2.out.mono HR.out.2.1.size)).alloc (by have := H2.out.size; omega) _).grown hg3 (by have := H2.out.size; simp; omega) (fun j hj => by have := own_base HR.out.1 j hj; omega)
end Go.Proofs.YtedhlbknbaggiaaGreatDoor
