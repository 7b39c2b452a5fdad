/-
  tgref1.Bytes writes what bytesF says of a note that is right.
-/
import Derived.Test.YtnfmidbbelgldaaRefLeaf
import Derived.Deep.RegionHeld3
namespace Go.Proofs.Ytnfmidbbelgldaa
open Go.RowKit
set_option linter.unusedVariables false
set_option linter.unusedSimpArgs false

attribute [local go_sem ↓] Go.wp_at_zero Go.wp_at_succ

theorem own_below {w w' : World} {base : Nat} {e : TypeId} {size : Nat} {v : Value} {n : Nat} {xs : List Value} (h : w.ownsRow base e size v n xs) (hb : Below w.heap.size w w') : w'.ownsRow base e size v n xs :=
  h.kept (row := none) (grownBy_of_below hb) (by cases v.ownBlock <;> simp)
theorem block_bytes {w : World} {g : Nat} {cs : Array Value} {fr : Nat × Nat} (bs : List UInt8) (hl : bs.length ≤ maxLen) (hg : w.heap[g]? = some (.cells cs 5 fr)) (h : cs.toList = u8s bs) : SliceB w.heap.size w (.slice (some ⟨g, 0, none⟩) bs.length bs.length) bs := by
  refine ⟨_, _, rfl, Nat.le_refl _, hl, fun h => by simp at h, fun i hi => ⟨g, 0, rfl, (Array.getElem?_eq_some_iff.1 hg).1, ?_⟩⟩
  rw [cell_of_row w g _ cs 5 fr hg, Nat.zero_add, ← Array.getElem?_toList, h]
  simp [u8s, hi]

theorem step_appM {w : World} {ops : Array Oper} {o : Oper} {a : Act} {Q : Exit → Act → World → Prop} {K : Act → World → Prop} {E : Prop} (hgd : o.guard = none) (s x : Operand) (ho : o.op = .call { callee := .builtin .append, args := #[s, x], argTypes := #[23, 23] })
    (base : Nat) (v : Value) (n : Nat) (xs : List Value) (hs : a.eval s = v) (hown : w.ownsRow base 5 1 v n xs) (B : Nat) (u : Value) (bs : List UInt8) (hx : a.eval x = u) (hu : SliceB B w u bs)
    (hb : n + bs.length ≤ 140737488355328) (hbase : base ≤ w.heap.size)
    (h : ∀ ao cap w', w'.ownsRow base 5 1 (.slice ao (n + bs.length) cap) (n + bs.length) (xs ++ u8s bs) → w.grownBy w' v.ownBlock → Moved w v (.slice ao (n + bs.length) cap) → K (a.put o.dst (.slice ao (n + bs.length) cap)) w') :
    if Region.wanted o (yielded ops a.tmps) = true then Oper.wp Try.prog o a w K Q else E := by
  have hw : Region.wanted o (yielded ops a.tmps) = true := by simp [Region.wanted, hgd]
  rw [if_pos hw]
  obtain ⟨ao, cap, w', hr, h1, h2, h3⟩ := run_app w o.type base v n xs hown B u bs hu hb hbase
  exact wp_app_of s x ho hs hx hr (h ao cap w' h1 h2 h3)

theorem kind_block (w : World) (o o' : Obj) : ((w.alloc o).alloc o').drew.heap[w.heap.size + 1]? = some o' := by
  have := heap_alloc_new (w.alloc o) o'
  rw [World.size_alloc] at this
  exact this

set_option maxRecDepth 100000 in
set_option maxHeartbeats 4000000 in
theorem refBytes_any (pa : Option Addr) (pc : Nat) (ps : List PD) (ba : Option Addr) (bc : Nat) (body : List UInt8) (w : World) (hps : PropsAt w.heap.size w pa ps) (hbd : SliceB w.heap.size w (.slice ba body.length bc) body) (hl : ps.length ≤ 4) (hbl : body.length ≤ 255) (hsm : ∀ p ∈ ps, p.small) :
    Calls Try.prog 31 #[.agg #[.slice pa ps.length pc, .slice ba body.length bc]] w fun e w' => ∃ v, e = .returned v ∧ w'.ownsRow w.heap.size 5 1 v (bytesF ps body).length (u8s (bytesF ps body)) ∧ Below w.heap.size w w' := by
  have HB1 : Hid (((UInt8.ofNat ps.length).toNat : Int) = ps.length) := byte_of _ (by omega)
  have hpl := propsB_len ps hsm
  go_enter Try.func31, Try.ntmps31
  go_wp2
  go_loopw [3, 14] (fun v i wr => ∃ k : Nat, k ≤ ps.length ∧ i = .int .i64 k ∧ Below (w.heap.size + 1) (w.alloc (.cells #[.slice pa ps.length pc, .slice ba body.length bc] 25)) wr ∧
      wr.ownsRow (w.heap.size + 1) 5 1 v (UInt8.ofNat ps.length :: propsB (ps.take k)).length (u8s (UInt8.ofNat ps.length :: propsB (ps.take k))))
    (fun _ i _ => ps.length - (intOf i).toNat)
  case atStart =>
    refine ⟨0, Nat.zero_le _, rfl, (Below.refl _ _).alloc (by simp) _, ?_⟩
    have := new_own (w.alloc (.cells #[.slice pa ps.length pc, .slice ba body.length bc] 25)) (w.heap.size + 1) [UInt8.ofNat ps.length] #[.int .u8 ps.length] (by simp [maxLen]) (by simp [u8s, HB1.out]; omega) (by simp)
    simpa [propsB] using this
  case round =>
    obtain ⟨k, hk, rfl, hnx, hown⟩ := hrel
    have hsz : w.heap.size + 1 ≤ wr.heap.size := by have := hnx.size; simpa using this
    have hn1 : wr.cell? ⟨w.heap.size, 1, none⟩ = some (.slice ba body.length bc) := by rw [hnx.cell (by simp)]; simp
    obtain ⟨xs, hxs⟩ : ∃ xs, xs = UInt8.ofNat ps.length :: propsB (ps.take k) := ⟨_, rfl⟩
    rw [← hxs] at hown
    have hxl : xs.length ≤ 200 := by
      have := propsB_len (ps.take k) (fun p hp => hsm p (List.mem_of_mem_take hp))
      rw [hxs]; simp at this ⊢; omega
    have HX : Hid (xs = UInt8.ofNat ps.length :: propsB (ps.take k)) := hxs
    clear hxs
    obtain ⟨va, vc, hve, _⟩ := own_shape hown
    subst hve
    by_cases hlt : k < ps.length
    · obtain ⟨b, off, rfl, hblt, h0, h1', h2, h3⟩ := hps k hlt
      obtain ⟨p, hp⟩ : ∃ p, p = ps[k] := ⟨_, rfl⟩
      have hsp := hsm ps[k] (List.getElem_mem _)
      rw [← hp] at h0 h1' h2 h3 hsp
      have cc : ∀ o, wr.cell? ⟨b, o, none⟩ = w.cell? ⟨b, o, none⟩ := fun o => by
        rw [hnx.cell (by show b < _; omega)]; exact World.cell?_alloc_lt _ _ _ hblt
      have g0 : wr.cell? ⟨b, off + k * 4, none⟩ = _ := (cc _).trans h0
      have g1 : wr.cell? ⟨b, off + k * 4 + 1, none⟩ = _ := (cc _).trans h1'
      have g2 : wr.cell? ⟨b, off + k * 4 + 2, none⟩ = _ := (cc _).trans h2
      have g3 : wr.cell? ⟨b, off + k * 4 + 3, none⟩ = _ := (cc _).trans h3
      clear cc h0 h1' h2 h3
      have HP : Hid (p = ps[k]) := hp
      clear hp
      obtain ⟨sp1, sp2, sp3, sp4⟩ := hsp
      have HKB : Hid (((UInt8.ofNat p.kind.toNat).toNat : Int) = p.kind) := byteI _ (by omega) (by omega)
      have HKC : Hid ([Value.int .u8 p.kind] = u8s [UInt8.ofNat p.kind.toNat]) := by show _ = _; simp only [u8s, List.map_cons, List.map_nil]; rw [HKB.out]
      have HTL : Hid ((txt p.key).length = p.key.size + 1) := txt_len p.key
      have hvn : ∀ g, wr.heap.size ≤ g → some g ≠ (Value.slice va xs.length vc).ownBlock := fun g hg e => by have := (hown.lt g e.symm).2; omega
      have HVN : Hid (∀ g, wr.heap.size ≤ g → some g ≠ (Value.slice va xs.length vc).ownBlock) := hvn
      clear hvn
      have hwr : IntKind.u8.wrap p.kind = p.kind := by simp [IntKind.wrap, IntKind.bits, IntKind.signed]; omega
      go_wp2_with fail
      go_region_held3 (fun w' => w'.cell? ⟨wr.heap.size, 0, none⟩ = some (.string p.key) ∧ w'.cell? ⟨wr.heap.size, 1, none⟩ = some (.int .i64 p.kind)) (refine ⟨?_, ?_⟩ <;> first | assumption | (simp [go_sem]; done) | (refine (World.cell?_alloc_lt _ _ _ ?_).trans ?_ <;> first | assumption | (show wr.heap.size < _; omega)))
        (first
          | (go_at_call 29; refine (refText_any p.key _ (by omega)).mono ?_; rintro e w1 ⟨ao1, cap1, rfl, own1, hb1⟩; have hown1 : w1.ownsRow (w.heap.size + 1) 5 1 (.slice va xs.length vc) xs.length (u8s xs) := (by first | exact own_below (hown.alloc _).drew hb1 | exact own_below ((hown.alloc _).alloc _).drew hb1); have hz1 : wr.heap.size + 1 ≤ w1.heap.size := (by have := hb1.size; simp at this; omega); have b1 : Below wr.heap.size wr w1 := (by first | exact (below_conv _ _).trans (hb1.mono (by simp)) | exact (((below_alloc _ _).alloc (by simp) _).drew).trans (hb1.mono (by simp; omega))); have k1 : ∀ o, o < 4 → w1.cell? ⟨wr.heap.size, o, none⟩ = p.cells[o]? := (fun o ho => (hb1.cell (by simp <;> omega)).trans (by simp [go_sem, PD.cells])); have k10 : w1.cell? ⟨wr.heap.size, 0, none⟩ = some (.string p.key) := k1 0 (by omega); have k11 : w1.cell? ⟨wr.heap.size, 1, none⟩ = some (.int .i64 p.kind) := k1 1 (by omega))
          | (have own1x := own1; refine step_appM (by rfl) (.tmp 18) (.tmp 21) (by rfl) (w.heap.size + 1) (.slice va xs.length vc) xs.length (u8s xs) (by rfl) (by first | exact hown1 | exact hown1.alloc _) w1.heap.size (.slice ao1 (txt p.key).length cap1) (txt p.key) (by rfl) (by first | exact own_slice own1 | exact (own_slice own1).same (fun j hj => Below.heap_alloc _ _ _ hj)) (by rw [HTL.out]; omega) (by first | omega | (simp; omega)) ?_; intro ao2 cap2 w2 hown2 hg2 hm2; have hz2 : w1.heap.size ≤ w2.heap.size := (by have := hg2.size; first | omega | (simp at this; omega)); have k2 : ∀ o, o < 4 → w2.cell? ⟨wr.heap.size, o, none⟩ = p.cells[o]? := (fun o ho => ((own_far hg2 wr.heap.size (by first | omega | (simp; omega)) (HVN.out _ (Nat.le_refl _))).1 o).trans (by first | exact k1 o ho | exact (World.cell?_alloc_lt _ _ _ (show wr.heap.size < w1.heap.size by omega)).trans (k1 o ho))); have k20 : w2.cell? ⟨wr.heap.size, 0, none⟩ = some (.string p.key) := k2 0 (by omega); have k21 : w2.cell? ⟨wr.heap.size, 1, none⟩ = some (.int .i64 p.kind) := k2 1 (by omega); have n2 : some wr.heap.size ≠ (Value.slice ao2 (xs.length + (txt p.key).length) cap2).ownBlock := (fun e => (hm2 _ e.symm).elim (fun h => HVN.out _ (Nat.le_refl _) h.symm) (fun h => by first | omega | (simp at h; omega))); have b2 : Below (w.heap.size + 1) wr w2 := (by first | exact (b1.mono hsz).trans (own_drop hown1 (by omega) hg2) | exact ((b1.mono hsz).alloc (by omega) _).trans (own_drop (hown1.alloc _) (by simp; omega) hg2)))
          | (have own2x := hown2; refine step_appM (by rfl) (.tmp 22) (.tmp 26) (by rfl) (w.heap.size + 1) (.slice ao2 (xs.length + (txt p.key).length) cap2) (xs.length + (txt p.key).length) (u8s xs ++ u8s (txt p.key)) (by rfl) (by first | exact hown2 | exact hown2.alloc _) _ _ [UInt8.ofNat p.kind.toNat] (by rfl) (by first | exact new_bytes w2 [UInt8.ofNat p.kind.toNat] _ (by simp [maxLen]) HKC.out | exact block_bytes (g := w1.heap.size) [UInt8.ofNat p.kind.toNat] (by simp [maxLen]) ((hg2.block w1.heap.size (by simp) (HVN.out _ (by omega))).trans (heap_alloc_new w1 _)) HKC.out | exact block_bytes (g := wr.heap.size + 1) [UInt8.ofNat p.kind.toNat] (by simp [maxLen]) ((hg2.block (wr.heap.size + 1) (by have := hb1.size; simp at this; omega) (HVN.out _ (by omega))).trans ((hb1.block (wr.heap.size + 1) (by simp)).trans (kind_block wr _ _))) HKC.out) (by rw [HTL.out]; simp; omega) (by first | omega | (simp; omega)) ?_; intro ao3 cap3 w3 hown3 hg3 hm3; have hz3 : w2.heap.size ≤ w3.heap.size := (by have := hg3.size; first | omega | (simp at this; omega)); have k3 : ∀ o, o < 4 → w3.cell? ⟨wr.heap.size, o, none⟩ = p.cells[o]? := (fun o ho => ((own_far hg3 wr.heap.size (by first | omega | (simp; omega)) n2).1 o).trans (by first | exact k2 o ho | exact (World.cell?_alloc_lt _ _ _ (show wr.heap.size < w2.heap.size by omega)).trans (k2 o ho))); have k30 : w3.cell? ⟨wr.heap.size, 0, none⟩ = some (.string p.key) := k3 0 (by omega); have k31 : w3.cell? ⟨wr.heap.size, 1, none⟩ = some (.int .i64 p.kind) := k3 1 (by omega); have k32 : w3.cell? ⟨wr.heap.size, 2, none⟩ = some (.int .i64 p.n) := k3 2 (by omega); have k33 : w3.cell? ⟨wr.heap.size, 3, none⟩ = some (.string p.text) := k3 3 (by omega); have b3 : Below (w.heap.size + 1) wr w3 := (by first | exact b2.trans (own_drop hown2 (by omega) hg3) | exact (b2.alloc (by omega) _).trans (own_drop (hown2.alloc _) (by simp; omega) hg3))))
      all_goals
        obtain ⟨ys, hys⟩ : ∃ ys, ys = xs ++ txt p.key ++ [UInt8.ofNat p.kind.toNat] := ⟨_, rfl⟩
        have hyl : ys.length = xs.length + (txt p.key).length + 1 := by rw [hys]; simp; omega
        have own4 : w3.ownsRow (w.heap.size + 1) 5 1 (.slice ao3 (xs.length + (txt p.key).length + 1) cap3) ys.length (u8s ys) := by
          rw [hyl, hys, u8s_append, u8s_append]; exact hown3
        have HY : Hid (ys = xs ++ txt p.key ++ [UInt8.ofNat p.kind.toNat]) := hys
        have HYL : Hid (ys.length = xs.length + (txt p.key).length + 1) := hyl
        have hyb : ys.length ≤ 300 := by rw [hyl, HTL.out]; omega
        have hz4 : w.heap.size + 1 ≤ w3.heap.size := by have := b3.size; omega
        clear hown3 hown2 hown1 own1 hys hyl hg2 hg3 hm2 hm3 k1 k2 k3 n2 hb1 b1 b2 hz1 hz2 hz3
        by_cases hk2 : p.kind = 2
        · have st := sp4 hk2
          have HPB : Hid (propB p = txt p.key ++ (UInt8.ofNat p.kind.toNat :: txt p.text)) := by show propB p = _; simp [propB, hk2]
          have hk2' : (p.kind == 2) = true := by simpa using hk2
          have HK2 : Hid (p.kind = 2) := hk2
          clear hk2
          go_wp2_with (first
            | (go_at_call 29; refine (refText_any p.text _ (by omega)).mono ?_; rintro e w5 ⟨ao5, cap5, rfl, own5, hb5⟩; have hz5 := hb5.size)
            | (at_builtin; refine wpList_app rfl (.tmp 31) (.tmp 34) rfl (w.heap.size + 1) (.slice ao3 (xs.length + (txt p.key).length + 1) cap3) ys.length (u8s ys) rfl (own_below own4 hb5) w5.heap.size _ (txt p.text) rfl (own_slice own5) (by rw [txt_len]; omega) (by omega) ?_; intro ao6 cap6 w6 own6 hg6 hm6))
          go_roundw
          case rel =>
            refine ⟨k + 1, by omega, by go_num, hnx.trans (b3.trans ((hb5.mono hz4).trans (own_drop (own_below own4 hb5) (by omega) hg6))), ?_⟩
            have e1 : UInt8.ofNat ps.length :: propsB (ps.take (k + 1)) = ys ++ txt p.text := by rw [HY.out, HX.out, propsB_take ps k hlt, ← HP.out, HPB.out]; simp
            rw [e1, u8s_append, List.length_append]; exact own6
          case measure => simp [intOf]; omega
        · have HPB : Hid (propB p = txt p.key ++ (UInt8.ofNat p.kind.toNat :: num4 p.n)) := by show propB p = _; simp [propB, hk2]
          have hk2' : (p.kind == 2) = false := by simpa using hk2
          go_wp2_with (first
            | (go_at_call 30; refine (refNum_any p.n _).mono ?_; rintro e w5 ⟨ao5, cap5, rfl, own5, hb5⟩; have hz5 := hb5.size)
            | (at_builtin; refine wpList_app rfl (.tmp 36) (.tmp 39) rfl (w.heap.size + 1) (.slice ao3 (xs.length + (txt p.key).length + 1) cap3) ys.length (u8s ys) rfl (own_below own4 hb5) w5.heap.size _ (num4 p.n) rfl (own_slice own5) (by simp [num4]; omega) (by omega) ?_; intro ao6 cap6 w6 own6 hg6 hm6))
          go_roundw
          case rel =>
            refine ⟨k + 1, by omega, by go_num, hnx.trans (b3.trans ((hb5.mono hz4).trans (own_drop (own_below own4 hb5) (by omega) hg6))), ?_⟩
            have e1 : UInt8.ofNat ps.length :: propsB (ps.take (k + 1)) = ys ++ num4 p.n := by rw [HY.out, HX.out, propsB_take ps k hlt, ← HP.out, HPB.out]; simp
            rw [e1, u8s_append, List.length_append]; exact own6
          case measure => simp [intOf]; omega
    · have hcv := conv_str (hbd.same (fun j hj => (hnx.block j (by omega)).trans (Below.heap_alloc _ _ _ hj)))
      have HBS : Hid ((bstr body).size = body.length) := bstr_size body
      go_wp2_with (first
        | (go_at_call 29; refine (refText_any (bstr body) _ (by rw [HBS.out]; exact hbl)).mono ?_; rintro e w5 ⟨ao5, cap5, rfl, own5, hb5⟩; have hz5 := hb5.size)
        | (at_builtin; refine wpList_app rfl (.tmp 42) (.tmp 46) rfl (w.heap.size + 1) (.slice va xs.length vc) xs.length (u8s xs) rfl (own_below hown hb5) w5.heap.size _ (txt (bstr body)) rfl (own_slice own5) (by rw [txt_len, HBS.out]; omega) (by omega) ?_; intro ao6 cap6 w6 own6 hg6 hm6))
      go_ret
      have e : k = ps.length := by omega
      have e1 : bytesF ps body = xs ++ txt (bstr body) := by
        rw [HX.out, e, List.take_of_length_le (Nat.le_refl _)]; simp [bytesF, txt, HBS.out, bstr_data]
      refine ⟨_, rfl, ?_, ?_⟩
      · rw [e1, u8s_append, List.length_append]
        exact own_mono own6 (by omega)
      · exact (below_alloc _ _).trans ((hnx.trans ((hb5.mono hsz).trans (own_drop (own_below hown hb5) (by omega) hg6))).mono (by omega))
end Go.Proofs.Ytnfmidbbelgldaa
