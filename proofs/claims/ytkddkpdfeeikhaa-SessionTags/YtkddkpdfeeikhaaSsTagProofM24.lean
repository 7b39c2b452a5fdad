/-
  JBytes; JWrite: texts laid together.
-/
import Derived.Test.YtkddkpdfeeikhaaSsTagProofM17
import Derived.Test.YtkddkpdfeeikhaaSsTagProofM23
/-
  journal.Bytes writes an entry.
-/
namespace Go.Proofs.Ytkddkpdfeeikhaa
open Go.RowKit
set_option linter.unusedVariables false
set_option linter.unusedSimpArgs false

attribute [local go_sem ↓] Go.wp_at_zero Go.wp_at_succ

/-- A number of 32 bits, the uppermost byte first. -/
def id4 (n : Int) : List UInt8 := [UInt8.ofNat (n / 16777216).toNat, UInt8.ofNat (n / 65536 % 256).toNat, UInt8.ofNat (n / 256 % 256).toNat, UInt8.ofNat (n % 256).toNat]

def ND.bytes (n : ND) : List UInt8 := NT.bytesF (n.props.map PD.nt) n.body

/-- An entry's bytes. -/
def entryB (e : ED) : List UInt8 :=
  [UInt8.ofNat e.kind.toNat, UInt8.ofNat e.queue.size] ++ e.queue.data.toList ++ (if e.kind = 1 then [UInt8.ofNat e.n.toNat] else if e.kind = 3 then id4 e.id ++ e.note.bytes else if e.kind = 4 then id4 e.id else [])

/-- An entry that may be. -/
def ED.right (e : ED) : Prop := (1 ≤ e.kind ∧ e.kind ≤ 4) ∧ e.queue.size ≤ 100 ∧ (0 ≤ e.n ∧ e.n ≤ 255) ∧ (0 ≤ e.id ∧ e.id ≤ 1000000) ∧ e.note.wrong = 0

theorem id4_cells (n : Int) (h0 : 0 ≤ n) (h1 : n ≤ 4294967295) : [Value.int IntKind.u8 (n / 16777216), Value.int IntKind.u8 (n / 65536 % 256), Value.int IntKind.u8 (n / 256 % 256), Value.int IntKind.u8 (n % 256)] = u8s (id4 n) := by
  simp only [u8s, id4, List.map_cons, List.map_nil]
  rw [NT.byteI _ (by omega) (by omega), NT.byteI _ (by omega) (by omega), NT.byteI _ (by omega) (by omega), NT.byteI _ (by omega) (by omega)]

set_option maxRecDepth 100000 in
set_option maxHeartbeats 1000000 in
theorem appendID_any (base : Nat) (v : Value) (xs : List UInt8) (n : Int) (h0 : 0 ≤ n) (h1 : n ≤ 4294967295) (w : World) (hown : w.ownsRow base 5 1 v xs.length (u8s xs)) (hb : base ≤ w.heap.size) (hx : xs.length ≤ 1000000) :
    Calls Try.prog 50 #[v, .int .i64 n] w fun e w' => ∃ v', e = .returned v' ∧ w'.ownsRow base 5 1 v' (xs ++ id4 n).length (u8s (xs ++ id4 n)) ∧ w.grownBy w' v.ownBlock ∧ NT.Moved w v v' := by
  go_enter Try.func50, Try.ntmps50
  go_wp2_with (
     (at_builtin; refine NT.wpList_app rfl (.tmp 5) (.tmp 17) rfl base v xs.length (u8s xs) rfl (hown.alloc _) (w.heap.size + 1) _ (id4 n) rfl (NT.new_bytes w (id4 n) _ (by simp [id4, maxLen]) ?hcells) (by simp [id4]; omega) (by simp; omega) ?_; rotate_left; intro ao cap w1 hown1 hg1 hm1))
  case hcells => exact id4_cells n h0 h1
  go_ret
  have e : (xs ++ id4 n).length = xs.length + (id4 n).length := by simp
  refine ⟨_, rfl, ?_, NT.grownBy_trans (NT.grownBy_of_below (NT.below_alloc w _)) hg1, hm1.of (by simp)⟩
  rw [e, show u8s (xs ++ id4 n) = u8s xs ++ u8s (id4 n) from NT.u8s_append xs (id4 n)]
  exact hown1

/-- The head of an entry's bytes. -/
def headE (kind : Int) (queue : ByteArray) : List UInt8 := [UInt8.ofNat kind.toNat, UInt8.ofNat queue.size] ++ queue.data.toList
theorem headE_len (kind : Int) (queue : ByteArray) : (headE kind queue).length = queue.size + 2 := by
  simp [headE]

theorem note_len {n : ND} (h : n.wrong = 0) : n.props.length ≤ 4 ∧ n.body.length ≤ 40 ∧ ∀ p ∈ n.props, p.wrong = 0 := by
  unfold ND.wrong wrongN at h
  by_cases h4 : 4 < n.props.length
  · simp [h4] at h
  · by_cases hw : wrongL n.props = 0
    · by_cases hb : 40 < n.body.length
      · simp [h4, hw, hb] at h
      · refine ⟨by omega, by omega, ?_⟩
        have : ∀ (ps : List PD), wrongL ps = 0 → ∀ p ∈ ps, p.wrong = 0 := fun ps => by
          induction ps with
          | nil => simp
          | cons p r ih =>
            intro h
            unfold wrongL at h
            by_cases hp : p.wrong = 0
            · simp [hp] at h
              intro x hx
              rw [List.mem_cons] at hx
              rcases hx with rfl | hx
              · exact hp
              · exact ih h x hx
            · simp [hp] at h
        exact this _ hw
    · simp [h4, hw] at h

set_option maxRecDepth 100000 in
set_option maxHeartbeats 3200000 in
theorem jbytes_any (e : ED) (hr : e.right) (pv bv : Value) (w : World) (hn : NoteIs (Under w.heap.size) w (pv, bv) e.note) :
    Calls Try.prog 15 #[.agg #[.int .i64 e.kind, .string e.queue, .int .i64 e.n, .int .i64 e.id, pv, bv]] w fun r w' => ∃ v, r = .returned v ∧ w'.ownsRow w.heap.size 5 1 v (entryB e).length (u8s (entryB e)) ∧ Below w.heap.size w w' := by
  obtain ⟨kind, queue, n, id, note⟩ := e
  obtain ⟨⟨k1, k2⟩, hq, ⟨n1, n2⟩, ⟨i1, i2⟩, hw⟩ := hr
  simp only at hq n1 n2 i1 i2 hw hn k1 k2 ⊢
  obtain ⟨pa, pc, rfl, -⟩ := SliceV.shape hn.1
  obtain ⟨ba, bc, rfl, -⟩ := SliceV.shape hn.2
  have HN : Hid (NoteIs (Under w.heap.size) w (.slice pa note.props.length pc, .slice ba note.body.length bc) note) := hn
  have HW : Hid (note.props.length ≤ 4 ∧ note.body.length ≤ 40 ∧ ∀ p ∈ note.props, p.wrong = 0) := note_len hw
  clear hn hw
  have HB1 : Hid (((UInt8.ofNat queue.size).toNat : Int) = queue.size) := NT.byte_of _ (by omega)
  have HB2 : Hid (((UInt8.ofNat kind.toNat).toNat : Int) = kind) := NT.byteI _ (by omega) (by omega)
  have HB3 : Hid (((UInt8.ofNat n.toNat).toNat : Int) = n) := NT.byteI _ (by omega) (by omega)
  have hke : kind = 1 ∨ kind = 2 ∨ kind = 3 ∨ kind = 4 := by omega
  obtain ⟨H, hH⟩ : ∃ H, H = headE kind queue := ⟨_, rfl⟩
  have HHL : Hid (H.length = queue.size + 2 ∧ H.length ≤ 102) := by rw [hH, headE_len]; exact ⟨rfl, by omega⟩
  have HHE : Hid (H = headE kind queue) := hH
  clear hH
  obtain ⟨T, hT⟩ : ∃ T, T = entryB ⟨kind, queue, n, id, note⟩ := ⟨_, rfl⟩
  rw [← hT]
  have HENT : Hid (T = H ++ (if kind = 1 then [UInt8.ofNat n.toNat] else if kind = 3 then id4 id ++ note.bytes else if kind = 4 then id4 id else [])) := by
    have h : T = headE kind queue ++ (if kind = 1 then [UInt8.ofNat n.toNat] else if kind = 3 then id4 id ++ note.bytes else if kind = 4 then id4 id else []) := by rw [hT]; simp [entryB, headE]
    rw [← HHE.out] at h
    exact h
  clear hT
  have hmk : kind % 256 = kind := by omega
  have hmq : (queue.size : Int) % 256 = queue.size := by omega
  have hmn : n % 256 = n := by omega
  have ny : Hid True := trivial
  have OWN : Hid (∀ o : Obj, ((w.alloc o).alloc (.cells #[.int .u8 kind, .int .u8 queue.size] 5)).ownsRow (w.heap.size + 1) 5 1 (.slice (some ⟨w.heap.size + 1, 0, none⟩) 2 2) 2 (u8s [UInt8.ofNat kind.toNat, UInt8.ofNat queue.size])) := by
    intro o
    have h := NT.new_own (w.alloc o) (w.heap.size + 1) [UInt8.ofNat kind.toNat, UInt8.ofNat queue.size] #[.int .u8 kind, .int .u8 queue.size] (by simp [maxLen]) (by simp only [NT.u8s, List.map_cons, List.map_nil, HB1.out, HB2.out]) (by simp)
    rw [World.size_alloc] at h
    exact h
  have HUH : Hid (u8s [UInt8.ofNat kind.toNat, UInt8.ofNat queue.size] ++ u8s queue.data.toList = u8s H) := by
    have h : u8s [UInt8.ofNat kind.toNat, UInt8.ofNat queue.size] ++ u8s queue.data.toList = u8s (headE kind queue) := by simp [u8s, headE]
    rw [← HHE.out] at h
    exact h
  go_enter Try.func15, Try.ntmps15
  go_upto_region 3 with (at_builtin; refine NT.wpList_app_str rfl (.tmp 12) (.tmp 14) rfl (w.heap.size + 1) (.slice (some ⟨w.heap.size + 1, 0, none⟩) 2 2) 2 _ rfl (OWN.out _) queue rfl (by omega) (by simp) ?_; intro ao cap w1 hown1 hg1 hm1)
  have hl2 : 2 + queue.size = H.length := by rw [HHL.out.1]; omega
  have H1 : Hid (w1.ownsRow (w.heap.size + 1) 5 1 (.slice ao H.length cap) H.length (u8s H) ∧ Below w.heap.size w w1 ∧ Blk w1 w.heap.size [.int .i64 kind, .string queue, .int .i64 n, .int .i64 id, .slice pa note.props.length pc, .slice ba note.body.length bc]) := by
    refine ⟨?_, ?_, ?_⟩
    · rw [← HUH.out, ← hl2]; exact hown1
    · refine ⟨hg1.os, hg1.tape, hg1.output, by have := hg1.size; simp at this; omega, fun b hb => ?_⟩
      rw [hg1.block b (by simp; omega) (fun e => by simp only [Value.ownBlock, Option.some.injEq] at e; omega), Below.heap_alloc _ _ _ (by simp; omega), Below.heap_alloc _ _ _ hb]
    · exact ((Blk.new w [.int .i64 kind, .string queue, .int .i64 n, .int .i64 id, .slice pa note.props.length pc, .slice ba note.body.length bc] 30).alloc _).same (hg1.block _ (by simp; omega) (fun e => by simp only [Value.ownBlock, Option.some.injEq] at e; omega))
  rw [hl2]
  clear hown1 hg1 hm1 hl2 OWN HUH
  have hz1 : w.heap.size + 1 ≤ w1.heap.size := by have := H1.out.2.2.lt; omega
  have hHl := HHL.out.2
  obtain ⟨c0, c1, c2, c3, c4, c5, c6, c7⟩ := H1.out.2.2.b6
  rcases hke with rfl | rfl | rfl | rfl
  · have HT : Hid (T = H ++ [UInt8.ofNat n.toNat]) := HENT.out
    clear HENT
    go_wp2_with (at_builtin; refine NT.wpList_app rfl (.tmp 20) (.tmp 24) rfl (w.heap.size + 1) (.slice ao H.length cap) H.length (u8s H) rfl (H1.out.1.alloc _) (w1.heap.size + 1) _ [UInt8.ofNat n.toNat] rfl (NT.new_bytes w1 [UInt8.ofNat n.toNat] _ (by simp [maxLen]) (by simp only [NT.u8s, List.map_cons, List.map_nil, HB3.out])) (by simp; omega) (by simp; omega) ?_; intro ao2 cap2 w2 hown2 hg2 hm2)
    go_ret
    refine ⟨_, rfl, ?_, ?_⟩
    · have h := own_mono (base' := w.heap.size) hown2 (by omega)
      rw [HT.out, List.length_append, show u8s (H ++ [UInt8.ofNat n.toNat]) = u8s H ++ u8s [UInt8.ofNat n.toNat] from NT.u8s_append _ _]
      exact h
    · refine H1.out.2.1.trans ⟨hg2.os, hg2.tape, hg2.output, by have := hg2.size; simp at this; omega, fun b hb => ?_⟩
      rw [hg2.block b (by simp; omega) (fun e => by have := (H1.out.1.lt b e.symm).1; omega), Below.heap_alloc _ _ _ (by omega)]
  · have HT : Hid (T = H ++ []) := HENT.out
    clear HENT
    go_wp2_with fail
    go_ret
    refine ⟨_, rfl, ?_, H1.out.2.1⟩
    rw [HT.out, List.append_nil]
    exact own_mono H1.out.1 (by omega)
  · have HT : Hid (T = H ++ (id4 id ++ note.bytes)) := HENT.out
    clear HENT
    have HBy : Hid (∀ W, Below w.heap.size w W → Calls Try.prog 51 #[.agg #[.slice pa note.props.length pc, .slice ba note.body.length bc]] W fun e w' => ∃ v, e = .returned v ∧ w'.ownsRow W.heap.size 5 1 v note.bytes.length (u8s note.bytes) ∧ Below W.heap.size W w') := by
      intro W hW
      have hn2 : NoteIs (Under W.heap.size) W (.slice pa note.props.length pc, .slice ba note.body.length bc) note := HN.out.sub fun b hb => ⟨Nat.lt_of_lt_of_le hb hW.size, hW.block b hb⟩
      have h := NT.bytes_any pa pc (note.props.map PD.nt) ba bc note.body W (props_nt hn2.1) (bytes_nt hn2.2) (by simpa using HW.out.1) (by have := HW.out.2.1; omega) (fun p hp => by
        simp only [List.mem_map] at hp
        obtain ⟨q, hq, rfl⟩ := hp
        exact small_nt (HW.out.2.2 q hq))
      rw [List.length_map] at h
      exact h
    have HBL : Hid (note.bytes.length ≤ 4194304) := by
      have h := HW.out
      have h1 : note.bytes.length = 2 + (NT.propsB (note.props.map PD.nt)).length + note.body.length := by
        simp [ND.bytes, NT.bytesF]; omega
      have h2 : (NT.propsB (note.props.map PD.nt)).length ≤ (note.props.map PD.nt).length * 40 := NT.propsB_len _ (fun p hp => by
        simp only [List.mem_map] at hp
        obtain ⟨q, hq, rfl⟩ := hp
        exact small_nt (h.2.2 q hq))
      rw [List.length_map] at h2
      have h3 : note.bytes.length ≤ 4194304 := by have := h.1; have := h.2.1; omega
      exact h3
    have hbl := HBL.out
    go_upto_region 7 with fail
    go_region_held3 (fun w' => w'.cell? ⟨w.heap.size, 3, none⟩ = some (.int .i64 id) ∧ w'.cell? ⟨w.heap.size, 4, none⟩ = some (.slice pa note.props.length pc) ∧ w'.cell? ⟨w.heap.size, 5, none⟩ = some (.slice ba note.body.length bc)) (go_keep) (first
      | (go_at_call 50; refine (appendID_any (w.heap.size + 1) _ H id i1 (by omega) _ ?_ ?_ (by omega)).mono ?_; (exact own_same (w := w1) H1.out.1 (fun b e => rfl)); (exact hz1); rintro e w2 ⟨v2, rfl, ho2, hg2, hm2⟩; have hb2 : Below (w.heap.size + 1) w1 w2 := ⟨hg2.os, hg2.tape, hg2.output, hg2.size, fun b hb => hg2.block b (by show b < w1.heap.size; omega) (fun e => by have := (H1.out.1.lt b e.symm).1; omega)⟩; obtain ⟨sa, sc, rfl, -⟩ := own_shape ho2; have hl3 : (H ++ id4 id).length = H.length + 4 := (by simp [id4]); have H2 : Hid (w2.ownsRow (w.heap.size + 1) 5 1 (.slice sa (H.length + 4) sc) (H.length + 4) (u8s (H ++ id4 id)) ∧ Below w.heap.size w w2 ∧ w1.heap.size ≤ w2.heap.size) := ⟨(by rw [hl3] at ho2; exact ho2), H1.out.2.1.trans (hb2.mono (by omega)), hb2.size⟩; have d0 := (hb2.cell (p := ⟨w.heap.size, 3, none⟩) (by show w.heap.size < _; omega)).trans c3; have d1 := (hb2.cell (p := ⟨w.heap.size, 4, none⟩) (by show w.heap.size < _; omega)).trans c4; have d2 := (hb2.cell (p := ⟨w.heap.size, 5, none⟩) (by show w.heap.size < _; omega)).trans c5; clear ho2 hg2 hm2 hb2)
      | (go_at_call 51; refine (HBy.out _ ?_).mono ?_; (exact ⟨H2.out.2.1.os, H2.out.2.1.tape, H2.out.2.1.output, H2.out.2.1.size, H2.out.2.1.block⟩); rintro e w3 ⟨v3, rfl, ho3, hb3⟩; have hb3' : Below w2.heap.size w2 w3 := ⟨hb3.os, hb3.tape, hb3.output, hb3.size, hb3.block⟩; obtain ⟨ta, tc, rfl, -⟩ := own_shape ho3; have H3 : Hid (w3.ownsRow w2.heap.size 5 1 (.slice ta note.bytes.length tc) note.bytes.length (u8s note.bytes) ∧ Below w2.heap.size w2 w3) := ⟨own_mono ho3 (by exact Nat.le_refl _), hb3'⟩; have hz2 := H2.out.2.1.size; have e0 := bel_c hb3' (by have := H2.out.2.2; omega) d0; have e1 := bel_c hb3' (by have := H2.out.2.2; omega) d1; have e2 := bel_c hb3' (by have := H2.out.2.2; omega) d2; clear ho3 hb3 hb3')
      | (refine NT.step_app (by rfl) (.tmp 31) (.tmp 34) (by rfl) (w.heap.size + 1) (.slice sa (H.length + 4) sc) (H.length + 4) (u8s (H ++ id4 id)) (by rfl) (own_below H2.out.1 H3.out.2) w3.heap.size (.slice ta note.bytes.length tc) note.bytes (by rfl) (NT.own_slice H3.out.1) (by omega) (by have := H2.out.2.2; have := H3.out.2.size; omega) ?_; intro ao4 cap4 w4 ho4 hg4; have hB4 : w4.heap[w.heap.size]? = w3.heap[w.heap.size]? := hg4.block w.heap.size (by have := H2.out.2.2; have := H3.out.2.size; omega) (fun e => by have := (H2.out.1.lt _ e.symm).1; omega); have f0 := (World.cell?_of_block (a := ⟨w.heap.size, 3, none⟩) hB4).trans e0; have f1 := (World.cell?_of_block (a := ⟨w.heap.size, 4, none⟩) hB4).trans e1; have f2 := (World.cell?_of_block (a := ⟨w.heap.size, 5, none⟩) hB4).trans e2; have H4 : Hid (w4.ownsRow (w.heap.size + 1) 5 1 (.slice ao4 (H.length + 4 + note.bytes.length) cap4) (H.length + 4 + note.bytes.length) (u8s (H ++ id4 id) ++ u8s note.bytes) ∧ w3.grownBy w4 (Value.slice sa (H.length + 4) sc).ownBlock) := ⟨ho4, hg4⟩; clear ho4 hg4 hB4))
    go_wp2_with fail
    go_ret
    refine ⟨_, rfl, ?_, ?_⟩
    · have h := own_mono (base' := w.heap.size) H4.out.1 (by omega)
      have hl : T.length = H.length + 4 + note.bytes.length := by rw [HT.out]; simp [id4]; omega
      have hu : u8s T = u8s (H ++ id4 id) ++ u8s note.bytes := by rw [HT.out, ← List.append_assoc]; exact NT.u8s_append _ _
      rw [hl, hu]
      exact h
    · have h4 := H4.out.2
      refine H2.out.2.1.trans ((H3.out.2.mono (by omega)).trans ⟨h4.os, h4.tape, h4.output, h4.size, fun b hb => ?_⟩)
      exact h4.block b (by have := H3.out.2.size; omega) (fun e => by have := (H2.out.1.lt b e.symm).1; omega)
  · have HT : Hid (T = H ++ id4 id) := HENT.out
    clear HENT
    go_wp2_with (go_at_call 50; refine (appendID_any (w.heap.size + 1) _ H id i1 (by omega) _ H1.out.1 hz1 (by omega)).mono ?_; rintro e w2 ⟨v2, rfl, ho2, hg2, hm2⟩)
    go_ret
    refine ⟨_, rfl, by rw [HT.out]; exact own_mono ho2 (by omega), H1.out.2.1.trans ⟨hg2.os, hg2.tape, hg2.output, hg2.size, fun b hb => hg2.block b (by omega) (fun e => by have := (H1.out.1.lt b e.symm).1; omega)⟩⟩
end Go.Proofs.Ytkddkpdfeeikhaa

/-
  journal.Write.
-/
namespace Go.Proofs.Ytkddkpdfeeikhaa
open Go.RowKit
set_option linter.unusedVariables false
set_option linter.unusedSimpArgs false

attribute [local go_sem ↓] Go.wp_at_zero Go.wp_at_succ

theorem rowS_below {base : Nat} {w w' : World} {v : Value} {vs : List Value} {rs : List (List UInt8)} (h : SR.RowS base w v vs rs) (hb : Below w.heap.size w w') : SR.RowS base w' v vs rs :=
  ⟨own_below h.1 hb, (h.2.1.same hb.block).mono hb.size, fun u hu g hg => ⟨Nat.lt_of_lt_of_le (h.2.2 u hu g hg).1 hb.size, (h.2.2 u hu g hg).2⟩⟩

/-- Bytes do not lie in a log's box: a store into it leaves them. -/
theorem bytes_off {w : World} {v : Value} {bs : List UInt8} {g : Nat} (h : SR.SliceB w.heap.size w v bs) (hg : Blk w g [.slice none 0 0, .int .i64 0]) {x y : Value} : SR.SliceB ((w.setCell ⟨g, 0, none⟩ x).setCell ⟨g, 1, none⟩ y).heap.size ((w.setCell ⟨g, 0, none⟩ x).setCell ⟨g, 1, none⟩ y) v bs := by
  obtain ⟨a, cap, rfl, h1, h2, h3, h4⟩ := h
  refine ⟨a, cap, rfl, h1, h2, h3, fun i hi => ?_⟩
  obtain ⟨b, off, rfl, hlt, hc⟩ := h4 i hi
  refine ⟨b, off, rfl, by simpa using hlt, ?_⟩
  have hne : b ≠ g := fun e => by
    subst e
    rw [hg.cell (off + i)] at hc
    have : off + i = 0 ∨ off + i = 1 ∨ 2 ≤ off + i := by omega
    rcases this with h | h | h
    · rw [h] at hc; simp at hc
    · rw [h] at hc; simp at hc
    · rw [List.getElem?_eq_none (by simpa using h)] at hc; cases hc
  rw [← hc]
  refine World.cell?_of_block ?_
  rw [Below.heap_setCell _ _ _ _ hne, Below.heap_setCell _ _ _ _ hne]

set_option maxRecDepth 100000 in
set_option maxHeartbeats 3200000 in
theorem write_anyF (u ev : Value) (sure : Int) (l : List UInt8) (es : List ED) (w : World) (hu : SliceB (Under w.heap.size) w u l) (he : SliceE (Under w.heap.size) w ev es) (hr : ∀ e ∈ es, e.right) (hel : es.length ≤ 4194304) (hll : l.length ≤ 140737488355328) :
    Calls Try.prog 20 #[.agg #[u, .int .i64 sure], ev] w fun r w' => SR.LogIsF w w' r (SR.appB l (es.map entryB)) (if SR.appE l (es.map entryB) = 0 then sure else 0) (SR.appE l (es.map entryB)) := by
  have HU : Hid (SliceB (Under w.heap.size) w u l) := hu
  have HE : Hid (SliceE (Under w.heap.size) w ev es) := he
  have HR : Hid (∀ e ∈ es, e.right) := hr
  obtain ⟨ua, uc, rfl, -⟩ := SliceV.shape hu
  obtain ⟨va, vc, rfl, hv1, hv2, -⟩ := he.shape
  unfold maxLen at hv2
  clear hu he hr
  obtain ⟨n, hn⟩ : ∃ n, n = es.length := ⟨_, rfl⟩
  have HN : Hid (n = es.length) := hn
  rw [← hn] at hel hv1
  rw [← hn]
  clear hn
  obtain ⟨ans, hans⟩ : ∃ ans, ans = SR.appB l (es.map entryB) := ⟨_, rfl⟩
  obtain ⟨sr, hsr⟩ : ∃ sr, sr = (if SR.appE l (es.map entryB) = 0 then sure else 0) := ⟨_, rfl⟩
  obtain ⟨er, her⟩ : ∃ er, er = SR.appE l (es.map entryB) := ⟨_, rfl⟩
  have HANS : Hid (ans = SR.appB l (es.map entryB) ∧ sr = (if SR.appE l (es.map entryB) = 0 then sure else 0) ∧ er = SR.appE l (es.map entryB)) := ⟨hans, hsr, her⟩
  rw [← hans, ← hsr, ← her]
  clear hans hsr her
  obtain ⟨A, hA⟩ : ∃ A, A = (w.alloc (.cells #[.slice ua l.length uc, .int .i64 sure] 32)).alloc (.cells #[.slice none 0 0, .int .i64 0] 32) := ⟨_, rfl⟩
  have hAz : A.heap.size = w.heap.size + 2 := by rw [hA]; simp
  have hAB : Below w.heap.size w A := by rw [hA]; exact (below_alloc _ _).alloc (by simp) _
  have hA0 : Blk A w.heap.size [.slice ua l.length uc, .int .i64 sure] := by rw [hA]; exact (Blk.new _ _ _).alloc _
  have hA1 : Blk A (w.heap.size + 1) [.slice none 0 0, .int .i64 0] := by
    rw [hA]
    have := Blk.new (w.alloc (.cells #[.slice ua l.length uc, .int .i64 sure] 32)) [.slice none 0 0, .int .i64 0] 32
    simpa using this
  have HAB : Hid (Below w.heap.size w A ∧ Blk A w.heap.size [.slice ua l.length uc, .int .i64 sure] ∧ Blk A (w.heap.size + 1) [.slice none 0 0, .int .i64 0]) := ⟨hAB, hA0, hA1⟩
  clear hAB hA0 hA1
  go_enter Try.func20, Try.ntmps20
  go_upto_region 1 with fail
  rw [← hA]
  clear hA
  go_wp2_with fail
  go_loopw [6, 11] (fun v i wr => ∃ (k : Nat) (vs : List Value), k ≤ n ∧ i = .int .i64 k ∧ SR.RowS A.heap.size wr v vs ((es.take k).map entryB) ∧ Below A.heap.size A wr) (fun _ i _ => n - (intOf i).toNat)
  case atStart => exact ⟨0, [], Nat.zero_le _, rfl, SR.RowS.nil _ _, Below.refl _ _⟩
  case round =>
    obtain ⟨k, vs, hk, rfl, hrow, hbel⟩ := hrel
    have HW : Hid (SR.RowS A.heap.size wr _ vs ((es.take k).map entryB)) := hrow
    have HBL : Hid (Below A.heap.size A wr) := hbel
    obtain ⟨ra, rc, rfl, hr1, hr2, -⟩ := own_shape hrow.1
    have hz := hbel.size
    have hkl : ((es.take k).map entryB).length = k := by have := HN.out; simp; omega
    have hw1 := hrow.1
    rw [hkl] at HW hr1 hw1 ⊢
    have HO : Hid (wr.ownsRow A.heap.size 26 1 (.slice ra k rc) k vs) := hw1
    have HKL : Hid (((es.take k).map entryB).length = k) := hkl
    unfold maxLen at hr2
    have hBw : Below w.heap.size w wr := HAB.out.1.trans (hbel.mono (by omega))
    clear hrow hbel hkl hw1
    by_cases hlt : k < n
    · have hk2 : k < es.length := by rw [← HN.out]; exact hlt
      obtain ⟨b, off, pa, pc, qa, qc, rfl, hS, hnt, ⟨c0, c1, c2, c3⟩, c4, c5⟩ := (SliceE.sub (T := Under w.heap.size) HE.out (fun b hb => ⟨hb, hBw.block b hb⟩)).at k hk2
      have HNT : Hid (NoteIs (Under w.heap.size) wr (.slice pa es[k].note.props.length pc, .slice qa es[k].note.body.length qc) es[k].note) := hnt
      obtain ⟨e, hee⟩ : ∃ e, e = es[k] := ⟨_, rfl⟩
      have HEE : Hid (e = es[k]) := hee
      rw [← hee] at c0 c1 c2 c3 c4 c5 HNT
      have hbw : b < wr.heap.size := by have := hBw.size; have : b < w.heap.size := hS; omega
      clear hnt hee
      have HJB : Hid (∀ W, Below wr.heap.size wr W → Calls Try.prog 15 #[.agg #[.int .i64 e.kind, .string e.queue, .int .i64 e.n, .int .i64 e.id, .slice pa e.note.props.length pc, .slice qa e.note.body.length qc]] W fun r w' => ∃ v, r = .returned v ∧ w'.ownsRow W.heap.size 5 1 v (entryB e).length (u8s (entryB e)) ∧ Below W.heap.size W w') := by
        show ∀ W, Below wr.heap.size wr W → _
        intro W hW
        have h1 := hBw.size
        exact jbytes_any e (by rw [HEE.out]; exact HR.out _ (List.getElem_mem hk2)) _ _ W (HNT.out.sub fun b hb => ⟨by have := hW.size; have : b < w.heap.size := hb; show b < W.heap.size; omega, hW.block b (by have : b < w.heap.size := hb; omega)⟩)
      go_wp2_with (first
        | (go_at_call 15; refine (HJB.out _ (below_alloc _ _)).mono ?_; rintro r w2 ⟨x, rfl, hx2, hb2⟩; obtain ⟨xa, xc, rfl, hx3, hx4, -⟩ := own_shape hx2; have hz2 := hb2.size; simp only [World.size_alloc] at hz2)
        | (at_builtin; refine SR.wpList_appV rfl (.tmp 15) (.tmp 18) rfl A.heap.size _ k vs rfl ((own_below (own_below HO.out (below_alloc _ _)) hb2).alloc _) (w2.heap.size + 1) _ [.slice xa (entryB e).length xc] rfl (SR.new_row w2 _) (by intro x hx; simp at hx; subst hx; rfl) (by simp; omega) (by simp at hz2 ⊢; omega) ?_; intro ao cap4 w4 hown4 hg4 hm4))
      have hp := (rowS_below HW.out (below_alloc wr _)).push (r := entryB e) (by simp; omega) hb2 hx2 (by rw [HKL.out]; simpa using hown4) hg4 hm4
      have hbn : Below A.heap.size A w4 := by
        have c1 : Below A.heap.size A w2 := HBL.out.trans (((below_alloc wr _).trans (hb2.mono (by simp))).mono hz)
        exact (c1.alloc c1.size _).trans (SR.own_dropG ((own_below (own_below HO.out (below_alloc _ _)) hb2).alloc _) (by have := c1.size; simp; omega) hg4)
      have hst : (es.take k).map entryB ++ [entryB e] = (es.take (k + 1)).map entryB := by
        rw [List.take_succ_eq_append_getElem hk2, List.map_append, HEE.out]
        rfl
      rw [hst] at hp
      go_roundw
      case rel => exact ⟨k + 1, _, by omega, by go_num, hp, hbn⟩
      case measure => simp [intOf]; omega
    · obtain rfl : k = n := by omega
      have hes : (es.take k).map entryB = es.map entryB := by rw [List.take_of_length_le (by have := HN.out; omega)]
      rw [hes] at HW
      obtain ⟨a0, a1, a2, a3⟩ := (HAB.out.2.1.below HBL.out (by omega)).b2
      obtain ⟨b0, b1, b2, b3⟩ := (HAB.out.2.2.below HBL.out (by omega)).b2
      have HAP : Hid (Calls Try.prog 58 #[.agg #[.slice ua l.length uc, .int .i64 sure], .slice ra k rc] wr fun e w' => SR.LogIsF wr w' e (SR.appB l (es.map entryB)) (if SR.appE l (es.map entryB) = 0 then sure else 0) (SR.appE l (es.map entryB))) :=
        SR.append_anyF _ _ sure l (es.map entryB) wr (bytes_sr (SliceV.sub HU.out fun b hb => ⟨Nat.lt_of_lt_of_le hb hBw.size, hBw.block b hb⟩)) HW.out.slice (by simp; have := HN.out; omega) hll
      have HBW : Hid (Below w.heap.size w wr ∧ A.heap.size ≤ wr.heap.size) := ⟨hBw, hz⟩
      clear hBw
      rw [← HANS.out.1, ← HANS.out.2.1, ← HANS.out.2.2] at HAP
      go_wp2_with (go_at_call 58; refine HAP.out.mono ?_; rintro r w5 ⟨ao, cap5, rfl, hs5, hb5, hf5⟩; have HB5 : Hid (SR.SliceB w5.heap.size w5 (.slice ao ans.length cap5) ans ∧ Below wr.heap.size wr w5) := ⟨hs5, hb5⟩; have HF5 : Hid (∀ a : Addr, ao = some a → wr.heap.size ≤ a.block) := hf5; have hD := ((HAB.out.2.2.below HBL.out (by omega)).below hb5 b3); have HD : Hid (Blk w5 (w.heap.size + 1) [.slice none 0 0, .int .i64 0]) := hD; obtain ⟨d0, d1, d2, d3⟩ := hD.b2; clear hs5 hb5 hf5 hD)
      have hne : w.heap.size ≠ w.heap.size + 1 := by omega
      refine bodyPost_ret (v := .tuple #[.agg #[.slice ao ans.length cap5, .int .i64 sr], .int .i64 er]) (by simp [results, Try.results20, go_sem, *]; done) rfl ⟨ao, cap5, rfl, ?_, ?_, fun a h => Nat.le_trans HBW.out.1.size (HF5.out a h)⟩
      · exact bytes_off HB5.out.1 HD.out
      · iterate 2 refine Below.setCell ?_ (show w.heap.size ≤ w.heap.size + 1 by omega) _
        exact HBW.out.1.trans (HB5.out.2.mono (by have := HBW.out.1.size; omega))

end Go.Proofs.Ytkddkpdfeeikhaa
