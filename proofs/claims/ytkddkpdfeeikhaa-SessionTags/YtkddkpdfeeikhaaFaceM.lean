/-
  hall.Make and hall.Drop.
-/
import Derived.Test.YtkddkpdfeeikhaaSsTagProofM10
namespace Go.Proofs.Ytkddkpdfeeikhaa
open Go.RowKit
set_option linter.unusedVariables false
set_option linter.unusedSimpArgs false

attribute [local go_sem ↓] Go.wp_at_zero Go.wp_at_succ

/-- Drop, at a place. -/
def dropF (h : HD) (k : Nat) (q : QD) : HD × List ED × Int := (⟨h.queues.eraseIdx k, h.next⟩, [⟨2, q.name, 0, 0, nN⟩], 0)

theorem enter63 (args : Array Value) (W : World) : (callFunc 142 args).run Try.prog W = .ok (.enter 142 args) W := by go_simp

theorem cellsQ_erase (L : QuL) (k : Nat) (hk : k < L.length) : (cellsQ L).take (k * 3) ++ (cellsQ L).drop ((k + 1) * 3) = cellsQ (L.eraseIdx k) := by
  unfold cellsQ
  rw [flat_take _ 3 (fun _ => rfl) L k (by omega), flat_drop _ 3 (fun _ => rfl) L (k + 1) (by omega), List.eraseIdx_eq_take_drop_succ, List.flatMap_append]

set_option maxRecDepth 100000 in
set_option maxHeartbeats 1000000 in
theorem drop_alters (w : World) (nb : Nat) (name : ByteArray) (hb : Blk w nb [.string name]) (h : HD) (k : Nat) (hk : k < h.queues.length) (hnm : h.queues[k].name = name) (hsm : smallQ h.queues) :
    Alters w (fun _ => False) 142 [.pointer (some ⟨nb, 0, none⟩)] h k (dropF h k h.queues[k]) (fun _ _ => True) := by
  refine ⟨enter63, fun _ _ _ _ _ _ => trivial, fun B P hb' W g cap L hH e hP hbB hwB hW => ?_⟩
  have HH : Hid (HallIn P hb' W (.slice (some ⟨g, 0, none⟩) L.length cap) L h.next) := hH
  have hkL : k < L.length := by rw [← e] at hk; simpa using hk
  have HNB : Hid (Blk W nb [.string name]) := hb.below hW hb.lt
  obtain ⟨b0, b1, b2, b3⟩ := hH.box.b2
  obtain ⟨hgl, hgb, hbl, hgP⟩ := hH.gl
  have hlL : L.length ≤ 4194304 := by have := congrArg List.length e; have h1 := hsm.1; simp at this; omega
  have HX : Hid (L.map Prod.fst = h.queues ∧ (∀ b, P b → B ≤ b) ∧ h.queues[k].name = name) := ⟨e, hP, hnm⟩
  have hWz := hW.size
  have hnbl := hb.lt
  have hgB := hP g hgP
  obtain ⟨m, hm⟩ : ∃ m, L.length = k + m + 1 := ⟨L.length - (k + 1), by omega⟩
  have HRW : Hid (W.ownsRow 0 76 3 (.slice (some ⟨g, 0, none⟩) (k + m + 1) cap) (k + m + 1) (cellsQ L)) := by have := hH.row; rw [hm] at this; exact this
  have HO1 : Hid (∀ u ∈ cellsQ L, u.oneCell' = true) := cellsQ_one L hH.items
  rw [hm] at b0
  have HM : Hid (L.length = k + m + 1) := hm
  have hkm : k + m + 1 ≤ 4194304 := by omega
  clear hH e hP hsm hb hW hnm hm
  go_enter Try.func142, Try.ntmps142
  go_wp2_with (go_at_call 79; refine (deleteQ_any 0 g k m cap _ _ HRW.out HO1.out hkm).mono ?_; rintro r w1 ⟨rfl, ho1, hg1⟩; rw [cellsQ_erase L k hkL] at ho1; have HG1 : Hid (w1.ownsRow 0 76 3 (.slice (some ⟨g, 0, none⟩) (k + m) cap) (k + m) (cellsQ (L.eraseIdx k)) ∧ W.grownBy w1 (some g)) := ⟨ho1, hg1⟩; have hz1 := hg1.size; obtain ⟨d0, d1, d2, d3⟩ := (HH.out.box.same (hg1.block hb' hbl (fun e => hgb (by simpa using e.symm)))).b2; obtain ⟨n0, n1, n2⟩ := (HNB.out.same (hg1.block nb HNB.out.lt (fun e => by simp at e; omega))).b1; clear ho1 hg1)
  have hx : ∀ b, b < w1.heap.size → b ≠ hb' → ((w1.setCell ⟨hb', 0, none⟩ (.slice (some ⟨g, 0, none⟩) (k + m) cap)).alloc (.cells #[.int .i64 2, .string name, .int .i64 0, .int .i64 0, .slice none 0 0, .slice none 0 0] 30)).heap[b]? = w1.heap[b]? := fun b h1 h2 => (Below.heap_alloc _ _ _ (by simpa using h1)).trans (Below.heap_setCell _ _ _ _ h2)
  have hz : ((w1.setCell ⟨hb', 0, none⟩ (.slice (some ⟨g, 0, none⟩) (k + m) cap)).alloc (.cells #[.int .i64 2, .string name, .int .i64 0, .int .i64 0, .slice none 0 0, .slice none 0 0] 30)).heap.size = w1.heap.size + 1 := by simp
  have hel : (L.eraseIdx k).length = k + m := by rw [List.length_eraseIdx, if_pos hkL]; have := HM.out; omega
  have hown := HG1.out.1
  have hgr := HG1.out.2
  rw [← hel] at hown
  have hbB1 : Blk w1 hb' [.slice (some ⟨g, 0, none⟩) L.length cap, .int .i64 h.next] := HH.out.box.same (hgr.block hb' hbl (fun e => hgb (by simpa using e.symm)))
  refine bodyPost_ret (v := .tuple #[.slice (some ⟨w1.heap.size, 0, none⟩) 1 1, .int .i64 0]) (by simp [results, Try.results142, go_sem, *]; done) rfl ⟨_, _, _, rfl, fun _ => ⟨some ⟨g, 0, none⟩, k + m, cap, ?_, ?_, ?_⟩, trivial, ?_⟩
  · exact (hbB1.set 0 (.slice (some ⟨g, 0, none⟩) (k + m) cap)).alloc _
  · refine ⟨L.eraseIdx k, ?_, ?_, fun x hx' => ?_⟩
    · rw [show (dropF h k h.queues[k]).1.queues = h.queues.eraseIdx k from rfl, ← HX.out.1, List.eraseIdx_eq_take_drop_succ, List.eraseIdx_eq_take_drop_succ, List.map_append, List.map_take, List.map_drop]
    · have h1 := own_slice hown
      rw [hel] at h1 ⊢
      exact h1.sub fun b hb => by
        simp only [Value.ownBlock, Option.some.injEq] at hb
        subst hb
        exact ⟨⟨hgB, by omega⟩, hx g (by omega) hgb⟩
    · have hxL : x ∈ L := List.mem_of_mem_eraseIdx hx'
      refine (HH.out.items x hxL).sub fun b hb => ?_
      have hlt := HH.out.lt b hb.1
      have hbg : b ≠ g := fun e' => hb.2 (by rw [e']; rfl)
      have hbh : b ≠ hb' := fun e' => HH.out.nb (e' ▸ hb.1)
      exact ⟨⟨HX.out.2.1 b hb.1, by omega⟩, (hx b (by omega) hbh).trans (hgr.block b hlt (fun e' => hbg (by simpa using e')))⟩
  · rw [show (dropF h k h.queues[k]).2.1 = [⟨2, name, 0, 0, nN⟩] by rw [← HX.out.2.2]; rfl]
    refine ⟨[(⟨2, name, 0, 0, nN⟩, (.slice none 0 0, .slice none 0 0))], rfl, ?_, fun x hx' => ?_⟩
    · have h1 := row_any (w1.setCell ⟨hb', 0, none⟩ (.slice (some ⟨g, 0, none⟩) (k + m) cap)) [.int .i64 2, .string name, .int .i64 0, .int .i64 0, .slice none 0 0, .slice none 0 0] 30 1 (by simp [maxLen])
      have hs : (w1.setCell ⟨hb', 0, none⟩ (.slice (some ⟨g, 0, none⟩) (k + m) cap)).heap.size = w1.heap.size := by simp
      rw [hs] at h1
      exact h1.sub fun b hb => ⟨⟨by have : b = w1.heap.size := hb; omega, by have : b = w1.heap.size := hb; omega⟩, rfl⟩
    · rw [List.mem_singleton] at hx'
      subst hx'
      exact NoteIs.nil _ _
  · exact ⟨hgr.os, hgr.tape, hgr.output, by omega, fun b hb => (hx b (by omega) (by omega)).trans (hgr.block b (by omega) (fun e' => by simp at e'; omega))⟩

set_option maxRecDepth 100000 in
set_option maxHeartbeats 1000000 in
theorem hallDrop_any (v : Value) (h : HD) (name : ByteArray) (w : World) (hv : SliceQ (Under w.heap.size) w v h.queues) (hsm : smallQ h.queues) :
    Calls Try.prog 124 #[.agg #[v, .int .i64 h.next], .string name] w fun e w' => AnsH (faceF h name (fun k q => dropF h k q)) w e w' ∧ Below w.heap.size w w' := by
  have HV : Hid (SliceQ (Under w.heap.size) w v h.queues) := hv
  have HX : Hid (smallQ h.queues) := hsm
  obtain ⟨va, vc, rfl⟩ := hv.shp
  clear hv hsm
  have three : Hid (∀ o1 o2 o3 : Obj, Below w.heap.size w (((w.alloc o1).alloc o2).alloc o3)) := fun o1 o2 o3 => ((below_alloc _ _).alloc (by simp) _).alloc (by simp; omega) _
  go_enter Try.func124, Try.ntmps124
  go_wp2_with (go_at_call 131; refine (changed_face 142 [.pointer (some ⟨w.heap.size + 1, 0, none⟩)] _ name h (fun k q => dropF h k q) _ (HV.out.sub fun k hk => ⟨?_, (three.out _ _ _).block k hk⟩) HX.out (fun k hk hn => drop_alters _ _ name ?_ h k hk hn HX.out)).mono ?_; (simp [Under] at hk ⊢; omega); (have := (Blk.new (w.alloc (.cells #[.slice va h.queues.length vc, .int .i64 h.next] 24)) [.string name] 9).alloc (.cells #[.slice none 0 0, .int .i64 0] 24); simpa using this); rintro e w1 ⟨⟨va1, vc1, ea1, ec1, rfl, hQ1, hE1⟩, hb1⟩; obtain ⟨b0, b1, b2, b3⟩ := ((Blk.new ((w.alloc _).alloc _) _ 24).below hb1 (by simp)).b2; simp only [World.size_alloc] at b0 b1 b2 b3; have H1 : Hid _ := And.intro hQ1 (And.intro hE1 hb1); clear hQ1 hE1 hb1)
  refine bodyPost_ret (v := .tuple #[.agg #[.slice va1 (faceF h name (fun k q => dropF h k q)).1.queues.length vc1, .int .i64 (faceF h name (fun k q => dropF h k q)).1.next], .slice ea1 (faceF h name (fun k q => dropF h k q)).2.1.length ec1, .int .i64 (faceF h name (fun k q => dropF h k q)).2.2]) (by simp [results, Try.results124, go_sem, *]; done) rfl (face_end (three.out _ _ _) (by simp) H1.out.2.2 H1.out.1 H1.out.2.1 _ _)

theorem nilQ (S : Nat → Prop) (w : World) : SliceI S w (.slice none 0 0) [] := ⟨[], rfl, SliceV.nil _ _, by simp⟩

theorem row_any' (w : World) (cs : List Value) (t : TypeId) (n g : Nat) (hg : w.heap.size = g) (hn : n ≤ maxLen) : SliceV (fun b => b = g) (w.alloc (.cells cs.toArray t)) (.slice (some ⟨g, 0, none⟩) n n) n cs := by
  subst hg; exact row_any w cs t n hn

/-- What is wrong with a new queue. -/
def wrongMakeF (h : HD) (name : ByteArray) (limit : Int) : Int := if keyB name = false ∨ 0 ≤ idxQ name h.queues then 7 else if limit < 1 ∨ 8 < limit then 3 else if 4 ≤ h.queues.length then 5 else 0

/-- Make. -/
def makeF (h : HD) (name : ByteArray) (limit : Int) : HD × List ED × Int := if wrongMakeF h name limit = 0 then (⟨h.queues ++ [⟨name, limit, []⟩], h.next⟩, [⟨1, name, limit, 0, nN⟩], 0) else refuse (wrongMakeF h name limit)

set_option maxRecDepth 100000 in
set_option maxHeartbeats 2000000 in
theorem wrongMake_any (v : Value) (h : HD) (name : ByteArray) (limit : Int) (w : World) (hv : SliceQ (Under w.heap.size) w v h.queues) (hs : name.size ≤ maxLen) :
    Calls Try.prog 141 #[.agg #[v, .int .i64 h.next], .string name, .int .i64 limit] w fun e w' => e = .returned (.int .i64 (wrongMakeF h name limit)) ∧ Below w.heap.size w w' := by
  have HV : Hid (SliceQ (Under w.heap.size) w v h.queues) := hv
  obtain ⟨va, vc, rfl, h1, h2, -⟩ := hv.shape
  unfold maxLen at h2
  clear hv
  cases hk : keyB name
  · go_enter Try.func141, Try.ntmps141
    go_wp2_with (go_at_call 114; refine (key_any name _ hs).mono ?_; rw [hk]; rintro e w1 ⟨rfl, rfl⟩)
    go_ret
    exact ⟨ret_i64 (by simp [wrongMakeF, hk]), below_alloc _ _⟩
  · rcases idxQ_cases name h.queues with ⟨hd, -⟩ | ⟨k, hkk, hd, -, -⟩
    · have HI : Hid (idxQ name h.queues = -1) := hd
      clear hd
      by_cases l1 : limit < 1
      · go_enter Try.func141, Try.ntmps141
        go_wp2_with (first
          | (go_at_call 114; refine (key_any name _ hs).mono ?_; rw [hk]; rintro e w1 ⟨rfl, rfl⟩)
          | (go_at_call 150; refine (find_hall name _ h.next h.queues _ (HV.out.sub fun k hk => ⟨Nat.lt_of_lt_of_le hk (by simp), Below.heap_alloc _ _ _ hk⟩)).mono ?_; rw [HI.out]; rintro e w2 ⟨rfl, hb2⟩; obtain ⟨a0, a1, a2, a3⟩ := ((Blk.new w _ 24).below hb2 (by simp)).b2; have HB2 : Hid (Below w.heap.size w w2) := (below_alloc _ _).trans (hb2.mono (by simp)); clear hb2))
        go_ret
        exact ⟨ret_i64 (by simp [wrongMakeF, hk, HI.out, l1]), HB2.out⟩
      by_cases l2 : 8 < limit
      · go_enter Try.func141, Try.ntmps141
        go_wp2_with (first
          | (go_at_call 114; refine (key_any name _ hs).mono ?_; rw [hk]; rintro e w1 ⟨rfl, rfl⟩)
          | (go_at_call 150; refine (find_hall name _ h.next h.queues _ (HV.out.sub fun k hk => ⟨Nat.lt_of_lt_of_le hk (by simp), Below.heap_alloc _ _ _ hk⟩)).mono ?_; rw [HI.out]; rintro e w2 ⟨rfl, hb2⟩; obtain ⟨a0, a1, a2, a3⟩ := ((Blk.new w _ 24).below hb2 (by simp)).b2; have HB2 : Hid (Below w.heap.size w w2) := (below_alloc _ _).trans (hb2.mono (by simp)); clear hb2))
        go_ret
        exact ⟨ret_i64 (by simp [wrongMakeF, hk, HI.out, l2]), HB2.out⟩
      by_cases l3 : 4 ≤ h.queues.length
      · go_enter Try.func141, Try.ntmps141
        go_wp2_with (first
          | (go_at_call 114; refine (key_any name _ hs).mono ?_; rw [hk]; rintro e w1 ⟨rfl, rfl⟩)
          | (go_at_call 150; refine (find_hall name _ h.next h.queues _ (HV.out.sub fun k hk => ⟨Nat.lt_of_lt_of_le hk (by simp), Below.heap_alloc _ _ _ hk⟩)).mono ?_; rw [HI.out]; rintro e w2 ⟨rfl, hb2⟩; obtain ⟨a0, a1, a2, a3⟩ := ((Blk.new w _ 24).below hb2 (by simp)).b2; have HB2 : Hid (Below w.heap.size w w2) := (below_alloc _ _).trans (hb2.mono (by simp)); clear hb2))
        go_ret
        exact ⟨ret_i64 (by simp [wrongMakeF, hk, HI.out, l1, l2, l3]), HB2.out⟩
      · go_enter Try.func141, Try.ntmps141
        go_wp2_with (first
          | (go_at_call 114; refine (key_any name _ hs).mono ?_; rw [hk]; rintro e w1 ⟨rfl, rfl⟩)
          | (go_at_call 150; refine (find_hall name _ h.next h.queues _ (HV.out.sub fun k hk => ⟨Nat.lt_of_lt_of_le hk (by simp), Below.heap_alloc _ _ _ hk⟩)).mono ?_; rw [HI.out]; rintro e w2 ⟨rfl, hb2⟩; obtain ⟨a0, a1, a2, a3⟩ := ((Blk.new w _ 24).below hb2 (by simp)).b2; have HB2 : Hid (Below w.heap.size w w2) := (below_alloc _ _).trans (hb2.mono (by simp)); clear hb2))
        go_ret
        exact ⟨ret_i64 (by simp [wrongMakeF, hk, HI.out, l1, l2, l3]), HB2.out⟩
    · have HI : Hid (idxQ name h.queues = (k : Int)) := hd
      clear hd
      go_enter Try.func141, Try.ntmps141
      go_wp2_with (first
        | (go_at_call 114; refine (key_any name _ hs).mono ?_; rw [hk]; rintro e w1 ⟨rfl, rfl⟩)
        | (go_at_call 150; refine (find_hall name _ h.next h.queues _ (HV.out.sub fun k hk => ⟨Nat.lt_of_lt_of_le hk (by simp), Below.heap_alloc _ _ _ hk⟩)).mono ?_; rw [HI.out]; rintro e w2 ⟨rfl, hb2⟩; obtain ⟨a0, a1, a2, a3⟩ := ((Blk.new w _ 24).below hb2 (by simp)).b2; have HB2 : Hid (Below w.heap.size w w2) := (below_alloc _ _).trans (hb2.mono (by simp)); clear hb2))
      go_ret
      exact ⟨ret_i64 (by simp [wrongMakeF, hk, HI.out]), HB2.out⟩

set_option maxRecDepth 100000 in
set_option maxHeartbeats 2000000 in
theorem hallMake_any (v : Value) (h : HD) (name : ByteArray) (limit : Int) (w : World) (hv : SliceQ (Under w.heap.size) w v h.queues) (hsm : smallQ h.queues) (hs : name.size ≤ maxLen) :
    Calls Try.prog 123 #[.agg #[v, .int .i64 h.next], .string name, .int .i64 limit] w fun e w' => AnsH (makeF h name limit) w e w' ∧ Below w.heap.size w w' := by
  obtain ⟨i0, hi0, hz0, hz1, hz2⟩ := info_parts info25
  have HV : Hid (SliceQ (Under w.heap.size) w v h.queues) := hv
  have HM : Hid (smallQ h.queues) := hsm
  have hlen := hsm.1
  obtain ⟨va, vc, rfl⟩ := hv.shp
  clear hv hsm
  have two : Hid (∀ o1 o2 : Obj, Below w.heap.size w ((w.alloc o1).alloc o2)) := fun o1 o2 => (below_alloc _ _).alloc (by simp) _
  unfold makeF
  by_cases hw : wrongMakeF h name limit = 0
  · rw [if_pos hw]
    have HW : Hid (wrongMakeF h name limit = 0) := hw
    go_enter Try.func123, Try.ntmps123
    go_wp2_with (first
      | (go_at_call 141; refine (wrongMake_any _ h name limit _ (HV.out.sub fun k hk => ⟨?_, (two.out _ _).block k hk⟩) hs).mono ?_; (simp [Under] at hk ⊢; omega); rw [HW.out]; rintro e w1 ⟨rfl, hb1⟩; have hk0 := ((Blk.new w _ 24).alloc _).below hb1 (by simp; omega); have hk1 := (Blk.new (w.alloc _) _ 24).below hb1 (by simp); simp only [World.size_alloc] at hk0 hk1; obtain ⟨a0, a1, a2, a3⟩ := hk0.b2; obtain ⟨b0, b1, b2, b3⟩ := hk1.b2; have HB1 : Hid (Below w.heap.size w w1) := (two.out _ _).trans (hb1.mono (by simp; omega)); have hz1' : w.heap.size + 2 ≤ w1.heap.size := (by have := hb1.size; simpa using this); have HR1 : Hid (Blk w1 (w.heap.size + 1) [.slice none 0 0, .int .i64 0]) := hk1; clear hb1 hk0 hk1)
      | (go_at_call 55; refine (hallOwn_any _ h _ (HV.out.sub fun k hk => ⟨Nat.lt_of_lt_of_le hk (by omega), HB1.out.block k hk⟩) HM.out).mono ?_; rintro e w2 ⟨vi, rfl, ho2, hb2⟩; obtain ⟨L, hL, hr2, hn2⟩ := ho2; obtain ⟨xa, xc, rfl, -⟩ := own_shape hr2; have hll : L.length ≤ 4194304 := (by have := congrArg List.length hL; simp at this; omega); have HO2 : Hid (L.map Prod.fst = h.queues ∧ w2.ownsRow w1.heap.size 76 3 (.slice xa L.length xc) L.length (cellsQ L) ∧ ∀ x ∈ L, SliceI (fun b => w1.heap.size ≤ b ∧ b < w2.heap.size ∧ (Value.slice xa L.length xc).ownBlock ≠ some b) w2 x.2 x.1.items) := ⟨hL, hr2, hn2⟩; have hz2' := hb2.size; have HB2 : Hid (Below w.heap.size w w2) := HB1.out.trans (hb2.mono (by omega)); have HR2 : Hid (Blk w2 (w.heap.size + 1) [.slice none 0 0, .int .i64 0]) := HR1.out.below hb2 (by omega); clear hb2 hL hr2 hn2)
      | (at_builtin; refine wpList_appV rfl (.tmp 22) (.tmp 26) 22 rfl 76 i0 _ 3 48 Try.underlying22 hi0 hz0 hz1 hz2 rfl (by omega) w1.heap.size (.slice xa L.length xc) L.length (cellsQ L) rfl (own_below (own_below HO2.out.2.1 (below_alloc _ _)) (below_alloc _ _)) (fun b => b = w2.heap.size + 1) (.slice (some ⟨w2.heap.size + 1, 0, none⟩) 1 1) 1 (QD.cells ⟨name, limit, []⟩ (.slice none 0 0)) rfl (row_any' _ _ _ _ _ (by simp) (by simp [maxLen])) rfl (by simp [QD.cells, Value.oneCell']) (by unfold maxLen; omega) (by omega) (by simp <;> omega) ?_; intro ao cap3 w3 ho3 hg3 hm3; have hzz : w2.heap.size + 2 ≤ w3.heap.size := (by have := hg3.size; simpa using this); have hrow : ∀ b, (Value.slice xa L.length xc).ownBlock = some b → w1.heap.size ≤ b ∧ b < w2.heap.size := (fun b e => HO2.out.2.1.lt b e); have hx3 : ∀ b, b < w2.heap.size → (Value.slice xa L.length xc).ownBlock ≠ some b → w3.heap[b]? = w2.heap[b]? := (fun b h1 h2 => (hg3.block b (by simp; omega) (fun e => h2 e.symm)).trans ((Below.heap_alloc _ _ _ (by simp; omega)).trans (Below.heap_alloc _ _ _ h1))); have hbx : Blk w3 w2.heap.size [.slice xa L.length xc, .int .i64 h.next] := ((Blk.new w2 [.slice xa L.length xc, .int .i64 h.next] 24).alloc _).same (hg3.block _ (by simp; omega) (fun e => by have := (hrow _ e.symm).2; omega)); obtain ⟨c0, c1, c2, c3⟩ := hbx.b2; have hrs : Blk w3 (w.heap.size + 1) [.slice none 0 0, .int .i64 0] := HR2.out.same (hx3 _ (by omega) (fun e => by have := (hrow _ e).1; omega)); obtain ⟨d0, d1, d2, d3⟩ := hrs.b2; have H3 : Hid (w3.ownsRow w1.heap.size 76 3 (.slice ao (L.length + 1) cap3) (L.length + 1) (cellsQ L ++ QD.cells ⟨name, limit, []⟩ (.slice none 0 0)) ∧ (∀ b, b < w2.heap.size → (Value.slice xa L.length xc).ownBlock ≠ some b → w3.heap[b]? = w2.heap[b]?) ∧ (∀ b, (Value.slice xa L.length xc).ownBlock = some b → w1.heap.size ≤ b ∧ b < w2.heap.size) ∧ Moved _ (.slice xa L.length xc) (.slice ao (L.length + 1) cap3) ∧ (w3.os = w2.os ∧ w3.tape = w2.tape ∧ w3.output = w2.output)) := ⟨ho3, hx3, hrow, hm3, hg3.os, hg3.tape, hg3.output⟩; clear ho3 hg3 hm3 hx3 hrow hbx hrs))
    obtain ⟨ho3, hx3, hrow, hm3, hos3⟩ := H3.out
    obtain ⟨hL, hr2, hn2⟩ := HO2.out
    have hB2 := HB2.out
    obtain ⟨V, hV⟩ : ∃ V, V = ((w3.setCell ⟨w2.heap.size, 0, none⟩ (.slice ao (L.length + 1) cap3)).setCell ⟨w.heap.size + 1, 0, none⟩ (.slice ao (L.length + 1) cap3)).setCell ⟨w.heap.size + 1, 1, none⟩ (.int .i64 h.next) := ⟨_, rfl⟩
    have hVz : V.heap.size = w3.heap.size := by rw [hV]; simp
    have hVx : ∀ b, b ≠ w2.heap.size → b ≠ w.heap.size + 1 → V.heap[b]? = w3.heap[b]? := fun b h1 h2 => by
      rw [hV, Below.heap_setCell _ _ _ _ h2, Below.heap_setCell _ _ _ _ h2, Below.heap_setCell _ _ _ _ h1]
    have hVo : V.os = w3.os ∧ V.tape = w3.tape ∧ V.output = w3.output := by rw [hV]; exact ⟨rfl, rfl, rfl⟩
    have hrV : Blk V (w.heap.size + 1) [.slice ao (L.length + 1) cap3, .int .i64 h.next] := by
      rw [hV]
      have hr3 : Blk w3 (w.heap.size + 1) [.slice none 0 0, .int .i64 0] := HR2.out.same (hx3 _ (by omega) (fun e => by have := (hrow _ e).1; omega))
      exact ((hr3.far (a := ⟨w2.heap.size, 0, none⟩) (by simp; omega) _).set 0 _).set 1 _
    rw [← hV]
    obtain ⟨wF, hF⟩ : ∃ wF, wF = V.alloc (.cells #[.int .i64 1, .string name, .int .i64 limit, .int .i64 0, .slice none 0 0, .slice none 0 0] 30) := ⟨_, rfl⟩
    have hFz : wF.heap.size = w3.heap.size + 1 := by rw [hF, World.size_alloc, hVz]
    have hFx : ∀ b, b < w3.heap.size → b ≠ w2.heap.size → b ≠ w.heap.size + 1 → wF.heap[b]? = w3.heap[b]? := fun b h0 h1 h2 => by
      rw [hF]; exact (Below.heap_alloc _ _ _ (by omega)).trans (hVx b h1 h2)
    have hFo : wF.os = V.os ∧ wF.tape = V.tape ∧ wF.output = V.output := by rw [hF]; exact ⟨rfl, rfl, rfl⟩
    have hE : SliceE (Made w.heap.size wF.heap.size) wF (.slice (some ⟨w3.heap.size, 0, none⟩) 1 1) [⟨1, name, limit, 0, nN⟩] := by
      refine ⟨[(⟨1, name, limit, 0, nN⟩, (.slice none 0 0, .slice none 0 0))], rfl, ?_, fun x hx' => ?_⟩
      · rw [hF]
        have h1 := row_any' V [.int .i64 1, .string name, .int .i64 limit, .int .i64 0, .slice none 0 0, .slice none 0 0] 30 1 w3.heap.size hVz (by simp [maxLen])
        exact h1.sub fun b hb => ⟨⟨by have : b = w3.heap.size := hb; omega, by have : b = w3.heap.size := hb; rw [World.size_alloc]; omega⟩, rfl⟩
      · rw [List.mem_singleton] at hx'
        subst hx'
        exact NoteIs.nil _ _
    have hrF : Blk wF (w.heap.size + 1) [.slice ao (L.length + 1) cap3, .int .i64 h.next] := by rw [hF]; exact hrV.alloc _
    obtain ⟨f0, f1, f2, f3⟩ := hrF.b2
    rw [← hF]
    clear hF
    have hql : (h.queues ++ [(⟨name, limit, []⟩ : QD)]).length = L.length + 1 := by rw [← hL]; simp
    have hQ : SliceQ (Made w.heap.size wF.heap.size) wF (.slice ao (L.length + 1) cap3) (h.queues ++ [⟨name, limit, []⟩]) := by
      refine ⟨L ++ [(⟨name, limit, []⟩, .slice none 0 0)], by rw [List.map_append, hL]; rfl, ?_, fun x hx' => ?_⟩
      · have h1 := own_slice ho3
        rw [List.length_append, cellsQ_append]
        refine SliceV.sub (S := fun b => (Value.slice ao (L.length + 1) cap3).ownBlock = some b) h1 fun b hb => ?_
        have hlt := ho3.lt b hb
        have hb2 : b ≠ w2.heap.size := by
          rcases hm3 b hb with h | h
          · have := (hrow b h).2; omega
          · simp at h; omega
        exact ⟨⟨by omega, by omega⟩, hFx b hlt.2 hb2 (by omega)⟩
      · rw [List.mem_append, List.mem_singleton] at hx'
        rcases hx' with hx' | rfl
        · refine (hn2 x hx').sub fun b hb => ⟨⟨by have := hb.1; omega, by have := hb.2.1; omega⟩, (hFx b (by have := hb.2.1; omega) (by have := hb.2.1; omega) (by have := hb.1; omega)).trans (hx3 b hb.2.1 hb.2.2)⟩
        · exact nilQ _ _
    refine bodyPost_ret (v := .tuple #[.agg #[.slice ao (L.length + 1) cap3, .int .i64 h.next], .slice (some ⟨w3.heap.size, 0, none⟩) 1 1, .int .i64 0]) ?_ rfl ⟨⟨ao, cap3, _, 1, by simp only [hql]; rfl, by simp only [hql]; exact hQ, hE⟩, ?_⟩
    · clear d0 d1 c0 c1 b0 b1 a0 a1 hQ hE hx3 hrow hFx hVx hn2 hr2 ho3 hm3 hL
      simp [results, Try.results123, go_sem, f0, f1]
    · exact ⟨hFo.1.trans (hVo.1.trans (hos3.1.trans hB2.os)), hFo.2.1.trans (hVo.2.1.trans (hos3.2.1.trans hB2.tape)), hFo.2.2.trans (hVo.2.2.trans (hos3.2.2.trans hB2.output)), by omega, fun b hb => (hFx b (by omega) (by omega) (by omega)).trans ((hx3 b (by omega) (fun e => by have := (hrow b e).1; omega)).trans (hB2.block b hb))⟩
  · rw [if_neg hw]
    have hwb : (wrongMakeF h name limit != 0) = true := by simpa using hw
    go_enter Try.func123, Try.ntmps123
    go_wp2_with (first
      | (go_at_call 141; refine (wrongMake_any _ h name limit _ (HV.out.sub fun k hk => ⟨?_, (two.out _ _).block k hk⟩) hs).mono ?_; (simp [Under] at hk ⊢; omega); rintro e w1 ⟨rfl, hb1⟩; have hk1 := (Blk.new (w.alloc _) _ 24).below hb1 (by simp); simp only [World.size_alloc] at hk1; obtain ⟨b0, b1, b2, b3⟩ := hk1.b2; have HB1 : Hid (Below w.heap.size w w1) := (two.out _ _).trans (hb1.mono (by simp; omega)); clear hb1 hk1))
    refine bodyPost_ret (v := .tuple #[.agg #[.slice none 0 0, .int .i64 0], .slice none 0 0, .int .i64 (wrongMakeF h name limit)]) (by simp [results, Try.results123, go_sem, *]; done) rfl ⟨AnsH.refuse _ _ _, ?_⟩
    iterate 2 refine Below.setCell ?_ (by simp) _
    exact HB1.out
end Go.Proofs.Ytkddkpdfeeikhaa
