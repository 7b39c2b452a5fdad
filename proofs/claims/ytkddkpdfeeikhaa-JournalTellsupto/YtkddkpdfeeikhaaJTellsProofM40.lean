/-
  RefEnt; RefEntA; RefEntO: texts laid together.
-/
import Derived.Test.YtkddkpdfeeikhaaJTellsProofM36
import Derived.Test.YtkddkpdfeeikhaaJTellsProofM29
import Derived.Test.YtkddkpdfeeikhaaNtRefParse
import Derived.Test.YtkddkpdfeeikhaaJTellsProofM33
import Derived.Test.YtkddkpdfeeikhaaJTellsProofM28
import Derived.Deep.RegionHeld3
import Derived.Deep.RegionLaw
import Derived.Deep.DeepCutAuto
/-
  tgref1.EntryParse reads what journal.Parse reads.
-/
namespace Go.Proofs.Ytkddkpdfeeikhaa
open Go.RowKit
set_option linter.unusedVariables false
set_option linter.unusedSimpArgs false

attribute [local go_sem ↓] Go.wp_at_zero Go.wp_at_succ

/-- An entry and an error are answered. -/
def EAns (x : Int × ByteArray × Int × Int × List NT.PD × List UInt8 × Int) (w : World) (e : Ending) (w' : World) : Prop :=
  ∃ v u, e = .returned (.tuple #[.agg #[.int .i64 x.1, .string x.2.1, .int .i64 x.2.2.1, .int .i64 x.2.2.2.1, v, u], .int .i64 x.2.2.2.2.2.2]) ∧ NT.SliceP w'.heap.size w' v x.2.2.2.2.1 ∧ NT.SliceB w'.heap.size w' u x.2.2.2.2.2.1 ∧ Below w.heap.size w w'
def noE (en : Int) : Int × ByteArray × Int × Int × List NT.PD × List UInt8 × Int := (0, ⟨#[]⟩, 0, 0, [], [], en)
theorem eans_no (en : Int) {w w' : World} (h : Below w.heap.size w w') : EAns (noE en) w (.returned (.tuple #[noEntry, .int .i64 en])) w' :=
  ⟨.slice none 0 0, .slice none 0 0, rfl, NT.SliceP.nil _ _, NT.SliceB.nil _ _, h⟩

theorem refEnt_short (a : Option Addr) (cap : Nat) (b : List UInt8) (w : World) (hl : b.length < 2) :
    Calls Try.prog 9 #[.slice a b.length cap] w (EAns (noE 2) w) := by
  have hl' : (b.length : Int) < 2 := by omega
  go_enter Try.func9, Try.ntmps9
  go_wp2_with fail
  have hB : Below w.heap.size w (w.alloc (.cells #[.int .i64 0, .string ⟨#[]⟩, .int .i64 0, .int .i64 0, .slice none 0 0, .slice none 0 0] 30)) := below_alloc _ _
  refine bodyPost_ret (v := .tuple #[noEntry, .int .i64 2]) (by simp [results, Try.results9, go_sem, noEntry, *]; done) rfl (eans_no 2 ?_)
  first
    | exact hB
    | (repeat' first | exact hB | refine Below.setCell ?_ (Nat.le_refl _) _)

theorem refEnt_cut (blk off cap : Nat) (b : List UInt8) (k n : UInt8) (r : List UInt8) (w : World) (hb : NT.SliceB w.heap.size w (.slice (some ⟨blk, off, none⟩) b.length cap) b) (e : b = k :: n :: r) (hl : r.length < n.toNat) :
    Calls Try.prog 9 #[.slice (some ⟨blk, off, none⟩) b.length cap] w (EAns (noE 2) w) := by
  have hbl : b.length = r.length + 2 := by rw [e]; simp
  obtain ⟨_, _, e0, hcap, hmax, hnil, hbs⟩ := hb
  obtain ⟨b', off', e1, hs, hc1⟩ := hbs 1 (by omega)
  simp only [Option.some.injEq, Addr.mk.injEq, Value.slice.injEq] at e0 e1
  obtain ⟨⟨rfl, rfl, -⟩, -, rfl⟩ := e0
  obtain ⟨rfl, rfl, -⟩ := e1
  have hc1' : w.cell? ⟨blk, off + 1, none⟩ = some (.int .u8 n.toNat) := by rw [hc1]; simp [e]
  obtain ⟨n0, n1⟩ := NT.u8_bounds n
  have HL : Hid (b.length = r.length + 2) := hbl
  have h2 : ¬ (b.length : Int) < 2 := by omega
  have h3 : (b.length : Int) < (n.toNat : Int) + 2 := by omega
  have w2 : IntKind.i64.wrap (n.toNat : Int) = (n.toNat : Int) := by rw [IntKind.wrap_i64]; omega
  have w3 : IntKind.i64.wrap ((n.toNat : Int) + 2) = (n.toNat : Int) + 2 := by rw [IntKind.wrap_i64]; omega
  clear hc1 hbs hnil hbl e
  have h4 : (1 : Int) < (b.length : Int) := by omega
  go_enter Try.func9, Try.ntmps9
  go_wp2_with fail
  have hB : Below w.heap.size w (w.alloc (.cells #[.int .i64 0, .string ⟨#[]⟩, .int .i64 0, .int .i64 0, .slice none 0 0, .slice none 0 0] 30)) := below_alloc _ _
  refine bodyPost_ret (v := .tuple #[noEntry, .int .i64 2]) (by simp [results, Try.results9, go_sem, noEntry, *]; done) rfl (eans_no 2 ?_)
  first
    | exact hB
    | (repeat' first | exact hB | refine Below.setCell ?_ (Nat.le_refl _) _)

/-- A box of an entry's shape: no note lies in it. -/
theorem nt_off {w W : World} {v u : Value} {PS : List NT.PD} {BS : List UInt8} {g1 g2 : Nat} {a1 b1 c1 a2 b2 c2 : Int} {s1 s2 : ByteArray} {p1 p2 q1 q2 : Option Addr} {l1 l2 m1 m2 n1 n2 o1 o2 : Nat} (hp : NT.SliceP w.heap.size w v PS) (hq : NT.SliceB w.heap.size w u BS)
    (h1 : Blk w g1 [.int .i64 a1, .string s1, .int .i64 b1, .int .i64 c1, .slice p1 l1 m1, .slice q1 n1 o1]) (h2 : Blk w g2 [.int .i64 a2, .string s2, .int .i64 b2, .int .i64 c2, .slice p2 l2 m2, .slice q2 n2 o2]) (hW : ∀ b, b < w.heap.size → b ≠ g1 → b ≠ g2 → W.heap[b]? = w.heap[b]?) (hz : w.heap.size ≤ W.heap.size) :
    NT.SliceP W.heap.size W v PS ∧ NT.SliceB W.heap.size W u BS := by
  have key : ∀ (g : Nat) (a b c : Int) (s : ByteArray) (p q : Option Addr) (l m n o : Nat), Blk w g [.int .i64 a, .string s, .int .i64 b, .int .i64 c, .slice p l m, .slice q n o] → ∀ i : Nat, (∀ x y : ByteArray, w.cell? ⟨g, i, none⟩ = some (.string x) → w.cell? ⟨g, i + 3, none⟩ ≠ some (.string y)) ∧ (∀ x : Int, w.cell? ⟨g, i, none⟩ ≠ some (.int .u8 x)) := by
    intro g a b c s p q l m n o h i
    rw [h.cell i, h.cell (i + 3)]
    have hi : i = 0 ∨ i = 1 ∨ i = 2 ∨ i = 3 ∨ i = 4 ∨ i = 5 ∨ 6 ≤ i := by omega
    rcases hi with rfl | rfl | rfl | rfl | rfl | rfl | hi
    all_goals first
      | exact ⟨fun x y h1 h2 => by simp at h1 h2, fun x h1 => by simp at h1⟩
      | (rw [List.getElem?_eq_none (by simpa using hi)]; exact ⟨fun x y h1 => (by cases h1), fun x h1 => (by cases h1)⟩)
  constructor
  · obtain ⟨a, cap, rfl, k1, k2, k3, k4⟩ := hp
    refine ⟨a, cap, rfl, k1, k2, k3, fun i hi => ?_⟩
    obtain ⟨b, off, e, hlt, x0, x1, x2, x3⟩ := k4 i hi
    have n1 : b ≠ g1 := fun e => by subst e; exact (key _ _ _ _ _ _ _ _ _ _ _ h1 _).1 _ _ x0 x3
    have n2 : b ≠ g2 := fun e => by subst e; exact (key _ _ _ _ _ _ _ _ _ _ _ h2 _).1 _ _ x0 x3
    have hb := hW b hlt n1 n2
    exact ⟨b, off, e, by omega, (World.cell?_of_block hb).trans x0, (World.cell?_of_block hb).trans x1, (World.cell?_of_block hb).trans x2, (World.cell?_of_block hb).trans x3⟩
  · obtain ⟨a, cap, rfl, k1, k2, k3, k4⟩ := hq
    refine ⟨a, cap, rfl, k1, k2, k3, fun i hi => ?_⟩
    obtain ⟨b, off, e, hlt, x0⟩ := k4 i hi
    have n1 : b ≠ g1 := fun e => by subst e; exact (key _ _ _ _ _ _ _ _ _ _ _ h1 _).2 _ x0
    have n2 : b ≠ g2 := fun e => by subst e; exact (key _ _ _ _ _ _ _ _ _ _ _ h2 _).2 _ x0
    exact ⟨b, off, e, by omega, (World.cell?_of_block (hW b hlt n1 n2)).trans x0⟩

theorem refParse_all (a : Option Addr) (cap : Nat) (bs : List UInt8) (w : World) (hb : NT.SliceB w.heap.size w (.slice a bs.length cap) bs) (hbl : bs.length ≤ 140737488351232) : Calls Try.prog 43 #[.slice a bs.length cap] w (NT.Told bs w) := by
  rcases Nat.eq_zero_or_pos bs.length with h0 | h0
  · exact NT.refParse_small a cap bs w hb (.inl (List.eq_nil_of_length_eq_zero h0))
  · by_cases h4 : (bs[0]).toNat ≤ 4
    · exact NT.refParse_any a cap bs w hb hbl h0 h4
    · exact NT.refParse_small a cap bs w hb (.inr ⟨h0, by omega⟩)

/-- What is read behind a head. -/
def entF (kk : Int) (q : ByteArray) (t : List UInt8) : Int × ByteArray × Int × Int × List NT.PD × List UInt8 × Int :=
  if kindOkB kk then
    if (restF kk t).2.2.2.2 then (kk, q, (restF kk t).1, (restF kk t).2.1, (restF kk t).2.2.1, (restF kk t).2.2.2.1, 0)
    else noE 2
  else noE 1
end Go.Proofs.Ytkddkpdfeeikhaa

/-
  tgref1.EntryParse: no spare room behind the head.
-/
namespace Go.Proofs.Ytkddkpdfeeikhaa
open Go.RowKit
set_option linter.unusedVariables false
set_option linter.unusedSimpArgs false

attribute [local go_sem ↓] Go.wp_at_zero Go.wp_at_succ


set_option maxRecDepth 100000 in
set_option maxHeartbeats 6400000 in
theorem refEnt_A (blk off : Nat) (b : List UInt8) (k n : UInt8) (r : List UInt8) (w : World) (hb : NT.SliceB w.heap.size w (.slice (some ⟨blk, off, none⟩) b.length 2) b) (e : b = k :: n :: r) (hl : n.toNat ≤ r.length) (hbm : b.length ≤ 4194304)  (X : Int × ByteArray × Int × Int × List NT.PD × List UInt8 × Int) (hX : X = entF (k.toNat : Int) (bstr (r.take n.toNat)) (r.drop n.toNat)) :
    Calls Try.prog 9 #[.slice (some ⟨blk, off, none⟩) b.length 2] w (EAns X w) := by
  have HB : Hid (NT.SliceB w.heap.size w (.slice (some ⟨blk, off, none⟩) b.length 2) b) := hb
  have hbl : b.length = r.length + 2 := by rw [e]; simp
  have HD : Hid ((b.drop 2).take n.toNat = r.take n.toNat ∧ b.drop (2 + n.toNat) = r.drop n.toNat) := by
    refine ⟨by rw [e]; rfl, ?_⟩
    rw [e, Nat.add_comm, List.drop_succ_cons, List.drop_succ_cons]
  obtain ⟨_, _, e0, hcap, hmax, hnil, hbs⟩ := hb
  obtain ⟨b', off', e1, hs, hc1⟩ := hbs 1 (by omega)
  obtain ⟨b2, off2, e2, hs2, hc0⟩ := hbs 0 (by omega)
  simp only [Option.some.injEq, Addr.mk.injEq, Value.slice.injEq] at e0 e1
  obtain ⟨⟨rfl, rfl, -⟩, -, rfl⟩ := e0
  obtain ⟨rfl, rfl, -⟩ := e1
  simp only [Option.some.injEq, Addr.mk.injEq] at e2
  obtain ⟨rfl, rfl, -⟩ := e2
  have hc1' : w.cell? ⟨blk, off + 1, none⟩ = some (.int .u8 n.toNat) := by rw [hc1]; simp [e]
  have hc0' : w.cell? ⟨blk, off, none⟩ = some (.int .u8 k.toNat) := by have := hc0; simp [e] at this; exact this
  obtain ⟨n0, n1⟩ := NT.u8_bounds n
  obtain ⟨k0, k1⟩ := NT.u8_bounds k
  unfold maxLen at hmax
  obtain ⟨kk, hkk⟩ : ∃ kk, kk = (k.toNat : Int) := ⟨_, rfl⟩
  obtain ⟨q, hq⟩ : ∃ q, q = bstr (r.take n.toNat) := ⟨_, rfl⟩
  obtain ⟨t, ht⟩ : ∃ t, t = r.drop n.toNat := ⟨_, rfl⟩
  have HX : Hid (X = entF kk q t) := by rw [hkk, hq, ht]; exact hX
  have htl : t.length + n.toNat + 2 = b.length := by rw [ht, List.length_drop]; omega
  have HSB : Hid (∀ W : World, Below w.heap.size w W → NT.SliceB W.heap.size W (cutV blk off b.length 2 (n.toNat + 2) b.length) t) := by
    show ∀ W : World, _ → _
    intro W hW
    have h := cut_is ((HB.out.same hW.block).mono hW.size) (n.toNat + 2) b.length (by omega) (by omega)
    rw [show n.toNat + 2 = 2 + n.toNat by omega, HD.out.2, ← ht, List.take_of_length_le (by omega)] at h
    rw [show n.toNat + 2 = 2 + n.toNat by omega]
    exact h
  have hcv0 : ∀ W : World, (∀ j, j < w.heap.size → W.heap[j]? = w.heap[j]?) → (convert 26 9 (cutV blk off b.length 2 2 (n.toNat + 2))).run Try.prog W = .ok (.string q) W := fun W hW => by
    have h := cut_is (HB.out.same (w' := W) hW) 2 (n.toNat + 2) (by omega) (by omega)
    rw [show n.toNat + 2 - 2 = n.toNat by omega, HD.out.1, ] at h
    rw [hq]
    exact NT.conv_str (B := w.heap.size) h
  obtain ⟨A, hA⟩ : ∃ A, A = w.alloc (.cells #[.int .i64 0, .string ⟨#[]⟩, .int .i64 0, .int .i64 0, .slice none 0 0, .slice none 0 0] 30) := ⟨_, rfl⟩
  have HAB : Hid (Below w.heap.size w A ∧ Blk A w.heap.size [.int .i64 0, .string ⟨#[]⟩, .int .i64 0, .int .i64 0, .slice none 0 0, .slice none 0 0] ∧ A.heap.size = w.heap.size + 1) := by rw [hA]; exact ⟨below_alloc _ _, Blk.new _ _ _, by simp⟩
  have hcv : (convert 26 9 (cutV blk off b.length 2 2 (n.toNat + 2))).run Try.prog A.drew = .ok (.string q) A.drew := hcv0 _ fun j hj => HAB.out.1.block j hj
  have hcv' : ∀ o, (convert 26 9 (cutV blk off b.length 2 2 (n.toNat + 2))).run Try.prog (A.alloc o).drew = .ok (.string q) (A.alloc o).drew := fun o => hcv0 _ fun j hj => (Below.heap_alloc _ _ _ (by have := HAB.out.2.2; omega)).trans (HAB.out.1.block j hj)
  have g0 : n.toNat = 0 := by omega
  rw [g0] at hc1'
  rw [show cutV blk off b.length 2 2 (n.toNat + 2) = .slice (some ⟨blk, off, none⟩) 0 0 by simp [cutV, g0]] at hcv hcv'
  rw [show cutV blk off b.length 2 (n.toNat + 2) b.length = .slice (some ⟨blk, off, none⟩) 0 0 by unfold cutV; rw [if_pos (by omega), show b.length - (n.toNat + 2) = 0 by omega]] at HSB
  have d0 := bel_c HAB.out.1 hs hc0'
  have d1 := bel_c HAB.out.1 hs hc1'
  have hsA : blk < A.heap.size := by have := HAB.out.2.2; omega
  rw [← hkk] at d0
  have kb : 0 ≤ kk ∧ kk ≤ 255 := by omega
  have h2 : ¬ (b.length : Int) < 2 := by omega
  have h3 : ¬ (b.length : Int) < (n.toNat : Int) + 2 := by omega
  have h4 : (1 : Int) < (b.length : Int) := by omega
  have h5 : 0 < b.length := by omega
  have w2 : IntKind.i64.wrap (n.toNat : Int) = (n.toNat : Int) := by rw [IntKind.wrap_i64]; omega
  have w4 : IntKind.i64.wrap kk = kk := by rw [IntKind.wrap_i64]; omega
  have w3 : IntKind.i64.wrap ((n.toNat : Int) + 2) = (n.toNat : Int) + 2 := by rw [IntKind.wrap_i64]; omega
  have f1 : 0 ≤ (n.toNat : Int) + 2 := by omega
  have f2 : (n.toNat : Int) + 2 ≤ (2 : Int) := by omega
  have f3 : 2 ≤ max ((n.toNat : Int) + 2) 0 := by omega
  have f4 : ((n.toNat : Int) + 2).toNat = n.toNat + 2 := by omega
  have f6 : 2 ≤ (n.toNat : Int) + 2 := by omega
  have f5 : n.toNat + 2 - 2 = n.toNat := by omega
  have f7 : (n.toNat : Int) + 2 ≤ (b.length : Int) := by omega
  have HTL : Hid (t.length + n.toNat + 2 = b.length ∧ b.length = r.length + 2) := ⟨htl, hbl⟩
  have htb : t.length ≤ b.length := by omega
  clear hc0 hc1 hc0' hc1' hbs hnil hq ht hkk hX e hcv0 HD htl hbl
  clear w2 w3 f1 f2 f3 f4 f5 f6 f7 g0 h3
  have w0 : IntKind.i64.wrap 0 = 0 := rfl
  have w22 : IntKind.i64.wrap 2 = 2 := rfl
  go_enter Try.func9, Try.ntmps9
  go_upto_region 1 with fail
  rw [← hA]
  clear hA
  go_upto_region 3 with fail
  go_cut [4] (fun p wx => p = .pointer (some ⟨A.heap.size, 0, none⟩) ∧ wx = (A.alloc (.cells #[.int .i64 kk, .string q, .int .i64 0, .int .i64 0, .slice none 0 0, .slice none 0 0] 30)).drew)
  case first =>
    go_region_law (fail)
    all_goals (go_wp2_with fail; go_meet; exact ⟨rfl, rfl⟩)
  case rest =>
    obtain ⟨rfl, hwc⟩ := hcut
    obtain ⟨eb, heb⟩ : ∃ eb, eb = A.heap.size := ⟨_, rfl⟩
    have HW : Hid (Below w.heap.size w wc ∧ Blk wc eb [.int .i64 kk, .string q, .int .i64 0, .int .i64 0, .slice none 0 0, .slice none 0 0] ∧ Blk wc w.heap.size [.int .i64 0, .string ⟨#[]⟩, .int .i64 0, .int .i64 0, .slice none 0 0, .slice none 0 0] ∧ eb = w.heap.size + 1 ∧ wc.heap.size = eb + 1) := by
      have hz := HAB.out.2.2
      rw [hwc, heb]
      refine ⟨(HAB.out.1.alloc (by omega) _).drew, (Blk.new _ _ _).drew, (HAB.out.2.1.alloc _).drew, hz, by simp⟩
    have d1' : wc.cell? ⟨blk, off + 1, none⟩ = some (.int .u8 0) := by
      rw [hwc]
      exact bel_c ((below_alloc A _).drew) hsA d1
    have heb2 : w.heap.size < eb := by have := HW.out.2.2.2.1; omega
    have hwz : eb < wc.heap.size := by have := HW.out.2.2.2.2; omega
    have hbw : blk < wc.heap.size := by have := HW.out.2.2.2; omega
    have HSB2 : Hid (NT.SliceB wc.heap.size wc (.slice (some ⟨blk, off, none⟩) 0 0) t) := HSB.out wc HW.out.1
    have HSB3 : Hid (∀ W : World, Below w.heap.size w W → NT.SliceB W.heap.size W (.slice (some ⟨blk, off, none⟩) 0 0) t) := HSB.out
    rw [← heb]
    clear hwc heb d0 d1 hcv hcv' hsA HB HAB HSB
    obtain ⟨tl, htl⟩ : ∃ tl, tl = t.length := ⟨_, rfl⟩
    have HTT : Hid (tl = t.length ∧ tl + n.toNat + 2 = b.length) := ⟨htl, by rw [htl]; exact HTL.out.1⟩
    have HT0 : Hid (tl = 0) := by have h1 : tl = 0 := by { have := HTT.out.2; omega }; exact h1
    rw [← htl] at htb
    clear htl
    go_upto_region 4 with fail
    go_cut [0] (fun v wx => v = (.slice (some ⟨blk, off, none⟩) 0 0) ∧ wx = wc)
    case first =>
      go_wp2_with fail
      go_meet
      refine ⟨?_, rfl⟩
      have h1 := HTT.out.2
      have h0 := HT0.out
      first | rfl | (rw [show b.length - (n.toNat + 2) = 0 by omega]) | (rw [show b.length - 2 = 0 by omega])
    case rest =>
      obtain ⟨rfl, rfl⟩ := hcut
      clear d1' HTL h2 h4 h5 hbw
      obtain ⟨c0, c1, c2, c3, c4, c5, c6, c7⟩ := HW.out.2.1.b6
      obtain ⟨r0, r1, r2, r3, r4, r5, r6, r7⟩ := HW.out.2.2.1.b6
      have m1 : w.heap.size ≠ eb := by omega
      have m2 : eb ≠ w.heap.size := by omega
      have HKB : Hid (0 ≤ kk ∧ kk ≤ 255) := kb
      clear kb
      by_cases k1 : kk = 1
      · subst k1
        by_cases l1 : tl = 1
        · exfalso; have := HT0.out; omega

        · have l1' : ¬ (tl : Int) = 1 := by omega
          have hXv : X = noE 2 := by rw [HX.out]; simp [entF, kindOkB, restF, show ¬ t.length = 1 by rw [← HTT.out.1]; exact l1]
          go_wp2_with fail
          refine bodyPost_ret (v := .tuple #[noEntry, .int .i64 2]) (by simp [results, Try.results9, go_sem, noEntry, *]; done) rfl ?_
          try rw [hXv]
          refine eans_no 2 ?_
          iterate 6 refine Below.setCell ?_ (show w.heap.size ≤ w.heap.size from Nat.le_refl _) _
          exact HW.out.1

      by_cases k2 : kk = 2
      · subst k2
        by_cases l2 : tl = 0
        · have ht0 : t = [] := List.eq_nil_of_length_eq_zero (by rw [← HTT.out.1]; exact l2)
          subst l2
          have hXv : X = (2, q, 0, 0, [], [], 0) := by rw [HX.out, ht0]; simp [entF, kindOkB, restF]
          go_wp2_with fail
          refine bodyPost_ret (v := .tuple #[.agg #[.int .i64 2, .string q, .int .i64 0, .int .i64 0, .slice none 0 0, .slice none 0 0], .int .i64 0]) (by simp [results, Try.results9, go_sem, *]; done) rfl ?_
          try rw [hXv]
          refine ⟨.slice none 0 0, .slice none 0 0, rfl, NT.SliceP.nil _ _, NT.SliceB.nil _ _, ?_⟩
          iterate 6 refine Below.setCell ?_ (show w.heap.size ≤ w.heap.size from Nat.le_refl _) _
          exact HW.out.1

        · exfalso; have := HT0.out; omega

      by_cases k4 : kk = 4
      · subst k4
        by_cases l4 : tl = 4
        · exfalso; have := HT0.out; omega

        · have l4' : ¬ (tl : Int) = 4 := by omega
          have hXv : X = noE 2 := by rw [HX.out]; simp [entF, kindOkB, restF, show ¬ t.length = 4 by rw [← HTT.out.1]; exact l4]
          go_wp2_with fail
          refine bodyPost_ret (v := .tuple #[noEntry, .int .i64 2]) (by simp [results, Try.results9, go_sem, noEntry, *]; done) rfl ?_
          try rw [hXv]
          refine eans_no 2 ?_
          iterate 6 refine Below.setCell ?_ (show w.heap.size ≤ w.heap.size from Nat.le_refl _) _
          exact HW.out.1

      by_cases k3 : kk = 3
      · subst k3
        by_cases l3 : 4 ≤ tl
        · exfalso; have := HT0.out; omega

        · have l3' : ¬ (4 : Int) ≤ (tl : Int) := by omega
          have hXv : X = noE 2 := by rw [HX.out]; simp [entF, kindOkB, restF, show t.length < 4 by rw [← HTT.out.1]; omega]
          go_wp2_with fail
          refine bodyPost_ret (v := .tuple #[noEntry, .int .i64 2]) (by simp [results, Try.results9, go_sem, noEntry, *]; done) rfl ?_
          try rw [hXv]
          refine eans_no 2 ?_
          iterate 6 refine Below.setCell ?_ (show w.heap.size ≤ w.heap.size from Nat.le_refl _) _
          exact HW.out.1

      have q1 : (kk == 1) = false := by simpa using k1
      have q2 : (kk == 2) = false := by simpa using k2
      have q3 : (kk == 3) = false := by simpa using k3
      have q4 : (kk == 4) = false := by simpa using k4
      have hXv : X = noE 1 := by
        rw [HX.out]
        have hk : kindOkB kk = false := by
          simp only [kindOkB, Bool.and_eq_false_iff, decide_eq_false_iff_not]
          have := HKB.out
          omega
        simp [entF, hk]
      by_cases k5 : kk < 1
      · go_wp2_with fail
        refine bodyPost_ret (v := .tuple #[noEntry, .int .i64 1]) (by simp [results, Try.results9, go_sem, noEntry, *]; done) rfl ?_
        try rw [hXv]
        refine eans_no 1 ?_
        iterate 6 refine Below.setCell ?_ (show w.heap.size ≤ w.heap.size from Nat.le_refl _) _
        exact HW.out.1
      · have k6 : 4 < kk := by have := HKB.out; omega
        go_wp2_with fail
        refine bodyPost_ret (v := .tuple #[noEntry, .int .i64 1]) (by simp [results, Try.results9, go_sem, noEntry, *]; done) rfl ?_
        try rw [hXv]
        refine eans_no 1 ?_
        iterate 6 refine Below.setCell ?_ (show w.heap.size ≤ w.heap.size from Nat.le_refl _) _
        exact HW.out.1

end Go.Proofs.Ytkddkpdfeeikhaa

/-
  tgref1.EntryParse: no spare room behind the name.
-/
namespace Go.Proofs.Ytkddkpdfeeikhaa
open Go.RowKit
set_option linter.unusedVariables false
set_option linter.unusedSimpArgs false

attribute [local go_sem ↓] Go.wp_at_zero Go.wp_at_succ


set_option maxRecDepth 100000 in
set_option maxHeartbeats 6400000 in
theorem refEnt_B (blk off cap : Nat) (b : List UInt8) (k n : UInt8) (r : List UInt8) (w : World) (hb : NT.SliceB w.heap.size w (.slice (some ⟨blk, off, none⟩) b.length cap) b) (e : b = k :: n :: r) (hl : n.toNat ≤ r.length) (hbm : b.length ≤ 4194304) (hc2 : ¬ cap = 2) (hce : cap = 2 + n.toNat) (X : Int × ByteArray × Int × Int × List NT.PD × List UInt8 × Int) (hX : X = entF (k.toNat : Int) (bstr (r.take n.toNat)) (r.drop n.toNat)) :
    Calls Try.prog 9 #[.slice (some ⟨blk, off, none⟩) b.length cap] w (EAns X w) := by
  have HB : Hid (NT.SliceB w.heap.size w (.slice (some ⟨blk, off, none⟩) b.length cap) b) := hb
  have hbl : b.length = r.length + 2 := by rw [e]; simp
  have HD : Hid ((b.drop 2).take n.toNat = r.take n.toNat ∧ b.drop (2 + n.toNat) = r.drop n.toNat) := by
    refine ⟨by rw [e]; rfl, ?_⟩
    rw [e, Nat.add_comm, List.drop_succ_cons, List.drop_succ_cons]
  obtain ⟨_, _, e0, hcap, hmax, hnil, hbs⟩ := hb
  obtain ⟨b', off', e1, hs, hc1⟩ := hbs 1 (by omega)
  obtain ⟨b2, off2, e2, hs2, hc0⟩ := hbs 0 (by omega)
  simp only [Option.some.injEq, Addr.mk.injEq, Value.slice.injEq] at e0 e1
  obtain ⟨⟨rfl, rfl, -⟩, -, rfl⟩ := e0
  obtain ⟨rfl, rfl, -⟩ := e1
  simp only [Option.some.injEq, Addr.mk.injEq] at e2
  obtain ⟨rfl, rfl, -⟩ := e2
  have hc1' : w.cell? ⟨blk, off + 1, none⟩ = some (.int .u8 n.toNat) := by rw [hc1]; simp [e]
  have hc0' : w.cell? ⟨blk, off, none⟩ = some (.int .u8 k.toNat) := by have := hc0; simp [e] at this; exact this
  obtain ⟨n0, n1⟩ := NT.u8_bounds n
  obtain ⟨k0, k1⟩ := NT.u8_bounds k
  unfold maxLen at hmax
  obtain ⟨kk, hkk⟩ : ∃ kk, kk = (k.toNat : Int) := ⟨_, rfl⟩
  obtain ⟨q, hq⟩ : ∃ q, q = bstr (r.take n.toNat) := ⟨_, rfl⟩
  obtain ⟨t, ht⟩ : ∃ t, t = r.drop n.toNat := ⟨_, rfl⟩
  have HX : Hid (X = entF kk q t) := by rw [hkk, hq, ht]; exact hX
  have htl : t.length + n.toNat + 2 = b.length := by rw [ht, List.length_drop]; omega
  have HSB : Hid (∀ W : World, Below w.heap.size w W → NT.SliceB W.heap.size W (cutV blk off b.length cap (n.toNat + 2) b.length) t) := by
    show ∀ W : World, _ → _
    intro W hW
    have h := cut_is ((HB.out.same hW.block).mono hW.size) (n.toNat + 2) b.length (by omega) (by omega)
    rw [show n.toNat + 2 = 2 + n.toNat by omega, HD.out.2, ← ht, List.take_of_length_le (by omega)] at h
    rw [show n.toNat + 2 = 2 + n.toNat by omega]
    exact h
  have hcv0 : ∀ W : World, (∀ j, j < w.heap.size → W.heap[j]? = w.heap[j]?) → (convert 26 9 (cutV blk off b.length cap 2 (n.toNat + 2))).run Try.prog W = .ok (.string q) W := fun W hW => by
    have h := cut_is (HB.out.same (w' := W) hW) 2 (n.toNat + 2) (by omega) (by omega)
    rw [show n.toNat + 2 - 2 = n.toNat by omega, HD.out.1, ] at h
    rw [hq]
    exact NT.conv_str (B := w.heap.size) h
  obtain ⟨A, hA⟩ : ∃ A, A = w.alloc (.cells #[.int .i64 0, .string ⟨#[]⟩, .int .i64 0, .int .i64 0, .slice none 0 0, .slice none 0 0] 30) := ⟨_, rfl⟩
  have HAB : Hid (Below w.heap.size w A ∧ Blk A w.heap.size [.int .i64 0, .string ⟨#[]⟩, .int .i64 0, .int .i64 0, .slice none 0 0, .slice none 0 0] ∧ A.heap.size = w.heap.size + 1) := by rw [hA]; exact ⟨below_alloc _ _, Blk.new _ _ _, by simp⟩
  have hcv : (convert 26 9 (cutV blk off b.length cap 2 (n.toNat + 2))).run Try.prog A.drew = .ok (.string q) A.drew := hcv0 _ fun j hj => HAB.out.1.block j hj
  have hcv' : ∀ o, (convert 26 9 (cutV blk off b.length cap 2 (n.toNat + 2))).run Try.prog (A.alloc o).drew = .ok (.string q) (A.alloc o).drew := fun o => hcv0 _ fun j hj => (Below.heap_alloc _ _ _ (by have := HAB.out.2.2; omega)).trans (HAB.out.1.block j hj)

  rw [show cutV blk off b.length cap 2 (n.toNat + 2) = .slice (some ⟨blk, off + 2, none⟩) n.toNat (cap - 2) by simp [cutV, hc2]] at hcv hcv'
  rw [show cutV blk off b.length cap (n.toNat + 2) b.length = .slice (some ⟨blk, off, none⟩) 0 0 by unfold cutV; rw [if_pos (by omega), show b.length - (n.toNat + 2) = 0 by omega]] at HSB
  have d0 := bel_c HAB.out.1 hs hc0'
  have d1 := bel_c HAB.out.1 hs hc1'
  have hsA : blk < A.heap.size := by have := HAB.out.2.2; omega
  rw [← hkk] at d0
  have kb : 0 ≤ kk ∧ kk ≤ 255 := by omega
  have h2 : ¬ (b.length : Int) < 2 := by omega
  have h3 : ¬ (b.length : Int) < (n.toNat : Int) + 2 := by omega
  have h4 : (1 : Int) < (b.length : Int) := by omega
  have h5 : 0 < b.length := by omega
  have w2 : IntKind.i64.wrap (n.toNat : Int) = (n.toNat : Int) := by rw [IntKind.wrap_i64]; omega
  have w4 : IntKind.i64.wrap kk = kk := by rw [IntKind.wrap_i64]; omega
  have w3 : IntKind.i64.wrap ((n.toNat : Int) + 2) = (n.toNat : Int) + 2 := by rw [IntKind.wrap_i64]; omega
  have f1 : 0 ≤ (n.toNat : Int) + 2 := by omega
  have f2 : (n.toNat : Int) + 2 ≤ (cap : Int) := by omega
  have f3 : 2 ≤ max ((n.toNat : Int) + 2) 0 := by omega
  have f4 : ((n.toNat : Int) + 2).toNat = n.toNat + 2 := by omega
  have f6 : 2 ≤ (n.toNat : Int) + 2 := by omega
  have f5 : n.toNat + 2 - 2 = n.toNat := by omega
  have f7 : (n.toNat : Int) + 2 ≤ (b.length : Int) := by omega
  have HTL : Hid (t.length + n.toNat + 2 = b.length ∧ b.length = r.length + 2) := ⟨htl, hbl⟩
  have htb : t.length ≤ b.length := by omega
  clear hc0 hc1 hc0' hc1' hbs hnil hq ht hkk hX e hcv0 HD htl hbl
  have HCE : Hid (cap = 2 + n.toNat) := hce
  clear hce
  go_enter Try.func9, Try.ntmps9
  go_upto_region 1 with fail
  rw [← hA]
  clear hA
  go_upto_region 3 with fail
  go_cut [4] (fun p wx => p = .pointer (some ⟨A.heap.size, 0, none⟩) ∧ wx = (A.alloc (.cells #[.int .i64 kk, .string q, .int .i64 0, .int .i64 0, .slice none 0 0, .slice none 0 0] 30)).drew)
  case first =>
    go_region_law (fail)
    all_goals (go_wp2_with fail; go_meet; exact ⟨rfl, rfl⟩)
  case rest =>
    obtain ⟨rfl, hwc⟩ := hcut
    obtain ⟨eb, heb⟩ : ∃ eb, eb = A.heap.size := ⟨_, rfl⟩
    have HW : Hid (Below w.heap.size w wc ∧ Blk wc eb [.int .i64 kk, .string q, .int .i64 0, .int .i64 0, .slice none 0 0, .slice none 0 0] ∧ Blk wc w.heap.size [.int .i64 0, .string ⟨#[]⟩, .int .i64 0, .int .i64 0, .slice none 0 0, .slice none 0 0] ∧ eb = w.heap.size + 1 ∧ wc.heap.size = eb + 1) := by
      have hz := HAB.out.2.2
      rw [hwc, heb]
      refine ⟨(HAB.out.1.alloc (by omega) _).drew, (Blk.new _ _ _).drew, (HAB.out.2.1.alloc _).drew, hz, by simp⟩
    have d1' : wc.cell? ⟨blk, off + 1, none⟩ = some (.int .u8 n.toNat) := by
      rw [hwc]
      exact bel_c ((below_alloc A _).drew) hsA d1
    have heb2 : w.heap.size < eb := by have := HW.out.2.2.2.1; omega
    have hwz : eb < wc.heap.size := by have := HW.out.2.2.2.2; omega
    have hbw : blk < wc.heap.size := by have := HW.out.2.2.2; omega
    have HSB2 : Hid (NT.SliceB wc.heap.size wc (.slice (some ⟨blk, off, none⟩) 0 0) t) := HSB.out wc HW.out.1
    have HSB3 : Hid (∀ W : World, Below w.heap.size w W → NT.SliceB W.heap.size W (.slice (some ⟨blk, off, none⟩) 0 0) t) := HSB.out
    rw [← heb]
    clear hwc heb d0 d1 hcv hcv' hsA HB HAB HSB
    obtain ⟨tl, htl⟩ : ∃ tl, tl = t.length := ⟨_, rfl⟩
    have HTT : Hid (tl = t.length ∧ tl + n.toNat + 2 = b.length) := ⟨htl, by rw [htl]; exact HTL.out.1⟩
    have HT0 : Hid (tl = 0) := by have h1 : tl = 0 := by { have := HTT.out.2; have := HCE.out; omega }; exact h1
    rw [← htl] at htb
    clear htl
    go_upto_region 4 with fail
    go_cut [0] (fun v wx => v = (.slice (some ⟨blk, off, none⟩) 0 0) ∧ wx = wc)
    case first =>
      have hce := HCE.out
      subst hce
      have f8 : (n.toNat : Int) + 2 ≤ 2 + (n.toNat : Int) := by omega
      have f9 : 2 + n.toNat = n.toNat + 2 := by omega
      go_wp2_with fail
      go_meet
      refine ⟨?_, rfl⟩
      have h1 := HTT.out.2
      have h0 := HT0.out
      first | rfl | (rw [show b.length - (n.toNat + 2) = 0 by omega]) | (rw [show b.length - 2 = 0 by omega])
    case rest =>
      obtain ⟨rfl, rfl⟩ := hcut
      clear d1' HTL f1 f2 f3 f4 f5 f6 f7 w2 w3 h2 h3 h4 h5 hbw
      obtain ⟨c0, c1, c2, c3, c4, c5, c6, c7⟩ := HW.out.2.1.b6
      obtain ⟨r0, r1, r2, r3, r4, r5, r6, r7⟩ := HW.out.2.2.1.b6
      have m1 : w.heap.size ≠ eb := by omega
      have m2 : eb ≠ w.heap.size := by omega
      have HKB : Hid (0 ≤ kk ∧ kk ≤ 255) := kb
      clear kb
      by_cases k1 : kk = 1
      · subst k1
        by_cases l1 : tl = 1
        · exfalso; have := HT0.out; omega

        · have l1' : ¬ (tl : Int) = 1 := by omega
          have hXv : X = noE 2 := by rw [HX.out]; simp [entF, kindOkB, restF, show ¬ t.length = 1 by rw [← HTT.out.1]; exact l1]
          go_wp2_with fail
          refine bodyPost_ret (v := .tuple #[noEntry, .int .i64 2]) (by simp [results, Try.results9, go_sem, noEntry, *]; done) rfl ?_
          try rw [hXv]
          refine eans_no 2 ?_
          iterate 6 refine Below.setCell ?_ (show w.heap.size ≤ w.heap.size from Nat.le_refl _) _
          exact HW.out.1

      by_cases k2 : kk = 2
      · subst k2
        by_cases l2 : tl = 0
        · have ht0 : t = [] := List.eq_nil_of_length_eq_zero (by rw [← HTT.out.1]; exact l2)
          subst l2
          have hXv : X = (2, q, 0, 0, [], [], 0) := by rw [HX.out, ht0]; simp [entF, kindOkB, restF]
          go_wp2_with fail
          refine bodyPost_ret (v := .tuple #[.agg #[.int .i64 2, .string q, .int .i64 0, .int .i64 0, .slice none 0 0, .slice none 0 0], .int .i64 0]) (by simp [results, Try.results9, go_sem, *]; done) rfl ?_
          try rw [hXv]
          refine ⟨.slice none 0 0, .slice none 0 0, rfl, NT.SliceP.nil _ _, NT.SliceB.nil _ _, ?_⟩
          iterate 6 refine Below.setCell ?_ (show w.heap.size ≤ w.heap.size from Nat.le_refl _) _
          exact HW.out.1

        · exfalso; have := HT0.out; omega

      by_cases k4 : kk = 4
      · subst k4
        by_cases l4 : tl = 4
        · exfalso; have := HT0.out; omega

        · have l4' : ¬ (tl : Int) = 4 := by omega
          have hXv : X = noE 2 := by rw [HX.out]; simp [entF, kindOkB, restF, show ¬ t.length = 4 by rw [← HTT.out.1]; exact l4]
          go_wp2_with fail
          refine bodyPost_ret (v := .tuple #[noEntry, .int .i64 2]) (by simp [results, Try.results9, go_sem, noEntry, *]; done) rfl ?_
          try rw [hXv]
          refine eans_no 2 ?_
          iterate 6 refine Below.setCell ?_ (show w.heap.size ≤ w.heap.size from Nat.le_refl _) _
          exact HW.out.1

      by_cases k3 : kk = 3
      · subst k3
        by_cases l3 : 4 ≤ tl
        · exfalso; have := HT0.out; omega

        · have l3' : ¬ (4 : Int) ≤ (tl : Int) := by omega
          have hXv : X = noE 2 := by rw [HX.out]; simp [entF, kindOkB, restF, show t.length < 4 by rw [← HTT.out.1]; omega]
          go_wp2_with fail
          refine bodyPost_ret (v := .tuple #[noEntry, .int .i64 2]) (by simp [results, Try.results9, go_sem, noEntry, *]; done) rfl ?_
          try rw [hXv]
          refine eans_no 2 ?_
          iterate 6 refine Below.setCell ?_ (show w.heap.size ≤ w.heap.size from Nat.le_refl _) _
          exact HW.out.1

      have q1 : (kk == 1) = false := by simpa using k1
      have q2 : (kk == 2) = false := by simpa using k2
      have q3 : (kk == 3) = false := by simpa using k3
      have q4 : (kk == 4) = false := by simpa using k4
      have hXv : X = noE 1 := by
        rw [HX.out]
        have hk : kindOkB kk = false := by
          simp only [kindOkB, Bool.and_eq_false_iff, decide_eq_false_iff_not]
          have := HKB.out
          omega
        simp [entF, hk]
      by_cases k5 : kk < 1
      · go_wp2_with fail
        refine bodyPost_ret (v := .tuple #[noEntry, .int .i64 1]) (by simp [results, Try.results9, go_sem, noEntry, *]; done) rfl ?_
        try rw [hXv]
        refine eans_no 1 ?_
        iterate 6 refine Below.setCell ?_ (show w.heap.size ≤ w.heap.size from Nat.le_refl _) _
        exact HW.out.1
      · have k6 : 4 < kk := by have := HKB.out; omega
        go_wp2_with fail
        refine bodyPost_ret (v := .tuple #[noEntry, .int .i64 1]) (by simp [results, Try.results9, go_sem, noEntry, *]; done) rfl ?_
        try rw [hXv]
        refine eans_no 1 ?_
        iterate 6 refine Below.setCell ?_ (show w.heap.size ≤ w.heap.size from Nat.le_refl _) _
        exact HW.out.1

end Go.Proofs.Ytkddkpdfeeikhaa
