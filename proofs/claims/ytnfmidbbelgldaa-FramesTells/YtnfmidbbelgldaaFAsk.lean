/-
  frames.askOf and sayOf read what askOfF and sayOfF say.
-/
import Derived.Test.YtnfmidbbelgldaaFRead
import Derived.Deep.RegionLaw
import Derived.Deep.RegionHeld3
import Derived.Deep.DeepCutAuto
namespace Go.Proofs.Ytnfmidbbelgldaa
open Go.RowKit
set_option linter.unusedVariables false
set_option linter.unusedSimpArgs false

attribute [local go_sem ↓] Go.wp_at_zero Go.wp_at_succ

/-- An ask that is told, and a word beside it. -/
def ToldAsk (a : AD) (z : Value) (w : World) (e : Ending) (w' : World) : Prop :=
  ∃ va vc ua uc, e = .returned (.tuple #[.agg #[.int .i64 a.kind, .string a.queue, .int .i64 a.n, .slice va a.ps.length vc, .slice ua a.body.length uc], z]) ∧
    SliceP w'.heap.size w' (.slice va a.ps.length vc) a.ps ∧ SliceB w'.heap.size w' (.slice ua a.body.length uc) a.body ∧ Below w.heap.size w w' ∧ FreshV w.heap.size (.slice va a.ps.length vc) ∧ FreshV w.heap.size (.slice ua a.body.length uc)

theorem slice_tail {B : Nat} {w : World} {b0 off c n : Nat} {l : List UInt8} (h : SliceB B w (.slice (some ⟨b0, off, none⟩) n c) l) (k j : Nat) (hk : k ≤ n) {sa : Option Addr} (hs : c = k ∧ sa = some ⟨b0, off, none⟩ ∨ ¬ c = k ∧ sa = some ⟨b0, off + k, none⟩) (hj : j = k) :
    SliceB B w (.slice sa (n - k) (c - k)) (l.drop j) := by
  subst hj
  obtain ⟨a', c', e, h1, h2, h3, h4⟩ := h
  simp only [Value.slice.injEq] at e
  obtain ⟨rfl, rfl, rfl⟩ := e
  have hl : (l.drop j).length = l.length - j := by simp
  rcases hs with ⟨rfl, rfl⟩ | ⟨hc, rfl⟩
  · have e0 : l.drop c = [] := List.drop_eq_nil_of_le (by omega)
    rw [e0]
    have e1 : l.length - c = 0 := by omega
    have e2 : c - c = 0 := by omega
    rw [e1, e2]
    exact ⟨_, 0, rfl, Nat.le_refl _, by simp [maxLen], fun e => by simp at e, fun i hi => by simp at hi⟩
  · refine ⟨some ⟨b0, off + j, none⟩, c - j, by rw [hl], by rw [hl]; omega, by unfold maxLen at *; omega, fun e => by simp at e, ?_⟩
    have := bytes_drop h4 j
    rwa [Option.map_some, add_none] at this
/-- Behind the call of noteOf: its note stands in a box. -/
def Mid (B : Nat) (t : TypeId) (cs6 cs2 : Array Value) (N : List PD × List UInt8 × Bool) (w : World) (p j : Value) (wx : World) : Prop :=
  ∃ pb va vc ua uc, p = .pointer (some ⟨pb, 0, none⟩) ∧ j = .bool N.2.2 ∧ B + 2 ≤ pb ∧ wx.heap[pb]? = some (.cells #[.slice va N.1.length vc, .slice ua N.2.1.length uc] 25 (0, 0)) ∧
    SliceP wx.heap.size wx (.slice va N.1.length vc) N.1 ∧ SliceB wx.heap.size wx (.slice ua N.2.1.length uc) N.2.1 ∧ FreshV (B + 2) (.slice va N.1.length vc) ∧ FreshV (B + 2) (.slice ua N.2.1.length uc) ∧
    Below B w wx ∧ wx.heap[B + 1]? = some (.cells cs6 t (0, 0)) ∧ wx.heap[B]? = some (.cells cs2 t (0, 0))
theorem mid_first {B : Nat} {t : TypeId} {cs6 cs2 : Array Value} {N : List PD × List UInt8 × Bool} {w X w3 : World} {o : Obj} {va ua : Option Addr} {vc uc : Nat} (XB : Below B w X) (XZ : X.heap.size = B + 2)
    (H6 : X.heap[B + 1]? = some (.cells cs6 t (0, 0))) (H2 : X.heap[B]? = some (.cells cs2 t (0, 0))) (ho : o = .cells #[.slice none 0 0, .slice none 0 0] 25)
    (hv : SliceP w3.heap.size w3 (.slice va N.1.length vc) N.1) (hu : SliceB w3.heap.size w3 (.slice ua N.2.1.length uc) N.2.1) (hb : Below (X.alloc o).drew.heap.size (X.alloc o).drew w3) (hp : FreshV (X.alloc o).drew.heap.size (.slice va N.1.length vc)) (hq : FreshV (X.alloc o).drew.heap.size (.slice ua N.2.1.length uc)) :
    Mid B t cs6 cs2 N w (.pointer (some ⟨B + 2, 0, none⟩)) (.bool N.2.2) ((w3.setCell ⟨B + 2, 0, none⟩ (.slice va N.1.length vc)).setCell ⟨B + 2, 1, none⟩ (.slice ua N.2.1.length uc)) := by
  have z : (X.alloc o).drew.heap.size = B + 3 := by simp [XZ]
  rw [z] at hp hq
  have hz := hb.size
  rw [z] at hz hb
  have blk : ∀ k, k ≠ B + 2 → ((w3.setCell ⟨B + 2, 0, none⟩ (.slice va N.1.length vc)).setCell ⟨B + 2, 1, none⟩ (.slice ua N.2.1.length uc)).heap[k]? = w3.heap[k]? := fun k h => by
    rw [Below.heap_setCell _ _ _ _ h, Below.heap_setCell _ _ _ _ h]
  have x2 : ∀ k, k < B + 2 → w3.heap[k]? = X.heap[k]? := fun k h => (hb.block k (by omega)).trans (Below.heap_alloc _ _ _ (by omega))
  have n0 : NoteBlk w3 (B + 2) (.slice none 0 0) (.slice none 0 0) := by
    unfold NoteBlk
    rw [hb.block (B + 2) (by omega), ← XZ, ho]
    exact heap_alloc_new X _
  refine ⟨B + 2, va, vc, ua, uc, rfl, rfl, Nat.le_refl _, (n0.set0 _).set1 _, ?_, ?_, hp.mono (by omega), hq.mono (by omega), ?_, ?_, ?_⟩
  · exact (hv.from_ hp (fun k h1 _ => blk k (by omega))).mono (by simp)
  · exact (hu.from_ hq (fun k h1 _ => blk k (by omega))).mono (by simp)
  · exact (((XB.alloc (by omega) o).drew.trans (hb.mono (by omega))).setCell (by simp) _).setCell (by simp) _
  · rw [blk _ (by omega), x2 _ (by omega), H6]
  · rw [blk _ (by omega), x2 _ (by omega), H2]
theorem mid_last {B : Nat} {t : TypeId} {cs6 cs2 : Array Value} {N : List PD × List UInt8 × Bool} {w X w3 : World} {va ua : Option Addr} {vc uc : Nat} (XB : Below B w X) (XZ : X.heap.size = B + 2)
    (H6 : X.heap[B + 1]? = some (.cells cs6 t (0, 0))) (H2 : X.heap[B]? = some (.cells cs2 t (0, 0)))
    (hv : SliceP w3.heap.size w3 (.slice va N.1.length vc) N.1) (hu : SliceB w3.heap.size w3 (.slice ua N.2.1.length uc) N.2.1) (hb : Below X.drew.heap.size X.drew w3) (hp : FreshV X.drew.heap.size (.slice va N.1.length vc)) (hq : FreshV X.drew.heap.size (.slice ua N.2.1.length uc)) :
    Mid B t cs6 cs2 N w (.pointer (some ⟨w3.heap.size, 0, none⟩)) (.bool N.2.2) (w3.alloc (.cells #[.slice va N.1.length vc, .slice ua N.2.1.length uc] 25)) := by
  have z : X.drew.heap.size = B + 2 := by simp [XZ]
  rw [z] at hp hq
  have hz := hb.size
  rw [z] at hz hb
  have x2 : ∀ k, k < B + 2 → (w3.alloc (.cells #[.slice va N.1.length vc, .slice ua N.2.1.length uc] 25)).heap[k]? = X.heap[k]? := fun k h => (Below.heap_alloc _ _ _ (by omega)).trans (hb.block k (by omega))
  refine ⟨w3.heap.size, va, vc, ua, uc, rfl, rfl, hz, heap_alloc_new w3 _, hv.below (below_alloc _ _), hu.below (below_alloc _ _), hp, hq, ?_, ?_, ?_⟩
  · exact (XB.drew.trans (hb.mono (by omega))).alloc (by omega) _
  · rw [x2 _ (by omega), H6]
  · rw [x2 _ (by omega), H2]
theorem row_c {w : World} {b : Nat} {cs : Array Value} {t : TypeId} (h : w.heap[b]? = some (.cells cs t (0, 0))) (o : Nat) : w.cell? ⟨b, o, none⟩ = cs[o]? := cell_of_row w b o cs t (0, 0) h
theorem row_f {w : World} {b : Nat} {cs : Array Value} {t : TypeId} (h : w.heap[b]? = some (.cells cs t (0, 0))) (o : Nat) : w.frozen? ⟨b, o, none⟩ = false := by
  unfold World.frozen?
  simp [h]
theorem told_ask {a : AD} {z : Value} {w w' : World} {k n : Int} {q : ByteArray} {ps : List PD} {body : List UInt8} {va ua : Option Addr} {vc uc : Nat} (ha : a = ⟨k, q, n, ps, body⟩) (hv : SliceP w'.heap.size w' (.slice va ps.length vc) ps) (hu : SliceB w'.heap.size w' (.slice ua body.length uc) body) (hb : Below w.heap.size w w')
    (hp : FreshV w.heap.size (.slice va ps.length vc)) (hq : FreshV w.heap.size (.slice ua body.length uc)) :
    ToldAsk a z w (.returned (.tuple #[.agg #[.int .i64 k, .string q, .int .i64 n, .slice va ps.length vc, .slice ua body.length uc], z])) w' := by
  subst ha
  exact ⟨va, vc, ua, uc, rfl, hv, hu, hb, hp, hq⟩
/-- Of wc only what stands in the blocks B and B + 1 is another thing in W. -/
structure OffB (B : Nat) (wc W : World) : Prop where
  os : W.os = wc.os
  tape : W.tape = wc.tape
  output : W.output = wc.output
  size : W.heap.size = wc.heap.size
  block : ∀ k, k < B ∨ B + 2 ≤ k → W.heap[k]? = wc.heap[k]?
theorem OffB.refl (B : Nat) (w : World) : OffB B w w := ⟨rfl, rfl, rfl, rfl, fun _ _ => rfl⟩
theorem OffB.set {B : Nat} {wc W : World} (h : OffB B wc W) {b o : Nat} (h1 : B ≤ b) (h2 : b < B + 2) (u : Value) : OffB B wc (W.setCell ⟨b, o, none⟩ u) :=
  ⟨h.os, h.tape, h.output, by simpa using h.size, fun k hk => (Below.heap_setCell _ _ _ _ (by simp; omega)).trans (h.block k hk)⟩
theorem told_ask_off {a : AD} {z : Value} {w wc w' : World} {k n : Int} {q : ByteArray} {ps : List PD} {body : List UInt8} {va ua : Option Addr} {vc uc : Nat} (ha : a = ⟨k, q, n, ps, body⟩) (off : OffB w.heap.size wc w') (hv : SliceP wc.heap.size wc (.slice va ps.length vc) ps) (hu : SliceB wc.heap.size wc (.slice ua body.length uc) body) (hb : Below w.heap.size w wc)
    (hp : FreshV (w.heap.size + 2) (.slice va ps.length vc)) (hq : FreshV (w.heap.size + 2) (.slice ua body.length uc)) :
    ToldAsk a z w (.returned (.tuple #[.agg #[.int .i64 k, .string q, .int .i64 n, .slice va ps.length vc, .slice ua body.length uc], z])) w' := by
  refine told_ask ha ?_ ?_ ?_ (hp.mono (by omega)) (hq.mono (by omega))
  · rw [off.size]; exact hv.from_ hp (fun k h1 _ => off.block k (.inr h1))
  · rw [off.size]; exact hu.from_ hq (fun k h1 _ => off.block k (.inr h1))
  · exact ⟨off.os.trans hb.os, off.tape.trans hb.tape, off.output.trans hb.output, by rw [off.size]; exact hb.size, fun k hk => (off.block k (.inl hk)).trans (hb.block k hk)⟩
theorem wrap_small (n : Nat) (h : n ≤ 1000000) : IntKind.i64.wrap (n : Int) = n := by
  rw [IntKind.wrap_i64]; omega

set_option maxRecDepth 100000 in
set_option maxHeartbeats 4000000 in
theorem askOf_any (v : Value) (i : List UInt8) (w : World) (hb : SliceB w.heap.size w v i) (hil : i.length ≤ 400) :
    Calls Try.prog 34 #[v] w (ToldAsk (askOfF i).1 (.bool (askOfF i).2) w) := by
  have hb' := hb
  obtain ⟨a, cap, rfl, i1, i2, i0, i3⟩ := hb
  unfold maxLen at i2
  by_cases h1 : i.length < 2
  · have HF : Hid (askOfF i = (AD.zero, false)) := by show askOfF i = _; unfold askOfF; rw [if_pos (Or.inl h1)]
    go_enter Try.func34, Try.ntmps34
    go_wp2
    refine bodyPost_ret (v := .tuple #[.agg #[.int .i64 0, .string ⟨#[]⟩, .int .i64 0, .slice none 0 0, .slice none 0 0], .bool false]) (by simp [results, Try.results34, go_sem, *]) rfl ?_
    rw [HF.out]
    exact ⟨_, _, _, _, rfl, SliceP.nil _ _, SliceB.nil _ _, below_alloc w _, fresh_nil _, fresh_nil _⟩
  obtain ⟨b0, off, rfl, hlt, hc0⟩ := i3 0 (by omega)
  obtain ⟨_, _, e, -, hc1⟩ := i3 1 (by omega)
  simp only [Option.some.injEq, Addr.mk.injEq] at e
  obtain ⟨rfl, rfl, -⟩ := e
  obtain ⟨x, hx⟩ : ∃ x, x = i[0] := ⟨_, rfl⟩
  obtain ⟨y, hy⟩ : ∃ y, y = i[1] := ⟨_, rfl⟩
  rw [← hx] at hc0
  rw [← hy] at hc1
  rw [Nat.add_zero] at hc0
  have ex : i.getD 0 0 = x := by rw [hx]; simp [List.getD_eq_getElem?_getD, List.getElem?_eq_getElem, show 0 < i.length by omega]
  have ey : i.getD 1 0 = y := by rw [hy]; simp [List.getD_eq_getElem?_getD, List.getElem?_eq_getElem, show 1 < i.length by omega]
  obtain ⟨x0, x1⟩ := u8_bounds x
  obtain ⟨y0, y1⟩ := u8_bounds y
  have wc : ∀ o, (∀ p, p < w.heap.size → (w.alloc o).heap[p]? = w.heap[p]?) := fun o p hp => Below.heap_alloc _ _ _ hp
  by_cases h2 : i.length < 6 + y.toNat
  · have HF : Hid (askOfF i = (AD.zero, false)) := by show askOfF i = _; unfold askOfF; rw [ey, if_pos (Or.inr h2)]
    have h2' : (i.length : Int) < 2 + y.toNat + 4 := by omega
    clear h2 hx hy ex ey
    go_enter Try.func34, Try.ntmps34
    go_wp2
    refine bodyPost_ret (v := .tuple #[.agg #[.int .i64 0, .string ⟨#[]⟩, .int .i64 0, .slice none 0 0, .slice none 0 0], .bool false]) (by simp [results, Try.results34, go_sem, *]) rfl ?_
    rw [HF.out]
    exact ⟨_, _, _, _, rfl, SliceP.nil _ _, SliceB.nil _ _, below_alloc w _, fresh_nil _, fresh_nil _⟩
  · have h2' : ¬ (i.length : Int) < 2 + y.toNat + 4 := by omega
    clear hx hy
    go_enter Try.func34, Try.ntmps34
    go_wp2_with fail
    have hi0 : 0 < i.length := by omega
    have hs1 : 0 ≤ 2 + (y.toNat : Int) ∧ 2 + (y.toNat : Int) ≤ (cap : Int) := by omega
    have hs2 : 2 ≤ max (2 + (y.toNat : Int)) 0 := by omega
    have hs9 : 2 ≤ 2 + (y.toNat : Int) := by omega
    have hs10 : 2 + (y.toNat : Int) ≤ 2 + (y.toNat : Int) + 4 := by omega
    have hs3 : ¬ cap = 2 := by omega
    have hs4 : (2 + (y.toNat : Int)).toNat = 2 + y.toNat := by omega
    have hs6 : (2 + (y.toNat : Int) + 4).toNat = 2 + y.toNat + 4 := by omega
    have hs7 : ¬ cap = 2 + y.toNat := by omega
    have hs8 : 2 + (y.toNat : Int) ≤ max (2 + (y.toNat : Int) + 4) 0 := by omega
    have hm1 : ∀ W, (∀ p, p < w.heap.size → W.heap[p]? = w.heap[p]?) → (convert 23 9 (.slice (some ⟨b0, off + 2, none⟩) y.toNat (cap - 2))).run Try.prog W = .ok (.string (bstr ((i.drop 2).take y.toNat))) W := fun W hW => by
      have := slice_mid (hb'.same hW) 2 y.toNat (by omega) (by omega)
      rw [Option.map_some, add_none] at this
      exact conv_str this
    have hm2 : ∀ o, (convert 23 9 (.slice (some ⟨b0, off + 2, none⟩) y.toNat (cap - 2))).run Try.prog (w.alloc o).drew = .ok (.string (bstr ((i.drop 2).take y.toNat))) (w.alloc o).drew := fun o => hm1 _ (wc o)
    have hm3 : ∀ o o2, (convert 23 9 (.slice (some ⟨b0, off + 2, none⟩) y.toNat (cap - 2))).run Try.prog ((w.alloc o).alloc o2).drew = .ok (.string (bstr ((i.drop 2).take y.toNat))) ((w.alloc o).alloc o2).drew := fun o o2 => hm1 _ (fun p hp => (Below.heap_alloc _ _ _ (by simp; omega)).trans (wc o p hp))
    have hn1 : ∀ W, (∀ p, p < w.heap.size → W.heap[p]? = w.heap[p]?) → Calls Try.prog 45 #[.slice (some ⟨b0, off + (2 + y.toNat), none⟩) 4 (cap - (2 + y.toNat))] W fun e w' => e = .returned (.int .i64 (int32 (valB ((i.drop (2 + y.toNat)).take 4)))) ∧ w' = W := fun W hW => by
      have := slice_mid (hb'.same hW) (2 + y.toNat) 4 (by omega) (by omega)
      rw [Option.map_some, add_none] at this
      exact fnumber_any _ _ _ W this (by simp; omega)
    have hs5 : 0 ≤ 2 + (y.toNat : Int) + 4 ∧ 2 + (y.toNat : Int) + 4 ≤ (cap : Int) := by omega
    have wd : ∀ o, (∀ p, p < w.heap.size → (w.alloc o).drew.heap[p]? = w.heap[p]?) := fun o p hp => wc o p hp
    have we : ∀ o o2, (∀ p, p < w.heap.size → ((w.alloc o).alloc o2).drew.heap[p]? = w.heap[p]?) := fun o o2 p hp => (Below.heap_alloc _ _ _ (by simp; omega)).trans (wc o p hp)
    have hw0 : IntKind.i64.wrap (x.toNat : Int) = x.toNat := wrap_small x.toNat (by omega)
    go_cut [6] (fun p wx => p = .pointer (some ⟨w.heap.size + 1, 0, none⟩) ∧ wx = ((w.alloc (.cells #[.int .i64 0, .string ⟨#[]⟩, .int .i64 0, .slice none 0 0, .slice none 0 0] 27)).alloc (.cells #[.int .i64 x.toNat, .string (bstr ((i.drop 2).take y.toNat)), .int .i64 (int32 (valB ((i.drop (2 + y.toNat)).take 4))), .slice none 0 0, .slice none 0 0] 27)).drew)
    case first =>
      go_region_law (first
        | (go_simp; go_at_call 45; refine (hn1 _ (wd _)).mono ?_; rintro e w1 ⟨rfl, rfl⟩)
        | (go_simp; go_at_call 45; refine (hn1 _ (we _ _)).mono ?_; rintro e w1 ⟨rfl, rfl⟩))
      all_goals (go_wp2_with fail; go_meet; exact ⟨rfl, rfl⟩)
    case rest =>
      obtain ⟨rfl, rfl⟩ := hcut
      obtain ⟨X, hX⟩ : ∃ X, X = ((w.alloc (.cells #[.int .i64 0, .string ⟨#[]⟩, .int .i64 0, .slice none 0 0, .slice none 0 0] 27)).alloc (.cells #[.int .i64 x.toNat, .string (bstr ((i.drop 2).take y.toNat)), .int .i64 (int32 (valB ((i.drop (2 + y.toNat)).take 4))), .slice none 0 0, .slice none 0 0] 27)).drew := ⟨_, rfl⟩
      have XB : Below w.heap.size w X := by rw [hX]; exact ((below_alloc w _).alloc (by simp) _).drew
      have XZ : X.heap.size = w.heap.size + 2 := by rw [hX]; simp
      have X6 : X.heap[w.heap.size + 1]? = some (.cells #[.int .i64 x.toNat, .string (bstr ((i.drop 2).take y.toNat)), .int .i64 (int32 (valB ((i.drop (2 + y.toNat)).take 4))), .slice none 0 0, .slice none 0 0] 27 (0, 0)) := by
        have := heap_alloc_new (w.alloc (.cells #[.int .i64 0, .string ⟨#[]⟩, .int .i64 0, .slice none 0 0, .slice none 0 0] 27)) (.cells #[.int .i64 x.toNat, .string (bstr ((i.drop 2).take y.toNat)), .int .i64 (int32 (valB ((i.drop (2 + y.toNat)).take 4))), .slice none 0 0, .slice none 0 0] 27)
        rw [World.size_alloc] at this
        rw [hX]; exact this
      have X2 : X.heap[w.heap.size]? = some (.cells #[.int .i64 0, .string ⟨#[]⟩, .int .i64 0, .slice none 0 0, .slice none 0 0] 27 (0, 0)) := by
        rw [hX]; exact (Below.heap_alloc _ _ _ (by simp)).trans (heap_alloc_new w _)
      rw [← hX]
      clear hX hm1 hm2 hm3 hn1 wd we wc
      have c0 : X.cell? ⟨w.heap.size + 1, 0, none⟩ = some (.int .i64 x.toNat) := by rw [cell_of_row X (w.heap.size + 1) 0 _ 27 (0, 0) X6]; rfl
      have HS : ∀ W, Below w.heap.size w W → ∀ sa sn sc, (cap = 2 + y.toNat + 4 ∧ sa = some (⟨b0, off, none⟩ : Addr) ∨ ¬ cap = 2 + y.toNat + 4 ∧ sa = some ⟨b0, off + (2 + y.toNat + 4), none⟩) → sn = i.length - (2 + y.toNat + 4) → sc = cap - (2 + y.toNat + 4) → SliceB W.heap.size W (.slice sa sn sc) (i.drop (6 + y.toNat)) := fun W hW sa sn sc h1 h2 h3 => by
        subst h2 h3
        exact slice_tail (hb'.below hW) (2 + y.toNat + 4) _ (by omega) h1 (by omega)
      have H6 : Hid (X.heap[w.heap.size + 1]? = some (.cells #[.int .i64 x.toNat, .string (bstr ((i.drop 2).take y.toNat)), .int .i64 (int32 (valB ((i.drop (2 + y.toNat)).take 4))), .slice none 0 0, .slice none 0 0] 27 (0, 0))) := X6
      have H2 : Hid (X.heap[w.heap.size]? = some (.cells #[.int .i64 0, .string ⟨#[]⟩, .int .i64 0, .slice none 0 0, .slice none 0 0] 27 (0, 0))) := X2
      clear X6 X2
      have hw1 : IntKind.i64.wrap (i.length : Int) = i.length := wrap_small i.length (by omega)
      have ht1 : 0 ≤ 2 + (y.toNat : Int) + 4 ∧ 2 + (y.toNat : Int) + 4 ≤ (i.length : Int) := by omega
      have ht2 : 2 + (y.toNat : Int) + 4 ≤ (i.length : Int) := by omega
      obtain ⟨N, hN⟩ : ∃ N, N = noteOfF (i.drop (6 + y.toNat)) ((x.toNat : Int) == 4) := ⟨_, rfl⟩
      have HNote : ∀ W v, SliceB W.heap.size W v (i.drop (6 + y.toNat)) → Calls Try.prog 46 #[v, .bool ((x.toNat : Int) == 4)] W fun e w' => ∃ va vc ua uc, e = .returned (.tuple #[.agg #[.slice va N.1.length vc, .slice ua N.2.1.length uc], .bool N.2.2]) ∧
          SliceP w'.heap.size w' (.slice va N.1.length vc) N.1 ∧ SliceB w'.heap.size w' (.slice ua N.2.1.length uc) N.2.1 ∧ Below W.heap.size W w' ∧ FreshV W.heap.size (.slice va N.1.length vc) ∧ FreshV W.heap.size (.slice ua N.2.1.length uc) := by
        rw [hN]; exact fun W v h => noteOf_any v _ _ W h
      have HN : Hid (N = noteOfF (i.drop (6 + y.toNat)) ((x.toNat : Int) == 4)) := hN
      clear hN
      go_upto_region 8 with fail
      go_cut [7, 8] (fun p j wx => Mid w.heap.size 27 #[.int .i64 x.toNat, .string (bstr ((i.drop 2).take y.toNat)), .int .i64 (int32 (valB ((i.drop (2 + y.toNat)).take 4))), .slice none 0 0, .slice none 0 0] #[.int .i64 0, .string ⟨#[]⟩, .int .i64 0, .slice none 0 0, .slice none 0 0] N w p j wx)
      case first =>
        by_cases hcap : cap = 2 + y.toNat + 4
        · subst hcap
          go_region_held3 (fun w' => w'.cell? ⟨w.heap.size + 1, 0, none⟩ = some (.int .i64 x.toNat)) (go_keep) (first
            | (go_at_call 46; refine (HNote _ _ (HS _ (by first | exact XB | exact XB.drew | exact (XB.alloc (by omega) _).drew) _ _ _ (by first | exact Or.inl ⟨by omega, rfl⟩ | exact Or.inr ⟨by omega, rfl⟩) (by omega) (by omega))).mono ?_; rintro e w3 ⟨va, vc, ua, uc, rfl, hv3, hu3, hb3, hp3, hq3⟩; obtain ⟨hc3, hf3⟩ := bcell hb3; have hz3 := hb3.size; simp at hz3))
          all_goals (go_wp2_with fail; go_meet; first | exact mid_first XB XZ H6.out H2.out rfl hv3 hu3 hb3 hp3 hq3 | exact mid_last XB XZ H6.out H2.out hv3 hu3 hb3 hp3 hq3)
        · go_region_held3 (fun w' => w'.cell? ⟨w.heap.size + 1, 0, none⟩ = some (.int .i64 x.toNat)) (go_keep) (first
            | (go_at_call 46; refine (HNote _ _ (HS _ (by first | exact XB | exact XB.drew | exact (XB.alloc (by omega) _).drew) _ _ _ (by first | exact Or.inl ⟨by omega, rfl⟩ | exact Or.inr ⟨by omega, rfl⟩) (by omega) (by omega))).mono ?_; rintro e w3 ⟨va, vc, ua, uc, rfl, hv3, hu3, hb3, hp3, hq3⟩; obtain ⟨hc3, hf3⟩ := bcell hb3; have hz3 := hb3.size; simp at hz3))
          all_goals (go_wp2_with fail; go_meet; first | exact mid_first XB XZ H6.out H2.out rfl hv3 hu3 hb3 hp3 hq3 | exact mid_last XB XZ H6.out H2.out hv3 hu3 hb3 hp3 hq3)
      case rest =>
        obtain ⟨pb, va, vc, ua, uc, rfl, rfl, hpb, B7, hv, hu, hp, hq, hbel, B6, B2⟩ := hcut
        have p0 := row_c B7 0
        have p1 := row_c B7 1
        have q0 := row_c B6 0
        have q1 := row_c B6 1
        have q2 := row_c B6 2
        have q3 := row_c B6 3
        have q4 := row_c B6 4
        have r0 := row_c B2 0
        have r1 := row_c B2 1
        have r2 := row_c B2 2
        have r3 := row_c B2 3
        have r4 := row_c B2 4
        simp only [List.getElem?_toArray, List.getElem?_cons_zero, List.getElem?_cons_succ] at p0 p1 q0 q1 q2 q3 q4 r0 r1 r2 r3 r4
        have f6 := row_f B6
        have f2 := row_f B2
        have n7 : pb ≠ w.heap.size := by omega
        have n8 : pb ≠ w.heap.size + 1 := by omega
        clear B7 B6 B2
        go_wp2
        refine bodyPost_ret (v := .tuple #[.agg #[.int .i64 x.toNat, .string (bstr ((i.drop 2).take y.toNat)), .int .i64 (int32 (valB ((i.drop (2 + y.toNat)).take 4))), .slice va N.1.length vc, .slice ua N.2.1.length uc], .bool N.2.2]) (by simp [results, Try.results34, go_sem, *]) rfl ?_
        have HF : askOfF i = (⟨x.toNat, bstr ((i.drop 2).take y.toNat), int32 (valB ((i.drop (2 + y.toNat)).take 4)), N.1, N.2.1⟩, N.2.2) := by
          unfold askOfF
          rw [HN.out, if_neg (by rw [ey]; omega), ex, ey]
        rw [HF]
        refine told_ask_off rfl ?_ hv hu hbel hp hq
        iterate 7 refine OffB.set ?_ (by omega) (by omega) _
        exact OffB.refl _ _
end Go.Proofs.Ytnfmidbbelgldaa
