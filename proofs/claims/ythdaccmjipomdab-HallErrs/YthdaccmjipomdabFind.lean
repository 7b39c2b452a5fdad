/-
  hall.Find tells the place of a queue.
-/
import Derived.Test.YthdaccmjipomdabEach
namespace Go.Proofs.Ythdaccmjipomdab
open Go.RowKit
set_option linter.unusedVariables false
set_option linter.unusedSimpArgs false

attribute [local go_sem ↓] Go.wp_at_zero Go.wp_at_succ

/-- Whether a queue has this name. -/
def nameB (name : ByteArray) (q : QD) : Bool := q.name.toList == name.toList
theorem bytes_inj {a b : ByteArray} (h : a.toList = b.toList) : a = b := by
  rw [ByteArray.toList_eq, ByteArray.toList_eq] at h
  exact ByteArray.ext (Array.toList_inj.1 h)
theorem nameB_eq {name : ByteArray} {q : QD} (h : nameB name q = true) : q.name = name := bytes_inj (by simpa [nameB] using h)
theorem nameB_self (q : QD) : nameB q.name q = true := by simp [nameB]
theorem nameB_no {name : ByteArray} {q : QD} (h : nameB name q = false) : q.name ≠ name := fun e => by rw [← e, nameB_self] at h; cases h

/-- The place of the first that fits; else -1. -/
def idxQ (name : ByteArray) (qs : List QD) : Int := match qs.findIdx? (nameB name) with
  | some k => (k : Int)
  | none => -1

theorem idxQ_yes (name : ByteArray) (qs : List QD) (k : Nat) (hk : k < qs.length) (hn : ∀ x ∈ qs.take k, nameB name x = false) (hp : nameB name qs[k] = true) : idxQ name qs = k := by
  have : qs.findIdx? (nameB name) = some k := by
    rw [List.findIdx?_eq_some_iff_getElem]
    refine ⟨hk, hp, fun j hj => ?_⟩
    have := hn qs[j] (by rw [List.mem_take_iff_getElem]; exact ⟨j, by omega, rfl⟩)
    simpa using this
  simp [idxQ, this]
theorem idxQ_no (name : ByteArray) (qs : List QD) (hn : ∀ x ∈ qs, nameB name x = false) : idxQ name qs = -1 := by
  have : qs.findIdx? (nameB name) = none := by
    rw [List.findIdx?_eq_none_iff]
    exact hn
  simp [idxQ, this]
theorem idxQ_cases (name : ByteArray) (qs : List QD) : (idxQ name qs = -1 ∧ ∀ x ∈ qs, nameB name x = false) ∨ ∃ k, ∃ h : k < qs.length, idxQ name qs = (k : Int) ∧ qs[k].name = name ∧ ∀ j (hj : j < k), nameB name (qs[j]'(by omega)) = false := by
  cases h : qs.findIdx? (nameB name) with
  | none =>
    rw [List.findIdx?_eq_none_iff] at h
    exact .inl ⟨idxQ_no _ _ h, h⟩
  | some k =>
    have h' := h
    rw [List.findIdx?_eq_some_iff_getElem] at h
    obtain ⟨hk, hp, hn⟩ := h
    exact .inr ⟨k, hk, by simp [idxQ, h'], nameB_eq hp, fun j hj => by simpa using hn j hj⟩

set_option maxHeartbeats 1000000 in
theorem nameIs_tells (g : Nat) (name : ByteArray) (q : QD) (a : Option Addr) (n c : Nat) (W : World) (hg : Blk W g [.string name]) :
   Calls Try.prog 59 #[.agg #[.string q.name, .int .i64 q.limit, .slice a n c], .pointer (some ⟨g, 0, none⟩)] W fun e w' => e = .returned (.bool (nameB name q)) ∧ Below W.heap.size W w' := by
  obtain ⟨c0, c1, c2⟩ := hg.b1
  obtain ⟨qn, ql, qi⟩ := q
  simp only [nameB]
  go_enter Try.func59, Try.ntmps59
  go_wp2
  go_ret
  exact ⟨rfl, below_alloc _ _⟩

theorem enter59 (args : Array Value) (W : World) : (callFunc 59 args).run Try.prog W = .ok (.enter 59 args) W := by go_simp

set_option maxRecDepth 100000 in
set_option maxHeartbeats 3200000 in
theorem indexQ_any (g : Nat) (name : ByteArray) (v : Value) (qs : List QD) (w : World) (h : SliceQ (Under w.heap.size) w v qs) (hg : Blk w g [.string name]) :
    Calls Try.prog 58 #[v, .func (.func 59) #[] #[.pointer (some ⟨g, 0, none⟩)]] w fun e w' => e = .returned (.int .i64 (idxQ name qs)) ∧ Below w.heap.size w w' := by
  have HL : Hid (SliceQ (Under w.heap.size) w v qs) := h
  have HG : Hid (Blk w g [.string name]) := hg
  have hgl := hg.lt
  obtain ⟨va, vc, rfl, h1, h2, h3⟩ := h.shape
  unfold maxLen at h2
  clear h hg
  go_enter Try.func58, Try.ntmps58
  go_wp2
  go_loopw [8] (fun i wr => ∃ k : Nat, k ≤ qs.length ∧ i = .int .i64 k ∧ Below w.heap.size w wr ∧ ∀ x ∈ qs.take k, nameB name x = false)
    (fun i _ => qs.length - (intOf i).toNat)
  case atStart => exact ⟨0, Nat.zero_le _, rfl, Below.refl _ _, by simp⟩
  case round =>
    obtain ⟨k, hk, rfl, hb, hno⟩ := hrel
    have HN : Hid (∀ x ∈ qs.take k, nameB name x = false) := hno
    clear hno
    by_cases hlt : k < qs.length
    · obtain ⟨b, off, ia, ic, rfl, hS, hq, c0, c1, c2⟩ := (SliceQ.sub (T := Under w.heap.size) HL.out (fun b hb' => ⟨hb', hb.block b hb'⟩)).at k hlt
      clear hq
      cases hp : nameB name qs[k]
      · go_wp2_with (go_at_call 59; refine (nameIs_tells g name qs[k] _ _ _ _ (HG.out.below hb hgl)).mono ?_; rw [hp]; rintro e w1 ⟨rfl, hb1⟩)
        go_roundw
        case rel =>
          refine ⟨k + 1, by omega, by go_num, hb.trans (hb1.mono hb.size), fun x hx => ?_⟩
          rw [List.take_succ_eq_append_getElem hlt, List.mem_append, List.mem_singleton] at hx
          rcases hx with hx | rfl
          · exact HN.out x hx
          · exact hp
        case measure => simp [intOf]; omega
      · go_wp2_with (go_at_call 59; refine (nameIs_tells g name qs[k] _ _ _ _ (HG.out.below hb hgl)).mono ?_; rw [hp]; rintro e w1 ⟨rfl, hb1⟩)
        go_ret
        exact ⟨ret_i64 (idxQ_yes name qs k hlt HN.out hp).symm, hb.trans (hb1.mono hb.size)⟩
    · go_wp2
      go_ret
      refine ⟨ret_i64 (idxQ_no name qs fun x hx => HN.out x ?_).symm, hb⟩
      rw [List.take_of_length_le (by omega)]; exact hx

set_option maxRecDepth 100000 in
set_option maxHeartbeats 1000000 in
theorem find_hall (name : ByteArray) (v : Value) (next : Int) (qs : List QD) (w : World) (h : SliceQ (Under w.heap.size) w v qs) :
    Calls Try.prog 16 #[.agg #[v, .int .i64 next], .string name] w fun e w' => e = .returned (.int .i64 (idxQ name qs)) ∧ Below w.heap.size w w' := by
  have HL : Hid (SliceQ (Under w.heap.size) w v qs) := h
  obtain ⟨va, vc, rfl⟩ := h.shp
  clear h
  have two : Hid (∀ o1 o2 : Obj, Below w.heap.size w ((w.alloc o1).alloc o2)) := fun o1 o2 => (below_alloc _ _).alloc (by simp) _
  go_enter Try.func16, Try.ntmps16
  go_wp2_with (go_at_call 58; refine (indexQ_any _ name _ qs _ (HL.out.sub fun k hk => ⟨?_, (two.out _ _).block k hk⟩) ?_).mono ?_; (simp [Under] at hk ⊢; omega); (have := Blk.new (w.alloc (.cells #[.slice va qs.length vc, .int .i64 next] 43)) [.string name] 9; simpa using this); rintro e w1 ⟨rfl, hb1⟩)
  go_ret
  exact ⟨rfl, (two.out _ _).trans (hb1.mono (by simp; omega))⟩
end Go.Proofs.Ythdaccmjipomdab
