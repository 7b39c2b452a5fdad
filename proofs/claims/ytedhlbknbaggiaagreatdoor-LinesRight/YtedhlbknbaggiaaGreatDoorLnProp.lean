/-
  lines.Prop answers what propF says.
-/
import Derived.Test.YtedhlbknbaggiaaGreatDoorLnValue
namespace Go.Proofs.YtedhlbknbaggiaaGreatDoor
open Go.RowKit
set_option linter.unusedVariables false
set_option linter.unusedSimpArgs false

attribute [local go_sem ↓] Go.wp_at_zero Go.wp_at_succ

def PD.zero : PD := ⟨⟨#[]⟩, 0, 0, ⟨#[]⟩⟩
def PD.val (p : PD) : Value := .agg #[.string p.key, .int .i64 p.kind, .int .i64 p.n, .string p.text]
def textP (key : ByteArray) (s : List UInt8) : Option PD := (unhexF s).map fun t => ⟨key, 2, 0, bstr t⟩
def numP (key : ByteArray) (kind : Int) (s : List UInt8) : Option PD := (numV s).map fun n => ⟨key, kind, n, ⟨#[]⟩⟩
/-- The property of a key, and a text. -/
def propV (key : ByteArray) (s : List UInt8) : Option PD :=
  if Go.Lib.hasPrefix s [36] then textP key (s.drop 1) else if Go.Lib.hasPrefix s [33] then numP key 3 (s.drop 1) else numP key 1 s
def PropAns (o : Option PD) (w : World) (e : Ending) (w' : World) : Prop := e = .returned (.tuple #[(o.getD PD.zero).val, .bool o.isSome]) ∧ Below w.heap.size w w'

theorem Blk.b4 {w : World} {b : Nat} {x0 x1 x2 x3 : Value} (h : Blk w b [x0, x1, x2, x3]) : (w.cell? ⟨b, 0, none⟩ = some x0 ∧ w.cell? ⟨b, 1, none⟩ = some x1 ∧ w.cell? ⟨b, 2, none⟩ = some x2 ∧ w.cell? ⟨b, 3, none⟩ = some x3) ∧ (∀ o, w.frozen? ⟨b, o, none⟩ = false) ∧ b < w.heap.size := ⟨⟨h.cell 0, h.cell 1, h.cell 2, h.cell 3⟩, h.f, h.lt⟩

set_option maxRecDepth 100000 in
set_option maxHeartbeats 1600000 in
theorem numProp_any (key : ByteArray) (kind : Int) (s : ByteArray) (w : World) (hl : s.size ≤ 140737488355328) (hv : Vars w) :
    Calls Tryz.prog 46 #[.string key, .int .i64 kind, .string s] w (PropAns (numP key kind s.data.toList) w) := by
  obtain ⟨o, ho⟩ : ∃ o, o = numV s.data.toList := ⟨_, rfl⟩
  have P : Hid (∀ W : World, Below w.heap.size w W → Calls Tryz.prog 9 #[.string s] W (NumAns o W)) := fun W hW => by
    rw [ho]
    exact number_any s W (by omega) (hv.on hW)
  unfold numP
  rw [← ho]
  clear ho hv
  unfold PropAns
  unfold NumAns at P
  cases o with
  | none =>
    go_enter Tryz.func46, Tryz.ntmps46
    go_wp2_with (first
      | (go_at_call 9; refine (P.out _ (by first | exact Below.refl _ _ | exact below_alloc _ _ | exact (below_alloc _ _).alloc (by simp) _)).mono ?_; rintro e w2 ⟨rfl, hb2⟩; have H2 : Hid (Below w.heap.size w w2) := (below_alloc _ _).trans (hb2.mono (by simp)); obtain ⟨⟨c0, c1, c2, c3⟩, cf, cz⟩ := ((Blk.new w [.string ⟨#[]⟩, .int .i64 0, .int .i64 0, .string ⟨#[]⟩] 36).below hb2 (by simp)).b4; clear hb2)
      | fail)
    refine bodyPost_ret (v := .tuple #[PD.zero.val, .bool false]) (by simp [results, Tryz.results46, go_sem, PD.val, PD.zero, *]; done) rfl ⟨rfl, ?_⟩
    exact (((H2.out.setCell (Nat.le_refl _) _).setCell (Nat.le_refl _) _).setCell (Nat.le_refl _) _).setCell (Nat.le_refl _) _
  | some n =>
    go_enter Tryz.func46, Tryz.ntmps46
    go_wp2_with (first
      | (go_at_call 9; refine (P.out _ (by first | exact Below.refl _ _ | exact below_alloc _ _ | exact (below_alloc _ _).alloc (by simp) _)).mono ?_; rintro e w2 ⟨rfl, hb2⟩; have H2 : Hid (Below w.heap.size w w2) := (below_alloc _ _).trans (hb2.mono (by simp)); obtain ⟨⟨c0, c1, c2, c3⟩, cf, cz⟩ := ((Blk.new w [.string ⟨#[]⟩, .int .i64 0, .int .i64 0, .string ⟨#[]⟩] 36).below hb2 (by simp)).b4; clear hb2)
      | fail)
    refine bodyPost_ret (v := .tuple #[PD.val ⟨key, kind, n, ⟨#[]⟩⟩, .bool true]) (by simp [results, Tryz.results46, go_sem, PD.val, PD.zero, *]; done) rfl ⟨rfl, ?_⟩
    exact (((H2.out.setCell (Nat.le_refl _) _).setCell (Nat.le_refl _) _).setCell (Nat.le_refl _) _).setCell (Nat.le_refl _) _

set_option maxRecDepth 100000 in
set_option maxHeartbeats 1600000 in
theorem textProp_any (key : ByteArray) (s : ByteArray) (w : World) (hl : s.size ≤ 140737488355328) :
    Calls Tryz.prog 45 #[.string key, .string s] w (PropAns (textP key s.data.toList) w) := by
  obtain ⟨o, ho⟩ : ∃ o, o = unhexF s.data.toList := ⟨_, rfl⟩
  have P : Hid (∀ W : World, Calls Tryz.prog 11 #[.string s] W fun e w' => (∃ v, e = .returned (.tuple #[v, .bool o.isSome]) ∧ w'.ownsRow W.heap.size 5 1 v (o.getD []).length (u8s (o.getD []))) ∧ Below W.heap.size W w') := fun W => by
    rw [ho]
    exact unhex_any s W hl
  unfold textP
  rw [← ho]
  clear ho
  unfold PropAns
  cases o with
  | none =>
    go_enter Tryz.func45, Tryz.ntmps45
    go_wp2_with (first
      | (go_at_call 11; refine (P.out _).mono ?_; rintro e w2 ⟨⟨v, rfl, hown⟩, hb2⟩; have H2 : Hid (Below w.heap.size w w2) := (below_alloc _ _).trans (hb2.mono (by simp)); obtain ⟨⟨c0, c1, c2, c3⟩, cf, cz⟩ := ((Blk.new w [.string ⟨#[]⟩, .int .i64 0, .int .i64 0, .string ⟨#[]⟩] 36).below hb2 (by simp)).b4; clear hb2)
      | fail)
    refine bodyPost_ret (v := .tuple #[PD.zero.val, .bool false]) (by simp [results, Tryz.results45, go_sem, PD.val, PD.zero, *]; done) rfl ⟨rfl, ?_⟩
    exact (((H2.out.setCell (Nat.le_refl _) _).setCell (Nat.le_refl _) _).setCell (Nat.le_refl _) _).setCell (Nat.le_refl _) _
  | some l =>
    go_enter Tryz.func45, Tryz.ntmps45
    go_wp2_with (first
      | (go_at_call 11; refine (P.out _).mono ?_; rintro e w2 ⟨⟨v, rfl, hown⟩, hb2⟩; have H2 : Hid (Below w.heap.size w w2) := (below_alloc _ _).trans (hb2.mono (by simp)); obtain ⟨⟨c0, c1, c2, c3⟩, cf, cz⟩ := ((Blk.new w [.string ⟨#[]⟩, .int .i64 0, .int .i64 0, .string ⟨#[]⟩] 36).below hb2 (by simp)).b4; have hcv := conv_str (own_bytes hown rfl); simp only [Option.getD_some] at hcv; clear hb2)
      | fail)
    refine bodyPost_ret (v := .tuple #[PD.val ⟨key, 2, 0, bstr l⟩, .bool true]) (by simp [results, Tryz.results45, go_sem, PD.val, PD.zero, *]; done) rfl ⟨rfl, ?_⟩
    exact (((H2.out.setCell (Nat.le_refl _) _).setCell (Nat.le_refl _) _).setCell (Nat.le_refl _) _).setCell (Nat.le_refl _) _

theorem hasPrefix_one (s : List UInt8) (c : UInt8) (h : Go.Lib.hasPrefix s [c] = true) : Go.Lib.trimPrefix s [c] = s.drop 1 := by
  unfold Go.Lib.trimPrefix
  rw [if_pos h]
  rfl
theorem bstr_data (l : List UInt8) : (bstr l).data.toList = l := by simp [bstr]

/-- A first byte cut off. -/
theorem cutOne (s : ByteArray) (c : UInt8) (W : World) : Calls Tryz.prog 44 #[.string s, .string ⟨#[c]⟩] W fun e w' => e = .returned (.tuple #[.string (if Go.Lib.hasPrefix s.data.toList [c] then bstr (s.data.toList.drop 1) else s), .bool (Go.Lib.hasPrefix s.data.toList [c])]) ∧ w' = W := by
  refine (Sh.strings_CutPrefix s ⟨#[c]⟩ W).mono fun e w' ⟨he, hw⟩ => ⟨?_, hw⟩
  rw [he]
  show Ending.returned (.tuple #[.string ⟨(Go.Lib.trimPrefix s.data.toList [c]).toArray⟩, .bool (Go.Lib.hasPrefix s.data.toList [c])]) = _
  cases h : Go.Lib.hasPrefix s.data.toList [c] with
  | true => rw [hasPrefix_one _ _ h]; rfl
  | false =>
    unfold Go.Lib.trimPrefix
    rw [h]
    simp
set_option maxRecDepth 100000 in
set_option maxHeartbeats 1600000 in
theorem prop_any (key : ByteArray) (s : ByteArray) (w : World) (hl : s.size ≤ 140737488355328) (hv : Vars w) :
    Calls Tryz.prog 13 #[.string key, .string s] w (PropAns (propV key s.data.toList) w) := by
  have HV : Hid (Vars w) := hv
  have C1 := cutOne s 36
  have C2 := cutOne s 33
  unfold propV
  cases h1 : Go.Lib.hasPrefix s.data.toList [36] with
  | true =>
    rw [h1] at C1
    rw [if_pos rfl]
    obtain ⟨o, ho⟩ : ∃ o, o = textP key (s.data.toList.drop 1) := ⟨_, rfl⟩
    obtain ⟨x, hx⟩ : ∃ x, x = bstr (s.data.toList.drop 1) := ⟨_, rfl⟩
    have P : Hid (∀ W : World, Calls Tryz.prog 45 #[.string key, .string x] W (PropAns o W)) := fun W => by
      have := textProp_any key (bstr (s.data.toList.drop 1)) W (by rw [bstr_size, List.length_drop, size_data]; omega)
      rw [bstr_data] at this
      rw [hx, ho]
      exact this
    rw [if_pos rfl, ← hx] at C1
    have C : Hid (∀ W : World, Calls Tryz.prog 44 #[.string s, .string ⟨#[36]⟩] W fun e w' => e = .returned (.tuple #[.string x, .bool true]) ∧ w' = W) := C1
    rw [← ho]
    clear ho hv hx C1 C2 h1
    unfold PropAns at P ⊢
    unfold PD.val at P ⊢
    go_enter Tryz.func13, Tryz.ntmps13
    go_wp2_with (first
      | (go_at_call 44; refine (C.out _).mono ?_; rintro e w' ⟨rfl, hw⟩; rw [hw]; clear hw w')
      | (go_at_call 45; refine (P.out _).mono ?_; rintro e w2 ⟨rfl, hb2⟩; have H2 : Hid (Below w.heap.size w w2) := (below_alloc _ _).trans (hb2.mono (by simp)); obtain ⟨⟨c0, c1, c2, c3⟩, cf, cz⟩ := ((Blk.new w [.string ⟨#[]⟩, .int .i64 0, .int .i64 0, .string ⟨#[]⟩] 36).below hb2 (by simp)).b4; clear hb2)
      | fail)
    refine bodyPost_ret (v := .tuple #[(o.getD PD.zero).val, .bool o.isSome]) (by simp [results, Tryz.results13, go_sem, PD.val, *]; done) rfl ⟨rfl, ?_⟩
    exact (((H2.out.setCell (Nat.le_refl _) _).setCell (Nat.le_refl _) _).setCell (Nat.le_refl _) _).setCell (Nat.le_refl _) _
  | false =>
    rw [h1] at C1
    rw [if_neg (by simp)]
    rw [if_neg (by simp)] at C1
    have CA : Hid (∀ W : World, Calls Tryz.prog 44 #[.string s, .string ⟨#[36]⟩] W fun e w' => e = .returned (.tuple #[.string s, .bool false]) ∧ w' = W) := C1
    cases h2 : Go.Lib.hasPrefix s.data.toList [33] with
    | true =>
      rw [h2] at C2
      rw [if_pos rfl]
      obtain ⟨o, ho⟩ : ∃ o, o = numP key 3 (s.data.toList.drop 1) := ⟨_, rfl⟩
      obtain ⟨x, hx⟩ : ∃ x, x = bstr (s.data.toList.drop 1) := ⟨_, rfl⟩
      have P : Hid (∀ W : World, Below w.heap.size w W → Calls Tryz.prog 46 #[.string key, .int .i64 3, .string x] W (PropAns o W)) := fun W hW => by
        have := numProp_any key 3 (bstr (s.data.toList.drop 1)) W (by rw [bstr_size, List.length_drop, size_data]; omega) (HV.out.on hW)
        rw [bstr_data] at this
        rw [hx, ho]
        exact this
      rw [if_pos rfl, ← hx] at C2
      have CB : Hid (∀ W : World, Calls Tryz.prog 44 #[.string s, .string ⟨#[33]⟩] W fun e w' => e = .returned (.tuple #[.string x, .bool true]) ∧ w' = W) := C2
      rw [← ho]
      clear ho hv hx C1 C2 h1 h2
      unfold PropAns at P ⊢
      unfold PD.val at P ⊢
      have n1 : Hid True := trivial
      go_enter Tryz.func13, Tryz.ntmps13
      go_wp2_with (first
        | (clear n1; go_at_call 44; refine (CA.out _).mono ?_; rintro e w' ⟨rfl, hw⟩; rw [hw]; clear hw w')
        | (go_at_call 44; refine (CB.out _).mono ?_; rintro e w' ⟨rfl, hw⟩; rw [hw]; clear hw w')
        | (go_at_call 46; refine (P.out _ (below_alloc _ _)).mono ?_; rintro e w2 ⟨rfl, hb2⟩; have H2 : Hid (Below w.heap.size w w2) := (below_alloc _ _).trans (hb2.mono (by simp)); obtain ⟨⟨c0, c1, c2, c3⟩, cf, cz⟩ := ((Blk.new w [.string ⟨#[]⟩, .int .i64 0, .int .i64 0, .string ⟨#[]⟩] 36).below hb2 (by simp)).b4; clear hb2)
        | fail)
      refine bodyPost_ret (v := .tuple #[(o.getD PD.zero).val, .bool o.isSome]) (by simp [results, Tryz.results13, go_sem, PD.val, *]; done) rfl ⟨rfl, ?_⟩
      exact (((H2.out.setCell (Nat.le_refl _) _).setCell (Nat.le_refl _) _).setCell (Nat.le_refl _) _).setCell (Nat.le_refl _) _
    | false =>
      rw [h2] at C2
      rw [if_neg (by simp)]
      rw [if_neg (by simp)] at C2
      obtain ⟨o, ho⟩ : ∃ o, o = numP key 1 s.data.toList := ⟨_, rfl⟩
      have P : Hid (∀ W : World, Below w.heap.size w W → Calls Tryz.prog 46 #[.string key, .int .i64 1, .string s] W (PropAns o W)) := fun W hW => by
        rw [ho]
        exact numProp_any key 1 s W hl (HV.out.on hW)
      have CB : Hid (∀ W : World, Calls Tryz.prog 44 #[.string s, .string ⟨#[33]⟩] W fun e w' => e = .returned (.tuple #[.string s, .bool false]) ∧ w' = W) := C2
      rw [← ho]
      clear ho hv C1 C2 h1 h2
      unfold PropAns at P ⊢
      unfold PD.val at P ⊢
      have n1 : Hid True := trivial
      go_enter Tryz.func13, Tryz.ntmps13
      go_wp2_with (first
        | (clear n1; go_at_call 44; refine (CA.out _).mono ?_; rintro e w' ⟨rfl, hw⟩; rw [hw]; clear hw w')
        | (go_at_call 44; refine (CB.out _).mono ?_; rintro e w' ⟨rfl, hw⟩; rw [hw]; clear hw w')
        | (go_at_call 46; refine (P.out _ (below_alloc _ _)).mono ?_; rintro e w2 ⟨rfl, hb2⟩; have H2 : Hid (Below w.heap.size w w2) := (below_alloc _ _).trans (hb2.mono (by simp)); obtain ⟨⟨c0, c1, c2, c3⟩, cf, cz⟩ := ((Blk.new w [.string ⟨#[]⟩, .int .i64 0, .int .i64 0, .string ⟨#[]⟩] 36).below hb2 (by simp)).b4; clear hb2)
        | fail)
      refine bodyPost_ret (v := .tuple #[(o.getD PD.zero).val, .bool o.isSome]) (by simp [results, Tryz.results13, go_sem, PD.val, *]; done) rfl ⟨rfl, ?_⟩
      exact (((H2.out.setCell (Nat.le_refl _) _).setCell (Nat.le_refl _) _).setCell (Nat.le_refl _) _).setCell (Nat.le_refl _) _
end Go.Proofs.YtedhlbknbaggiaaGreatDoor
