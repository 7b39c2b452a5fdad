/-
  NtMath; SameH: texts laid together.
-/
import Derived.Test.YtkddkpdfeeikhaaJShortProofM17
import Derived.Test.YtkddkpdfeeikhaaJShortProofM27
import Derived.Test.YtkddkpdfeeikhaaJShortProofM09
/-
  There, and back: parseF of what bytesF writes, whatever stands behind; what parseF reads bytesF writes.
-/
namespace Go.Proofs.Ytkddkpdfeeikhaa.NT
open Go.RowKit
set_option linter.unusedVariables false
set_option linter.unusedSimpArgs false

theorem below_alloc (w : World) (o : Obj) : Below w.heap.size w (w.alloc o) := (Below.refl _ _).alloc (Nat.le_refl _) _
theorem ba_toList {a b : ByteArray} : a.toList = b.toList ↔ a = b := by
  rw [ByteArray.toList_eq, ByteArray.toList_eq]
  constructor
  · intro h
    obtain ⟨⟨x⟩⟩ := a
    obtain ⟨⟨y⟩⟩ := b
    simp only at h
    rw [h]
  · intro h; rw [h]


theorem takeF_go (n : Nat) (x r : List UInt8) (h : x.length = n) : takeF n (x ++ r, false) = (x, (r, false)) := by
  unfold takeF
  rw [if_neg (by simp; omega)]
  simp [← h]
theorem sizeF_go (c : UInt8) (r : List UInt8) : sizeF (c :: r, false) = (c.toNat, (r, false)) := by
  have h := takeF_go 1 [c] r rfl
  rw [List.singleton_append] at h
  unfold sizeF
  rw [h]; rfl
theorem bstr_of (s : ByteArray) : bstr s.data.toList = s := by
  obtain ⟨⟨x⟩⟩ := s; rfl
theorem u8_ofNat (n : Nat) (h : n ≤ 255) : (UInt8.ofNat n).toNat = n := by have := byte_of n h; omega
theorem textF_go (s : ByteArray) (r : List UInt8) (h : s.size ≤ 255) : textF (txt s ++ r, false) = (s, (r, false)) := by
  have h1 : sizeF (txt s ++ r, false) = (s.size, (s.data.toList ++ r, false)) := by
    have := sizeF_go (UInt8.ofNat s.size) (s.data.toList ++ r)
    rw [u8_ofNat _ h] at this
    exact this
  unfold textF
  rw [h1, takeF_go _ _ _ (size_list s)]
  simp [bstr_of]

theorem num4_val (n : Int) : (valB (num4 n) : Int) = n % 4294967296 := by
  simp only [valB, num4, List.foldl_cons, List.foldl_nil]
  have b1 := byteI (n % 4294967296 / 16777216) (by omega) (by omega)
  have b2 := byteI (n % 4294967296 / 65536 % 256) (by omega) (by omega)
  have b3 := byteI (n % 4294967296 / 256 % 256) (by omega) (by omega)
  have b4 := byteI (n % 256) (by omega) (by omega)
  generalize (UInt8.ofNat (n % 4294967296 / 16777216).toNat).toNat = a at *
  generalize (UInt8.ofNat (n % 4294967296 / 65536 % 256).toNat).toNat = b at *
  generalize (UInt8.ofNat (n % 4294967296 / 256 % 256).toNat).toNat = c at *
  generalize (UInt8.ofNat (n % 256).toNat).toNat = d at *
  omega
theorem numberF_go (n : Int) (r : List UInt8) (h0 : -2147483648 ≤ n) (h1 : n ≤ 2147483647) : numberF (num4 n ++ r, false) = (n, (r, false)) := by
  unfold numberF
  rw [takeF_go 4 _ _ rfl]
  simp only [num4_val, int32]
  congr 1
  split <;> omega

theorem rangeB_bd (kind n : Int) (hk : kind = 1 ∨ kind = 3) (h : rangeB kind n = true) : -2147483648 ≤ n ∧ n ≤ 2147483647 := by
  rcases hk with rfl | rfl
  · simp [rangeB] at h; omega
  · simp [rangeB] at h; omega

/-- What a right property is. -/
theorem right_prop (p : PD) (h : p.wrong = 0) : p.small ∧ ((p.kind = 2 ∧ p.n = 0) ∨ (p.kind ≠ 2 ∧ p.text = ByteArray.empty ∧ -2147483648 ≤ p.n ∧ p.n ≤ 2147483647)) := by
  unfold PD.wrong wrongP at h
  split at h; · simp at h
  split at h; · simp at h
  split at h; · simp at h
  split at h; · simp at h
  split at h; · simp at h
  rename_i h1 h2 h3 h4 h5
  have hk : p.kind = 1 ∨ p.kind = 2 ∨ p.kind = 3 := by
    simp [kindB] at h2
    by_cases a : p.kind = 1
    · exact .inl a
    · by_cases b : p.kind = 2
      · exact .inr (.inl b)
      · exact .inr (.inr (h2 a b))
  have hkey : p.key.size ≤ 8 := by
    simp [keyB] at h1; exact h1.1.2
  refine ⟨⟨hkey, by omega, by omega, fun e => ?_⟩, ?_⟩
  · simp [e] at h4; exact h4
  · by_cases e : p.kind = 2
    · left
      refine ⟨e, ?_⟩
      simp [strayB, e] at h5; exact h5
    · right
      have ht : p.text.toList = [] := by simp [strayB, e] at h5; exact h5
      refine ⟨e, ?_, rangeB_bd p.kind p.n (by omega) (by simpa using h3)⟩
      exact ba_toList.1 (by rw [ht, ByteArray.toList_eq]; rfl)

theorem propF_go (p : PD) (r : List UInt8) (h : p.wrong = 0) : propF (propB p ++ r, false) = (p, (r, false)) := by
  obtain ⟨⟨h1, h2, h3, h4⟩, h5⟩ := right_prop p h
  have ht : ∀ r', textF (txt p.key ++ r', false) = (p.key, (r', false)) := fun r' => textF_go p.key r' (by omega)
  have hsz : ∀ r', sizeF (UInt8.ofNat p.kind.toNat :: r', false) = (p.kind.toNat, (r', false)) := fun r' => by
    rw [sizeF_go, u8_ofNat _ (by omega)]
  rcases h5 with ⟨e, hn⟩ | ⟨e, htx, n0, n1⟩
  · have e1 : propB p ++ r = txt p.key ++ (UInt8.ofNat p.kind.toNat :: (txt p.text ++ r)) := by simp [propB, e]
    unfold propF
    rw [e1, ht]
    simp only [hsz, textF_go p.text r (by have := h4 e; omega)]
    rw [if_pos (by omega)]
    obtain ⟨k, kd, n, t⟩ := p
    simp only at e hn
    subst e hn
    rfl
  · have e1 : propB p ++ r = txt p.key ++ (UInt8.ofNat p.kind.toNat :: (num4 p.n ++ r)) := by simp [propB, e]
    unfold propF
    rw [e1, ht]
    simp only [hsz, numberF_go p.n r n0 n1]
    rw [if_neg (by omega)]
    obtain ⟨k, kd, n, t⟩ := p
    simp only at htx h2
    subst htx
    simp only [Prod.mk.injEq, PD.mk.injEq, true_and, and_true]
    omega

theorem wrongL_zero (ps : List PD) (h : wrongL ps = 0) : ∀ p ∈ ps, p.wrong = 0 := by
  induction ps with
  | nil => intro p hp; simp at hp
  | cons q r ih =>
    intro p hp
    rw [wrongL] at h
    by_cases hq : q.wrong = 0
    · simp [hq] at h
      simp only [List.mem_cons] at hp
      rcases hp with rfl | hp
      · exact hq
      · exact ih h p hp
    · simp [hq] at h
theorem wrongN_zero (ps : List PD) (n : Nat) (h : wrongN ps n = 0) : ps.length ≤ 4 ∧ (∀ p ∈ ps, p.wrong = 0) ∧ n ≤ 40 := by
  unfold wrongN at h
  split at h
  · simp at h
  · split at h
    · split at h
      · simp at h
      · rename_i h1 h2 h3
        exact ⟨by omega, wrongL_zero ps (eqb h2), by omega⟩
    · rename_i h1 h2
      exact absurd h (by simpa using h2)

theorem propsB_cons (p : PD) (r : List PD) : propsB (p :: r) = propB p ++ propsB r := by simp [propsB]
theorem propsF_go (ps : List PD) (r : List UInt8) (h : ∀ p ∈ ps, p.wrong = 0) (k : Nat) (hk : k ≤ ps.length) : propsF k (propsB ps ++ r, false) = (ps.take k, (propsB (ps.drop k) ++ r, false)) := by
  induction k with
  | zero => simp [propsF]
  | succ k ih =>
    rw [propsF, ih (by omega)]
    have hlt : k < ps.length := by omega
    have e : propsB (ps.drop k) ++ r = propB ps[k] ++ (propsB (ps.drop (k + 1)) ++ r) := by
      rw [List.drop_eq_getElem_cons hlt, propsB_cons, List.append_assoc]
    simp only [e, propF_go ps[k] _ (h _ (List.getElem_mem _))]
    rw [List.take_succ_eq_append_getElem hlt]

/-- THERE, AND BACK, whatever stands behind. -/
theorem parse_there (ps : List PD) (body r : List UInt8) (h : wrongN ps body.length = 0) : parseF (bytesF ps body ++ r) = (0, ps, body, (bytesF ps body).length) := by
  obtain ⟨h1, h2, h3⟩ := wrongN_zero ps _ h
  have e0 : bytesF ps body ++ r = UInt8.ofNat ps.length :: (propsB ps ++ (UInt8.ofNat body.length :: (body ++ r))) := by simp [bytesF]
  have hs : sizeF (bytesF ps body ++ r, false) = (ps.length, (propsB ps ++ (UInt8.ofNat body.length :: (body ++ r)), false)) := by
    rw [e0, sizeF_go, u8_ofNat _ (by omega)]
  have hn : noteF ps.length (propsB ps ++ (UInt8.ofNat body.length :: (body ++ r)), false) = (ps, body, (r, false)) := by
    unfold noteF
    rw [propsF_go ps _ h2 ps.length (Nat.le_refl _)]
    simp only [List.take_length, List.drop_length]
    have e2 : propsB [] ++ UInt8.ofNat body.length :: (body ++ r) = UInt8.ofNat body.length :: (body ++ r) := rfl
    rw [e2, sizeF_go, u8_ofNat _ (by omega)]
    simp only [takeF_go body.length body r rfl]
  unfold parseF
  rw [hs]
  simp only [hn]
  have h4 : ¬ 4 < ps.length := by omega
  simp [h4, h]

theorem takeF_back (n : Nat) (s) (h : (takeF n s).2.2 = false) : s.2 = false ∧ s.1 = (takeF n s).1 ++ (takeF n s).2.1 ∧ (takeF n s).1.length = n := by
  have hl := takeF_len n s h
  unfold takeF at h hl ⊢
  split at h
  · simp at h
  · rename_i hc
    rw [if_neg hc] at hl ⊢
    refine ⟨?_, by simp, hl⟩
    cases hs : s.2
    · rfl
    · simp [hs] at hc
theorem sizeF_snd (s) : (sizeF s).2 = (takeF 1 s).2 := by unfold sizeF; split <;> rfl
theorem ofNat_toNat (c : UInt8) : UInt8.ofNat c.toNat = c := by simp
theorem sizeF_back (s) (h : (sizeF s).2.2 = false) : s.2 = false ∧ s.1 = UInt8.ofNat (sizeF s).1 :: (sizeF s).2.1 := by
  rw [sizeF_snd] at h
  obtain ⟨h1, h2, h3⟩ := takeF_back 1 s h
  refine ⟨h1, ?_⟩
  have e : (sizeF s).1 = ((takeF 1 s).1.headD 0).toNat := by unfold sizeF; rw [if_neg (by rw [h]; simp)]
  rw [e, ofNat_toNat, sizeF_snd]
  match hx : (takeF 1 s).1, h3 with
  | [c], _ =>
    rw [hx] at h2
    simpa using h2
theorem textF_back (s) (h : (textF s).2.2 = false) : s.2 = false ∧ s.1 = txt (textF s).1 ++ (textF s).2.1 := by
  obtain ⟨h1, h2, h3⟩ := takeF_back (sizeF s).1 (sizeF s).2 h
  obtain ⟨h4, h5⟩ := sizeF_back s h1
  refine ⟨h4, ?_⟩
  rw [h5, h2]
  unfold textF txt
  simp [bstr_size, bstr_data, h3]

theorem num4_of (a b c d : UInt8) : num4 (int32 (valB [a, b, c, d])) = [a, b, c, d] := by
  have ha := a.toNat_lt; have hb := b.toNat_lt; have hc := c.toNat_lt; have hd := d.toNat_lt
  simp only [valB, List.foldl_cons, List.foldl_nil, Nat.zero_mul, Nat.zero_add]
  have key : ∀ x : Int, int32 x % 4294967296 = x % 4294967296 := by intro x; unfold int32; split <;> omega
  have key2 : ∀ x : Int, int32 x % 256 = x % 256 := by intro x; unfold int32; split <;> omega
  unfold num4
  rw [key, key2]
  have e1 : ((((a.toNat * 256 + b.toNat) * 256 + c.toNat) * 256 + d.toNat : Nat) : Int) % 4294967296 / 16777216 = a.toNat := by omega
  have e2 : ((((a.toNat * 256 + b.toNat) * 256 + c.toNat) * 256 + d.toNat : Nat) : Int) % 4294967296 / 65536 % 256 = b.toNat := by omega
  have e3 : ((((a.toNat * 256 + b.toNat) * 256 + c.toNat) * 256 + d.toNat : Nat) : Int) % 4294967296 / 256 % 256 = c.toNat := by omega
  have e4 : ((((a.toNat * 256 + b.toNat) * 256 + c.toNat) * 256 + d.toNat : Nat) : Int) % 256 = d.toNat := by omega
  rw [e1, e2, e3, e4]
  simp
theorem numberF_back (s) (h : (numberF s).2.2 = false) : s.2 = false ∧ s.1 = num4 (numberF s).1 ++ (numberF s).2.1 := by
  obtain ⟨h1, h2, h3⟩ := takeF_back 4 s h
  refine ⟨h1, ?_⟩
  unfold numberF
  simp only
  match hx : (takeF 4 s).1, h3 with
  | [a, b, c, d], _ => rw [num4_of, ← hx]; exact h2
theorem propF_back (s) (h : (propF s).2.2 = false) : s.2 = false ∧ s.1 = propB (propF s).1 ++ (propF s).2.1 := by
  unfold propF at h ⊢
  split at h
  · rename_i hk
    rw [if_pos hk]
    simp only at h ⊢
    obtain ⟨h1, h2⟩ := textF_back _ h
    obtain ⟨h3, h4⟩ := sizeF_back _ h1
    obtain ⟨h5, h6⟩ := textF_back _ h3
    refine ⟨h5, ?_⟩
    rw [h6, h4, h2, hk]
    simp [propB]
  · rename_i hk
    rw [if_neg hk]
    simp only at h ⊢
    obtain ⟨h1, h2⟩ := numberF_back _ h
    obtain ⟨h3, h4⟩ := sizeF_back _ h1
    obtain ⟨h5, h6⟩ := textF_back _ h3
    refine ⟨h5, ?_⟩
    rw [h6, h4, h2]
    have : ¬ ((sizeF (textF s).2).1 : Int) = 2 := by omega
    simp [propB, this]
theorem propsB_append (a b : List PD) : propsB (a ++ b) = propsB a ++ propsB b := by simp [propsB]
theorem propsF_back (k : Nat) (s) (h : (propsF k s).2.2 = false) : s.2 = false ∧ s.1 = propsB (propsF k s).1 ++ (propsF k s).2.1 := by
  induction k with
  | zero => exact ⟨h, rfl⟩
  | succ k ih =>
    rw [propsF] at h
    obtain ⟨h1, h2⟩ := propF_back _ h
    obtain ⟨h3, h4⟩ := ih h1
    refine ⟨h3, ?_⟩
    rw [h4, h2, propsF, propsB_append]
    simp [propsB]
theorem noteF_back (k : Nat) (s) (h : (noteF k s).2.2.2 = false) : s.2 = false ∧ s.1 = propsB (noteF k s).1 ++ (UInt8.ofNat (noteF k s).2.1.length :: (noteF k s).2.1 ++ (noteF k s).2.2.1) := by
  obtain ⟨h1, h2, h3⟩ := takeF_back _ _ h
  obtain ⟨h4, h5⟩ := sizeF_back _ h1
  obtain ⟨h6, h7⟩ := propsF_back _ _ h4
  refine ⟨h6, ?_⟩
  rw [h7, h5, h2]
  unfold noteF
  simp [h3]

/-- Bytes that are read are the note's own. -/
theorem parse_back (b : List UInt8) (h : (parseF b).1 = 0) : wrongN (parseF b).2.1 (parseF b).2.2.1.length = 0 ∧ 2 ≤ (parseF b).2.2.2 ∧ (parseF b).2.2.2 ≤ b.length ∧ bytesF (parseF b).2.1 (parseF b).2.2.1 = b.take (parseF b).2.2.2 := by
  unfold parseF at h ⊢
  split at h
  · simp at h
  · rename_i h1
    split at h
    · simp at h
    · rename_i h2
      split at h
      · simp at h
      · rename_i h3
        split at h
        · rename_i h4
          rw [if_neg h1, if_neg h2, if_neg h3, if_pos h4]
          simp only
          have hs1 : (sizeF (b, false)).2.2 = false := by simpa using h1
          have hs3 : (noteF (sizeF (b, false)).1 (sizeF (b, false)).2).2.2.2 = false := by simpa using h3
          obtain ⟨_, e1⟩ := sizeF_back _ hs1
          obtain ⟨_, e2⟩ := noteF_back _ _ hs3
          have hl : (noteF (sizeF (b, false)).1 (sizeF (b, false)).2).1.length = (sizeF (b, false)).1 := propsF_len _ _
          simp only at e1
          have e3 : b = bytesF (noteF (sizeF (b, false)).1 (sizeF (b, false)).2).1 (noteF (sizeF (b, false)).1 (sizeF (b, false)).2).2.1 ++ (noteF (sizeF (b, false)).1 (sizeF (b, false)).2).2.2.1 := by
            rw [e2] at e1
            rw [bytesF, hl]
            simpa using e1
          have e4 : b.length - (noteF (sizeF (b, false)).1 (sizeF (b, false)).2).2.2.1.length = (bytesF (noteF (sizeF (b, false)).1 (sizeF (b, false)).2).1 (noteF (sizeF (b, false)).1 (sizeF (b, false)).2).2.1).length := by
            have := congrArg List.length e3
            rw [List.length_append] at this
            omega
          have e5 : 2 ≤ (bytesF (noteF (sizeF (b, false)).1 (sizeF (b, false)).2).1 (noteF (sizeF (b, false)).1 (sizeF (b, false)).2).2.1).length := by
            simp [bytesF]; omega
          refine ⟨eqb h4, by omega, by omega, ?_⟩
          rw [e4]
          have tk : ∀ x y : List UInt8, b = x ++ y → x = b.take x.length := by intro x y h; rw [h]; simp
          exact tk _ _ e3
        · rename_i h4
          exact absurd h (by simpa using h4)
end Go.Proofs.Ytkddkpdfeeikhaa.NT

/-
  tgref1.SameHall and SameEntries answer true where both read the same.
-/
namespace Go.Proofs.Ytkddkpdfeeikhaa
open Go.RowKit
set_option linter.unusedVariables false
set_option linter.unusedSimpArgs false

attribute [local go_sem ↓] Go.wp_at_zero Go.wp_at_succ

theorem SliceQ.up' {w w' : World} {v : Value} {qs : List QD} (h : SliceQ (Under w.heap.size) w v qs) (hb : Below w.heap.size w w') : SliceQ (Under w'.heap.size) w' v qs :=
  h.sub fun k hk => ⟨Nat.lt_of_lt_of_le hk hb.size, hb.block k hk⟩
theorem SliceE.up' {w w' : World} {v : Value} {es : List ED} (h : SliceE (Under w.heap.size) w v es) (hb : Below w.heap.size w w') : SliceE (Under w'.heap.size) w' v es :=
  h.sub fun k hk => ⟨Nat.lt_of_lt_of_le hk hb.size, hb.block k hk⟩

set_option maxRecDepth 100000 in
set_option maxHeartbeats 3200000 in
theorem sameHall_true (v v' : Value) (h : HD) (hsm : smallQ h.queues) (w : World) (hv : SliceQ (Under w.heap.size) w v h.queues) (hv' : SliceQ (Under w.heap.size) w v' h.queues) :
    Calls Try.prog 11 #[.agg #[v, .int .i64 h.next], .agg #[v', .int .i64 h.next]] w fun e w' => e = .returned (.bool true) ∧ Below w.heap.size w w' := by
  obtain ⟨qs, next⟩ := h
  simp only at hsm hv hv' ⊢
  have HV : Hid (SliceQ (Under w.heap.size) w v qs) := hv
  have HV' : Hid (SliceQ (Under w.heap.size) w v' qs) := hv'
  have HS : Hid (smallQ qs) := hsm
  have hlen := hsm.1
  obtain ⟨va, vc, rfl⟩ := hv.shp
  obtain ⟨ua, uc, rfl⟩ := hv'.shp
  clear hv hv' hsm
  have two : Hid (∀ o1 o2 : Obj, Below w.heap.size w ((w.alloc o1).alloc o2)) := fun o1 o2 => (below_alloc _ _).alloc (by simp) _
  go_enter Try.func11, Try.ntmps11
  go_wp2
  go_loopw [23] (fun i wr => ∃ k : Nat, k ≤ qs.length ∧ i = .int .i64 k ∧ Below w.heap.size w wr ∧ Blk wr w.heap.size [.slice va qs.length vc, .int .i64 next] ∧ Blk wr (w.heap.size + 1) [.slice ua qs.length uc, .int .i64 next]) (fun i _ => qs.length - (intOf i).toNat)
  case atStart =>
    refine ⟨0, Nat.zero_le _, rfl, two.out _ _, (Blk.new w _ 24).alloc _, ?_⟩
    have := Blk.new (w.alloc (.cells #[.slice va qs.length vc, .int .i64 next] 24)) [.slice ua qs.length uc, .int .i64 next] 24
    simpa using this
  case round =>
    obtain ⟨k, hk, rfl, hbr, hk0, hk1⟩ := hrel
    have hzr := hbr.size
    have HB : Hid (Below w.heap.size w wr) := hbr
    have HK : Hid (Blk wr w.heap.size [.slice va qs.length vc, .int .i64 next] ∧ Blk wr (w.heap.size + 1) [.slice ua qs.length uc, .int .i64 next]) := ⟨hk0, hk1⟩
    by_cases hlt : k < qs.length
    · obtain ⟨a0, a1, a2, a3⟩ := hk0.b2
      obtain ⟨b0, b1, b2, b3⟩ := hk1.b2
      obtain ⟨b, off, ia, ic, rfl, hS, hq, c0, c1, c2⟩ := (HV.out.up' hbr).at k hlt
      obtain ⟨b', off', ja, jc, rfl, hS', hq', d0, d1, d2⟩ := (HV'.out.up' hbr).at k hlt
      have HN : Hid (SliceI (Under wr.heap.size) wr (.slice ia qs[k].items.length ic) qs[k].items ∧ SliceI (Under wr.heap.size) wr (.slice ja qs[k].items.length jc) qs[k].items) := ⟨hq, hq'⟩
      have HSK : Hid (smallI qs[k].items) := HS.out.2 _ (List.getElem_mem hlt)
      obtain ⟨q, hqq⟩ : ∃ q, q = qs[k] := ⟨_, rfl⟩
      rw [← hqq] at c0 c1 c2 d0 d1 d2 HN HSK
      clear hq hq' hqq hbr hk0 hk1
      have hk1 : (k : Int) < (qs.length : Int) := by omega
      go_wp2_with fail
      go_region_law (first
        | (go_simp; go_at_call 45; refine (sameQueue_true _ _ q.name q.limit q.items HSK.out.1 _ ?_ ?_).mono ?_; (exact HN.out.1.sub fun b hb => ⟨hb, rfl⟩); (exact HN.out.2.sub fun b hb => ⟨hb, rfl⟩); rintro e w1 ⟨rfl, hb1⟩; have hb1' : Below wr.heap.size wr w1 := ⟨hb1.os, hb1.tape, hb1.output, hb1.size, hb1.block⟩; clear hb1))
      all_goals
        have HB1 : Hid (Below w.heap.size w w1) := HB.out.trans (hb1'.mono hzr)
        have HK1 : Hid (Blk w1 w.heap.size [.slice (some ⟨b, off, none⟩) qs.length vc, .int .i64 next] ∧ Blk w1 (w.heap.size + 1) [.slice (some ⟨b', off', none⟩) qs.length uc, .int .i64 next]) := ⟨HK.out.1.below hb1' a3, HK.out.2.below hb1' b3⟩
        clear hb1' a0 a1 a2 b0 b1 b2 c0 c1 c2 d0 d1 d2
        go_wp2
        go_roundw
        case rel => exact ⟨k + 1, by omega, by go_num, HB1.out, HK1.out.1, HK1.out.2⟩
        case measure => simp [intOf]; omega
    · clear hk0 hk1
      go_wp2
      go_ret
      exact ⟨rfl, HB.out⟩

theorem Blk.b6 {w : World} {b : Nat} {x0 x1 x2 x3 x4 x5 : Value} (h : Blk w b [x0, x1, x2, x3, x4, x5]) : w.cell? ⟨b, 0, none⟩ = some x0 ∧ w.cell? ⟨b, 1, none⟩ = some x1 ∧ w.cell? ⟨b, 2, none⟩ = some x2 ∧ w.cell? ⟨b, 3, none⟩ = some x3 ∧ w.cell? ⟨b, 4, none⟩ = some x4 ∧ w.cell? ⟨b, 5, none⟩ = some x5 ∧ (∀ o, w.frozen? ⟨b, o, none⟩ = false) ∧ b < w.heap.size := ⟨h.cell 0, h.cell 1, h.cell 2, h.cell 3, h.cell 4, h.cell 5, h.f, h.lt⟩

end Go.Proofs.Ytkddkpdfeeikhaa
