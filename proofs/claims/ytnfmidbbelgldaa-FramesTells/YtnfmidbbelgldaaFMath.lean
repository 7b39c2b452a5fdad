/-
  Asks and answers as frames, as functions of lists: there, and back.
-/
import Derived.Test.YtnfmidbbelgldaaMath
namespace Go.Proofs.Ytnfmidbbelgldaa
set_option linter.unusedVariables false
set_option linter.unusedSimpArgs false

structure AD where
  kind : Int
  queue : ByteArray
  n : Int
  ps : List PD
  body : List UInt8
structure SD where
  kind : Int
  n : Int
  m : Int
  err : Int
  ps : List PD
  body : List UInt8

def AD.zero : AD := ⟨0, ⟨#[]⟩, 0, [], []⟩
def SD.zero : SD := ⟨0, 0, 0, 0, [], []⟩

def namedB (k : Int) : Bool := k == 2 || k == 3 || k == 4 || k == 5 || k == 6 || k == 9
def queueB (k : Int) (q : ByteArray) : Bool := if namedB k then keyB q else q.toList.isEmpty
def numB (k n : Int) : Bool :=
  if k == 2 then decide (0 ≤ n ∧ n ≤ 1073741824) else if k == 6 then decide (1 ≤ n ∧ n ≤ 9) else if k == 7 || k == 8 then decide (1 ≤ n ∧ n ≤ 1073741824) else n == 0
def AD.wrong (a : AD) : Int :=
  if a.kind < 1 ∨ 9 < a.kind then 1 else if queueB a.kind a.queue = false then 7 else if numB a.kind a.n = false then 3
  else if a.kind ≠ 4 ∧ 0 < a.ps.length + a.body.length then 2 else wrongN a.ps a.body.length

def numsB (k n m : Int) : Bool := if k == 2 then decide (1 ≤ n ∧ n ≤ 1073741824 ∧ 0 ≤ m ∧ m ≤ 3) else n == 0 && m == 0
def errB (k e : Int) : Bool := if k == 4 then decide (0 < e ∧ e ≤ 10) else e == 0
def SD.wrong (s : SD) : Int :=
  if s.kind < 1 ∨ 4 < s.kind then 1 else if numsB s.kind s.n s.m = false ∨ errB s.kind s.err = false then 3
  else if s.kind ≠ 2 ∧ 0 < s.ps.length + s.body.length then 2 else wrongN s.ps s.body.length

def frameB (l : List UInt8) : List UInt8 := UInt8.ofNat (l.length / 256) :: UInt8.ofNat l.length :: l
def AD.inB (a : AD) : List UInt8 := UInt8.ofNat a.kind.toNat :: txt a.queue ++ num4 a.n ++ (if a.kind == 4 then bytesF a.ps a.body else [])
def SD.inB (s : SD) : List UInt8 := UInt8.ofNat s.kind.toNat :: num4 s.n ++ [UInt8.ofNat s.m.toNat, UInt8.ofNat s.err.toNat] ++ (if s.kind == 2 then bytesF s.ps s.body else [])

def endF (b : List UInt8) : Nat := 2 + (b.getD 0 0).toNat * 256 + (b.getD 1 0).toNat
def insideF (b : List UInt8) : Int × List UInt8 :=
  if b.length < 2 then (9, []) else if 400 < endF b then (4, []) else if b.length < endF b then (9, []) else (0, (b.drop 2).take (endF b - 2))
def noteOfF (r : List UInt8) (has : Bool) : List PD × List UInt8 × Bool :=
  if has = false then ([], [], r.length == 0) else ((parseF r).2.1, (parseF r).2.2.1, (parseF r).1 == 0 && (parseF r).2.2.2 == r.length)
def askOfF (i : List UInt8) : AD × Bool :=
  if i.length < 2 ∨ i.length < 6 + (i.getD 1 0).toNat then (AD.zero, false)
  else (⟨(i.getD 0 0).toNat, bstr ((i.drop 2).take (i.getD 1 0).toNat), int32 (valB ((i.drop (2 + (i.getD 1 0).toNat)).take 4)),
    (noteOfF (i.drop (6 + (i.getD 1 0).toNat)) ((((i.getD 0 0).toNat : Nat) : Int) == 4)).1, (noteOfF (i.drop (6 + (i.getD 1 0).toNat)) ((((i.getD 0 0).toNat : Nat) : Int) == 4)).2.1⟩, (noteOfF (i.drop (6 + (i.getD 1 0).toNat)) ((((i.getD 0 0).toNat : Nat) : Int) == 4)).2.2)
def sayOfF (i : List UInt8) : SD × Bool :=
  if i.length < 7 then (SD.zero, false)
  else (⟨(i.getD 0 0).toNat, int32 (valB ((i.drop 1).take 4)), (i.getD 5 0).toNat, (i.getD 6 0).toNat,
    (noteOfF (i.drop 7) ((((i.getD 0 0).toNat : Nat) : Int) == 2)).1, (noteOfF (i.drop 7) ((((i.getD 0 0).toNat : Nat) : Int) == 2)).2.1⟩, (noteOfF (i.drop 7) ((((i.getD 0 0).toNat : Nat) : Int) == 2)).2.2)
def askF (b : List UInt8) : Int × AD × Nat :=
  if (insideF b).1 ≠ 0 then ((insideF b).1, AD.zero, 0) else if (askOfF (insideF b).2).2 = false then (2, AD.zero, 0)
  else if (askOfF (insideF b).2).1.wrong ≠ 0 then ((askOfF (insideF b).2).1.wrong, AD.zero, 0) else (0, (askOfF (insideF b).2).1, 2 + (insideF b).2.length)
def sayF (b : List UInt8) : Int × SD × Nat :=
  if (insideF b).1 ≠ 0 then ((insideF b).1, SD.zero, 0) else if (sayOfF (insideF b).2).2 = false then (2, SD.zero, 0)
  else if (sayOfF (insideF b).2).1.wrong ≠ 0 then ((sayOfF (insideF b).2).1.wrong, SD.zero, 0) else (0, (sayOfF (insideF b).2).1, 2 + (insideF b).2.length)

theorem frameB_len (l : List UInt8) : (frameB l).length = l.length + 2 := by simp [frameB]
theorem endF_frame (l r : List UInt8) (h : l.length ≤ 398) : endF (frameB l ++ r) = 2 + l.length := by
  simp [endF, frameB]
  omega
theorem inside_there (l r : List UInt8) (h : l.length ≤ 398) : insideF (frameB l ++ r) = (0, l) := by
  have e := endF_frame l r h
  unfold insideF
  rw [if_neg (by simp [frameB]), e, if_neg (by omega), if_neg (by simp [frameB]; omega)]
  simp [frameB]
theorem inside_more (l : List UInt8) (h : l.length ≤ 398) (k : Nat) (hk : k < (frameB l).length) : insideF ((frameB l).take k) = (9, []) := by
  rw [frameB_len] at hk
  unfold insideF
  by_cases h2 : k < 2
  · rw [if_pos (by simp; omega)]
  · have e : endF ((frameB l).take k) = 2 + l.length := by
      rw [← endF_frame l [] h]
      obtain ⟨j, rfl⟩ : ∃ j, k = j + 2 := ⟨k - 2, by omega⟩
      simp [endF, frameB]
    rw [if_neg (by simp [frameB_len]; omega), e, if_neg (by omega), if_pos (by simp [frameB_len]; omega)]
theorem inside_le (b : List UInt8) (h : (insideF b).1 = 0) : 2 + (insideF b).2.length ≤ b.length ∧ 2 + (insideF b).2.length ≤ 400 := by
  unfold insideF at h ⊢
  split at h
  · simp at h
  · rename_i h1
    split at h
    · simp at h
    · rename_i h2
      split at h
      · simp at h
      · rename_i h3
        rw [if_neg h1, if_neg h2, if_neg h3]
        have : 2 ≤ endF b := by unfold endF; omega
        simp
        omega

theorem bytesF_len (ps : List PD) (body : List UInt8) (h : wrongN ps body.length = 0) : (bytesF ps body).length ≤ 202 := by
  obtain ⟨h1, h2, h3⟩ := wrongN_zero ps _ h
  have := propsB_len ps (fun p hp => (right_prop p (h2 p hp)).1)
  simp [bytesF]; omega
theorem key_size (s : ByteArray) (h : keyB s = true) : s.size ≤ 8 := by
  unfold keyB at h
  simp at h
  omega
theorem empty_size (s : ByteArray) (h : s.toList.isEmpty = true) : s.size = 0 := by
  rw [List.isEmpty_iff] at h
  have := size_list s
  rw [ByteArray.toList_eq] at h
  rw [← this, h]
  rfl
theorem AD.right (a : AD) (h : a.wrong = 0) : 1 ≤ a.kind ∧ a.kind ≤ 9 ∧ a.queue.size ≤ 8 ∧ 0 ≤ a.n ∧ a.n ≤ 1073741824 ∧ wrongN a.ps a.body.length = 0 ∧ (a.kind ≠ 4 → a.ps = [] ∧ a.body = []) := by
  unfold AD.wrong at h
  split at h
  · omega
  · split at h
    · omega
    · split at h
      · omega
      · split at h
        · omega
        · rename_i h1 h2 h3 h4
          refine ⟨by omega, by omega, ?_, ?_, ?_, h, fun hk => ?_⟩
          · simp only [Bool.not_eq_false, queueB] at h2
            split at h2
            · exact key_size _ h2
            · have := empty_size _ h2; omega
          · simp only [Bool.not_eq_false, numB] at h3
            repeat' split at h3
            all_goals simp at h3
            all_goals omega
          · simp only [Bool.not_eq_false, numB] at h3
            repeat' split at h3
            all_goals simp at h3
            all_goals omega
          · have : a.ps.length + a.body.length = 0 := by
              rcases Nat.eq_zero_or_pos (a.ps.length + a.body.length) with h0 | h0
              · exact h0
              · exact absurd ⟨hk, h0⟩ h4
            exact ⟨List.length_eq_zero_iff.1 (by omega), List.length_eq_zero_iff.1 (by omega)⟩
theorem SD.right (s : SD) (h : s.wrong = 0) : 1 ≤ s.kind ∧ s.kind ≤ 4 ∧ 0 ≤ s.n ∧ s.n ≤ 1073741824 ∧ 0 ≤ s.m ∧ s.m ≤ 3 ∧ 0 ≤ s.err ∧ s.err ≤ 10 ∧ wrongN s.ps s.body.length = 0 ∧ (s.kind ≠ 2 → s.ps = [] ∧ s.body = []) := by
  unfold SD.wrong at h
  split at h
  · omega
  · split at h
    · omega
    · split at h
      · omega
      · rename_i h1 h2 h4
        have h3 : numsB s.kind s.n s.m = true ∧ errB s.kind s.err = true := by
          simpa using h2
        obtain ⟨g1, g2⟩ := h3
        have e1 : 0 ≤ s.n ∧ s.n ≤ 1073741824 ∧ 0 ≤ s.m ∧ s.m ≤ 3 := by
          unfold numsB at g1
          split at g1
          · simp at g1; omega
          · simp at g1; omega
        have e2 : 0 ≤ s.err ∧ s.err ≤ 10 := by
          unfold errB at g2
          split at g2
          · simp at g2; omega
          · simp at g2; omega
        refine ⟨by omega, by omega, e1.1, e1.2.1, e1.2.2.1, e1.2.2.2, e2.1, e2.2, h, fun hk => ?_⟩
        have : s.ps.length + s.body.length = 0 := by
          rcases Nat.eq_zero_or_pos (s.ps.length + s.body.length) with h0 | h0
          · exact h0
          · exact absurd ⟨hk, h0⟩ h4
        exact ⟨List.length_eq_zero_iff.1 (by omega), List.length_eq_zero_iff.1 (by omega)⟩

theorem AD.inB_len (a : AD) (h : a.wrong = 0) : a.inB.length ≤ 300 := by
  obtain ⟨h1, h2, h3, h4, h5, h6, h7⟩ := a.right h
  have := bytesF_len a.ps a.body h6
  unfold AD.inB
  split <;> simp [txt_len, num4] <;> omega
theorem SD.inB_len (s : SD) (h : s.wrong = 0) : s.inB.length ≤ 300 := by
  obtain ⟨h1, h2, h3, h4, h5, h6, h7, h8, h9, h10⟩ := s.right h
  have := bytesF_len s.ps s.body h9
  unfold SD.inB
  split <;> simp [num4] <;> omega

theorem noteOf_has (ps : List PD) (body : List UInt8) (h : wrongN ps body.length = 0) : noteOfF (bytesF ps body) true = (ps, body, true) := by
  have := parse_there ps body [] h
  rw [List.append_nil] at this
  simp [noteOfF, this]
theorem noteOf_none : noteOfF [] false = ([], [], true) := by simp [noteOfF]

theorem num_back (n : Int) (h0 : 0 ≤ n) (h1 : n ≤ 1073741824) : int32 (valB (num4 n)) = n := by
  rw [num4_val]
  unfold int32
  split <;> omega

theorem askOf_there (a : AD) (h : a.wrong = 0) : askOfF a.inB = (a, true) := by
  obtain ⟨h1, h2, h3, h4, h5, h6, h7⟩ := a.right h
  obtain ⟨kind, queue, n, ps, body⟩ := a
  simp only at h1 h2 h3 h4 h5 h6 h7
  have hq : (UInt8.ofNat queue.size).toNat = queue.size := u8_ofNat _ (by omega)
  have hk : ((UInt8.ofNat kind.toNat).toNat : Int) = kind := by rw [u8_ofNat _ (by omega)]; omega
  obtain ⟨R, hR⟩ : ∃ R, R = (if kind == 4 then bytesF ps body else []) := ⟨_, rfl⟩
  have e : AD.inB ⟨kind, queue, n, ps, body⟩ = UInt8.ofNat kind.toNat :: UInt8.ofNat queue.size :: (queue.data.toList ++ (num4 n ++ R)) := by
    simp [AD.inB, txt, hR]
  have hn : noteOfF R (kind == 4) = (ps, body, true) := by
    rw [hR]
    by_cases k4 : kind = 4
    · subst k4; exact noteOf_has ps body h6
    · obtain ⟨rfl, rfl⟩ := h7 k4
      have : (kind == 4) = false := by simpa using k4
      rw [this]; exact noteOf_none
  have hl := size_list queue
  have d1 : (queue.data.toList ++ (num4 n ++ R)).take queue.size = queue.data.toList := by rw [← hl, List.take_left]
  have d2 : (queue.data.toList ++ (num4 n ++ R)).drop queue.size = num4 n ++ R := by rw [← hl, List.drop_left]
  have d3 : (num4 n ++ R).take 4 = num4 n := by simp [num4]
  have d4 : (num4 n ++ R).drop 4 = R := by simp [num4]
  have d5 : (queue.data.toList ++ (num4 n ++ R)).drop (4 + queue.size) = R := by rw [Nat.add_comm, ← List.drop_drop, d2, d4]
  rw [e]
  unfold askOfF
  rw [if_neg (by simp [hq, hl, num4]; omega)]
  have x6 : 6 + queue.size = (4 + queue.size) + 1 + 1 := by omega
  have x2 : 2 + queue.size = queue.size + 1 + 1 := by omega
  simp only [List.getD_cons_zero, List.getD_cons_succ, hq, hk, x6, x2, List.drop_succ_cons, List.drop_zero, d1, d2, d3, d5, hn, bstr_of, num_back n h4 h5]
theorem sayOf_there (s : SD) (h : s.wrong = 0) : sayOfF s.inB = (s, true) := by
  obtain ⟨h1, h2, h3, h4, h5, h6, h7, h8, h9, h10⟩ := s.right h
  obtain ⟨kind, n, m, err, ps, body⟩ := s
  simp only at h1 h2 h3 h4 h5 h6 h7 h8 h9 h10
  have hk : ((UInt8.ofNat kind.toNat).toNat : Int) = kind := by rw [u8_ofNat _ (by omega)]; omega
  have hm : ((UInt8.ofNat m.toNat).toNat : Int) = m := by rw [u8_ofNat _ (by omega)]; omega
  have he : ((UInt8.ofNat err.toNat).toNat : Int) = err := by rw [u8_ofNat _ (by omega)]; omega
  obtain ⟨R, hR⟩ : ∃ R, R = (if kind == 2 then bytesF ps body else []) := ⟨_, rfl⟩
  have hn : noteOfF R (kind == 2) = (ps, body, true) := by
    rw [hR]
    by_cases k4 : kind = 2
    · subst k4; exact noteOf_has ps body h9
    · obtain ⟨rfl, rfl⟩ := h10 k4
      have : (kind == 2) = false := by simpa using k4
      rw [this]; exact noteOf_none
  have nb := num_back n h3 h4
  obtain ⟨c0, c1, c2, c3, hc⟩ : ∃ c0 c1 c2 c3, num4 n = [c0, c1, c2, c3] := ⟨_, _, _, _, rfl⟩
  have e : SD.inB ⟨kind, n, m, err, ps, body⟩ = UInt8.ofNat kind.toNat :: c0 :: c1 :: c2 :: c3 :: UInt8.ofNat m.toNat :: UInt8.ofNat err.toNat :: R := by
    simp [SD.inB, hc, hR]
  rw [e]
  unfold sayOfF
  rw [if_neg (by simp)]
  simp only [List.getD_cons_zero, List.getD_cons_succ, hk, hm, he, List.drop_succ_cons, List.drop_zero, List.take_succ_cons, List.take_zero, hn]
  rw [← hc, nb]

theorem ask_there (a : AD) (r : List UInt8) (h : a.wrong = 0) : askF (frameB a.inB ++ r) = (0, a, (frameB a.inB).length) := by
  have h1 := inside_there a.inB r (by have := a.inB_len h; omega)
  have h2 := askOf_there a h
  unfold askF
  rw [h1]
  simp only [h2, h, frameB_len]
  simp
  omega
theorem say_there (s : SD) (r : List UInt8) (h : s.wrong = 0) : sayF (frameB s.inB ++ r) = (0, s, (frameB s.inB).length) := by
  have h1 := inside_there s.inB r (by have := s.inB_len h; omega)
  have h2 := sayOf_there s h
  unfold sayF
  rw [h1]
  simp only [h2, h, frameB_len]
  simp
  omega
theorem ask_more (a : AD) (h : a.wrong = 0) (k : Nat) (hk : k < (frameB a.inB).length) : askF ((frameB a.inB).take k) = (9, AD.zero, 0) := by
  have h1 := inside_more a.inB (by have := a.inB_len h; omega) k hk
  unfold askF
  rw [h1]
  simp
theorem say_more (s : SD) (h : s.wrong = 0) (k : Nat) (hk : k < (frameB s.inB).length) : sayF ((frameB s.inB).take k) = (9, SD.zero, 0) := by
  have h1 := inside_more s.inB (by have := s.inB_len h; omega) k hk
  unfold sayF
  rw [h1]
  simp

theorem ask_right (b : List UInt8) : ((askF b).1 = 0 ∧ (askF b).2.1.wrong = 0 ∧ 1 ≤ (askF b).2.2 ∧ (askF b).2.2 ≤ b.length ∧ (askF b).2.2 ≤ 400) ∨ ((askF b).1 ≠ 0 ∧ (askF b).2.1 = AD.zero ∧ (askF b).2.2 = 0) := by
  by_cases h1 : (insideF b).1 = 0
  · by_cases h2 : (askOfF (insideF b).2).2 = false
    · right
      simp [askF, h1, h2]
    · by_cases h3 : (askOfF (insideF b).2).1.wrong = 0
      · left
        have := inside_le b h1
        have e : askF b = (0, (askOfF (insideF b).2).1, 2 + (insideF b).2.length) := by
          unfold askF
          rw [if_neg (by simpa using h1), if_neg h2, if_neg (by simpa using h3)]
        rw [e]
        exact ⟨rfl, h3, by simp; omega, by simp; omega, by simp; omega⟩
      · right
        have e : askF b = ((askOfF (insideF b).2).1.wrong, AD.zero, 0) := by
          unfold askF
          rw [if_neg (by simpa using h1), if_neg h2, if_pos h3]
        rw [e]
        exact ⟨h3, rfl, rfl⟩
  · right
    have e : askF b = ((insideF b).1, AD.zero, 0) := by unfold askF; rw [if_pos h1]
    rw [e]
    exact ⟨h1, rfl, rfl⟩
theorem say_right (b : List UInt8) : ((sayF b).1 = 0 ∧ (sayF b).2.1.wrong = 0 ∧ 1 ≤ (sayF b).2.2 ∧ (sayF b).2.2 ≤ b.length ∧ (sayF b).2.2 ≤ 400) ∨ ((sayF b).1 ≠ 0 ∧ (sayF b).2.1 = SD.zero ∧ (sayF b).2.2 = 0) := by
  by_cases h1 : (insideF b).1 = 0
  · by_cases h2 : (sayOfF (insideF b).2).2 = false
    · right
      simp [sayF, h1, h2]
    · by_cases h3 : (sayOfF (insideF b).2).1.wrong = 0
      · left
        have := inside_le b h1
        have e : sayF b = (0, (sayOfF (insideF b).2).1, 2 + (insideF b).2.length) := by
          unfold sayF
          rw [if_neg (by simpa using h1), if_neg h2, if_neg (by simpa using h3)]
        rw [e]
        exact ⟨rfl, h3, by simp; omega, by simp; omega, by simp; omega⟩
      · right
        have e : sayF b = ((sayOfF (insideF b).2).1.wrong, SD.zero, 0) := by
          unfold sayF
          rw [if_neg (by simpa using h1), if_neg h2, if_pos h3]
        rw [e]
        exact ⟨h3, rfl, rfl⟩
  · right
    have e : sayF b = ((insideF b).1, SD.zero, 0) := by unfold sayF; rw [if_pos h1]
    rw [e]
    exact ⟨h1, rfl, rfl⟩
end Go.Proofs.Ytnfmidbbelgldaa
