/-
  The hall of HallDead, round by round, in plain terms.
-/
import Derived.Test.YthdaccmjipomdabAliveF
namespace Go.Proofs.Ythdaccmjipomdab
open Go.RowKit
set_option linter.unusedVariables false
set_option linter.unusedSimpArgs false

abbrev workN : ByteArray := ⟨#[119, 111, 114, 107]⟩

/-- work, with these items, and what else there is. -/
def hW (its : List IT) (D : List QD) (n : Int) : HD := ⟨⟨workN, 2, its⟩ :: D, n⟩
def qD (its : List IT) : QD := ⟨deadN, 1, its⟩

theorem hW_find (its : List IT) (D : List QD) (n : Int) : (hW its D n).queues.findIdx? (nameB workN) = some 0 := by
  simp [hW, List.findIdx?_cons, nameB]
theorem hW_idx (its : List IT) (D : List QD) (n : Int) : idxQ workN (hW its D n).queues = ((0 : Nat) : Int) := by
  simp [idxQ, hW_find]
theorem work_dead : nameB deadN ⟨workN, 2, []⟩ = false := by
  simp only [nameB, ByteArray.toList_eq]
  decide
theorem work_dead' (its : List IT) : nameB deadN ⟨workN, 2, its⟩ = false := work_dead
theorem dead_dead (its : List IT) : nameB deadN (qD its) = true := by simp [nameB, qD]
theorem keyW : keyB workN = true := by decide
theorem keyD : keyB deadN = true := by decide

theorem dd1 : makeF ⟨[], 0⟩ workN 2 = (hW [] [] 0, [⟨1, workN, 2, 0, nN⟩], 0) := by
  have h : wrongMakeF ⟨[], 0⟩ workN 2 = 0 := by simp [wrongMakeF, keyW, idxQ]
  simp [makeF, h, hW]
theorem dd2 : makeF (hW [] [] 0) deadN 1 = (hW [] [qD []] 0, [⟨1, deadN, 1, 0, nN⟩], 0) := by
  have h : wrongMakeF (hW [] [] 0) deadN 1 = 0 := by
    have : idxQ deadN (hW [] [] 0).queues = -1 := idxQ_no _ _ (by intro x hx; simp [hW] at hx; subst hx; exact work_dead)
    simp [wrongMakeF, keyD, this]
    simp [hW]
  unfold makeF
  rw [if_pos h]
  simp [hW, qD]
theorem hD_idx (its jts : List IT) (n : Int) : idxQ deadN (hW its [qD jts] n).queues = ((1 : Nat) : Int) := by
  simp [idxQ, hW, List.findIdx?_cons, work_dead', dead_dead]
theorem wrong0 : nN.wrong = 0 := by decide
theorem dd3 : hallPutF (hW [] [qD []] 0) deadN nN = (hW [] [qD [newI 0 nN]] 1, [putE deadN 0 nN], 0) := by
  simp only [hallPutF, wrong0, if_true]
  rw [faceF_some (hD_idx _ _ _) (by simp [hW])]
  simp [failF, putF, hW, qD]
theorem dd4 (D : List QD) (n : Int) (m : ND) (hm : m.wrong = 0) : hallPutF (hW [] D n) workN m = (hW [newI n m] D (n + 1), [putE workN n m], 0) := by
  simp only [hallPutF, hm, if_true]
  rw [faceF_some (hW_idx _ _ _) (by simp [hW])]
  simp [failF, putF, hW]
/-- The item ahead of round k, and behind its being given. -/
def iK (id : Int) (m : ND) (k : Int) : IT := ⟨id, k, k, false, 0, m⟩
def iT (id : Int) (m : ND) (k : Int) : IT := ⟨id, k + 1, k, true, k + 5, m⟩
theorem dd5 (D : List QD) (n id : Int) (m : ND) (k : Int) : faceF (hW [iK id m k] D n) workN (fun j q => takeF (hW [iK id m k] D n) j q k) = (hW [iT id m k] D n, [], 0) ∧ giveF (hW [iK id m k] D n) workN k = iT id m k := by
  rw [faceF_some (hW_idx _ _ _) (by simp [hW]), giveF_some (hW_idx _ _ _) (by simp [hW])]
  simp [failF, takeF, givenI, hW, iK, isInB, takeI, HD.setQ, iT, List.findIdx?_cons]
theorem dd6 (D : List QD) (n id : Int) (m : ND) (k : Int) (hk : k + 1 < 3) : faceF (hW [iT id m k] D n) workN (fun j q => backF (hW [iT id m k] D n) j q id (k + 1)) = (hW [iK id m (k + 1)] D n, [], 0) := by
  rw [faceF_some (hW_idx _ _ _) (by simp [hW])]
  simp [failF, backF, hW, iT, givenB, HD.setQ, List.findIdx?_cons, backI, iK, hk]
/-- Behind the last round. -/
theorem dd7 (D : List QD) (n id : Int) (m : ND) : faceF (hW [iT id m 2] D n) workN (fun j q => backF (hW [iT id m 2] D n) j q id (2 + 1)) = ((asideF (hW [] D n) 0 m).1, goneE workN id :: (asideF (hW [] D n) 0 m).2, 0) := by
  rw [faceF_some (hW_idx _ _ _) (by simp [hW])]
  simp [failF, backF, hW, iT, givenB, HD.setQ, List.findIdx?_cons, backI]
theorem as0 (n : Int) (m : ND) : asideF (hW [] [] n) 0 m = (hW [] [] n, []) := asideF_none (idxQ_no _ _ (by intro x hx; simp [hW] at hx; subst hx; exact work_dead))
theorem as1 (n : Int) (m : ND) : asideF (hW [] [qD []] n) 0 m = (hW [] [qD [newI n m]] (n + 1), [putE deadN n m]) := by
  rw [asideF_there (hD_idx _ _ _) (by omega) (by simp [hW])]
  simp [putF, hW, qD]
theorem as2 (n : Int) (m : ND) : asideF (hW [] [qD [newI 0 nN]] n) 0 m = (hW [] [qD [newI 0 nN]] n, []) := by
  rw [asideF_there (hD_idx _ _ _) (by omega) (by simp [hW])]
  simp [putF, hW, qD]
end Go.Proofs.Ythdaccmjipomdab
