/-
  The closed hall of the law's first question, step by step, in plain terms.
-/
import Derived.Test.YthdaccmjipomdabFaceM
import Derived.Test.YthdaccmjipomdabFaceG
import Derived.Test.YthdaccmjipomdabFaceK
import Derived.Test.YthdaccmjipomdabTick
import Derived.Test.YthdaccmjipomdabPlain
namespace Go.Proofs.Ythdaccmjipomdab
open Go.RowKit
set_option linter.unusedVariables false
set_option linter.unusedSimpArgs false

abbrev nA : ByteArray := ⟨#[97]⟩
def nx : ND := ⟨[], [120]⟩
def iX : IT := newI 0 nx
def iY : IT := ⟨0, 1, 0, true, 7, nx⟩
def iB : IT := ⟨0, 1, 1, false, 0, nx⟩
def hA (its : List IT) (n : Int) : HD := ⟨[⟨nA, 3, its⟩], n⟩

theorem hA_find (its : List IT) (n : Int) : (hA its n).queues.findIdx? (nameB nA) = some 0 := by
  simp [hA, List.findIdx?_cons, nameB]
theorem hA_idx (its : List IT) (n : Int) : idxQ nA (hA its n).queues = ((0 : Nat) : Int) := by
  simp [idxQ, hA_find]
theorem keyA : keyB nA = true := by decide
theorem al1 : makeF ⟨[], 0⟩ nA 3 = (hA [] 0, [⟨1, nA, 3, 0, nN⟩], 0) := by
  have h : wrongMakeF ⟨[], 0⟩ nA 3 = 0 := by simp [wrongMakeF, keyA, idxQ]
  simp [makeF, h, hA]
theorem wrongX : nx.wrong = 0 := by decide
theorem al2 : hallPutF (hA [] 0) nA nx = (hA [iX] 1, [putE nA 0 nx], 0) := by
  simp only [hallPutF, wrongX, if_true]
  rw [faceF_some (hA_idx _ _) (by simp [hA])]
  simp [failF, putF, hA, iX]
theorem al3 : faceF (hA [iX] 1) nA (fun k q => takeF (hA [iX] 1) k q 2) = (hA [iY] 1, [], 0) ∧ giveF (hA [iX] 1) nA 2 = iY := by
  rw [faceF_some (hA_idx _ _) (by simp [hA]), giveF_some (hA_idx _ _) (by simp [hA])]
  simp [failF, takeF, givenI, hA, iX, newI, isInB, takeI, HD.setQ, iY, List.findIdx?_cons]
theorem al4 : faceF (hA [iY] 1) nA (fun k q => doneF (hA [iY] 1) k q 0 1) = (hA [] 1, [goneE nA 0], 0) := by
  rw [faceF_some (hA_idx _ _) (by simp [hA])]
  simp [failF, doneF, hA, iY, givenB, HD.setQ, List.findIdx?_cons]
theorem al5 : faceF (hA [iY] 1) nA (fun k q => backF (hA [iY] 1) k q 0 1) = (hA [iB] 1, [], 0) := by
  rw [faceF_some (hA_idx _ _) (by simp [hA])]
  simp [failF, backF, hA, iY, givenB, HD.setQ, List.findIdx?_cons, backI, iB]
theorem al6 : tickF 7 1 0 (hA [iY] 1) = (hA [iB] 1, []) := by
  simp [tickF, lateF, outs, hA, iY, lateB, backF, givenB, HD.setQ, List.findIdx?_cons, backI, iB]
theorem al7 : faceF (hA [iX] 1) nA (fun k q => dropF (hA [iX] 1) k q) = (⟨[], 1⟩, [⟨2, nA, 0, 0, nN⟩], 0) := by
  rw [faceF_some (hA_idx _ _) (by simp [hA])]
  simp [failF, dropF, hA]
theorem al8 : faceF (hA [iX] 1) nA (fun k q => purgeF (hA [iX] 1) k q) = (hA [] 1, [goneE nA 0], 0) := by
  rw [faceF_some (hA_idx _ _) (by simp [hA])]
  simp [failF, purgeF, hA, iX, newI, HD.setQ, goneL]
theorem good_hA {its : List IT} {n : Int} (hi : its = [] ∨ its = [iX] ∨ its = [iY]) (hn : n = 0 ∨ n = 1) : (hA its n).good 10 := by
  refine ⟨by simp [hA], ⟨by simp [hA]; omega, by simp [hA]; omega⟩, fun q hq => ?_⟩
  simp [hA] at hq
  subst hq
  rcases hi with rfl | rfl | rfl
  · exact ⟨by simp, by simp, by simp⟩
  · refine ⟨by simp, by simp, fun i hi => ?_⟩
    simp at hi
    subst hi
    exact ⟨by simp [iX, newI, ND.small, nx], by simp [iX, newI, IT.fits], by simp [iX, newI]⟩
  · refine ⟨by simp, by simp, fun i hi => ?_⟩
    simp at hi
    subst hi
    exact ⟨by simp [iY, ND.small, nx], by simp [iY, IT.fits], by simp [iY]⟩
end Go.Proofs.Ythdaccmjipomdab
