/-
  The tied card of tglaw8.LinesRight.
-/
import Derived.Test.YtedhlbknbaggiaaGreatDoorLnRightProof
namespace Go.Proofs.YtedhlbknbaggiaaGreatDoor
open Go

theorem linesRight_holds : Rows.LinesRightCardSaid :=
  Claim7.holds_tied_plain_at .later [] [.data, .data, .data, .data, .sentinel, .sentinel, .data, .pinned] true (true, "c8bf47ca559194fb23e330ebf7b2b5d6f385db5e201c1b89bff286892f03b1ef") true linesRight_row (fun _ h => by cases h) (by kernel_rfl) (fun _ h => by cases h) linesRight_row_tie rfl ⟨rfl, rfl⟩ (by kernel_rfl) rfl
    (fun f fn hf hfn => by
      obtain rfl : f = 5 := Option.some.inj ((show Tryz.prog.funcNamed "trivetgate/tglaw8.LinesRight" = some 5 by kernel_rfl).symm.trans hf) |>.symm
      obtain rfl : fn = Tryz.f5 := (Option.some.inj (Tryz.func5.symm.trans hfn)).symm
      exact ⟨by kernel_rfl, fun j t ht => by
        rw [Tryz.params5] at ht
        have hm : t ∈ [23] := by simpa using Array.mem_of_getElem? ht
        have hall : ([23].all fun u => !Tryz.prog.wantsStandIn u) = true := by kernel_rfl
        exact (show Tryz.prog.wantsStandIn t = false by simpa using List.all_eq_true.1 hall t hm)⟩)
    (by kernel_rfl)

#print axioms linesRight_holds
end Go.Proofs.YtedhlbknbaggiaaGreatDoor
