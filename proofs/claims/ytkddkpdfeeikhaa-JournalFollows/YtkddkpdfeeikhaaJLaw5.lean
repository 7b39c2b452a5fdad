/-
  The law JournalShort, of a hall in memory, wherever tglaw5.alive tells true.
-/
import Derived.Test.YtkddkpdfeeikhaaJFollowsProofM34
import Derived.Test.YtkddkpdfeeikhaaJFollowsProofM37
import Derived.Test.YtkddkpdfeeikhaaJFollowsProofM23
import Derived.Test.YtkddkpdfeeikhaaJFollowsProofM38
namespace Go.Proofs.Ytkddkpdfeeikhaa
open Go.RowKit Go.WideMaps Go.Maps
set_option linter.unusedVariables false
set_option linter.unusedSimpArgs false

attribute [local go_sem ↓] Go.wp_at_zero Go.wp_at_succ

theorem sound_small {h : HD} (s : h.sound) : smallQ h.queues := s.good.small
end Go.Proofs.Ytkddkpdfeeikhaa
