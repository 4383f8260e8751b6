/- TurnGroup: its end at known rotations. -/
import Derived.Test.YtgpihfnnljibaaaZZ
import Derived.Test.YtgpihfnnljibaaaUE
import Derived.Test.YtgpihfnnljibaaaRows
namespace Go.Proofs.Ytgpihfnnljibaaa
open Go Go.Sz Go.RowKit

set_option maxRecDepth 100000 in
theorem tgE0 : ((List.range 24).all fun b => tgTail.runR (tabF F12) (env2 0 b).d) = true := by kernel_rfl
set_option maxRecDepth 100000 in
theorem tgE1 : ((List.range 24).all fun b => tgTail.runR (tabF F12) (env2 1 b).d) = true := by kernel_rfl
set_option maxRecDepth 100000 in
theorem tgE2 : ((List.range 24).all fun b => tgTail.runR (tabF F12) (env2 2 b).d) = true := by kernel_rfl
set_option maxRecDepth 100000 in
theorem tgE3 : ((List.range 24).all fun b => tgTail.runR (tabF F12) (env2 3 b).d) = true := by kernel_rfl
end Go.Proofs.Ytgpihfnnljibaaa
