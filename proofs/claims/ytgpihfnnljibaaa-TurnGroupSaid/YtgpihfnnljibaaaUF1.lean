/- TurnGroup: its end at known rotations. -/
import Derived.Test.YtgpihfnnljibaaaZZ
import Derived.Test.YtgpihfnnljibaaaUE
import Derived.Test.YtgpihfnnljibaaaRows
namespace Go.Proofs.Ytgpihfnnljibaaa
open Go Go.Sz Go.RowKit

set_option maxRecDepth 100000 in
theorem tgE4 : ((List.range 24).all fun b => tgTail.runR (tabF F12) (env2 4 b).d) = true := by kernel_rfl
set_option maxRecDepth 100000 in
theorem tgE5 : ((List.range 24).all fun b => tgTail.runR (tabF F12) (env2 5 b).d) = true := by kernel_rfl
set_option maxRecDepth 100000 in
theorem tgE6 : ((List.range 24).all fun b => tgTail.runR (tabF F12) (env2 6 b).d) = true := by kernel_rfl
set_option maxRecDepth 100000 in
theorem tgE7 : ((List.range 24).all fun b => tgTail.runR (tabF F12) (env2 7 b).d) = true := by kernel_rfl
end Go.Proofs.Ytgpihfnnljibaaa
