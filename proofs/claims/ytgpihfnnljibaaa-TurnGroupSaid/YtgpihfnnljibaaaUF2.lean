/- TurnGroup: its end at known rotations. -/
import Derived.Test.YtgpihfnnljibaaaZZ
import Derived.Test.YtgpihfnnljibaaaUE
import Derived.Test.YtgpihfnnljibaaaRows
namespace Go.Proofs.Ytgpihfnnljibaaa
open Go Go.Sz Go.RowKit

set_option maxRecDepth 100000 in
theorem tgE8 : ((List.range 24).all fun b => tgTail.runR (tabF F12) (env2 8 b).d) = true := by kernel_rfl
set_option maxRecDepth 100000 in
theorem tgE9 : ((List.range 24).all fun b => tgTail.runR (tabF F12) (env2 9 b).d) = true := by kernel_rfl
set_option maxRecDepth 100000 in
theorem tgE10 : ((List.range 24).all fun b => tgTail.runR (tabF F12) (env2 10 b).d) = true := by kernel_rfl
set_option maxRecDepth 100000 in
theorem tgE11 : ((List.range 24).all fun b => tgTail.runR (tabF F12) (env2 11 b).d) = true := by kernel_rfl
end Go.Proofs.Ytgpihfnnljibaaa
