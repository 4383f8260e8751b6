/- TurnGroup: its end at known rotations. -/
import Derived.Test.YtgpihfnnljibaaaZZ
import Derived.Test.YtgpihfnnljibaaaUE
import Derived.Test.YtgpihfnnljibaaaRows
namespace Go.Proofs.Ytgpihfnnljibaaa
open Go Go.Sz Go.RowKit

set_option maxRecDepth 100000 in
theorem tgE16 : ((List.range 24).all fun b => tgTail.runR (tabF F12) (env2 16 b).d) = true := by kernel_rfl
set_option maxRecDepth 100000 in
theorem tgE17 : ((List.range 24).all fun b => tgTail.runR (tabF F12) (env2 17 b).d) = true := by kernel_rfl
set_option maxRecDepth 100000 in
theorem tgE18 : ((List.range 24).all fun b => tgTail.runR (tabF F12) (env2 18 b).d) = true := by kernel_rfl
set_option maxRecDepth 100000 in
theorem tgE19 : ((List.range 24).all fun b => tgTail.runR (tabF F12) (env2 19 b).d) = true := by kernel_rfl
end Go.Proofs.Ytgpihfnnljibaaa
