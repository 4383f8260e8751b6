/- TurnGroup: its end at known rotations. -/
import Derived.Test.YtgpihfnnljibaaaZZ
import Derived.Test.YtgpihfnnljibaaaUE
import Derived.Test.YtgpihfnnljibaaaRows
namespace Go.Proofs.Ytgpihfnnljibaaa
open Go Go.Sz Go.RowKit

set_option maxRecDepth 100000 in
theorem tgE12 : ((List.range 24).all fun b => tgTail.runR (tabF F12) (env2 12 b).d) = true := by kernel_rfl
set_option maxRecDepth 100000 in
theorem tgE13 : ((List.range 24).all fun b => tgTail.runR (tabF F12) (env2 13 b).d) = true := by kernel_rfl
set_option maxRecDepth 100000 in
theorem tgE14 : ((List.range 24).all fun b => tgTail.runR (tabF F12) (env2 14 b).d) = true := by kernel_rfl
set_option maxRecDepth 100000 in
theorem tgE15 : ((List.range 24).all fun b => tgTail.runR (tabF F12) (env2 15 b).d) = true := by kernel_rfl
end Go.Proofs.Ytgpihfnnljibaaa
