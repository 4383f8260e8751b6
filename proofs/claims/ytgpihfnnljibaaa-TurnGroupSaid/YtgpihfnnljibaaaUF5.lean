/- TurnGroup: its end at known rotations. -/
import Derived.Test.YtgpihfnnljibaaaZZ
import Derived.Test.YtgpihfnnljibaaaUE
import Derived.Test.YtgpihfnnljibaaaRows
namespace Go.Proofs.Ytgpihfnnljibaaa
open Go Go.Sz Go.RowKit

set_option maxRecDepth 100000 in
theorem tgE20 : ((List.range 24).all fun b => tgTail.runR (tabF F12) (env2 20 b).d) = true := by kernel_rfl
set_option maxRecDepth 100000 in
theorem tgE21 : ((List.range 24).all fun b => tgTail.runR (tabF F12) (env2 21 b).d) = true := by kernel_rfl
set_option maxRecDepth 100000 in
theorem tgE22 : ((List.range 24).all fun b => tgTail.runR (tabF F12) (env2 22 b).d) = true := by kernel_rfl
set_option maxRecDepth 100000 in
theorem tgE23 : ((List.range 24).all fun b => tgTail.runR (tabF F12) (env2 23 b).d) = true := by kernel_rfl
end Go.Proofs.Ytgpihfnnljibaaa
