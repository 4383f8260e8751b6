/- Bounds for the law PlaneForms. -/
import Derived.Test.YtblnpelbklfloaaVSan
import Derived.Test.YtblnpelbklfloaaVSp
import Derived.Test.YtblnpelbklfloaaVOdw
namespace Go.Proofs.Ytblnpelbklfloaa
open Go.RowKit

theorem i64_t100 (x : Int) : Hid (I64 (x.tmod 100)) := by
  have h3 := Int.natAbs_tmod x 100
  have h4 := Nat.mod_lt x.natAbs (show (100 : Int).natAbs > 0 by decide)
  have h5 : (100 : Int).natAbs = 100 := rfl
  show I64 _
  unfold I64
  omega
end Go.Proofs.Ytblnpelbklfloaa
