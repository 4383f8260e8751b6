/- Bounds for the law PlaneVectors. -/
import Derived.Test.YtcgdedcgncjplaaVSan
import Derived.Test.YtcgdedcgncjplaaVThr
namespace Go.Proofs.Ytcgdedcgncjplaa
open Go.RowKit

theorem i64_t50 (x : Int) : Hid (I64 (x.tmod 50)) := by
  have h3 := Int.natAbs_tmod x 50
  have h4 := Nat.mod_lt x.natAbs (show (50 : Int).natAbs > 0 by decide)
  have h5 : (50 : Int).natAbs = 50 := rfl
  show I64 _
  unfold I64
  omega
theorem i64_24 {x : Int} (h : -24 ≤ x ∧ x ≤ 24) : Hid (I64 x) := by
  show I64 _
  unfold I64
  omega

end Go.Proofs.Ytcgdedcgncjplaa
