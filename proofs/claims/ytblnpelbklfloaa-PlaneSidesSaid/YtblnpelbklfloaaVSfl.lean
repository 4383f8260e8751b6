/- The law PlaneSides is true. -/
import Derived.Test.YtblnpelbklfloaaVSdx
import Derived.Test.YtblnpelbklfloaaVSdy
import Derived.Test.YtblnpelbklfloaaVSdz
namespace Go.Proofs.Ytblnpelbklfloaa
open Go.RowKit

theorem sides_true (ao : Option Addr) (len cap : Nat) (hlen : len ≤ 9223372036854775807) (hc : len ≤ cap) (hn : ao = none → len = 0 ∧ cap = 0) (e0 e1 e2 : Int) (he0 : 0 ≤ e0 ∧ e0 ≤ 255) (he1 : 0 ≤ e1 ∧ e1 ≤ 255) (he2 : 0 ≤ e2 ∧ e2 ≤ 255) (w : World) (hl : Lst w ao len w.heap.size) :
    Calls Try.prog 8 #[.slice ao len cap, .agg #[.int .u8 e0, .int .u8 e1, .int .u8 e2]] w (Gives w (.bool true)) := by
  obtain ⟨e0, rfl⟩ := Int.eq_ofNat_of_zero_le he0.1
  obtain ⟨e1, rfl⟩ := Int.eq_ofNat_of_zero_le he1.1
  obtain ⟨e2, rfl⟩ := Int.eq_ofNat_of_zero_le he2.1
  cases ao with
  | none =>
    obtain ⟨rfl, rfl⟩ := hn rfl
    exact sds_none e0 e1 e2 _ _ _ (hideV rfl) (hideV rfl) (hideV rfl) (by omega) (by omega) (by omega) (hideV (by omega)) (hideV (by omega)) (hideV (by omega)) w hl
  | some ad =>
    by_cases h : len ≤ 16
    · exact sds_le ad len cap hlen (by omega) (by omega) e0 e1 e2 _ _ _ (hideV rfl) (hideV rfl) (hideV rfl) (by omega) (by omega) (by omega) (hideV (by omega)) (hideV (by omega)) (hideV (by omega)) w hl
    · exact sds_gt ad len cap hlen (by omega) (by omega) e0 e1 e2 _ _ _ (hideV rfl) (hideV rfl) (hideV rfl) (by omega) (by omega) (by omega) (hideV (by omega)) (hideV (by omega)) (hideV (by omega)) w hl
end Go.Proofs.Ytblnpelbklfloaa
