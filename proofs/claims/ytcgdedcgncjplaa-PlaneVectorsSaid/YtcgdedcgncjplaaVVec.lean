/- The law PlaneVectors is true. -/
import Derived.Test.YtcgdedcgncjplaaVVa
import Derived.Test.YtcgdedcgncjplaaVVb
import Derived.Test.YtcgdedcgncjplaaVVc
namespace Go.Proofs.Ytcgdedcgncjplaa
open Go.RowKit

theorem vectors_true (m1 m2 m3 n1 n2 n3 : Int) (ao : Option Addr) (len cap : Nat) (hlen : len ≤ 9223372036854775807) (hc : len ≤ cap) (hn : ao = none → len = 0 ∧ cap = 0) (h1 : I64 m1) (h2 : I64 m2) (h3 : I64 m3) (w : World) (hl : Lst w ao len w.heap.size) :
    Calls Try.prog 3 #[V m1 m2 m3, V n1 n2 n3, .slice ao len cap] w (Gives w (.bool true)) := by
  cases ao with
  | none =>
    obtain ⟨rfl, rfl⟩ := hn rfl
    exact vec_none m1 m2 m3 n1 n2 n3 (hideV h1) (hideV h2) (hideV h3) w hl
  | some ad =>
    by_cases h : len ≤ 8
    · exact vec_le ad len cap hlen (by omega) (by omega) m1 m2 m3 n1 n2 n3 (hideV h1) (hideV h2) (hideV h3) w hl
    · exact vec_gt ad len cap hlen (by omega) (by omega) m1 m2 m3 n1 n2 n3 (hideV h1) (hideV h2) (hideV h3) w hl
end Go.Proofs.Ytcgdedcgncjplaa
