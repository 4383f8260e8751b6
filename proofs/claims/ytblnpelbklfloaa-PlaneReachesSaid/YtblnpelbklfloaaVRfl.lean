/- The law PlaneReaches is true. -/
import Derived.Test.YtblnpelbklfloaaVRcx
import Derived.Test.YtblnpelbklfloaaVRcy
import Derived.Test.YtblnpelbklfloaaVRcz
namespace Go.Proofs.Ytblnpelbklfloaa
open Go.RowKit

theorem head_of {a : Option Addr} {L k : Nat} (hk : L ≤ k) (hn : a = none → L = 0 ∧ k = 0) : Hid (Head a L (min L 12) k) := by
  cases a with
  | none => obtain ⟨rfl, rfl⟩ := hn rfl; exact hideV (.inr ⟨rfl, rfl, rfl, rfl⟩)
  | some ad => exact hideV (.inl ⟨ad, rfl, by omega⟩)
theorem min_of (L : Nat) : Hid ((if 12 < (L : Int) then 12 else (L : Int)) = ((min L 12 : Nat) : Int)) := by
  refine hideV ?_
  split <;> omega
theorem reaches_true (a0 a1 ao : Option Addr) (L0 L1 len k0 k1 cap : Nat) (e0 e1 e2 g0 g1 g2 : Int) (w : World) (q0 : L0 ≤ 9223372036854775807 ∧ Lst w a0 L0 w.heap.size ∧ L0 ≤ k0 ∧ (a0 = none → L0 = 0 ∧ k0 = 0)) (q1 : L1 ≤ 9223372036854775807 ∧ Lst w a1 L1 w.heap.size ∧ L1 ≤ k1 ∧ (a1 = none → L1 = 0 ∧ k1 = 0))
    (hlen : len ≤ 9223372036854775807) (hl : Lst w ao len w.heap.size) (hc : len ≤ cap) (hn : ao = none → len = 0 ∧ cap = 0) (he0 : 0 ≤ e0 ∧ e0 ≤ 255) (he1 : 0 ≤ e1 ∧ e1 ≤ 255) (he2 : 0 ≤ e2 ∧ e2 ≤ 255) (hg0 : 0 ≤ g0 ∧ g0 ≤ 255) (hg1 : 0 ≤ g1 ∧ g1 ≤ 255) (hg2 : 0 ≤ g2 ∧ g2 ≤ 255) :
    Calls Try.prog 9 #[.agg #[.slice a0 L0 k0, .slice a1 L1 k1], .slice ao len cap, .agg #[.int .u8 e0, .int .u8 e1, .int .u8 e2], .agg #[.int .u8 g0, .int .u8 g1, .int .u8 g2]] w (Gives w (.bool true)) := by
  obtain ⟨e0, rfl⟩ := Int.eq_ofNat_of_zero_le he0.1
  obtain ⟨e1, rfl⟩ := Int.eq_ofNat_of_zero_le he1.1
  obtain ⟨e2, rfl⟩ := Int.eq_ofNat_of_zero_le he2.1
  obtain ⟨g0, rfl⟩ := Int.eq_ofNat_of_zero_le hg0.1
  obtain ⟨g1, rfl⟩ := Int.eq_ofNat_of_zero_le hg1.1
  obtain ⟨g2, rfl⟩ := Int.eq_ofNat_of_zero_le hg2.1
  obtain ⟨z0, l0, c0, n0⟩ := q0
  obtain ⟨z1, l1, c1, n1⟩ := q1
  cases ao with
  | none =>
    obtain ⟨rfl, rfl⟩ := hn rfl
    exact rch_none a0 a1 L0 L1 (min L0 12) (min L1 12) k0 k1 e0 e1 e2 g0 g1 g2 (by omega) (by omega) (by omega) (by omega) (by omega) (by omega) z0 z1 (by omega) (by omega) (min_of L0) (min_of L1) (head_of c0 n0) (head_of c1 n1) w l0 l1 hl
  | some ad =>
    by_cases h : len ≤ 16
    · exact rch_le a0 a1 L0 L1 (min L0 12) (min L1 12) k0 k1 ad len cap hlen (by omega) (by omega) e0 e1 e2 g0 g1 g2 (by omega) (by omega) (by omega) (by omega) (by omega) (by omega) z0 z1 (by omega) (by omega) (min_of L0) (min_of L1) (head_of c0 n0) (head_of c1 n1) w l0 l1 hl
    · exact rch_gt a0 a1 L0 L1 (min L0 12) (min L1 12) k0 k1 ad len cap hlen (by omega) (by omega) e0 e1 e2 g0 g1 g2 (by omega) (by omega) (by omega) (by omega) (by omega) (by omega) z0 z1 (by omega) (by omega) (min_of L0) (min_of L1) (head_of c0 n0) (head_of c1 n1) w l0 l1 hl
end Go.Proofs.Ytblnpelbklfloaa
