/- Div and Gcd of any Nums, right or not: num's and the reference's. -/
import Derived.Test.YtgenaicmjddjcaaGreatDoorRdF
import Derived.Test.YtgenaicmjddjcaaGreatDoorPGcd
import Derived.Test.YtgenaicmjddjcaaGreatDoorPDivL
import Derived.Test.YtgenaicmjddjcaaGreatDoorPAd
namespace Go.Proofs.YtgenaicmjddjcaaGreatDoor
open Go.RowKit Go.Shelf

theorem divs_unique {a b q r : Int} (e : a = q * b + r) (h0 : 0 ≤ r) (h1 : r < b.natAbs) (hb : b ≠ 0) : q = a / b ∧ r = a % b := by
 have e' : r + b * q = a := by rw [Int.mul_comm b q]; omega
 rcases Int.lt_or_gt_of_ne hb with h | h
 · have := (Int.ediv_emod_unique' (a := a) (r := r) (q := q) h).2 ⟨e', h0, by omega⟩
   exact ⟨this.1.symm, this.2.symm⟩
 · have := (Int.ediv_emod_unique (a := a) (r := r) (q := q) h).2 ⟨e', h0, by omega⟩
   exact ⟨this.1.symm, this.2.symm⟩
def kO : Option Int → Option Int → Bool
 | some _, some b => decide (b ≠ 0)
 | _, _ => false
theorem gcd_fit {wa wb : World} {sa sb : Bool} {aa ab : Option Addr} {na nb : Nat} {za zb : Int} (ha : IsN wa sa aa na za) (hb : IsN wb sb ab nb zb) (hna : na ≤ 64) (hnb : nb ≤ 64) : dlen ((Int.gcd za zb : Nat) : Int).natAbs ≤ 64 := by
 rw [Int.natAbs_natCast]
 unfold Int.gcd
 rcases Nat.eq_zero_or_pos za.natAbs with h | h
 · rw [h, Nat.gcd_zero_left, ← hb.dig.len]; exact hnb
 · exact Nat.le_trans (dlen_mono (Nat.le_of_dvd h (Nat.gcd_dvd_left _ _))) (by rw [← ha.dig.len]; exact hna)

end Go.Proofs.YtgenaicmjddjcaaGreatDoor
