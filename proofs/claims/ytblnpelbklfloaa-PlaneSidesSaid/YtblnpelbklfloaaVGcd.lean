/- The greatest integer that divides three ints. -/
import Derived.IntWalk
namespace Go.Proofs.Ytblnpelbklfloaa

/-- the greatest integer that divides all three; 0 of three zeros -/
def g3 (x y z : Int) : Nat := Nat.gcd (Nat.gcd x.natAbs y.natAbs) z.natAbs
theorem g3_x (x y z : Int) : (g3 x y z : Int) ∣ x := Int.ofNat_dvd_left.2 (Nat.dvd_trans (Nat.gcd_dvd_left _ _) (Nat.gcd_dvd_left _ _))
theorem g3_y (x y z : Int) : (g3 x y z : Int) ∣ y := Int.ofNat_dvd_left.2 (Nat.dvd_trans (Nat.gcd_dvd_left _ _) (Nat.gcd_dvd_right _ _))
theorem g3_z (x y z : Int) : (g3 x y z : Int) ∣ z := Int.ofNat_dvd_left.2 (Nat.gcd_dvd_right _ _)
theorem g3_greatest {x y z : Int} {d : Nat} (hx : (d : Int) ∣ x) (hy : (d : Int) ∣ y) (hz : (d : Int) ∣ z) : d ∣ g3 x y z :=
  Nat.dvd_gcd (Nat.dvd_gcd (Int.ofNat_dvd_left.1 hx) (Int.ofNat_dvd_left.1 hy)) (Int.ofNat_dvd_left.1 hz)
theorem g3_zero {x y z : Int} : g3 x y z = 0 ↔ x = 0 ∧ y = 0 ∧ z = 0 := by
  unfold g3
  rw [Nat.gcd_eq_zero_iff, Nat.gcd_eq_zero_iff]
  omega
theorem g3_mul (x y z : Int) (f : Nat) : g3 (x * f) (y * f) (z * f) = g3 x y z * f := by
  unfold g3
  rw [Int.natAbs_mul, Int.natAbs_mul, Int.natAbs_mul, Int.natAbs_natCast, Nat.gcd_mul_right, Nat.gcd_mul_right]
theorem g3_le {x y z : Int} {m : Nat} (h : x.natAbs ≤ m) (hy : y.natAbs ≤ m) (hz : z.natAbs ≤ m) : g3 x y z ≤ m := by
  by_cases e : x = 0
  · by_cases e2 : y = 0
    · by_cases e3 : z = 0
      · rw [g3_zero.2 ⟨e, e2, e3⟩]; omega
      · exact Nat.le_trans (Nat.le_of_dvd (by omega) (Int.ofNat_dvd_left.1 (g3_z x y z))) hz
    · exact Nat.le_trans (Nat.le_of_dvd (by omega) (Int.ofNat_dvd_left.1 (g3_y x y z))) hy
  · exact Nat.le_trans (Nat.le_of_dvd (by omega) (Int.ofNat_dvd_left.1 (g3_x x y z))) h
/-- divided by it, they have no common divisor but 1 -/
theorem g3_prim {x y z : Int} (h : g3 x y z ≠ 0) : g3 (x.tdiv (g3 x y z)) (y.tdiv (g3 x y z)) (z.tdiv (g3 x y z)) = 1 := by
  have e := g3_mul (x.tdiv (g3 x y z)) (y.tdiv (g3 x y z)) (z.tdiv (g3 x y z)) (g3 x y z)
  rw [Int.tdiv_mul_cancel (g3_x x y z), Int.tdiv_mul_cancel (g3_y x y z), Int.tdiv_mul_cancel (g3_z x y z)] at e
  have h' : 0 < g3 x y z := by omega
  exact Nat.eq_of_mul_eq_mul_right h' (by rw [Nat.one_mul]; exact e.symm)
/-- no number greater than 1 divides all three where the greatest is 1 -/
theorem g3_none {x y z : Int} (h : g3 x y z = 1) {d : Nat} (hd : 1 < d) (hx : (d : Int) ∣ x) (hy : (d : Int) ∣ y) (hz : (d : Int) ∣ z) : False := by
  have := Nat.le_of_dvd (by omega) (h ▸ g3_greatest hx hy hz)
  omega
/-- a vector and its multiple have the same primitive one -/
theorem g3_scale (x y z : Int) (f : Nat) (hf : 0 < f) : (x * f).tdiv (g3 (x * f) (y * f) (z * f)) = x.tdiv (g3 x y z) := by
  rw [g3_mul, Int.natCast_mul]
  exact Int.mul_tdiv_mul_of_pos_left x _ (by omega)
/-- Euclid's algorithm by signed remainders -/
theorem gcd_tmod (a b : Int) : Int.gcd b (a.tmod b) = Int.gcd a b := by
  rw [Int.gcd_comm a b]
  show Nat.gcd b.natAbs (a.tmod b).natAbs = Nat.gcd b.natAbs a.natAbs
  rw [Int.natAbs_tmod, Nat.gcd_comm b.natAbs (a.natAbs % b.natAbs), Nat.gcd_comm b.natAbs a.natAbs, ← Nat.gcd_rec, Nat.gcd_comm]
end Go.Proofs.Ytblnpelbklfloaa
