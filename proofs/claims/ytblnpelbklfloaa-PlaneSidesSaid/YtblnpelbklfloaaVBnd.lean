/- Bounds and identities of vectors of three ints. -/
import Derived.Test.YtblnpelbklfloaaVGcd
namespace Go.Proofs.Ytblnpelbklfloaa

theorem mul_nat {x y : Int} {a b : Nat} (hx : x.natAbs ≤ a) (hy : y.natAbs ≤ b) : (x * y).natAbs ≤ a * b := by
  rw [Int.natAbs_mul]; exact Nat.mul_le_mul hx hy
theorem mul_in {x y : Int} {a b : Nat} (h1 : -(a : Int) ≤ x) (h2 : x ≤ a) (h3 : -(b : Int) ≤ y) (h4 : y ≤ b) : -((a * b : Nat) : Int) ≤ x * y ∧ x * y ≤ ((a * b : Nat) : Int) := by
  have := mul_nat (x := x) (y := y) (a := a) (b := b) (by omega) (by omega)
  omega
theorem g3_neg (x y z : Int) : g3 (-x) (-y) (-z) = g3 x y z := by unfold g3; rw [Int.natAbs_neg, Int.natAbs_neg, Int.natAbs_neg]
/-- what divides all components divides the inner product with any vector -/
theorem g3_dot (x y z a b c : Int) : (g3 x y z : Int) ∣ x * a + y * b + z * c :=
  Int.dvd_add (Int.dvd_add (Int.dvd_mul_of_dvd_left (g3_x x y z)) (Int.dvd_mul_of_dvd_left (g3_y x y z))) (Int.dvd_mul_of_dvd_left (g3_z x y z))
/-- the inner product of the primitive vector, times what it was divided by -/
theorem prim_dot (x y z a b c : Int) : (x.tdiv (g3 x y z) * a + y.tdiv (g3 x y z) * b + z.tdiv (g3 x y z) * c) * (g3 x y z : Int) = x * a + y * b + z * c := by
  have e1 := Int.tdiv_mul_cancel (g3_x x y z)
  have e2 := Int.tdiv_mul_cancel (g3_y x y z)
  have e3 := Int.tdiv_mul_cancel (g3_z x y z)
  grind
/-- two points with the same inner product with a vector have the same with the primitive one -/
theorem prim_same {x y z a b c a' b' c' : Int} (h : g3 x y z ≠ 0) (e : x * a + y * b + z * c = x * a' + y * b' + z * c') :
    x.tdiv (g3 x y z) * a + y.tdiv (g3 x y z) * b + z.tdiv (g3 x y z) * c = x.tdiv (g3 x y z) * a' + y.tdiv (g3 x y z) * b' + z.tdiv (g3 x y z) * c' := by
  rw [← prim_dot x y z a b c, ← prim_dot x y z a' b' c'] at e
  exact Int.eq_of_mul_eq_mul_right (by omega) e
theorem tdiv_nat (x : Int) (g : Nat) : (x.tdiv g).natAbs ≤ x.natAbs := by
  rw [Int.natAbs_tdiv, Int.natAbs_natCast]
  exact Nat.div_le_self _ _
/-- one component within the half side: its product is at most the absolute value times the half side -/
theorem reach_one {n d : Int} {e : Nat} (h : d.natAbs ≤ e) : n * d ≤ n.natAbs * (e : Int) ∧ -(n.natAbs * (e : Int)) ≤ n * d := by
  have := mul_nat (x := n) (y := d) (Nat.le_refl _) h
  rw [← Int.natCast_mul]
  omega
/-- the corner on the side where the vector points -/
theorem reach_eq (n : Int) (e : Int) : n * ((if n < 0 then -1 else 1) * e) = n.natAbs * e := by
  by_cases h : n < 0
  · rw [if_pos h, show (n.natAbs : Int) = -n by omega]; grind
  · rw [if_neg h, show (n.natAbs : Int) = n by omega]; grind
end Go.Proofs.Ytblnpelbklfloaa
