/- Small laws of right Nums: equal ones are the same, absolute values, bounds of sums and products, order. -/
import Derived.Test.YtmpdeiopdempcaaGreatDoorNumU
import Derived.Test.YtmpdeiopdempcaaGreatDoorNumP
import Derived.Test.YtmpdeiopdempcaaGreatDoorNumK
namespace Go.Proofs.YtmpdeiopdempcaaGreatDoor
open Go.RowKit Go.Shelf

theorem eq_num {w : World} {s : Bool} {a : Option Addr} {n : Nat} {z z' : Int} (e : z = z') (h : IsN w s a n z') : IsN w s a n z := e ▸ h
theorem abs_num {w : World} {s : Bool} {a : Option Addr} {n : Nat} {z : Int} (h : IsN w s a n z) : IsN w false a n (z.natAbs : Int) := ⟨by simp, by rw [Int.natAbs_natCast]; exact h.dig⟩
theorem num_pos {w : World} {s : Bool} {a : Option Addr} {n : Nat} {z : Int} (h : IsN w s a n z) (h0 : ¬ n = 0) : z ≠ 0 := fun e => h0 (by rw [h.dig.len, e]; exact dlen_zero)
theorem num_zero {w : World} {s : Bool} {a : Option Addr} {z : Int} (h : IsN w s a 0 z) : z = 0 := by
  have := h.dig.len.symm
  rw [dlen_eq_zero] at this; omega
theorem same_eq (s1 s2 : Bool) (a1 a2 : Option Addr) (n1 n2 c1 c2 : Nat) (z : Int) (hn : n1 ≤ 64) (w : World) (h1 : IsN w s1 a1 n1 z) (h2 : IsN w s2 a2 n2 z) :
    Calls Tryz.prog 18 #[.agg #[.bool s1, .slice a1 n1 c1], .agg #[.bool s2, .slice a2 n2 c2]] w fun e w' => e = .returned (.bool true) ∧ Below w.heap.size w w' := by
  obtain rfl : s2 = s1 := h2.sign.trans h1.sign.symm
  obtain rfl : n2 = n1 := h2.dig.len.trans h1.dig.len.symm
  exact same_yes s2 a1 a2 n2 c1 c2 (dgt z.natAbs) (by omega) w h1.dig.dig h2.dig.dig
theorem num_lt {w : World} {s : Bool} {a : Option Addr} {n k : Nat} {z : Int} (h : IsN w s a n z) (hn : n ≤ k) : z.natAbs < bp k := dlen_le_iff.1 (by rw [← h.dig.len]; exact hn)
theorem fit_of {z : Int} {k : Nat} (h : z.natAbs < bp k) (hk : k ≤ 64) : dlen z.natAbs ≤ 64 := Nat.le_trans (dlen_le_iff.2 h) hk
theorem add_lt {x y : Int} {k : Nat} (hx : x.natAbs < bp k) (hy : y.natAbs < bp k) : (x + y).natAbs < bp (k + 1) := by
  rw [bp_succ]; have := bp_pos k; omega
theorem sub_lt {x y : Int} {k : Nat} (hx : x.natAbs < bp k) (hy : y.natAbs < bp k) : (x - y).natAbs < bp (k + 1) := by
  rw [bp_succ]; have := bp_pos k; omega
theorem mul_lt {x y : Int} {i j : Nat} (hx : x.natAbs < bp i) (hy : y.natAbs < bp j) : (x * y).natAbs < bp (i + j) := by
  rw [Int.natAbs_mul, bp_add]
  exact Nat.lt_of_le_of_lt (Nat.mul_le_mul_left _ (Nat.le_of_lt hy)) ((Nat.mul_lt_mul_right (bp_pos j)).2 hx)
theorem lt_mono {z : Int} {i j : Nat} (h : z.natAbs < bp i) (hj : i ≤ j) : z.natAbs < bp j := Nat.lt_of_lt_of_le h (bp_le hj)
theorem ring_dist (A B C : Int) : (A + B) * C = C * A + B * C := by rw [Int.add_mul, Int.mul_comm A C]
theorem cmpZ_bd (x y : Int) : -1 ≤ cmpZ x y ∧ cmpZ x y ≤ 1 := by unfold cmpZ; split <;> (try split) <;> omega
theorem cmpZ_swap (x y : Int) : cmpZ y x = - cmpZ x y := by unfold cmpZ; split <;> split <;> (try split) <;> (try split) <;> omega
theorem cmpZ_add (x y c : Int) : cmpZ (x + c) (y + c) = cmpZ x y := by unfold cmpZ; simp only [Int.add_lt_add_iff_right, Int.add_left_inj]
theorem cmpZ_mul (x y : Int) {c : Int} (hc : 0 < c) : cmpZ (x * c) (y * c) = cmpZ x y := by
  rcases Int.lt_trichotomy x y with h | h | h
  · have : x * c < y * c := Int.mul_lt_mul_of_pos_right h hc
    unfold cmpZ; rw [if_pos this, if_pos h]
  · subst h; unfold cmpZ; simp
  · have : y * c < x * c := Int.mul_lt_mul_of_pos_right h hc
    unfold cmpZ; rw [if_neg (by omega), if_neg (by omega), if_neg (by omega), if_neg (by omega)]
end Go.Proofs.YtmpdeiopdempcaaGreatDoor
