/- The path from a leaf to the root. -/
import Derived.Test.YtmiidniihbhkdaaDHalvesM
namespace Go.Proofs.Ytmiidniihbhkdaa

theorem climb_off {P P' : Nat → List UInt8} {i : Nat} (h : ∀ k, k ≠ i → P' k = P k) : ∀ (t j : Nat), j ≠ i / 2 ^ t → climbP P' t j = climbP P t j := by
  intro t
  induction t with
  | zero => intro j hj; exact h j (by simpa using hj)
  | succ t ih =>
    intro j hj
    have e : i / 2 ^ (t + 1) = i / 2 ^ t / 2 := by rw [Nat.pow_succ, Nat.div_div_eq_div_mul]
    rw [e] at hj
    show 2 :: (dig (climbP P' t (2 * j)) ++ dig (climbP P' t (2 * j + 1))) = 2 :: (dig (climbP P t (2 * j)) ++ dig (climbP P t (2 * j + 1)))
    rw [ih _ (by omega), ih _ (by omega)]
theorem climb_even {P : Nat → List UInt8} {t a : Nat} (h : a % 2 = 0) : climbP P (t + 1) (a / 2) = 2 :: (dig (climbP P t a) ++ dig (climbP P t (a + 1))) := by
  show 2 :: (dig (climbP P t (2 * (a / 2))) ++ dig (climbP P t (2 * (a / 2) + 1))) = _
  rw [show 2 * (a / 2) = a by omega]
theorem climb_odd {P : Nat → List UInt8} {t a : Nat} (h : ¬ a % 2 = 0) : climbP P (t + 1) (a / 2) = 2 :: (dig (climbP P t (a - 1)) ++ dig (climbP P t a)) := by
  show 2 :: (dig (climbP P t (2 * (a / 2))) ++ dig (climbP P t (2 * (a / 2) + 1))) = _
  rw [show 2 * (a / 2) = a - 1 by omega, show a - 1 + 1 = a by omega]
theorem path_lt {i n t : Nat} (hi : i < n) (ht : t ≤ lg n) : i / 2 ^ t < 2 ^ (lg n - t) := by
  have h1 := le_lg n
  have h2 : 2 ^ lg n = 2 ^ t * 2 ^ (lg n - t) := by rw [← Nat.pow_add, Nat.add_sub_cancel' ht]
  rw [Nat.div_lt_iff_lt_mul (Nat.two_pow_pos t), Nat.mul_comm, ← h2]
  omega
theorem and_pow : ∀ m : Fin 17, ∀ j : Fin 17, 1 ≤ m.val → m.val ≤ j.val → j.val ≤ 2 ^ lg m.val → ((j.val &&& (j.val - 1)) = 0 ↔ j.val = 2 ^ lg m.val) := by decide +kernel
theorem lg_16 : ∀ m : Fin 17, 2 ^ lg m.val ≤ 16 := by decide +kernel
theorem and_test {m j : Nat} (hm1 : 1 ≤ m) (hm : m ≤ 16) (h1 : m ≤ j) (h2 : j ≤ 2 ^ lg m) : ((j &&& (j - 1)) = 0 ↔ j = 2 ^ lg m) :=
  and_pow ⟨m, by omega⟩ ⟨j, by have := lg_16 ⟨m, by omega⟩; simp only at this; omega⟩ hm1 h1 h2
theorem lg_le16 {m : Nat} (hm : m ≤ 16) : 2 ^ lg m ≤ 16 := lg_16 ⟨m, by omega⟩
end Go.Proofs.Ytmiidniihbhkdaa
