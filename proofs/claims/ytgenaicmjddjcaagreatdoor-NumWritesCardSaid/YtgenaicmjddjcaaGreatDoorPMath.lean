/- Several texts in one. -/
import Derived.Lib.ItoaNum
/- Plain arithmetic of digits to the base 2^32: the value of the first k digits of a sequence, the digits of a number, their count. It speaks of no program. -/
namespace Go.Proofs.YtgenaicmjddjcaaGreatDoor

theorem pA {α : Type _} (l : List α) (i : Nat) (a : α) : l.toArray.setIfInBounds i a = (l.set i a).toArray := by simp
theorem pB {α : Type _} (x a : α) (l : List α) : (x :: l).set 0 a = a :: l := rfl
theorem pC {α : Type _} (x a : α) (l : List α) (i : Nat) : (x :: l).set (i + 1) a = x :: l.set i a := rfl

def bp (k : Nat) : Nat := 4294967296 ^ k
theorem bp_zero : bp 0 = 1 := rfl
theorem bp_succ (k : Nat) : bp (k + 1) = 4294967296 * bp k := by unfold bp; rw [Nat.pow_succ, Nat.mul_comm]
theorem bp_pos (k : Nat) : 0 < bp k := Nat.pow_pos (by decide)
theorem bp_add (a b : Nat) : bp (a + b) = bp a * bp b := Nat.pow_add _ _ _
theorem bp_le {a b : Nat} (h : a ≤ b) : bp a ≤ bp b := Nat.pow_le_pow_right (by decide) h
theorem bp_one : bp 1 = 4294967296 := by decide
theorem bp_two : bp 2 = 18446744073709551616 := by decide

def valF (f : Nat → Nat) : Nat → Nat
 | 0 => 0
 | k + 1 => valF f k + f k * bp k
theorem valF_zero (f : Nat → Nat) : valF f 0 = 0 := rfl
theorem valF_succ (f : Nat → Nat) (k : Nat) : valF f (k + 1) = valF f k + f k * bp k := rfl
theorem valF_congr {f g : Nat → Nat} {k : Nat} (h : ∀ j, j < k → f j = g j) : valF f k = valF g k := by
 induction k with
 | zero => rfl
 | succ k ih => rw [valF_succ, valF_succ, ih (fun j hj => h j (by omega)), h k (by omega)]
theorem valF_lt {f : Nat → Nat} {k : Nat} (h : ∀ j, j < k → f j < 4294967296) : valF f k < bp k := by
 induction k with
 | zero => exact bp_pos 0
 | succ k ih =>
   have h1 := ih (fun j hj => h j (by omega))
   have h2 := h k (by omega)
   rw [valF_succ, bp_succ]
   have : f k * bp k ≤ 4294967295 * bp k := Nat.mul_le_mul_right _ (by omega)
   omega
theorem valF_add (f : Nat → Nat) (a b : Nat) : valF f (a + b) = valF f a + bp a * valF (fun j => f (a + j)) b := by
 induction b with
 | zero => simp [valF_zero]
 | succ b ih =>
   rw [← Nat.add_assoc, valF_succ, ih, valF_succ, bp_add, Nat.mul_add, Nat.add_assoc]
   congr 2
   rw [Nat.mul_left_comm]
theorem valF_zeros {f : Nat → Nat} {k : Nat} (h : ∀ j, j < k → f j = 0) : valF f k = 0 := by
 induction k with
 | zero => rfl
 | succ k ih => rw [valF_succ, ih (fun j hj => h j (by omega)), h k (by omega)]; simp

def dgt (n i : Nat) : Nat := n / bp i % 4294967296
theorem dgt_lt (n i : Nat) : dgt n i < 4294967296 := Nat.mod_lt _ (by decide)
theorem mod_bp_succ (n k : Nat) : n % bp (k + 1) = n % bp k + dgt n k * bp k := by
 unfold dgt
 rw [bp_succ, Nat.mul_comm 4294967296, Nat.mod_mul, Nat.mul_comm (bp k)]
theorem valF_dgt (n k : Nat) : valF (dgt n) k = n % bp k := by
 induction k with
 | zero => rw [valF_zero, bp_zero, Nat.mod_one]
 | succ k ih => rw [valF_succ, ih, mod_bp_succ]
theorem dgt_add_low {r q k j : Nat} (h : j < k) : dgt (r + bp k * q) j = dgt r j := by
 unfold dgt
 obtain ⟨d, rfl⟩ : ∃ d, k = j + 1 + d := ⟨k - j - 1, by omega⟩
 rw [bp_add, bp_succ, Nat.mul_comm 4294967296, Nat.mul_assoc, Nat.mul_assoc, Nat.add_mul_div_left _ _ (bp_pos j), Nat.add_mul_mod_self_left]
theorem dgt_add_high {r q k j : Nat} (hr : r < bp k) : dgt (r + bp k * q) (k + j) = dgt q j := by
 unfold dgt
 rw [bp_add, ← Nat.div_div_eq_div_mul, Nat.add_mul_div_left _ _ (bp_pos k), Nat.div_eq_of_lt hr, Nat.zero_add]
theorem dgt_valF {f : Nat → Nat} {k j : Nat} (h : ∀ i, i < k → f i < 4294967296) (hj : j < k) : dgt (valF f k) j = f j := by
 induction k with
 | zero => omega
 | succ k ih =>
   rw [valF_succ, Nat.mul_comm]
   by_cases e : j < k
   · rw [dgt_add_low e]; exact ih (fun i hi => h i (by omega)) e
   · obtain rfl : j = k := by omega
     have := dgt_add_high (j := 0) (q := f j) (valF_lt (fun i hi => h i (by omega)) : valF f j < bp j)
     rw [Nat.add_zero] at this
     rw [this]
     unfold dgt
     rw [bp_zero, Nat.div_one, Nat.mod_eq_of_lt (h j (by omega))]

def dlen (n : Nat) : Nat := if h : n = 0 then 0 else dlen (n / 4294967296) + 1
termination_by n
decreasing_by exact Nat.div_lt_self (by omega) (by decide)
theorem dlen_zero : dlen 0 = 0 := by unfold dlen; rfl
theorem dlen_pos {n : Nat} (h : n ≠ 0) : dlen n = dlen (n / 4294967296) + 1 := by
 conv => lhs; unfold dlen
 rw [dif_neg h]
theorem lt_bp_dlen (n : Nat) : n < bp (dlen n) := by
 induction n using Nat.strongRecOn with
 | _ n ih =>
   by_cases h : n = 0
   · subst h; rw [dlen_zero]; decide
   · rw [dlen_pos h, bp_succ]
     have := ih (n / 4294967296) (Nat.div_lt_self (by omega) (by decide))
     omega
theorem dlen_le_iff {n k : Nat} : dlen n ≤ k ↔ n < bp k := by
 constructor
 · intro h; exact Nat.lt_of_lt_of_le (lt_bp_dlen n) (bp_le h)
 · induction k generalizing n with
   | zero => intro h; rw [bp_zero] at h; obtain rfl : n = 0 := by omega
             rw [dlen_zero]; exact Nat.le_refl _
   | succ k ih =>
     intro h
     by_cases h0 : n = 0
     · subst h0; rw [dlen_zero]; omega
     · rw [dlen_pos h0]
       have : n / 4294967296 < bp k := by rw [bp_succ] at h; omega
       have := ih this
       omega
theorem dlen_eq_zero {n : Nat} : dlen n = 0 ↔ n = 0 := by
 constructor
 · intro h; have := lt_bp_dlen n; rw [h, bp_zero] at this; omega
 · rintro rfl; exact dlen_zero
theorem bp_dlen_le {n : Nat} (h : n ≠ 0) : bp (dlen n - 1) ≤ n := by
 have h1 : dlen n ≠ 0 := fun e => h (dlen_eq_zero.1 e)
 have h2 : ¬ dlen n ≤ dlen n - 1 := by omega
 rw [dlen_le_iff] at h2
 omega
theorem dgt_top {n : Nat} (h : n ≠ 0) : dgt n (dlen n - 1) ≠ 0 := by
 have h1 : dlen n ≠ 0 := fun e => h (dlen_eq_zero.1 e)
 have h2 := bp_dlen_le h
 have h3 := lt_bp_dlen n
 obtain ⟨k, hk⟩ : ∃ k, dlen n = k + 1 := ⟨dlen n - 1, by omega⟩
 rw [hk] at h2 h3 ⊢
 simp only [Nat.add_sub_cancel] at h2 ⊢
 unfold dgt
 have h4 : n / bp k < 4294967296 := by
  rw [Nat.div_lt_iff_lt_mul (bp_pos k)]; rw [bp_succ] at h3; exact h3
 rw [Nat.mod_eq_of_lt h4]
 have : 1 ≤ n / bp k := by rw [Nat.le_div_iff_mul_le (bp_pos k)]; omega
 omega
theorem valF_dlen (n : Nat) : valF (dgt n) (dlen n) = n := by rw [valF_dgt, Nat.mod_eq_of_lt (lt_bp_dlen n)]
theorem dlen_valF {f : Nat → Nat} {k : Nat} (h : ∀ i, i < k → f i < 4294967296) (ht : k = 0 ∨ f (k - 1) ≠ 0) : dlen (valF f k) = k := by
 have h1 : dlen (valF f k) ≤ k := dlen_le_iff.2 (valF_lt h)
 rcases ht with rfl | ht
 · omega
 · by_cases hk : k = 0
   · omega
   · obtain ⟨m, rfl⟩ : ∃ m, k = m + 1 := ⟨k - 1, by omega⟩
     simp only [Nat.add_sub_cancel] at ht
     have : ¬ dlen (valF f (m + 1)) ≤ m := by
      rw [dlen_le_iff, valF_succ]
      have : bp m ≤ f m * bp m := Nat.le_mul_of_pos_left _ (by omega)
      omega
     omega
theorem dlen_mono {a b : Nat} (h : a ≤ b) : dlen a ≤ dlen b := dlen_le_iff.2 (Nat.lt_of_le_of_lt h (lt_bp_dlen b))
theorem lt_of_dlen {a b : Nat} (h : dlen a < dlen b) : a < b := by
 have : ¬ b ≤ a := fun e => by have := dlen_mono e; omega
 omega
theorem valF_lt_valF {f g : Nat → Nat} {k m : Nat} (hk : k < m) (hf : ∀ i, i < m → f i < 4294967296) (he : ∀ j, k < j → j < m → f j = g j) (hlt : f k < g k) : valF f m < valF g m := by
 induction m with
 | zero => omega
 | succ m ih =>
   rw [valF_succ, valF_succ]
   by_cases e : k = m
   · subst e
     have h1 := valF_lt (fun i hi => hf i (by omega) : ∀ i, i < k → f i < 4294967296)
     have h2 : (f k + 1) * bp k ≤ g k * bp k := Nat.mul_le_mul_right _ hlt
     rw [Nat.add_mul, Nat.one_mul] at h2
     omega
   · have := ih (by omega) (fun i hi => hf i (by omega)) (fun j h1 h2 => he j h1 (by omega))
     rw [he m (by omega) (by omega)]
     omega
theorem cast_muladd (r x y c : Nat) : ((r : Int) + ((x : Int) + (y : Int) * (c : Int))) = ((r + (x + y * c) : Nat) : Int) := by
 have := Int.natCast_mul y c; omega
theorem cast_mod32 (t : Nat) : (t : Int) % 4294967296 = ((t % 4294967296 : Nat) : Int) := by omega
theorem cast_div32 (t : Nat) : (t : Int) / 4294967296 = ((t / 4294967296 : Nat) : Int) := by omega
theorem split_mul (t P : Nat) : t % 4294967296 * P + t / 4294967296 * (4294967296 * P) = t * P := by
 rw [← Nat.mul_assoc, ← Nat.add_mul, Nat.mul_comm (t / 4294967296), Nat.mod_add_div]
theorem add_step {A' A G P r x y c : Nat} (h : A' + r * P = A + c * G) :
 A' + (r + (x + y * c)) % 4294967296 * P + (r + (x + y * c)) / 4294967296 * (4294967296 * P) = A + x * P + c * (G + y * P) := by
 rw [Nat.add_assoc, split_mul, Nat.add_mul, Nat.add_mul, Nat.mul_add, Nat.mul_comm y c, Nat.mul_assoc]
 omega
theorem sub_step {A' A G P r x y c v s : Nat} (h : A' + c * G = A + r * P) (hv : v + (r + y * c) % 4294967296 = x + 4294967296 * s) :
 A' + v * P + c * (G + y * P) = A + x * P + ((r + y * c) / 4294967296 + s) * (4294967296 * P) := by
 have h1 := split_mul (r + y * c) P
 have h2 : v * P + (r + y * c) % 4294967296 * P = x * P + s * (4294967296 * P) := by
  rw [← Nat.add_mul, hv, Nat.add_mul, Nat.mul_comm 4294967296 s, Nat.mul_assoc]
 have h3 : (r + y * c) * P = r * P + c * (y * P) := by rw [Nat.add_mul, Nat.mul_comm y c, Nat.mul_assoc]
 rw [Nat.mul_add, Nat.add_mul]
 omega
theorem sub_step0 {A' A G P r x v s : Nat} (h : A' + G = A + r * P) (hv : v + r % 4294967296 = x + 4294967296 * s) :
 A' + v * P + G = A + x * P + (r / 4294967296 + s) * (4294967296 * P) := by
 have h1 := split_mul r P
 have h2 : v * P + r % 4294967296 * P = x * P + s * (4294967296 * P) := by
  rw [← Nat.add_mul, hv, Nat.add_mul, Nat.mul_comm 4294967296 s, Nat.mul_assoc]
 rw [Nat.add_mul]
 omega
theorem borrow_lt {r y c : Nat} (hr : r < 4294967296) (hy : y < 4294967296) (hc : c < 4294967296) : (r + y * c) / 4294967296 < 4294967295 ∨ ((r + y * c) / 4294967296 = 4294967295 ∧ (r + y * c) % 4294967296 = 0) := by
 have : y * c ≤ 4294967295 * 4294967295 := Nat.mul_le_mul (by omega) (by omega)
 omega
theorem mul32_le {y c : Nat} (hy : y < 4294967296) (hc : c < 4294967296) : (y : Int) * (c : Int) ≤ 18446744065119617025 ∧ 0 ≤ (y : Int) * (c : Int) := by
 have : y * c ≤ 4294967295 * 4294967295 := Nat.mul_le_mul (by omega) (by omega)
 rw [← Int.natCast_mul]; omega
theorem cast_muladd' (r y c : Nat) : ((r : Int) + (y : Int) * (c : Int)) = ((r + y * c : Nat) : Int) := by
 have := Int.natCast_mul y c; omega
end Go.Proofs.YtgenaicmjddjcaaGreatDoor

/- Plain arithmetic of long division: digits shifted by bits, the estimate of a digit of the quotient from three digits by two, a quotient of two words by one. It speaks of no program. -/
namespace Go.Proofs.YtgenaicmjddjcaaGreatDoor

end Go.Proofs.YtgenaicmjddjcaaGreatDoor

/- Plain arithmetic of long division: the top digits, and what is left of the number while the digits of the quotient are taken out. It speaks of no program. -/
namespace Go.Proofs.YtgenaicmjddjcaaGreatDoor

end Go.Proofs.YtgenaicmjddjcaaGreatDoor

/- Plain arithmetic of Lehmer's method: the first steps of Euclid's algorithm, read off the leading bits of two numbers. It speaks of no program. -/
namespace Go.Proofs.YtgenaicmjddjcaaGreatDoor

end Go.Proofs.YtgenaicmjddjcaaGreatDoor

/- Plain arithmetic of Lehmer's method: the leading bits of a number, and two sums of products digit by digit. It speaks of no program. -/
namespace Go.Proofs.YtgenaicmjddjcaaGreatDoor

end Go.Proofs.YtgenaicmjddjcaaGreatDoor

/- Plain arithmetic of division in binary. It speaks of no program. -/
namespace Go.Proofs.YtgenaicmjddjcaaGreatDoor

end Go.Proofs.YtgenaicmjddjcaaGreatDoor

