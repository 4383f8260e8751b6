/- Several texts in one. -/
import Derived.Lib.ItoaNum
/- Plain arithmetic of digits to the base 2^32: the value of the first k digits of a sequence, the digits of a number, their count. It speaks of no program. -/
namespace Go.Proofs.YtgenaicmjddjcaaGreatDoor

theorem pA {α : Type _} (l : List α) (i : Nat) (a : α) : l.toArray.setIfInBounds i a = (l.set i a).toArray := by simp
theorem pB {α : Type _} (x a : α) (l : List α) : (x :: l).set 0 a = a :: l := rfl
theorem pC {α : Type _} (x a : α) (l : List α) (i : Nat) : (x :: l).set (i + 1) a = x :: l.set i a := rfl

def bp (k : Nat) : Nat := 4294967296 ^ k
theorem bp_zero : bp 0 = 1 := rfl
theorem bp_succ (k : Nat) : bp (k + 1) = 4294967296 * bp k := by unfold bp; rw [Nat.pow_succ, Nat.mul_comm]
theorem bp_pos (k : Nat) : 0 < bp k := Nat.pow_pos (by decide)
theorem bp_add (a b : Nat) : bp (a + b) = bp a * bp b := Nat.pow_add _ _ _
theorem bp_le {a b : Nat} (h : a ≤ b) : bp a ≤ bp b := Nat.pow_le_pow_right (by decide) h
theorem bp_one : bp 1 = 4294967296 := by decide
theorem bp_two : bp 2 = 18446744073709551616 := by decide

def valF (f : Nat → Nat) : Nat → Nat
 | 0 => 0
 | k + 1 => valF f k + f k * bp k
theorem valF_zero (f : Nat → Nat) : valF f 0 = 0 := rfl
theorem valF_succ (f : Nat → Nat) (k : Nat) : valF f (k + 1) = valF f k + f k * bp k := rfl
theorem valF_congr {f g : Nat → Nat} {k : Nat} (h : ∀ j, j < k → f j = g j) : valF f k = valF g k := by
 induction k with
 | zero => rfl
 | succ k ih => rw [valF_succ, valF_succ, ih (fun j hj => h j (by omega)), h k (by omega)]
theorem valF_lt {f : Nat → Nat} {k : Nat} (h : ∀ j, j < k → f j < 4294967296) : valF f k < bp k := by
 induction k with
 | zero => exact bp_pos 0
 | succ k ih =>
   have h1 := ih (fun j hj => h j (by omega))
   have h2 := h k (by omega)
   rw [valF_succ, bp_succ]
   have : f k * bp k ≤ 4294967295 * bp k := Nat.mul_le_mul_right _ (by omega)
   omega
theorem valF_add (f : Nat → Nat) (a b : Nat) : valF f (a + b) = valF f a + bp a * valF (fun j => f (a + j)) b := by
 induction b with
 | zero => simp [valF_zero]
 | succ b ih =>
   rw [← Nat.add_assoc, valF_succ, ih, valF_succ, bp_add, Nat.mul_add, Nat.add_assoc]
   congr 2
   rw [Nat.mul_left_comm]
theorem valF_zeros {f : Nat → Nat} {k : Nat} (h : ∀ j, j < k → f j = 0) : valF f k = 0 := by
 induction k with
 | zero => rfl
 | succ k ih => rw [valF_succ, ih (fun j hj => h j (by omega)), h k (by omega)]; simp

def dgt (n i : Nat) : Nat := n / bp i % 4294967296
theorem dgt_lt (n i : Nat) : dgt n i < 4294967296 := Nat.mod_lt _ (by decide)
theorem mod_bp_succ (n k : Nat) : n % bp (k + 1) = n % bp k + dgt n k * bp k := by
 unfold dgt
 rw [bp_succ, Nat.mul_comm 4294967296, Nat.mod_mul, Nat.mul_comm (bp k)]
theorem valF_dgt (n k : Nat) : valF (dgt n) k = n % bp k := by
 induction k with
 | zero => rw [valF_zero, bp_zero, Nat.mod_one]
 | succ k ih => rw [valF_succ, ih, mod_bp_succ]
theorem dgt_add_low {r q k j : Nat} (h : j < k) : dgt (r + bp k * q) j = dgt r j := by
 unfold dgt
 obtain ⟨d, rfl⟩ : ∃ d, k = j + 1 + d := ⟨k - j - 1, by omega⟩
 rw [bp_add, bp_succ, Nat.mul_comm 4294967296, Nat.mul_assoc, Nat.mul_assoc, Nat.add_mul_div_left _ _ (bp_pos j), Nat.add_mul_mod_self_left]
theorem dgt_add_high {r q k j : Nat} (hr : r < bp k) : dgt (r + bp k * q) (k + j) = dgt q j := by
 unfold dgt
 rw [bp_add, ← Nat.div_div_eq_div_mul, Nat.add_mul_div_left _ _ (bp_pos k), Nat.div_eq_of_lt hr, Nat.zero_add]
theorem dgt_valF {f : Nat → Nat} {k j : Nat} (h : ∀ i, i < k → f i < 4294967296) (hj : j < k) : dgt (valF f k) j = f j := by
 induction k with
 | zero => omega
 | succ k ih =>
   rw [valF_succ, Nat.mul_comm]
   by_cases e : j < k
   · rw [dgt_add_low e]; exact ih (fun i hi => h i (by omega)) e
   · obtain rfl : j = k := by omega
     have := dgt_add_high (j := 0) (q := f j) (valF_lt (fun i hi => h i (by omega)) : valF f j < bp j)
     rw [Nat.add_zero] at this
     rw [this]
     unfold dgt
     rw [bp_zero, Nat.div_one, Nat.mod_eq_of_lt (h j (by omega))]

def dlen (n : Nat) : Nat := if h : n = 0 then 0 else dlen (n / 4294967296) + 1
termination_by n
decreasing_by exact Nat.div_lt_self (by omega) (by decide)
theorem dlen_zero : dlen 0 = 0 := by unfold dlen; rfl
theorem dlen_pos {n : Nat} (h : n ≠ 0) : dlen n = dlen (n / 4294967296) + 1 := by
 conv => lhs; unfold dlen
 rw [dif_neg h]
theorem lt_bp_dlen (n : Nat) : n < bp (dlen n) := by
 induction n using Nat.strongRecOn with
 | _ n ih =>
   by_cases h : n = 0
   · subst h; rw [dlen_zero]; decide
   · rw [dlen_pos h, bp_succ]
     have := ih (n / 4294967296) (Nat.div_lt_self (by omega) (by decide))
     omega
theorem dlen_le_iff {n k : Nat} : dlen n ≤ k ↔ n < bp k := by
 constructor
 · intro h; exact Nat.lt_of_lt_of_le (lt_bp_dlen n) (bp_le h)
 · induction k generalizing n with
   | zero => intro h; rw [bp_zero] at h; obtain rfl : n = 0 := by omega
             rw [dlen_zero]; exact Nat.le_refl _
   | succ k ih =>
     intro h
     by_cases h0 : n = 0
     · subst h0; rw [dlen_zero]; omega
     · rw [dlen_pos h0]
       have : n / 4294967296 < bp k := by rw [bp_succ] at h; omega
       have := ih this
       omega
theorem dlen_eq_zero {n : Nat} : dlen n = 0 ↔ n = 0 := by
 constructor
 · intro h; have := lt_bp_dlen n; rw [h, bp_zero] at this; omega
 · rintro rfl; exact dlen_zero
theorem bp_dlen_le {n : Nat} (h : n ≠ 0) : bp (dlen n - 1) ≤ n := by
 have h1 : dlen n ≠ 0 := fun e => h (dlen_eq_zero.1 e)
 have h2 : ¬ dlen n ≤ dlen n - 1 := by omega
 rw [dlen_le_iff] at h2
 omega
theorem dgt_top {n : Nat} (h : n ≠ 0) : dgt n (dlen n - 1) ≠ 0 := by
 have h1 : dlen n ≠ 0 := fun e => h (dlen_eq_zero.1 e)
 have h2 := bp_dlen_le h
 have h3 := lt_bp_dlen n
 obtain ⟨k, hk⟩ : ∃ k, dlen n = k + 1 := ⟨dlen n - 1, by omega⟩
 rw [hk] at h2 h3 ⊢
 simp only [Nat.add_sub_cancel] at h2 ⊢
 unfold dgt
 have h4 : n / bp k < 4294967296 := by
  rw [Nat.div_lt_iff_lt_mul (bp_pos k)]; rw [bp_succ] at h3; exact h3
 rw [Nat.mod_eq_of_lt h4]
 have : 1 ≤ n / bp k := by rw [Nat.le_div_iff_mul_le (bp_pos k)]; omega
 omega
theorem valF_dlen (n : Nat) : valF (dgt n) (dlen n) = n := by rw [valF_dgt, Nat.mod_eq_of_lt (lt_bp_dlen n)]
theorem dlen_valF {f : Nat → Nat} {k : Nat} (h : ∀ i, i < k → f i < 4294967296) (ht : k = 0 ∨ f (k - 1) ≠ 0) : dlen (valF f k) = k := by
 have h1 : dlen (valF f k) ≤ k := dlen_le_iff.2 (valF_lt h)
 rcases ht with rfl | ht
 · omega
 · by_cases hk : k = 0
   · omega
   · obtain ⟨m, rfl⟩ : ∃ m, k = m + 1 := ⟨k - 1, by omega⟩
     simp only [Nat.add_sub_cancel] at ht
     have : ¬ dlen (valF f (m + 1)) ≤ m := by
      rw [dlen_le_iff, valF_succ]
      have : bp m ≤ f m * bp m := Nat.le_mul_of_pos_left _ (by omega)
      omega
     omega
theorem dlen_mono {a b : Nat} (h : a ≤ b) : dlen a ≤ dlen b := dlen_le_iff.2 (Nat.lt_of_le_of_lt h (lt_bp_dlen b))
theorem lt_of_dlen {a b : Nat} (h : dlen a < dlen b) : a < b := by
 have : ¬ b ≤ a := fun e => by have := dlen_mono e; omega
 omega
theorem valF_lt_valF {f g : Nat → Nat} {k m : Nat} (hk : k < m) (hf : ∀ i, i < m → f i < 4294967296) (he : ∀ j, k < j → j < m → f j = g j) (hlt : f k < g k) : valF f m < valF g m := by
 induction m with
 | zero => omega
 | succ m ih =>
   rw [valF_succ, valF_succ]
   by_cases e : k = m
   · subst e
     have h1 := valF_lt (fun i hi => hf i (by omega) : ∀ i, i < k → f i < 4294967296)
     have h2 : (f k + 1) * bp k ≤ g k * bp k := Nat.mul_le_mul_right _ hlt
     rw [Nat.add_mul, Nat.one_mul] at h2
     omega
   · have := ih (by omega) (fun i hi => hf i (by omega)) (fun j h1 h2 => he j h1 (by omega))
     rw [he m (by omega) (by omega)]
     omega
theorem cast_muladd (r x y c : Nat) : ((r : Int) + ((x : Int) + (y : Int) * (c : Int))) = ((r + (x + y * c) : Nat) : Int) := by
 have := Int.natCast_mul y c; omega
theorem cast_mod32 (t : Nat) : (t : Int) % 4294967296 = ((t % 4294967296 : Nat) : Int) := by omega
theorem cast_div32 (t : Nat) : (t : Int) / 4294967296 = ((t / 4294967296 : Nat) : Int) := by omega
theorem split_mul (t P : Nat) : t % 4294967296 * P + t / 4294967296 * (4294967296 * P) = t * P := by
 rw [← Nat.mul_assoc, ← Nat.add_mul, Nat.mul_comm (t / 4294967296), Nat.mod_add_div]
theorem add_step {A' A G P r x y c : Nat} (h : A' + r * P = A + c * G) :
 A' + (r + (x + y * c)) % 4294967296 * P + (r + (x + y * c)) / 4294967296 * (4294967296 * P) = A + x * P + c * (G + y * P) := by
 rw [Nat.add_assoc, split_mul, Nat.add_mul, Nat.add_mul, Nat.mul_add, Nat.mul_comm y c, Nat.mul_assoc]
 omega
theorem sub_step {A' A G P r x y c v s : Nat} (h : A' + c * G = A + r * P) (hv : v + (r + y * c) % 4294967296 = x + 4294967296 * s) :
 A' + v * P + c * (G + y * P) = A + x * P + ((r + y * c) / 4294967296 + s) * (4294967296 * P) := by
 have h1 := split_mul (r + y * c) P
 have h2 : v * P + (r + y * c) % 4294967296 * P = x * P + s * (4294967296 * P) := by
  rw [← Nat.add_mul, hv, Nat.add_mul, Nat.mul_comm 4294967296 s, Nat.mul_assoc]
 have h3 : (r + y * c) * P = r * P + c * (y * P) := by rw [Nat.add_mul, Nat.mul_comm y c, Nat.mul_assoc]
 rw [Nat.mul_add, Nat.add_mul]
 omega
theorem sub_step0 {A' A G P r x v s : Nat} (h : A' + G = A + r * P) (hv : v + r % 4294967296 = x + 4294967296 * s) :
 A' + v * P + G = A + x * P + (r / 4294967296 + s) * (4294967296 * P) := by
 have h1 := split_mul r P
 have h2 : v * P + r % 4294967296 * P = x * P + s * (4294967296 * P) := by
  rw [← Nat.add_mul, hv, Nat.add_mul, Nat.mul_comm 4294967296 s, Nat.mul_assoc]
 rw [Nat.add_mul]
 omega
theorem borrow_lt {r y c : Nat} (hr : r < 4294967296) (hy : y < 4294967296) (hc : c < 4294967296) : (r + y * c) / 4294967296 < 4294967295 ∨ ((r + y * c) / 4294967296 = 4294967295 ∧ (r + y * c) % 4294967296 = 0) := by
 have : y * c ≤ 4294967295 * 4294967295 := Nat.mul_le_mul (by omega) (by omega)
 omega
theorem mul32_le {y c : Nat} (hy : y < 4294967296) (hc : c < 4294967296) : (y : Int) * (c : Int) ≤ 18446744065119617025 ∧ 0 ≤ (y : Int) * (c : Int) := by
 have : y * c ≤ 4294967295 * 4294967295 := Nat.mul_le_mul (by omega) (by omega)
 rw [← Int.natCast_mul]; omega
theorem cast_muladd' (r y c : Nat) : ((r : Int) + (y : Int) * (c : Int)) = ((r + y * c : Nat) : Int) := by
 have := Int.natCast_mul y c; omega
end Go.Proofs.YtgenaicmjddjcaaGreatDoor

/- Plain arithmetic of long division: digits shifted by bits, the estimate of a digit of the quotient from three digits by two, a quotient of two words by one. It speaks of no program. -/
namespace Go.Proofs.YtgenaicmjddjcaaGreatDoor

theorem pow_split {s : Nat} (hs : s ≤ 32) : 2 ^ s * 2 ^ (32 - s) = 4294967296 := by
 rw [← Nat.pow_add, show s + (32 - s) = 32 from by omega]
theorem pow_pos' (s : Nat) : 0 < 2 ^ s := Nat.pow_pos (by decide)

theorem div_bp_two (V k : Nat) : V / bp k = V / bp (k + 1) * 4294967296 + V / bp k % 4294967296 := by
 rw [bp_succ, Nat.mul_comm 4294967296, ← Nat.div_div_eq_div_mul]
 omega

theorem dgt_shl_succ {V s : Nat} (hs : s ≤ 32) (i : Nat) : dgt (V * 2 ^ s) (i + 1) = dgt V (i + 1) * 2 ^ s % 4294967296 + dgt V i * 2 ^ s / 4294967296 := by
 obtain ⟨P, hP⟩ : ∃ P, 2 ^ s = P := ⟨_, rfl⟩
 obtain ⟨R, hR⟩ : ∃ R, 2 ^ (32 - s) = R := ⟨_, rfl⟩
 have hPR := pow_split hs
 rw [hP, hR] at hPR
 have hp : 0 < P := by rw [← hP]; exact pow_pos' s
 have hr : 0 < R := by rw [← hR]; exact pow_pos' _
 unfold dgt
 rw [hP, bp_succ, Nat.mul_comm 4294967296, ← Nat.div_div_eq_div_mul, ← Nat.div_div_eq_div_mul]
 obtain ⟨T, hT⟩ : ∃ T, V / bp i = T := ⟨_, rfl⟩
 have h1 : V * P / bp i / 4294967296 = T * P / 4294967296 := by
  -- both are the quotient of V by bp i times R
  have a1 : V * P / bp i / 4294967296 = V / (bp i * R) := by
   rw [Nat.div_div_eq_div_mul, ← hPR, show bp i * (P * R) = P * (bp i * R) from by rw [Nat.mul_left_comm], Nat.mul_comm V P, Nat.mul_div_mul_left _ _ hp]
  have a2 : T * P / 4294967296 = V / (bp i * R) := by
   rw [← hPR, Nat.mul_comm T P, Nat.mul_div_mul_left _ _ hp, ← hT, Nat.div_div_eq_div_mul]
  rw [a1, a2]
 rw [h1, hT]
 -- T = B t1 + t0
 have hdm := Nat.div_add_mod T 4294967296
 obtain ⟨t1, ht1⟩ : ∃ t, T / 4294967296 = t := ⟨_, rfl⟩
 obtain ⟨t0, ht0⟩ : ∃ t, T % 4294967296 = t := ⟨_, rfl⟩
 have ht0l : t0 < 4294967296 := by rw [← ht0]; exact Nat.mod_lt _ (by decide)
 rw [ht1, ht0] at hdm ⊢
 have e1 : T * P / 4294967296 = t1 * P + t0 * P / 4294967296 := by
  rw [← hdm, Nat.add_mul, Nat.mul_assoc, Nat.add_comm, Nat.add_mul_div_left _ _ (by decide), Nat.add_comm]
 rw [e1]
 have e2 : t0 * P / 4294967296 < P := by
  rw [Nat.div_lt_iff_lt_mul (by decide), Nat.mul_comm]
  exact Nat.mul_lt_mul_of_pos_left ht0l hp
 obtain ⟨c, hc⟩ : ∃ c, t0 * P / 4294967296 = c := ⟨_, rfl⟩
 rw [hc] at e2 ⊢
 -- (t1 P + c) mod (P R), with c < P: t1 P mod (P R) = P (t1 mod R)
 have e3 : t1 % 4294967296 * P % 4294967296 = P * (t1 % R) := by
  rw [Nat.mul_comm (t1 % 4294967296) P]
  conv => lhs; rw [← hPR]
  rw [Nat.mul_mod_mul_left, Nat.mod_mod_of_dvd _ (Nat.dvd_mul_left R P)]
 have e4 : (t1 * P + c) % 4294967296 = P * (t1 % R) + c := by
  conv => lhs; rw [← hPR]
  have hd := Nat.div_add_mod t1 R
  rw [show t1 * P + c = P * (t1 % R) + c + P * R * (t1 / R) from by
   conv => lhs; rw [← hd]
   rw [Nat.add_mul, Nat.mul_comm (R * (t1 / R)) P, Nat.mul_assoc P R, Nat.mul_comm (t1 % R) P]
   omega]
  rw [Nat.add_mul_mod_self_left]
  apply Nat.mod_eq_of_lt
  have : t1 % R < R := Nat.mod_lt _ hr
  have : P * (t1 % R + 1) ≤ P * R := Nat.mul_le_mul_left _ this
  rw [Nat.mul_add] at this
  omega
 rw [e3, e4]
theorem dgt_shl_zero {V s : Nat} : dgt (V * 2 ^ s) 0 = dgt V 0 * 2 ^ s % 4294967296 := by
 unfold dgt; rw [bp_zero, Nat.div_one, Nat.div_one, Nat.mod_mul_mod]
theorem dgt_shr {V s : Nat} (i : Nat) (hs : s ≤ 32) : dgt (V / 2 ^ s) i = (dgt V (i + 1) * 4294967296 + dgt V i) / 2 ^ s % 4294967296 := by
 have h1 : V / 2 ^ s / bp i = V / bp i / 2 ^ s := by rw [Nat.div_div_eq_div_mul, Nat.div_div_eq_div_mul, Nat.mul_comm]
 unfold dgt
 rw [h1]
 have h0 := div_bp_two V i
 obtain ⟨T, hT⟩ : ∃ T, V / bp (i + 1) = T := ⟨_, rfl⟩
 obtain ⟨d, hd⟩ : ∃ d, V / bp i % 4294967296 = d := ⟨_, rfl⟩
 rw [hT, hd] at h0 ⊢
 rw [h0]
 -- (T B + d) / 2^s mod B depends on T mod B alone
 obtain ⟨P, hP⟩ : ∃ P, 2 ^ s = P := ⟨_, rfl⟩
 obtain ⟨R, hR⟩ : ∃ R, 2 ^ (32 - s) = R := ⟨_, rfl⟩
 have hPR := pow_split hs
 rw [hP, hR] at hPR
 have hp : 0 < P := by rw [← hP]; exact pow_pos' s
 have hdl : d < 4294967296 := by rw [← hd]; exact Nat.mod_lt _ (by decide)
 rw [hP]
 have e : ∀ X : Nat, (X * 4294967296 + d) / P = X * R + d / P := fun X => by
  rw [← hPR, show X * (P * R) + d = d + P * (X * R) from by rw [Nat.mul_left_comm, Nat.add_comm], Nat.add_mul_div_left _ _ hp, Nat.add_comm]
 rw [e, e]
 have h2 := Nat.div_add_mod T 4294967296
 rw [show T * R + d / P = T % 4294967296 * R + d / P + 4294967296 * (T / 4294967296 * R) from by
  conv => lhs; rw [← h2]
  rw [Nat.add_mul, Nat.mul_assoc]; omega]
 rw [Nat.add_mul_mod_self_left]

theorem est_ge {X Y X3 Y2 P xl yl q : Nat} (hX : X = X3 * P + xl) (hY : Y = Y2 * P + yl) (hxl : xl < P) (hq : q * Y ≤ X) (hY2 : 0 < Y2) : q ≤ X3 / Y2 := by
 rw [Nat.le_div_iff_mul_le hY2]
 have h1 : q * (Y2 * P) ≤ X := Nat.le_trans (Nat.mul_le_mul_left q (by omega)) hq
 rw [← Nat.mul_assoc, hX] at h1
 have h2 : q * Y2 * P < (X3 + 1) * P := by rw [Nat.add_mul]; omega
 have := Nat.lt_of_mul_lt_mul_right h2
 omega
theorem est_le {X Y X3 Y2 P xl yl c : Nat} (hX : X = X3 * P + xl) (hY : Y = Y2 * P + yl) (hyl : yl < P) (hc : c * Y2 ≤ X3) (hcb : c ≤ Y2 + 1) : (c - 1) * Y ≤ X := by
 rcases Nat.eq_zero_or_pos c with h0 | h0
 · subst h0; simp
 · obtain ⟨d, rfl⟩ : ∃ d, c = d + 1 := ⟨c - 1, by omega⟩
   simp only [Nat.add_sub_cancel]
   have h1 : d * Y ≤ d * ((Y2 + 1) * P) := Nat.mul_le_mul_left d (by rw [hY, Nat.add_mul]; omega)
   have h2 : d * ((Y2 + 1) * P) = (d * Y2 + d) * P := by rw [← Nat.mul_assoc, Nat.mul_add, Nat.mul_one]
   have h3 : (d * Y2 + d) * P ≤ X3 * P := Nat.mul_le_mul_right P (by rw [Nat.add_mul] at hc; omega)
   omega
theorem est_digit {X Y X3 Y2 P xl yl : Nat} (hX : X = X3 * P + xl) (hY : Y = Y2 * P + yl) (hxl : xl < P) (hyl : yl < P) (hY2 : 9223372036854775808 ≤ Y2) (hlt : X < Y * 4294967296) :
 X / Y ≤ min (X3 / Y2) 4294967295 ∧ min (X3 / Y2) 4294967295 ≤ X / Y + 1 := by
 have hY0 : 0 < Y := by
  have : 0 < Y2 * P := Nat.mul_pos (by omega) (by omega)
  omega
 have hqY : X / Y * Y ≤ X := Nat.div_mul_le_self X Y
 have h1 := est_ge hX hY hxl hqY (by omega)
 have h2 : X / Y < 4294967296 := by rw [Nat.div_lt_iff_lt_mul hY0, Nat.mul_comm]; exact hlt
 refine ⟨by omega, ?_⟩
 obtain ⟨c, hc⟩ : ∃ c, min (X3 / Y2) 4294967295 = c := ⟨_, rfl⟩
 rw [hc]
 have h3 : c * Y2 ≤ X3 := Nat.le_trans (Nat.mul_le_mul_right Y2 (by rw [← hc]; exact Nat.min_le_left _ _)) (Nat.div_mul_le_self X3 Y2)
 have h4 := est_le hX hY hyl h3 (by omega)
 have h5 : c - 1 ≤ X / Y := by rw [Nat.le_div_iff_mul_le hY0]; exact h4
 omega

theorem step_gt {u u1 y yn1 yn0 q r : Nat} (hy : y = yn1 * 4294967296 + yn0) (hu : u = q * yn1 + r) (h : r * 4294967296 + u1 < q * yn0) : (u * 4294967296 + u1) / y < q := by
 have hy0 : 0 < y := by
  rcases Nat.eq_zero_or_pos y with e | e
  · exfalso
    have h1 : yn0 = 0 := by omega
    rw [h1, Nat.mul_zero] at h; omega
  · exact e
 rw [Nat.div_lt_iff_lt_mul hy0, hy, hu, Nat.mul_add, Nat.add_mul, Nat.mul_assoc]
 omega
theorem step_le {u u1 y yn1 yn0 q r : Nat} (hy : y = yn1 * 4294967296 + yn0) (hu : u = q * yn1 + r) (h : q * yn0 ≤ r * 4294967296 + u1) : q * y ≤ u * 4294967296 + u1 := by
 rw [hy, hu, Nat.mul_add, Nat.add_mul, Nat.mul_assoc]
 omega
theorem step_down {u yn1 q r : Nat} (hu : u = q * yn1 + r) (hq : 0 < q) : u = (q - 1) * yn1 + (r + yn1) := by
 obtain ⟨d, rfl⟩ : ∃ d, q = d + 1 := ⟨q - 1, by omega⟩
 simp only [Nat.add_sub_cancel]
 rw [Nat.add_mul] at hu
 omega
theorem quot_eq {n y q : Nat} (hy : 0 < y) (h1 : n / y ≤ q) (h2 : q * y ≤ n) : n / y = q :=
 Nat.le_antisymm h1 ((Nat.le_div_iff_mul_le hy).2 h2)
end Go.Proofs.YtgenaicmjddjcaaGreatDoor

/- Plain arithmetic of long division: the top digits, and what is left of the number while the digits of the quotient are taken out. It speaks of no program. -/
namespace Go.Proofs.YtgenaicmjddjcaaGreatDoor

theorem val_two (f : Nat → Nat) : valF f 2 = f 1 * 4294967296 + f 0 := by
 simp only [valF_succ, valF_zero, bp_zero, bp_one]; omega
theorem val_top2 (f : Nat → Nat) (m : Nat) : valF f (m + 2) = valF (fun j => f (m + j)) 2 * bp m + valF f m := by
 rw [valF_add, Nat.add_comm, Nat.mul_comm]
theorem val_top3 (f : Nat → Nat) (m : Nat) : valF f (m + 3) = (f (m + 2) * 18446744073709551616 + valF (fun j => f (m + j)) 2) * bp m + valF f m := by
 rw [show m + 3 = m + 2 + 1 from rfl, valF_succ, val_top2, bp_add, bp_two, Nat.add_mul, Nat.mul_assoc, Nat.mul_comm (bp m) 18446744073709551616]
 omega

theorem sub_exact {X Y X' r c M : Nat} (h : X' + c * Y = X + r * M) (hX' : X' < M) (hc : c * Y ≤ X) : r = 0 ∧ X' = X - c * Y := by
 have hr : r = 0 := by
  rcases Nat.eq_zero_or_pos r with h0 | h0
  · exact h0
  · have : M ≤ r * M := Nat.le_mul_of_pos_left _ h0
    omega
 subst hr
 exact ⟨rfl, by omega⟩
theorem sub_over {X Y X' X'' r k c M : Nat} (h : X' + c * Y = X + r * M) (hX' : X' < M) (hX'' : X'' < M) (hYM : Y < M) (hc : X < c * Y) (hc1 : (c - 1) * Y ≤ X) (h2 : X'' + k * M = X' + Y) :
 0 < r ∧ X'' = X - (c - 1) * Y := by
 have hc0 : 0 < c := by
  rcases Nat.eq_zero_or_pos c with e | e
  · subst e; rw [Nat.zero_mul] at hc; omega
  · exact e
 obtain ⟨d, rfl⟩ : ∃ d, c = d + 1 := ⟨c - 1, by omega⟩
 simp only [Nat.add_sub_cancel] at hc1 ⊢
 rw [Nat.add_mul, Nat.one_mul] at hc h
 have hr : 0 < r := by
  rcases Nat.eq_zero_or_pos r with e | e
  · subst e; rw [Nat.zero_mul] at h; omega
  · exact e
 have hr1 : r = 1 := by
  rcases Nat.lt_or_ge r 2 with e | e
  · omega
  · have : 2 * M ≤ r * M := Nat.mul_le_mul_right M e
    omega
 subst hr1
 have hk : k = 1 := by
  rcases Nat.eq_zero_or_pos k with e | e
  · subst e; rw [Nat.zero_mul] at h2; omega
  · rcases Nat.lt_or_ge k 2 with e2 | e2
    · omega
    · have : 2 * M ≤ k * M := Nat.mul_le_mul_right M e2
      omega
 subst hk
 exact ⟨hr, by omega⟩

def leftN (A D k : Nat) : Nat := A % bp k + bp k * (A / bp k % D)
theorem leftN_zero (A D : Nat) : leftN A D 0 = A % D := by unfold leftN; rw [bp_zero, Nat.mod_one, Nat.div_one]; omega
theorem leftN_top {A D k : Nat} (h : A < D * bp k) : leftN A D k = A := by
 unfold leftN
 rw [Nat.mod_eq_of_lt (a := A / bp k) (by rw [Nat.div_lt_iff_lt_mul (bp_pos k)]; exact h), Nat.mod_add_div]
theorem leftN_lt {A D k n : Nat} (hD : D ≤ bp n) (hD0 : 0 < D) : leftN A D k < bp (k + n) := by
 unfold leftN
 rw [bp_add]
 have h1 := Nat.mod_lt A (bp_pos k)
 have h2 := Nat.mod_lt (A / bp k) hD0
 have h3 : bp k * (A / bp k % D + 1) ≤ bp k * bp n := Nat.mul_le_mul_left _ (by omega)
 rw [Nat.mul_add] at h3
 omega
def partN (A D k : Nat) : Nat := dgt A k + 4294967296 * (A / bp (k + 1) % D)
theorem leftN_part (A D k : Nat) : leftN A D (k + 1) = A % bp k + bp k * partN A D k := by
 unfold leftN partN
 rw [mod_bp_succ, bp_succ, Nat.mul_add, ← Nat.mul_assoc, Nat.mul_comm (bp k) 4294967296, Nat.mul_comm (bp k) (dgt A k)]
 omega
theorem partN_lt {A D k : Nat} (hD0 : 0 < D) : partN A D k < D * 4294967296 := by
 unfold partN
 have h1 := dgt_lt A k
 have h2 := Nat.mod_lt (A / bp (k + 1)) hD0
 have h3 : 4294967296 * (A / bp (k + 1) % D + 1) ≤ 4294967296 * D := Nat.mul_le_mul_left _ (by omega)
 omega
theorem high_part (A D k : Nat) : A / bp k = partN A D k + D * (4294967296 * (A / bp (k + 1) / D)) := by
 unfold partN
 have h1 := div_bp_two A k
 have h2 := Nat.div_add_mod (A / bp (k + 1)) D
 have h3 : dgt A k = A / bp k % 4294967296 := rfl
 rw [h3, Nat.mul_left_comm]
 obtain ⟨q, hq⟩ : ∃ q, D * (A / bp (k + 1) / D) = q := ⟨_, rfl⟩
 rw [hq] at h2 ⊢
 omega
theorem partN_mod (A D k : Nat) : partN A D k % D = A / bp k % D := by
 rw [high_part A D k, Nat.add_mul_mod_self_left]
theorem leftN_next (A D k : Nat) : leftN A D k = A % bp k + bp k * (partN A D k % D) := by rw [partN_mod]; rfl
theorem partN_div {A D k : Nat} (hD0 : 0 < D) : partN A D k / D = dgt (A / D) k := by
 unfold dgt
 rw [Nat.div_div_eq_div_mul, Nat.mul_comm D, ← Nat.div_div_eq_div_mul, high_part A D k, Nat.add_mul_div_left _ _ hD0, Nat.add_mul_mod_self_left]
 exact (Nat.mod_eq_of_lt (by rw [Nat.div_lt_iff_lt_mul hD0, Nat.mul_comm]; exact partN_lt hD0)).symm
theorem dgt_left_low {A D k j : Nat} (h : j < k) : dgt (leftN A D k) j = dgt A j := by
 unfold leftN
 rw [dgt_add_low h]
 have := valF_dgt A k
 rw [← this]
 exact dgt_valF (fun i _ => dgt_lt _ _) h
theorem dgt_left_high (A D k j : Nat) : dgt (leftN A D (k + 1)) (k + j) = dgt (partN A D k) j := by
 rw [leftN_part]; exact dgt_add_high (Nat.mod_lt _ (bp_pos k))
theorem dgt_left_next (A D k j : Nat) : dgt (leftN A D k) (k + j) = dgt (partN A D k % D) j := by
 rw [leftN_next]; exact dgt_add_high (Nat.mod_lt _ (bp_pos k))
theorem dgt_left_keep {A D k j : Nat} (h : j < k) : dgt (leftN A D (k + 1)) j = dgt (leftN A D k) j := by
 rw [dgt_left_low (by omega), dgt_left_low h]
theorem dgt_ge {x j n : Nat} (h : x < bp n) (hj : n ≤ j) : dgt x j = 0 := by
 unfold dgt; rw [Nat.div_eq_of_lt (Nat.lt_of_lt_of_le h (bp_le hj))]

theorem bitLen_sh {t : Nat} (h0 : t ≠ 0) (h : t < 4294967296) : 1 ≤ Lib.bitLen t ∧ Lib.bitLen t ≤ 32 ∧ 2147483648 ≤ t * 2 ^ (32 - Lib.bitLen t) ∧ (t + 1) * 2 ^ (32 - Lib.bitLen t) ≤ 4294967296 := by
 obtain ⟨h1, h2, h3⟩ := Lib.bitLenAux_bounds 64 t (by omega) h0
 have h4 : Lib.bitLen t ≤ 32 := Lib.bitLen_le t 32 (by decide) (by omega)
 have e : Lib.bitLen t = Lib.bitLenAux 64 t := rfl
 rw [← e] at h1 h2 h3
 obtain ⟨b, hb⟩ : ∃ b, Lib.bitLen t = b + 1 := ⟨Lib.bitLen t - 1, by omega⟩
 rw [hb] at h2 h3 h4 ⊢
 simp only [Nat.add_sub_cancel] at h2
 refine ⟨by omega, h4, ?_, ?_⟩
 · have : 2 ^ b * 2 ^ (32 - (b + 1)) = 2147483648 := by rw [← Nat.pow_add, show b + (32 - (b + 1)) = 31 from by omega]
   rw [← this]; exact Nat.mul_le_mul_right _ h2
 · have : 2 ^ (b + 1) * 2 ^ (32 - (b + 1)) = 4294967296 := by rw [← Nat.pow_add, show b + 1 + (32 - (b + 1)) = 32 from by omega]
   rw [← this]; exact Nat.mul_le_mul_right _ h3
theorem shifted_bounds {y n s : Nat} (hn : dlen y = n + 1) (hs : 2147483648 ≤ dgt y n * 2 ^ s) (hs' : (dgt y n + 1) * 2 ^ s ≤ 4294967296) :
 2147483648 * bp n ≤ y * 2 ^ s ∧ y * 2 ^ s < bp (n + 1) ∧ 2147483648 ≤ dgt (y * 2 ^ s) n := by
 have hy := lt_bp_dlen y
 rw [hn] at hy
 have ht : dgt y n = y / bp n := by
  unfold dgt; exact Nat.mod_eq_of_lt (by rw [Nat.div_lt_iff_lt_mul (bp_pos n), ← bp_succ]; exact hy)
 obtain ⟨t, htt⟩ : ∃ t, dgt y n = t := ⟨_, rfl⟩
 obtain ⟨P, hP⟩ : ∃ P, 2 ^ s = P := ⟨_, rfl⟩
 rw [htt, hP] at hs hs'
 rw [htt] at ht
 rw [hP]
 have h1 : t * bp n ≤ y := by rw [ht]; exact Nat.div_mul_le_self _ _
 have h2 : y < (t + 1) * bp n := by rw [Nat.mul_comm, ht]; exact Nat.lt_mul_div_succ y (bp_pos n)
 have hp : 0 < P := by rw [← hP]; exact pow_pos' s
 have h3 : 2147483648 * bp n ≤ y * P := by
  refine Nat.le_trans (Nat.mul_le_mul_right (bp n) hs) ?_
  rw [Nat.mul_right_comm]; exact Nat.mul_le_mul_right P h1
 have h4 : y * P < bp (n + 1) := by
  refine Nat.lt_of_lt_of_le (Nat.mul_lt_mul_of_pos_right h2 hp) ?_
  rw [Nat.mul_right_comm, bp_succ]; exact Nat.mul_le_mul_right _ hs'
 refine ⟨h3, h4, ?_⟩
 unfold dgt
 rw [Nat.mod_eq_of_lt (by rw [Nat.div_lt_iff_lt_mul (bp_pos n), ← bp_succ]; exact h4), Nat.le_div_iff_mul_le (bp_pos n)]
 exact h3
theorem shifted_num {x y n nx s : Nat} (hx : dlen x = nx) (hD : 2147483648 * bp n ≤ y * 2 ^ s) (hs : s ≤ 31) (hn : n ≤ nx) : x * 2 ^ s < y * 2 ^ s * bp (nx - n) ∧ x * 2 ^ s < bp (nx + 1) := by
 have h1 := lt_bp_dlen x
 rw [hx] at h1
 have h2 : 2 ^ s ≤ 2 ^ 31 := Nat.pow_le_pow_right (by decide) hs
 have h3 : x * 2 ^ s < bp nx * 2147483648 := by
  refine Nat.lt_of_le_of_lt (Nat.mul_le_mul_left x h2) ?_
  exact Nat.mul_lt_mul_of_pos_right h1 (by decide)
 refine ⟨?_, ?_⟩
 · refine Nat.lt_of_lt_of_le h3 ?_
   rw [show nx = n + (nx - n) from by omega, bp_add, show n + (nx - n) - n = nx - n from by omega, Nat.mul_right_comm, Nat.mul_comm (bp n)]
   exact Nat.mul_le_mul_right _ hD
 · rw [bp_succ]; omega
theorem unshift_mod {x y s : Nat} : x * 2 ^ s % (y * 2 ^ s) / 2 ^ s = x % y := by
 rw [Nat.mul_mod_mul_right, Nat.mul_div_cancel _ (pow_pos' s)]
theorem unshift_div {x y s : Nat} : x * 2 ^ s / (y * 2 ^ s) = x / y := Nat.mul_div_mul_right x y (pow_pos' s)
end Go.Proofs.YtgenaicmjddjcaaGreatDoor

/- Plain arithmetic of Lehmer's method: the first steps of Euclid's algorithm, read off the leading bits of two numbers. It speaks of no program. -/
namespace Go.Proofs.YtgenaicmjddjcaaGreatDoor

def sgn (s : Bool) (n : Nat) : Int := if s then -(n : Int) else n
theorem sgn_abs (s : Bool) (n : Nat) : (sgn s n).natAbs = n := by unfold sgn; split <;> omega
theorem sgn_zero (s : Bool) : sgn s 0 = 0 := by unfold sgn; split <;> rfl
theorem sgn_bounds (s : Bool) (n : Nat) : -(n : Int) ≤ sgn s n ∧ sgn s n ≤ n := by unfold sgn; split <;> omega
theorem sgn_max (s : Bool) (n : Nat) : max (sgn s n) (-(sgn s n)) = n := by unfold sgn; split <;> omega

theorem mix_bound (s : Bool) {C D K α β : Nat} (hCD : C ≤ D) (hα : α ≤ K) (hβ : β ≤ K) :
 -((D * K : Nat) : Int) ≤ sgn (!s) C * (α : Int) + sgn s D * (β : Int) ∧ sgn (!s) C * (α : Int) + sgn s D * (β : Int) ≤ ((D * K : Nat) : Int) := by
 have h1 : C * α ≤ D * K := Nat.mul_le_mul hCD hα
 have h2 : D * β ≤ D * K := Nat.mul_le_mul_left D hβ
 obtain ⟨u, hu⟩ : ∃ u, C * α = u := ⟨_, rfl⟩
 obtain ⟨v, hv⟩ : ∃ v, D * β = v := ⟨_, rfl⟩
 obtain ⟨t, ht⟩ : ∃ t, D * K = t := ⟨_, rfl⟩
 have e1 : (C : Int) * (α : Int) = (u : Int) := by rw [← Int.natCast_mul, hu]
 have e2 : (D : Int) * (β : Int) = (v : Int) := by rw [← Int.natCast_mul, hv]
 rw [hu, ht] at h1
 rw [hv, ht] at h2
 rw [ht]
 cases s
 · simp only [sgn, Bool.not_false, if_true, Int.neg_mul, e1, Bool.false_eq_true, if_false, e2]; omega
 · simp only [sgn, Bool.not_true, if_true, Int.neg_mul, e1, Bool.false_eq_true, if_false, e2]; omega

structure Steps (x y P Q p q : Nat) (s : Bool) (A B C D X Y : Nat) : Prop where
 hX : (X : Int) = sgn s A * (x : Int) + sgn (!s) B * (y : Int)
 hY : (Y : Int) = sgn (!s) C * (x : Int) + sgn s D * (y : Int)
 hp : (p : Int) = sgn s A * (P : Int) + sgn (!s) B * (Q : Int)
 hq : (q : Int) = sgn (!s) C * (P : Int) + sgn s D * (Q : Int)
 hP : P = D * p + B * q
 cd : C ≤ D
 ab : A ≤ B ∨ (A = 1 ∧ B = 0 ∧ C = 0 ∧ D = 1)
 bd : B ≤ D
 d1 : 1 ≤ D
 qp : q ≤ p
 yx : Y ≤ X
 xx : X ≤ x
 gcd : Nat.gcd X Y = Nat.gcd x y
 sum : X + Y ≤ x + y
 less : B ≠ 0 → X + Y < x + y
 small : D < 2147483648
theorem Steps.start {x y P Q : Nat} (hyx : y ≤ x) (hQP : Q ≤ P) : Steps x y P Q P Q false 1 0 0 1 x y :=
 ⟨by simp [sgn], by simp [sgn], by simp [sgn], by simp [sgn], by omega, by decide, .inr ⟨rfl, rfl, rfl, rfl⟩, by decide, by decide, hQP, hyx, Nat.le_refl _, rfl, Nat.le_refl _, fun h => absurd rfl h, by decide⟩

theorem sgn_step (s : Bool) (A C k : Nat) : sgn s A - (k : Int) * sgn (!s) C = sgn s (A + k * C) := by
 have e : (((A + k * C : Nat)) : Int) = (A : Int) + (k : Int) * (C : Int) := by rw [Int.natCast_add, Int.natCast_mul]
 cases s
 · simp only [sgn, Bool.not_false, if_true, Bool.false_eq_true, if_false, e, Int.mul_neg]; omega
 · simp only [sgn, Bool.not_true, if_true, Bool.false_eq_true, if_false, e]; omega
theorem lin_step (a b c d x y k : Int) : a * x + b * y - k * (c * x + d * y) = (a - k * c) * x + (b - k * d) * y := by
 rw [Int.sub_mul, Int.sub_mul, Int.mul_add, Int.mul_assoc, Int.mul_assoc]; omega

theorem Steps.fit {x y P Q p q : Nat} {s : Bool} {A B C D X Y : Nat} (h : Steps x y P Q p q s A B C D X Y) (hq0 : 0 < q) : B + p / q * D ≤ P ∧ A + p / q * C ≤ B + p / q * D ∧ D ≤ B + p / q * D := by
 have hk : 1 ≤ p / q := (Nat.le_div_iff_mul_le hq0).2 (by have := h.qp; omega)
 have h1 : p / q * q ≤ p := Nat.div_mul_le_self p q
 obtain ⟨k, hkk⟩ : ∃ k, p / q = k := ⟨_, rfl⟩
 rw [hkk] at hk h1 ⊢
 have h2 : k * D * 1 ≤ k * D * q := Nat.mul_le_mul_left _ hq0
 have h3 : k * D * q ≤ D * p := by rw [Nat.mul_right_comm, Nat.mul_comm]; exact Nat.mul_le_mul_left D h1
 have h4 : B * 1 ≤ B * q := Nat.mul_le_mul_left B hq0
 have h5 := h.hP
 have h6 : k * C ≤ k * D := Nat.mul_le_mul_left k h.cd
 have h7 : 1 * D ≤ k * D := Nat.mul_le_mul_right D hk
 refine ⟨by omega, ?_, by omega⟩
 rcases h.ab with e | ⟨e1, e2, e3, e4⟩
 · omega
 · subst e1 e2 e3 e4; omega
theorem Steps.next {x y P Q p q : Nat} {s : Bool} {A B C D X Y : Nat} (h : Steps x y P Q p q s A B C D X Y) {K α β : Nat} (hx : x = K * P + α) (hy : y = K * Q + β) (hα : α ≤ K) (hβ : β ≤ K) (hP62 : P < 4611686018427387904) (hK : 0 < K) (hq0 : 0 < q)
 (h1 : B + p / q * D ≤ p % q) (h2 : D + (B + p / q * D) ≤ q - p % q) : ∃ X' Y', Steps x y P Q q (p % q) (!s) C D (A + p / q * C) (B + p / q * D) X' Y' := by
 obtain ⟨hf1, hf2, hf3⟩ := h.fit hq0
 have hk : 1 ≤ p / q := (Nat.le_div_iff_mul_le hq0).2 (by have := h.qp; omega)
 have hdm := Nat.div_add_mod p q
 have hmod := Nat.mod_lt p hq0
 obtain ⟨k, hkk⟩ : ∃ k, p / q = k := ⟨_, rfl⟩
 obtain ⟨r, hr⟩ : ∃ r, p % q = r := ⟨_, rfl⟩
 rw [hkk, hr] at hdm
 rw [hkk] at hf1 hf2 hf3 hk h1 h2 ⊢
 rw [hr] at h1 h2 hmod ⊢
 obtain ⟨C', hC'⟩ : ∃ C', A + k * C = C' := ⟨_, rfl⟩
 obtain ⟨D', hD'⟩ : ∃ D', B + k * D = D' := ⟨_, rfl⟩
 have sC : sgn s A - (k : Int) * sgn (!s) C = sgn s C' := by rw [sgn_step, hC']
 have sD : sgn (!s) B - (k : Int) * sgn s D = sgn (!s) D' := by
  have := sgn_step (!s) B D k
  rw [Bool.not_not, hD'] at this; exact this
 rw [hC'] at hf2 ⊢
 rw [hD'] at hf1 hf2 hf3 h1 h2 ⊢
 -- the rest, in the leading parts' words
 have er : (r : Int) = sgn s C' * (P : Int) + sgn (!s) D' * (Q : Int) := by
  rw [← sC, ← sD, ← lin_step, ← h.hp, ← h.hq]
  have : ((q * k + r : Nat) : Int) = (p : Int) := by rw [hdm]
  rw [Int.natCast_add, Int.natCast_mul, Int.mul_comm] at this
  omega
 -- the numbers, by their leading parts
 have ex : (x : Int) = (K : Int) * (P : Int) + (α : Int) := by rw [hx, Int.natCast_add, Int.natCast_mul]
 have ey : (y : Int) = (K : Int) * (Q : Int) + (β : Int) := by rw [hy, Int.natCast_add, Int.natCast_mul]
 have split : ∀ c d : Int, c * (x : Int) + d * (y : Int) = (K : Int) * (c * (P : Int) + d * (Q : Int)) + (c * (α : Int) + d * (β : Int)) := fun c d => by
  rw [ex, ey, Int.mul_add, Int.mul_add, Int.mul_add, Int.mul_left_comm c, Int.mul_left_comm d]; omega
 have eY : (Y : Int) = (K : Int) * (q : Int) + (sgn (!s) C * (α : Int) + sgn s D * (β : Int)) := by rw [h.hY, split, ← h.hq]
 have eN : sgn s C' * (x : Int) + sgn (!s) D' * (y : Int) = (K : Int) * (r : Int) + (sgn s C' * (α : Int) + sgn (!s) D' * (β : Int)) := by rw [split, ← er]
 have b1 := mix_bound s (K := K) (α := α) (β := β) h.cd hα hβ
 have b2 := mix_bound (!s) (K := K) (α := α) (β := β) hf2 hα hβ
 rw [Bool.not_not] at b2
 -- the products as letters
 have n1 : D' * K ≤ K * r := by rw [Nat.mul_comm]; exact Nat.mul_le_mul_left K h1
 have n2 : D * K + D' * K + K * r ≤ K * q := by
  rw [← Nat.add_mul, Nat.mul_comm, ← Nat.mul_add]; exact Nat.mul_le_mul_left K (by omega)
 obtain ⟨u1, hu1⟩ : ∃ u, D * K = u := ⟨_, rfl⟩
 obtain ⟨u2, hu2⟩ : ∃ u, D' * K = u := ⟨_, rfl⟩
 obtain ⟨u3, hu3⟩ : ∃ u, K * r = u := ⟨_, rfl⟩
 obtain ⟨u4, hu4⟩ : ∃ u, K * q = u := ⟨_, rfl⟩
 rw [hu1] at b1 n2
 rw [hu2] at b2 n1 n2
 rw [hu3] at n1 n2
 rw [hu4] at n2
 rw [← Int.natCast_mul, hu4] at eY
 rw [← Int.natCast_mul, hu3] at eN
 have eYN : sgn s C' * (x : Int) + sgn (!s) D' * (y : Int) = (X : Int) - (k : Int) * (Y : Int) := by
  rw [← sC, ← sD, ← lin_step, ← h.hX, ← h.hY]
 have hpos : 0 ≤ (X : Int) - (k : Int) * (Y : Int) := by omega
 have hle : (X : Int) - (k : Int) * (Y : Int) ≤ Y := by omega
 rw [← Int.natCast_mul] at hpos hle eYN
 obtain ⟨kY, hkY⟩ : ∃ kY, k * Y = kY := ⟨_, rfl⟩
 rw [hkY] at hpos hle eYN
 have hkY1 : 1 * Y ≤ kY := by rw [← hkY]; exact Nat.mul_le_mul_right Y hk
 have hYpos : B = 0 → 0 < Y ∧ X + Y ≤ x + y := fun _ => by
  have : u1 + u2 ≤ u4 := by omega
  have h0 : 0 < u2 := by rw [← hu2]; exact Nat.mul_pos (by have := h.d1; omega) hK
  exact ⟨by omega, h.sum⟩
 have hbig : D' * (2 * D') ≤ P := by
  have hP' : P = D' * q + D * r := by
   have := h.hP
   rw [← hdm] at this
   rw [this, ← hD', Nat.mul_add, Nat.add_mul, show k * D * q = D * (q * k) from by rw [Nat.mul_comm k D, Nat.mul_assoc, Nat.mul_comm k q]]
   omega
  rw [hP']
  exact Nat.le_trans (Nat.mul_le_mul_left D' (by omega)) (Nat.le_add_right _ _)
 refine ⟨Y, X - kY, ?_⟩
 have eX' : ((X - kY : Nat) : Int) = (X : Int) - (kY : Int) := by omega
 exact {
  hX := by rw [Bool.not_not]; exact h.hY
  hY := by rw [eX', Bool.not_not]; exact eYN.symm
  hp := by rw [Bool.not_not]; exact h.hq
  hq := by rw [Bool.not_not]; exact er
  hP := by
   have := h.hP
   rw [← hdm] at this
   rw [this, ← hD', Nat.mul_add, Nat.add_mul, show k * D * q = D * (q * k) from by rw [Nat.mul_comm k D, Nat.mul_assoc, Nat.mul_comm k q]]
   omega
  cd := hf2
  ab := .inl h.cd
  bd := hf3
  d1 := by have := h.d1; omega
  qp := by omega
  yx := by omega
  xx := Nat.le_trans h.yx h.xx
  gcd := by
   rw [← h.gcd]
   have : X = X - kY + k * Y := by omega
   conv => rhs; rw [this]
   rw [Nat.gcd_comm Y, Nat.gcd_add_mul_right_left]
  sum := by have := h.sum; omega
  less := fun _ => by
   by_cases hB : B = 0
   · have := hYpos hB; omega
   · have := h.less hB; omega
  small := by
   rcases Nat.lt_or_ge D' 2147483648 with e | e
   · exact e
   · exfalso
     have : 2147483648 * (2 * 2147483648) ≤ D' * (2 * D') := Nat.mul_le_mul e (Nat.mul_le_mul_left 2 e)
     omega }
end Go.Proofs.YtgenaicmjddjcaaGreatDoor

/- Plain arithmetic of Lehmer's method: the leading bits of a number, and two sums of products digit by digit. It speaks of no program. -/
namespace Go.Proofs.YtgenaicmjddjcaaGreatDoor

theorem pow34 {s : Nat} (hs : s ≤ 32) : 2 ^ s * 2 ^ (34 - s) = 4294967296 * 4 := by
 rw [← Nat.pow_add, show s + (34 - s) = 34 from by omega]
theorem lead_val {f : Nat → Nat} {m s : Nat} (hs : s ≤ 32) (hf : ∀ j, j < m → f j < 4294967296) :
 (valF (fun j => f (m + 1 + j)) 2 * 2 ^ s + f m * 2 ^ s / 4294967296) / 4 = valF f (m + 3) / (bp m * 2 ^ (34 - s)) := by
 have h1 : valF f (m + 3) / bp m = valF (fun j => f (m + 1 + j)) 2 * 4294967296 + f m := by
  have e : valF f (m + 3) = valF (fun j => f (m + 1 + j)) 2 * bp (m + 1) + valF f (m + 1) := val_top2 f (m + 1)
  obtain ⟨H, hH⟩ : ∃ H, valF (fun j => f (m + 1 + j)) 2 = H := ⟨_, rfl⟩
  rw [hH] at e ⊢
  rw [e, valF_succ, bp_succ]
  rw [show H * (4294967296 * bp m) + (valF f m + f m * bp m) = valF f m + bp m * (H * 4294967296 + f m) from by
   rw [Nat.mul_add, Nat.mul_comm (bp m) (f m), Nat.mul_left_comm (bp m), Nat.mul_comm (bp m) 4294967296]; omega]
  rw [Nat.add_mul_div_left _ _ (bp_pos m), Nat.div_eq_of_lt (valF_lt hf), Nat.zero_add]
 rw [← Nat.div_div_eq_div_mul, h1]
 obtain ⟨H, hH⟩ : ∃ H, valF (fun j => f (m + 1 + j)) 2 = H := ⟨_, rfl⟩
 rw [hH]
 obtain ⟨P, hP⟩ : ∃ P, 2 ^ s = P := ⟨_, rfl⟩
 obtain ⟨R, hR⟩ : ∃ R, 2 ^ (34 - s) = R := ⟨_, rfl⟩
 have hPR := pow34 hs
 rw [hP, hR] at hPR
 have hp : 0 < P := by rw [← hP]; exact pow_pos' s
 rw [hP, hR]
 have h2 : H * P + f m * P / 4294967296 = (H * 4294967296 + f m) * P / 4294967296 := by
  rw [Nat.add_mul, Nat.mul_right_comm, Nat.mul_comm (H * P) 4294967296, Nat.add_comm (4294967296 * (H * P)), Nat.add_mul_div_left _ _ (by decide)]
  omega
 rw [h2, Nat.div_div_eq_div_mul, ← hPR, Nat.mul_comm _ P, Nat.mul_div_mul_left _ _ hp]

theorem ap_bounds (s : Bool) {A B p q : Nat} (hA : A < 2147483648) (hB : B < 2147483648) (hp : p < 4294967296) (hq : q < 4294967296) :
 (-9223372030412324865 ≤ sgn s A * (p : Int) ∧ sgn s A * (p : Int) ≤ 9223372030412324865) ∧ (-9223372030412324865 ≤ sgn (!s) B * (q : Int) ∧ sgn (!s) B * (q : Int) ≤ 9223372030412324865) ∧
 (-9223372030412324865 ≤ sgn s A * (p : Int) + sgn (!s) B * (q : Int) ∧ sgn s A * (p : Int) + sgn (!s) B * (q : Int) ≤ 9223372030412324865) := by
 have h1 : A * p ≤ 2147483647 * 4294967295 := Nat.mul_le_mul (by omega) (by omega)
 have h2 : B * q ≤ 2147483647 * 4294967295 := Nat.mul_le_mul (by omega) (by omega)
 obtain ⟨u, hu⟩ : ∃ u, A * p = u := ⟨_, rfl⟩
 obtain ⟨v, hv⟩ : ∃ v, B * q = v := ⟨_, rfl⟩
 have e1 : (A : Int) * (p : Int) = (u : Int) := by rw [← Int.natCast_mul, hu]
 have e2 : (B : Int) * (q : Int) = (v : Int) := by rw [← Int.natCast_mul, hv]
 rw [hu] at h1
 rw [hv] at h2
 cases s
 · simp only [sgn, Bool.not_false, if_true, Int.neg_mul, e1, Bool.false_eq_true, if_false, e2]; omega
 · simp only [sgn, Bool.not_true, if_true, Int.neg_mul, e1, Bool.false_eq_true, if_false, e2]; omega
theorem ap_step {a b : Int} {F' F G M : Nat} {z p q t : Int} (h : z * (M : Int) + (F' : Int) = a * (F : Int) + b * (G : Int)) (ht : t = z + (a * p + b * q)) :
 t / 4294967296 * (4294967296 * (M : Int)) + ((F' : Int) + t % 4294967296 * (M : Int)) = a * ((F : Int) + p * (M : Int)) + b * ((G : Int) + q * (M : Int)) := by
 have h1 : t / 4294967296 * (4294967296 * (M : Int)) + t % 4294967296 * (M : Int) = t * (M : Int) := by
  rw [← Int.mul_assoc, ← Int.add_mul]
  congr 1
  omega
 have h2 : t * (M : Int) = z * (M : Int) + (a * (p * (M : Int)) + b * (q * (M : Int))) := by
  rw [ht, Int.add_mul, Int.add_mul, Int.mul_assoc, Int.mul_assoc]
 rw [Int.mul_add, Int.mul_add]
 omega
theorem ap_end {z : Int} {F M X : Nat} (h : z * (M : Int) + (F : Int) = (X : Int)) (hF : F < M) (hX : X < M) : F = X := by
 have hz : z = 0 := by
  rcases Int.lt_trichotomy z 0 with e | e | e
  · exfalso
    have : z * (M : Int) ≤ -1 * (M : Int) := Int.mul_le_mul_of_nonneg_right (by omega) (by omega)
    omega
  · exact e
  · exfalso
    have : 1 * (M : Int) ≤ z * (M : Int) := Int.mul_le_mul_of_nonneg_right (by omega) (by omega)
    omega
 subst hz
 omega
end Go.Proofs.YtgenaicmjddjcaaGreatDoor

/- Plain arithmetic of division in binary. It speaks of no program. -/
namespace Go.Proofs.YtgenaicmjddjcaaGreatDoor

theorem bp_pow (k : Nat) : bp k = 2 ^ (32 * k) := by unfold bp; rw [show (4294967296 : Nat) = 2 ^ 32 from by decide, ← Nat.pow_mul]
theorem pow_at (k : Nat) : 2 ^ k = bp (k / 32) * 2 ^ (k % 32) := by rw [bp_pow, ← Nat.pow_add, Nat.div_add_mod]
theorem dgt_div (V q i : Nat) : dgt (V / bp q) i = dgt V (q + i) := by unfold dgt; rw [Nat.div_div_eq_div_mul, ← bp_add]
theorem dgt_without (V n i : Nat) : dgt (V / 2 ^ n) i = (dgt V (n / 32 + i + 1) * 4294967296 + dgt V (n / 32 + i)) / 2 ^ (n % 32) % 4294967296 := by
 rw [pow_at n, ← Nat.div_div_eq_div_mul, dgt_shr i (by omega), dgt_div, dgt_div, Nat.add_assoc]
theorem bit_of (V k : Nat) : dgt V (k / 32) / 2 ^ (k % 32) % 2 = V / 2 ^ k % 2 := by
 have h1 : V / 2 ^ k = V / bp (k / 32) / 2 ^ (k % 32) := by rw [Nat.div_div_eq_div_mul, ← pow_at]
 rw [h1]
 unfold dgt
 obtain ⟨T, hT⟩ : ∃ T, V / bp (k / 32) = T := ⟨_, rfl⟩
 rw [hT]
 have hr : k % 32 < 32 := by omega
 obtain ⟨r, hrr⟩ : ∃ r, k % 32 = r := ⟨_, rfl⟩
 rw [hrr] at hr ⊢
 have h2 : (4294967296 : Nat) = 2 ^ r * (2 ^ (31 - r) * 2) := by rw [← Nat.pow_succ, ← Nat.pow_add, show r + (31 - r + 1) = 32 from by omega]
 rw [h2, Nat.mod_mul_right_div_self, Nat.mod_mul_left_mod]
theorem half_step (A k : Nat) : A / 2 ^ k = 2 * (A / 2 ^ (k + 1)) + A / 2 ^ k % 2 := by
 rw [Nat.pow_succ, ← Nat.div_div_eq_div_mul]; omega
theorem bin_less {A b k : Nat} (hb : 0 < b) (h : 2 * (A / 2 ^ (k + 1) % b) + A / 2 ^ k % 2 < b) : A / 2 ^ k % b = 2 * (A / 2 ^ (k + 1) % b) + A / 2 ^ k % 2 ∧ A / 2 ^ k / b = 2 * (A / 2 ^ (k + 1) / b) := by
 have h1 := half_step A k
 have h2 := Nat.div_add_mod (A / 2 ^ (k + 1)) b
 obtain ⟨T, hT⟩ : ∃ T, A / 2 ^ (k + 1) = T := ⟨_, rfl⟩
 rw [hT] at h h1 h2 ⊢
 obtain ⟨t, ht⟩ : ∃ t, A / 2 ^ k % 2 = t := ⟨_, rfl⟩
 rw [ht] at h h1 ⊢
 have h3 : A / 2 ^ k = (2 * (T % b) + t) + b * (2 * (T / b)) := by
  rw [h1, Nat.mul_left_comm]; omega
 rw [h3, Nat.add_mul_mod_self_left, Nat.add_mul_div_left _ _ hb, Nat.mod_eq_of_lt h, Nat.div_eq_of_lt h]
 exact ⟨rfl, by omega⟩
theorem bin_more {A b k : Nat} (hb : 0 < b) (h : b ≤ 2 * (A / 2 ^ (k + 1) % b) + A / 2 ^ k % 2) : A / 2 ^ k % b = 2 * (A / 2 ^ (k + 1) % b) + A / 2 ^ k % 2 - b ∧ A / 2 ^ k / b = 2 * (A / 2 ^ (k + 1) / b) + 1 := by
 have h1 := half_step A k
 have h2 := Nat.div_add_mod (A / 2 ^ (k + 1)) b
 have h4 := Nat.mod_lt (A / 2 ^ (k + 1)) hb
 obtain ⟨T, hT⟩ : ∃ T, A / 2 ^ (k + 1) = T := ⟨_, rfl⟩
 rw [hT] at h h1 h2 h4 ⊢
 obtain ⟨t, ht⟩ : ∃ t, A / 2 ^ k % 2 = t := ⟨_, rfl⟩
 have ht2 : t < 2 := by rw [← ht]; exact Nat.mod_lt _ (by decide)
 rw [ht] at h h1 ⊢
 have h3 : A / 2 ^ k = (2 * (T % b) + t - b) + b * (2 * (T / b) + 1) := by
  rw [h1, Nat.mul_add, Nat.mul_left_comm]; omega
 rw [h3, Nat.add_mul_mod_self_left, Nat.add_mul_div_left _ _ hb, Nat.mod_eq_of_lt (by omega), Nat.div_eq_of_lt (by omega)]
 exact ⟨rfl, by omega⟩

theorem setbit_at (Q k : Nat) : dgt (Q * 2 ^ (k + 1) + 2 ^ k) (k / 32) = dgt (Q * 2 ^ (k + 1)) (k / 32) + 2 ^ (k % 32) ∧ dgt (Q * 2 ^ (k + 1)) (k / 32) % 2 ^ (k % 32 + 1) = 0 := by
 have hr : k % 32 < 32 := by omega
 have e1 : 2 ^ k = bp (k / 32) * 2 ^ (k % 32) := pow_at k
 have e2 : Q * 2 ^ (k + 1) = bp (k / 32) * (Q * 2 ^ (k % 32 + 1)) := by
  rw [Nat.pow_succ, Nat.pow_succ, e1, Nat.mul_assoc, Nat.mul_left_comm]
 rw [e2, e1, ← Nat.mul_add]
 obtain ⟨r, hrr⟩ : ∃ r, k % 32 = r := ⟨_, rfl⟩
 rw [hrr] at hr ⊢
 unfold dgt
 rw [Nat.mul_div_cancel_left _ (bp_pos _), Nat.mul_div_cancel_left _ (bp_pos _)]
 have h2 : (4294967296 : Nat) = 2 ^ (31 - r) * 2 ^ (r + 1) := by rw [← Nat.pow_add, show 31 - r + (r + 1) = 32 from by omega]
 have h3 : Q * 2 ^ (r + 1) % 4294967296 = Q % 2 ^ (31 - r) * 2 ^ (r + 1) := by rw [h2, Nat.mul_mod_mul_right]
 have h4 : Q % 2 ^ (31 - r) < 2 ^ (31 - r) := Nat.mod_lt _ (pow_pos' _)
 have h5 : (Q % 2 ^ (31 - r) + 1) * 2 ^ (r + 1) ≤ 4294967296 := by rw [h2]; exact Nat.mul_le_mul_right _ h4
 have h6 : 2 ^ r < 2 ^ (r + 1) := Nat.pow_lt_pow_right (by decide) (by omega)
 refine ⟨?_, by rw [h3, Nat.mul_mod_left]⟩
 rw [Nat.add_mod, h3, Nat.mod_eq_of_lt (a := 2 ^ r) (by rw [Nat.add_mul] at h5; omega)]
 apply Nat.mod_eq_of_lt
 rw [Nat.add_mul] at h5
 omega
theorem setbit_ne (Q : Nat) {k j : Nat} (hj : j ≠ k / 32) : dgt (Q * 2 ^ (k + 1) + 2 ^ k) j = dgt (Q * 2 ^ (k + 1)) j := by
 have hr : k % 32 < 32 := by omega
 have e1 : 2 ^ k = bp (k / 32) * 2 ^ (k % 32) := pow_at k
 have e2 : Q * 2 ^ (k + 1) = bp (k / 32) * (Q * 2 ^ (k % 32 + 1)) := by
  rw [Nat.pow_succ, Nat.pow_succ, e1, Nat.mul_assoc, Nat.mul_left_comm]
 rw [e2, e1, ← Nat.mul_add]
 obtain ⟨r, hrr⟩ : ∃ r, k % 32 = r := ⟨_, rfl⟩
 obtain ⟨i, hi⟩ : ∃ i, k / 32 = i := ⟨_, rfl⟩
 rw [hrr] at hr ⊢
 rw [hi] at hj ⊢
 rcases Nat.lt_or_ge j i with h | h
 · have := fun T : Nat => (dgt_add_low (r := 0) (q := T) h)
   rw [← Nat.zero_add (bp i * _), this, ← Nat.zero_add (bp i * (Q * _)), this]
 · obtain ⟨d, rfl⟩ : ∃ d, j = i + 1 + d := ⟨j - i - 1, by omega⟩
   have := fun T : Nat => (dgt_add_high (j := 1 + d) (r := 0) (q := T) (bp_pos i))
   rw [show i + 1 + d = i + (1 + d) from by omega, ← Nat.zero_add (bp i * _), this, ← Nat.zero_add (bp i * (Q * _)), this]
   unfold dgt
   rw [bp_add, bp_one, ← Nat.div_div_eq_div_mul, ← Nat.div_div_eq_div_mul]
   congr 2
   have h2 : (4294967296 : Nat) = 2 ^ (r + 1) * 2 ^ (31 - r) := by rw [← Nat.pow_add, show r + 1 + (31 - r) = 32 from by omega]
   have h6 : 2 ^ r < 2 ^ (r + 1) := Nat.pow_lt_pow_right (by decide) (by omega)
   rw [h2, ← Nat.div_div_eq_div_mul, ← Nat.div_div_eq_div_mul, Nat.mul_div_cancel _ (pow_pos' _), Nat.add_comm, Nat.add_mul_div_right _ _ (pow_pos' _), Nat.div_eq_of_lt h6, Nat.zero_add]
theorem or_bit {e r : Nat} (h : e % 2 ^ (r + 1) = 0) : e ||| 2 ^ r = e + 2 ^ r := by
 have h6 : 2 ^ r < 2 ^ (r + 1) := Nat.pow_lt_pow_right (by decide) (by omega)
 have h1 : e = (e / 2 ^ (r + 1)) <<< (r + 1) := by
  rw [Nat.shiftLeft_eq]; have := Nat.div_add_mod e (2 ^ (r + 1)); rw [h, Nat.mul_comm] at this; omega
 have := Nat.shiftLeft_add_eq_or_of_lt h6 (e / 2 ^ (r + 1))
 rw [← h1] at this
 exact this.symm
theorem or_parts {e b s : Nat} (h : e % 2 ^ s = 0) (hb : b < 2 ^ s) : e ||| b = e + b := by
 have h1 : e = (e / 2 ^ s) <<< s := by
  rw [Nat.shiftLeft_eq]; have := Nat.div_add_mod e (2 ^ s); rw [h, Nat.mul_comm] at this; omega
 have := Nat.shiftLeft_add_eq_or_of_lt hb (e / 2 ^ s)
 rw [← h1] at this
 exact this.symm
end Go.Proofs.YtgenaicmjddjcaaGreatDoor

