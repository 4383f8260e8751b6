/- powers of 2 as numbers and fractions. -/
import Derived.Test.YtikepnocefdmnaaGreatDoorLwA
namespace Go.Proofs.YtikepnocefdmnaaGreatDoor
open Go.RowKit Go.Shelf

/-- the digits of a power of 2 -/
def powF (n j : Nat) : Nat := if j = n / 32 then 2 ^ (n % 32) else 0
theorem powF_lt (n j : Nat) : powF n j < 4294967296 := by
 unfold powF; split
 · exact Nat.lt_of_lt_of_le (Nat.pow_lt_pow_right (by decide) (Nat.mod_lt n (by decide : 0 < 32))) (by decide)
 · decide
theorem powF_val (n : Nat) : valF (powF n) (n / 32 + 1) = 2 ^ n := by
 rw [valF_succ, valF_zeros (f := powF n) (k := n / 32) (fun j h => if_neg (by omega))]
 unfold powF bp
 rw [if_pos rfl, show (4294967296 : Nat) = 2 ^ 32 by decide, ← Nat.pow_mul, Nat.zero_add, ← Nat.pow_add]
 congr 1; omega
theorem powF_len (n : Nat) : dlen (2 ^ n) = n / 32 + 1 := by
 rw [← powF_val n]
 refine dlen_valF (fun i _ => powF_lt n i) (.inr ?_)
 show powF n (n / 32) ≠ 0
 unfold powF; rw [if_pos rfl]
 exact Nat.pos_iff_ne_zero.1 (Nat.pow_pos (by decide))
/-- a power of 2 as a number, as a fraction -/
def powZ (n : Nat) : Int := ((2 ^ n : Nat) : Int)
def powR (n : Nat) : Rat := (powZ n : Rat)
theorem powZ_abs (n : Nat) : (powZ n).natAbs = 2 ^ n := Int.natAbs_natCast _
theorem powZ_pos (n : Nat) : 0 < powZ n := by have : 0 < 2 ^ n := Nat.pow_pos (by decide); unfold powZ; omega
theorem powZ_zero : powZ 0 = 1 := rfl
theorem powZ_add (m n : Nat) : powZ m * powZ n = powZ (m + n) := by unfold powZ; rw [← Int.natCast_mul, Nat.pow_add]
theorem powZ_fit {n : Nat} (h : n < 2048) : fitO (powZ n) = some (powZ n) := fitO_some (by rw [powZ_abs, powF_len]; omega)
theorem powZ_none {n : Nat} (h : ¬ n < 2048) : fitO (powZ n) = none := fitO_none (by rw [powZ_abs, powF_len]; omega)
theorem powR_num (n : Nat) : (powR n).num = powZ n := rfl
theorem powR_den (n : Nat) : ((powR n).den : Int) = powZ 0 := rfl
theorem divInt_one (z : Int) : Rat.divInt z 1 = (z : Rat) := Rat.num_divInt_den (z : Rat)
theorem mul_pow {m n : Nat} (h : m + n < 2048) : mulR (powR m).num (powR n).num (powR m).den (powR n).den = some (powR (m + n)) := by
 unfold mulR
 rw [powR_num, powR_num, powR_den, powR_den, powZ_add, powZ_fit h, powZ_add, powZ_fit (by omega)]
 show divO (powZ (m + n)) 1 = _
 rw [divO_some _ (by decide), divInt_one]; rfl
theorem mul_pow_none {m n : Nat} (h : ¬ m + n < 2048) : mulR (powR m).num (powR n).num (powR m).den (powR n).den = none := by
 unfold mulR
 rw [powR_num, powR_num, powZ_add, powZ_none h]
theorem div_pow {m n : Nat} (hm : m < 2048) (hn : n < 2048) : mulR (powR m).num (powR n).den (powR m).den (powR n).num = some (Rat.divInt (powZ m) (powZ n)) := by
 unfold mulR
 rw [powR_num, powR_num, powR_den, powR_den, powZ_add, powZ_fit (by omega), powZ_add, powZ_fit (by omega), Nat.add_zero, Nat.zero_add]
 show divO (powZ m) (powZ n) = _
 rw [divO_some _ (by have := powZ_pos n; omega)]
theorem powZ_gcd (a b : Nat) (h : a = 0 ∨ b = 0) : Int.gcd (powZ a) (powZ b) = 1 := by
 rcases h with rfl | rfl
 · rw [powZ_zero]; exact Int.one_gcd
 · rw [powZ_zero]; exact Int.gcd_one
theorem quot_pow (m n : Nat) : (Rat.divInt (powZ m) (powZ n)).num = powZ (m - min m n) ∧ ((Rat.divInt (powZ m) (powZ n)).den : Int) = powZ (n - min m n) := by
 have e : Rat.divInt (powZ m) (powZ n) = Rat.divInt (powZ (m - min m n)) (powZ (n - min m n)) := by
  rw [← Rat.divInt_mul_right (n := powZ (m - min m n)) (d := powZ (n - min m n)) (a := powZ (min m n)) (by have := powZ_pos (min m n); omega), powZ_add, powZ_add]
  congr 2 <;> omega
 have h1 := rat_divInt (powZ (m - min m n)) (powZ (n - min m n)) (by have := powZ_pos (n - min m n); omega)
 rw [e, h1.1, h1.2, ofG_pos (powZ_pos _), powZ_gcd _ _ (by omega)]
 exact ⟨Int.ediv_one _, Int.ediv_one _⟩
theorem pow_lt_pow {m n : Nat} (h : m < n) : powZ m < powZ n := by
 have : 2 ^ m < 2 ^ n := Nat.pow_lt_pow_right (by decide) h
 unfold powZ; omega
theorem pow_double (n : Nat) : powZ n + powZ n = powZ (n + 1) := by unfold powZ; rw [Nat.pow_succ]; omega
theorem addR_pow {m n : Nat} (hm : m < 2048) (hn : n < 2048) : addR (powR m) (powR n) = match fitO (powZ m + powZ n) with | some s => some ((s : Int) : Rat) | none => none := by
 unfold addR
 rw [powR_num, powR_num, powR_den, powR_den, powZ_add, powZ_fit (by omega), powZ_add, powZ_fit (by omega), powZ_add, powZ_fit (by omega), Nat.add_zero, Nat.add_zero]
 show (match fitO (powZ m + powZ n) with | some s => divO s 1 | none => none) = _
 cases fitO (powZ m + powZ n) with
 | none => rfl
 | some s => show divO s 1 = _; rw [divO_some _ (by decide), divInt_one]
theorem addR_same {m : Nat} (hm : m < 2047) : addR (powR m) (powR m) = some (powR (m + 1)) := by
 rw [addR_pow (by omega) (by omega), pow_double, powZ_fit (by omega)]; rfl
theorem addR_over : addR (powR 2047) (powR 2047) = none := by
 rw [addR_pow (by decide) (by decide), pow_double, powZ_none (by decide)]
theorem addR_other {m n : Nat} (hm : m < 2048) (hn : n < 2048) (h : m ≠ n) : ∃ z : Rat, addR (powR m) (powR n) = some z := by
 have hf : fitO (powZ m + powZ n) = some (powZ m + powZ n) := fitO_some (by
  have h0 : (powZ m + powZ n).natAbs < bp 64 := by
   have h2 : powZ (max m n) + powZ (max m n) = powZ (max m n + 1) := pow_double _
   have h3 : powZ m + powZ n < powZ (max m n + 1) := by
    rcases Nat.lt_or_gt_of_ne h with h | h
    · have := pow_lt_pow h; rw [← h2, Nat.max_eq_right (by omega)]; omega
    · have := pow_lt_pow h; rw [← h2, Nat.max_eq_left (by omega)]; omega
   have h4 : ∀ E, max m n + 1 ≤ E → 2 ^ (max m n + 1) ≤ 2 ^ E := fun E h => Nat.pow_le_pow_right (by decide) h
   have h4 := h4 (32 * 64) (by omega)
   have h5 := powZ_abs (max m n + 1)
   have h6 := powZ_pos m; have h7 := powZ_pos n
   rw [show bp 64 = 2 ^ (32 * 64) by unfold bp; rw [show (4294967296 : Nat) = 2 ^ 32 by decide, ← Nat.pow_mul]]
   generalize (2 : Nat) ^ (32 * 64) = K at h4 ⊢
   omega
  exact dlen_le_iff.2 h0)
 exact ⟨_, by rw [addR_pow hm hn, hf]⟩
theorem cmp_pow (m n : Nat) : cmpR (powR m) (powR n) = cmpZ (m : Int) (n : Int) := by
 unfold cmpR cmpZ
 rw [powR_num, powR_num, powR_den, powR_den, powZ_add, powZ_add, Nat.add_zero, Nat.add_zero]
 rcases Nat.lt_trichotomy m n with h | h | h
 · have := pow_lt_pow h; rw [if_pos this, if_pos (by omega)]
 · subst h; simp
 · have := pow_lt_pow h; rw [if_neg (by omega), if_neg (by omega), if_neg (by omega), if_neg (by omega)]
end Go.Proofs.YtikepnocefdmnaaGreatDoor
