/- A tree and its halves. -/
import Derived.Test.YtmiidniihbhkdaaDTrees
namespace Go.Proofs.Ytmiidniihbhkdaa

theorem climb_at (k : Nat) : ∀ (P : Nat → List UInt8) (j : Nat), climbP P k j = climbP (fun i => P (j * 2 ^ k + i)) k 0 := by
  induction k with
  | zero => intro P j; simp [climbP]
  | succ k ih =>
    intro P j
    have e1 : ∀ i, 2 * j * 2 ^ k + i = j * 2 ^ (k + 1) + i := fun i => by rw [Nat.pow_succ, Nat.mul_comm 2 j, Nat.mul_assoc, Nat.mul_comm 2 (2 ^ k)]
    have e2 : ∀ i, (2 * j + 1) * 2 ^ k + i = j * 2 ^ (k + 1) + (1 * 2 ^ k + i) := fun i => by rw [← e1, Nat.add_mul]; omega
    show 2 :: (dig (climbP P k (2 * j)) ++ dig (climbP P k (2 * j + 1))) = 2 :: (dig (climbP (fun i => P (j * 2 ^ (k + 1) + i)) k 0) ++ dig (climbP (fun i => P (j * 2 ^ (k + 1) + i)) k 1))
    rw [ih P (2 * j), ih P (2 * j + 1), ih (fun i => P (j * 2 ^ (k + 1) + i)) 1]
    simp only [e1, e2]
theorem climb_congr (k : Nat) : ∀ {P Q : Nat → List UInt8} (_ : ∀ i, i < 2 ^ k → P i = Q i), climbP P k 0 = climbP Q k 0 := by
  induction k with
  | zero => intro P Q h; exact h 0 (by decide)
  | succ k ih =>
    intro P Q h
    rw [Nat.pow_succ] at h
    show 2 :: (dig (climbP P k 0) ++ dig (climbP P k 1)) = 2 :: (dig (climbP Q k 0) ++ dig (climbP Q k 1))
    rw [climb_at k P 1, climb_at k Q 1, ih (P := P) (Q := Q) (fun i hi => h i (by omega)), ih (P := fun i => P (1 * 2 ^ k + i)) (Q := fun i => Q (1 * 2 ^ k + i)) (fun i hi => h _ (by omega))]
theorem climb_halves (k : Nat) (P : Nat → List UInt8) : climbP P (k + 1) 0 = 2 :: (dig (climbP P k 0) ++ dig (climbP (fun i => P (2 ^ k + i)) k 0)) := by
  show 2 :: (dig (climbP P k 0) ++ dig (climbP P k 1)) = _
  rw [climb_at k P 1]
  simp only [Nat.one_mul]

theorem lg_pow (k : Nat) : lg (2 ^ k) = k := by
  rcases Nat.lt_or_ge k (lg (2 ^ k)) with h | h
  · exfalso
    unfold lg at h
    split at h
    · omega
    · have := (Nat.le_log2 (n := 2 ^ k - 1) (k := k) (by omega)).1 (by omega)
      have := Nat.two_pow_pos k
      omega
  · rcases Nat.lt_or_ge (lg (2 ^ k)) k with h' | h'
    · exfalso
      have h1 := le_lg (2 ^ k)
      have h2 : 2 ^ (lg (2 ^ k) + 1) ≤ 2 ^ k := Nat.pow_le_pow_right (by decide) h'
      have h3 := Nat.two_pow_pos (lg (2 ^ k))
      rw [Nat.pow_succ] at h2
      omega
    · omega
theorem lg_next (k : Nat) : lg (2 ^ k + 1) = k + 1 := by
  have h1 : k < lg (2 ^ k + 1) := lg_least (by omega)
  rcases Nat.lt_or_ge (k + 1) (lg (2 ^ k + 1)) with h | h
  · exfalso
    unfold lg at h
    split at h
    · omega
    · have := (Nat.le_log2 (n := 2 ^ k + 1 - 1) (k := k + 1) (by omega)).1 (by omega)
      rw [Nat.pow_succ] at this
      have := Nat.two_pow_pos k
      omega
  · omega

/-- the root of as many strings as a power of two, by its halves -/
theorem root_halves (k : Nat) (S : Nat → ByteArray) : rootOf S (2 ^ (k + 1)) = dig (2 :: (rootOf S (2 ^ k) ++ rootOf (fun i => S (2 ^ k + i)) (2 ^ k))) := by
  unfold rootOf
  rw [lg_pow, lg_pow, climb_halves]
  have hp := Nat.pow_succ 2 k
  rw [climb_congr k (P := lowP S (2 ^ (k + 1))) (Q := lowP S (2 ^ k)) (fun i hi => by rw [lowP, lowP, if_pos (by omega), if_pos hi]),
    climb_congr k (P := fun i => lowP S (2 ^ (k + 1)) (2 ^ k + i)) (Q := lowP (fun i => S (2 ^ k + i)) (2 ^ k)) (fun i hi => by rw [lowP, lowP, if_pos (by omega), if_pos hi])]

/-- a tree of missing leaves, and one with one leaf -/
def noneP : Nat → List UInt8
  | 0 => [3]
  | k + 1 => 2 :: (dig (noneP k) ++ dig (noneP k))
def oneP (l : List UInt8) : Nat → List UInt8
  | 0 => 1 :: l
  | k + 1 => 2 :: (dig (oneP l k) ++ dig (noneP k))
theorem climb_one (l : List UInt8) (k : Nat) : ∀ j, climbP (fun i => if i = 0 then 1 :: l else [3]) k j = if j = 0 then oneP l k else noneP k := by
  induction k with
  | zero => intro j; rfl
  | succ k ih =>
    intro j
    show 2 :: (dig (climbP _ k (2 * j)) ++ dig (climbP _ k (2 * j + 1))) = _
    rw [ih (2 * j), ih (2 * j + 1), if_neg (show ¬ 2 * j + 1 = 0 by omega)]
    by_cases h : j = 0
    · subst h; rfl
    · rw [if_neg (show ¬ 2 * j = 0 by omega), if_neg h]; rfl
/-- .. with one string more than a power of two -/
theorem root_next (k : Nat) (S : Nat → ByteArray) : rootOf S (2 ^ k + 1) = dig (2 :: (rootOf S (2 ^ k) ++ dig (oneP (bs (S (2 ^ k))) k))) := by
  unfold rootOf
  rw [lg_pow, lg_next, climb_halves]
  rw [climb_congr k (P := lowP S (2 ^ k + 1)) (Q := lowP S (2 ^ k)) (fun i hi => by rw [lowP, lowP, if_pos (by omega), if_pos hi])]
  have e : climbP (fun i => lowP S (2 ^ k + 1) (2 ^ k + i)) k 0 = oneP (bs (S (2 ^ k))) k := by
    have h := climb_one (bs (S (2 ^ k))) k 0
    rw [if_pos rfl] at h
    rw [← h]
    congr 1
    funext i
    by_cases hi : i = 0
    · subst hi; rw [lowP, if_pos (by omega), if_pos rfl]; rfl
    · rw [lowP, if_neg (by omega), if_neg hi]
  rw [e]
end Go.Proofs.Ytmiidniihbhkdaa
