/- The digest of bytes: two remainders, written as eight bytes; the digests of a tree's levels. It speaks of no program. -/
import Derived.WalkKit
namespace Go.Proofs.Ytmiidniihbhkdaa

/-- one byte of the first, and of the second remainder -/
def stA (x c : Nat) : Nat := (48271 * x + (c + 1)) % 2147483629
def stB (y c : Nat) : Nat := (69621 * y + (c + 1)) % 2147483587
def remA (l : List UInt8) : Nat := l.foldl (fun x c => stA x c.toNat) 17
def remB (l : List UInt8) : Nat := l.foldl (fun y c => stB y c.toNat) 29
theorem stA_lt (x c : Nat) : stA x c < 2147483629 := Nat.mod_lt _ (by decide)
theorem stB_lt (x c : Nat) : stB x c < 2147483587 := Nat.mod_lt _ (by decide)
theorem remA_snoc (l : List UInt8) (c : UInt8) : remA (l ++ [c]) = stA (remA l) c.toNat := by simp [remA, List.foldl_append]
theorem remB_snoc (l : List UInt8) (c : UInt8) : remB (l ++ [c]) = stB (remB l) c.toNat := by simp [remB, List.foldl_append]
theorem foldA_lt (l : List UInt8) : ∀ x, x < 2147483629 → l.foldl (fun x c => stA x c.toNat) x < 2147483629 := by
  induction l with
  | nil => exact fun _ h => h
  | cons c r ih => exact fun x _ => ih _ (stA_lt _ _)
theorem foldB_lt (l : List UInt8) : ∀ x, x < 2147483587 → l.foldl (fun x c => stB x c.toNat) x < 2147483587 := by
  induction l with
  | nil => exact fun _ h => h
  | cons c r ih => exact fun x _ => ih _ (stB_lt _ _)
theorem remA_lt (l : List UInt8) : remA l < 2147483629 := foldA_lt l 17 (by decide)
theorem remB_lt (l : List UInt8) : remB l < 2147483587 := foldB_lt l 29 (by decide)

/-- four bytes, the most significant one first -/
def be4 (n : Nat) : List UInt8 := [UInt8.ofNat (n / 16777216 % 256), UInt8.ofNat (n / 65536 % 256), UInt8.ofNat (n / 256 % 256), UInt8.ofNat (n % 256)]
/-- four bytes, the least significant one first -/
def le4 (n : Nat) : List UInt8 := [UInt8.ofNat (n % 256), UInt8.ofNat (n / 256 % 256), UInt8.ofNat (n / 65536 % 256), UInt8.ofNat (n / 16777216 % 256)]
/-- the digest -/
def dig (l : List UInt8) : List UInt8 := be4 (remA l) ++ be4 (remB l)
theorem dig_len (l : List UInt8) : (dig l).length = 8 := rfl
theorem le4_len (n : Nat) : (le4 n).length = 4 := rfl

theorem ofNat_inj {a b : Nat} (ha : a < 256) (hb : b < 256) (h : UInt8.ofNat a = UInt8.ofNat b) : a = b := by
  have := congrArg UInt8.toNat h
  simpa [UInt8.toNat_ofNat', Nat.mod_eq_of_lt ha, Nat.mod_eq_of_lt hb] using this
theorem be4_inj {n m : Nat} (hn : n < 4294967296) (hm : m < 4294967296) (h : be4 n = be4 m) : n = m := by
  simp only [be4, List.cons.injEq, and_true] at h
  obtain ⟨h0, h1, h2, h3⟩ := h
  have := ofNat_inj (Nat.mod_lt _ (by decide)) (Nat.mod_lt _ (by decide)) h0
  have := ofNat_inj (Nat.mod_lt _ (by decide)) (Nat.mod_lt _ (by decide)) h1
  have := ofNat_inj (Nat.mod_lt _ (by decide)) (Nat.mod_lt _ (by decide)) h2
  have := ofNat_inj (Nat.mod_lt _ (by decide)) (Nat.mod_lt _ (by decide)) h3
  omega
theorem dig_rem {l m : List UInt8} (h : dig l = dig m) : remA l = remA m := by
  have h' : be4 (remA l) = be4 (remA m) := by
    have := congrArg (List.take 4) h
    simpa [dig, be4] using this
  have a := remA_lt l
  have b := remA_lt m
  exact be4_inj (by omega) (by omega) h'

/-- a byte other than this one leads to another remainder -/
theorem stA_byte {x c d : Nat} (hc : c < 256) (hd : d < 256) (h : stA x c = stA x d) : c = d := by
  unfold stA at h
  omega
/-- another remainder stays another one -/
theorem stA_inj {x y c : Nat} (hx : x < 2147483629) (hy : y < 2147483629) (h : stA x c = stA y c) : x = y := by
  unfold stA at h
  omega
theorem foldA_inj (l : List UInt8) : ∀ {x y : Nat}, x < 2147483629 → y < 2147483629 → l.foldl (fun x c => stA x c.toNat) x = l.foldl (fun x c => stA x c.toNat) y → x = y := by
  induction l with
  | nil => exact fun _ _ h => h
  | cons c r ih => exact fun hx hy h => stA_inj hx hy (ih (stA_lt _ _) (stA_lt _ _) h)
/-- strings of one length that differ in one byte have different digests -/
theorem dig_ne {p q : List UInt8} {c d : UInt8} (h : c ≠ d) : dig (p ++ c :: q) ≠ dig (p ++ d :: q) := by
  intro e
  have := dig_rem e
  unfold remA at this
  rw [List.foldl_append, List.foldl_append] at this
  have := foldA_inj q (stA_lt _ _) (stA_lt _ _) this
  exact h (UInt8.toNat_inj.1 (stA_byte c.toNat_lt d.toNat_lt this))
end Go.Proofs.Ytmiidniihbhkdaa
