/- Decimal digits as lists of bytes: parts of nine, the value they spell, their order. It speaks of no program. -/
import Derived.Lib.ItoaNum
import Derived.Lib.Repeat
import Derived.Lib.ParseIntB
import Derived.Test.YtmpdeiopdempcaaGreatDoorText
namespace Go.Proofs.YtmpdeiopdempcaaGreatDoor
open Go.RowKit Go.Shelf

theorem dec_small {u : Nat} (h : u < 10) : Lib.decDigits u = [UInt8.ofNat (48 + u)] := by rw [Lib.decDigits, dif_pos h]
theorem dec_big {u : Nat} (h : ¬ u < 10) : Lib.decDigits u = Lib.decDigits (u / 10) ++ [UInt8.ofNat (48 + u % 10)] := by rw [Lib.decDigits, dif_neg h]
/-- the last k decimal digits -/
def pad : Nat → Nat → List UInt8
  | 0, _ => []
  | k + 1, r => pad k (r / 10) ++ [UInt8.ofNat (48 + r % 10)]
theorem pad_length : ∀ (k r : Nat), (pad k r).length = k
  | 0, _ => rfl
  | k + 1, r => by rw [pad, List.length_append, pad_length k]; rfl
theorem pad_zero : ∀ k, pad k 0 = Lib.repeatL [48] k
  | 0 => rfl
  | k + 1 => by
    rw [pad, Nat.zero_div, pad_zero k, Lib.repeatL_add]
    rfl
theorem dec_split : ∀ (k u : Nat), u / 10 ^ k ≠ 0 → Lib.decDigits u = Lib.decDigits (u / 10 ^ k) ++ pad k (u % 10 ^ k)
  | 0, u, _ => by rw [Nat.pow_zero, Nat.div_one, pad, List.append_nil]
  | k + 1, u, h => by
    have hp : 0 < 10 ^ k := Nat.pow_pos (by decide)
    have hd : u / 10 ^ (k + 1) = u / 10 / 10 ^ k := by rw [Nat.pow_succ, Nat.mul_comm, Nat.div_div_eq_div_mul]
    rw [hd] at h ⊢
    have hu : ¬ u < 10 := fun hlt => h (by rw [Nat.div_eq_of_lt hlt, Nat.zero_div])
    rw [dec_big hu, dec_split k (u / 10) h, List.append_assoc]
    congr 1
    rw [pad]
    have h1 : u % 10 ^ (k + 1) / 10 = u / 10 % 10 ^ k := by
      rw [Nat.pow_succ, Nat.mul_comm]
      exact Nat.mod_mul_right_div_self u 10 (10 ^ k)
    have h2 : u % 10 ^ (k + 1) % 10 = u % 10 := by
      rw [Nat.pow_succ]
      exact Nat.mod_mul_left_mod u (10 ^ k) 10
    rw [h1, h2]
theorem pad_eq : ∀ (k r : Nat), r < 10 ^ (k + 1) → pad (k + 1) r = Lib.repeatL [48] (k + 1 - Lib.nDigits r) ++ Lib.decDigits r
  | k, r, h => by
    by_cases hr : r < 10
    · rw [pad, Nat.div_eq_of_lt hr, pad_zero, Lib.nDigits_small hr, dec_small hr, Nat.mod_eq_of_lt hr]
      rfl
    · match k, h with
      | 0, h => simp at h; omega
      | k + 1, h =>
        rw [pad, pad_eq k (r / 10) (by rw [Nat.pow_succ] at h; omega), Lib.nDigits_big hr, dec_big hr, List.append_assoc]
        congr 2
        omega
theorem dec_nine {u : Nat} (h : u / 1000000000 ≠ 0) : Lib.decDigits u = Lib.decDigits (u / 1000000000) ++ (Lib.repeatL [48] (9 - Lib.nDigits (u % 1000000000)) ++ Lib.decDigits (u % 1000000000)) := by
  have := dec_split 9 u (by simpa using h)
  rw [pad_eq 8 _ (Nat.mod_lt _ (by decide))] at this
  simpa using this
/-- the text by groups is the decimal text -/
theorem txt_dec {V K : Nat} (hK : 0 < K) (hz : V / 1000000000 ^ K = 0) (hp : K = 1 ∨ V / 1000000000 ^ (K - 1) ≠ 0) : txt V K K = Lib.decDigits V := by
  have main : ∀ m, m < K → txt V K (m + 1) = Lib.decDigits (V / 1000000000 ^ (K - (m + 1))) := by
    intro m
    induction m with
    | zero =>
      intro hm
      rw [txt, txt, List.nil_append, Nat.zero_add]
      unfold piece
      rw [if_neg (by omega), List.nil_append]
      unfold grp
      have h1 : V / 1000000000 ^ (K - 1) / 1000000000 = 0 := by
        rw [Nat.div_div_eq_div_mul, ← Nat.pow_succ, show (K - 1).succ = K by omega]; exact hz
      rw [Nat.mod_eq_of_lt (by omega)]
    | succ m ih =>
      intro hm
      rw [txt, ih (by omega)]
      have hk1 : K ≠ 1 := by omega
      have hp' : V / 1000000000 ^ (K - 1) ≠ 0 := hp.resolve_left hk1
      have hq : V / 1000000000 ^ (K - (m + 1)) ≠ 0 := by
        intro h0
        apply hp'
        have hlt : V < 1000000000 ^ (K - (m + 1)) := (Nat.div_eq_zero_iff.1 h0).resolve_left (Nat.ne_of_gt (Nat.pow_pos (by decide)))
        exact Nat.div_eq_of_lt (Nat.lt_of_lt_of_le hlt (Nat.pow_le_pow_right (by decide) (by omega)))
      have he : V / 1000000000 ^ (K - (m + 1)) = V / 1000000000 ^ (K - (m + 1 + 1)) / 1000000000 := by
        rw [Nat.div_div_eq_div_mul, ← Nat.pow_succ, show (K - (m + 1 + 1)).succ = K - (m + 1) by omega]
      rw [he] at hq ⊢
      unfold piece
      rw [if_pos (by omega), dec_nine hq]
      rfl
  have := main (K - 1) (by omega)
  rw [show K - 1 + 1 = K by omega, Nat.sub_self, Nat.pow_zero, Nat.div_one] at this
  exact this

/-- a byte that is a decimal digit -/
def isD (c : UInt8) : Prop := 48 ≤ c.toNat ∧ c.toNat ≤ 57
instance (c : UInt8) : Decidable (isD c) := inferInstanceAs (Decidable (_ ∧ _))
/-- what digits spell, behind a number -/
def dvA (a : Nat) (l : List UInt8) : Nat := l.foldl (fun a c => a * 10 + (c.toNat - 48)) a
def dv (l : List UInt8) : Nat := dvA 0 l
theorem dvA_cons (a : Nat) (c : UInt8) (r : List UInt8) : dvA a (c :: r) = dvA (a * 10 + (c.toNat - 48)) r := by unfold dvA; rw [List.foldl_cons]
theorem dvA_append (p q : List UInt8) (a : Nat) : dvA a (p ++ q) = dvA (dvA a p) q := by unfold dvA; rw [List.foldl_append]
theorem dvA_nil (a : Nat) : dvA a [] = a := by unfold dvA; rw [List.foldl_nil]
theorem dvA_eq (l : List UInt8) : ∀ a, dvA a l = a * 10 ^ l.length + dvA 0 l := by
  induction l with
  | nil => intro a; rw [dvA_nil, dvA_nil]; simp
  | cons c r ih =>
    intro a
    rw [dvA_cons, dvA_cons, ih (a * 10 + _), ih (0 * 10 + _), List.length_cons, Nat.pow_succ, Nat.add_mul, Nat.add_mul, Nat.mul_assoc, Nat.mul_comm (10 ^ r.length) 10]
    omega
theorem dv_one (c : UInt8) : dv [c] = c.toNat - 48 := by unfold dv; rw [dvA_cons, dvA_nil]; omega
theorem dv_append (p q : List UInt8) : dv (p ++ q) = dv p * 10 ^ q.length + dv q := by unfold dv; rw [dvA_append, dvA_eq q]
theorem dv_lt : ∀ (l : List UInt8), (∀ c ∈ l, isD c) → dv l < 10 ^ l.length
  | [], _ => by unfold dv; rw [dvA_nil]; simp
  | c :: r, h => by
    have h1 := h c (by simp)
    have h2 := dv_lt r fun x hx => h x (by simp [hx])
    have h3 := dv_append [c] r
    rw [List.singleton_append] at h3
    have h4 := dv_one c
    rw [h3, h4, List.length_cons, Nat.pow_succ]
    have h5 : (c.toNat - 48) * 10 ^ r.length ≤ 9 * 10 ^ r.length := Nat.mul_le_mul_right _ (by unfold isD at h1; omega)
    omega
theorem toNat_dig {u : Nat} (h : u < 10) : (UInt8.ofNat (48 + u)).toNat = 48 + u := by
  simp
  omega
theorem dec_digits : ∀ (u : Nat), (∀ c ∈ Lib.decDigits u, isD c) ∧ dv (Lib.decDigits u) = u := by
  intro u
  induction u using Nat.strongRecOn with
  | _ u ih =>
    by_cases h : u < 10
    · rw [dec_small h]
      refine ⟨fun c hc => ?_, ?_⟩
      · obtain rfl := List.mem_singleton.1 hc; unfold isD; rw [toNat_dig h]; omega
      · rw [dv_one, toNat_dig h]; omega
    · obtain ⟨h1, h2⟩ := ih (u / 10) (by omega)
      have hm : u % 10 < 10 := Nat.mod_lt _ (by decide)
      rw [dec_big h]
      refine ⟨fun c hc => ?_, ?_⟩
      · rcases List.mem_append.1 hc with hc | hc
        · exact h1 c hc
        · obtain rfl := List.mem_singleton.1 hc; unfold isD; rw [toNat_dig hm]; omega
      · rw [dv_append, h2]
        rw [dv_one, toNat_dig hm, List.length_singleton]; omega
/-- the first digit of a number other than 0 is not 0 -/
theorem dec_head : ∀ (u : Nat), ∃ c r, Lib.decDigits u = c :: r ∧ isD c ∧ (u ≠ 0 → c.toNat ≠ 48) := by
  intro u
  induction u using Nat.strongRecOn with
  | _ u ih =>
    by_cases h : u < 10
    · rw [dec_small h]
      exact ⟨_, [], rfl, by unfold isD; rw [toNat_dig h]; omega, fun h0 => by rw [toNat_dig h]; omega⟩
    · obtain ⟨c, r, h1, h2, h3⟩ := ih (u / 10) (by omega)
      exact ⟨c, r ++ [UInt8.ofNat (48 + u % 10)], by rw [dec_big h, h1]; rfl, h2, fun _ => h3 (by omega)⟩
/-- ParseUint of at most nine bytes -/
theorem parse_nine {l : List UInt8} (h0 : l ≠ []) (h9 : l.length ≤ 9) (hd : ∀ c ∈ l, isD c) : Lib.parseUintB 32 l = .ok (dv l) := by
  have main : ∀ (l : List UInt8) (a k : Nat), l.length ≤ k → k ≤ 9 → a * 10 ^ k + 10 ^ k ≤ 10 ^ 9 → (∀ c ∈ l, isD c) → Lib.parseUintM 4294967295 a l = .ok (dvA a l) := by
    intro l
    induction l with
    | nil => intro a k _ _ _ _; rw [dvA_nil]; rfl
    | cons c r ih =>
      intro a k hk hk9 ha hd
      obtain ⟨k, rfl⟩ : ∃ j, k = j + 1 := ⟨k - 1, by simp at hk; omega⟩
      have hc := hd c (by simp)
      have hp : 0 < 10 ^ k := Nat.pow_pos (by decide)
      rw [Nat.pow_succ] at ha
      have h1 : (a * 10 + 9) * 10 ^ k + 10 ^ k ≤ 10 ^ 9 := by
        rw [Nat.add_mul, Nat.mul_assoc, Nat.mul_comm 10 (10 ^ k)]; omega
      have h2 : a * 10 + 9 < 10 ^ 9 := by
        have : (a * 10 + 9) * 1 ≤ (a * 10 + 9) * 10 ^ k := Nat.mul_le_mul_left _ hp
        omega
      unfold isD at hc
      have h3 : (a * 10 + (c.toNat - 48)) * 10 ^ k ≤ (a * 10 + 9) * 10 ^ k := Nat.mul_le_mul_right _ (by omega)
      rw [Lib.parseUintM, if_pos hc, if_neg (by omega), if_neg (by omega), ih _ k (by simp at hk; omega) (by omega) (by omega) fun x hx => hd x (by simp [hx]), dvA_cons]
  unfold Lib.parseUintB
  rw [if_neg h0]
  exact main l 0 9 h9 (Nat.le_refl _) (by decide) hd
end Go.Proofs.YtmpdeiopdempcaaGreatDoor
