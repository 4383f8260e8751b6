/- Decimal texts in order: of texts of one length the greater number's comes later; longer texts are those of greater numbers. -/
import Derived.Test.YtmpdeiopdempcaaGreatDoorTxC
import Derived.Lib.Strings
namespace Go.Proofs.YtmpdeiopdempcaaGreatDoor
open Go.RowKit Go.Shelf

theorem dv_cons (c : UInt8) (r : List UInt8) : dv (c :: r) = (c.toNat - 48) * 10 ^ r.length + dv r := by
  have := dv_append [c] r
  rw [List.singleton_append, dv_one] at this; exact this
theorem less_dv : ∀ (x y : List UInt8), x.length = y.length → (∀ c ∈ x, isD c) → (∀ c ∈ y, isD c) → Op.bytesLess x y = decide (dv x < dv y)
  | [], [], _, _, _ => by simp [Op.bytesLess]
  | [], _ :: _, h, _, _ => by simp at h
  | _ :: _, [], h, _, _ => by simp at h
  | a :: x, b :: y, h, hx, hy => by
    have hl : x.length = y.length := by simpa using h
    have ha := hx a (by simp)
    have hb := hy b (by simp)
    have hx' : ∀ c ∈ x, isD c := fun c hc => hx c (by simp [hc])
    have hy' : ∀ c ∈ y, isD c := fun c hc => hy c (by simp [hc])
    have ih := less_dv x y hl hx' hy'
    have lx := dv_lt x hx'
    have ly := dv_lt y hy'
    rw [Op.bytesLess, ih, dv_cons, dv_cons, hl]
    rw [hl] at lx
    unfold isD at ha hb
    rcases Nat.lt_trichotomy a.toNat b.toNat with hab | hab | hab
    · have h1 : a < b := UInt8.lt_iff_toNat_lt.2 hab
      have h2 : (a.toNat - 48 + 1) * 10 ^ y.length ≤ (b.toNat - 48) * 10 ^ y.length := Nat.mul_le_mul_right _ (by omega)
      rw [Nat.add_mul, Nat.one_mul] at h2
      have h3 : (a.toNat - 48) * 10 ^ y.length + dv x < (b.toNat - 48) * 10 ^ y.length + dv y := by omega
      simp [h1, h3]
    · obtain rfl : a = b := UInt8.toNat_inj.1 hab
      have h1 : ¬ a < a := fun h => Nat.lt_irrefl _ (UInt8.lt_iff_toNat_lt.1 h)
      simp [h1]
    · have h1 : ¬ a < b := fun h => by have := UInt8.lt_iff_toNat_lt.1 h; omega
      have h4 : (a == b) = false := beq_eq_false_iff_ne.2 fun e => by rw [e] at hab; omega
      have h2 : (b.toNat - 48 + 1) * 10 ^ y.length ≤ (a.toNat - 48) * 10 ^ y.length := Nat.mul_le_mul_right _ (by omega)
      rw [Nat.add_mul, Nat.one_mul] at h2
      have h3 : ¬ (a.toNat - 48) * 10 ^ y.length + dv x < (b.toNat - 48) * 10 ^ y.length + dv y := by omega
      simp [h1, h4, h3]
theorem nd_lt {u v : Nat} (h : Lib.nDigits u < Lib.nDigits v) : u < v := by
  apply Nat.lt_of_not_le
  intro hle
  have h1 := Lib.lt_pow_nDigits u
  have h0 := Lib.nDigits_pos u
  obtain ⟨k, hk⟩ : ∃ k, Lib.nDigits u = k + 1 := ⟨Lib.nDigits u - 1, by omega⟩
  rw [hk] at h1 h
  have := nd_le k v (Nat.lt_of_le_of_lt hle h1)
  omega
theorem dec_less {u v : Nat} (h : Lib.nDigits u = Lib.nDigits v) : Op.bytesLess (Lib.decDigits u) (Lib.decDigits v) = decide (u < v) := by
  rw [less_dv _ _ (by rw [Lib.decDigits_length, Lib.decDigits_length, h]) (dec_digits u).1 (dec_digits v).1, (dec_digits u).2, (dec_digits v).2]
theorem dec_beq (u v : Nat) : (Lib.decDigits u == Lib.decDigits v) = decide (u = v) := by
  by_cases h : u = v
  · subst h; simp
  · have : Lib.decDigits u ≠ Lib.decDigits v := fun e => h (by rw [← (dec_digits u).2, ← (dec_digits v).2, e])
    simp [h, this]
theorem bytes_toList (l : List UInt8) : (⟨l.toArray⟩ : ByteArray).toList = l := by rw [Lib.toList_data]
theorem nat_txt (u : Nat) : txtZ (u : Int) = Lib.decDigits u := by rw [txtZ_nonneg (by omega), Int.natAbs_natCast]
end Go.Proofs.YtmpdeiopdempcaaGreatDoor
