/- sums and products that fit; what a small fraction lies between. -/
import Derived.Test.YtgenaicmjddjcaaGreatDoorLwA
namespace Go.Proofs.YtgenaicmjddjcaaGreatDoor
open Go.RowKit Go.Shelf

theorem fit_lt {z : Int} {k : Nat} (h : z.natAbs < bp k) (hk : k ≤ 64) : fitO z = some z := fitO_some (fit_of h hk)
theorem addR_fit {x y : Rat} {i j : Nat} (hx : RB i x) (hy : RB j y) (hk : i + j + 1 ≤ 64) : addR x y = some (x + y) := by
 obtain ⟨a, b, c, -, -⟩ := hx.fit hy (Nat.le_refl _)
 unfold addR
 rw [fit_lt a (by omega), fit_lt b (by omega), fit_lt c (by omega)]
 show (match fitO (x.num * y.den + y.num * x.den) with
  | some s => divO s ((x.den : Int) * y.den)
  | none => none) = _
 rw [fit_lt (add_lt a b) hk]
 show divO _ _ = _
 rw [divO_some _ (den_mul_ne x y), rat_add]
theorem mulR_fit {x y : Rat} {i j : Nat} (hx : RB i x) (hy : RB j y) (hk : i + j ≤ 64) : mulR x.num y.num x.den y.den = some (x * y) := by
 obtain ⟨-, -, c, d, -⟩ := hx.fit hy (Nat.le_refl _)
 unfold mulR
 rw [fit_lt d hk, fit_lt c hk]
 show divO _ _ = _
 rw [divO_some _ (den_mul_ne x y), rat_mul]
theorem RB.neg {k : Nat} {x : Rat} (h : RB k x) : RB k (-x) := ⟨by show (-x.num).natAbs < _; rw [Int.natAbs_neg]; exact h.1, h.2⟩
structure Small (x : Rat) : Prop where
 rb : RB 1 x
 f0 : -50 ≤ x.floor
 f1 : x.floor ≤ 50
 c0 : -50 ≤ x.ceil
 c1 : x.ceil ≤ 50
theorem small_of {n d : Int} (h1 : -50 < n) (h2 : n < 50) (h3 : 1 ≤ d) (h4 : d ≤ 30) : Small (Rat.divInt n d) := by
 have hd : d ≠ 0 := by omega
 have hb : RB 1 (Rat.divInt n d) := RB.divInt hd (Nat.lt_of_lt_of_le (m := 50) (by omega) (by decide)) (Nat.lt_of_lt_of_le (m := 31) (by omega) (by decide))
 obtain ⟨e1, -⟩ := rat_divInt n d hd
 have h5 := natAbs_ediv_le _ _ (ofG_ne (n := n) hd) (ofG_dvd_left n d)
 rw [← e1] at h5
 have h6 := rat_den_pos (Rat.divInt n d)
 obtain ⟨x, hx⟩ : ∃ x, Rat.divInt n d = x := ⟨_, rfl⟩
 rw [hx] at hb h5 h6 ⊢
 have m0 : x.num.natAbs < 50 := by omega
 refine ⟨hb, ?_, ?_, ?_, ?_⟩
 · rw [← rat_floor]; exact (Int.le_ediv_iff_mul_le h6).2 (by omega)
 · rw [← rat_floor]; exact Int.le_of_lt_add_one ((Int.ediv_lt_iff_lt_mul h6).2 (by omega))
 · rw [← rat_ceil]; have q : (-x.num) / (x.den : Int) < 51 := (Int.ediv_lt_iff_lt_mul h6).2 (by omega)
   omega
 · rw [← rat_ceil]; have q : -50 ≤ (-x.num) / (x.den : Int) := (Int.le_ediv_iff_mul_le h6).2 (by omega)
   omega
theorem intO_some {z : Int} (h0 : -9223372036854775808 ≤ z) (h1 : z ≤ 9223372036854775807) : intO (some z) = some z := if_pos ⟨h0, h1⟩
theorem Small.floor {x : Rat} (h : Small x) : floorO (some x) = some x.floor := by
 have := h.f0; have := h.f1
 show intO (some (x.num / (x.den : Int))) = _
 rw [rat_floor, intO_some (by omega) (by omega)]
theorem Small.ceil {x : Rat} (h : Small x) : ceilO (some x) = some x.ceil := by
 have := h.c0; have := h.c1
 show intO (some (-((-x.num) / (x.den : Int)))) = _
 rw [rat_ceil, intO_some (by omega) (by omega)]
theorem Small.neg {x : Rat} (h : Small x) : floorO (some (-x)) = some (-x.ceil) := by
 have := h.c0; have := h.c1
 have e : (-x).floor = -x.ceil := by rw [Rat.ceil_eq_neg_floor_neg, Int.neg_neg]
 show intO (some ((-x).num / ((-x).den : Int))) = _
 rw [rat_floor, e, intO_some (by omega) (by omega)]
end Go.Proofs.YtgenaicmjddjcaaGreatDoor
