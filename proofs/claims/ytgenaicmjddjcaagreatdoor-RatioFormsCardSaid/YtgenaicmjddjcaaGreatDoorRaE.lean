/- fractions: plain arithmetic; a fraction as an argument, and as a result. -/
import Derived.Test.YtgenaicmjddjcaaGreatDoorRaD
namespace Go.Proofs.YtgenaicmjddjcaaGreatDoor
open Go.RowKit Go.Shelf

def RB (k : Nat) (x : Rat) : Prop := x.num.natAbs < bp k ∧ x.den < bp k
theorem RB.mono {i j : Nat} {x : Rat} (h : RB i x) (hj : i ≤ j) : RB j x := ⟨Nat.lt_of_lt_of_le h.1 (bp_le hj), Nat.lt_of_lt_of_le h.2 (bp_le hj)⟩
theorem rat_den_pos (x : Rat) : (0 : Int) < (x.den : Int) := by have := x.den_pos; omega
theorem rat_den_ne (x : Rat) : (x.den : Int) ≠ 0 := by have := x.den_pos; omega
theorem rat_gcd (x : Rat) : Int.gcd x.num (x.den : Int) = 1 := x.reduced
theorem rightO_rat (x : Rat) : rightO (some x.num) (some (x.den : Int)) = true := by
 show (decide (1 ≤ (x.den : Int)) && decide (Int.gcd x.num (x.den : Int) = 1)) = true
 rw [rat_gcd x]
 have := rat_den_pos x
 simp; omega
theorem rat_of_right {n d : Int} (h : rightO (some n) (some d) = true) : ∃ x : Rat, x.num = n ∧ (x.den : Int) = d := by
 unfold rightO at h
 simp only [Bool.and_eq_true, decide_eq_true_eq] at h
 obtain ⟨h1, h2⟩ := h
 refine ⟨⟨n, d.natAbs, by omega, h2⟩, rfl, by show ((d.natAbs : Nat) : Int) = d; omega⟩
theorem ofG_pos {n d : Int} (hd : 0 < d) : ofG n d = ((Int.gcd n d : Nat) : Int) := if_neg (by omega)
theorem rat_divInt (n d : Int) (hd : d ≠ 0) : (Rat.divInt n d).num = n / ofG n d ∧ ((Rat.divInt n d).den : Int) = d / ofG n d := by
 rw [Rat.num_divInt, Rat.den_divInt, if_neg hd]
 have hg : Int.gcd d n = Int.gcd n d := Int.gcd_comm d n
 have hdv : ((Int.gcd n d : Nat) : Int) ∣ n := Int.gcd_dvd_left ..
 have hdd : ((Int.gcd n d : Nat) : Int) ∣ d := Int.gcd_dvd_right ..
 rw [hg]
 by_cases h : d < 0
 · have hG : ofG n d = -((Int.gcd n d : Nat) : Int) := if_pos h
   rw [hG, Int.ediv_neg, Int.ediv_neg, Int.sign_eq_neg_one_of_neg h, Int.neg_one_mul, Int.neg_ediv_of_dvd hdv]
   refine ⟨rfl, ?_⟩
   rw [← Int.neg_ediv_of_dvd hdd, Int.natCast_ediv]
   congr 1
   omega
 · have hd0 : 0 < d := by omega
   rw [ofG_pos hd0, Int.sign_eq_one_of_pos hd0, Int.one_mul]
   refine ⟨rfl, ?_⟩
   rw [Int.natCast_ediv]
   congr 1
   omega
theorem ofN_rat {n d : Int} (hd : d ≠ 0) : ofN (some n) (some d) = (Rat.divInt n d).num := by
 rw [(rat_divInt n d hd).1]; exact if_neg hd
theorem ofD_rat {n d : Int} (hd : d ≠ 0) : ofD (some n) (some d) = ((Rat.divInt n d).den : Int) := by
 rw [(rat_divInt n d hd).2]; exact if_neg hd
theorem natAbs_ediv_le (n g : Int) (hg : g ≠ 0) (h : g ∣ n) : (n / g).natAbs ≤ n.natAbs := by
 obtain ⟨c, rfl⟩ := h
 rw [Int.mul_ediv_cancel_left _ hg, Int.natAbs_mul]
 exact Nat.le_mul_of_pos_left _ (by omega)
theorem ofG_dvd_left (n d : Int) : ofG n d ∣ n := by
 unfold ofG; split
 · exact Int.neg_dvd.2 (Int.gcd_dvd_left ..)
 · exact Int.gcd_dvd_left ..
theorem ofG_dvd_right (n d : Int) : ofG n d ∣ d := by
 unfold ofG; split
 · exact Int.neg_dvd.2 (Int.gcd_dvd_right ..)
 · exact Int.gcd_dvd_right ..
theorem RB.divInt {n d : Int} {k : Nat} (hd : d ≠ 0) (hn : n.natAbs < bp k) (hk : d.natAbs < bp k) : RB k (Rat.divInt n d) := by
 obtain ⟨e1, e2⟩ := rat_divInt n d hd
 have h0 := ofG_ne (n := n) hd
 refine ⟨by rw [e1]; exact Nat.lt_of_le_of_lt (natAbs_ediv_le _ _ h0 (ofG_dvd_left n d)) hn, ?_⟩
 have h3 := natAbs_ediv_le _ _ h0 (ofG_dvd_right n d)
 rw [← e2, Int.natAbs_natCast] at h3
 exact Nat.lt_of_le_of_lt h3 hk
theorem rat_add (x y : Rat) : Rat.divInt (x.num * y.den + y.num * x.den) (x.den * y.den) = x + y := by
 rw [Rat.add_def', ← Int.natCast_mul, Rat.divInt_ofNat]
theorem den_mul_ne (x y : Rat) : (x.den : Int) * (y.den : Int) ≠ 0 := Int.mul_ne_zero (rat_den_ne x) (rat_den_ne y)
theorem RB.num {k : Nat} {x : Rat} (h : RB k x) : x.num.natAbs < bp k := h.1
theorem RB.den {k : Nat} {x : Rat} (h : RB k x) : ((x.den : Nat) : Int).natAbs < bp k := by rw [Int.natAbs_natCast]; exact h.2
theorem RB.fit {k : Nat} {x y : Rat} {i j : Nat} (hx : RB i x) (hy : RB j y) (hk : i + j ≤ k) : (x.num * (y.den : Int)).natAbs < bp k ∧ (y.num * (x.den : Int)).natAbs < bp k ∧ ((x.den : Int) * (y.den : Int)).natAbs < bp k ∧ (x.num * y.num).natAbs < bp k ∧ ((x.den : Int) * y.num).natAbs < bp k :=
 ⟨lt_mono (mul_lt hx.num hy.den) hk, lt_mono (mul_lt hy.num hx.den) (by omega), lt_mono (mul_lt hx.den hy.den) hk, lt_mono (mul_lt hx.num hy.num) hk, lt_mono (mul_lt hx.den hy.num) hk⟩
theorem RB.add {x y : Rat} {i j : Nat} (hx : RB i x) (hy : RB j y) : RB (i + j + 1) (x + y) := by
 obtain ⟨a, b, c, -, -⟩ := hx.fit hy (Nat.le_refl _)
 rw [← rat_add]
 exact RB.divInt (den_mul_ne x y) (add_lt a b) (lt_mono c (by omega))
def cmpR (x y : Rat) : Int := cmpZ (x.num * y.den) (y.num * x.den)
def sgnR (x : Rat) : Int := cmpZ x.num 0
theorem cont_quot {a b c d : Int} (hb : 0 < b) (hd : 0 < d) (h : cmpZ (a / b) (c / d) ≠ 0) : cmpZ (a * d) (c * b) = cmpZ (a / b) (c / d) := by
 have e1 := Int.mul_ediv_add_emod a b
 have e2 := Int.mul_ediv_add_emod c d
 have l1 := Int.emod_nonneg a (by omega : b ≠ 0)
 have l2 := Int.emod_nonneg c (by omega : d ≠ 0)
 have u1 := Int.emod_lt_of_pos a hb
 have u2 := Int.emod_lt_of_pos c hd
 have key : ∀ {a b c d p q r s : Int}, 0 < b → 0 < d → b * p + r = a → d * q + s = c → 0 ≤ r → r < b → 0 ≤ s → p < q → a * d < c * b := by
  intro a b c d p q r s hb hd e1 e2 hr hrb hs hpq
  have h1 : a < b * (p + 1) := by rw [Int.mul_add, Int.mul_one]; omega
  have h2 : d * q ≤ c := by omega
  have h3 : a * d < b * (p + 1) * d := Int.mul_lt_mul_of_pos_right h1 hd
  have h4 : b * (p + 1) * d ≤ b * q * d := Int.mul_le_mul_of_nonneg_right (Int.mul_le_mul_of_nonneg_left (by omega) (by omega)) (by omega)
  have h5 : b * q * d = d * q * b := by rw [Int.mul_comm b q, Int.mul_assoc, Int.mul_comm b d, ← Int.mul_assoc, Int.mul_comm q d]
  have h6 : d * q * b ≤ c * b := Int.mul_le_mul_of_nonneg_right h2 (by omega)
  omega
 unfold cmpZ at h ⊢
 by_cases h1 : a / b < c / d
 · rw [if_pos h1, if_pos (key hb hd e1 e2 l1 u1 l2 h1)]
 · rw [if_neg h1] at h ⊢
   by_cases h2 : a / b = c / d
   · rw [if_pos h2] at h; exact absurd rfl h
   · have := key hd hb e2 e1 l2 u2 l1 (by omega : c / d < a / b)
     rw [if_neg h2, if_neg (by omega), if_neg (by omega)]
theorem cont_rest {a b c d : Int} (h : cmpZ (a / b) (c / d) = 0) : cmpZ (a * d) (c * b) = cmpZ (d * (a % b)) (b * (c % d)) := by
 have e1 := Int.mul_ediv_add_emod a b
 have e2 := Int.mul_ediv_add_emod c d
 have hq : a / b = c / d := by
  unfold cmpZ at h
  by_cases h1 : a / b < c / d
  · rw [if_pos h1] at h; exact absurd h (by decide)
  · rw [if_neg h1] at h
    by_cases h2 : a / b = c / d
    · exact h2
    · rw [if_neg h2] at h; exact absurd h (by decide)
 have f1 : a * d = d * (a % b) + b * d * (a / b) := by
  rw [Int.mul_comm d, ← e1, Int.add_mul]
  rw [show (b * (a / b) + a % b) / b = a / b by rw [e1], show (b * (a / b) + a % b) % b = a % b by rw [e1], Int.mul_assoc, Int.mul_comm (a / b) d, ← Int.mul_assoc, Int.add_comm]
 have f2 : c * b = b * (c % d) + b * d * (a / b) := by
  rw [hq, Int.mul_comm b (c % d), ← e2, Int.add_mul]
  rw [show (d * (c / d) + c % d) / d = c / d by rw [e2], show (d * (c / d) + c % d) % d = c % d by rw [e2], Int.mul_assoc, Int.mul_comm (c / d) b, ← Int.mul_assoc, Int.mul_comm d b, Int.add_comm]
 rw [f1, f2, cmpZ_add]
theorem cont_end {b d r s : Int} (hb : 0 < b) (hd : 0 < d) (hr : 0 ≤ r) (hs : 0 ≤ s) (h : r = 0 ∨ s = 0) : cmpZ (d * r) (b * s) = cmpZ r s := by
 rcases h with rfl | rfl
 · rw [Int.mul_zero]; unfold cmpZ
   by_cases h0 : s = 0
   · subst h0; simp
   · have h1 : 0 < s := by omega
     have h2 := Int.mul_pos hb h1
     rw [if_pos h1, if_pos h2]
 · rw [Int.mul_zero]; unfold cmpZ
   by_cases h0 : r = 0
   · subst h0; simp
   · have h1 : 0 < r := by omega
     have h2 := Int.mul_pos hd h1
     rw [if_neg (by omega), if_neg (by omega), if_neg (by omega), if_neg (by omega)]
theorem rat_floor (x : Rat) : x.num / (x.den : Int) = x.floor := (Rat.floor_def x).symm
theorem rat_ceil (x : Rat) : -((-x.num) / (x.den : Int)) = x.ceil := by
 rw [Rat.ceil_eq_neg_floor_neg, Rat.floor_def]; rfl

def RArg (w : World) (s1 : Bool) (a1 : Option Addr) (n1 : Nat) (s2 : Bool) (a2 : Option Addr) (n2 : Nat) : Option Rat → Prop
 | some x => IsN w s1 a1 n1 x.num ∧ IsN w s2 a2 n2 (x.den : Int) ∧ n1 ≤ 64 ∧ n2 ≤ 64
 | none => ∃ o1 o2, Arg w s1 a1 n1 o1 ∧ Arg w s2 a2 n2 o2 ∧ rightO o1 o2 = false
theorem RArg.below {w w' : World} {s1 s2 : Bool} {a1 a2 : Option Addr} {n1 n2 : Nat} {o : Option Rat} (h : RArg w s1 a1 n1 s2 a2 n2 o) (t : Below w.heap.size w w') : RArg w' s1 a1 n1 s2 a2 n2 o := by
 cases o with
 | some x => exact ⟨h.1.below t, h.2.1.below t, h.2.2⟩
 | none => obtain ⟨o1, o2, h1, h2, h3⟩ := h; exact ⟨o1, o2, h1.below t, h2.below t, h3⟩
theorem RArg.num {w : World} {s1 s2 : Bool} {a1 a2 : Option Addr} {n1 n2 : Nat} {x : Rat} (h : RArg w s1 a1 n1 s2 a2 n2 (some x)) : IsN w s1 a1 n1 x.num := h.1
theorem RArg.den {w : World} {s1 s2 : Bool} {a1 a2 : Option Addr} {n1 n2 : Nat} {x : Rat} (h : RArg w s1 a1 n1 s2 a2 n2 (some x)) : IsN w s2 a2 n2 (x.den : Int) := h.2.1
theorem RArg.l1 {w : World} {s1 s2 : Bool} {a1 a2 : Option Addr} {n1 n2 : Nat} {x : Rat} (h : RArg w s1 a1 n1 s2 a2 n2 (some x)) : n1 ≤ 64 := h.2.2.1
theorem RArg.l2 {w : World} {s1 s2 : Bool} {a1 a2 : Option Addr} {n1 n2 : Nat} {x : Rat} (h : RArg w s1 a1 n1 s2 a2 n2 (some x)) : n2 ≤ 64 := h.2.2.2
theorem RArg.of {w : World} {s1 s2 : Bool} {a1 a2 : Option Addr} {n1 n2 : Nat} {x : Rat} (h1 : IsN w s1 a1 n1 x.num) (h2 : IsN w s2 a2 n2 (x.den : Int)) (k1 : n1 ≤ 64) (k2 : n2 ≤ 64) : RArg w s1 a1 n1 s2 a2 n2 (some x) := ⟨h1, h2, k1, k2⟩
theorem RArg.all {w : World} {s1 s2 : Bool} {a1 a2 : Option Addr} {n1 n2 : Nat} {o1 o2 : Option Int} (h1 : Arg w s1 a1 n1 o1) (h2 : Arg w s2 a2 n2 o2) : ∃ o, RArg w s1 a1 n1 s2 a2 n2 o := by
 by_cases h : rightO o1 o2 = true
 · cases o1 with
   | none => cases h
   | some n =>
     cases o2 with
     | none => cases h
     | some d =>
       obtain ⟨x, e1, e2⟩ := rat_of_right h
       subst e1; subst e2
       exact ⟨some x, h1.1, h2.1, h1.2, h2.2⟩
 · exact ⟨none, o1, o2, h1, h2, by simpa using h⟩
theorem RArg.zero (w : World) : RArg w false none 0 false none 0 none := ⟨some 0, some 0, ⟨zero_num w, by decide⟩, ⟨zero_num w, by decide⟩, rfl⟩
theorem right_r (s1 s2 : Bool) (a1 a2 : Option Addr) (n1 n2 c1 c2 : Nat) (o : Option Rat) (w : World) (h : RArg w s1 a1 n1 s2 a2 n2 o) :
 Calls Tryz.prog 26 #[.agg #[.bool s1, .slice a1 n1 c1, .bool s2, .slice a2 n2 c2]] w fun e w' => e = .returned (.bool o.isSome) ∧ Below w.heap.size w w' := by
 cases o with
 | some x =>
   have := ratRight_any s1 s2 a1 a2 n1 n2 c1 c2 (some x.num) (some (x.den : Int)) w ⟨h.1, h.2.2.1⟩ ⟨h.2.1, h.2.2.2⟩
   rw [rightO_rat] at this; exact this
 | none =>
   obtain ⟨o1, o2, h1, h2, h3⟩ := h
   have := ratRight_any s1 s2 a1 a2 n1 n2 c1 c2 o1 o2 w h1 h2
   rw [h3] at this; exact this
def numO : Option Rat → Int
 | some x => x.num
 | none => 0
def denO : Option Rat → Int
 | some x => (x.den : Int)
 | none => 0
def RatPost (w : World) (o : Option Rat) : Ending → World → Prop := RatOut w (numO o) (denO o) o.isSome
def RatVal (w : World) (o : Option Rat) (e : Ending) (w' : World) : Prop :=
 ∃ (s1 : Bool) (a1 : Option Addr) (n1 c1 : Nat) (s2 : Bool) (a2 : Option Addr) (n2 c2 : Nat), e = .returned (.agg #[.bool s1, .slice a1 n1 c1, .bool s2, .slice a2 n2 c2]) ∧
  IsN w' s1 a1 n1 (numO o) ∧ IsN w' s2 a2 n2 (denO o) ∧ n1 ≤ 64 ∧ n2 ≤ 64 ∧ Below w.heap.size w w'
theorem rarg_of {w : World} {s1 s2 : Bool} {a1 a2 : Option Addr} {n1 n2 : Nat} (o : Option Rat) (h1 : IsN w s1 a1 n1 (numO o)) (h2 : IsN w s2 a2 n2 (denO o)) (k1 : n1 ≤ 64) (k2 : n2 ≤ 64) : RArg w s1 a1 n1 s2 a2 n2 o := by
 cases o with
 | some x => exact ⟨h1, h2, k1, k2⟩
 | none => exact ⟨some 0, some 0, ⟨h1, k1⟩, ⟨h2, k2⟩, rfl⟩
def divO (n d : Int) : Option Rat := if d = 0 then none else some (Rat.divInt n d)
theorem divO_some (n : Int) {d : Int} (hd : d ≠ 0) : divO n d = some (Rat.divInt n d) := if_neg hd
theorem of_r (s1 s2 : Bool) (a1 a2 : Option Addr) (n1 n2 c1 c2 : Nat) (n d : Int) (hn1 : n1 ≤ 64) (hn2 : n2 ≤ 64) (w : World) (h1 : IsN w s1 a1 n1 n) (h2 : IsN w s2 a2 n2 d) :
 Calls Tryz.prog 30 #[.agg #[.bool s1, .slice a1 n1 c1], .agg #[.bool s2, .slice a2 n2 c2]] w (RatPost w (divO n d)) := by
 have h := ratOf_any s1 s2 a1 a2 n1 n2 c1 c2 (some n) (some d) w ⟨h1, hn1⟩ ⟨h2, hn2⟩
 by_cases hd : d = 0
 · subst hd; exact h
 · rw [ofN_rat hd, ofD_rat hd, show kO (some n) (some d) = true from decide_eq_true hd] at h
   rw [divO_some n hd]; exact h
theorem Cells.quad {w W : World} {b off n B : Nat} {f : Nat → Nat} {s1 s2 : Bool} {a1 a2 : Option Addr} {n1 c1 n2 c2 : Nat} (h : Cells w b off n f) (q : Four w B (.bool s1) (.slice a1 n1 c1) (.bool s2) (.slice a2 n2 c2)) (t : Touch B 0 4 w W) : Cells W b off n f := by
 intro j hj
 have e := h j hj
 by_cases hb : b = B
 · subst hb
   refine (t.cell _ fun hl => ?_).trans e
   have : off + j = 0 ∨ off + j = 1 ∨ off + j = 2 ∨ off + j = 3 := by omega
   rcases this with h0 | h0 | h0 | h0
   · rw [h0, q.c0] at e; cases e
   · rw [h0, q.c1] at e; cases e
   · rw [h0, q.c2] at e; cases e
   · rw [h0, q.c3] at e; cases e
 · exact (cell_of_block_eq (t.block b (lt_of_cell e) hb) _).trans e
theorem Dig.quad {w W : World} {a : Option Addr} {n B : Nat} {f : Nat → Nat} {s1 s2 : Bool} {a1 a2 : Option Addr} {n1 c1 n2 c2 : Nat} (h : Dig w a n f) (q : Four w B (.bool s1) (.slice a1 n1 c1) (.bool s2) (.slice a2 n2 c2)) (t : Touch B 0 4 w W) : Dig W a n f := by
 rcases h with h | ⟨b, off, e, h⟩
 · exact .inl h
 · exact .inr ⟨b, off, e, h.quad q t⟩
theorem IsN.quad {w W : World} {s : Bool} {a : Option Addr} {n B : Nat} {z : Int} {s1 s2 : Bool} {a1 a2 : Option Addr} {n1 c1 n2 c2 : Nat} (h : IsN w s a n z) (q : Four w B (.bool s1) (.slice a1 n1 c1) (.bool s2) (.slice a2 n2 c2)) (t : Touch B 0 4 w W) : IsN W s a n z := ⟨h.sign, h.dig.len, h.dig.dig.quad q t⟩
theorem Arg.quad {w W : World} {s : Bool} {a : Option Addr} {n B : Nat} {o : Option Int} {s1 s2 : Bool} {a1 a2 : Option Addr} {n1 c1 n2 c2 : Nat} (h : Arg w s a n o) (q : Four w B (.bool s1) (.slice a1 n1 c1) (.bool s2) (.slice a2 n2 c2)) (t : Touch B 0 4 w W) : Arg W s a n o := by
 cases o with
 | some z => exact ⟨h.1.quad q t, h.2⟩
 | none => obtain ⟨f, h1, h2, h3⟩ := h; exact ⟨f, h1.quad q t, h2, h3⟩
theorem RArg.quad {w W : World} {s1' s2' : Bool} {a1' a2' : Option Addr} {n1' n2' B : Nat} {o : Option Rat} {s1 s2 : Bool} {a1 a2 : Option Addr} {n1 c1 n2 c2 : Nat} (h : RArg w s1' a1' n1' s2' a2' n2' o) (q : Four w B (.bool s1) (.slice a1 n1 c1) (.bool s2) (.slice a2 n2 c2)) (t : Touch B 0 4 w W) : RArg W s1' a1' n1' s2' a2' n2' o := by
 cases o with
 | some x => exact ⟨h.1.quad q t, h.2.1.quad q t, h.2.2⟩
 | none => obtain ⟨o1, o2, h1, h2, h3⟩ := h; exact ⟨o1, o2, h1.quad q t, h2.quad q t, h3⟩
theorem Quad.touch {w W : World} {B C : Nat} {v0 v1 v2 v3 : Value} (h : Quad w C v0 v1 v2 v3) (hne : C ≠ B) (t : Touch B 0 4 w W) : Quad W C v0 v1 v2 v3 := by
 have hb := t.block C h.lt hne
 exact ⟨⟨(cell_of_block_eq hb _).trans h.four.c0, (cell_of_block_eq hb _).trans h.four.c1, (cell_of_block_eq hb _).trans h.four.c2, (cell_of_block_eq hb _).trans h.four.c3⟩, (frozen_of_block_eq hb _).trans h.z0, (frozen_of_block_eq hb _).trans h.z1, (frozen_of_block_eq hb _).trans h.z2, (frozen_of_block_eq hb _).trans h.z3⟩
structure HeldR (w : World) (B : Nat) (s1 : Bool) (a1 : Option Addr) (n1 c1 : Nat) (s2 : Bool) (a2 : Option Addr) (n2 c2 : Nat) (o : Option Rat) : Prop where
 box : Quad w B (.bool s1) (.slice a1 n1 c1) (.bool s2) (.slice a2 n2 c2)
 arg : RArg w s1 a1 n1 s2 a2 n2 o
theorem HeldR.below {w w' : World} {B : Nat} {s1 : Bool} {a1 : Option Addr} {n1 c1 : Nat} {s2 : Bool} {a2 : Option Addr} {n2 c2 : Nat} {o : Option Rat} (h : HeldR w B s1 a1 n1 c1 s2 a2 n2 c2 o) (t : Below w.heap.size w w') : HeldR w' B s1 a1 n1 c1 s2 a2 n2 c2 o := ⟨h.box.below t, h.arg.below t⟩
theorem HeldR.new {w : World} {s1 : Bool} {a1 : Option Addr} {n1 : Nat} (c1 : Nat) {s2 : Bool} {a2 : Option Addr} {n2 : Nat} (c2 : Nat) {o : Option Rat} (h : RArg w s1 a1 n1 s2 a2 n2 o) (t : TypeId) : HeldR (w.alloc (Obj.cells #[.bool s1, .slice a1 n1 c1, .bool s2, .slice a2 n2 c2] t)) w.heap.size s1 a1 n1 c1 s2 a2 n2 c2 o :=
 ⟨Quad.new _ _ _ _ _ _, h.below ((Below.refl _ w).alloc (Nat.le_refl _) _)⟩
theorem HeldR.set {w W : World} {B : Nat} {s1 : Bool} {a1 : Option Addr} {n1 c1 : Nat} {s2 : Bool} {a2 : Option Addr} {n2 c2 : Nat} {o o' : Option Rat} {s1' : Bool} {a1' : Option Addr} {n1' c1' : Nat} {s2' : Bool} {a2' : Option Addr} {n2' c2' : Nat} (h : HeldR w B s1 a1 n1 c1 s2 a2 n2 c2 o) (k : RArg w s1' a1' n1' s2' a2' n2' o')
 (hW : (((w.setCell ⟨B, 0, none⟩ (.bool s1')).setCell ⟨B, 1, none⟩ (.slice a1' n1' c1')).setCell ⟨B, 2, none⟩ (.bool s2')).setCell ⟨B, 3, none⟩ (.slice a2' n2' c2') = W) : HeldR W B s1' a1' n1' c1' s2' a2' n2' c2' o' ∧ Touch B 0 4 w W := by
 obtain ⟨q, t⟩ := h.box.set _ _ _ _ hW
 exact ⟨⟨q, k.quad h.box.four t⟩, t⟩
theorem HeldR.touch {w W : World} {B C : Nat} {s1 : Bool} {a1 : Option Addr} {n1 c1 : Nat} {s2 : Bool} {a2 : Option Addr} {n2 c2 : Nat} {o : Option Rat} {s1' : Bool} {a1' : Option Addr} {n1' c1' : Nat} {s2' : Bool} {a2' : Option Addr} {n2' c2' : Nat} (h : HeldR w C s1 a1 n1 c1 s2 a2 n2 c2 o) (q : Four w B (.bool s1') (.slice a1' n1' c1') (.bool s2') (.slice a2' n2' c2')) (t : Touch B 0 4 w W) (hne : C ≠ B) : HeldR W C s1 a1 n1 c1 s2 a2 n2 c2 o := ⟨h.box.touch hne t, h.arg.quad q t⟩
theorem num_new {w Z W' : World} {s : Bool} {a : Option Addr} {n c : Nat} {z : Int} {t : TypeId} (hZ : w.alloc (Obj.cells #[.bool false, .slice none 0 0] t) = Z)
 (hW : (Z.setCell ⟨w.heap.size, 0, none⟩ (.bool s)).setCell ⟨w.heap.size, 1, none⟩ (.slice a n c) = W') (N : IsN w s a n z) :
 Held W' w.heap.size s a n c z ∧ Below w.heap.size w W' ∧ Box2 Z w.heap.size (.bool false) (.slice none 0 0) := by
 have b : Box2 Z w.heap.size (.bool false) (.slice none 0 0) := by rw [← hZ]; exact Box2.new w _ _ t
 have kZ : Below w.heap.size w Z := by rw [← hZ]; exact below_alloc w _
 have k : Below w.heap.size w W' := by rw [← hW]; exact below_set2 kZ (Nat.le_refl _) _ _
 have e := b.set (.bool s) (.slice a n c)
 rw [hW] at e
 exact ⟨⟨e, N.below k⟩, k, b⟩
theorem rat_boxes2 (w : World) (u0 u1 u2 u3 v0 v1 v2 v3 : Value) (t : TypeId) {W1 : World} (hW : (((w.alloc (Obj.cells #[u0, u1, u2, u3] t)).alloc (Obj.cells #[v0, v1, v2, v3] t)).alloc (Obj.cells #[.bool false, .slice none 0 0, .bool false, .slice none 0 0] t)) = W1) :
 Quad W1 w.heap.size u0 u1 u2 u3 ∧ Quad W1 (w.heap.size + 1) v0 v1 v2 v3 ∧ Quad W1 (w.heap.size + 1 + 1) (.bool false) (.slice none 0 0) (.bool false) (.slice none 0 0) ∧ Below w.heap.size w W1 := by
 subst hW
 refine ⟨((Quad.new w _ _ _ _ _).below (below_alloc _ _)).below (below_alloc _ _), ?_, ?_, (((Below.refl _ w).alloc (Nat.le_refl _) _).alloc (by simp) _).alloc (by simp; omega) _⟩
 · have := (Quad.new (w.alloc (Obj.cells #[u0, u1, u2, u3] t)) v0 v1 v2 v3 t).below (below_alloc _ (Obj.cells #[.bool false, .slice none 0 0, .bool false, .slice none 0 0] t))
   rw [World.size_alloc] at this; exact this
 · have := Quad.new ((w.alloc (Obj.cells #[u0, u1, u2, u3] t)).alloc (Obj.cells #[v0, v1, v2, v3] t)) (.bool false) (.slice none 0 0) (.bool false) (.slice none 0 0) t
   rw [World.size_alloc, World.size_alloc] at this; exact this
theorem rat_boxes3 (w : World) (u0 u1 u2 u3 v0 v1 x0 x1 : Value) (t t2 : TypeId) {W1 : World} (hW : ((((w.alloc (Obj.cells #[u0, u1, u2, u3] t)).alloc (Obj.cells #[v0, v1] t2)).alloc (Obj.cells #[x0, x1] t2)).alloc (Obj.cells #[.bool false, .slice none 0 0, .bool false, .slice none 0 0] t)) = W1) :
 Quad W1 w.heap.size u0 u1 u2 u3 ∧ Box2 W1 (w.heap.size + 1) v0 v1 ∧ Box2 W1 (w.heap.size + 1 + 1) x0 x1 ∧ Quad W1 (w.heap.size + 1 + 1 + 1) (.bool false) (.slice none 0 0) (.bool false) (.slice none 0 0) ∧ Below w.heap.size w W1 := by
 subst hW
 refine ⟨(((Quad.new w _ _ _ _ _).below (below_alloc _ _)).below (below_alloc _ _)).below (below_alloc _ _), ?_, ?_, ?_, ((((Below.refl _ w).alloc (Nat.le_refl _) _).alloc (by simp) _).alloc (by simp; omega) _).alloc (by simp; omega) _⟩
 · have := ((Box2.new (w.alloc (Obj.cells #[u0, u1, u2, u3] t)) v0 v1 t2).alloc (Obj.cells #[x0, x1] t2)).alloc (Obj.cells #[.bool false, .slice none 0 0, .bool false, .slice none 0 0] t)
   rw [World.size_alloc] at this; exact this
 · have := (Box2.new ((w.alloc (Obj.cells #[u0, u1, u2, u3] t)).alloc (Obj.cells #[v0, v1] t2)) x0 x1 t2).alloc (Obj.cells #[.bool false, .slice none 0 0, .bool false, .slice none 0 0] t)
   rw [World.size_alloc, World.size_alloc] at this; exact this
 · have := Quad.new (((w.alloc (Obj.cells #[u0, u1, u2, u3] t)).alloc (Obj.cells #[v0, v1] t2)).alloc (Obj.cells #[x0, x1] t2)) (.bool false) (.slice none 0 0) (.bool false) (.slice none 0 0) t
   rw [World.size_alloc, World.size_alloc, World.size_alloc] at this; exact this
theorem Cells.box2 {w W : World} {b off n B : Nat} {f : Nat → Nat} {s1 : Bool} {a1 : Option Addr} {n1 c1 : Nat} (h : Cells w b off n f) (q : Box2 w B (.bool s1) (.slice a1 n1 c1)) (t : Touch B 0 2 w W) : Cells W b off n f := by
 intro j hj
 have e := h j hj
 by_cases hb : b = B
 · subst hb
   refine (t.cell _ fun hl => ?_).trans e
   have : off + j = 0 ∨ off + j = 1 := by omega
   rcases this with h0 | h0
   · rw [h0, q.c0] at e; cases e
   · rw [h0, q.c1] at e; cases e
 · exact (cell_of_block_eq (t.block b (lt_of_cell e) hb) _).trans e
theorem IsN.put {w : World} {s : Bool} {a : Option Addr} {n B : Nat} {z : Int} {s1 : Bool} {a1 : Option Addr} {n1 c1 : Nat} (h : IsN w s a n z) (q : Box2 w B (.bool s1) (.slice a1 n1 c1)) (v0 v1 : Value) : IsN ((w.setCell ⟨B, 0, none⟩ v0).setCell ⟨B, 1, none⟩ v1) s a n z := by
 have t : Touch B 0 2 w ((w.setCell ⟨B, 0, none⟩ v0).setCell ⟨B, 1, none⟩ v1) := (Touch.setCell w v0 (by omega) (by omega)).trans (Touch.setCell _ v1 (by omega) (by omega))
 refine ⟨h.sign, h.dig.len, ?_⟩
 rcases h.dig.dig with h0 | ⟨b, off, e, h0⟩
 · exact .inl h0
 · exact .inr ⟨b, off, e, h0.box2 q t⟩
theorem Held.put {w : World} {s : Bool} {a : Option Addr} {n c B : Nat} {z : Int} {s1 : Bool} {a1 : Option Addr} {n1 c1 : Nat} (h : IsN w s a n z) (q : Box2 w B (.bool s1) (.slice a1 n1 c1)) : Held ((w.setCell ⟨B, 0, none⟩ (.bool s)).setCell ⟨B, 1, none⟩ (.slice a n c)) B s a n c z := ⟨q.set _ _, h.put q _ _⟩
def addR (x y : Rat) : Option Rat :=
 match fitO (x.num * y.den), fitO (y.num * x.den), fitO ((x.den : Int) * y.den) with
 | some a, some b, some d => match fitO (a + b) with
   | some s => divO s d
   | none => none
 | _, _, _ => none
def mulR (a b c d : Int) : Option Rat :=
 match fitO (a * b), fitO (c * d) with
 | some n, some d => divO n d
 | _, _ => none
end Go.Proofs.YtgenaicmjddjcaaGreatDoor
