/- Through of points of the workspace in exact integers; what PlaneSides says of it. -/
import Derived.Test.YtblnpelbklfloaaVSp
import Derived.Test.YtblnpelbklfloaaVThr
namespace Go.Proofs.Ytblnpelbklfloaa
open Go.RowKit

/-- without the least int it is the greatest divisor -/
theorem dv3_gcd {x y z : Int} (hx : x ≠ -9223372036854775808) (hy : y ≠ -9223372036854775808) (hz : z ≠ -9223372036854775808) : dv3 x y z = g3 x y z := by
  unfold dv3 dvs g3
  rw [if_neg (by simp; exact ⟨hx, hy, hz⟩)]
  simp [List.foldl]
def W24 (x : Int) : Prop := -24 ≤ x ∧ x ≤ 24
/-- a point of the workspace -/
def P24 (x y z : Int) : Prop := W24 x ∧ W24 y ∧ W24 z
theorem in3_24 {x y z : Int} (h : P24 x y z) : in3 24 x y z = true := by
  obtain ⟨⟨h1, h2⟩, ⟨h3, h4⟩, h5, h6⟩ := h
  simp [in3, inL]; omega
theorem p24_of {x y z : Int} (h : in3 24 x y z = true) : P24 x y z := in3_bounds h
def cxI (_a1 a2 a3 _b1 b2 b3 _c1 c2 c3 : Int) : Int := (b2 - a2) * (c3 - a3) - (b3 - a3) * (c2 - a2)
def cyI (a1 _a2 a3 b1 _b2 b3 c1 _c2 c3 : Int) : Int := (b3 - a3) * (c1 - a1) - (b1 - a1) * (c3 - a3)
def czI (a1 a2 _a3 b1 b2 _b3 c1 c2 _c3 : Int) : Int := (b1 - a1) * (c2 - a2) - (b2 - a2) * (c1 - a1)
def cgI (a1 a2 a3 b1 b2 b3 c1 c2 c3 : Int) : Nat := g3 (cxI a1 a2 a3 b1 b2 b3 c1 c2 c3) (cyI a1 a2 a3 b1 b2 b3 c1 c2 c3) (czI a1 a2 a3 b1 b2 b3 c1 c2 c3)
theorem prod48 {x y : Int} (h : -48 ≤ x ∧ x ≤ 48) (g : -48 ≤ y ∧ y ≤ 48) : -2304 ≤ x * y ∧ x * y ≤ 2304 :=
  mul_in (x := x) (y := y) (a := 48) (b := 48) h.1 h.2 g.1 g.2
theorem minor48 {a b c d : Int} (ha : -48 ≤ a ∧ a ≤ 48) (hb : -48 ≤ b ∧ b ≤ 48) (hc : -48 ≤ c ∧ c ≤ 48) (hd : -48 ≤ d ∧ d ≤ 48) :
    wrap64 (wrap64 (a * b) - wrap64 (c * d)) = a * b - c * d ∧ -4608 ≤ a * b - c * d ∧ a * b - c * d ≤ 4608 := by
  have h1 := prod48 ha hb
  have h2 := prod48 hc hd
  rw [IntWalk.wrap64_in (a * b) (by omega), IntWalk.wrap64_in (c * d) (by omega), IntWalk.wrap64_in (a * b - c * d) (by omega)]
  omega
theorem sub48 {x y : Int} (h : W24 x) (g : W24 y) : wrap64 (x - y) = x - y ∧ -48 ≤ x - y ∧ x - y ≤ 48 := by
  unfold W24 at h g
  rw [IntWalk.wrap64_in (x - y) (by omega)]
  omega
section
variable {a1 a2 a3 b1 b2 b3 c1 c2 c3 : Int}
theorem cr_exact (ha : P24 a1 a2 a3) (hb : P24 b1 b2 b3) (hc : P24 c1 c2 c3) :
    crx (wrap64 (b1 - a1)) (wrap64 (b2 - a2)) (wrap64 (b3 - a3)) (wrap64 (c1 - a1)) (wrap64 (c2 - a2)) (wrap64 (c3 - a3)) = cxI a1 a2 a3 b1 b2 b3 c1 c2 c3 ∧
    cry (wrap64 (b1 - a1)) (wrap64 (b2 - a2)) (wrap64 (b3 - a3)) (wrap64 (c1 - a1)) (wrap64 (c2 - a2)) (wrap64 (c3 - a3)) = cyI a1 a2 a3 b1 b2 b3 c1 c2 c3 ∧
    crz (wrap64 (b1 - a1)) (wrap64 (b2 - a2)) (wrap64 (b3 - a3)) (wrap64 (c1 - a1)) (wrap64 (c2 - a2)) (wrap64 (c3 - a3)) = czI a1 a2 a3 b1 b2 b3 c1 c2 c3 ∧
    (-4608 ≤ cxI a1 a2 a3 b1 b2 b3 c1 c2 c3 ∧ cxI a1 a2 a3 b1 b2 b3 c1 c2 c3 ≤ 4608) ∧ (-4608 ≤ cyI a1 a2 a3 b1 b2 b3 c1 c2 c3 ∧ cyI a1 a2 a3 b1 b2 b3 c1 c2 c3 ≤ 4608) ∧ (-4608 ≤ czI a1 a2 a3 b1 b2 b3 c1 c2 c3 ∧ czI a1 a2 a3 b1 b2 b3 c1 c2 c3 ≤ 4608) := by
  obtain ⟨ha1, ha2, ha3⟩ := ha
  obtain ⟨hb1, hb2, hb3⟩ := hb
  obtain ⟨hc1, hc2, hc3⟩ := hc
  have u1 := sub48 hb1 ha1
  have u2 := sub48 hb2 ha2
  have u3 := sub48 hb3 ha3
  have v1 := sub48 hc1 ha1
  have v2 := sub48 hc2 ha2
  have v3 := sub48 hc3 ha3
  rw [u1.1, u2.1, u3.1, v1.1, v2.1, v3.1]
  have m1 := minor48 u2.2 v3.2 u3.2 v2.2
  have m2 := minor48 u3.2 v1.2 u1.2 v3.2
  have m3 := minor48 u1.2 v2.2 u2.2 v1.2
  exact ⟨m1.1, m2.1, m3.1, m1.2, m2.2, m3.2⟩
theorem thO_eq (ha : P24 a1 a2 a3) (hb : P24 b1 b2 b3) (hc : P24 c1 c2 c3) : thO a1 a2 a3 b1 b2 b3 c1 c2 c3 = !decide (cgI a1 a2 a3 b1 b2 b3 c1 c2 c3 = 0) := by
  obtain ⟨e1, e2, e3, m1, m2, m3⟩ := cr_exact ha hb hc
  unfold thO cgI
  rw [e1, e2, e3, in3_24 ha, in3_24 hb, in3_24 hc, dv3_gcd (by omega) (by omega) (by omega)]
  rfl
theorem th_no (ha : P24 a1 a2 a3) (hb : P24 b1 b2 b3) (hc : P24 c1 c2 c3) (h : cgI a1 a2 a3 b1 b2 b3 c1 c2 c3 = 0) : thO a1 a2 a3 b1 b2 b3 c1 c2 c3 = false ∧ thI a1 a2 a3 b1 b2 b3 c1 c2 c3 = 0 ∧ thJ a1 a2 a3 b1 b2 b3 c1 c2 c3 = 0 ∧ thK a1 a2 a3 b1 b2 b3 c1 c2 c3 = 0 ∧ thD a1 a2 a3 b1 b2 b3 c1 c2 c3 = 0 := by
  have ho : thO a1 a2 a3 b1 b2 b3 c1 c2 c3 = false := by rw [thO_eq ha hb hc, h]; rfl
  refine ⟨ho, ?_, ?_, ?_, ?_⟩
  · unfold thI; rw [ho]; rfl
  · unfold thJ; rw [ho]; rfl
  · unfold thK; rw [ho]; rfl
  · unfold thD; rw [ho]; rfl
def niI (a1 a2 a3 b1 b2 b3 c1 c2 c3 : Int) : Int := (cxI a1 a2 a3 b1 b2 b3 c1 c2 c3).tdiv (cgI a1 a2 a3 b1 b2 b3 c1 c2 c3)
def njI (a1 a2 a3 b1 b2 b3 c1 c2 c3 : Int) : Int := (cyI a1 a2 a3 b1 b2 b3 c1 c2 c3).tdiv (cgI a1 a2 a3 b1 b2 b3 c1 c2 c3)
def nkI (a1 a2 a3 b1 b2 b3 c1 c2 c3 : Int) : Int := (czI a1 a2 a3 b1 b2 b3 c1 c2 c3).tdiv (cgI a1 a2 a3 b1 b2 b3 c1 c2 c3)
theorem n_bounds (ha : P24 a1 a2 a3) (hb : P24 b1 b2 b3) (hc : P24 c1 c2 c3) :
    (-4608 ≤ niI a1 a2 a3 b1 b2 b3 c1 c2 c3 ∧ niI a1 a2 a3 b1 b2 b3 c1 c2 c3 ≤ 4608) ∧ (-4608 ≤ njI a1 a2 a3 b1 b2 b3 c1 c2 c3 ∧ njI a1 a2 a3 b1 b2 b3 c1 c2 c3 ≤ 4608) ∧ (-4608 ≤ nkI a1 a2 a3 b1 b2 b3 c1 c2 c3 ∧ nkI a1 a2 a3 b1 b2 b3 c1 c2 c3 ≤ 4608) := by
  obtain ⟨-, -, -, m1, m2, m3⟩ := cr_exact ha hb hc
  have t1 := tdiv_nat (cxI a1 a2 a3 b1 b2 b3 c1 c2 c3) (cgI a1 a2 a3 b1 b2 b3 c1 c2 c3)
  have t2 := tdiv_nat (cyI a1 a2 a3 b1 b2 b3 c1 c2 c3) (cgI a1 a2 a3 b1 b2 b3 c1 c2 c3)
  have t3 := tdiv_nat (czI a1 a2 a3 b1 b2 b3 c1 c2 c3) (cgI a1 a2 a3 b1 b2 b3 c1 c2 c3)
  unfold niI njI nkI
  omega
theorem th_yes (ha : P24 a1 a2 a3) (hb : P24 b1 b2 b3) (hc : P24 c1 c2 c3) (h : cgI a1 a2 a3 b1 b2 b3 c1 c2 c3 ≠ 0) : thO a1 a2 a3 b1 b2 b3 c1 c2 c3 = true ∧ thI a1 a2 a3 b1 b2 b3 c1 c2 c3 = niI a1 a2 a3 b1 b2 b3 c1 c2 c3 ∧ thJ a1 a2 a3 b1 b2 b3 c1 c2 c3 = njI a1 a2 a3 b1 b2 b3 c1 c2 c3 ∧ thK a1 a2 a3 b1 b2 b3 c1 c2 c3 = nkI a1 a2 a3 b1 b2 b3 c1 c2 c3 ∧
    thD a1 a2 a3 b1 b2 b3 c1 c2 c3 = niI a1 a2 a3 b1 b2 b3 c1 c2 c3 * a1 + njI a1 a2 a3 b1 b2 b3 c1 c2 c3 * a2 + nkI a1 a2 a3 b1 b2 b3 c1 c2 c3 * a3 := by
  have ho : thO a1 a2 a3 b1 b2 b3 c1 c2 c3 = true := by rw [thO_eq ha hb hc]; simp [h]
  obtain ⟨e1, e2, e3, m1, m2, m3⟩ := cr_exact ha hb hc
  have k1 : thI a1 a2 a3 b1 b2 b3 c1 c2 c3 = niI a1 a2 a3 b1 b2 b3 c1 c2 c3 := by
    unfold thI niI cgI; rw [ho, e1, e2, e3, dv3_gcd (by omega) (by omega) (by omega)]; rfl
  have k2 : thJ a1 a2 a3 b1 b2 b3 c1 c2 c3 = njI a1 a2 a3 b1 b2 b3 c1 c2 c3 := by
    unfold thJ njI cgI; rw [ho, e1, e2, e3, dv3_gcd (by omega) (by omega) (by omega)]; rfl
  have k3 : thK a1 a2 a3 b1 b2 b3 c1 c2 c3 = nkI a1 a2 a3 b1 b2 b3 c1 c2 c3 := by
    unfold thK nkI cgI; rw [ho, e1, e2, e3, dv3_gcd (by omega) (by omega) (by omega)]; rfl
  refine ⟨ho, k1, k2, k3, ?_⟩
  obtain ⟨n1, n2, n3⟩ := n_bounds ha hb hc
  unfold thD; rw [ho, k1, k2, k3, if_pos rfl]
  exact (dt_exact n1 n2 n3 (in3_24 ha)).1
theorem n_valid (ha : P24 a1 a2 a3) (hb : P24 b1 b2 b3) (hc : P24 c1 c2 c3) (h : cgI a1 a2 a3 b1 b2 b3 c1 c2 c3 ≠ 0) {d : Int} (hd : -331776 ≤ d ∧ d ≤ 331776) :
    valid (niI a1 a2 a3 b1 b2 b3 c1 c2 c3) (njI a1 a2 a3 b1 b2 b3 c1 c2 c3) (nkI a1 a2 a3 b1 b2 b3 c1 c2 c3) d = true := by
  obtain ⟨n1, n2, n3⟩ := n_bounds ha hb hc
  have hg : g3 (niI a1 a2 a3 b1 b2 b3 c1 c2 c3) (njI a1 a2 a3 b1 b2 b3 c1 c2 c3) (nkI a1 a2 a3 b1 b2 b3 c1 c2 c3) = 1 := g3_prim h
  unfold valid
  rw [dv3_gcd (by omega) (by omega) (by omega), hg]
  simp [in3, inL]; omega
/-- the same plane with another beginning -/
theorem n_turn : cxI b1 b2 b3 c1 c2 c3 a1 a2 a3 = cxI a1 a2 a3 b1 b2 b3 c1 c2 c3 ∧ cyI b1 b2 b3 c1 c2 c3 a1 a2 a3 = cyI a1 a2 a3 b1 b2 b3 c1 c2 c3 ∧ czI b1 b2 b3 c1 c2 c3 a1 a2 a3 = czI a1 a2 a3 b1 b2 b3 c1 c2 c3 := by
  unfold cxI cyI czI; refine ⟨?_, ?_, ?_⟩ <;> grind
theorem n_back : cxI a1 a2 a3 c1 c2 c3 b1 b2 b3 = -cxI a1 a2 a3 b1 b2 b3 c1 c2 c3 ∧ cyI a1 a2 a3 c1 c2 c3 b1 b2 b3 = -cyI a1 a2 a3 b1 b2 b3 c1 c2 c3 ∧ czI a1 a2 a3 c1 c2 c3 b1 b2 b3 = -czI a1 a2 a3 b1 b2 b3 c1 c2 c3 := by
  unfold cxI cyI czI; refine ⟨?_, ?_, ?_⟩ <;> grind
theorem n_move (s1 s2 s3 : Int) : cxI (a1 + s1) (a2 + s2) (a3 + s3) (b1 + s1) (b2 + s2) (b3 + s3) (c1 + s1) (c2 + s2) (c3 + s3) = cxI a1 a2 a3 b1 b2 b3 c1 c2 c3 ∧ cyI (a1 + s1) (a2 + s2) (a3 + s3) (b1 + s1) (b2 + s2) (b3 + s3) (c1 + s1) (c2 + s2) (c3 + s3) = cyI a1 a2 a3 b1 b2 b3 c1 c2 c3 ∧ czI (a1 + s1) (a2 + s2) (a3 + s3) (b1 + s1) (b2 + s2) (b3 + s3) (c1 + s1) (c2 + s2) (c3 + s3) = czI a1 a2 a3 b1 b2 b3 c1 c2 c3 := by
  unfold cxI cyI czI; refine ⟨?_, ?_, ?_⟩ <;> grind
theorem n_on (h : cgI a1 a2 a3 b1 b2 b3 c1 c2 c3 ≠ 0) :
    niI a1 a2 a3 b1 b2 b3 c1 c2 c3 * b1 + njI a1 a2 a3 b1 b2 b3 c1 c2 c3 * b2 + nkI a1 a2 a3 b1 b2 b3 c1 c2 c3 * b3 = niI a1 a2 a3 b1 b2 b3 c1 c2 c3 * a1 + njI a1 a2 a3 b1 b2 b3 c1 c2 c3 * a2 + nkI a1 a2 a3 b1 b2 b3 c1 c2 c3 * a3 ∧
    niI a1 a2 a3 b1 b2 b3 c1 c2 c3 * c1 + njI a1 a2 a3 b1 b2 b3 c1 c2 c3 * c2 + nkI a1 a2 a3 b1 b2 b3 c1 c2 c3 * c3 = niI a1 a2 a3 b1 b2 b3 c1 c2 c3 * a1 + njI a1 a2 a3 b1 b2 b3 c1 c2 c3 * a2 + nkI a1 a2 a3 b1 b2 b3 c1 c2 c3 * a3 :=
  ⟨prim_same h (by unfold cxI cyI czI; grind), prim_same h (by unfold cxI cyI czI; grind)⟩
end
theorem dt_all {x y z a c d : Int} (hx : -4608 ≤ x ∧ x ≤ 4608) (hy : -4608 ≤ y ∧ y ≤ 4608) (hz : -4608 ≤ z ∧ z ≤ 4608) (h : P24 a c d) : dt x y z a c d = x * a + y * c + z * d ∧ -331776 ≤ x * a + y * c + z * d ∧ x * a + y * c + z * d ≤ 331776 := dt_exact hx hy hz (in3_24 h)
theorem ordL_neg (a b : Int) : ordL [(-a, -b)] = -ordL [(a, b)] := by
  unfold ordL ordL
  by_cases h3 : a < b
  · rw [if_pos h3, if_neg (by omega), if_pos (by omega)]; rfl
  · by_cases h4 : b < a
    · rw [if_neg h3, if_pos h4, if_pos (by omega)]
    · rw [if_neg h3, if_neg h4, if_neg (by omega), if_neg (by omega)]; rfl
theorem ordL_self (a : Int) : ordL [(a, a)] = 0 := by
  unfold ordL ordL
  rw [if_neg (by omega), if_neg (by omega)]
theorem ordL_vals (a b : Int) : ordL [(a, b)] = -1 ∨ ordL [(a, b)] = 0 ∨ ordL [(a, b)] = 1 := by
  unfold ordL ordL
  by_cases h3 : a < b
  · rw [if_pos h3]; exact .inl rfl
  · by_cases h4 : b < a
    · rw [if_neg h3, if_pos h4]; exact .inr (.inr rfl)
    · rw [if_neg h3, if_neg h4]; exact .inr (.inl rfl)
end Go.Proofs.Ytblnpelbklfloaa
