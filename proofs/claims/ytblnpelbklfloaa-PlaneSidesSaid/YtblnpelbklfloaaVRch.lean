/- What PlaneReaches says, in ints. -/
import Derived.Test.YtblnpelbklfloaaVMdv
namespace Go.Proofs.Ytblnpelbklfloaa
open Go.RowKit

section
variable {x y z b : Int}
theorem MadeP.i64 (h : MadeP x y z b) : I64 x ∧ I64 y ∧ I64 z ∧ I64 b := by
  obtain ⟨h1, h2, h3, -, h4⟩ := h
  unfold I64; omega
/-- with another offset within the limits it is valid -/
theorem MadeP.valid (h : MadeP x y z b) {c : Int} (hc : -2097152 ≤ c ∧ c ≤ 2097152) : valid x y z c = true := by
  obtain ⟨h1, h2, h3, hg, -⟩ := h
  unfold Go.Proofs.Ytblnpelbklfloaa.valid
  rw [dv3_gcd (by omega) (by omega) (by omega), hg]
  simp [in3, inL]; omega
theorem absW_small {x : Int} (h : -4608 ≤ x ∧ x ≤ 4608) : absW x = (x.natAbs : Int) :=
  (absW_nat (by omega) (by omega) (by omega)).1
theorem prod_half {x : Int} {h : Nat} (hx : -4608 ≤ x ∧ x ≤ 4608) (hh : h ≤ 12) : 0 ≤ (x.natAbs : Int) * (h : Int) ∧ (x.natAbs : Int) * (h : Int) ≤ 55296 := by
  have := Nat.mul_le_mul (show x.natAbs ≤ 4608 by omega) hh
  rw [← Int.natCast_mul]
  omega
def rchI (x y z : Int) (h1 h2 h3 : Nat) : Int := x.natAbs * (h1 : Int) + y.natAbs * (h2 : Int) + z.natAbs * (h3 : Int)
theorem MadeP.rch (h : MadeP x y z b) {h1 h2 h3 : Nat} (k1 : h1 ≤ 12) (k2 : h2 ≤ 12) (k3 : h3 ≤ 12) : rch x y z h1 h2 h3 = rchI x y z h1 h2 h3 ∧ 0 ≤ rchI x y z h1 h2 h3 ∧ rchI x y z h1 h2 h3 ≤ 165888 := by
  obtain ⟨b1, b2, b3, -, -⟩ := h
  have p1 := prod_half b1 k1
  have p2 := prod_half b2 k2
  have p3 := prod_half b3 k3
  unfold Go.Proofs.Ytblnpelbklfloaa.rch rchI
  rw [absW_small b1, absW_small b2, absW_small b3]
  generalize (x.natAbs : Int) * (h1 : Int) = m1 at *
  generalize (y.natAbs : Int) * (h2 : Int) = m2 at *
  generalize (z.natAbs : Int) * (h3 : Int) = m3 at *
  rw [IntWalk.wrap64_in m1 (by omega), IntWalk.wrap64_in m2 (by omega), IntWalk.wrap64_in m3 (by omega), IntWalk.wrap64_in (m1 + m2) (by omega), IntWalk.wrap64_in (m1 + m2 + m3) (by omega)]
  omega
def sdI (n : Int) : Int := if n < 0 then -1 else 1
theorem sd_one (n : Int) : sdI n = -1 ∨ sdI n = 1 := by unfold sdI; split; exact .inl rfl; exact .inr rfl
/-- a component of the corner -/
theorem corner_one (n : Int) {h : Nat} (hh : h ≤ 12) : wrap64 (sdI n * (h : Int)) = sdI n * (h : Int) ∧ -(h : Int) ≤ sdI n * (h : Int) ∧ sdI n * (h : Int) ≤ (h : Int) := by
  rcases sd_one n with e | e <;> rw [e]
  · rw [IntWalk.wrap64_in _ (by omega)]; omega
  · rw [IntWalk.wrap64_in _ (by omega)]; omega
theorem MadeP.corner (h : MadeP x y z b) {h1 h2 h3 : Nat} (k1 : h1 ≤ 12) (k2 : h2 ≤ 12) (k3 : h3 ≤ 12) :
    x * (sdI x * (h1 : Int)) + y * (sdI y * (h2 : Int)) + z * (sdI z * (h3 : Int)) = rchI x y z h1 h2 h3 ∧ dt x y z (sdI x * (h1 : Int)) (sdI y * (h2 : Int)) (sdI z * (h3 : Int)) = rchI x y z h1 h2 h3 := by
  have e : x * (sdI x * (h1 : Int)) + y * (sdI y * (h2 : Int)) + z * (sdI z * (h3 : Int)) = rchI x y z h1 h2 h3 := by
    unfold sdI rchI; rw [reach_eq, reach_eq, reach_eq]
  have c1 := (corner_one x k1).2
  have c2 := (corner_one y k2).2
  have c3 := (corner_one z k3).2
  refine ⟨e, ?_⟩
  rw [← e]
  refine (dt_all h.1 h.2.1 h.2.2.1 ⟨⟨?_, ?_⟩, ⟨?_, ?_⟩, ?_, ?_⟩).1 <;> omega
/-- by how much a point differs: a remainder of a byte -/
theorem dif_one (g h : Nat) (hg : g < 256) (hh : h ≤ 12) : ∃ t u q d : Int, wrap64 (2 * (h : Int)) = t ∧ wrap64 (t + 1) = u ∧ (1 ≤ u ∧ u ≤ 25) ∧ (g : Int).tmod u = q ∧ wrap64 (q - h) = d ∧ d.natAbs ≤ h := by
  refine ⟨2 * (h : Int), 2 * (h : Int) + 1, (g : Int).tmod (2 * (h : Int) + 1), (g : Int).tmod (2 * (h : Int) + 1) - h, IntWalk.wrap64_in _ (by omega), IntWalk.wrap64_in _ (by omega), by omega, rfl, ?_, ?_⟩
  all_goals
    have h1 := Int.tmod_nonneg (2 * (h : Int) + 1) (show 0 ≤ (g : Int) by omega)
    have h2 := Int.tmod_lt_of_pos (g : Int) (show 0 < 2 * (h : Int) + 1 by omega)
  · exact IntWalk.wrap64_in _ (by omega)
  · omega
/-- what differs by at most the half sides has an inner product that differs by at most Reach -/
theorem reach_dot {x y z d1 d2 d3 : Int} {h1 h2 h3 : Nat} (k1 : d1.natAbs ≤ h1) (k2 : d2.natAbs ≤ h2) (k3 : d3.natAbs ≤ h3) : x * d1 + y * d2 + z * d3 ≤ rchI x y z h1 h2 h3 := by
  have e1 := (reach_one (n := x) k1).1
  have e2 := (reach_one (n := y) k2).1
  have e3 := (reach_one (n := z) k3).1
  unfold rchI; omega
theorem ordL_one (a b : Int) : ordL [(a, b)] = if a < b then -1 else if b < a then 1 else 0 := rfl
theorem MadeP.side (h : MadeP x y z b) {c y1 y2 y3 : Int} (hc : -2097152 ≤ c ∧ c ≤ 2097152) (hy : P24 y1 y2 y3) : sideI x y z c y1 y2 y3 = ordL [(x * y1 + y * y2 + z * y3, c)] := by
  unfold sideI
  rw [h.valid hc, in3_24 hy, (dt_all h.1 h.2.1 h.2.2.1 hy).1]
  rfl
theorem w24_add {a d : Int} {h : Nat} (ha : W24 a) (hd : d.natAbs ≤ h) (hh : h ≤ 12) : wrap64 (a + d) = a + d := by
  unfold W24 at ha
  exact IntWalk.wrap64_in _ (by omega)
/-- a point that is near a point of a half-space lies in the pushed one -/
theorem MadeP.near (h : MadeP x y z b) {h1 h2 h3 : Nat} (k1 : h1 ≤ 12) (k2 : h2 ≤ 12) (k3 : h3 ≤ 12) {y1 y2 y3 d1 d2 d3 : Int} (hy : P24 y1 y2 y3) (e1 : d1.natAbs ≤ h1) (e2 : d2.natAbs ≤ h2) (e3 : d3.natAbs ≤ h3)
    (hn : in3 24 (wrap64 (y1 + d1)) (wrap64 (y2 + d2)) (wrap64 (y3 + d3)) = true) (hs : sideI x y z b y1 y2 y3 ≤ 0) : sideI x y z (b + rchI x y z h1 h2 h3) (wrap64 (y1 + d1)) (wrap64 (y2 + d2)) (wrap64 (y3 + d3)) ≤ 0 := by
  obtain ⟨-, r0, r1⟩ := h.rch k1 k2 k3
  have hb := h.2.2.2.2
  rw [h.side (by omega) (p24_of hn)]
  rw [h.side (by omega) hy, ordL_one] at hs
  rw [w24_add hy.1 e1 k1, w24_add hy.2.1 e2 k2, w24_add hy.2.2 e3 k3, ordL_one]
  have hd := reach_dot (x := x) (y := y) (z := z) e1 e2 e3
  have hq : x * (y1 + d1) + y * (y2 + d2) + z * (y3 + d3) = (x * y1 + y * y2 + z * y3) + (x * d1 + y * d2 + z * d3) := by grind
  rw [hq]
  generalize x * y1 + y * y2 + z * y3 = m at *
  generalize x * d1 + y * d2 + z * d3 = n at *
  generalize rchI x y z h1 h2 h3 = r at *
  split at hs
  · split <;> omega
  · split at hs
    · omega
    · split
      · omega
      · split <;> omega
/-- the corner of the box round a point lies on the same side of the pushed plane -/
theorem MadeP.edge (h : MadeP x y z b) {h1 h2 h3 : Nat} (k1 : h1 ≤ 12) (k2 : h2 ≤ 12) (k3 : h3 ≤ 12) {y1 y2 y3 : Int} (hy : P24 y1 y2 y3)
    (hn : in3 24 (wrap64 (y1 + sdI x * (h1 : Int))) (wrap64 (y2 + sdI y * (h2 : Int))) (wrap64 (y3 + sdI z * (h3 : Int))) = true) : sideI x y z (b + rchI x y z h1 h2 h3) (wrap64 (y1 + sdI x * (h1 : Int))) (wrap64 (y2 + sdI y * (h2 : Int))) (wrap64 (y3 + sdI z * (h3 : Int))) = sideI x y z b y1 y2 y3 := by
  obtain ⟨-, r0, r1⟩ := h.rch k1 k2 k3
  have hb := h.2.2.2.2
  have c1 := (corner_one x k1).2
  have c2 := (corner_one y k2).2
  have c3 := (corner_one z k3).2
  rw [h.side (by omega) (p24_of hn), h.side (by omega) hy]
  rw [w24_add (h := h1) hy.1 (by omega) k1, w24_add (h := h2) hy.2.1 (by omega) k2, w24_add (h := h3) hy.2.2 (by omega) k3, ordL_one, ordL_one]
  have hd := (h.corner k1 k2 k3).1
  have hq : x * (y1 + sdI x * (h1 : Int)) + y * (y2 + sdI y * (h2 : Int)) + z * (y3 + sdI z * (h3 : Int)) = (x * y1 + y * y2 + z * y3) + rchI x y z h1 h2 h3 := by rw [← hd]; grind
  rw [hq]
  generalize x * y1 + y * y2 + z * y3 = m at *
  generalize rchI x y z h1 h2 h3 = r at *
  by_cases q1 : m < b
  · rw [if_pos (show m + r < b + r by omega), if_pos q1]
  · rw [if_neg (show ¬ m + r < b + r by omega), if_neg q1]
    by_cases q2 : b < m
    · rw [if_pos (show b + r < m + r by omega), if_pos q2]
    · rw [if_neg (show ¬ b + r < m + r by omega), if_neg q2]
end
theorem ordL_cases (l : List (Int × Int)) : ordL l = -1 ∨ ordL l = 0 ∨ ordL l = 1 := by
  induction l with
  | nil => exact .inr (.inl rfl)
  | cons p l ih =>
    unfold ordL
    split
    · exact .inl rfl
    · split
      · exact .inr (.inr rfl)
      · exact ih
theorem ordL_swap (l : List (Int × Int)) : ordL (l.map fun p => (p.2, p.1)) = -ordL l := by
  induction l with
  | nil => rfl
  | cons p l ih =>
    simp only [List.map_cons]
    unfold ordL
    by_cases h1 : p.1 < p.2
    · rw [if_neg (by omega), if_pos (by omega), if_pos h1]; rfl
    · by_cases h2 : p.2 < p.1
      · rw [if_pos (by omega), if_neg h1, if_pos h2]
      · rw [if_neg (by omega), if_neg (by omega), if_neg h1, if_neg h2]; exact ih
theorem ordL_zero {l : List (Int × Int)} : ordL l = 0 ↔ ∀ p ∈ l, p.1 = p.2 := by
  induction l with
  | nil => exact ⟨(fun _ _ h => nomatch h), fun _ => rfl⟩
  | cons p l ih =>
    unfold ordL
    constructor
    · intro h
      split at h
      · omega
      · split at h
        · omega
        · intro q hq
          rcases List.mem_cons.1 hq with rfl | hq
          · omega
          · exact ih.1 h q hq
    · intro h
      have := h p (List.mem_cons_self ..)
      rw [if_neg (by omega), if_neg (by omega)]
      exact ih.2 fun q hq => h q (List.mem_cons_of_mem _ hq)
section
variable {x y z b c d e f : Int}
/-- Compare of two planes -/
def cmpI (x y z b c d e f : Int) : Int := ordL [(x, c), (y, d), (z, e), (b, f)]
theorem cmp_swap : cmpI c d e f x y z b = -cmpI x y z b c d e f := ordL_swap [(x, c), (y, d), (z, e), (b, f)]
theorem cmp_back : cmpI x y z b c d e f = wrap64 (-cmpI c d e f x y z b) := by
  rw [cmp_swap (x := c) (y := d) (z := e) (b := f)]
  rcases ordL_cases [(c, x), (d, y), (e, z), (f, b)] with h | h | h <;> (unfold cmpI; rw [h]; exact (IntWalk.wrap64_in _ (by omega)).symm)
theorem cmp_zero : cmpI x y z b c d e f = 0 ↔ x = c ∧ y = d ∧ z = e ∧ b = f := by
  unfold cmpI
  rw [ordL_zero]
  simp
/-- a pushed plane comes later -/
theorem cmp_pushed {r : Int} (h : 0 < r) : cmpI x y z b x y z (b + r) = -1 := by
  unfold cmpI ordL ordL ordL ordL
  rw [if_neg (by simp), if_neg (by simp), if_neg (by simp), if_neg (by simp), if_neg (by simp), if_neg (by simp), if_pos (by show b < b + r; omega)]
theorem cmp_later {r : Int} (h : 0 ≤ r) (hc : cmpI x y z b c d e f ≤ 0) : cmpI x y z b c d e (f + r) ≤ 0 := by
  unfold cmpI ordL ordL ordL ordL ordL at *
  simp only at *
  by_cases h1 : x < c
  · simp [h1]
  · by_cases h2 : c < x
    · simp [h1, h2] at hc
    · simp only [h1, h2, if_false] at hc ⊢
      by_cases h3 : y < d
      · simp [h3]
      · by_cases h4 : d < y
        · simp [h3, h4] at hc
        · simp only [h3, h4, if_false] at hc ⊢
          by_cases h5 : z < e
          · simp [h5]
          · by_cases h6 : e < z
            · simp [h5, h6] at hc
            · simp only [h5, h6, if_false] at hc ⊢
              split at hc
              · rw [if_pos (by omega)]; decide
              · split at hc
                · omega
                · split
                  · decide
                  · rw [if_neg (by omega)]; decide
end
end Go.Proofs.Ytblnpelbklfloaa
