/- Side and Push as functions of ints, the program's and the reference's. -/
import Derived.Test.YtblnpelbklfloaaVReg
import Derived.Test.YtblnpelbklfloaaVBnd
namespace Go.Proofs.Ytblnpelbklfloaa
open Go.RowKit

theorem in3_bounds {m x y z : Int} (h : in3 m x y z = true) : (-m ≤ x ∧ x ≤ m) ∧ (-m ≤ y ∧ y ≤ m) ∧ (-m ≤ z ∧ z ≤ m) := by
  simp [in3, inL] at h
  omega
theorem valid_bounds {x y z b : Int} (h : valid x y z b = true) : (-4608 ≤ x ∧ x ≤ 4608) ∧ (-4608 ≤ y ∧ y ≤ 4608) ∧ (-4608 ≤ z ∧ z ≤ 4608) ∧ (-2097152 ≤ b ∧ b ≤ 2097152) := by
  unfold valid at h
  rw [Bool.and_eq_true, Bool.and_eq_true] at h
  have h1 := in3_bounds h.1.1
  have h2 := h.1.2
  simp [inL] at h2
  omega
/-- the inner product of a valid plane's vector and a point is exact -/
theorem dt_exact {x y z a c d : Int} (hx : -4608 ≤ x ∧ x ≤ 4608) (hy : -4608 ≤ y ∧ y ≤ 4608) (hz : -4608 ≤ z ∧ z ≤ 4608) (h : in3 24 a c d = true) : dt x y z a c d = x * a + y * c + z * d ∧ -331776 ≤ x * a + y * c + z * d ∧ x * a + y * c + z * d ≤ 331776 := by
  obtain ⟨ha, hc, hd⟩ := in3_bounds h
  have e1 := mul_in (x := x) (y := a) (a := 4608) (b := 24) hx.1 hx.2 ha.1 ha.2
  have e2 := mul_in (x := y) (y := c) (a := 4608) (b := 24) hy.1 hy.2 hc.1 hc.2
  have e3 := mul_in (x := z) (y := d) (a := 4608) (b := 24) hz.1 hz.2 hd.1 hd.2
  have e : ((4608 * 24 : Nat) : Int) = 110592 := rfl
  rw [e] at e1 e2 e3
  refine ⟨?_, by omega, by omega⟩
  unfold dt
  rw [IntWalk.wrap64_in (x * a) (by omega), IntWalk.wrap64_in (y * c) (by omega), IntWalk.wrap64_in (z * d) (by omega), IntWalk.wrap64_in (x * a + y * c) (by omega), IntWalk.wrap64_in (x * a + y * c + z * d) (by omega)]
def sideI (x y z b a c d : Int) : Int := if valid x y z b && in3 24 a c d then ordL [(dt x y z a c d, b)] else 0
theorem side_p (x y z b a c d : Int) (hx : I64 x) (hy : I64 y) (hz : I64 z) (w : World) : Calls Try.prog 33 #[Pl x y z b, V a c d] w (Gives w (.int .i64 (sideI x y z b a c d))) := by
  cases h1 : valid x y z b
  · rw [show sideI x y z b a c d = 0 by simp [sideI, h1]]
    exact side_p_no1 x y z b a c d hx hy hz (hideV h1) w
  · cases h2 : in3 24 a c d
    · rw [show sideI x y z b a c d = 0 by simp [sideI, h2]]
      exact side_p_no2 x y z b a c d hx hy hz (hideV h1) (hideV h2) w
    · rw [show sideI x y z b a c d = ordL [(dt x y z a c d, b)] by simp [sideI, h1, h2]]
      exact side_p_yes x y z b a c d hx hy hz (hideV h1) (hideV h2) w
theorem side_r (x y z b a c d : Int) (hx : I64 x) (hy : I64 y) (hz : I64 z) (w : World) : Calls Try.prog 34 #[Pl x y z b, V a c d] w (Gives w (.int .i64 (sideI x y z b a c d))) := by
  cases h1 : valid x y z b
  · rw [show sideI x y z b a c d = 0 by simp [sideI, h1]]
    exact side_r_no1 x y z b a c d hx hy hz (hideV h1) w
  · cases h2 : in3 24 a c d
    · rw [show sideI x y z b a c d = 0 by simp [sideI, h2]]
      exact side_r_no2 x y z b a c d hx hy hz (hideV h1) (hideV h2) w
    · rw [show sideI x y z b a c d = ordL [(dt x y z a c d, b)] by simp [sideI, h1, h2]]
      obtain ⟨bx, by_, bz, bb⟩ := valid_bounds h1
      obtain ⟨e1, e2, e3⟩ := dt_exact bx by_ bz h2
      have e : sgn (wrap64 (dt x y z a c d - b)) = ordL [(dt x y z a c d, b)] := by
        rw [e1, IntWalk.wrap64_in _ (by omega)]
        generalize x * a + y * c + z * d = q
        unfold sgn ordL ordL
        by_cases h3 : q < b
        · rw [if_pos (by omega), if_pos h3]
        · by_cases h4 : b < q
          · rw [if_neg (by omega), if_pos (by omega), if_neg h3, if_pos h4]
          · rw [if_neg (by omega), if_neg (by omega), if_neg h3, if_neg h4]
      rw [← e]
      exact side_r_yes x y z b a c d hx hy hz (hideV h1) (hideV h2) w
def puO (x y z b n : Int) : Bool := valid x y z b && valid x y z (wrap64 (b + n))
def puX (x y z b n : Int) : Int := if puO x y z b n then x else 0
def puY (x y z b n : Int) : Int := if puO x y z b n then y else 0
def puZ (x y z b n : Int) : Int := if puO x y z b n then z else 0
def puB (x y z b n : Int) : Int := if puO x y z b n then wrap64 (b + n) else 0
theorem push_p (x y z b n : Int) (hx : I64 x) (hy : I64 y) (hz : I64 z) (w : World) : Calls Try.prog 35 #[Pl x y z b, .int .i64 n] w (Gives w (.tuple #[Pl (puX x y z b n) (puY x y z b n) (puZ x y z b n) (puB x y z b n), .bool (puO x y z b n)])) := by
  cases h1 : valid x y z b
  · have h : puO x y z b n = false := by simp [puO, h1]
    have e : (.tuple #[Pl (puX x y z b n) (puY x y z b n) (puZ x y z b n) (puB x y z b n), .bool (puO x y z b n)] : Value) = .tuple #[Pl 0 0 0 0, .bool false] := by simp [puX, puY, puZ, puB, h]
    rw [e]
    exact push_no1 x y z b n hx hy hz (hideV h1) w
  · cases h2 : valid x y z (wrap64 (b + n))
    · have h : puO x y z b n = false := by simp [puO, h2]
      have e : (.tuple #[Pl (puX x y z b n) (puY x y z b n) (puZ x y z b n) (puB x y z b n), .bool (puO x y z b n)] : Value) = .tuple #[Pl 0 0 0 0, .bool false] := by simp [puX, puY, puZ, puB, h]
      rw [e]
      exact push_no2 x y z b n hx hy hz (hideV h1) (hideV h2) w
    · have h : puO x y z b n = true := by simp [puO, h1, h2]
      have e : (.tuple #[Pl (puX x y z b n) (puY x y z b n) (puZ x y z b n) (puB x y z b n), .bool (puO x y z b n)] : Value) = .tuple #[Pl x y z (wrap64 (b + n)), .bool true] := by simp [puX, puY, puZ, puB, h]
      rw [e]
      exact push_yes x y z b n hx hy hz (hideV h1) (hideV h2) w
theorem push_r (x y z b n : Int) (hx : I64 x) (hy : I64 y) (hz : I64 z) (hn : I64 n) (w : World) : Calls Try.prog 36 #[Pl x y z b, .int .i64 n] w (Gives w (.tuple #[Pl (puX x y z b n) (puY x y z b n) (puZ x y z b n) (puB x y z b n), .bool (puO x y z b n)])) := by
  cases h1 : valid x y z b
  · have h : puO x y z b n = false := by simp [puO, h1]
    have e : (.tuple #[Pl (puX x y z b n) (puY x y z b n) (puZ x y z b n) (puB x y z b n), .bool (puO x y z b n)] : Value) = .tuple #[Pl 0 0 0 0, .bool false] := by simp [puX, puY, puZ, puB, h]
    rw [e]
    exact push_r_no1 x y z b n 0 hx hy hz (hideV h1) w
  · cases h2 : valid x y z (wrap64 (b + n))
    · have h : puO x y z b n = false := by simp [puO, h2]
      have e : (.tuple #[Pl (puX x y z b n) (puY x y z b n) (puZ x y z b n) (puB x y z b n), .bool (puO x y z b n)] : Value) = .tuple #[Pl 0 0 0 0, .bool false] := by simp [puX, puY, puZ, puB, h]
      rw [e]
      by_cases h3 : n < -4194304
      · exact push_r_no3 x y z b n 0 hx hy hz (hideV h1) h3 w
      · by_cases h4 : 4194304 < n
        · exact push_r_no4 x y z b n 0 hx hy hz (hideV h1) h3 h4 w
        · exact push_r_no2 x y z b n _ hx hy hz (hideV h1) h3 h4 rfl (hideV h2) w
    · have h : puO x y z b n = true := by simp [puO, h1, h2]
      have e : (.tuple #[Pl (puX x y z b n) (puY x y z b n) (puZ x y z b n) (puB x y z b n), .bool (puO x y z b n)] : Value) = .tuple #[Pl x y z (wrap64 (b + n)), .bool true] := by simp [puX, puY, puZ, puB, h]
      rw [e]
      have b1 := (valid_bounds h1).2.2.2
      have b2 := (valid_bounds h2).2.2.2
      unfold I64 at hn
      have b3 : -4194304 ≤ n ∧ n ≤ 4194304 := by
        unfold wrap64 at b2
        omega
      exact push_r_yes x y z b n _ hx hy hz (hideV h1) (by omega) (by omega) rfl (hideV h2) w
end Go.Proofs.Ytblnpelbklfloaa
