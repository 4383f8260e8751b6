/- turn.Plane without needs, and the reference's. -/
import Derived.Test.YtjeenfnfkndgaaaZZ
import Derived.Test.YtjeenfnfkndgaaaSA
import Derived.Test.YtjeenfnfkndgaaaRows
namespace Go.Proofs.Ytjeenfnfkndgaaa
open Go Go.Sz Go.RowKit

theorem ab_abs {x : Int} (h0 : -4611686018427387904 ≤ x) (h1 : x ≤ 4611686018427387904) : ab x = (x.natAbs : Int) := by
  unfold ab
  split
  · rw [w64 (by omega) (by omega)]; omega
  · omega
theorem geuc_zero {a b : Int} (ha : 0 ≤ a) (hb : 0 ≤ b) (h : geuc a b = 0) : a = 0 ∧ b = 0 := by
  rw [geuc_gcd ha hb] at h
  exact Int.gcd_eq_zero_iff.1 (by omega)
theorem geuc_nn {a b : Int} (ha : 0 ≤ a) (hb : 0 ≤ b) : 0 ≤ geuc a b := by
  rw [geuc_gcd ha hb]; omega
theorem pg_zero {x y z : Int} (h : pg x y z = 0) (x0 : -4611686018427387904 ≤ x) (x1 : x ≤ 4611686018427387904) (y0 : -4611686018427387904 ≤ y) (y1 : y ≤ 4611686018427387904) (z0 : -4611686018427387904 ≤ z) (z1 : z ≤ 4611686018427387904) : x = 0 ∧ y = 0 ∧ z = 0 := by
  unfold pg at h
  rw [if_neg (by omega), if_neg (by omega), if_neg (by omega), ab_abs x0 x1, ab_abs y0 y1, ab_abs z0 z1] at h
  have a := geuc_nn (a := 0) (b := (x.natAbs : Int)) (by omega) (by omega)
  have b := geuc_nn (b := (y.natAbs : Int)) a (by omega)
  obtain ⟨h1, h2⟩ := geuc_zero b (by omega) h
  obtain ⟨h3, h4⟩ := geuc_zero a (by omega) h1
  obtain ⟨-, h5⟩ := geuc_zero (by omega) (by omega) h3
  omega
theorem det_in {a b c d e : Int} (a0 : -25 ≤ a) (a1 : a ≤ 25) (b0 : -25 ≤ b) (b1 : b ≤ 25) (c0 : -25 ≤ c) (c1 : c ≤ 25) (d0 : -25 ≤ d) (d1 : d ≤ 25) (e0 : -25 ≤ e) (e1 : e ≤ 25) :
    IntKind.i64.wrap (IntKind.i64.wrap (IntKind.i64.wrap (a * b) - IntKind.i64.wrap (c * d)) * e) = (a * b - c * d) * e ∧ -31250 ≤ (a * b - c * d) * e ∧ (a * b - c * d) * e ≤ 31250 := by
  have h1 := mul_in (A := 25) (B := 25) a0 a1 b0 b1
  have h2 := mul_in (A := 25) (B := 25) c0 c1 d0 d1
  have h3 := mul_in (A := 1250) (B := 25) (a := a * b - c * d) (b := e) (by omega) (by omega) e0 e1
  rw [w64 (n := a * b) (by omega) (by omega), w64 (n := c * d) (by omega) (by omega), w64 (n := a * b - c * d) (by omega) (by omega), w64 (by omega) (by omega)]
  exact ⟨rfl, by omega, by omega⟩
theorem dotN_in {a b c d e f : Int} (a0 : -25 ≤ a) (a1 : a ≤ 25) (b0 : -4608 ≤ b) (b1 : b ≤ 4608) (c0 : -25 ≤ c) (c1 : c ≤ 25) (d0 : -4608 ≤ d) (d1 : d ≤ 4608) (e0 : -25 ≤ e) (e1 : e ≤ 25) (f0 : -4608 ≤ f) (f1 : f ≤ 4608) :
    IntKind.i64.wrap (IntKind.i64.wrap (IntKind.i64.wrap (a * b) + IntKind.i64.wrap (c * d)) + IntKind.i64.wrap (e * f)) = a * b + c * d + e * f ∧ -345600 ≤ a * b + c * d + e * f ∧ a * b + c * d + e * f ≤ 345600 := by
  have h1 := mul_in (A := 25) (B := 4608) a0 a1 b0 b1
  have h2 := mul_in (A := 25) (B := 4608) c0 c1 d0 d1
  have h3 := mul_in (A := 25) (B := 4608) e0 e1 f0 f1
  rw [w64 (n := a * b) (by omega) (by omega), w64 (n := c * d) (by omega) (by omega), w64 (n := e * f) (by omega) (by omega), w64 (n := a * b + c * d) (by omega) (by omega), w64 (by omega) (by omega)]
  exact ⟨rfl, by omega, by omega⟩
theorem adj {m0 m1 m2 m3 m4 m5 m6 m7 m8 x y z d : Int} (hd : (m1 * m5 - m2 * m4) * m6 + (m2 * m3 - m0 * m5) * m7 + (m0 * m4 - m1 * m3) * m8 = d) (h0 : m0 * x + m1 * y + m2 * z = 0) (h1 : m3 * x + m4 * y + m5 * z = 0) (h2 : m6 * x + m7 * y + m8 * z = 0) : x * d = 0 ∧ y * d = 0 ∧ z * d = 0 := by
  have i0 : x * ((m1 * m5 - m2 * m4) * m6 + (m2 * m3 - m0 * m5) * m7 + (m0 * m4 - m1 * m3) * m8) = (m4 * m8 - m5 * m7) * (m0 * x + m1 * y + m2 * z) + (m2 * m7 - m1 * m8) * (m3 * x + m4 * y + m5 * z) + (m1 * m5 - m2 * m4) * (m6 * x + m7 * y + m8 * z) := by grind
  have i1 : y * ((m1 * m5 - m2 * m4) * m6 + (m2 * m3 - m0 * m5) * m7 + (m0 * m4 - m1 * m3) * m8) = (m5 * m6 - m3 * m8) * (m0 * x + m1 * y + m2 * z) + (m0 * m8 - m2 * m6) * (m3 * x + m4 * y + m5 * z) + (m2 * m3 - m0 * m5) * (m6 * x + m7 * y + m8 * z) := by grind
  have i2 : z * ((m1 * m5 - m2 * m4) * m6 + (m2 * m3 - m0 * m5) * m7 + (m0 * m4 - m1 * m3) * m8) = (m3 * m7 - m4 * m6) * (m0 * x + m1 * y + m2 * z) + (m1 * m6 - m0 * m7) * (m3 * x + m4 * y + m5 * z) + (m0 * m4 - m1 * m3) * (m6 * x + m7 * y + m8 * z) := by grind
  rw [hd, h0, h1, h2] at i0 i1 i2
  exact ⟨by rw [i0]; simp, by rw [i1]; simp, by rw [i2]; simp⟩
section
variable {T : Tab} (hF : Fs.ok F17 T)
include hF
set_option maxRecDepth 100000 in
theorem plane_b {a b c e : D} (h : ((T 4 (.cons a (.cons b (.cons c (.cons e .nil))))).get 0).bool = true) : (-4608 ≤ a.int ∧ a.int ≤ 4608) ∧ (-4608 ≤ b.int ∧ b.int ≤ 4608) ∧ (-4608 ≤ c.int ∧ c.int ≤ 4608) ∧ (-2097152 ≤ e.int ∧ e.int ≤ 2097152) ∧ pg a.int b.int c.int = 1 := by
  have h1 : T 1 = geucD := hF.tail.tail.tail.tail.tail.tail.tail.tail.tail.tail.tail.tail.tail.tail.tail.tail.top
  have h4 : T 4 = fnOf F3 plane_Valid_x := hF.tail.tail.tail.tail.tail.tail.tail.tail.tail.tail.tail.tail.tail.top
  have e1 : tabF F3 1 = T 1 := (tabF_eq hF.tail.tail.tail.tail.tail.tail.tail.tail.tail.tail.tail.tail.tail.tail (by kernel_rfl)).symm
  rw [h4, fnOf_eq] at h
  simp only [plane_Valid_x, List.map_cons, List.map_nil, D.of, X.d, den1, den3, den_sub, den_lt, den_eq, den_and, den_or, den_cons, int_i, bool_b, hd_c, tl_c, D.get, envD, gk_0, e1, h1, geucD, eq_t, lt_t, ite_di, ab_d, and_t, not_t, or_f, lt_f] at h
  obtain ⟨⟨x, y, z⟩, w, g⟩ := h
  exact ⟨x, y, z, w, g⟩
set_option maxRecDepth 100000 in
theorem det_eq {f : D} (hv : VF T f) : ((f.get 1).int * (f.get 5).int - (f.get 2).int * (f.get 4).int) * (f.get 6).int + ((f.get 2).int * (f.get 3).int - (f.get 0).int * (f.get 5).int) * (f.get 7).int + ((f.get 0).int * (f.get 4).int - (f.get 1).int * (f.get 3).int) * (f.get 8).int = (f.get 9).int * (f.get 9).int * (f.get 9).int := by
  have h5 : T 5 = fnOf F4 turn_Valid_x := hF.tail.tail.tail.tail.tail.tail.tail.tail.tail.tail.tail.tail.top
  have m0 : -25 ≤ (f.get 0).int ∧ (f.get 0).int ≤ 25 := frame_m hF.tail.tail.tail.tail.tail.tail.tail.tail.tail hv 0 (by decide)
  have m1 : -25 ≤ (f.get 1).int ∧ (f.get 1).int ≤ 25 := frame_m hF.tail.tail.tail.tail.tail.tail.tail.tail.tail hv 1 (by decide)
  have m2 : -25 ≤ (f.get 2).int ∧ (f.get 2).int ≤ 25 := frame_m hF.tail.tail.tail.tail.tail.tail.tail.tail.tail hv 2 (by decide)
  have m3 : -25 ≤ (f.get 3).int ∧ (f.get 3).int ≤ 25 := frame_m hF.tail.tail.tail.tail.tail.tail.tail.tail.tail hv 3 (by decide)
  have m4 : -25 ≤ (f.get 4).int ∧ (f.get 4).int ≤ 25 := frame_m hF.tail.tail.tail.tail.tail.tail.tail.tail.tail hv 4 (by decide)
  have m5 : -25 ≤ (f.get 5).int ∧ (f.get 5).int ≤ 25 := frame_m hF.tail.tail.tail.tail.tail.tail.tail.tail.tail hv 5 (by decide)
  have m6 : -25 ≤ (f.get 6).int ∧ (f.get 6).int ≤ 25 := frame_m hF.tail.tail.tail.tail.tail.tail.tail.tail.tail hv 6 (by decide)
  have m7 : -25 ≤ (f.get 7).int ∧ (f.get 7).int ≤ 25 := frame_m hF.tail.tail.tail.tail.tail.tail.tail.tail.tail hv 7 (by decide)
  have m8 : -25 ≤ (f.get 8).int ∧ (f.get 8).int ≤ 25 := frame_m hF.tail.tail.tail.tail.tail.tail.tail.tail.tail hv 8 (by decide)
  have dd : 1 ≤ (f.get 9).int ∧ (f.get 9).int ≤ 25 := ⟨(frame_b hF.tail.tail.tail.tail.tail.tail.tail.tail.tail hv).1, (frame_b hF.tail.tail.tail.tail.tail.tail.tail.tail.tail hv).2.1⟩
  have s0 : -96 ≤ (f.get 10).int ∧ (f.get 10).int ≤ 96 := (frame_b hF.tail.tail.tail.tail.tail.tail.tail.tail.tail hv).2.2.2 0 (by decide)
  have s1 : -96 ≤ (f.get 11).int ∧ (f.get 11).int ≤ 96 := (frame_b hF.tail.tail.tail.tail.tail.tail.tail.tail.tail hv).2.2.2 1 (by decide)
  have s2 : -96 ≤ (f.get 12).int ∧ (f.get 12).int ≤ 96 := (frame_b hF.tail.tail.tail.tail.tail.tail.tail.tail.tail hv).2.2.2 2 (by decide)
  have q := den_in dd.1 dd.2 dd.1 dd.2
  have q3 := mul_in (A := 625) (B := 25) (a := (f.get 9).int * (f.get 9).int) (b := (f.get 9).int) (by omega) (by omega) (by omega) (by omega)
  have a := det_in m1.1 m1.2 m5.1 m5.2 m2.1 m2.2 m4.1 m4.2 m6.1 m6.2
  have b := det_in m2.1 m2.2 m3.1 m3.2 m0.1 m0.2 m5.1 m5.2 m7.1 m7.2
  have c := det_in m0.1 m0.2 m4.1 m4.2 m1.1 m1.2 m3.1 m3.2 m8.1 m8.2
  have h := V_five hF hv
  rw [h5, fnOf_eq] at h
  simp only [turn_Valid_x, turn_Valid_n_q0, List.map_cons, List.map_nil, D.of, X.d, den1, den_add, den_sub, den_mul, den_lt, den_eq, den_and, den_or, den_cons, int_i, bool_b, D.get, Nat.reduceAdd, envD, D.seg, gk_0, Nat.zero_add, Nat.reduceAdd, and_t, eq_t, a.1, b.1, c.1, q.1] at h
  obtain ⟨-, -, hd, -⟩ := h
  rw [w64 (n := _ + ((f.get 2).int * (f.get 3).int - (f.get 0).int * (f.get 5).int) * (f.get 7).int) (by omega) (by omega), w64 (by omega) (by omega), w64 (by omega) (by omega)] at hd
  exact hd
/-- a valid rotation sends no normal to 0 -/
theorem nonsing {f a b c e : D} (hv : VF T f) (hp : ((T 4 (.cons a (.cons b (.cons c (.cons e .nil))))).get 0).bool = true) :
    ¬ pg (IntKind.i64.wrap (IntKind.i64.wrap (IntKind.i64.wrap ((f.get 0).int * a.int) + IntKind.i64.wrap ((f.get 1).int * b.int)) + IntKind.i64.wrap ((f.get 2).int * c.int))) (IntKind.i64.wrap (IntKind.i64.wrap (IntKind.i64.wrap ((f.get 3).int * a.int) + IntKind.i64.wrap ((f.get 4).int * b.int)) + IntKind.i64.wrap ((f.get 5).int * c.int))) (IntKind.i64.wrap (IntKind.i64.wrap (IntKind.i64.wrap ((f.get 6).int * a.int) + IntKind.i64.wrap ((f.get 7).int * b.int)) + IntKind.i64.wrap ((f.get 8).int * c.int))) = 0 := by
  obtain ⟨ha, hb, hc, -, hg⟩ := plane_b hF hp
  have m0 : -25 ≤ (f.get 0).int ∧ (f.get 0).int ≤ 25 := frame_m hF.tail.tail.tail.tail.tail.tail.tail.tail.tail hv 0 (by decide)
  have m1 : -25 ≤ (f.get 1).int ∧ (f.get 1).int ≤ 25 := frame_m hF.tail.tail.tail.tail.tail.tail.tail.tail.tail hv 1 (by decide)
  have m2 : -25 ≤ (f.get 2).int ∧ (f.get 2).int ≤ 25 := frame_m hF.tail.tail.tail.tail.tail.tail.tail.tail.tail hv 2 (by decide)
  have m3 : -25 ≤ (f.get 3).int ∧ (f.get 3).int ≤ 25 := frame_m hF.tail.tail.tail.tail.tail.tail.tail.tail.tail hv 3 (by decide)
  have m4 : -25 ≤ (f.get 4).int ∧ (f.get 4).int ≤ 25 := frame_m hF.tail.tail.tail.tail.tail.tail.tail.tail.tail hv 4 (by decide)
  have m5 : -25 ≤ (f.get 5).int ∧ (f.get 5).int ≤ 25 := frame_m hF.tail.tail.tail.tail.tail.tail.tail.tail.tail hv 5 (by decide)
  have m6 : -25 ≤ (f.get 6).int ∧ (f.get 6).int ≤ 25 := frame_m hF.tail.tail.tail.tail.tail.tail.tail.tail.tail hv 6 (by decide)
  have m7 : -25 ≤ (f.get 7).int ∧ (f.get 7).int ≤ 25 := frame_m hF.tail.tail.tail.tail.tail.tail.tail.tail.tail hv 7 (by decide)
  have m8 : -25 ≤ (f.get 8).int ∧ (f.get 8).int ≤ 25 := frame_m hF.tail.tail.tail.tail.tail.tail.tail.tail.tail hv 8 (by decide)
  have dd : 1 ≤ (f.get 9).int ∧ (f.get 9).int ≤ 25 := ⟨(frame_b hF.tail.tail.tail.tail.tail.tail.tail.tail.tail hv).1, (frame_b hF.tail.tail.tail.tail.tail.tail.tail.tail.tail hv).2.1⟩
  have s0 : -96 ≤ (f.get 10).int ∧ (f.get 10).int ≤ 96 := (frame_b hF.tail.tail.tail.tail.tail.tail.tail.tail.tail hv).2.2.2 0 (by decide)
  have s1 : -96 ≤ (f.get 11).int ∧ (f.get 11).int ≤ 96 := (frame_b hF.tail.tail.tail.tail.tail.tail.tail.tail.tail hv).2.2.2 1 (by decide)
  have s2 : -96 ≤ (f.get 12).int ∧ (f.get 12).int ≤ 96 := (frame_b hF.tail.tail.tail.tail.tail.tail.tail.tail.tail hv).2.2.2 2 (by decide)
  have u0 := dotN_in m0.1 m0.2 ha.1 ha.2 m1.1 m1.2 hb.1 hb.2 m2.1 m2.2 hc.1 hc.2
  have u1 := dotN_in m3.1 m3.2 ha.1 ha.2 m4.1 m4.2 hb.1 hb.2 m5.1 m5.2 hc.1 hc.2
  have u2 := dotN_in m6.1 m6.2 ha.1 ha.2 m7.1 m7.2 hb.1 hb.2 m8.1 m8.2 hc.1 hc.2
  intro h
  rw [u0.1, u1.1, u2.1] at h
  obtain ⟨z0, z1, z2⟩ := pg_zero h (by omega) (by omega) (by omega) (by omega) (by omega) (by omega)
  obtain ⟨x0, y0, c0⟩ := adj (det_eq hF hv) z0 z1 z2
  have hD : (f.get 9).int * (f.get 9).int * (f.get 9).int ≠ 0 := by
    have := Int.mul_pos (Int.mul_pos (show 0 < (f.get 9).int by omega) (show 0 < (f.get 9).int by omega)) (show 0 < (f.get 9).int by omega)
    omega
  have xa : a.int = 0 := (Int.mul_eq_zero.1 x0).resolve_right hD
  have xb : b.int = 0 := (Int.mul_eq_zero.1 y0).resolve_right hD
  have xc : c.int = 0 := (Int.mul_eq_zero.1 c0).resolve_right hD
  rw [xa, xb, xc] at hg
  exact absurd hg (by decide)
end

noncomputable def turn_Plane_w_k : Con := { turn_Plane_k with need := [] }
theorem turn_Plane_w_c {T : Tab} (hF : Fs.ok F17 T) : turn_Plane_w_k.Ok Try.prog T :=
  con_need (turn_Plane_c hF.tail.tail.tail.tail) [] fun η hn => by
    have h1 : T 1 = geucD := hF.tail.tail.tail.tail.tail.tail.tail.tail.tail.tail.tail.tail.tail.tail.tail.tail.top
    have h3 : T 3 = fnOf F2 plane_Prim_x := hF.tail.tail.tail.tail.tail.tail.tail.tail.tail.tail.tail.tail.tail.tail.top
    have e1 : tabF F2 1 = T 1 := (tabF_eq hF.tail.tail.tail.tail.tail.tail.tail.tail.tail.tail.tail.tail.tail.tail.tail (by kernel_rfl)).symm
    intro x hx
    simp only [turn_Plane_k, List.mem_cons, List.not_mem_nil, or_false] at hx
    subst hx
    simp only [turn_Plane_q0, turn_Plane_q1, X.d, den1, den_add, den_mul, den_eq, den_or, den_cons, den_get, int_i, bool_b, D.get, Int.toNat_zero, or_t, not_t, eq_f, prim_d h1 h3 e1, primD, tn_3, gk_3]
    refine Classical.or_iff_not_imp_left.2 fun h => ?_
    simp only [not_or, Bool.not_eq_false] at h
    exact nonsing hF (f := (.cons (η.d 0) (.cons (η.d 1) (.cons (η.d 2) (.cons (η.d 3) (.cons (η.d 4) (.cons (η.d 5) (.cons (η.d 6) (.cons (η.d 7) (.cons (η.d 8) (.cons (η.d 9) (.cons (η.d 10) (.cons (η.d 11) (.cons (η.d 12) .nil)))))))))))))) h.1 h.2
noncomputable def turn_Plane_w_n_q0 : X := .o2 .cons (.var 13) (.o2 .cons (.var 14) (.o2 .cons (.var 15) (.o2 .cons (.var 16) (.lit .nil))))
noncomputable def turn_Plane_w_n_q1 : X := .o2 .or (.o1 .not (.o2 .get (.fn 20 (.o2 .cons (.var 0) (.o2 .cons (.var 1) (.o2 .cons (.var 2) (.o2 .cons (.var 3) (.o2 .cons (.var 4) (.o2 .cons (.var 5) (.o2 .cons (.var 6) (.o2 .cons (.var 7) (.o2 .cons (.var 8) (.o2 .cons (.var 9) (.o2 .cons (.var 10) (.o2 .cons (.var 11) (.o2 .cons (.var 12) (.lit .nil))))))))))))))) (.lit (.i 0)))) (.o1 .not (.o2 .get (.fn 4 turn_Plane_w_n_q0) (.lit (.i 0))))
noncomputable def turn_Plane_w_n_q2 : X := .fn 3 (.o2 .cons (.o2 (.add .i64) (.o2 (.add .i64) (.o2 (.mul .i64) (.var 0) (.var 13)) (.o2 (.mul .i64) (.var 1) (.var 14))) (.o2 (.mul .i64) (.var 2) (.var 15))) (.o2 .cons (.o2 (.add .i64) (.o2 (.add .i64) (.o2 (.mul .i64) (.var 3) (.var 13)) (.o2 (.mul .i64) (.var 4) (.var 14))) (.o2 (.mul .i64) (.var 5) (.var 15))) (.o2 .cons (.o2 (.add .i64) (.o2 (.add .i64) (.o2 (.mul .i64) (.var 6) (.var 13)) (.o2 (.mul .i64) (.var 7) (.var 14))) (.o2 (.mul .i64) (.var 8) (.var 15))) (.lit .nil))))
noncomputable def turn_Plane_w_n_q3 : X := .o2 (.add .i64) (.o2 (.quo .i64) (.o2 (.mul .i64) (.var 9) (.var 16)) (.o2 .get turn_Plane_w_n_q2 (.lit (.i 3)))) (.o2 (.add .i64) (.o2 (.add .i64) (.o2 (.mul .i64) (.o2 .get turn_Plane_w_n_q2 (.lit (.i 0))) (.var 10)) (.o2 (.mul .i64) (.o2 .get turn_Plane_w_n_q2 (.lit (.i 1))) (.var 11))) (.o2 (.mul .i64) (.o2 .get turn_Plane_w_n_q2 (.lit (.i 2))) (.var 12)))
noncomputable def turn_Plane_w_n_q4 : X := .o2 .or (.o1 .not (.o2 .eq (.o2 .rem (.o2 (.mul .i64) (.var 9) (.var 16)) (.o2 .get turn_Plane_w_n_q2 (.lit (.i 3)))) (.lit (.i 0)))) (.o1 .not (.o2 .get (.fn 4 (.o2 .app (.o1 (.seg 3) turn_Plane_w_n_q2) (.o2 .cons turn_Plane_w_n_q3 (.lit .nil)))) (.lit (.i 0))))
noncomputable def turn_Plane_w_n_q5 : X := .fn 9 (.o2 .cons (.var 0) (.o2 .cons (.var 1) (.o2 .cons (.var 2) (.o2 .cons (.var 3) (.o2 .cons (.var 4) (.o2 .cons (.var 5) (.o2 .cons (.var 6) (.o2 .cons (.var 7) (.o2 .cons (.var 8) (.o2 .cons (.var 9) (.o2 .cons (.var 10) (.o2 .cons (.var 11) (.o2 .cons (.var 12) turn_Plane_w_n_q0)))))))))))))
noncomputable def turn_Plane_w_x : List X := [.o3 .ite turn_Plane_w_n_q1 (.lit (.i 0)) (.o3 .ite turn_Plane_w_n_q4 (.lit (.i 0)) (.o2 .get turn_Plane_w_n_q2 (.lit (.i 0)))), .o3 .ite turn_Plane_w_n_q1 (.lit (.i 0)) (.o3 .ite turn_Plane_w_n_q4 (.lit (.i 0)) (.o2 .get turn_Plane_w_n_q2 (.lit (.i 1)))), .o3 .ite turn_Plane_w_n_q1 (.lit (.i 0)) (.o3 .ite turn_Plane_w_n_q4 (.lit (.i 0)) (.o2 .get turn_Plane_w_n_q2 (.lit (.i 2)))), .o3 .ite turn_Plane_w_n_q1 (.lit (.i 0)) (.o3 .ite turn_Plane_w_n_q4 (.lit (.i 0)) turn_Plane_w_n_q3), .o2 .and (.o1 .not turn_Plane_w_n_q1) (.o1 .not turn_Plane_w_n_q4)]
noncomputable def F18 : Fs := (9, fnOf F17 turn_Plane_w_x) :: F17
noncomputable def turn_Plane_w_n_k : Con := { f := 21, pat := [.v (.agg [.int .i64 (.var 0), .int .i64 (.var 1), .int .i64 (.var 2), .int .i64 (.var 3), .int .i64 (.var 4), .int .i64 (.var 5), .int .i64 (.var 6), .int .i64 (.var 7), .int .i64 (.var 8), .int .i64 (.var 9), .int .i64 (.var 10), .int .i64 (.var 11), .int .i64 (.var 12)]), .v (.agg [.int .i64 (.var 13), .int .i64 (.var 14), .int .i64 (.var 15), .int .i64 (.var 16)])], res := .tup [.agg [.int .i64 (.o2 .get turn_Plane_w_n_q5 (.lit (.i 0))), .int .i64 (.o2 .get turn_Plane_w_n_q5 (.lit (.i 1))), .int .i64 (.o2 .get turn_Plane_w_n_q5 (.lit (.i 2))), .int .i64 (.o2 .get turn_Plane_w_n_q5 (.lit (.i 3)))], .one (.bool (.o2 .get turn_Plane_w_n_q5 (.lit (.i 4))))] }
theorem turn_Plane_w_n_c {T : Tab} (hF : Fs.ok F18 T) : turn_Plane_w_n_k.Ok Try.prog T :=
  con_nm (nv := 17) (xs := turn_Plane_w_x) hF.tail (turn_Plane_w_c hF.tail) hF.top (by kernel_rfl)
noncomputable def r11_Plane_q0 : X := .o2 .or (.o1 .not (.o2 .get (.fn 20 (.o2 .cons (.var 0) (.o2 .cons (.var 1) (.o2 .cons (.var 2) (.o2 .cons (.var 3) (.o2 .cons (.var 4) (.o2 .cons (.var 5) (.o2 .cons (.var 6) (.o2 .cons (.var 7) (.o2 .cons (.var 8) (.o2 .cons (.var 9) (.o2 .cons (.var 10) (.o2 .cons (.var 11) (.o2 .cons (.var 12) (.lit .nil))))))))))))))) (.lit (.i 0)))) (.o1 .not (.o2 .get (.fn 4 (.o2 .cons (.var 13) (.o2 .cons (.var 14) (.o2 .cons (.var 15) (.o2 .cons (.var 16) (.lit .nil)))))) (.lit (.i 0))))
noncomputable def r11_Plane_q1 : X := .fn 3 (.o2 .cons (.o2 (.add .i64) (.o2 (.add .i64) (.o2 (.mul .i64) (.var 0) (.var 13)) (.o2 (.mul .i64) (.var 1) (.var 14))) (.o2 (.mul .i64) (.var 2) (.var 15))) (.o2 .cons (.o2 (.add .i64) (.o2 (.add .i64) (.o2 (.mul .i64) (.var 3) (.var 13)) (.o2 (.mul .i64) (.var 4) (.var 14))) (.o2 (.mul .i64) (.var 5) (.var 15))) (.o2 .cons (.o2 (.add .i64) (.o2 (.add .i64) (.o2 (.mul .i64) (.var 6) (.var 13)) (.o2 (.mul .i64) (.var 7) (.var 14))) (.o2 (.mul .i64) (.var 8) (.var 15))) (.lit .nil))))
noncomputable def r11_Plane_q2 : X := .o2 .or (.o2 .eq (.o2 .get r11_Plane_q1 (.lit (.i 3))) (.lit (.i 0))) (.o1 .not (.o2 .eq (.o2 .rem (.o2 (.mul .i64) (.var 9) (.var 16)) (.o2 .get r11_Plane_q1 (.lit (.i 3)))) (.lit (.i 0))))
noncomputable def r11_Plane_q3 : X := .o2 (.add .i64) (.o2 (.quo .i64) (.o2 (.mul .i64) (.var 9) (.var 16)) (.o2 .get r11_Plane_q1 (.lit (.i 3)))) (.o2 (.add .i64) (.o2 (.add .i64) (.o2 (.mul .i64) (.o2 .get r11_Plane_q1 (.lit (.i 0))) (.var 10)) (.o2 (.mul .i64) (.o2 .get r11_Plane_q1 (.lit (.i 1))) (.var 11))) (.o2 (.mul .i64) (.o2 .get r11_Plane_q1 (.lit (.i 2))) (.var 12)))
noncomputable def r11_Plane_q4 : X := .o1 .not (.o2 .get (.fn 4 (.o2 .app (.o1 (.seg 3) r11_Plane_q1) (.o2 .cons r11_Plane_q3 (.lit .nil)))) (.lit (.i 0)))
noncomputable def r11_Plane_k : Con := { f := 22, pat := [.v (.agg [.int .i64 (.var 0), .int .i64 (.var 1), .int .i64 (.var 2), .int .i64 (.var 3), .int .i64 (.var 4), .int .i64 (.var 5), .int .i64 (.var 6), .int .i64 (.var 7), .int .i64 (.var 8), .int .i64 (.var 9), .int .i64 (.var 10), .int .i64 (.var 11), .int .i64 (.var 12)]), .v (.agg [.int .i64 (.var 13), .int .i64 (.var 14), .int .i64 (.var 15), .int .i64 (.var 16)])], res := .tup [.agg [.int .i64 (.o3 .ite r11_Plane_q0 (.lit (.i 0)) (.o3 .ite r11_Plane_q2 (.lit (.i 0)) (.o3 .ite r11_Plane_q4 (.lit (.i 0)) (.o2 .get r11_Plane_q1 (.lit (.i 0)))))), .int .i64 (.o3 .ite r11_Plane_q0 (.lit (.i 0)) (.o3 .ite r11_Plane_q2 (.lit (.i 0)) (.o3 .ite r11_Plane_q4 (.lit (.i 0)) (.o2 .get r11_Plane_q1 (.lit (.i 1)))))), .int .i64 (.o3 .ite r11_Plane_q0 (.lit (.i 0)) (.o3 .ite r11_Plane_q2 (.lit (.i 0)) (.o3 .ite r11_Plane_q4 (.lit (.i 0)) (.o2 .get r11_Plane_q1 (.lit (.i 2)))))), .int .i64 (.o3 .ite r11_Plane_q0 (.lit (.i 0)) (.o3 .ite r11_Plane_q2 (.lit (.i 0)) (.o3 .ite r11_Plane_q4 (.lit (.i 0)) r11_Plane_q3)))], .one (.bool (.o2 .and (.o1 .not r11_Plane_q0) (.o2 .and (.o1 .not r11_Plane_q2) (.o1 .not r11_Plane_q4))))] }
theorem r11_Plane_c {T : Tab} (hF : Fs.ok F18 T) : r11_Plane_k.Ok Try.prog T :=
  con_auto (K := [r11_Right_s_k, r07_Valid_s_k, r11_times_k, r07_Prim_k, r07_Dot_k]) (nb := 17) (fuel := 110) (sym := []) mixed_ hF (conCons (r11_Right_s_c hF.tail.tail.tail.tail.tail.tail.tail) (conCons (r07_Valid_s_c hF.tail) (conCons (r11_times_c hF.tail.tail.tail.tail.tail.tail.tail) (conCons (r07_Prim_c hF.tail) (conCons (r07_Dot_c hF.tail.tail.tail.tail.tail.tail.tail) conNil))))) (by kernel_rfl)
noncomputable def r11_Plane_s_q0 : X := .o2 .cons (.var 13) (.o2 .cons (.var 14) (.o2 .cons (.var 15) (.o2 .cons (.var 16) (.lit .nil))))
noncomputable def r11_Plane_s_q1 : X := .o2 .or (.o1 .not (.o2 .get (.fn 20 (.o2 .cons (.var 0) (.o2 .cons (.var 1) (.o2 .cons (.var 2) (.o2 .cons (.var 3) (.o2 .cons (.var 4) (.o2 .cons (.var 5) (.o2 .cons (.var 6) (.o2 .cons (.var 7) (.o2 .cons (.var 8) (.o2 .cons (.var 9) (.o2 .cons (.var 10) (.o2 .cons (.var 11) (.o2 .cons (.var 12) (.lit .nil))))))))))))))) (.lit (.i 0)))) (.o1 .not (.o2 .get (.fn 4 r11_Plane_s_q0) (.lit (.i 0))))
noncomputable def r11_Plane_s_q2 : X := .fn 3 (.o2 .cons (.o2 (.add .i64) (.o2 (.add .i64) (.o2 (.mul .i64) (.var 0) (.var 13)) (.o2 (.mul .i64) (.var 1) (.var 14))) (.o2 (.mul .i64) (.var 2) (.var 15))) (.o2 .cons (.o2 (.add .i64) (.o2 (.add .i64) (.o2 (.mul .i64) (.var 3) (.var 13)) (.o2 (.mul .i64) (.var 4) (.var 14))) (.o2 (.mul .i64) (.var 5) (.var 15))) (.o2 .cons (.o2 (.add .i64) (.o2 (.add .i64) (.o2 (.mul .i64) (.var 6) (.var 13)) (.o2 (.mul .i64) (.var 7) (.var 14))) (.o2 (.mul .i64) (.var 8) (.var 15))) (.lit .nil))))
noncomputable def r11_Plane_s_q3 : X := .o2 .or (.o2 .eq (.o2 .get r11_Plane_s_q2 (.lit (.i 3))) (.lit (.i 0))) (.o1 .not (.o2 .eq (.o2 .rem (.o2 (.mul .i64) (.var 9) (.var 16)) (.o2 .get r11_Plane_s_q2 (.lit (.i 3)))) (.lit (.i 0))))
noncomputable def r11_Plane_s_q4 : X := .o2 (.add .i64) (.o2 (.quo .i64) (.o2 (.mul .i64) (.var 9) (.var 16)) (.o2 .get r11_Plane_s_q2 (.lit (.i 3)))) (.o2 (.add .i64) (.o2 (.add .i64) (.o2 (.mul .i64) (.o2 .get r11_Plane_s_q2 (.lit (.i 0))) (.var 10)) (.o2 (.mul .i64) (.o2 .get r11_Plane_s_q2 (.lit (.i 1))) (.var 11))) (.o2 (.mul .i64) (.o2 .get r11_Plane_s_q2 (.lit (.i 2))) (.var 12)))
noncomputable def r11_Plane_s_q5 : X := .o1 .not (.o2 .get (.fn 4 (.o2 .app (.o1 (.seg 3) r11_Plane_s_q2) (.o2 .cons r11_Plane_s_q4 (.lit .nil)))) (.lit (.i 0)))
noncomputable def r11_Plane_s_q6 : X := .fn 9 (.o2 .cons (.var 0) (.o2 .cons (.var 1) (.o2 .cons (.var 2) (.o2 .cons (.var 3) (.o2 .cons (.var 4) (.o2 .cons (.var 5) (.o2 .cons (.var 6) (.o2 .cons (.var 7) (.o2 .cons (.var 8) (.o2 .cons (.var 9) (.o2 .cons (.var 10) (.o2 .cons (.var 11) (.o2 .cons (.var 12) r11_Plane_s_q0)))))))))))))
noncomputable def r11_Plane_y : List X := [.o3 .ite r11_Plane_s_q1 (.lit (.i 0)) (.o3 .ite r11_Plane_s_q3 (.lit (.i 0)) (.o3 .ite r11_Plane_s_q5 (.lit (.i 0)) (.o2 .get r11_Plane_s_q2 (.lit (.i 0))))), .o3 .ite r11_Plane_s_q1 (.lit (.i 0)) (.o3 .ite r11_Plane_s_q3 (.lit (.i 0)) (.o3 .ite r11_Plane_s_q5 (.lit (.i 0)) (.o2 .get r11_Plane_s_q2 (.lit (.i 1))))), .o3 .ite r11_Plane_s_q1 (.lit (.i 0)) (.o3 .ite r11_Plane_s_q3 (.lit (.i 0)) (.o3 .ite r11_Plane_s_q5 (.lit (.i 0)) (.o2 .get r11_Plane_s_q2 (.lit (.i 2))))), .o3 .ite r11_Plane_s_q1 (.lit (.i 0)) (.o3 .ite r11_Plane_s_q3 (.lit (.i 0)) (.o3 .ite r11_Plane_s_q5 (.lit (.i 0)) r11_Plane_s_q4)), .o2 .and (.o1 .not r11_Plane_s_q1) (.o2 .and (.o1 .not r11_Plane_s_q3) (.o1 .not r11_Plane_s_q5))]
noncomputable def r11_Plane_s_k : Con := { f := 22, pat := [.v (.agg [.int .i64 (.var 0), .int .i64 (.var 1), .int .i64 (.var 2), .int .i64 (.var 3), .int .i64 (.var 4), .int .i64 (.var 5), .int .i64 (.var 6), .int .i64 (.var 7), .int .i64 (.var 8), .int .i64 (.var 9), .int .i64 (.var 10), .int .i64 (.var 11), .int .i64 (.var 12)]), .v (.agg [.int .i64 (.var 13), .int .i64 (.var 14), .int .i64 (.var 15), .int .i64 (.var 16)])], res := .tup [.agg [.int .i64 (.o2 .get r11_Plane_s_q6 (.lit (.i 0))), .int .i64 (.o2 .get r11_Plane_s_q6 (.lit (.i 1))), .int .i64 (.o2 .get r11_Plane_s_q6 (.lit (.i 2))), .int .i64 (.o2 .get r11_Plane_s_q6 (.lit (.i 3)))], .one (.bool (.o2 .get r11_Plane_s_q6 (.lit (.i 4))))] }
set_option maxRecDepth 100000 in
theorem r11_Plane_s_c {T : Tab} (hF : Fs.ok F18 T) : r11_Plane_s_k.Ok Try.prog T :=
  con_same (nv := 17) (ys := r11_Plane_y) (xs := turn_Plane_w_x) hF.tail (r11_Plane_c hF) hF.top (by kernel_rfl) (by kernel_rfl) (by kernel_rfl) fun η hn => ⟨fun x hx => by
      exact absurd hx List.not_mem_nil, by
      have h1 : T 1 = geucD := hF.tail.tail.tail.tail.tail.tail.tail.tail.tail.tail.tail.tail.tail.tail.tail.tail.tail.top
      have h3 : T 3 = fnOf F2 plane_Prim_x := hF.tail.tail.tail.tail.tail.tail.tail.tail.tail.tail.tail.tail.tail.tail.tail.top
      have e1 : tabF F2 1 = T 1 := (tabF_eq hF.tail.tail.tail.tail.tail.tail.tail.tail.tail.tail.tail.tail.tail.tail.tail.tail (by kernel_rfl)).symm
      have e34 : True := trivial
      simp only [r11_Plane_y, r11_Plane_s_q0, r11_Plane_s_q1, r11_Plane_s_q2, r11_Plane_s_q3, r11_Plane_s_q4, r11_Plane_s_q5, turn_Plane_w_n_q0, turn_Plane_w_n_q1, turn_Plane_w_n_q2, turn_Plane_w_n_q3, turn_Plane_w_n_q4, turn_Plane_w_x, List.map_cons, List.map_nil, X.d, den1, den3, den_add, den_mul, den_quo, den_rem, den_eq, den_and, den_or, den_cons, den_get, den_app, int_i, bool_b, Int.toNat_zero, Int.toNat_one, Nat.reduceAdd, D.seg, D.app, Nat.zero_add, Nat.reduceAdd, tn_2, tn_3]
      rcases Bool.eq_false_or_eq_true (((T 20 (.cons (η.d 0) (.cons (η.d 1) (.cons (η.d 2) (.cons (η.d 3) (.cons (η.d 4) (.cons (η.d 5) (.cons (η.d 6) (.cons (η.d 7) (.cons (η.d 8) (.cons (η.d 9) (.cons (η.d 10) (.cons (η.d 11) (.cons (η.d 12) .nil)))))))))))))).get 0).bool) with b0 | b0
      rotate_left
      · simp [b0]
      rcases Bool.eq_false_or_eq_true (((T 4 (.cons (η.d 13) (.cons (η.d 14) (.cons (η.d 15) (.cons (η.d 16) .nil))))).get 0).bool) with b1 | b1
      rotate_left
      · simp [b0, b1]
      have ng : eqB (((T 3 (.cons (.i (IntKind.i64.wrap (IntKind.i64.wrap (IntKind.i64.wrap ((η.d 0).int * (η.d 13).int) + IntKind.i64.wrap ((η.d 1).int * (η.d 14).int)) + IntKind.i64.wrap ((η.d 2).int * (η.d 15).int)))) (.cons (.i (IntKind.i64.wrap (IntKind.i64.wrap (IntKind.i64.wrap ((η.d 3).int * (η.d 13).int) + IntKind.i64.wrap ((η.d 4).int * (η.d 14).int)) + IntKind.i64.wrap ((η.d 5).int * (η.d 15).int)))) (.cons (.i (IntKind.i64.wrap (IntKind.i64.wrap (IntKind.i64.wrap ((η.d 6).int * (η.d 13).int) + IntKind.i64.wrap ((η.d 7).int * (η.d 14).int)) + IntKind.i64.wrap ((η.d 8).int * (η.d 15).int)))) .nil)))).get 3).int) 0 = false := by
        rw [eq_f, prim_d h1 h3 e1]
        exact nonsing hF.tail (f := (.cons (η.d 0) (.cons (η.d 1) (.cons (η.d 2) (.cons (η.d 3) (.cons (η.d 4) (.cons (η.d 5) (.cons (η.d 6) (.cons (η.d 7) (.cons (η.d 8) (.cons (η.d 9) (.cons (η.d 10) (.cons (η.d 11) (.cons (η.d 12) .nil)))))))))))))) b0 b1
      rcases Bool.eq_false_or_eq_true (eqB (Int.tmod (IntKind.i64.wrap ((η.d 9).int * (η.d 16).int)) ((T 3 (.cons (.i (IntKind.i64.wrap (IntKind.i64.wrap (IntKind.i64.wrap ((η.d 0).int * (η.d 13).int) + IntKind.i64.wrap ((η.d 1).int * (η.d 14).int)) + IntKind.i64.wrap ((η.d 2).int * (η.d 15).int)))) (.cons (.i (IntKind.i64.wrap (IntKind.i64.wrap (IntKind.i64.wrap ((η.d 3).int * (η.d 13).int) + IntKind.i64.wrap ((η.d 4).int * (η.d 14).int)) + IntKind.i64.wrap ((η.d 5).int * (η.d 15).int)))) (.cons (.i (IntKind.i64.wrap (IntKind.i64.wrap (IntKind.i64.wrap ((η.d 6).int * (η.d 13).int) + IntKind.i64.wrap ((η.d 7).int * (η.d 14).int)) + IntKind.i64.wrap ((η.d 8).int * (η.d 15).int)))) .nil)))).get 3).int) 0) with b2 | b2 <;> simp [b0, b1, b2, ng]⟩
end Go.Proofs.Ytjeenfnfkndgaaa
