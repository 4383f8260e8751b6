/- What a valid rotation is; contracts of turn's functions without needs. -/
import Derived.Test.YtjeenfnfkndgaaaZZ
import Derived.Test.YtjeenfnfkndgaaaUB
import Derived.Test.YtjeenfnfkndgaaaRows
namespace Go.Proofs.Ytjeenfnfkndgaaa
open Go Go.Sz Go.RowKit

theorem ab_pos {d : Int} (h0 : 1 ≤ d) (h1 : d ≤ 4294967296) : mxI d (IntKind.i64.wrap (0 - d)) = d := by
  rw [mxI_abs (by omega) (by omega)]; omega
theorem common_eq {d m0 m1 m2 m3 m4 m5 m6 m7 m8 : Int} (h0 : 1 ≤ d) (h1 : d ≤ 4294967296)
    (a0 : -4294967296 ≤ m0) (b0 : m0 ≤ 4294967296) (a1 : -4294967296 ≤ m1) (b1 : m1 ≤ 4294967296) (a2 : -4294967296 ≤ m2) (b2 : m2 ≤ 4294967296)
    (a3 : -4294967296 ≤ m3) (b3 : m3 ≤ 4294967296) (a4 : -4294967296 ≤ m4) (b4 : m4 ≤ 4294967296) (a5 : -4294967296 ≤ m5) (b5 : m5 ≤ 4294967296)
    (a6 : -4294967296 ≤ m6) (b6 : m6 ≤ 4294967296) (a7 : -4294967296 ≤ m7) (b7 : m7 ≤ 4294967296) (a8 : -4294967296 ≤ m8) (b8 : m8 ≤ 4294967296) :
    geuc (geuc (geuc (geuc (geuc (geuc (geuc (geuc (geuc (mxI d (IntKind.i64.wrap (0 - d))) (mxI m0 (IntKind.i64.wrap (0 - m0)))) (mxI m1 (IntKind.i64.wrap (0 - m1)))) (mxI m2 (IntKind.i64.wrap (0 - m2)))) (mxI m3 (IntKind.i64.wrap (0 - m3)))) (mxI m4 (IntKind.i64.wrap (0 - m4)))) (mxI m5 (IntKind.i64.wrap (0 - m5)))) (mxI m6 (IntKind.i64.wrap (0 - m6)))) (mxI m7 (IntKind.i64.wrap (0 - m7)))) (mxI m8 (IntKind.i64.wrap (0 - m8)))
      = g1 (g1 (g1 (g1 (g1 (g1 (g1 (g1 (g1 d m0) m1) m2) m3) m4) m5) m6) m7) m8 ∧ 1 ≤ g1 (g1 (g1 (g1 (g1 (g1 (g1 (g1 (g1 d m0) m1) m2) m3) m4) m5) m6) m7) m8 := by
  have s0 := gstep h0 h1 a0 b0
  have s1 := gstep s0.2.1 s0.2.2 a1 b1
  have s2 := gstep s1.2.1 s1.2.2 a2 b2
  have s3 := gstep s2.2.1 s2.2.2 a3 b3
  have s4 := gstep s3.2.1 s3.2.2 a4 b4
  have s5 := gstep s4.2.1 s4.2.2 a5 b5
  have s6 := gstep s5.2.1 s5.2.2 a6 b6
  have s7 := gstep s6.2.1 s6.2.2 a7 b7
  have s8 := gstep s7.2.1 s7.2.2 a8 b8
  rw [ab_pos h0 h1, s0.1, s1.1, s2.1, s3.1, s4.1, s5.1, s6.1, s7.1, s8.1]
  exact ⟨rfl, s8.2.1⟩

set_option maxRecDepth 100000 in
/-- a valid rotation's numbers -/
theorem valid_b {T : Tab} (hF : Fs.ok F5 T) {d : D} (h : ((T 5 d).get 0).bool = true) : 1 ≤ (d.get 9).int ∧ (d.get 9).int ≤ 25 ∧ ∀ k, k < 9 → -(d.get 9).int ≤ (d.get k).int ∧ (d.get k).int ≤ (d.get 9).int := by
  have hT : T 5 = fnOf F4 turn_Valid_x := hF.top
  rw [hT, fnOf_eq] at h
  simp only [turn_Valid_x, List.map_cons, List.map_nil, D.of, X.d, den1, den_add, den_sub, den_mul, den_lt, den_eq, den_and, den_or, int_i, bool_b, D.get, envD, not_t, not_f, and_t, or_f, lt_f] at h
  obtain ⟨⟨h0, h1, ⟨⟨a0, b0⟩, ⟨a1, b1⟩, a2, b2⟩, ⟨⟨a3, b3⟩, ⟨a4, b4⟩, a5, b5⟩, ⟨a6, b6⟩, ⟨a7, b7⟩, a8, b8⟩, -⟩ := h
  rw [w64 (by omega) (by omega)] at *
  refine ⟨h0, h1, fun k hk => ?_⟩
  have : k = 0 ∨ k = 1 ∨ k = 2 ∨ k = 3 ∨ k = 4 ∨ k = 5 ∨ k = 6 ∨ k = 7 ∨ k = 8 := by omega
  rcases this with rfl | rfl | rfl | rfl | rfl | rfl | rfl | rfl | rfl <;> constructor <;> omega
set_option maxRecDepth 100000 in
theorem frame_b {T : Tab} (hF : Fs.ok F8 T) {d : D} (h : ((T 20 d).get 0).bool = true) : 1 ≤ (d.get 9).int ∧ (d.get 9).int ≤ 25 ∧ (∀ k, k < 9 → -(d.get 9).int ≤ (d.get k).int ∧ (d.get k).int ≤ (d.get 9).int) ∧ (∀ k, k < 3 → -96 ≤ (d.get (10 + k)).int ∧ (d.get (10 + k)).int ≤ 96) := by
  have hT : T 20 = fnOf F7 turn_valid_x := hF.top
  have e5 : tabF F7 5 = T 5 := (tabF_eq hF.tail (by kernel_rfl)).symm
  rw [hT, fnOf_eq] at h
  simp only [turn_valid_x, List.map_cons, List.map_nil, D.of, X.d, den1, den_lt, den_and, den_or, den_cons, den_get, int_i, bool_b, D.get, Int.toNat_zero, envD, not_t, and_t, or_f, lt_f, e5] at h
  obtain ⟨h5, ⟨a0, b0⟩, ⟨a1, b1⟩, a2, b2⟩ := h
  obtain ⟨h0, h1, h2⟩ := valid_b hF.tail.tail.tail h5
  refine ⟨h0, h1, fun k hk => ?_, fun k hk => ?_⟩
  · have := h2 k hk
    have : k = 0 ∨ k = 1 ∨ k = 2 ∨ k = 3 ∨ k = 4 ∨ k = 5 ∨ k = 6 ∨ k = 7 ∨ k = 8 := by omega
    rcases this with rfl | rfl | rfl | rfl | rfl | rfl | rfl | rfl | rfl <;> assumption
  · have : k = 0 ∨ k = 1 ∨ k = 2 := by omega
    rcases this with rfl | rfl | rfl <;> constructor <;> assumption
theorem frame_m {T : Tab} (hF : Fs.ok F8 T) {d : D} (h : ((T 20 d).get 0).bool = true) (k : Nat) (hk : k < 9) : -25 ≤ (d.get k).int ∧ (d.get k).int ≤ 25 := by
  obtain ⟨h0, h1, h2, -⟩ := frame_b hF h
  have := h2 k hk
  omega
theorem dot_in {a b c d e f : Int} (a0 : -25 ≤ a) (a1 : a ≤ 25) (b0 : -96 ≤ b) (b1 : b ≤ 96) (c0 : -25 ≤ c) (c1 : c ≤ 25) (d0 : -96 ≤ d) (d1 : d ≤ 96) (e0 : -25 ≤ e) (e1 : e ≤ 25) (f0 : -96 ≤ f) (f1 : f ≤ 96) :
    IntKind.i64.wrap (IntKind.i64.wrap (IntKind.i64.wrap (a * b) + IntKind.i64.wrap (c * d)) + IntKind.i64.wrap (e * f)) = a * b + c * d + e * f ∧ -7200 ≤ a * b + c * d + e * f ∧ a * b + c * d + e * f ≤ 7200 := by
  have h1 := mul_in (A := 25) (B := 96) a0 a1 b0 b1
  have h2 := mul_in (A := 25) (B := 96) c0 c1 d0 d1
  have h3 := mul_in (A := 25) (B := 96) e0 e1 f0 f1
  rw [w64 (n := a * b) (by omega) (by omega), w64 (n := c * d) (by omega) (by omega), w64 (n := e * f) (by omega) (by omega), w64 (n := a * b + c * d) (by omega) (by omega), w64 (by omega) (by omega)]
  exact ⟨rfl, by omega, by omega⟩
theorem den_in {a b : Int} (a0 : 1 ≤ a) (a1 : a ≤ 25) (b0 : 1 ≤ b) (b1 : b ≤ 25) : IntKind.i64.wrap (a * b) = a * b ∧ 1 ≤ a * b ∧ a * b ≤ 625 := by
  have h1 := mul_in (A := 25) (B := 25) (a := a) (b := b) (by omega) (by omega) (by omega) (by omega)
  have h2 : 0 < a * b := Int.mul_pos (by omega) (by omega)
  rw [w64 (by omega) (by omega)]
  exact ⟨rfl, by omega, by omega⟩

end Go.Proofs.Ytjeenfnfkndgaaa
