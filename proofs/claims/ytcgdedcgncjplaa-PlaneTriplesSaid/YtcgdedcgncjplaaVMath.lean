/- Arithmetic of ints that wrap around: a wrapped part of a sum, difference or product need not be wrapped. -/
import Derived.IntWalk
namespace Go.Proofs.Ytcgdedcgncjplaa
open Go.RowKit

theorem w64_eq {x y : Int} (k : Int) (h : x - y = 18446744073709551616 * k) : wrap64 x = wrap64 y := by
  unfold wrap64; omega
theorem w64_ex (x : Int) : ∃ k : Int, wrap64 x = x - 18446744073709551616 * k := by
  unfold wrap64
  exact ⟨(x + 9223372036854775808) / 18446744073709551616, by omega⟩
theorem w64_w (x : Int) : wrap64 (wrap64 x) = wrap64 x := by
  obtain ⟨k, h⟩ := w64_ex x
  exact w64_eq (-k) (by rw [h]; grind)
theorem w64_addl (x y : Int) : wrap64 (wrap64 x + y) = wrap64 (x + y) := by
  obtain ⟨k, h⟩ := w64_ex x
  exact w64_eq (-k) (by rw [h]; grind)
theorem w64_addr (x y : Int) : wrap64 (x + wrap64 y) = wrap64 (x + y) := by
  obtain ⟨k, h⟩ := w64_ex y
  exact w64_eq (-k) (by rw [h]; grind)
theorem w64_subl (x y : Int) : wrap64 (wrap64 x - y) = wrap64 (x - y) := by
  obtain ⟨k, h⟩ := w64_ex x
  exact w64_eq (-k) (by rw [h]; grind)
theorem w64_subr (x y : Int) : wrap64 (x - wrap64 y) = wrap64 (x - y) := by
  obtain ⟨k, h⟩ := w64_ex y
  exact w64_eq k (by rw [h]; grind)
theorem w64_mull (x y : Int) : wrap64 (wrap64 x * y) = wrap64 (x * y) := by
  obtain ⟨k, h⟩ := w64_ex x
  exact w64_eq (-k * y) (by rw [h]; grind)
theorem w64_mulr (x y : Int) : wrap64 (x * wrap64 y) = wrap64 (x * y) := by
  obtain ⟨k, h⟩ := w64_ex y
  exact w64_eq (-k * x) (by rw [h]; grind)
theorem w64_neg (x : Int) : wrap64 (-wrap64 x) = wrap64 (-x) := by
  obtain ⟨k, h⟩ := w64_ex x
  exact w64_eq k (by rw [h]; grind)
end Go.Proofs.Ytcgdedcgncjplaa
