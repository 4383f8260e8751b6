/- Arrays of ints, of bytes and of lists among a row's arguments, opened. -/
import Derived.Test.YtblnpelbklfloaaVOpl
namespace Go.Proofs.Ytblnpelbklfloaa
open Go.ChangeShapes Go.WideShapes Go.ChangeAt Go.RowKit Go.Joins Go.Deep
namespace Row
theorem cellsI3 : Try.prog.cellsOf 40 = 3 := by kernel_rfl
theorem cellsB : Try.prog.cellsOf 5 = 1 := by kernel_rfl
theorem cellsB3 : Try.prog.cellsOf 58 = 3 := by kernel_rfl
theorem cellsL : Try.prog.cellsOf 24 = 1 := by kernel_rfl
theorem cellsL2 : Try.prog.cellsOf 60 = 2 := by kernel_rfl
section
variable {H : Type} {enc : TypeId × Value → H} {W : World}
set_option maxRecDepth 100000 in
theorem open_int3 {r : Reach} {b0 : Nat} {v : Value} {d : DataW H} {p : List MemPlace} (hv : Value.okWide Try.prog W r b0 40 v) (h : DataW.Trod enc Try.prog W 0 (fun _ => true) true 40 v d p) :
    ∃ r0 r1 r2 : Int, v = .agg #[.int .i64 r0, .int .i64 r1, .int .i64 r2] ∧ I64 r0 ∧ I64 r1 ∧ I64 r2 := by
  obtain ⟨cs, rfl, hsz⟩ := okWide_array Try.underlying40 hv
  obtain ⟨c0, c1, c2, rfl⟩ := Go.Joins.array3 (hsz.trans cellsI3)
  obtain ⟨fuel, hf⟩ := h
  obtain ⟨y0, y1, y2, n, _, h0, h1, h2⟩ := trod_array3 Try.underlying40 cellsI (c0 := c0) (c1 := c1) (c2 := c2) (by simpa only [Value.cells] using hf)
  obtain ⟨x0, rfl, i0⟩ := int_cell h0
  obtain ⟨x1, rfl, i1⟩ := int_cell h1
  obtain ⟨x2, rfl, i2⟩ := int_cell h2
  exact ⟨x0, x1, x2, rfl, i0, i1, i2⟩
theorem byte_wf {x : Int} (h : (Lit.int .u8 x).wf = true) : 0 ≤ x ∧ x ≤ 255 := by
  simp [Lit.wf, IntKind.min, IntKind.max, IntKind.signed, IntKind.bits] at h
  omega
/-- a byte in a cell -/
theorem byte_cell {n : Nat} {c : Value} {y : DataW H × List MemPlace} (h : DataW.trod enc Try.prog W 0 (fun _ => true) true n 5 [c] = some y) : ∃ x, c = .int .u8 x ∧ 0 ≤ x ∧ x ≤ 255 := by
  obtain ⟨x, e0, -, w0⟩ := DataW.trod_int Try.underlying5 h
  simp only [List.cons.injEq, and_true] at e0
  exact ⟨x, e0, byte_wf w0⟩
set_option maxRecDepth 100000 in
theorem open_bytes3 {r : Reach} {b0 : Nat} {v : Value} {d : DataW H} {p : List MemPlace} (hv : Value.okWide Try.prog W r b0 58 v) (h : DataW.Trod enc Try.prog W 0 (fun _ => true) true 58 v d p) :
    ∃ r0 r1 r2 : Int, v = .agg #[.int .u8 r0, .int .u8 r1, .int .u8 r2] ∧ (0 ≤ r0 ∧ r0 ≤ 255) ∧ (0 ≤ r1 ∧ r1 ≤ 255) ∧ (0 ≤ r2 ∧ r2 ≤ 255) := by
  obtain ⟨cs, rfl, hsz⟩ := okWide_array Try.underlying58 hv
  obtain ⟨c0, c1, c2, rfl⟩ := Go.Joins.array3 (hsz.trans cellsB3)
  obtain ⟨fuel, hf⟩ := h
  obtain ⟨y0, y1, y2, n, _, h0, h1, h2⟩ := trod_array3 Try.underlying58 cellsB (c0 := c0) (c1 := c1) (c2 := c2) (by simpa only [Value.cells] using hf)
  obtain ⟨x0, rfl, i0⟩ := byte_cell h0
  obtain ⟨x1, rfl, i1⟩ := byte_cell h1
  obtain ⟨x2, rfl, i2⟩ := byte_cell h2
  exact ⟨x0, x1, x2, rfl, i0, i1, i2⟩
set_option maxRecDepth 100000 in
theorem open_lists2 {r : Reach} {b0 : Nat} {v : Value} {d : DataW H} {p : List MemPlace} (hv : Value.okWide Try.prog W r b0 60 v) (h : DataW.Trod enc Try.prog W 0 (fun _ => true) true 60 v d p) :
    ∃ (a a' : Option Addr) (L L' k k' : Nat), v = .agg #[.slice a L k, .slice a' L' k'] ∧ (L ≤ 9223372036854775807 ∧ Lst W a L W.heap.size ∧ L ≤ k ∧ (a = none → L = 0 ∧ k = 0)) ∧ (L' ≤ 9223372036854775807 ∧ Lst W a' L' W.heap.size ∧ L' ≤ k' ∧ (a' = none → L' = 0 ∧ k' = 0)) := by
  obtain ⟨cs, rfl, hsz⟩ := okWide_array Try.underlying60 hv
  obtain ⟨c0, c1, rfl⟩ := Go.Joins.array2 (hsz.trans cellsL2)
  obtain ⟨fuel, hf⟩ := h
  obtain ⟨y0, y1, n, _, h0, h1⟩ := trod_array2 Try.underlying60 cellsL (c0 := c0) (c1 := c1) (by simpa only [Value.cells] using hf)
  obtain ⟨a, L, k, rfl, g⟩ := lst_cell h0
  obtain ⟨a', L', k', rfl, g'⟩ := lst_cell h1
  exact ⟨a, a', L, L', k, k', rfl, g, g'⟩
end
end Row
end Go.Proofs.Ytblnpelbklfloaa
