/- Lists of ints and arrays of vectors among a row's arguments, opened. -/
import Derived.Test.YtblnpelbklfloaaVOpen
import Derived.Test.YtblnpelbklfloaaVGen
namespace Go.Proofs.Ytblnpelbklfloaa
open Go.ChangeShapes Go.WideShapes Go.ChangeAt Go.RowKit Go.Joins Go.Deep
namespace Row
theorem cellsA : Try.prog.cellsOf 51 = 9 := by kernel_rfl
section
variable {H : Type} {enc : TypeId × Value → H} {W : World}
/-- a slice of ints in a cell -/
theorem lst_cell {n : Nat} {c : Value} {y : DataW H × List MemPlace} (h : DataW.trod enc Try.prog W 0 (fun _ => true) true n 24 [c] = some y) :
    ∃ (a : Option Addr) (L k : Nat), c = .slice a L k ∧ L ≤ 9223372036854775807 ∧ Lst W a L W.heap.size ∧ L ≤ k ∧ (a = none → L = 0 ∧ k = 0) := by
  rcases open_ints Try.underlying24 Try.underlying3 cellsI h with ⟨hcs, _⟩ | ⟨a, L, k, zs, hcs, _, hl, hm, hlen, _, hcell, _⟩
  · simp only [List.cons.injEq, and_true] at hcs
    exact ⟨none, 0, 0, hcs, by omega, fun j hj => by omega, by omega, fun _ => ⟨rfl, rfl⟩⟩
  · simp only [List.cons.injEq, and_true] at hcs
    unfold maxLen at hm
    simp only [if_true] at hlen
    obtain ⟨b, off, spot⟩ := a
    refine ⟨_, L, k, hcs, by omega, fun j hj => ?_, hl, fun e => by cases e⟩
    have hspot : spot = none := by simpa [Addr.add] using World.cell?_spot (hcell 0 (by omega))
    subst hspot
    have h := hcell j (by omega)
    rw [show (⟨b, off, none⟩ : Addr).add j = ⟨b, off + j, none⟩ from by
      rcases Nat.eq_zero_or_pos j with rfl | hp
      · rfl
      · simp [Addr.add, Nat.ne_of_gt hp]] at h
    exact ⟨b, off, _, rfl, cellLt h, h⟩
set_option maxRecDepth 100000 in
theorem open_lst {r : Reach} {b0 : Nat} {v : Value} {d : DataW H} {p : List MemPlace} (hv : Value.okWide Try.prog W r b0 24 v) (h : DataW.Trod enc Try.prog W 0 (fun _ => true) true 24 v d p) :
    ∃ (a : Option Addr) (L k : Nat), v = .slice a L k ∧ L ≤ 9223372036854775807 ∧ Lst W a L W.heap.size ∧ L ≤ k ∧ (a = none → L = 0 ∧ k = 0) := by
  obtain ⟨a, n, c, rfl⟩ := okWide_slice Try.underlying24 hv
  obtain ⟨fuel, hf⟩ := h
  exact lst_cell (c := .slice a n c) (by simpa only [Value.cells] using hf)
set_option maxRecDepth 100000 in
theorem open_three {r : Reach} {b0 : Nat} {v : Value} {d : DataW H} {p : List MemPlace} (hv : Value.okWide Try.prog W r b0 51 v) (h : DataW.Trod enc Try.prog W 0 (fun _ => true) true 51 v d p) :
    ∃ r0 r1 r2 r3 r4 r5 r6 r7 r8 : Int, v = .agg #[.int .i64 r0, .int .i64 r1, .int .i64 r2, .int .i64 r3, .int .i64 r4, .int .i64 r5, .int .i64 r6, .int .i64 r7, .int .i64 r8] := by
  obtain ⟨cs, rfl, hsz⟩ := okWide_array Try.underlying51 hv
  obtain ⟨c0, c1, c2, c3, c4, c5, c6, c7, c8, rfl⟩ : ∃ c0 c1 c2 c3 c4 c5 c6 c7 c8, cs = #[c0, c1, c2, c3, c4, c5, c6, c7, c8] := by
    have h4 := hsz.trans cellsA
    obtain ⟨l⟩ := cs
    match l, h4 with
    | [c0, c1, c2, c3, c4, c5, c6, c7, c8], _ => exact ⟨c0, c1, c2, c3, c4, c5, c6, c7, c8, rfl⟩
  obtain ⟨fuel, hf⟩ := h
  obtain ⟨y0, y1, y2, n, h0, h1, h2⟩ := trod_array33 Try.underlying51 cellsV (c0 := c0) (c1 := c1) (c2 := c2) (c3 := c3) (c4 := c4) (c5 := c5) (c6 := c6) (c7 := c7) (c8 := c8) (by simpa only [Value.cells] using hf)
  obtain ⟨x0, x1, x2, rfl, rfl, rfl, -, -, -⟩ := vec_cells h0
  obtain ⟨x3, x4, x5, rfl, rfl, rfl, -, -, -⟩ := vec_cells h1
  obtain ⟨x6, x7, x8, rfl, rfl, rfl, -, -, -⟩ := vec_cells h2
  exact ⟨x0, x1, x2, x3, x4, x5, x6, x7, x8, rfl⟩
end
end Row
end Go.Proofs.Ytblnpelbklfloaa
