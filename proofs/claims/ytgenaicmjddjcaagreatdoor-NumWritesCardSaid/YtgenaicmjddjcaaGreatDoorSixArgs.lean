/- One list of ints, one Num among a row's arguments, opened; what the row's list gives of the syntax error's variable. -/
import Derived.Test.YtgenaicmjddjcaaGreatDoorSixNums
import Derived.Test.YtgenaicmjddjcaaGreatDoorPTxB
import Derived.LaidLaws
namespace Go.Proofs.YtgenaicmjddjcaaGreatDoor
open Go.ChangeShapes Go.WideShapes Go.ChangeAt Go.RowKit Go.Lib
namespace Six
set_option maxRecDepth 100000 in
theorem open_list {H : Type} {enc : TypeId × Value → H} {W : World} {r : Reach} {b0 : Nat} {v : Value} {d : DataW H} {p : List MemPlace} (hv : Value.okWide Tryz.prog W r b0 22 v) (h : DataW.Trod enc Tryz.prog W 0 (fun _ => true) true 22 v d p) :
 ∃ (x : Option Addr) (L k : Nat) (g : Nat → Int), v = .slice x L k ∧ L ≤ 9223372036854775807 ∧ Ints W x L g := by
 obtain ⟨a, n, c, rfl⟩ := okWide_slice Tryz.underlying22 hv
 obtain ⟨fuel, hf⟩ := h
 exact ints_cell (c := .slice a n c) (by simpa only [Value.cells] using hf)
set_option maxRecDepth 100000 in
theorem open_num {H : Type} {enc : TypeId × Value → H} {W : World} {r : Reach} {b0 : Nat} {v : Value} {d : DataW H} {p : List MemPlace} (hv : Value.okWide Tryz.prog W r b0 25 v) (h : DataW.Trod enc Tryz.prog W 0 (fun _ => true) true 25 v d p) :
 ∃ (s : Bool) (a : Option Addr) (L k : Nat), v = .agg #[.bool s, .slice a L k] ∧ L ≤ k ∧ (a = none → L = 0 ∧ k = 0) ∧ Raw W a L := by
 obtain ⟨cs, rfl, hsz⟩ := okWide_struct Tryz.underlying25 hv
 obtain ⟨c0, c1, rfl⟩ := Go.Joins.array2 (hsz.trans cellsN)
 obtain ⟨fuel, hf⟩ := h
 obtain ⟨s, a, L, k, rfl, rfl, h1, h2, h3⟩ := num_cells (c0 := c0) (c1 := c1) (by simpa only [Value.cells] using hf)
 exact ⟨s, a, L, k, rfl, h1, h2, h3⟩
theorem gSynType : (Tryz.prog.globals[2]?).map (·.type) = some 85 := by kernel_rfl
theorem star : "*" ++ "errors.errorString" = "*errors.errorString" := by decide
theorem rowErr (u : TypeId) (h : Tryz.prog.typeName? 3 u = some "*errors.errorString") : u = 183 :=
 typeName_ptr_named (nm := "errors.errorString") (by rw [star]; kernel_rfl) (by kernel_rfl) (by decide) u (by rw [star]; exact h)
theorem cellsEs : Tryz.prog.cellsOf 185 = 1 := by kernel_rfl
theorem cellsStr : Tryz.prog.cellsOf 9 = 1 := by kernel_rfl
theorem syn {W : World} (h : laidMet Tryz.prog Rows.numWritesRow.laid W) : Syn W := by
 have h2 := laidMet.tail (laidMet.tail (laidMet.tail (laidMet.tail h)))
 obtain ⟨a, s, hv, -⟩ := laid_sentinel h2 gSyn gSynType Tryz.underlying85 rowErr Tryz.underlying183 Tryz.underlying185 rfl rfl Tryz.underlying9 cellsEs cellsStr
 exact ⟨_, _, hv⟩
end Six
end Go.Proofs.YtgenaicmjddjcaaGreatDoor
