/- What the rows of this seat share: the table that the row's list gives, the witness world, arguments opened. -/
import Derived.Test.YtikepnocefdmnaaGreatDoorCards
import Derived.Test.YtikepnocefdmnaaGreatDoorTie
import Derived.Test.YtikepnocefdmnaaGreatDoorPRef
import Derived.Test.YtikepnocefdmnaaGreatDoorPText
import Derived.WalkKit
import Derived.ProofKit
import Derived.OpenShut
import Derived.WideShapes
import Derived.Deep.DeepHandedRow
import Derived.Deep.DeepWitnessRowRef
import Derived.Lib.LaidTab
import Derived.Lib.LaidIn
import Derived.Lib.SmallJoins
import Derived.Laws.IdiomArrays
import Derived.ChangeSlices
import Derived.Stop.LaidErr
import Derived.Test.YtikepnocefdmnaaGreatDoorPTxB
import Derived.LaidLaws
import Derived.Carry
import Derived.JoinedOf
import Derived.JoinedAt
import Derived.RowKit3
namespace Go.Proofs.YtikepnocefdmnaaGreatDoor
open Go.ChangeShapes Go.WideShapes Go.ChangeAt Go.RowKit Go.Lib

namespace Six
theorem own : ownKnob Tryz.prog.godebug = none := by kernel_rfl
theorem gTab : Tryz.prog.globalNamed "internal/strconv.uint64pow10" = some 1 := by kernel_rfl
theorem gTabType : (Tryz.prog.globals[1]?).map (·.type) = some 164 := by kernel_rfl
theorem cellsT : Tryz.prog.cellsOf 164 = 20 := by kernel_rfl
theorem cellsE : Tryz.prog.cellsOf 69 = 1 := by kernel_rfl
theorem tabEq : (Rows.laid_internal_strconv_uint64pow10 : DataW Unit) = Lib.tabData .u64 Lib.pow10Tab := by kernel_rfl
theorem laidOut : laidOutB Tryz.prog = true := by kernel_rfl

/-- what the row's list gives: the table's cells -/
theorem table {W : World} (h : laidMet Tryz.prog Rows.ratioRoundsRow.laid W) : Pow10 W := by
 have h2 := (laidMet.tail (laidMet.tail h))
 rw [tabEq] at h2
 exact Lib.tabIs_of_head gTab gTabType Tryz.underlying164 Tryz.underlying69 cellsE cellsT h2

/-- the witness: the settled world, two blocks more (the two errors' structs), the five variables as their initialisers lay them -/
noncomputable def laidWorld (os : Os) : World :=
 let N := (World.settled Tryz.prog os).heap.size
 let w0 := World.holding Tryz.prog os ⟨#[.cells #[.string ⟨#[118, 97, 108, 117, 101, 32, 111, 117, 116, 32, 111, 102, 32, 114, 97, 110, 103, 101]⟩] 183, .cells #[.string ⟨#[105, 110, 118, 97, 108, 105, 100, 32, 115, 121, 110, 116, 97, 120]⟩] 183], #[], []⟩
 let put (h : Array Obj) (g : Nat) (cs : Array Value) : Array Obj := h.modify g fun
  | .cells _ t frozen => .cells cs t frozen
  | o => o
 let h1 := put w0.heap 1 (Lib.pow10Tab.map fun z => Value.int .u64 z).toArray
 let h2 := put h1 5 #[.iface 181 (.pointer (some ⟨N, 0, none⟩))]
 let h3 := put h2 4 #[.iface 181 (.pointer (some ⟨N + 1, 0, none⟩))]
 let h4 := put h3 6 #[.int .u8 0, .int .u8 1, .int .u8 28, .int .u8 2, .int .u8 29, .int .u8 14, .int .u8 24, .int .u8 3, .int .u8 30, .int .u8 22, .int .u8 20, .int .u8 15, .int .u8 25, .int .u8 17, .int .u8 4, .int .u8 8, .int .u8 31, .int .u8 27, .int .u8 13, .int .u8 23, .int .u8 21, .int .u8 19, .int .u8 16, .int .u8 7, .int .u8 26, .int .u8 12, .int .u8 18, .int .u8 6, .int .u8 11, .int .u8 5, .int .u8 10, .int .u8 9]
 let h5 := put h4 7 #[.int .u8 0, .int .u8 1, .int .u8 56, .int .u8 2, .int .u8 57, .int .u8 49, .int .u8 28, .int .u8 3, .int .u8 61, .int .u8 58, .int .u8 42, .int .u8 50, .int .u8 38, .int .u8 29, .int .u8 17, .int .u8 4, .int .u8 62, .int .u8 47, .int .u8 59, .int .u8 36, .int .u8 45, .int .u8 43, .int .u8 51, .int .u8 22, .int .u8 53, .int .u8 39, .int .u8 33, .int .u8 30, .int .u8 24, .int .u8 18, .int .u8 12, .int .u8 5, .int .u8 63, .int .u8 55, .int .u8 48, .int .u8 27, .int .u8 60, .int .u8 41, .int .u8 37, .int .u8 16, .int .u8 46, .int .u8 35, .int .u8 44, .int .u8 21, .int .u8 52, .int .u8 32, .int .u8 23, .int .u8 11, .int .u8 54, .int .u8 26, .int .u8 40, .int .u8 15, .int .u8 34, .int .u8 20, .int .u8 31, .int .u8 10, .int .u8 25, .int .u8 14, .int .u8 19, .int .u8 9, .int .u8 13, .int .u8 8, .int .u8 7, .int .u8 6]
 { w0 with heap := h5 }

theorem laid_met (os : Os) (args : Array Value) : laidMet Tryz.prog Rows.ratioRoundsRow.laid ((laidWorld os).forCall (fun _ _ => 0) ⟨#[], args, []⟩).memory :=
 laidMet_of_run' 8 (by kernel_rfl) (by kernel_rfl)

section
variable {H : Type} {enc : TypeId × Value → H} {P : Program} {w W : World} {r : Reach} {base b0 : Nat} {spare : Nat → Bool} {held : Bool} {t : TypeId} {v : Value}
theorem okWide_array {n : Nat} {e : TypeId} (ht : P.underlying t = some (.array n e)) (h : Value.okWide P w r base t v) : ∃ cs, v = .agg cs ∧ cs.size = P.cellsOf t := by
 simp only [Value.okWide, ht] at h
 obtain ⟨cs, h1, h2, _⟩ := h
 exact ⟨cs, h1, h2⟩
end
theorem cellsI : Tryz.prog.cellsOf 3 = 1 := by kernel_rfl
theorem cellsL : Tryz.prog.cellsOf 22 = 1 := by kernel_rfl
/-- a slice of ints in a cell -/
theorem ints_cell {H : Type} {enc : TypeId × Value → H} {W : World} {n : Nat} {c : Value} {y : DataW H × List MemPlace} (h : DataW.trod enc Tryz.prog W 0 (fun _ => true) true n 22 [c] = some y) :
 ∃ (a : Option Addr) (L k : Nat) (g : Nat → Int), c = .slice a L k ∧ L ≤ 9223372036854775807 ∧ Ints W a L g := by
 rcases open_ints Tryz.underlying22 Tryz.underlying3 cellsI h with ⟨hcs, _⟩ | ⟨a, L, k, zs, hcs, _, hl, hm, hlen, _, hcell, _⟩
 · simp only [List.cons.injEq, and_true] at hcs
   exact ⟨none, 0, 0, fun _ => 0, hcs, by omega, .inl rfl⟩
 · simp only [List.cons.injEq, and_true] at hcs
   unfold maxLen at hm
   simp only [if_true] at hlen
   obtain ⟨b, off, spot⟩ := a
   refine ⟨_, L, k, fun j => zs.getD j 0, hcs, by omega, ?_⟩
   by_cases hL : L = 0
   · exact .inl hL
   · have hspot : spot = none := by simpa [Addr.add] using World.cell?_spot (hcell 0 (by omega))
     subst hspot
     exact .inr ⟨b, off, rfl, fun j hj => by
      have h := hcell j (by omega)
      rwa [show (⟨b, off, none⟩ : Addr).add j = ⟨b, off + j, none⟩ from by
       rcases Nat.eq_zero_or_pos j with rfl | hp
       · rfl
       · simp [Addr.add, Nat.ne_of_gt hp]] at h⟩
theorem cellsA3 : Tryz.prog.cellsOf 52 = 3 := by kernel_rfl
set_option maxRecDepth 100000 in
theorem open_three {H : Type} {enc : TypeId × Value → H} {W : World} {r : Reach} {b0 : Nat} {v : Value} {d : DataW H} {p : List MemPlace} (hv : Value.okWide Tryz.prog W r b0 52 v) (h : DataW.Trod enc Tryz.prog W 0 (fun _ => true) true 52 v d p) :
 ∃ (x0 x1 x2 : Option Addr) (L0 L1 L2 k0 k1 k2 : Nat) (g0 g1 g2 : Nat → Int), v = .agg #[.slice x0 L0 k0, .slice x1 L1 k1, .slice x2 L2 k2] ∧ L0 ≤ 9223372036854775807 ∧ L1 ≤ 9223372036854775807 ∧ L2 ≤ 9223372036854775807 ∧ Ints W x0 L0 g0 ∧ Ints W x1 L1 g1 ∧ Ints W x2 L2 g2 := by
 obtain ⟨cs, rfl, hsz⟩ := okWide_array Tryz.underlying52 hv
 obtain ⟨c0, c1, c2, rfl⟩ := Go.Joins.array3 (hsz.trans cellsA3)
 obtain ⟨fuel, hf⟩ := h
 obtain ⟨y0, y1, y2, n, _, h0, h1, h2⟩ := trod_array3 Tryz.underlying52 cellsL (c0 := c0) (c1 := c1) (c2 := c2) (by simpa only [Value.cells] using hf)
 obtain ⟨x0, L0, k0, g0, rfl, b0, i0⟩ := ints_cell h0
 obtain ⟨x1, L1, k1, g1, rfl, b1, i1⟩ := ints_cell h1
 obtain ⟨x2, L2, k2, g2, rfl, b2, i2⟩ := ints_cell h2
 exact ⟨x0, x1, x2, L0, L1, L2, k0, k1, k2, g0, g1, g2, rfl, b0, b1, b2, i0, i1, i2⟩
/-- a slice of ints in a cell, its capacity too -/
theorem ints_cellc {H : Type} {enc : TypeId × Value → H} {W : World} {n : Nat} {c : Value} {y : DataW H × List MemPlace} (h : DataW.trod enc Tryz.prog W 0 (fun _ => true) true n 22 [c] = some y) :
 ∃ (a : Option Addr) (L k : Nat) (g : Nat → Int), c = .slice a L k ∧ L ≤ 9223372036854775807 ∧ Ints W a L g ∧ L ≤ k ∧ (a = none → L = 0 ∧ k = 0) := by
 rcases open_ints Tryz.underlying22 Tryz.underlying3 cellsI h with ⟨hcs, _⟩ | ⟨a, L, k, zs, hcs, _, hl, hm, hlen, _, hcell, _⟩
 · simp only [List.cons.injEq, and_true] at hcs
   exact ⟨none, 0, 0, fun _ => 0, hcs, by omega, .inl rfl, by omega, fun _ => ⟨rfl, rfl⟩⟩
 · simp only [List.cons.injEq, and_true] at hcs
   unfold maxLen at hm
   simp only [if_true] at hlen
   obtain ⟨b, off, spot⟩ := a
   refine ⟨_, L, k, fun j => zs.getD j 0, hcs, by omega, ?_, hl, fun e => by cases e⟩
   by_cases hL : L = 0
   · exact .inl hL
   · have hspot : spot = none := by simpa [Addr.add] using World.cell?_spot (hcell 0 (by omega))
     subst hspot
     exact .inr ⟨b, off, rfl, fun j hj => by
      have h := hcell j (by omega)
      rwa [show (⟨b, off, none⟩ : Addr).add j = ⟨b, off + j, none⟩ from by
       rcases Nat.eq_zero_or_pos j with rfl | hp
       · rfl
       · simp [Addr.add, Nat.ne_of_gt hp]] at h⟩
set_option maxRecDepth 100000 in
theorem open_listc {H : Type} {enc : TypeId × Value → H} {W : World} {r : Reach} {b0 : Nat} {v : Value} {d : DataW H} {p : List MemPlace} (hv : Value.okWide Tryz.prog W r b0 22 v) (h : DataW.Trod enc Tryz.prog W 0 (fun _ => true) true 22 v d p) :
 ∃ (x : Option Addr) (L k : Nat) (g : Nat → Int), v = .slice x L k ∧ L ≤ 9223372036854775807 ∧ Ints W x L g ∧ L ≤ k ∧ (x = none → L = 0 ∧ k = 0) := by
 obtain ⟨a, n, c, rfl⟩ := okWide_slice Tryz.underlying22 hv
 obtain ⟨fuel, hf⟩ := h
 exact ints_cellc (c := .slice a n c) (by simpa only [Value.cells] using hf)
theorem gSynType : (Tryz.prog.globals[4]?).map (·.type) = some 101 := by kernel_rfl
theorem star : "*" ++ "errors.errorString" = "*errors.errorString" := by decide
theorem rowErr (u : TypeId) (h : Tryz.prog.typeName? 3 u = some "*errors.errorString") : u = 181 :=
 typeName_ptr_named (nm := "errors.errorString") (by rw [star]; kernel_rfl) (by kernel_rfl) (by decide) u (by rw [star]; exact h)
theorem cellsEs : Tryz.prog.cellsOf 183 = 1 := by kernel_rfl
theorem cellsStr : Tryz.prog.cellsOf 9 = 1 := by kernel_rfl
/-- what the row's list gives: the syntax error -/
theorem syn {W : World} (h : laidMet Tryz.prog Rows.ratioRoundsRow.laid W) : Syn W := by
 have h2 := laidMet.tail (laidMet.tail (laidMet.tail (laidMet.tail h)))
 obtain ⟨a, s, hv, -⟩ := laid_sentinel h2 gSyn gSynType Tryz.underlying101 rowErr Tryz.underlying181 Tryz.underlying183 rfl rfl Tryz.underlying9 cellsEs cellsStr
 exact ⟨_, _, hv⟩
end Six
end Go.Proofs.YtikepnocefdmnaaGreatDoor
