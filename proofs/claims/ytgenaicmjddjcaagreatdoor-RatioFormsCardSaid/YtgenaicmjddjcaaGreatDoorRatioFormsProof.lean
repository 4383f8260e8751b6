/- Proved: the law RatioForms returns true for every list of ints, every Ratio, every Frac and every int, and the arguments read behind the call as before (the row), and what the row lists is tied to the text of the program (the card). Conditions: none on the arguments; the five package variables that the row lists (three tables, two error values) read as their initialisers lay them, which is the given statement's own condition. -/
import Derived.Test.YtgenaicmjddjcaaGreatDoorCards
import Derived.Test.YtgenaicmjddjcaaGreatDoorTie
import Derived.Test.YtgenaicmjddjcaaGreatDoorPRef
import Derived.Test.YtgenaicmjddjcaaGreatDoorPText
import Derived.WalkKit
import Derived.ProofKit
import Derived.OpenShut
import Derived.WideShapes
import Derived.Deep.DeepHandedRow
import Derived.Deep.DeepWitnessRowRef
import Derived.Lib.LaidTab
import Derived.Lib.LaidIn
import Derived.Lib.SmallJoins
import Derived.Laws.IdiomArrays
import Derived.ChangeSlices
import Derived.Stop.LaidErr
import Derived.Test.YtgenaicmjddjcaaGreatDoorPTxB
import Derived.LaidLaws
import Derived.Carry
import Derived.JoinedOf
import Derived.JoinedAt
import Derived.RowKit3
import Derived.Test.YtgenaicmjddjcaaGreatDoorPRf
import Derived.ChangeSame
import Derived.Test.YtgenaicmjddjcaaGreatDoorLwG
namespace Go.Proofs.YtgenaicmjddjcaaGreatDoor
open Go.ChangeShapes Go.WideShapes Go.ChangeAt Go.RowKit Go.Lib

namespace Six
theorem own : ownKnob Tryz.prog.godebug = none := by kernel_rfl
theorem gTab : Tryz.prog.globalNamed "internal/strconv.uint64pow10" = some 0 := by kernel_rfl
theorem gTabType : (Tryz.prog.globals[0]?).map (·.type) = some 162 := by kernel_rfl
theorem cellsT : Tryz.prog.cellsOf 162 = 20 := by kernel_rfl
theorem cellsE : Tryz.prog.cellsOf 77 = 1 := by kernel_rfl
theorem tabEq : (Rows.laid_internal_strconv_uint64pow10 : DataW Unit) = Lib.tabData .u64 Lib.pow10Tab := by kernel_rfl
theorem laidOut : laidOutB Tryz.prog = true := by kernel_rfl

theorem table {W : World} (h : laidMet Tryz.prog Rows.ratioFieldRow.laid W) : Pow10 W := by
 have h2 := (laidMet.tail (laidMet.tail h))
 rw [tabEq] at h2
 exact Lib.tabIs_of_head gTab gTabType Tryz.underlying162 Tryz.underlying77 cellsE cellsT h2

noncomputable def laidWorld (os : Os) : World :=
 let N := (World.settled Tryz.prog os).heap.size
 let w0 := World.holding Tryz.prog os ⟨#[.cells #[.string ⟨#[118, 97, 108, 117, 101, 32, 111, 117, 116, 32, 111, 102, 32, 114, 97, 110, 103, 101]⟩] 185, .cells #[.string ⟨#[105, 110, 118, 97, 108, 105, 100, 32, 115, 121, 110, 116, 97, 120]⟩] 185], #[], []⟩
 let put (h : Array Obj) (g : Nat) (cs : Array Value) : Array Obj := h.modify g fun
  | .cells _ t frozen => .cells cs t frozen
  | o => o
 let h1 := put w0.heap 0 (Lib.pow10Tab.map fun z => Value.int .u64 z).toArray
 let h2 := put h1 3 #[.iface 183 (.pointer (some ⟨N, 0, none⟩))]
 let h3 := put h2 2 #[.iface 183 (.pointer (some ⟨N + 1, 0, none⟩))]
 let h4 := put h3 6 #[.int .u8 0, .int .u8 1, .int .u8 28, .int .u8 2, .int .u8 29, .int .u8 14, .int .u8 24, .int .u8 3, .int .u8 30, .int .u8 22, .int .u8 20, .int .u8 15, .int .u8 25, .int .u8 17, .int .u8 4, .int .u8 8, .int .u8 31, .int .u8 27, .int .u8 13, .int .u8 23, .int .u8 21, .int .u8 19, .int .u8 16, .int .u8 7, .int .u8 26, .int .u8 12, .int .u8 18, .int .u8 6, .int .u8 11, .int .u8 5, .int .u8 10, .int .u8 9]
 let h5 := put h4 7 #[.int .u8 0, .int .u8 1, .int .u8 56, .int .u8 2, .int .u8 57, .int .u8 49, .int .u8 28, .int .u8 3, .int .u8 61, .int .u8 58, .int .u8 42, .int .u8 50, .int .u8 38, .int .u8 29, .int .u8 17, .int .u8 4, .int .u8 62, .int .u8 47, .int .u8 59, .int .u8 36, .int .u8 45, .int .u8 43, .int .u8 51, .int .u8 22, .int .u8 53, .int .u8 39, .int .u8 33, .int .u8 30, .int .u8 24, .int .u8 18, .int .u8 12, .int .u8 5, .int .u8 63, .int .u8 55, .int .u8 48, .int .u8 27, .int .u8 60, .int .u8 41, .int .u8 37, .int .u8 16, .int .u8 46, .int .u8 35, .int .u8 44, .int .u8 21, .int .u8 52, .int .u8 32, .int .u8 23, .int .u8 11, .int .u8 54, .int .u8 26, .int .u8 40, .int .u8 15, .int .u8 34, .int .u8 20, .int .u8 31, .int .u8 10, .int .u8 25, .int .u8 14, .int .u8 19, .int .u8 9, .int .u8 13, .int .u8 8, .int .u8 7, .int .u8 6]
 { w0 with heap := h5 }

theorem laid_met (os : Os) (args : Array Value) : laidMet Tryz.prog Rows.ratioFieldRow.laid ((laidWorld os).forCall (fun _ _ => 0) ⟨#[], args, []⟩).memory :=
 laidMet_of_run' 8 (by kernel_rfl) (by kernel_rfl)

section
variable {H : Type} {enc : TypeId × Value → H} {P : Program} {w W : World} {r : Reach} {base b0 : Nat} {spare : Nat → Bool} {held : Bool} {t : TypeId} {v : Value}
end
theorem cellsI : Tryz.prog.cellsOf 3 = 1 := by kernel_rfl
theorem ints_cell {H : Type} {enc : TypeId × Value → H} {W : World} {n : Nat} {c : Value} {y : DataW H × List MemPlace} (h : DataW.trod enc Tryz.prog W 0 (fun _ => true) true n 22 [c] = some y) :
 ∃ (a : Option Addr) (L k : Nat) (g : Nat → Int), c = .slice a L k ∧ L ≤ 9223372036854775807 ∧ Ints W a L g := by
 rcases open_ints Tryz.underlying22 Tryz.underlying3 cellsI h with ⟨hcs, _⟩ | ⟨a, L, k, zs, hcs, _, hl, hm, hlen, _, hcell, _⟩
 · simp only [List.cons.injEq, and_true] at hcs
   exact ⟨none, 0, 0, fun _ => 0, hcs, by omega, .inl rfl⟩
 · simp only [List.cons.injEq, and_true] at hcs
   unfold maxLen at hm
   simp only [if_true] at hlen
   obtain ⟨b, off, spot⟩ := a
   refine ⟨_, L, k, fun j => zs.getD j 0, hcs, by omega, ?_⟩
   by_cases hL : L = 0
   · exact .inl hL
   · have hspot : spot = none := by simpa [Addr.add] using World.cell?_spot (hcell 0 (by omega))
     subst hspot
     exact .inr ⟨b, off, rfl, fun j hj => by
      have h := hcell j (by omega)
      rwa [show (⟨b, off, none⟩ : Addr).add j = ⟨b, off + j, none⟩ from by
       rcases Nat.eq_zero_or_pos j with rfl | hp
       · rfl
       · simp [Addr.add, Nat.ne_of_gt hp]] at h⟩
theorem gSynType : (Tryz.prog.globals[2]?).map (·.type) = some 85 := by kernel_rfl
theorem star : "*" ++ "errors.errorString" = "*errors.errorString" := by decide
theorem rowErr (u : TypeId) (h : Tryz.prog.typeName? 3 u = some "*errors.errorString") : u = 183 :=
 typeName_ptr_named (nm := "errors.errorString") (by rw [star]; kernel_rfl) (by kernel_rfl) (by decide) u (by rw [star]; exact h)
theorem cellsEs : Tryz.prog.cellsOf 185 = 1 := by kernel_rfl
theorem cellsStr : Tryz.prog.cellsOf 9 = 1 := by kernel_rfl
theorem syn {W : World} (h : laidMet Tryz.prog Rows.ratioFieldRow.laid W) : Syn W := by
 have h2 := laidMet.tail (laidMet.tail (laidMet.tail (laidMet.tail h)))
 obtain ⟨a, s, hv, -⟩ := laid_sentinel h2 gSyn gSynType Tryz.underlying85 rowErr Tryz.underlying183 Tryz.underlying185 rfl rfl Tryz.underlying9 cellsEs cellsStr
 exact ⟨_, _, hv⟩
end Six
end Go.Proofs.YtgenaicmjddjcaaGreatDoor

namespace Go.Proofs.YtgenaicmjddjcaaGreatDoor
open Go.ChangeShapes Go.WideShapes Go.ChangeAt Go.RowKit Go.Lib
namespace Six
theorem cellsU : Tryz.prog.cellsOf 68 = 1 := by kernel_rfl
theorem cellsD : Tryz.prog.cellsOf 23 = 1 := by kernel_rfl
theorem cellsN : Tryz.prog.cellsOf 25 = 2 := by kernel_rfl
theorem cellsB : Tryz.prog.cellsOf 4 = 1 := by kernel_rfl
section
variable {H : Type} {enc : TypeId × Value → H} {P : Program} {w : World} {base : Nat} {spare : Nat → Bool} {held : Bool}
theorem trod_bool_cell {t : TypeId} {fuel : Nat} {c : Value} {x : DataW H × List MemPlace} (ht : P.underlying t = some .bool) (h : DataW.trod enc P w base spare held fuel t [c] = some x) : ∃ s, c = .bool s := by
 cases fuel with
 | zero => simp [DataW.trod] at h
 | succ m =>
   unfold DataW.trod at h
   rw [ht] at h
   split at h <;> simp_all
theorem trod_two {t : TypeId} {f0 f1 : Field} {fuel : Nat} {c0 c1 : Value} {x : DataW H × List MemPlace} (ht : P.underlying t = some (.struct #[f0, f1])) (o0 : f0.offset = 0) (o1 : f1.offset = 1) (s0 : P.cellsOf f0.type = 1) (s1 : P.cellsOf f1.type = 1)
 (h : DataW.trod enc P w base spare held fuel t [c0, c1] = some x) : ∃ y0 y1 n, DataW.trod enc P w base spare held n f0.type [c0] = some y0 ∧ DataW.trod enc P w base spare held n f1.type [c1] = some y1 := by
 obtain ⟨y0, y1, n, _, _, h0, h1⟩ := trod_struct2 ht h
 rw [o0, s0] at h0
 rw [o1, s1] at h1
 exact ⟨y0, y1, n, h0, h1⟩
end
theorem digs_cell {H : Type} {enc : TypeId × Value → H} {W : World} {n : Nat} {c : Value} {y : DataW H × List MemPlace} (h : DataW.trod enc Tryz.prog W 0 (fun _ => true) true n 23 [c] = some y) :
 ∃ (a : Option Addr) (L k : Nat), c = .slice a L k ∧ L ≤ k ∧ (a = none → L = 0 ∧ k = 0) ∧ Raw W a L := by
 rcases open_ints Tryz.underlying23 Tryz.underlying68 cellsU h with ⟨hcs, _⟩ | ⟨a, L, k, zs, hcs, _, hl, hm, hlen, _, hcell, hwf⟩
 · simp only [List.cons.injEq, and_true] at hcs
   exact ⟨none, 0, 0, hcs, by omega, (fun _ => ⟨rfl, rfl⟩), fun _ => 0, .inl rfl, fun _ h => by omega⟩
 · simp only [List.cons.injEq, and_true] at hcs
   simp only [if_true] at hlen
   obtain ⟨b, off, spot⟩ := a
   have hz : ∀ j, j < zs.length → 0 ≤ zs.getD j 0 ∧ zs.getD j 0 < 4294967296 := fun j hj => by
    have hw := hwf (zs.getD j 0) (by rw [List.getD_eq_getElem?_getD, List.getElem?_eq_getElem hj]; exact List.getElem_mem hj)
    simp [Lit.wf, IntKind.min, IntKind.max, IntKind.signed, IntKind.bits] at hw
    simp only [List.getD_eq_getElem?_getD]
    omega
   refine ⟨_, L, k, hcs, hl, (fun e => by cases e), fun j => (zs.getD j 0).toNat, ?_, fun j hj => by have := hz j (by omega); show (zs.getD j 0).toNat < 4294967296; omega⟩
   by_cases hL : L = 0
   · exact .inl hL
   · have hspot : spot = none := by simpa [Addr.add] using World.cell?_spot (hcell 0 (by omega))
     subst hspot
     exact .inr ⟨b, off, rfl, fun j hj => by
      have h := hcell j (by omega)
      have h2 := hz j (by omega)
      rw [show (⟨b, off, none⟩ : Addr).add j = ⟨b, off + j, none⟩ from by
       rcases Nat.eq_zero_or_pos j with rfl | hp
       · rfl
       · simp [Addr.add, Nat.ne_of_gt hp]] at h
      rw [h]
      show _ = some (Value.int .u32 (((zs.getD j 0).toNat : Nat) : Int))
      rw [Int.toNat_of_nonneg h2.1]⟩
theorem num_cells {H : Type} {enc : TypeId × Value → H} {W : World} {n : Nat} {c0 c1 : Value} {y : DataW H × List MemPlace} (h : DataW.trod enc Tryz.prog W 0 (fun _ => true) true n 25 [c0, c1] = some y) :
 ∃ (s : Bool) (a : Option Addr) (L k : Nat), c0 = .bool s ∧ c1 = .slice a L k ∧ L ≤ k ∧ (a = none → L = 0 ∧ k = 0) ∧ Raw W a L := by
 obtain ⟨y0, y1, m, h0, h1⟩ := trod_two Tryz.underlying25 rfl rfl cellsB cellsD h
 obtain ⟨a, L, k, hc, h2, h3, h4⟩ := digs_cell h1
 obtain ⟨s, hs⟩ := trod_bool_cell Tryz.underlying4 h0
 exact ⟨s, a, L, k, hs, hc, h2, h3, h4⟩
theorem cellsR : Tryz.prog.cellsOf 37 = 4 := by kernel_rfl
theorem cellsF : Tryz.prog.cellsOf 39 = 2 := by kernel_rfl
theorem cellsIt : Tryz.prog.cellsOf 3 = 1 := by kernel_rfl
set_option maxRecDepth 100000 in
theorem open_list {H : Type} {enc : TypeId × Value → H} {W : World} {r : Reach} {b0 : Nat} {v : Value} {d : DataW H} {p : List MemPlace} (hv : Value.okWide Tryz.prog W r b0 22 v) (h : DataW.Trod enc Tryz.prog W 0 (fun _ => true) true 22 v d p) :
 ∃ (x : Option Addr) (L k : Nat) (g : Nat → Int), v = .slice x L k ∧ L ≤ 9223372036854775807 ∧ Ints W x L g := by
 obtain ⟨a, n, c, rfl⟩ := okWide_slice Tryz.underlying22 hv
 obtain ⟨fuel, hf⟩ := h
 exact ints_cell (c := .slice a n c) (by simpa only [Value.cells] using hf)
set_option maxRecDepth 100000 in
theorem open_ratio {H : Type} {enc : TypeId × Value → H} {W : World} {r : Reach} {b0 : Nat} {v : Value} {d : DataW H} {p : List MemPlace} (hv : Value.okWide Tryz.prog W r b0 37 v) (h : DataW.Trod enc Tryz.prog W 0 (fun _ => true) true 37 v d p) :
 ∃ (s t : Bool) (a b : Option Addr) (n m c e : Nat), v = .agg #[.bool s, .slice a n c, .bool t, .slice b m e] ∧ n ≤ c ∧ m ≤ e ∧ (a = none → n = 0 ∧ c = 0) ∧ (b = none → m = 0 ∧ e = 0) ∧ Raw W a n ∧ Raw W b m := by
 obtain ⟨cs, rfl, hsz⟩ := okWide_struct Tryz.underlying37 hv
 obtain ⟨c0, c1, c2, c3, rfl⟩ : ∃ c0 c1 c2 c3, cs = #[c0, c1, c2, c3] := by
  have h4 := hsz.trans cellsR
  obtain ⟨l⟩ := cs
  match l, h4 with
  | [c0, c1, c2, c3], _ => exact ⟨c0, c1, c2, c3, rfl⟩
 obtain ⟨fuel, hf⟩ := h
 obtain ⟨y0, y1, n, _, _, h0, h1⟩ := trod_struct2 Tryz.underlying37 (cs := [c0, c1, c2, c3]) (by simpa only [Value.cells] using hf)
 rw [cellsN] at h0 h1
 obtain ⟨s, a, L, k, rfl, rfl, p1, p2, p3⟩ := num_cells (c0 := c0) (c1 := c1) h0
 obtain ⟨t, b, M, e, rfl, rfl, q1, q2, q3⟩ := num_cells (c0 := c2) (c1 := c3) h1
 exact ⟨s, t, a, b, L, M, k, e, rfl, p1, q1, p2, q2, p3, q3⟩
set_option maxRecDepth 100000 in
theorem open_frac {H : Type} {enc : TypeId × Value → H} {W : World} {r : Reach} {b0 : Nat} {v : Value} {d : DataW H} {p : List MemPlace} (hv : Value.okWide Tryz.prog W r b0 39 v) (h : DataW.Trod enc Tryz.prog W 0 (fun _ => true) true 39 v d p) :
 ∃ x y : Int, v = .agg #[.int .i64 x, .int .i64 y] ∧ (Lit.int .i64 x).wf = true ∧ (Lit.int .i64 y).wf = true := by
 obtain ⟨cs, rfl, hsz⟩ := okWide_struct Tryz.underlying39 hv
 obtain ⟨c0, c1, rfl⟩ := Go.Joins.array2 (hsz.trans cellsF)
 obtain ⟨fuel, hf⟩ := h
 obtain ⟨y0, y1, n, h0, h1⟩ := trod_two Tryz.underlying39 rfl rfl cellsIt cellsIt (c0 := c0) (c1 := c1) (by simpa only [Value.cells] using hf)
 obtain ⟨x, e0, -, w0⟩ := DataW.trod_int Tryz.underlying3 h0
 obtain ⟨y, e1, -, w1⟩ := DataW.trod_int Tryz.underlying3 h1
 simp only [List.cons.injEq, and_true] at e0 e1
 subst e0 e1
 exact ⟨x, y, rfl, w0, w1⟩
theorem i64_bounds {x : Int} (h : (Lit.int .i64 x).wf = true) : -9223372036854775808 ≤ x ∧ x ≤ 9223372036854775807 := by
 simp [Lit.wf, IntKind.min, IntKind.max, IntKind.signed, IntKind.bits] at h
 omega
end Six
end Go.Proofs.YtgenaicmjddjcaaGreatDoor


namespace Go.Proofs.YtgenaicmjddjcaaGreatDoor.fnRatioForms
open Go.ChangeShapes Go.WideShapes Go.ChangeAt Go.RowKit Go.Lib Go.Joins Go.ChangeMaps

theorem witness_row (os : Os) {H : Type} (enc : TypeId × Value → H) :
 (OpenSpec.ofChange Rows.ratioFormsSpec).preRow enc Tryz.prog Tryz.f4 Rows.ratioFormsRow.domain false Rows.ratioFormsRow.laid ((Six.laidWorld os).forCall (fun _ _ => 0) ⟨#[], #[.slice none 0 0, .agg #[.bool false, .slice none 0 0, .bool false, .slice none 0 0], .agg #[.int .i64 0, .int .i64 0], .int .i64 0], []⟩).memory #[.slice none 0 0, .agg #[.bool false, .slice none 0 0, .bool false, .slice none 0 0], .agg #[.int .i64 0, .int .i64 0], .int .i64 0] := by
 have hw : (DataW.whole enc Tryz.prog ((Six.laidWorld os).forCall (fun _ _ => 0) ⟨#[], #[.slice none 0 0, .agg #[.bool false, .slice none 0 0, .bool false, .slice none 0 0], .agg #[.int .i64 0, .int .i64 0], .int .i64 0], []⟩).memory Tryz.f4.params.toList Rows.ratioFormsSpec.vars false #[.slice none 0 0, .agg #[.bool false, .slice none 0 0, .bool false, .slice none 0 0], .agg #[.int .i64 0, .int .i64 0], .int .i64 0].toList 8).map (fun x => (x.1, x.2.1)) =
  some ([.nil, .agg [.agg [.lit (.bool false), .nil], .agg [.lit (.bool false), .nil]], .agg [.lit (.int .i64 0), .lit (.int .i64 0)], .lit (.int .i64 0)], []) := by kernel_rfl
 obtain ⟨⟨x1, x2, x3⟩, hx, hx1⟩ := Option.map_eq_some_iff.1 hw
 simp only [Prod.mk.injEq] at hx1
 obtain ⟨rfl, rfl⟩ := hx1
 exact OpenSpec.preRow_of_cond 8 hx (by kernel_rfl) (fun k hk => by cases hk) (by kernel_rfl) (Six.laid_met os _)

set_option maxRecDepth 100000 in
set_option maxHeartbeats 2000000 in
theorem lifted (os : Os) (started : os.Started) (H : Type) (enc : TypeId × Value → H) (F : Stop.Interp) :
 ReturnsInHanded {} Tryz.checked os 4 .any ((OpenSpec.ofChange Rows.ratioFormsSpec).preRow enc Tryz.prog Tryz.f4 Rows.ratioFormsRow.domain false Rows.ratioFormsRow.laid) (((OpenSpec.ofChange Rows.ratioFormsSpec).at F).post enc Tryz.prog Tryz.f4 false true false false) := by
 refine returnsInHanded_of_row (C := Tryz.checked) (s := OpenSpec.ofChange Rows.ratioFormsSpec) Six.own started (by kernel_rfl) Tryz.func4
  (witness_row_atRef (enc := enc) (C := Tryz.checked) false (Six.laidWorld os) #[.slice none 0 0, .agg #[.bool false, .slice none 0 0, .bool false, .slice none 0 0], .agg #[.int .i64 0, .int .i64 0], .int .i64 0] rfl (by kernel_rfl) (by kernel_rfl) (by kernel_rfl) (witness_row os enc)) ?_
 intro W base args ds gs before hval0 hW _ _ _ hL _ _
 have hval : ∀ (j : Nat) t v, Tryz.f4.params[j]? = some t → args[j]? = some v → Value.okWide Tryz.prog W .any base t v := hval0
 have hW' := hW
 obtain ⟨p, q, hA0, hV, rfl, _, _⟩ := hW
 have hA : DataW.TrodAll enc Tryz.prog W 0 (fun _ => true) true Tryz.f4.params.toList args.toList ds p := hA0
 rw [Tryz.params4] at hA hval
 obtain ⟨v0, vs0, d0, ds0, p0, q0, hargs, rfl, rfl, h0, r0⟩ := trodAll_cons hA
 obtain ⟨v1, vs1, d1, ds1, p1, q1, rfl, rfl, rfl, h1, r1⟩ := trodAll_cons r0
 obtain ⟨v2, vs2, d2, ds2, p2, q2, rfl, rfl, rfl, h2, r2⟩ := trodAll_cons r1
 obtain ⟨v3, vs3, d3, ds3, p3, q3, rfl, rfl, rfl, h3, r3⟩ := trodAll_cons r2
 obtain ⟨rfl, rfl, rfl⟩ := trodAll_nil r3
 obtain rfl : args = #[v0, v1, v2, v3] := by cases args; simp_all
 obtain ⟨rfl, rfl⟩ := trodVars_none hV
 have m0 := h0
 have m1 := h1
 have m2 := h2
 have m3 := h3
 have l0 : ∀ x ∈ p0, x.block < W.heap.size := fun x hx => by simpa using hW'.lt x (by simp [hx])
 have l1 : ∀ x ∈ p1, x.block < W.heap.size := fun x hx => by simpa using hW'.lt x (by simp [hx])
 have l2 : ∀ x ∈ p2, x.block < W.heap.size := fun x hx => by simpa using hW'.lt x (by simp [hx])
 have l3 : ∀ x ∈ p3, x.block < W.heap.size := fun x hx => by simpa using hW'.lt x (by simp [hx])
 obtain ⟨x0, L0, k0, g0, rfl, b0, i0⟩ := Six.open_list (hval 0 22 v0 rfl rfl) h0
 obtain ⟨s, t, a, b, n, m, c, e, rfl, z1, z2, y1, y2, r1', r2'⟩ := Six.open_ratio (hval 1 37 v1 rfl rfl) h1
 obtain ⟨fn, fd, rfl, wf1, wf2⟩ := Six.open_frac (hval 2 39 v2 rfl rfl) h2
 obtain ⟨z, rfl, _, _, wz⟩ := open_int Tryz.underlying3 (hval 3 3 v3 rfl rfl) h3
 obtain ⟨f0, f1⟩ := Six.i64_bounds wf1
 obtain ⟨f2, f3⟩ := Six.i64_bounds wf2
 obtain ⟨f4, f5⟩ := Six.i64_bounds wz
 clear hA0 hval0
 refine (rforms_true x0 L0 k0 g0 b0 s t a b n m c e z1 z2 y1 y2 fn fd z f0 f1 f3 f2 f4 f5 W (Six.table hL) (Six.syn hL) i0 r1' r2').mono fun e W' ⟨he, bel⟩ => ?_
 subst he
 refine ⟨_, rfl, _, _, _, [], p0 ++ (p1 ++ (p2 ++ (p3 ++ ([])))), [], hW', trodAll_cons_mk (shut_bool Tryz.underlying4 _) trodAll_mk0, ?_, ?_, bel.frame _, fun h => by cases h⟩
 · exact trodAll_cons_mk (Below.trod Six.laidOut (by kernel_rfl) (of_decide_eq_true (by kernel_rfl)) m0 bel l0) (trodAll_cons_mk (Below.trod Six.laidOut (by kernel_rfl) (of_decide_eq_true (by kernel_rfl)) m1 bel l1) (trodAll_cons_mk (Below.trod Six.laidOut (by kernel_rfl) (of_decide_eq_true (by kernel_rfl)) m2 bel l2) (trodAll_cons_mk (Below.trod Six.laidOut (by kernel_rfl) (of_decide_eq_true (by kernel_rfl)) m3 bel l3) (trodAll_mk0))))
 · rfl

theorem said : Rows.RatioFormsSaid :=
 OpenClaim.holds_of_cond 4 Tryz.f4 rfl rfl rfl rfl rfl rfl rfl ⟨rfl, rfl, rfl, rfl, rfl⟩ rfl rfl rfl rfl rfl (by kernel_rfl) Tryz.func4 (by kernel_rfl)
  (of_decide_eq_true (by kernel_rfl)) (by unfold Func.isWrapper; first | (rw [if_pos (by decide +kernel)]; kernel_rfl) | (rw [if_neg (by decide +kernel)]; exact ⟨rfl, rfl⟩))
  (fun os started H enc _ F => by rw [OpenClaim.pre_eq_preRow]; exact lifted os started H enc F)

theorem plain (f : FuncId) (fn : Func) (hf : Tryz.pinned.checked.prog.funcNamed "collet/colletlaw03.RatioForms" = some f) (hfn : Tryz.pinned.checked.prog.funcs[f]? = some fn) :
 true = Tryz.pinned.checked.prog.looks [] ∧ ∀ (j : Nat) t, fn.params[j]? = some t → Tryz.pinned.checked.prog.wantsStandIn t = false := by
 obtain rfl : f = 4 := Option.some.inj ((show Tryz.prog.funcNamed "collet/colletlaw03.RatioForms" = some 4 by kernel_rfl).symm.trans hf) |>.symm
 obtain rfl : fn = Tryz.f4 := (Option.some.inj (Tryz.func4.symm.trans hfn)).symm
 refine ⟨by kernel_rfl, fun j t ht => ?_⟩
 rw [Tryz.params4] at ht
 have hm := Array.mem_of_getElem? ht
 simp only [List.mem_toArray, List.mem_cons, List.not_mem_nil, or_false] at hm
 rcases hm with rfl | rfl | rfl | rfl
 · exact (show Tryz.prog.wantsStandIn 22 = false by kernel_rfl)
 · exact (show Tryz.prog.wantsStandIn 37 = false by kernel_rfl)
 · exact (show Tryz.prog.wantsStandIn 39 = false by kernel_rfl)
 · exact (show Tryz.prog.wantsStandIn 3 = false by kernel_rfl)

theorem card : Rows.RatioFormsCardSaid :=
 Claim7.holds_tied_plain_at .later [] _ _ _ _ said (fun _ h => by cases h) (by kernel_rfl) (fun _ h => by cases h) ratioForms_row_tie rfl ⟨rfl, rfl⟩ (by kernel_rfl) rfl plain (by kernel_rfl)
end Go.Proofs.YtgenaicmjddjcaaGreatDoor.fnRatioForms

