/- Proved: the law RatioField returns true for every three lists of ints, and the arguments read behind the call as before (the row), and what the row lists is tied to the text of the program (the card). Conditions: none on the arguments; the five package variables that the row lists (three tables, two error values) read as their initialisers lay them, which is the given statement's own condition. -/
import Derived.Test.YtgenaicmjddjcaaGreatDoorCards
import Derived.Test.YtgenaicmjddjcaaGreatDoorTie
import Derived.Test.YtgenaicmjddjcaaGreatDoorPRef
import Derived.Test.YtgenaicmjddjcaaGreatDoorPText
import Derived.WalkKit
import Derived.ProofKit
import Derived.OpenShut
import Derived.WideShapes
import Derived.Deep.DeepHandedRow
import Derived.Deep.DeepWitnessRowRef
import Derived.Lib.LaidTab
import Derived.Lib.LaidIn
import Derived.Lib.SmallJoins
import Derived.Laws.IdiomArrays
import Derived.ChangeSlices
import Derived.Stop.LaidErr
import Derived.Test.YtgenaicmjddjcaaGreatDoorPTxB
import Derived.LaidLaws
import Derived.Carry
import Derived.JoinedOf
import Derived.JoinedAt
import Derived.RowKit3
import Derived.Test.YtgenaicmjddjcaaGreatDoorLwF
namespace Go.Proofs.YtgenaicmjddjcaaGreatDoor
open Go.ChangeShapes Go.WideShapes Go.ChangeAt Go.RowKit Go.Lib

namespace Six
theorem own : ownKnob Tryz.prog.godebug = none := by kernel_rfl
theorem gTab : Tryz.prog.globalNamed "internal/strconv.uint64pow10" = some 0 := by kernel_rfl
theorem gTabType : (Tryz.prog.globals[0]?).map (·.type) = some 162 := by kernel_rfl
theorem cellsT : Tryz.prog.cellsOf 162 = 20 := by kernel_rfl
theorem cellsE : Tryz.prog.cellsOf 77 = 1 := by kernel_rfl
theorem tabEq : (Rows.laid_internal_strconv_uint64pow10 : DataW Unit) = Lib.tabData .u64 Lib.pow10Tab := by kernel_rfl
theorem laidOut : laidOutB Tryz.prog = true := by kernel_rfl

theorem table {W : World} (h : laidMet Tryz.prog Rows.ratioFieldRow.laid W) : Pow10 W := by
 have h2 := (laidMet.tail (laidMet.tail h))
 rw [tabEq] at h2
 exact Lib.tabIs_of_head gTab gTabType Tryz.underlying162 Tryz.underlying77 cellsE cellsT h2

noncomputable def laidWorld (os : Os) : World :=
 let N := (World.settled Tryz.prog os).heap.size
 let w0 := World.holding Tryz.prog os ⟨#[.cells #[.string ⟨#[118, 97, 108, 117, 101, 32, 111, 117, 116, 32, 111, 102, 32, 114, 97, 110, 103, 101]⟩] 185, .cells #[.string ⟨#[105, 110, 118, 97, 108, 105, 100, 32, 115, 121, 110, 116, 97, 120]⟩] 185], #[], []⟩
 let put (h : Array Obj) (g : Nat) (cs : Array Value) : Array Obj := h.modify g fun
  | .cells _ t frozen => .cells cs t frozen
  | o => o
 let h1 := put w0.heap 0 (Lib.pow10Tab.map fun z => Value.int .u64 z).toArray
 let h2 := put h1 3 #[.iface 183 (.pointer (some ⟨N, 0, none⟩))]
 let h3 := put h2 2 #[.iface 183 (.pointer (some ⟨N + 1, 0, none⟩))]
 let h4 := put h3 6 #[.int .u8 0, .int .u8 1, .int .u8 28, .int .u8 2, .int .u8 29, .int .u8 14, .int .u8 24, .int .u8 3, .int .u8 30, .int .u8 22, .int .u8 20, .int .u8 15, .int .u8 25, .int .u8 17, .int .u8 4, .int .u8 8, .int .u8 31, .int .u8 27, .int .u8 13, .int .u8 23, .int .u8 21, .int .u8 19, .int .u8 16, .int .u8 7, .int .u8 26, .int .u8 12, .int .u8 18, .int .u8 6, .int .u8 11, .int .u8 5, .int .u8 10, .int .u8 9]
 let h5 := put h4 7 #[.int .u8 0, .int .u8 1, .int .u8 56, .int .u8 2, .int .u8 57, .int .u8 49, .int .u8 28, .int .u8 3, .int .u8 61, .int .u8 58, .int .u8 42, .int .u8 50, .int .u8 38, .int .u8 29, .int .u8 17, .int .u8 4, .int .u8 62, .int .u8 47, .int .u8 59, .int .u8 36, .int .u8 45, .int .u8 43, .int .u8 51, .int .u8 22, .int .u8 53, .int .u8 39, .int .u8 33, .int .u8 30, .int .u8 24, .int .u8 18, .int .u8 12, .int .u8 5, .int .u8 63, .int .u8 55, .int .u8 48, .int .u8 27, .int .u8 60, .int .u8 41, .int .u8 37, .int .u8 16, .int .u8 46, .int .u8 35, .int .u8 44, .int .u8 21, .int .u8 52, .int .u8 32, .int .u8 23, .int .u8 11, .int .u8 54, .int .u8 26, .int .u8 40, .int .u8 15, .int .u8 34, .int .u8 20, .int .u8 31, .int .u8 10, .int .u8 25, .int .u8 14, .int .u8 19, .int .u8 9, .int .u8 13, .int .u8 8, .int .u8 7, .int .u8 6]
 { w0 with heap := h5 }

theorem laid_met (os : Os) (args : Array Value) : laidMet Tryz.prog Rows.ratioFieldRow.laid ((laidWorld os).forCall (fun _ _ => 0) ⟨#[], args, []⟩).memory :=
 laidMet_of_run' 8 (by kernel_rfl) (by kernel_rfl)

section
variable {H : Type} {enc : TypeId × Value → H} {P : Program} {w W : World} {r : Reach} {base b0 : Nat} {spare : Nat → Bool} {held : Bool} {t : TypeId} {v : Value}
theorem okWide_array {n : Nat} {e : TypeId} (ht : P.underlying t = some (.array n e)) (h : Value.okWide P w r base t v) : ∃ cs, v = .agg cs ∧ cs.size = P.cellsOf t := by
 simp only [Value.okWide, ht] at h
 obtain ⟨cs, h1, h2, _⟩ := h
 exact ⟨cs, h1, h2⟩
end
theorem cellsI : Tryz.prog.cellsOf 3 = 1 := by kernel_rfl
theorem cellsL : Tryz.prog.cellsOf 22 = 1 := by kernel_rfl
theorem ints_cell {H : Type} {enc : TypeId × Value → H} {W : World} {n : Nat} {c : Value} {y : DataW H × List MemPlace} (h : DataW.trod enc Tryz.prog W 0 (fun _ => true) true n 22 [c] = some y) :
 ∃ (a : Option Addr) (L k : Nat) (g : Nat → Int), c = .slice a L k ∧ L ≤ 9223372036854775807 ∧ Ints W a L g := by
 rcases open_ints Tryz.underlying22 Tryz.underlying3 cellsI h with ⟨hcs, _⟩ | ⟨a, L, k, zs, hcs, _, hl, hm, hlen, _, hcell, _⟩
 · simp only [List.cons.injEq, and_true] at hcs
   exact ⟨none, 0, 0, fun _ => 0, hcs, by omega, .inl rfl⟩
 · simp only [List.cons.injEq, and_true] at hcs
   unfold maxLen at hm
   simp only [if_true] at hlen
   obtain ⟨b, off, spot⟩ := a
   refine ⟨_, L, k, fun j => zs.getD j 0, hcs, by omega, ?_⟩
   by_cases hL : L = 0
   · exact .inl hL
   · have hspot : spot = none := by simpa [Addr.add] using World.cell?_spot (hcell 0 (by omega))
     subst hspot
     exact .inr ⟨b, off, rfl, fun j hj => by
      have h := hcell j (by omega)
      rwa [show (⟨b, off, none⟩ : Addr).add j = ⟨b, off + j, none⟩ from by
       rcases Nat.eq_zero_or_pos j with rfl | hp
       · rfl
       · simp [Addr.add, Nat.ne_of_gt hp]] at h⟩
theorem cellsA3 : Tryz.prog.cellsOf 61 = 3 := by kernel_rfl
set_option maxRecDepth 100000 in
theorem open_three {H : Type} {enc : TypeId × Value → H} {W : World} {r : Reach} {b0 : Nat} {v : Value} {d : DataW H} {p : List MemPlace} (hv : Value.okWide Tryz.prog W r b0 61 v) (h : DataW.Trod enc Tryz.prog W 0 (fun _ => true) true 61 v d p) :
 ∃ (x0 x1 x2 : Option Addr) (L0 L1 L2 k0 k1 k2 : Nat) (g0 g1 g2 : Nat → Int), v = .agg #[.slice x0 L0 k0, .slice x1 L1 k1, .slice x2 L2 k2] ∧ L0 ≤ 9223372036854775807 ∧ L1 ≤ 9223372036854775807 ∧ L2 ≤ 9223372036854775807 ∧ Ints W x0 L0 g0 ∧ Ints W x1 L1 g1 ∧ Ints W x2 L2 g2 := by
 obtain ⟨cs, rfl, hsz⟩ := okWide_array Tryz.underlying61 hv
 obtain ⟨c0, c1, c2, rfl⟩ := Go.Joins.array3 (hsz.trans cellsA3)
 obtain ⟨fuel, hf⟩ := h
 obtain ⟨y0, y1, y2, n, _, h0, h1, h2⟩ := trod_array3 Tryz.underlying61 cellsL (c0 := c0) (c1 := c1) (c2 := c2) (by simpa only [Value.cells] using hf)
 obtain ⟨x0, L0, k0, g0, rfl, b0, i0⟩ := ints_cell h0
 obtain ⟨x1, L1, k1, g1, rfl, b1, i1⟩ := ints_cell h1
 obtain ⟨x2, L2, k2, g2, rfl, b2, i2⟩ := ints_cell h2
 exact ⟨x0, x1, x2, L0, L1, L2, k0, k1, k2, g0, g1, g2, rfl, b0, b1, b2, i0, i1, i2⟩
theorem gSynType : (Tryz.prog.globals[2]?).map (·.type) = some 85 := by kernel_rfl
theorem star : "*" ++ "errors.errorString" = "*errors.errorString" := by decide
theorem rowErr (u : TypeId) (h : Tryz.prog.typeName? 3 u = some "*errors.errorString") : u = 183 :=
 typeName_ptr_named (nm := "errors.errorString") (by rw [star]; kernel_rfl) (by kernel_rfl) (by decide) u (by rw [star]; exact h)
theorem cellsEs : Tryz.prog.cellsOf 185 = 1 := by kernel_rfl
theorem cellsStr : Tryz.prog.cellsOf 9 = 1 := by kernel_rfl
theorem syn {W : World} (h : laidMet Tryz.prog Rows.ratioFieldRow.laid W) : Syn W := by
 have h2 := laidMet.tail (laidMet.tail (laidMet.tail (laidMet.tail h)))
 obtain ⟨a, s, hv, -⟩ := laid_sentinel h2 gSyn gSynType Tryz.underlying85 rowErr Tryz.underlying183 Tryz.underlying185 rfl rfl Tryz.underlying9 cellsEs cellsStr
 exact ⟨_, _, hv⟩
end Six
end Go.Proofs.YtgenaicmjddjcaaGreatDoor
namespace Go.Proofs.YtgenaicmjddjcaaGreatDoor.fnRatioField
open Go.ChangeShapes Go.WideShapes Go.ChangeAt Go.RowKit Go.Lib Go.Joins Go.ChangeMaps

theorem witness_row (os : Os) {H : Type} (enc : TypeId × Value → H) :
 (OpenSpec.ofChange Rows.ratioFieldSpec).preRow enc Tryz.prog Tryz.f6 Rows.ratioFieldRow.domain false Rows.ratioFieldRow.laid ((Six.laidWorld os).forCall (fun _ _ => 0) ⟨#[], #[.agg #[.slice none 0 0, .slice none 0 0, .slice none 0 0]], []⟩).memory #[.agg #[.slice none 0 0, .slice none 0 0, .slice none 0 0]] := by
 have hw : (DataW.whole enc Tryz.prog ((Six.laidWorld os).forCall (fun _ _ => 0) ⟨#[], #[.agg #[.slice none 0 0, .slice none 0 0, .slice none 0 0]], []⟩).memory Tryz.f6.params.toList Rows.ratioFieldSpec.vars false #[.agg #[.slice none 0 0, .slice none 0 0, .slice none 0 0]].toList 8).map (fun x => (x.1, x.2.1)) =
  some ([.agg [.nil, .nil, .nil]], []) := by kernel_rfl
 obtain ⟨⟨x1, x2, x3⟩, hx, hx1⟩ := Option.map_eq_some_iff.1 hw
 simp only [Prod.mk.injEq] at hx1
 obtain ⟨rfl, rfl⟩ := hx1
 exact OpenSpec.preRow_of_cond 8 hx (by kernel_rfl) (fun k hk => by cases hk) (by kernel_rfl) (Six.laid_met os _)

set_option maxRecDepth 100000 in
set_option maxHeartbeats 2000000 in
theorem lifted (os : Os) (started : os.Started) (H : Type) (enc : TypeId × Value → H) (F : Stop.Interp) :
 ReturnsInHanded {} Tryz.checked os 6 .any ((OpenSpec.ofChange Rows.ratioFieldSpec).preRow enc Tryz.prog Tryz.f6 Rows.ratioFieldRow.domain false Rows.ratioFieldRow.laid) (((OpenSpec.ofChange Rows.ratioFieldSpec).at F).post enc Tryz.prog Tryz.f6 false true false false) := by
 refine returnsInHanded_of_row (C := Tryz.checked) (s := OpenSpec.ofChange Rows.ratioFieldSpec) Six.own started (by kernel_rfl) Tryz.func6
  (witness_row_atRef (enc := enc) (C := Tryz.checked) false (Six.laidWorld os) #[.agg #[.slice none 0 0, .slice none 0 0, .slice none 0 0]] rfl (by kernel_rfl) (by kernel_rfl) (by kernel_rfl) (witness_row os enc)) ?_
 intro W base args ds gs before hval0 hW _ _ _ hL _ _
 have hval : ∀ (j : Nat) t v, Tryz.f6.params[j]? = some t → args[j]? = some v → Value.okWide Tryz.prog W .any base t v := hval0
 have hW' := hW
 obtain ⟨p, q, hA0, hV, rfl, _, _⟩ := hW
 have hA : DataW.TrodAll enc Tryz.prog W 0 (fun _ => true) true Tryz.f6.params.toList args.toList ds p := hA0
 rw [Tryz.params6] at hA hval
 obtain ⟨v0, vs0, d0, ds0, p0, q0, hargs, rfl, rfl, h0, r0⟩ := trodAll_cons hA
 obtain ⟨rfl, rfl, rfl⟩ := trodAll_nil r0
 obtain rfl : args = #[v0] := by cases args; simp_all
 obtain ⟨rfl, rfl⟩ := trodVars_none hV
 have m0 := h0
 have l0 : ∀ x ∈ p0, x.block < W.heap.size := fun x hx => by simpa using hW'.lt x (by simp [hx])
 obtain ⟨x0, x1, x2, L0, L1, L2, k0, k1, k2, g0, g1, g2, rfl, b0, b1, b2, i0, i1, i2⟩ := Six.open_three (hval 0 61 v0 rfl rfl) h0
 clear hA0 hval0
 refine (rfield_true x0 x1 x2 L0 L1 L2 k0 k1 k2 g0 g1 g2 b0 b1 b2 W (Six.table hL) (Six.syn hL) i0 i1 i2).mono fun e W' ⟨he, bel⟩ => ?_
 subst he
 refine ⟨_, rfl, _, _, _, [], p0 ++ ([]), [], hW', trodAll_cons_mk (shut_bool Tryz.underlying4 _) trodAll_mk0, ?_, ?_, bel.frame _, fun h => by cases h⟩
 · exact trodAll_cons_mk (Below.trod Six.laidOut (by kernel_rfl) (of_decide_eq_true (by kernel_rfl)) m0 bel l0) (trodAll_mk0)
 · rfl

theorem said : Rows.RatioFieldSaid :=
 OpenClaim.holds_of_cond 6 Tryz.f6 rfl rfl rfl rfl rfl rfl rfl ⟨rfl, rfl, rfl, rfl, rfl⟩ rfl rfl rfl rfl rfl (by kernel_rfl) Tryz.func6 (by kernel_rfl)
  (of_decide_eq_true (by kernel_rfl)) (by unfold Func.isWrapper; first | (rw [if_pos (by decide +kernel)]; kernel_rfl) | (rw [if_neg (by decide +kernel)]; exact ⟨rfl, rfl⟩))
  (fun os started H enc _ F => by rw [OpenClaim.pre_eq_preRow]; exact lifted os started H enc F)

theorem plain (f : FuncId) (fn : Func) (hf : Tryz.pinned.checked.prog.funcNamed "collet/colletlaw03.RatioField" = some f) (hfn : Tryz.pinned.checked.prog.funcs[f]? = some fn) :
 true = Tryz.pinned.checked.prog.looks [] ∧ ∀ (j : Nat) t, fn.params[j]? = some t → Tryz.pinned.checked.prog.wantsStandIn t = false := by
 obtain rfl : f = 6 := Option.some.inj ((show Tryz.prog.funcNamed "collet/colletlaw03.RatioField" = some 6 by kernel_rfl).symm.trans hf) |>.symm
 obtain rfl : fn = Tryz.f6 := (Option.some.inj (Tryz.func6.symm.trans hfn)).symm
 refine ⟨by kernel_rfl, fun j t ht => ?_⟩
 rw [Tryz.params6] at ht
 have hm := Array.mem_of_getElem? ht
 simp only [List.mem_toArray, List.mem_cons, List.not_mem_nil, or_false] at hm
 subst hm
 exact (show Tryz.prog.wantsStandIn 61 = false by kernel_rfl)

theorem card : Rows.RatioFieldCardSaid :=
 Claim7.holds_tied_plain_at .later [] _ _ _ _ said (fun _ h => by cases h) (by kernel_rfl) (fun _ h => by cases h) ratioField_row_tie rfl ⟨rfl, rfl⟩ (by kernel_rfl) rfl plain (by kernel_rfl)
end Go.Proofs.YtgenaicmjddjcaaGreatDoor.fnRatioField
