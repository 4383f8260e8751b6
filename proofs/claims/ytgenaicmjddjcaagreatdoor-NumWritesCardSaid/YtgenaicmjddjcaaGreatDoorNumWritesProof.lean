/- Proved: the law NumWrites returns true for every list of ints, every Num and every string, and the arguments read behind the call as before (the row), and what the row lists is tied to the text of the program (the card). Conditions: none on the arguments; the five package variables that the row lists (three tables, two error values) read as their initialisers lay them, which is the given statement's own condition. -/
import Derived.Test.YtgenaicmjddjcaaGreatDoorSixRows
import Derived.Test.YtgenaicmjddjcaaGreatDoorWrLaw
import Derived.Test.YtgenaicmjddjcaaGreatDoorSixArgs
import Derived.ChangeMaps5

import Derived.WalkKit
import Derived.ProofKit
import Derived.OpenShut
import Derived.WideShapes
import Derived.Deep.DeepHandedRow
import Derived.Deep.DeepWitnessRowRef
import Derived.Lib.LaidTab
import Derived.Lib.LaidIn
import Derived.Lib.SmallJoins
import Derived.Laws.IdiomArrays
import Derived.ChangeSlices
import Derived.Stop.LaidErr
import Derived.Carry
import Derived.JoinedOf
import Derived.JoinedAt
import Derived.RowKit3
namespace Go.Proofs.YtgenaicmjddjcaaGreatDoor.fnNumWrites
open Go.ChangeShapes Go.WideShapes Go.ChangeAt Go.RowKit Go.Lib Go.Joins Go.ChangeMaps

theorem witness_row (os : Os) {H : Type} (enc : TypeId × Value → H) :
 (OpenSpec.ofChange Rows.numWritesSpec).preRow enc Tryz.prog Tryz.f3 Rows.numWritesRow.domain false Rows.numWritesRow.laid ((Six.laidWorld os).forCall (fun _ _ => 0) ⟨#[], #[.slice none 0 0, .agg #[.bool false, .slice none 0 0], .string ⟨#[]⟩], []⟩).memory #[.slice none 0 0, .agg #[.bool false, .slice none 0 0], .string ⟨#[]⟩] := by
 have hw : (DataW.whole enc Tryz.prog ((Six.laidWorld os).forCall (fun _ _ => 0) ⟨#[], #[.slice none 0 0, .agg #[.bool false, .slice none 0 0], .string ⟨#[]⟩], []⟩).memory Tryz.f3.params.toList Rows.numWritesSpec.vars false #[.slice none 0 0, .agg #[.bool false, .slice none 0 0], .string ⟨#[]⟩].toList 8).map (fun x => (x.1, x.2.1)) =
  some ([.nil, .agg [.lit (.bool false), .nil], .lit (.string [])], []) := by kernel_rfl
 obtain ⟨⟨x1, x2, x3⟩, hx, hx1⟩ := Option.map_eq_some_iff.1 hw
 simp only [Prod.mk.injEq] at hx1
 obtain ⟨rfl, rfl⟩ := hx1
 exact OpenSpec.preRow_of_cond 8 hx (by kernel_rfl) (fun k hk => by cases hk) (by kernel_rfl) (Six.laid_met os _)

set_option maxRecDepth 100000 in
set_option maxHeartbeats 2000000 in
theorem lifted (os : Os) (started : os.Started) (H : Type) (enc : TypeId × Value → H) (F : Stop.Interp) :
 ReturnsInHanded {} Tryz.checked os 3 .any ((OpenSpec.ofChange Rows.numWritesSpec).preRow enc Tryz.prog Tryz.f3 Rows.numWritesRow.domain false Rows.numWritesRow.laid) (((OpenSpec.ofChange Rows.numWritesSpec).at F).post enc Tryz.prog Tryz.f3 false true false false) := by
 refine returnsInHanded_of_row (C := Tryz.checked) (s := OpenSpec.ofChange Rows.numWritesSpec) Six.own started (by kernel_rfl) Tryz.func3
  (witness_row_atRef (enc := enc) (C := Tryz.checked) false (Six.laidWorld os) #[.slice none 0 0, .agg #[.bool false, .slice none 0 0], .string ⟨#[]⟩] rfl (by kernel_rfl) (by kernel_rfl) (by kernel_rfl) (witness_row os enc)) ?_
 intro W base args ds gs before hval0 hW _ _ _ hL _ _
 have hval : ∀ (j : Nat) t v, Tryz.f3.params[j]? = some t → args[j]? = some v → Value.okWide Tryz.prog W .any base t v := hval0
 have hW' := hW
 obtain ⟨p, q, hA0, hV, rfl, _, _⟩ := hW
 have hA : DataW.TrodAll enc Tryz.prog W 0 (fun _ => true) true Tryz.f3.params.toList args.toList ds p := hA0
 rw [Tryz.params3] at hA hval
 obtain ⟨v0, vs0, d0, ds0, p0, q0, hargs, rfl, rfl, h0, r0⟩ := trodAll_cons hA
 obtain ⟨v1, vs1, d1, ds1, p1, q1, rfl, rfl, rfl, h1, r1⟩ := trodAll_cons r0
 obtain ⟨v2, vs2, d2, ds2, p2, q2, rfl, rfl, rfl, h2, r2⟩ := trodAll_cons r1
 obtain ⟨rfl, rfl, rfl⟩ := trodAll_nil r2
 obtain rfl : args = #[v0, v1, v2] := by cases args; simp_all
 obtain ⟨rfl, rfl⟩ := trodVars_none hV
 have m0 := h0
 have m1 := h1
 have m2 := h2
 have l0 : ∀ x ∈ p0, x.block < W.heap.size := fun x hx => by simpa using hW'.lt x (by simp [hx])
 have l1 : ∀ x ∈ p1, x.block < W.heap.size := fun x hx => by simpa using hW'.lt x (by simp [hx])
 have l2 : ∀ x ∈ p2, x.block < W.heap.size := fun x hx => by simpa using hW'.lt x (by simp [hx])
 obtain ⟨x0, L0, k0, g0, rfl, b0, i0⟩ := Six.open_list (hval 0 22 v0 rfl rfl) h0
 obtain ⟨s1, a1, L1, k1, rfl, b1, n1, i1⟩ := Six.open_num (hval 1 25 v1 rfl rfl) h1
 obtain ⟨T, rfl, _, _, hT⟩ := open_string Tryz.underlying9 (hval 2 9 v2 rfl rfl) h2
 unfold maxLen at hT
 clear hA0 hval0
 refine (writes_true x0 L0 k0 g0 b0 s1 a1 L1 k1 b1 n1 T (by omega) W (Six.table hL) (Six.syn hL) i0 i1).mono fun e W' ⟨he, bel⟩ => ?_
 subst he
 refine ⟨_, rfl, _, _, _, [], p0 ++ (p1 ++ (p2 ++ ([]))), [], hW', trodAll_cons_mk (shut_bool Tryz.underlying4 _) trodAll_mk0, ?_, ?_, bel.frame _, fun h => by cases h⟩
 · exact trodAll_cons_mk (Below.trod Six.laidOut (by kernel_rfl) (of_decide_eq_true (by kernel_rfl)) m0 bel l0) (trodAll_cons_mk (Below.trod Six.laidOut (by kernel_rfl) (of_decide_eq_true (by kernel_rfl)) m1 bel l1) (trodAll_cons_mk (Below.trod Six.laidOut (by kernel_rfl) (of_decide_eq_true (by kernel_rfl)) m2 bel l2) (trodAll_mk0)))
 · rfl

theorem said : Rows.NumWritesSaid :=
 OpenClaim.holds_of_cond 3 Tryz.f3 rfl rfl rfl rfl rfl rfl rfl ⟨rfl, rfl, rfl, rfl, rfl⟩ rfl rfl rfl rfl rfl (by kernel_rfl) Tryz.func3 (by kernel_rfl)
  (of_decide_eq_true (by kernel_rfl)) (by unfold Func.isWrapper; first | (rw [if_pos (by decide +kernel)]; kernel_rfl) | (rw [if_neg (by decide +kernel)]; exact ⟨rfl, rfl⟩))
  (fun os started H enc _ F => by rw [OpenClaim.pre_eq_preRow]; exact lifted os started H enc F)

theorem plain (f : FuncId) (fn : Func) (hf : Tryz.pinned.checked.prog.funcNamed "collet/colletlaw01.NumWrites" = some f) (hfn : Tryz.pinned.checked.prog.funcs[f]? = some fn) :
 true = Tryz.pinned.checked.prog.looks [] ∧ ∀ (j : Nat) t, fn.params[j]? = some t → Tryz.pinned.checked.prog.wantsStandIn t = false := by
 obtain rfl : f = 3 := Option.some.inj ((show Tryz.prog.funcNamed "collet/colletlaw01.NumWrites" = some 3 by kernel_rfl).symm.trans hf) |>.symm
 obtain rfl : fn = Tryz.f3 := (Option.some.inj (Tryz.func3.symm.trans hfn)).symm
 refine ⟨by kernel_rfl, fun j t ht => ?_⟩
 rw [Tryz.params3] at ht
 have hm := Array.mem_of_getElem? ht
 simp only [List.mem_toArray, List.mem_cons, List.not_mem_nil, or_false] at hm
 rcases hm with rfl | rfl | rfl
 · exact (show Tryz.prog.wantsStandIn 22 = false by kernel_rfl)
 · exact (show Tryz.prog.wantsStandIn 25 = false by kernel_rfl)
 · exact (show Tryz.prog.wantsStandIn 9 = false by kernel_rfl)

theorem card : Rows.NumWritesCardSaid :=
 Claim7.holds_tied_plain_at .later [] _ _ _ _ said (fun _ h => by cases h) (by kernel_rfl) (fun _ h => by cases h) numWrites_row_tie rfl ⟨rfl, rfl⟩ (by kernel_rfl) rfl plain (by kernel_rfl)
end Go.Proofs.YtgenaicmjddjcaaGreatDoor.fnNumWrites
