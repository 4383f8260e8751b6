/- the laws of ratio: gives, none, rounds. -/
import Derived.Test.YtgenaicmjddjcaaGreatDoorRaP
import Derived.Test.YtgenaicmjddjcaaGreatDoorRbC
import Derived.Test.YtgenaicmjddjcaaGreatDoorRaK
namespace Go.Proofs.YtgenaicmjddjcaaGreatDoor
open Go.RowKit Go.Shelf

theorem RArg.n {w : World} {s1 s2 : Bool} {a1 a2 : Option Addr} {n1 n2 : Nat} {x : Rat} (h : RArg w s1 a1 n1 s2 a2 n2 (some x)) : IsN w s1 a1 n1 x.num ∧ IsN w s2 a2 n2 (x.den : Int) ∧ n1 ≤ 64 ∧ n2 ≤ 64 := h
set_option maxRecDepth 100000 in
set_option maxHeartbeats 4000000 in
theorem gives_yes (s1 s2 : Bool) (a1 a2 : Option Addr) (n1 n2 c1 c2 : Nat) (x : Rat) (n d : Int) (h0 : -9223372036854775808 ≤ n) (h1 : n ≤ 9223372036854775807) (g0 : -9223372036854775808 ≤ d) (g1 : d ≤ 9223372036854775807) (hd : 0 < d) (HX : Hid (Rat.divInt n d = x)) (w : World) (hx : RArg w s1 a1 n1 s2 a2 n2 (some x)) :
 Calls Tryz.prog 76 #[.agg #[.bool s1, .slice a1 n1 c1, .bool s2, .slice a2 n2 c2], .bool true, .int .i64 n, .int .i64 d] w fun e w' => e = .returned (.bool true) ∧ Below w.heap.size w w' := by
 go_enter Tryz.func76, Tryz.ntmps76
 go_wp2_with fail
 obtain ⟨W1, hW1⟩ : ∃ W1, w.alloc (Obj.cells #[.bool s1, .slice a1 n1 c1, .bool s2, .slice a2 n2 c2] 37) = W1 := ⟨_, rfl⟩
 have qA : Quad W1 w.heap.size (.bool s1) (.slice a1 n1 c1) (.bool s2) (.slice a2 n2 c2) := by rw [← hW1]; exact Quad.new _ _ _ _ _ _
 have hB : Below w.heap.size w W1 := by rw [← hW1]; exact below_alloc _ _
 have hx := hx.below hB
 try rw [hW1]
 clear hW1
 have hB := hB.drew
 have hx := hx.below (Below.drew (Below.refl W1.heap.size W1))
 have qA := qA.below (Below.drew (Below.refl W1.heap.size W1))
 refine wp_region_held_drew (S := fun w' => Below (W1.drew.heap.size) W1.drew w') (by kernel_rfl) (Below.refl _ _) (fun hHeld => ?_)
 obtain ⟨WE, hWE⟩ : ∃ W, W1.drew = W := ⟨_, rfl⟩
 rw [hWE] at hB hx qA hHeld ⊢
 clear hWE
 have hE := Below.refl WE.heap.size WE
 have lA := qA.lt
 obtain ⟨⟨x10, x11, x12, x13⟩, -, -, -, -⟩ := id qA
 refine tk 0 (.bool true) 9 rfl rfl ?_
 simp only [Act.put, pA, pB, pC]
 refine tk 1 (.bool true) 10 rfl rfl ?_
 simp only [Act.put, pA, pB, pC]
 refine tk 2 (.agg #[.bool s1, .slice a1 n1 c1, .bool s2, .slice a2 n2 c2]) 11 rfl rfl ?_ (Or.inl ⟨by rfl, fun w' hSw => by have q0 := (hSw.cell (p := ⟨w.heap.size, 0, none⟩) lA).trans x10; have q1 := (hSw.cell (p := ⟨w.heap.size, 1, none⟩) lA).trans x11; have q2 := (hSw.cell (p := ⟨w.heap.size, 2, none⟩) lA).trans x12; have q3 := (hSw.cell (p := ⟨w.heap.size, 3, none⟩) lA).trans x13; go_simp⟩)
 simp only [Act.put, pA, pB, pC]
 refine tk 3 (.int .i64 n) 12 rfl rfl ?_
 simp only [Act.put, pA, pB, pC]
 refine tk 4 (.int .i64 d) 13 rfl rfl ?_
 simp only [Act.put, pA, pB, pC]
 refine wpAnyH_one 5 (by kernel_rfl) ?_
 have cc := lawof_r n d h0 h1 g0 g1 hd WE
 rw [HX.out] at cc
 refine wpOp_call (i := 5) (f := 78) (args := #[.int .i64 n, .int .i64 d]) 14 rfl rfl (by rfl) (by go_simp) ?_
 refine (cc).mono ?_
 rintro e r1 ⟨s6, a6, n6, c6, s7, a7, n7, c7, rfl, P1, P2, k6, k7, hk⟩
 clear cc
 have hE := hE.trans (hk.mono hE.size)
 have hx := hx.below hk
 refine ⟨_, rfl, hE, ?_⟩
 simp only [Act.put, pA, pB, pC]
 refine wpAnyH_one 6 (by kernel_rfl) ?_
 refine wpOp_call (i := 6) (f := 32) (args := #[.agg #[.bool s1, .slice a1 n1 c1, .bool s2, .slice a2 n2 c2], .agg #[.bool s6, .slice a6 n6 c6, .bool s7, .slice a7 n7 c7]]) 15 rfl rfl (by rfl) (by go_simp) ?_
 refine (same_r s1 s2 s6 s7 a1 a2 a6 a7 n1 n2 n6 n7 c1 c2 c6 c7 x.num x.den hx.l1 hx.l2 r1 hx.num hx.den P1 P2).mono ?_
 rintro e r2 ⟨rfl, hk⟩
 have hE := hE.trans (hk.mono hE.size)
 have hx := hx.below hk
 have P1 := P1.below hk
 have P2 := P2.below hk
 refine ⟨_, rfl, hE, ?_⟩
 simp only [Act.put, pA, pB, pC]
 refine tk 7 (.bool true) 16 rfl rfl ?_
 simp only [Act.put, pA, pB, pC]
 refine tk 8 (.bool true) 8 rfl rfl ?_
 simp only [Act.put, pA, pB, pC]
 refine wpAnyH_done (by kernel_rfl) ?_ _
 have hB := hB.trans (hE.mono hB.size)
 go_wp2
 go_ret
 exact ⟨rfl, hB⟩
set_option maxRecDepth 100000 in
set_option maxHeartbeats 4000000 in
theorem none_yes (s1 s2 : Bool) (a1 a2 : Option Addr) (n1 n2 c1 c2 : Nat) (k1 : n1 ≤ 64) (k2 : n2 ≤ 64) (w : World) (h1 : IsN w s1 a1 n1 0) (h2 : IsN w s2 a2 n2 0) :
 Calls Tryz.prog 77 #[.agg #[.bool s1, .slice a1 n1 c1, .bool s2, .slice a2 n2 c2], .bool false] w fun e w' => e = .returned (.bool true) ∧ Below w.heap.size w w' := by
 go_enter Tryz.func77, Tryz.ntmps77
 go_wp2_with fail
 obtain ⟨W1, hW1⟩ : ∃ W1, w.alloc (Obj.cells #[.bool s1, .slice a1 n1 c1, .bool s2, .slice a2 n2 c2] 37) = W1 := ⟨_, rfl⟩
 have hB : Below w.heap.size w W1 := by rw [← hW1]; exact below_alloc _ _
 have h1 := h1.below hB
 have h2 := h2.below hB
 try rw [hW1]
 clear hW1
 refine (same_r s1 s2 false false a1 a2 none none n1 n2 0 0 c1 c2 0 0 0 0 k1 k2 W1 h1 h2 (zero_num _) (zero_num _)).mono ?_
 rintro e w1 ⟨rfl, hk⟩
 have hB := hB.trans (hk.mono hB.size)
 go_wp2
 go_ret
 exact ⟨rfl, hB⟩
set_option maxRecDepth 100000 in
set_option maxHeartbeats 4000000 in
theorem rounds_yes (s1 s2 : Bool) (a1 a2 : Option Addr) (n1 n2 c1 c2 : Nat) (x : Rat) (low high : Int) (HF : Hid (floorO (some x) = some low)) (HCe : Hid (ceilO (some x) = some high)) (w : World) (hx : RArg w s1 a1 n1 s2 a2 n2 (some x)) :
 Calls Tryz.prog 79 #[.agg #[.bool s1, .slice a1 n1 c1, .bool s2, .slice a2 n2 c2], .int .i64 low, .int .i64 high] w fun e w' => e = .returned (.bool true) ∧ Below w.heap.size w w' := by
 go_enter Tryz.func79, Tryz.ntmps79
 go_wp2_with fail
 obtain ⟨W1, hW1⟩ : ∃ W1, w.alloc (Obj.cells #[.bool s1, .slice a1 n1 c1, .bool s2, .slice a2 n2 c2] 37) = W1 := ⟨_, rfl⟩
 have qA : Quad W1 w.heap.size (.bool s1) (.slice a1 n1 c1) (.bool s2) (.slice a2 n2 c2) := by rw [← hW1]; exact Quad.new _ _ _ _ _ _
 have hB : Below w.heap.size w W1 := by rw [← hW1]; exact below_alloc _ _
 have hx := hx.below hB
 try rw [hW1]
 clear hW1
 have cc := floor_r s1 s2 a1 a2 n1 n2 c1 c2 (some x) W1 hx
 rw [HF.out] at cc
 refine cc.mono ?_
 clear cc
 rintro e w1 ⟨rfl, hk⟩
 have hB := hB.trans (hk.mono hB.size)
 have hx := hx.below hk
 have qA := qA.below hk
 clear hk
 obtain ⟨⟨x10, x11, x12, x13⟩, -, -, -, -⟩ := id qA
 go_wp2_with fail
 clear x10 x11 x12 x13
 have cc := ceil_r s1 s2 a1 a2 n1 n2 c1 c2 (some x) w1 hx
 rw [HCe.out] at cc
 refine cc.mono ?_
 clear cc
 rintro e w2 ⟨rfl, hk⟩
 have hB := hB.trans (hk.mono hB.size)
 have hx := hx.below hk
 have qA := qA.below hk
 clear hk
 clear qA
 go_wp2
 go_ret
 exact ⟨rfl, hB⟩
end Go.Proofs.YtgenaicmjddjcaaGreatDoor
