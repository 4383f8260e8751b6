/- ratio's reference: Right of any Ratio. -/
import Derived.Test.YtgenaicmjddjcaaGreatDoorRbB
namespace Go.Proofs.YtgenaicmjddjcaaGreatDoor
open Go.RowKit Go.Shelf

set_option maxRecDepth 100000 in
set_option maxHeartbeats 4000000 in
theorem rright_no_a (s1 s2 : Bool) (a1 a2 : Option Addr) (n1 n2 c1 c2 : Nat) (w : World) (h1 : Arg w s1 a1 n1 none) :
 Calls Tryz.prog 27 #[.agg #[.bool s1, .slice a1 n1 c1, .bool s2, .slice a2 n2 c2]] w fun e w' => e = .returned (.bool false) ∧ Below w.heap.size w w' := by
 go_enter Tryz.func27, Tryz.ntmps27
 go_wp2_with fail
 obtain ⟨W1, hW1⟩ : ∃ W1, w.alloc (Obj.cells #[.bool s1, .slice a1 n1 c1, .bool s2, .slice a2 n2 c2] 37) = W1 := ⟨_, rfl⟩
 have qA : Quad W1 w.heap.size (.bool s1) (.slice a1 n1 c1) (.bool s2) (.slice a2 n2 c2) := by rw [← hW1]; exact Quad.new _ _ _ _ _ _
 have hB : Below w.heap.size w W1 := by rw [← hW1]; exact below_alloc _ _
 have h1 := h1.below hB
 try rw [hW1]
 clear hW1
 have hB := hB.drew
 have h1 := h1.below (Below.drew (Below.refl W1.heap.size W1))
 have qA := qA.below (Below.drew (Below.refl W1.heap.size W1))
 refine wp_region_held_drew (S := fun w' => Below (W1.drew.heap.size) W1.drew w') (by kernel_rfl) (Below.refl _ _) (fun hHeld => ?_)
 obtain ⟨WE, hWE⟩ : ∃ W, W1.drew = W := ⟨_, rfl⟩
 rw [hWE] at hB h1 qA hHeld ⊢
 clear hWE
 have hE := Below.refl WE.heap.size WE
 have lA := qA.lt
 obtain ⟨⟨x0, x1, x2, x3⟩, -, -, -, -⟩ := id qA
 clear hHeld
 refine dagT 17 ?hn (fun X => ⟨#[.agg #[.bool s1, .slice a1 n1 c1, .bool s2, .slice a2 n2 c2], .pointer (some ⟨w.heap.size, 0, none⟩), .bool false, undef, undef, X 0, X 1, X 2, X 3, X 4, X 5, X 6, X 7, X 8, X 9, X 10, X 11, X 12, X 13, X 14, X 15, X 16, undef, undef, undef, undef, undef, undef, undef, undef, undef, undef, undef, undef], []⟩) [(0, 0, 0), (0, 0, 0), (0, 0, 0), (0, 0, 0), (0, 0, 0), (0, 0, 0), (0, 0, 0), (0, 0, 0), (0, 0, 0), (0, 0, 0), (0, 0, 0), (0, 0, 0), (0, 0, 0), (0, 0, 0), (0, 0, 0), (0, 0, 0), (0, 0, 0)] [.val (.pointer (some ⟨w.heap.size, 0, none⟩)), .val (.agg #[.bool s1, .slice a1 n1 c1]), .val (.bool false), .val (.bool true), .val (.bool true), .val undef, .val undef, .val undef, .val undef, .val (.bool true), .val (.bool true), .val undef, .val undef, .val undef, .val undef, .val undef, .val (.bool true)] [[], [0], [1], [2], [3], [4], [4, 5], [4, 6], [4, 7], [4, 8], [9], [10], [10, 11], [10], [10, 12, 13], [10, 14], [10, 15]] [0, 1, 2, 3, 4, 5, 6, 7, 8, 9, 10, 11, 12, 13, 14, 15, 16] [] [] 25 37 WE (by kernel_rfl) (by kernel_rfl) (by kernel_rfl) (by kernel_rfl) (by kernel_rfl) ?op ?al ?st ?fin (fun _ => undef) _ _ (by kernel_rfl) (of_decide_eq_true (by kernel_rfl)) (of_decide_eq_true (by kernel_rfl))
 case hn => rfl
 case op =>
  repeat' first | exact Each.nil | refine Each.cons ?_ ?_
  all_goals intro X w7 H hb hD h
  · refine tv rfl (by rfl) ?_ (by exact h _ w7 rfl (Below.refl _ _))
    go_simp <;> rfl
  · have e0_ : X 0 = _ := hD 0 (by decide) rfl
    have z0 := (hb.cell (p := ⟨w.heap.size, 0, none⟩) lA).trans x0
    have z1 := (hb.cell (p := ⟨w.heap.size, 1, none⟩) lA).trans x1
    refine tv rfl (by simp only [e0_]; rfl) ?_ (by exact h _ w7 rfl (Below.refl _ _))
    simp only [e0_]; go_simp <;> rfl
  · have e1_ : X 1 = _ := hD 1 (by decide) rfl
    have h1 := h1.below hb
    refine wpOp_call (i := 2) (f := 61) (args := #[.agg #[.bool s1, .slice a1 n1 c1]]) 7 rfl rfl (by simp only [e1_]; rfl) (by simp only [e1_]; go_simp) ?_
    refine (rright_arg s1 a1 n1 c1 none w7 h1).mono ?_
    rintro e w8 ⟨rfl, hk⟩
    exact ⟨_, rfl, h _ w8 rfl hk⟩
  · have e2_ : X 2 = _ := hD 2 (by decide) rfl
    refine tv rfl (by simp only [e2_]; rfl) ?_ (by exact h _ w7 rfl (Below.refl _ _))
    simp only [e2_]; go_simp <;> rfl
  · have e3_ : X 3 = _ := hD 3 (by decide) rfl
    refine tv rfl (by simp only [e3_]; rfl) ?_ (by exact h _ w7 rfl (Below.refl _ _))
    simp only [e3_]; go_simp <;> rfl
  · have e4_ : X 4 = _ := hD 4 (by decide) rfl
    refine tu rfl (by simp only [e4_]; rfl) ?_
    exact h _ w7 rfl (Below.refl _ _)
  · have e4_ : X 4 = _ := hD 4 (by decide) rfl
    have e5_ : X 5 = _ := hD 5 (by decide) rfl
    refine tu rfl (by simp only [e4_, e5_]; rfl) ?_
    exact h _ w7 rfl (Below.refl _ _)
  · have e4_ : X 4 = _ := hD 4 (by decide) rfl
    have e6_ : X 6 = _ := hD 6 (by decide) rfl
    refine tu rfl (by simp only [e4_, e6_]; rfl) ?_
    exact h _ w7 rfl (Below.refl _ _)
  · have e4_ : X 4 = _ := hD 4 (by decide) rfl
    have e7_ : X 7 = _ := hD 7 (by decide) rfl
    refine tu rfl (by simp only [e4_, e7_]; rfl) ?_
    exact h _ w7 rfl (Below.refl _ _)
  · have e4_ : X 4 = _ := hD 4 (by decide) rfl
    have e8_ : X 8 = _ := hD 8 (by decide) rfl
    refine tv rfl (by simp only [e4_, e8_]; rfl) ?_ (by exact h _ w7 rfl (Below.refl _ _))
    simp only [e4_, e8_]; go_simp <;> rfl
  · have e9_ : X 9 = _ := hD 9 (by decide) rfl
    refine tv rfl (by simp only [e9_]; rfl) ?_ (by exact h _ w7 rfl (Below.refl _ _))
    simp only [e9_]; go_simp <;> rfl
  · have e10_ : X 10 = _ := hD 10 (by decide) rfl
    refine tu rfl (by simp only [e10_]; rfl) ?_
    exact h _ w7 rfl (Below.refl _ _)
  · have e10_ : X 10 = _ := hD 10 (by decide) rfl
    have e11_ : X 11 = _ := hD 11 (by decide) rfl
    refine tu rfl (by simp only [e10_, e11_]; rfl) ?_
    exact h _ w7 rfl (Below.refl _ _)
  · have e10_ : X 10 = _ := hD 10 (by decide) rfl
    refine tu rfl (by simp only [e10_]; rfl) ?_
    exact h _ w7 rfl (Below.refl _ _)
  · have e10_ : X 10 = _ := hD 10 (by decide) rfl
    have e12_ : X 12 = _ := hD 12 (by decide) rfl
    have e13_ : X 13 = _ := hD 13 (by decide) rfl
    refine tu rfl (by simp only [e10_, e12_, e13_]; rfl) ?_
    exact h _ w7 rfl (Below.refl _ _)
  · have e10_ : X 10 = _ := hD 10 (by decide) rfl
    have e14_ : X 14 = _ := hD 14 (by decide) rfl
    refine tu rfl (by simp only [e10_, e14_]; rfl) ?_
    exact h _ w7 rfl (Below.refl _ _)
  · have e10_ : X 10 = _ := hD 10 (by decide) rfl
    have e15_ : X 15 = _ := hD 15 (by decide) rfl
    refine tv rfl (by simp only [e10_, e15_]; rfl) ?_ (by exact h _ w7 rfl (Below.refl _ _))
    simp only [e10_, e15_]; go_simp <;> rfl
 case al => exact Each.nil
 case st => exact Each.nil
 case fin =>
  intro X1 w9 hI
  have hE := hI.below
  have e16_ : X1 16 = _ := hI.fact 16 (by decide) rfl rfl
  have qA := qA.below hE
  clear hI
  simp only [e16_]
  clear e16_
  clear x0 x1 x2 x3 lA
  have hB := hB.trans (hE.mono hB.size)
  clear hE
  go_wp2
  go_ret
  exact ⟨rfl, hB⟩
set_option maxRecDepth 100000 in
set_option maxHeartbeats 4000000 in
theorem rright_no_b (s1 s2 : Bool) (a1 a2 : Option Addr) (n1 n2 c1 c2 : Nat) (z : Int) (w : World) (h1 : Arg w s1 a1 n1 (some z)) (h2 : Arg w s2 a2 n2 none) :
 Calls Tryz.prog 27 #[.agg #[.bool s1, .slice a1 n1 c1, .bool s2, .slice a2 n2 c2]] w fun e w' => e = .returned (.bool false) ∧ Below w.heap.size w w' := by
 go_enter Tryz.func27, Tryz.ntmps27
 go_wp2_with fail
 obtain ⟨W1, hW1⟩ : ∃ W1, w.alloc (Obj.cells #[.bool s1, .slice a1 n1 c1, .bool s2, .slice a2 n2 c2] 37) = W1 := ⟨_, rfl⟩
 have qA : Quad W1 w.heap.size (.bool s1) (.slice a1 n1 c1) (.bool s2) (.slice a2 n2 c2) := by rw [← hW1]; exact Quad.new _ _ _ _ _ _
 have hB : Below w.heap.size w W1 := by rw [← hW1]; exact below_alloc _ _
 have h1 := h1.below hB
 have h2 := h2.below hB
 try rw [hW1]
 clear hW1
 have hB := hB.drew
 have h1 := h1.below (Below.drew (Below.refl W1.heap.size W1))
 have h2 := h2.below (Below.drew (Below.refl W1.heap.size W1))
 have qA := qA.below (Below.drew (Below.refl W1.heap.size W1))
 refine wp_region_held_drew (S := fun w' => Below (W1.drew.heap.size) W1.drew w') (by kernel_rfl) (Below.refl _ _) (fun hHeld => ?_)
 obtain ⟨WE, hWE⟩ : ∃ W, W1.drew = W := ⟨_, rfl⟩
 rw [hWE] at hB h1 h2 qA hHeld ⊢
 clear hWE
 have hE := Below.refl WE.heap.size WE
 have lA := qA.lt
 obtain ⟨⟨x0, x1, x2, x3⟩, -, -, -, -⟩ := id qA
 clear hHeld
 refine dagT 17 ?hn (fun X => ⟨#[.agg #[.bool s1, .slice a1 n1 c1, .bool s2, .slice a2 n2 c2], .pointer (some ⟨w.heap.size, 0, none⟩), .bool false, undef, undef, X 0, X 1, X 2, X 3, X 4, X 5, X 6, X 7, X 8, X 9, X 10, X 11, X 12, X 13, X 14, X 15, X 16, undef, undef, undef, undef, undef, undef, undef, undef, undef, undef, undef, undef], []⟩) [(0, 0, 0), (0, 0, 0), (0, 0, 0), (0, 0, 0), (0, 0, 0), (0, 0, 0), (0, 0, 0), (0, 0, 0), (0, 0, 0), (0, 0, 0), (0, 0, 0), (0, 0, 0), (0, 0, 0), (0, 0, 0), (0, 0, 0), (0, 0, 0), (0, 0, 0)] [.val (.pointer (some ⟨w.heap.size, 0, none⟩)), .val (.agg #[.bool s1, .slice a1 n1 c1]), .val (.bool true), .val (.bool false), .val (.bool false), .val (.pointer (some ⟨w.heap.size, 2, none⟩)), .val (.agg #[.bool s2, .slice a2 n2 c2]), .val (.bool false), .val (.bool true), .val (.bool true), .val (.bool true), .val undef, .val undef, .val undef, .val undef, .val undef, .val (.bool true)] [[], [0], [1], [2], [3], [4], [4, 5], [4, 6], [4, 7], [4, 8], [9], [10], [10, 11], [10], [10, 12, 13], [10, 14], [10, 15]] [0, 1, 2, 3, 4, 5, 6, 7, 8, 9, 10, 11, 12, 13, 14, 15, 16] [] [] 25 37 WE (by kernel_rfl) (by kernel_rfl) (by kernel_rfl) (by kernel_rfl) (by kernel_rfl) ?op ?al ?st ?fin (fun _ => undef) _ _ (by kernel_rfl) (of_decide_eq_true (by kernel_rfl)) (of_decide_eq_true (by kernel_rfl))
 case hn => rfl
 case op =>
  repeat' first | exact Each.nil | refine Each.cons ?_ ?_
  all_goals intro X w7 H hb hD h
  · refine tv rfl (by rfl) ?_ (by exact h _ w7 rfl (Below.refl _ _))
    go_simp <;> rfl
  · have e0_ : X 0 = _ := hD 0 (by decide) rfl
    have z0 := (hb.cell (p := ⟨w.heap.size, 0, none⟩) lA).trans x0
    have z1 := (hb.cell (p := ⟨w.heap.size, 1, none⟩) lA).trans x1
    refine tv rfl (by simp only [e0_]; rfl) ?_ (by exact h _ w7 rfl (Below.refl _ _))
    simp only [e0_]; go_simp <;> rfl
  · have e1_ : X 1 = _ := hD 1 (by decide) rfl
    have h1 := h1.below hb
    refine wpOp_call (i := 2) (f := 61) (args := #[.agg #[.bool s1, .slice a1 n1 c1]]) 7 rfl rfl (by simp only [e1_]; rfl) (by simp only [e1_]; go_simp) ?_
    refine (rright_arg s1 a1 n1 c1 (some z) w7 h1).mono ?_
    rintro e w8 ⟨rfl, hk⟩
    exact ⟨_, rfl, h _ w8 rfl hk⟩
  · have e2_ : X 2 = _ := hD 2 (by decide) rfl
    refine tv rfl (by simp only [e2_]; rfl) ?_ (by exact h _ w7 rfl (Below.refl _ _))
    simp only [e2_]; go_simp <;> rfl
  · have e3_ : X 3 = _ := hD 3 (by decide) rfl
    refine tv rfl (by simp only [e3_]; rfl) ?_ (by exact h _ w7 rfl (Below.refl _ _))
    simp only [e3_]; go_simp <;> rfl
  · have e4_ : X 4 = _ := hD 4 (by decide) rfl
    refine tv rfl (by simp only [e4_]; rfl) ?_ (by exact h _ w7 rfl (Below.refl _ _))
    simp only [e4_]; go_simp <;> rfl
  · have e4_ : X 4 = _ := hD 4 (by decide) rfl
    have e5_ : X 5 = _ := hD 5 (by decide) rfl
    have z2 := (hb.cell (p := ⟨w.heap.size, 2, none⟩) lA).trans x2
    have z3 := (hb.cell (p := ⟨w.heap.size, 3, none⟩) lA).trans x3
    refine tv rfl (by simp only [e4_, e5_]; rfl) ?_ (by exact h _ w7 rfl (Below.refl _ _))
    simp only [e4_, e5_]; go_simp <;> rfl
  · have e4_ : X 4 = _ := hD 4 (by decide) rfl
    have e6_ : X 6 = _ := hD 6 (by decide) rfl
    have h2 := h2.below hb
    refine wpOp_call (i := 7) (f := 61) (args := #[.agg #[.bool s2, .slice a2 n2 c2]]) 12 rfl rfl (by simp only [e4_, e6_]; rfl) (by simp only [e4_, e6_]; go_simp) ?_
    refine (rright_arg s2 a2 n2 c2 none w7 h2).mono ?_
    rintro e w8 ⟨rfl, hk⟩
    exact ⟨_, rfl, h _ w8 rfl hk⟩
  · have e4_ : X 4 = _ := hD 4 (by decide) rfl
    have e7_ : X 7 = _ := hD 7 (by decide) rfl
    refine tv rfl (by simp only [e4_, e7_]; rfl) ?_ (by exact h _ w7 rfl (Below.refl _ _))
    simp only [e4_, e7_]; go_simp <;> rfl
  · have e4_ : X 4 = _ := hD 4 (by decide) rfl
    have e8_ : X 8 = _ := hD 8 (by decide) rfl
    refine tv rfl (by simp only [e4_, e8_]; rfl) ?_ (by exact h _ w7 rfl (Below.refl _ _))
    simp only [e4_, e8_]; go_simp <;> rfl
  · have e9_ : X 9 = _ := hD 9 (by decide) rfl
    refine tv rfl (by simp only [e9_]; rfl) ?_ (by exact h _ w7 rfl (Below.refl _ _))
    simp only [e9_]; go_simp <;> rfl
  · have e10_ : X 10 = _ := hD 10 (by decide) rfl
    refine tu rfl (by simp only [e10_]; rfl) ?_
    exact h _ w7 rfl (Below.refl _ _)
  · have e10_ : X 10 = _ := hD 10 (by decide) rfl
    have e11_ : X 11 = _ := hD 11 (by decide) rfl
    refine tu rfl (by simp only [e10_, e11_]; rfl) ?_
    exact h _ w7 rfl (Below.refl _ _)
  · have e10_ : X 10 = _ := hD 10 (by decide) rfl
    refine tu rfl (by simp only [e10_]; rfl) ?_
    exact h _ w7 rfl (Below.refl _ _)
  · have e10_ : X 10 = _ := hD 10 (by decide) rfl
    have e12_ : X 12 = _ := hD 12 (by decide) rfl
    have e13_ : X 13 = _ := hD 13 (by decide) rfl
    refine tu rfl (by simp only [e10_, e12_, e13_]; rfl) ?_
    exact h _ w7 rfl (Below.refl _ _)
  · have e10_ : X 10 = _ := hD 10 (by decide) rfl
    have e14_ : X 14 = _ := hD 14 (by decide) rfl
    refine tu rfl (by simp only [e10_, e14_]; rfl) ?_
    exact h _ w7 rfl (Below.refl _ _)
  · have e10_ : X 10 = _ := hD 10 (by decide) rfl
    have e15_ : X 15 = _ := hD 15 (by decide) rfl
    refine tv rfl (by simp only [e10_, e15_]; rfl) ?_ (by exact h _ w7 rfl (Below.refl _ _))
    simp only [e10_, e15_]; go_simp <;> rfl
 case al => exact Each.nil
 case st => exact Each.nil
 case fin =>
  intro X1 w9 hI
  have hE := hI.below
  have e16_ : X1 16 = _ := hI.fact 16 (by decide) rfl rfl
  have qA := qA.below hE
  clear hI
  simp only [e16_]
  clear e16_
  clear x0 x1 x2 x3 lA
  have hB := hB.trans (hE.mono hB.size)
  clear hE
  go_wp2
  go_ret
  exact ⟨rfl, hB⟩
set_option maxRecDepth 100000 in
set_option maxHeartbeats 8000000 in
theorem rright_both (s1 s2 : Bool) (a1 a2 : Option Addr) (n1 n2 c1 c2 : Nat) (n d : Int) (l1 : n1 ≤ c1) (l2 : n2 ≤ c2) (w : World) (h1 : Arg w s1 a1 n1 (some n)) (h2 : Arg w s2 a2 n2 (some d)) :
 Calls Tryz.prog 27 #[.agg #[.bool s1, .slice a1 n1 c1, .bool s2, .slice a2 n2 c2]] w fun e w' => e = .returned (.bool (rightO (some n) (some d))) ∧ Below w.heap.size w w' := by
 obtain ⟨C, hC⟩ : ∃ C, cmpZ d 1 = C := ⟨_, rfl⟩
 have HC := hide hC
 clear hC
 go_enter Tryz.func27, Tryz.ntmps27
 go_wp2_with fail
 obtain ⟨W1, hW1⟩ : ∃ W1, w.alloc (Obj.cells #[.bool s1, .slice a1 n1 c1, .bool s2, .slice a2 n2 c2] 37) = W1 := ⟨_, rfl⟩
 have qA : Quad W1 w.heap.size (.bool s1) (.slice a1 n1 c1) (.bool s2) (.slice a2 n2 c2) := by rw [← hW1]; exact Quad.new _ _ _ _ _ _
 have hB : Below w.heap.size w W1 := by rw [← hW1]; exact below_alloc _ _
 have h1 := h1.below hB
 have h2 := h2.below hB
 try rw [hW1]
 clear hW1
 have hB := hB.drew
 have h1 := h1.below (Below.drew (Below.refl W1.heap.size W1))
 have h2 := h2.below (Below.drew (Below.refl W1.heap.size W1))
 have qA := qA.below (Below.drew (Below.refl W1.heap.size W1))
 refine wp_region_held_drew (S := fun w' => Below (W1.drew.heap.size) W1.drew w') (by kernel_rfl) (Below.refl _ _) (fun hHeld => ?_)
 obtain ⟨WE, hWE⟩ : ∃ W, W1.drew = W := ⟨_, rfl⟩
 rw [hWE] at hB h1 h2 qA hHeld ⊢
 clear hWE
 have hE := Below.refl WE.heap.size WE
 have lA := qA.lt
 obtain ⟨⟨x0, x1, x2, x3⟩, -, -, -, -⟩ := id qA
 clear hHeld
 refine dagT 17 ?hn (fun X => ⟨#[.agg #[.bool s1, .slice a1 n1 c1, .bool s2, .slice a2 n2 c2], .pointer (some ⟨w.heap.size, 0, none⟩), .bool false, undef, undef, X 0, X 1, X 2, X 3, X 4, X 5, X 6, X 7, X 8, X 9, X 10, X 11, X 12, X 13, X 14, X 15, X 16, undef, undef, undef, undef, undef, undef, undef, undef, undef, undef, undef, undef], []⟩) [(0, 0, 0), (0, 0, 0), (0, 0, 0), (0, 0, 0), (0, 0, 0), (0, 0, 0), (0, 0, 0), (0, 0, 0), (0, 0, 0), (0, 0, 0), (0, 0, 0), (0, 0, 0), (0, 0, 0), (0, 0, 0), (0, 0, 0), (0, 0, 0), (0, 0, 0)] [.val (.pointer (some ⟨w.heap.size, 0, none⟩)), .val (.agg #[.bool s1, .slice a1 n1 c1]), .val (.bool true), .val (.bool false), .val (.bool false), .val (.pointer (some ⟨w.heap.size, 2, none⟩)), .val (.agg #[.bool s2, .slice a2 n2 c2]), .val (.bool true), .val (.bool false), .val (.bool false), .val (.bool false), .val (.pointer (some ⟨w.heap.size, 2, none⟩)), .val (.agg #[.bool s2, .slice a2 n2 c2]), .num 1 true, .val (.int .i64 C), .val (.bool (decide (C < 0))), .val (.bool (decide (C < 0)))] [[], [0], [1], [2], [3], [4], [4, 5], [4, 6], [4, 7], [4, 8], [9], [10], [10, 11], [10], [10, 12, 13], [10, 14], [10, 15]] [0, 1, 2, 3, 4, 5, 6, 7, 8, 9, 10, 11, 12, 13, 14, 15, 16] [] [] 25 37 WE (by kernel_rfl) (by kernel_rfl) (by kernel_rfl) (by kernel_rfl) (by kernel_rfl) ?op ?al ?st ?fin (fun _ => undef) _ _ (by kernel_rfl) (of_decide_eq_true (by kernel_rfl)) (of_decide_eq_true (by kernel_rfl))
 case hn => rfl
 case op =>
  repeat' first | exact Each.nil | refine Each.cons ?_ ?_
  all_goals intro X w7 H hb hD h
  · refine tv rfl (by rfl) ?_ (by exact h _ w7 rfl (Below.refl _ _))
    go_simp <;> rfl
  · have e0_ : X 0 = _ := hD 0 (by decide) rfl
    have z0 := (hb.cell (p := ⟨w.heap.size, 0, none⟩) lA).trans x0
    have z1 := (hb.cell (p := ⟨w.heap.size, 1, none⟩) lA).trans x1
    refine tv rfl (by simp only [e0_]; rfl) ?_ (by exact h _ w7 rfl (Below.refl _ _))
    simp only [e0_]; go_simp <;> rfl
  · have e1_ : X 1 = _ := hD 1 (by decide) rfl
    have h1 := h1.below hb
    refine wpOp_call (i := 2) (f := 61) (args := #[.agg #[.bool s1, .slice a1 n1 c1]]) 7 rfl rfl (by simp only [e1_]; rfl) (by simp only [e1_]; go_simp) ?_
    refine (rright_arg s1 a1 n1 c1 (some n) w7 h1).mono ?_
    rintro e w8 ⟨rfl, hk⟩
    exact ⟨_, rfl, h _ w8 rfl hk⟩
  · have e2_ : X 2 = _ := hD 2 (by decide) rfl
    refine tv rfl (by simp only [e2_]; rfl) ?_ (by exact h _ w7 rfl (Below.refl _ _))
    simp only [e2_]; go_simp <;> rfl
  · have e3_ : X 3 = _ := hD 3 (by decide) rfl
    refine tv rfl (by simp only [e3_]; rfl) ?_ (by exact h _ w7 rfl (Below.refl _ _))
    simp only [e3_]; go_simp <;> rfl
  · have e4_ : X 4 = _ := hD 4 (by decide) rfl
    refine tv rfl (by simp only [e4_]; rfl) ?_ (by exact h _ w7 rfl (Below.refl _ _))
    simp only [e4_]; go_simp <;> rfl
  · have e4_ : X 4 = _ := hD 4 (by decide) rfl
    have e5_ : X 5 = _ := hD 5 (by decide) rfl
    have z2 := (hb.cell (p := ⟨w.heap.size, 2, none⟩) lA).trans x2
    have z3 := (hb.cell (p := ⟨w.heap.size, 3, none⟩) lA).trans x3
    refine tv rfl (by simp only [e4_, e5_]; rfl) ?_ (by exact h _ w7 rfl (Below.refl _ _))
    simp only [e4_, e5_]; go_simp <;> rfl
  · have e4_ : X 4 = _ := hD 4 (by decide) rfl
    have e6_ : X 6 = _ := hD 6 (by decide) rfl
    have h2 := h2.below hb
    refine wpOp_call (i := 7) (f := 61) (args := #[.agg #[.bool s2, .slice a2 n2 c2]]) 12 rfl rfl (by simp only [e4_, e6_]; rfl) (by simp only [e4_, e6_]; go_simp) ?_
    refine (rright_arg s2 a2 n2 c2 (some d) w7 h2).mono ?_
    rintro e w8 ⟨rfl, hk⟩
    exact ⟨_, rfl, h _ w8 rfl hk⟩
  · have e4_ : X 4 = _ := hD 4 (by decide) rfl
    have e7_ : X 7 = _ := hD 7 (by decide) rfl
    refine tv rfl (by simp only [e4_, e7_]; rfl) ?_ (by exact h _ w7 rfl (Below.refl _ _))
    simp only [e4_, e7_]; go_simp <;> rfl
  · have e4_ : X 4 = _ := hD 4 (by decide) rfl
    have e8_ : X 8 = _ := hD 8 (by decide) rfl
    refine tv rfl (by simp only [e4_, e8_]; rfl) ?_ (by exact h _ w7 rfl (Below.refl _ _))
    simp only [e4_, e8_]; go_simp <;> rfl
  · have e9_ : X 9 = _ := hD 9 (by decide) rfl
    refine tv rfl (by simp only [e9_]; rfl) ?_ (by exact h _ w7 rfl (Below.refl _ _))
    simp only [e9_]; go_simp <;> rfl
  · have e10_ : X 10 = _ := hD 10 (by decide) rfl
    refine tv rfl (by simp only [e10_]; rfl) ?_ (by exact h _ w7 rfl (Below.refl _ _))
    simp only [e10_]; go_simp <;> rfl
  · have e10_ : X 10 = _ := hD 10 (by decide) rfl
    have e11_ : X 11 = _ := hD 11 (by decide) rfl
    have z2 := (hb.cell (p := ⟨w.heap.size, 2, none⟩) lA).trans x2
    have z3 := (hb.cell (p := ⟨w.heap.size, 3, none⟩) lA).trans x3
    refine tv rfl (by simp only [e10_, e11_]; rfl) ?_ (by exact h _ w7 rfl (Below.refl _ _))
    simp only [e10_, e11_]; go_simp <;> rfl
  · have e10_ : X 10 = _ := hD 10 (by decide) rfl
    refine wpOp_call (i := 13) (f := 82) (args := #[.int .i64 1]) 18 rfl rfl (by simp only [e10_]; rfl) (by simp only [e10_]; go_simp) ?_
    refine (whole_r 1 (by decide) (by decide) w7).mono ?_
    rintro e w8 ⟨s6, a6, n6, c6, rfl, N6, k6, l6, hk⟩
    exact ⟨_, rfl, h _ w8 ⟨s6, a6, n6, c6, rfl, N6, k6, fun _ => l6⟩ hk⟩
  · have e10_ : X 10 = _ := hD 10 (by decide) rfl
    have e12_ : X 12 = _ := hD 12 (by decide) rfl
    obtain ⟨s13_, a13_, n13_, c13_, e13_, N13_, k13_, q13_⟩ := hD 13 (by decide) rfl
    have h2 := h2.below hb
    have cc := rcmp_any s2 s13_ a2 a13_ n2 n13_ c2 c13_ d 1 h2.2 k13_ w7 h2.1 N13_
    rw [HC.out] at cc
    refine wpOp_call (i := 14) (f := 81) (args := #[.agg #[.bool s2, .slice a2 n2 c2], .agg #[.bool s13_, .slice a13_ n13_ c13_]]) 19 rfl rfl (by simp only [e10_, e12_, e13_]; rfl) (by simp only [e10_, e12_, e13_]; go_simp) ?_
    refine (cc).mono ?_
    rintro e w8 ⟨rfl, hk⟩
    exact ⟨_, rfl, h _ w8 rfl hk⟩
  · have e10_ : X 10 = _ := hD 10 (by decide) rfl
    have e14_ : X 14 = _ := hD 14 (by decide) rfl
    refine tv rfl (by simp only [e10_, e14_]; rfl) ?_ (by exact h _ w7 rfl (Below.refl _ _))
    simp only [e10_, e14_]; go_simp <;> rfl
  · have e10_ : X 10 = _ := hD 10 (by decide) rfl
    have e15_ : X 15 = _ := hD 15 (by decide) rfl
    refine tv rfl (by simp only [e10_, e15_]; rfl) ?_ (by exact h _ w7 rfl (Below.refl _ _))
    simp only [e10_, e15_]; go_simp <;> rfl
 case al => exact Each.nil
 case st => exact Each.nil
 case fin =>
  intro X1 w9 hI
  have hE := hI.below
  have e16_ : X1 16 = _ := hI.fact 16 (by decide) rfl rfl
  have h1 := h1.below hE
  have h2 := h2.below hE
  have qA := qA.below hE
  clear hI
  simp only [e16_]
  clear e16_
  clear x0 x1 x2 x3 lA
  have hB := hB.trans (hE.mono hB.size)
  clear hE
  by_cases hd : 1 ≤ d
  · have hCl : decide (C < 0) = false := by
     rw [← HC.out]; unfold cmpZ
     rw [if_neg (by omega)]
     by_cases h : d = 1
     · rw [if_pos h]; rfl
     · rw [if_neg h]; rfl
    simp only [hCl]
    clear hCl
    obtain ⟨⟨x10, x11, x12, x13⟩, -, -, -, -⟩ := id qA
    go_wp2_with fail
    clear x10 x11 x12 x13
    have cc := rgcd_num s1 s2 a1 a2 n1 n2 c1 c2 n d h1.2 h2.2 l1 l2 w9 h1.1 h2.1
    obtain ⟨g, hg⟩ : ∃ g, ((Int.gcd n d : Nat) : Int) = g := ⟨_, rfl⟩
    rw [hg] at cc
    refine cc.mono ?_
    clear cc
    rintro e u1 ⟨s6, a6, n6, c6, rfl, N6, -, hk⟩
    have k6 : n6 ≤ 64 := by rw [N6.dig.len, ← hg]; exact gcd_fit h1.1 h2.1 h1.2 h2.2
    obtain ⟨G, hG⟩ : ∃ G, cmpZ g 1 = G := ⟨_, rfl⟩
    have HG := hide hG
    have HR : Hid ((G == 0) = rightO (some n) (some d)) := hide (by
     show (G == 0) = (decide (1 ≤ d) && decide (Int.gcd n d = 1))
     rw [decide_eq_true hd, Bool.true_and, ← hG, ← hg]
     unfold cmpZ
     by_cases e1 : Int.gcd n d = 1
     · rw [e1]; rfl
     · rw [decide_eq_false e1]
       by_cases e2 : ((Int.gcd n d : Nat) : Int) < 1
       · rw [if_pos e2]; rfl
       · rw [if_neg e2, if_neg (by omega)]; rfl)
    clear hg hG hd
    have hB := hB.trans (hk.mono hB.size)
    have qA := qA.below hk
    clear hk
    obtain ⟨Z6, hZ6⟩ : ∃ Z, u1.alloc (Obj.cells #[.bool false, .slice none 0 0] 25) = Z := ⟨_, rfl⟩
    obtain ⟨W6, hW6⟩ : ∃ W, (Z6.setCell ⟨u1.heap.size, 0, none⟩ (.bool s6)).setCell ⟨u1.heap.size, 1, none⟩ (.slice a6 n6 c6) = W := ⟨_, rfl⟩
    obtain ⟨H6, hk, bx6⟩ := num_new (c := c6) hZ6 hW6 N6
    clear N6
    obtain ⟨B6, hB6⟩ : ∃ B, u1.heap.size = B := ⟨_, rfl⟩
    have hB := hB.trans (hk.mono hB.size)
    have qA := qA.below hk
    clear hk
    rw [hB6] at hW6 H6 bx6
    obtain ⟨y60, y61, yz60, yz61⟩ := id bx6
    go_wp2_with fail
    try rw [hW6]
    try rw [hB6]
    clear hW6 hB6
    clear y60 y61 yz60 yz61
    have hB := hB.drew
    have H6 := H6.below (Below.drew (Below.refl W6.heap.size W6))
    refine wp_region_held_drew (S := fun w' => Below (W6.drew.heap.size) W6.drew w') (by kernel_rfl) (Below.refl _ _) (fun hHeld => ?_)
    obtain ⟨WF, hWE⟩ : ∃ W, W6.drew = W := ⟨_, rfl⟩
    rw [hWE] at hB H6 hHeld ⊢
    clear hWE
    have hE := Below.refl WF.heap.size WF
    have lB := H6.box.lt
    obtain ⟨x30, x31, -, -⟩ := id H6.box
    clear hHeld
    refine dagT 5 ?hn (fun X => ⟨#[.agg #[.bool s1, .slice a1 n1 c1, .bool s2, .slice a2 n2 c2], .pointer (some ⟨w.heap.size, 0, none⟩), X 4, .pointer (some ⟨B6, 0, none⟩), .bool true, X1 0, X1 1, X1 2, X1 3, X1 4, X1 5, X1 6, X1 7, X1 8, X1 9, X1 10, X1 11, X1 12, X1 13, X1 14, X1 15, .bool false, .tuple #[.agg #[.bool s6, .slice a6 n6 c6], .bool true], .pointer (some ⟨w.heap.size, 0, none⟩), .agg #[.bool s1, .slice a1 n1 c1], .pointer (some ⟨w.heap.size, 2, none⟩), .agg #[.bool s2, .slice a2 n2 c2], .tuple #[.agg #[.bool s6, .slice a6 n6 c6], .bool true], .agg #[.bool s6, .slice a6 n6 c6], .bool true, X 0, X 1, X 2, X 3], []⟩) [(0, 0, 0), (0, 0, 0), (0, 0, 0), (0, 0, 0), (0, 0, 0)] [.val (.agg #[.bool s6, .slice a6 n6 c6]), .num 1 true, .val (.int .i64 G), .val (.bool (G == 0)), .val (.bool (G == 0))] [[], [], [0, 1], [2], [3]] [0, 1, 2, 3, 4] [] [] 25 37 WF (by kernel_rfl) (by kernel_rfl) (by kernel_rfl) (by kernel_rfl) (by kernel_rfl) ?op ?al ?st ?fin (upd (fun _ => undef) 4 (.bool false)) _ _ (by kernel_rfl) (of_decide_eq_true (by kernel_rfl)) (of_decide_eq_true (by kernel_rfl))
    case hn => rfl
    case op =>
     repeat' first | exact Each.nil | refine Each.cons ?_ ?_
     all_goals intro X w7 H hb hD h
     · have z0 := (hb.cell (p := ⟨B6, 0, none⟩) lB).trans x30
       have z1 := (hb.cell (p := ⟨B6, 1, none⟩) lB).trans x31
       refine tv rfl (by rfl) ?_ (by exact h _ w7 rfl (Below.refl _ _))
       go_simp <;> rfl
     · refine wpOp_call (i := 1) (f := 82) (args := #[.int .i64 1]) 31 rfl rfl (by rfl) (by go_simp) ?_
       refine (whole_r 1 (by decide) (by decide) w7).mono ?_
       rintro e w8 ⟨s6, a6, n6, c6, rfl, N6, k6, l6, hk⟩
       exact ⟨_, rfl, h _ w8 ⟨s6, a6, n6, c6, rfl, N6, k6, fun _ => l6⟩ hk⟩
     · have e0_ : X 0 = _ := hD 0 (by decide) rfl
       obtain ⟨s1_, a1_, n1_, c1_, e1_, N1_, k1_, q1_⟩ := hD 1 (by decide) rfl
       have H6 := H6.below hb
       have cc := rcmp_any s6 s1_ a6 a1_ n6 n1_ c6 c1_ g 1 k6 k1_ w7 H6.num N1_
       rw [HG.out] at cc
       refine wpOp_call (i := 2) (f := 81) (args := #[.agg #[.bool s6, .slice a6 n6 c6], .agg #[.bool s1_, .slice a1_ n1_ c1_]]) 32 rfl rfl (by simp only [e0_, e1_]; rfl) (by simp only [e0_, e1_]; go_simp) ?_
       refine (cc).mono ?_
       rintro e w8 ⟨rfl, hk⟩
       exact ⟨_, rfl, h _ w8 rfl hk⟩
     · have e2_ : X 2 = _ := hD 2 (by decide) rfl
       refine tv rfl (by simp only [e2_]; rfl) ?_ (by exact h _ w7 rfl (Below.refl _ _))
       simp only [e2_]; go_simp <;> rfl
     · have e3_ : X 3 = _ := hD 3 (by decide) rfl
       refine tv rfl (by simp only [e3_]; rfl) ?_ (by exact h _ w7 rfl (Below.refl _ _))
       simp only [e3_]; go_simp <;> rfl
    case al => exact Each.nil
    case st => exact Each.nil
    case fin =>
     intro X4 wF hI
     have hE := hI.below
     have e4_ : X4 4 = _ := hI.fact 4 (by decide) rfl rfl
     have H6 := H6.below hE
     clear hI
     simp only [e4_]
     clear e4_
     clear x30 x31 lB
     have hB := hB.trans (hE.mono hB.size)
     clear hE
     go_wp2
     go_ret
     exact ⟨by rw [← HR.out]; rfl, hB⟩
  · have hCl : decide (C < 0) = true := by
     rw [← HC.out]; unfold cmpZ
     rw [if_pos (by omega)]; rfl
    simp only [hCl]
    have HR : Hid (rightO (some n) (some d) = false) := hide (by
     show (decide (1 ≤ d) && decide (Int.gcd n d = 1)) = false
     rw [decide_eq_false hd, Bool.false_and])
    clear hCl hd
    go_wp2
    go_ret
    exact ⟨by rw [HR.out]; rfl, hB⟩
theorem rright_r (s1 s2 : Bool) (a1 a2 : Option Addr) (n1 n2 c1 c2 : Nat) (o : Option Rat) (l1 : n1 ≤ c1) (l2 : n2 ≤ c2) (w : World) (h : RArg w s1 a1 n1 s2 a2 n2 o) :
 Calls Tryz.prog 27 #[.agg #[.bool s1, .slice a1 n1 c1, .bool s2, .slice a2 n2 c2]] w fun e w' => e = .returned (.bool o.isSome) ∧ Below w.heap.size w w' := by
 cases o with
 | some x =>
   have := rright_both s1 s2 a1 a2 n1 n2 c1 c2 x.num (x.den : Int) l1 l2 w ⟨h.1, h.2.2.1⟩ ⟨h.2.1, h.2.2.2⟩
   rw [rightO_rat] at this; exact this
 | none =>
   obtain ⟨o1, o2, h1, h2, h3⟩ := h
   cases o1 with
   | none => exact rright_no_a s1 s2 a1 a2 n1 n2 c1 c2 w h1
   | some n =>
     cases o2 with
     | none => exact rright_no_b s1 s2 a1 a2 n1 n2 c1 c2 n w h1 h2
     | some d =>
       have := rright_both s1 s2 a1 a2 n1 n2 c1 c2 n d l1 l2 w h1 h2
       rw [h3] at this; exact this
end Go.Proofs.YtgenaicmjddjcaaGreatDoor
