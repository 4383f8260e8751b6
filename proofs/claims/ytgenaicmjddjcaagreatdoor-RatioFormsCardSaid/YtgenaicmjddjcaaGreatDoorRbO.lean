/- Of of any two Nums: the reference's and the program's. -/
import Derived.Test.YtgenaicmjddjcaaGreatDoorRbS
namespace Go.Proofs.YtgenaicmjddjcaaGreatDoor
open Go.RowKit Go.Shelf

def ofO : Option Int → Option Int → Option Rat
 | some n, some d => divO n d
 | _, _ => none
theorem of_o (s1 s2 : Bool) (a1 a2 : Option Addr) (n1 n2 c1 c2 : Nat) (o1 o2 : Option Int) (w : World) (h1 : Arg w s1 a1 n1 o1) (h2 : Arg w s2 a2 n2 o2) :
 Calls Tryz.prog 30 #[.agg #[.bool s1, .slice a1 n1 c1], .agg #[.bool s2, .slice a2 n2 c2]] w (RatPost w (ofO o1 o2)) := by
 have h := ratOf_any s1 s2 a1 a2 n1 n2 c1 c2 o1 o2 w h1 h2
 cases o1 with
 | none => exact h
 | some n =>
   cases o2 with
   | none => exact h
   | some d => exact of_r s1 s2 a1 a2 n1 n2 c1 c2 n d h1.2 h2.2 w h1.1 h2.1
set_option maxRecDepth 100000 in
set_option maxHeartbeats 4000000 in
theorem rof_no_a (s1 s2 : Bool) (a1 a2 : Option Addr) (n1 n2 c1 c2 : Nat) (w : World) (h1 : Arg w s1 a1 n1 none) :
 Calls Tryz.prog 31 #[.agg #[.bool s1, .slice a1 n1 c1], .agg #[.bool s2, .slice a2 n2 c2]] w (RatPC w none) := by
 go_enter Tryz.func31, Tryz.ntmps31
 go_wp2_with fail
 obtain ⟨W1, hW1⟩ : ∃ W1, ((w.alloc (Obj.cells #[.bool s1, .slice a1 n1 c1] 25)).alloc (Obj.cells #[.bool s2, .slice a2 n2 c2] 25)).alloc (Obj.cells #[.bool false, .slice none 0 0, .bool false, .slice none 0 0] 37) = W1 := ⟨_, rfl⟩
 obtain ⟨bA, bB, qC, hB⟩ := rof_boxes w _ _ _ _ _ _ hW1
 have h1 := h1.below hB
 try rw [hW1]
 clear hW1
 have hB := hB.drew
 have h1 := h1.below (Below.drew (Below.refl W1.heap.size W1))
 have bA : Box2 W1.drew _ _ _ := bA.below (Below.drew (Below.refl _ _)) bA.lt
 have bB : Box2 W1.drew _ _ _ := bB.below (Below.drew (Below.refl _ _)) bB.lt
 have qC := qC.below (Below.drew (Below.refl W1.heap.size W1))
 refine wp_region_held_drew (S := fun w' => Below (W1.drew.heap.size) W1.drew w') (by kernel_rfl) (Below.refl _ _) (fun hHeld => ?_)
 obtain ⟨WE, hWE⟩ : ∃ W, W1.drew = W := ⟨_, rfl⟩
 rw [hWE] at hB h1 bA bB qC hHeld ⊢
 clear hWE
 have hE := Below.refl WE.heap.size WE
 have lA := bA.lt
 have lB := bB.lt
 obtain ⟨x10, x11, -, -⟩ := id bA
 obtain ⟨x20, x21, -, -⟩ := id bB
 clear hHeld
 refine dagT 14 ?hn (fun X => ⟨#[.agg #[.bool s1, .slice a1 n1 c1], .agg #[.bool s2, .slice a2 n2 c2], .pointer (some ⟨w.heap.size, 0, none⟩), .pointer (some ⟨w.heap.size + 1, 0, none⟩), .pointer (some ⟨w.heap.size + 1 + 1, 0, none⟩), .bool false, undef, undef, undef, X 0, X 1, X 2, X 3, X 4, X 5, X 6, X 7, X 8, X 9, X 10, X 11, X 12, X 13, undef, undef, undef, undef, undef, undef, undef, undef, undef, undef, undef, undef, undef, undef, undef, undef, undef, undef, undef, undef, undef, undef, undef, undef, undef, undef, undef], []⟩) [(0, 0, 0), (0, 0, 0), (0, 0, 0), (0, 0, 0), (0, 0, 0), (0, 0, 0), (0, 0, 0), (0, 0, 0), (0, 0, 0), (0, 0, 0), (0, 0, 0), (0, 0, 0), (0, 0, 0), (0, 0, 0)] [.val (.agg #[.bool s1, .slice a1 n1 c1]), .val (.bool false), .val (.bool true), .val (.bool true), .val undef, .val undef, .val undef, .val (.bool true), .val (.bool true), .val undef, .val undef, .val undef, .val undef, .val (.bool true)] [[], [0], [1], [2], [3], [3, 4], [3, 5], [3, 6], [7], [8], [8], [8, 9, 10], [8, 11], [8, 12]] [0, 1, 2, 3, 4, 5, 6, 7, 8, 9, 10, 11, 12, 13] [] [] 25 37 WE (by kernel_rfl) (by kernel_rfl) (by kernel_rfl) (by kernel_rfl) (by kernel_rfl) ?op ?al ?st ?fin (fun _ => undef) _ _ (by kernel_rfl) (of_decide_eq_true (by kernel_rfl)) (of_decide_eq_true (by kernel_rfl))
 case hn => rfl
 case op =>
  repeat' first | exact Each.nil | refine Each.cons ?_ ?_
  all_goals intro X w7 H hb hD h
  · have z0 := (hb.cell (p := ⟨w.heap.size, 0, none⟩) lA).trans x10
    have z1 := (hb.cell (p := ⟨w.heap.size, 1, none⟩) lA).trans x11
    refine tv rfl (by rfl) ?_ (by exact h _ w7 rfl (Below.refl _ _))
    go_simp <;> rfl
  · have e0_ : X 0 = _ := hD 0 (by decide) rfl
    have h1 := h1.below hb
    refine wpOp_call (i := 1) (f := 61) (args := #[.agg #[.bool s1, .slice a1 n1 c1]]) 10 rfl rfl (by simp only [e0_]; rfl) (by simp only [e0_]; go_simp) ?_
    refine (rright_arg s1 a1 n1 c1 none w7 h1).mono ?_
    rintro e w8 ⟨rfl, hk⟩
    exact ⟨_, rfl, h _ w8 rfl hk⟩
  · have e1_ : X 1 = _ := hD 1 (by decide) rfl
    refine tv rfl (by simp only [e1_]; rfl) ?_ (by exact h _ w7 rfl (Below.refl _ _))
    simp only [e1_]; go_simp <;> rfl
  · have e2_ : X 2 = _ := hD 2 (by decide) rfl
    refine tv rfl (by simp only [e2_]; rfl) ?_ (by exact h _ w7 rfl (Below.refl _ _))
    simp only [e2_]; go_simp <;> rfl
  · have e3_ : X 3 = _ := hD 3 (by decide) rfl
    refine tu rfl (by simp only [e3_]; rfl) ?_
    exact h _ w7 rfl (Below.refl _ _)
  · have e3_ : X 3 = _ := hD 3 (by decide) rfl
    have e4_ : X 4 = _ := hD 4 (by decide) rfl
    refine tu rfl (by simp only [e3_, e4_]; rfl) ?_
    exact h _ w7 rfl (Below.refl _ _)
  · have e3_ : X 3 = _ := hD 3 (by decide) rfl
    have e5_ : X 5 = _ := hD 5 (by decide) rfl
    refine tu rfl (by simp only [e3_, e5_]; rfl) ?_
    exact h _ w7 rfl (Below.refl _ _)
  · have e3_ : X 3 = _ := hD 3 (by decide) rfl
    have e6_ : X 6 = _ := hD 6 (by decide) rfl
    refine tv rfl (by simp only [e3_, e6_]; rfl) ?_ (by exact h _ w7 rfl (Below.refl _ _))
    simp only [e3_, e6_]; go_simp <;> rfl
  · have e7_ : X 7 = _ := hD 7 (by decide) rfl
    refine tv rfl (by simp only [e7_]; rfl) ?_ (by exact h _ w7 rfl (Below.refl _ _))
    simp only [e7_]; go_simp <;> rfl
  · have e8_ : X 8 = _ := hD 8 (by decide) rfl
    refine tu rfl (by simp only [e8_]; rfl) ?_
    exact h _ w7 rfl (Below.refl _ _)
  · have e8_ : X 8 = _ := hD 8 (by decide) rfl
    refine tu rfl (by simp only [e8_]; rfl) ?_
    exact h _ w7 rfl (Below.refl _ _)
  · have e8_ : X 8 = _ := hD 8 (by decide) rfl
    have e9_ : X 9 = _ := hD 9 (by decide) rfl
    have e10_ : X 10 = _ := hD 10 (by decide) rfl
    refine tu rfl (by simp only [e8_, e9_, e10_]; rfl) ?_
    exact h _ w7 rfl (Below.refl _ _)
  · have e8_ : X 8 = _ := hD 8 (by decide) rfl
    have e11_ : X 11 = _ := hD 11 (by decide) rfl
    refine tu rfl (by simp only [e8_, e11_]; rfl) ?_
    exact h _ w7 rfl (Below.refl _ _)
  · have e8_ : X 8 = _ := hD 8 (by decide) rfl
    have e12_ : X 12 = _ := hD 12 (by decide) rfl
    refine tv rfl (by simp only [e8_, e12_]; rfl) ?_ (by exact h _ w7 rfl (Below.refl _ _))
    simp only [e8_, e12_]; go_simp <;> rfl
 case al => exact Each.nil
 case st => exact Each.nil
 case fin =>
  intro X1 w9 hI
  have hE := hI.below
  have e13_ : X1 13 = _ := hI.fact 13 (by decide) rfl rfl
  have bA := bA.below hE bA.lt
  have bB := bB.below hE bB.lt
  have qC := qC.below hE
  clear hI
  simp only [e13_]
  clear e13_
  clear x10 x11 x20 x21 lA lB bA bB
  have hB := hB.trans (hE.mono hB.size)
  clear hE
  have qz := id qC
  obtain ⟨⟨x90, x91, x92, x93⟩, z90, z91, z92, z93⟩ := id qC
  obtain ⟨Wz, hWz⟩ : ∃ W, (((w9.setCell ⟨w.heap.size + 1 + 1, 0, none⟩ (.bool false)).setCell ⟨w.heap.size + 1 + 1, 1, none⟩ (.slice none 0 0)).setCell ⟨w.heap.size + 1 + 1, 2, none⟩ (.bool false)).setCell ⟨w.heap.size + 1 + 1, 3, none⟩ (.slice none 0 0) = W := ⟨_, rfl⟩
  obtain ⟨⟨⟨q0, q1, q2, q3⟩, -, -, -, -⟩, -⟩ := qz.set _ _ _ _ hWz
  have hBz : Below w.heap.size w Wz := by rw [← hWz]; exact below_set4 hB (by omega) _ _ _ _
  have HWz := hide hWz
  have K := hide (And.intro (And.intro q0 q1) (And.intro (And.intro q2 q3) hBz))
  clear hWz hBz q0 q1 q2 q3 qz qC
  go_wp2
  obtain ⟨⟨q0, q1⟩, ⟨q2, q3⟩, hBB⟩ := K.out
  rw [HWz.out]
  exact bodyPost_ret (v := .tuple #[.agg #[.bool false, .slice none 0 0, .bool false, .slice none 0 0], .bool false]) (by simp [results, Tryz.results31, go_sem, q0, q1, q2, q3]) rfl ⟨_, _, _, _, _, _, _, _, rfl, zero_num _, zero_num _, by decide, by decide, hBB, Nat.le_refl _, Nat.le_refl _⟩
set_option maxRecDepth 100000 in
set_option maxHeartbeats 4000000 in
theorem rof_no_b (s1 s2 : Bool) (a1 a2 : Option Addr) (n1 n2 c1 c2 : Nat) (z : Int) (w : World) (h1 : Arg w s1 a1 n1 (some z)) (h2 : Arg w s2 a2 n2 none) :
 Calls Tryz.prog 31 #[.agg #[.bool s1, .slice a1 n1 c1], .agg #[.bool s2, .slice a2 n2 c2]] w (RatPC w none) := by
 go_enter Tryz.func31, Tryz.ntmps31
 go_wp2_with fail
 obtain ⟨W1, hW1⟩ : ∃ W1, ((w.alloc (Obj.cells #[.bool s1, .slice a1 n1 c1] 25)).alloc (Obj.cells #[.bool s2, .slice a2 n2 c2] 25)).alloc (Obj.cells #[.bool false, .slice none 0 0, .bool false, .slice none 0 0] 37) = W1 := ⟨_, rfl⟩
 obtain ⟨bA, bB, qC, hB⟩ := rof_boxes w _ _ _ _ _ _ hW1
 have h1 := h1.below hB
 have h2 := h2.below hB
 try rw [hW1]
 clear hW1
 have hB := hB.drew
 have h1 := h1.below (Below.drew (Below.refl W1.heap.size W1))
 have h2 := h2.below (Below.drew (Below.refl W1.heap.size W1))
 have bA : Box2 W1.drew _ _ _ := bA.below (Below.drew (Below.refl _ _)) bA.lt
 have bB : Box2 W1.drew _ _ _ := bB.below (Below.drew (Below.refl _ _)) bB.lt
 have qC := qC.below (Below.drew (Below.refl W1.heap.size W1))
 refine wp_region_held_drew (S := fun w' => Below (W1.drew.heap.size) W1.drew w') (by kernel_rfl) (Below.refl _ _) (fun hHeld => ?_)
 obtain ⟨WE, hWE⟩ : ∃ W, W1.drew = W := ⟨_, rfl⟩
 rw [hWE] at hB h1 h2 bA bB qC hHeld ⊢
 clear hWE
 have hE := Below.refl WE.heap.size WE
 have lA := bA.lt
 have lB := bB.lt
 obtain ⟨x10, x11, -, -⟩ := id bA
 obtain ⟨x20, x21, -, -⟩ := id bB
 clear hHeld
 refine dagT 14 ?hn (fun X => ⟨#[.agg #[.bool s1, .slice a1 n1 c1], .agg #[.bool s2, .slice a2 n2 c2], .pointer (some ⟨w.heap.size, 0, none⟩), .pointer (some ⟨w.heap.size + 1, 0, none⟩), .pointer (some ⟨w.heap.size + 1 + 1, 0, none⟩), .bool false, undef, undef, undef, X 0, X 1, X 2, X 3, X 4, X 5, X 6, X 7, X 8, X 9, X 10, X 11, X 12, X 13, undef, undef, undef, undef, undef, undef, undef, undef, undef, undef, undef, undef, undef, undef, undef, undef, undef, undef, undef, undef, undef, undef, undef, undef, undef, undef, undef], []⟩) [(0, 0, 0), (0, 0, 0), (0, 0, 0), (0, 0, 0), (0, 0, 0), (0, 0, 0), (0, 0, 0), (0, 0, 0), (0, 0, 0), (0, 0, 0), (0, 0, 0), (0, 0, 0), (0, 0, 0), (0, 0, 0)] [.val (.agg #[.bool s1, .slice a1 n1 c1]), .val (.bool true), .val (.bool false), .val (.bool false), .val (.agg #[.bool s2, .slice a2 n2 c2]), .val (.bool false), .val (.bool true), .val (.bool true), .val (.bool true), .val undef, .val undef, .val undef, .val undef, .val (.bool true)] [[], [0], [1], [2], [3], [3, 4], [3, 5], [3, 6], [7], [8], [8], [8, 9, 10], [8, 11], [8, 12]] [0, 1, 2, 3, 4, 5, 6, 7, 8, 9, 10, 11, 12, 13] [] [] 25 37 WE (by kernel_rfl) (by kernel_rfl) (by kernel_rfl) (by kernel_rfl) (by kernel_rfl) ?op ?al ?st ?fin (fun _ => undef) _ _ (by kernel_rfl) (of_decide_eq_true (by kernel_rfl)) (of_decide_eq_true (by kernel_rfl))
 case hn => rfl
 case op =>
  repeat' first | exact Each.nil | refine Each.cons ?_ ?_
  all_goals intro X w7 H hb hD h
  · have z0 := (hb.cell (p := ⟨w.heap.size, 0, none⟩) lA).trans x10
    have z1 := (hb.cell (p := ⟨w.heap.size, 1, none⟩) lA).trans x11
    refine tv rfl (by rfl) ?_ (by exact h _ w7 rfl (Below.refl _ _))
    go_simp <;> rfl
  · have e0_ : X 0 = _ := hD 0 (by decide) rfl
    have h1 := h1.below hb
    refine wpOp_call (i := 1) (f := 61) (args := #[.agg #[.bool s1, .slice a1 n1 c1]]) 10 rfl rfl (by simp only [e0_]; rfl) (by simp only [e0_]; go_simp) ?_
    refine (rright_arg s1 a1 n1 c1 (some z) w7 h1).mono ?_
    rintro e w8 ⟨rfl, hk⟩
    exact ⟨_, rfl, h _ w8 rfl hk⟩
  · have e1_ : X 1 = _ := hD 1 (by decide) rfl
    refine tv rfl (by simp only [e1_]; rfl) ?_ (by exact h _ w7 rfl (Below.refl _ _))
    simp only [e1_]; go_simp <;> rfl
  · have e2_ : X 2 = _ := hD 2 (by decide) rfl
    refine tv rfl (by simp only [e2_]; rfl) ?_ (by exact h _ w7 rfl (Below.refl _ _))
    simp only [e2_]; go_simp <;> rfl
  · have e3_ : X 3 = _ := hD 3 (by decide) rfl
    have z0 := (hb.cell (p := ⟨w.heap.size + 1, 0, none⟩) lB).trans x20
    have z1 := (hb.cell (p := ⟨w.heap.size + 1, 1, none⟩) lB).trans x21
    refine tv rfl (by simp only [e3_]; rfl) ?_ (by exact h _ w7 rfl (Below.refl _ _))
    simp only [e3_]; go_simp <;> rfl
  · have e3_ : X 3 = _ := hD 3 (by decide) rfl
    have e4_ : X 4 = _ := hD 4 (by decide) rfl
    have h2 := h2.below hb
    refine wpOp_call (i := 5) (f := 61) (args := #[.agg #[.bool s2, .slice a2 n2 c2]]) 14 rfl rfl (by simp only [e3_, e4_]; rfl) (by simp only [e3_, e4_]; go_simp) ?_
    refine (rright_arg s2 a2 n2 c2 none w7 h2).mono ?_
    rintro e w8 ⟨rfl, hk⟩
    exact ⟨_, rfl, h _ w8 rfl hk⟩
  · have e3_ : X 3 = _ := hD 3 (by decide) rfl
    have e5_ : X 5 = _ := hD 5 (by decide) rfl
    refine tv rfl (by simp only [e3_, e5_]; rfl) ?_ (by exact h _ w7 rfl (Below.refl _ _))
    simp only [e3_, e5_]; go_simp <;> rfl
  · have e3_ : X 3 = _ := hD 3 (by decide) rfl
    have e6_ : X 6 = _ := hD 6 (by decide) rfl
    refine tv rfl (by simp only [e3_, e6_]; rfl) ?_ (by exact h _ w7 rfl (Below.refl _ _))
    simp only [e3_, e6_]; go_simp <;> rfl
  · have e7_ : X 7 = _ := hD 7 (by decide) rfl
    refine tv rfl (by simp only [e7_]; rfl) ?_ (by exact h _ w7 rfl (Below.refl _ _))
    simp only [e7_]; go_simp <;> rfl
  · have e8_ : X 8 = _ := hD 8 (by decide) rfl
    refine tu rfl (by simp only [e8_]; rfl) ?_
    exact h _ w7 rfl (Below.refl _ _)
  · have e8_ : X 8 = _ := hD 8 (by decide) rfl
    refine tu rfl (by simp only [e8_]; rfl) ?_
    exact h _ w7 rfl (Below.refl _ _)
  · have e8_ : X 8 = _ := hD 8 (by decide) rfl
    have e9_ : X 9 = _ := hD 9 (by decide) rfl
    have e10_ : X 10 = _ := hD 10 (by decide) rfl
    refine tu rfl (by simp only [e8_, e9_, e10_]; rfl) ?_
    exact h _ w7 rfl (Below.refl _ _)
  · have e8_ : X 8 = _ := hD 8 (by decide) rfl
    have e11_ : X 11 = _ := hD 11 (by decide) rfl
    refine tu rfl (by simp only [e8_, e11_]; rfl) ?_
    exact h _ w7 rfl (Below.refl _ _)
  · have e8_ : X 8 = _ := hD 8 (by decide) rfl
    have e12_ : X 12 = _ := hD 12 (by decide) rfl
    refine tv rfl (by simp only [e8_, e12_]; rfl) ?_ (by exact h _ w7 rfl (Below.refl _ _))
    simp only [e8_, e12_]; go_simp <;> rfl
 case al => exact Each.nil
 case st => exact Each.nil
 case fin =>
  intro X1 w9 hI
  have hE := hI.below
  have e13_ : X1 13 = _ := hI.fact 13 (by decide) rfl rfl
  have bA := bA.below hE bA.lt
  have bB := bB.below hE bB.lt
  have qC := qC.below hE
  clear hI
  simp only [e13_]
  clear e13_
  clear x10 x11 x20 x21 lA lB bA bB
  have hB := hB.trans (hE.mono hB.size)
  clear hE
  have qz := id qC
  obtain ⟨⟨x90, x91, x92, x93⟩, z90, z91, z92, z93⟩ := id qC
  obtain ⟨Wz, hWz⟩ : ∃ W, (((w9.setCell ⟨w.heap.size + 1 + 1, 0, none⟩ (.bool false)).setCell ⟨w.heap.size + 1 + 1, 1, none⟩ (.slice none 0 0)).setCell ⟨w.heap.size + 1 + 1, 2, none⟩ (.bool false)).setCell ⟨w.heap.size + 1 + 1, 3, none⟩ (.slice none 0 0) = W := ⟨_, rfl⟩
  obtain ⟨⟨⟨q0, q1, q2, q3⟩, -, -, -, -⟩, -⟩ := qz.set _ _ _ _ hWz
  have hBz : Below w.heap.size w Wz := by rw [← hWz]; exact below_set4 hB (by omega) _ _ _ _
  have HWz := hide hWz
  have K := hide (And.intro (And.intro q0 q1) (And.intro (And.intro q2 q3) hBz))
  clear hWz hBz q0 q1 q2 q3 qz qC
  go_wp2
  obtain ⟨⟨q0, q1⟩, ⟨q2, q3⟩, hBB⟩ := K.out
  rw [HWz.out]
  exact bodyPost_ret (v := .tuple #[.agg #[.bool false, .slice none 0 0, .bool false, .slice none 0 0], .bool false]) (by simp [results, Tryz.results31, go_sem, q0, q1, q2, q3]) rfl ⟨_, _, _, _, _, _, _, _, rfl, zero_num _, zero_num _, by decide, by decide, hBB, Nat.le_refl _, Nat.le_refl _⟩
set_option maxRecDepth 100000 in
set_option maxHeartbeats 4000000 in
theorem rof_zero (s1 s2 : Bool) (a1 a2 : Option Addr) (n1 n2 c1 c2 : Nat) (z : Int) (w : World) (h1 : Arg w s1 a1 n1 (some z)) (h2 : Arg w s2 a2 n2 (some 0)) :
 Calls Tryz.prog 31 #[.agg #[.bool s1, .slice a1 n1 c1], .agg #[.bool s2, .slice a2 n2 c2]] w (RatPC w none) := by
 go_enter Tryz.func31, Tryz.ntmps31
 go_wp2_with fail
 obtain ⟨W1, hW1⟩ : ∃ W1, ((w.alloc (Obj.cells #[.bool s1, .slice a1 n1 c1] 25)).alloc (Obj.cells #[.bool s2, .slice a2 n2 c2] 25)).alloc (Obj.cells #[.bool false, .slice none 0 0, .bool false, .slice none 0 0] 37) = W1 := ⟨_, rfl⟩
 obtain ⟨bA, bB, qC, hB⟩ := rof_boxes w _ _ _ _ _ _ hW1
 have h1 := h1.below hB
 have h2 := h2.below hB
 try rw [hW1]
 clear hW1
 have hB := hB.drew
 have h1 := h1.below (Below.drew (Below.refl W1.heap.size W1))
 have h2 := h2.below (Below.drew (Below.refl W1.heap.size W1))
 have bA : Box2 W1.drew _ _ _ := bA.below (Below.drew (Below.refl _ _)) bA.lt
 have bB : Box2 W1.drew _ _ _ := bB.below (Below.drew (Below.refl _ _)) bB.lt
 have qC := qC.below (Below.drew (Below.refl W1.heap.size W1))
 refine wp_region_held_drew (S := fun w' => Below (W1.drew.heap.size) W1.drew w') (by kernel_rfl) (Below.refl _ _) (fun hHeld => ?_)
 obtain ⟨WE, hWE⟩ : ∃ W, W1.drew = W := ⟨_, rfl⟩
 rw [hWE] at hB h1 h2 bA bB qC hHeld ⊢
 clear hWE
 have hE := Below.refl WE.heap.size WE
 have lA := bA.lt
 have lB := bB.lt
 obtain ⟨x10, x11, -, -⟩ := id bA
 obtain ⟨x20, x21, -, -⟩ := id bB
 clear hHeld
 refine dagT 14 ?hn (fun X => ⟨#[.agg #[.bool s1, .slice a1 n1 c1], .agg #[.bool s2, .slice a2 n2 c2], .pointer (some ⟨w.heap.size, 0, none⟩), .pointer (some ⟨w.heap.size + 1, 0, none⟩), .pointer (some ⟨w.heap.size + 1 + 1, 0, none⟩), .bool false, undef, undef, undef, X 0, X 1, X 2, X 3, X 4, X 5, X 6, X 7, X 8, X 9, X 10, X 11, X 12, X 13, undef, undef, undef, undef, undef, undef, undef, undef, undef, undef, undef, undef, undef, undef, undef, undef, undef, undef, undef, undef, undef, undef, undef, undef, undef, undef, undef], []⟩) [(0, 0, 0), (0, 0, 0), (0, 0, 0), (0, 0, 0), (0, 0, 0), (0, 0, 0), (0, 0, 0), (0, 0, 0), (0, 0, 0), (0, 0, 0), (0, 0, 0), (0, 0, 0), (0, 0, 0), (0, 0, 0)] [.val (.agg #[.bool s1, .slice a1 n1 c1]), .val (.bool true), .val (.bool false), .val (.bool false), .val (.agg #[.bool s2, .slice a2 n2 c2]), .val (.bool true), .val (.bool false), .val (.bool false), .val (.bool false), .val (.agg #[.bool s2, .slice a2 n2 c2]), .num 0 true, .val (.int .i64 0), .val (.bool true), .val (.bool true)] [[], [0], [1], [2], [3], [3, 4], [3, 5], [3, 6], [7], [8], [8], [8, 9, 10], [8, 11], [8, 12]] [0, 1, 2, 3, 4, 5, 6, 7, 8, 9, 10, 11, 12, 13] [] [] 25 37 WE (by kernel_rfl) (by kernel_rfl) (by kernel_rfl) (by kernel_rfl) (by kernel_rfl) ?op ?al ?st ?fin (fun _ => undef) _ _ (by kernel_rfl) (of_decide_eq_true (by kernel_rfl)) (of_decide_eq_true (by kernel_rfl))
 case hn => rfl
 case op =>
  repeat' first | exact Each.nil | refine Each.cons ?_ ?_
  all_goals intro X w7 H hb hD h
  · have z0 := (hb.cell (p := ⟨w.heap.size, 0, none⟩) lA).trans x10
    have z1 := (hb.cell (p := ⟨w.heap.size, 1, none⟩) lA).trans x11
    refine tv rfl (by rfl) ?_ (by exact h _ w7 rfl (Below.refl _ _))
    go_simp <;> rfl
  · have e0_ : X 0 = _ := hD 0 (by decide) rfl
    have h1 := h1.below hb
    refine wpOp_call (i := 1) (f := 61) (args := #[.agg #[.bool s1, .slice a1 n1 c1]]) 10 rfl rfl (by simp only [e0_]; rfl) (by simp only [e0_]; go_simp) ?_
    refine (rright_arg s1 a1 n1 c1 (some z) w7 h1).mono ?_
    rintro e w8 ⟨rfl, hk⟩
    exact ⟨_, rfl, h _ w8 rfl hk⟩
  · have e1_ : X 1 = _ := hD 1 (by decide) rfl
    refine tv rfl (by simp only [e1_]; rfl) ?_ (by exact h _ w7 rfl (Below.refl _ _))
    simp only [e1_]; go_simp <;> rfl
  · have e2_ : X 2 = _ := hD 2 (by decide) rfl
    refine tv rfl (by simp only [e2_]; rfl) ?_ (by exact h _ w7 rfl (Below.refl _ _))
    simp only [e2_]; go_simp <;> rfl
  · have e3_ : X 3 = _ := hD 3 (by decide) rfl
    have z0 := (hb.cell (p := ⟨w.heap.size + 1, 0, none⟩) lB).trans x20
    have z1 := (hb.cell (p := ⟨w.heap.size + 1, 1, none⟩) lB).trans x21
    refine tv rfl (by simp only [e3_]; rfl) ?_ (by exact h _ w7 rfl (Below.refl _ _))
    simp only [e3_]; go_simp <;> rfl
  · have e3_ : X 3 = _ := hD 3 (by decide) rfl
    have e4_ : X 4 = _ := hD 4 (by decide) rfl
    have h2 := h2.below hb
    refine wpOp_call (i := 5) (f := 61) (args := #[.agg #[.bool s2, .slice a2 n2 c2]]) 14 rfl rfl (by simp only [e3_, e4_]; rfl) (by simp only [e3_, e4_]; go_simp) ?_
    refine (rright_arg s2 a2 n2 c2 (some 0) w7 h2).mono ?_
    rintro e w8 ⟨rfl, hk⟩
    exact ⟨_, rfl, h _ w8 rfl hk⟩
  · have e3_ : X 3 = _ := hD 3 (by decide) rfl
    have e5_ : X 5 = _ := hD 5 (by decide) rfl
    refine tv rfl (by simp only [e3_, e5_]; rfl) ?_ (by exact h _ w7 rfl (Below.refl _ _))
    simp only [e3_, e5_]; go_simp <;> rfl
  · have e3_ : X 3 = _ := hD 3 (by decide) rfl
    have e6_ : X 6 = _ := hD 6 (by decide) rfl
    refine tv rfl (by simp only [e3_, e6_]; rfl) ?_ (by exact h _ w7 rfl (Below.refl _ _))
    simp only [e3_, e6_]; go_simp <;> rfl
  · have e7_ : X 7 = _ := hD 7 (by decide) rfl
    refine tv rfl (by simp only [e7_]; rfl) ?_ (by exact h _ w7 rfl (Below.refl _ _))
    simp only [e7_]; go_simp <;> rfl
  · have e8_ : X 8 = _ := hD 8 (by decide) rfl
    have z0 := (hb.cell (p := ⟨w.heap.size + 1, 0, none⟩) lB).trans x20
    have z1 := (hb.cell (p := ⟨w.heap.size + 1, 1, none⟩) lB).trans x21
    refine tv rfl (by simp only [e8_]; rfl) ?_ (by exact h _ w7 rfl (Below.refl _ _))
    simp only [e8_]; go_simp <;> rfl
  · have e8_ : X 8 = _ := hD 8 (by decide) rfl
    refine wpOp_call (i := 10) (f := 82) (args := #[.int .i64 0]) 19 rfl rfl (by simp only [e8_]; rfl) (by simp only [e8_]; go_simp) ?_
    refine (whole_r 0 (by decide) (by decide) w7).mono ?_
    rintro e w8 ⟨s6, a6, n6, c6, rfl, N6, k6, l6, hk⟩
    exact ⟨_, rfl, h _ w8 ⟨s6, a6, n6, c6, rfl, N6, k6, fun _ => l6⟩ hk⟩
  · have e8_ : X 8 = _ := hD 8 (by decide) rfl
    have e9_ : X 9 = _ := hD 9 (by decide) rfl
    obtain ⟨s10_, a10_, n10_, c10_, e10_, N10_, k10_, q10_⟩ := hD 10 (by decide) rfl
    have h2 := h2.below hb
    have cc := rcmp_any s2 s10_ a2 a10_ n2 n10_ c2 c10_ 0 0 h2.2 k10_ w7 h2.1 N10_
    rw [show cmpZ 0 0 = 0 from rfl] at cc
    refine wpOp_call (i := 11) (f := 81) (args := #[.agg #[.bool s2, .slice a2 n2 c2], .agg #[.bool s10_, .slice a10_ n10_ c10_]]) 20 rfl rfl (by simp only [e8_, e9_, e10_]; rfl) (by simp only [e8_, e9_, e10_]; go_simp) ?_
    refine (cc).mono ?_
    rintro e w8 ⟨rfl, hk⟩
    exact ⟨_, rfl, h _ w8 rfl hk⟩
  · have e8_ : X 8 = _ := hD 8 (by decide) rfl
    have e11_ : X 11 = _ := hD 11 (by decide) rfl
    refine tv rfl (by simp only [e8_, e11_]; rfl) ?_ (by exact h _ w7 rfl (Below.refl _ _))
    simp only [e8_, e11_]; go_simp <;> rfl
  · have e8_ : X 8 = _ := hD 8 (by decide) rfl
    have e12_ : X 12 = _ := hD 12 (by decide) rfl
    refine tv rfl (by simp only [e8_, e12_]; rfl) ?_ (by exact h _ w7 rfl (Below.refl _ _))
    simp only [e8_, e12_]; go_simp <;> rfl
 case al => exact Each.nil
 case st => exact Each.nil
 case fin =>
  intro X1 w9 hI
  have hE := hI.below
  have e13_ : X1 13 = _ := hI.fact 13 (by decide) rfl rfl
  have bA := bA.below hE bA.lt
  have bB := bB.below hE bB.lt
  have qC := qC.below hE
  clear hI
  simp only [e13_]
  clear e13_
  clear x10 x11 x20 x21 lA lB bA bB
  have hB := hB.trans (hE.mono hB.size)
  clear hE
  have qz := id qC
  obtain ⟨⟨x90, x91, x92, x93⟩, z90, z91, z92, z93⟩ := id qC
  obtain ⟨Wz, hWz⟩ : ∃ W, (((w9.setCell ⟨w.heap.size + 1 + 1, 0, none⟩ (.bool false)).setCell ⟨w.heap.size + 1 + 1, 1, none⟩ (.slice none 0 0)).setCell ⟨w.heap.size + 1 + 1, 2, none⟩ (.bool false)).setCell ⟨w.heap.size + 1 + 1, 3, none⟩ (.slice none 0 0) = W := ⟨_, rfl⟩
  obtain ⟨⟨⟨q0, q1, q2, q3⟩, -, -, -, -⟩, -⟩ := qz.set _ _ _ _ hWz
  have hBz : Below w.heap.size w Wz := by rw [← hWz]; exact below_set4 hB (by omega) _ _ _ _
  have HWz := hide hWz
  have K := hide (And.intro (And.intro q0 q1) (And.intro (And.intro q2 q3) hBz))
  clear hWz hBz q0 q1 q2 q3 qz qC
  go_wp2
  obtain ⟨⟨q0, q1⟩, ⟨q2, q3⟩, hBB⟩ := K.out
  rw [HWz.out]
  exact bodyPost_ret (v := .tuple #[.agg #[.bool false, .slice none 0 0, .bool false, .slice none 0 0], .bool false]) (by simp [results, Tryz.results31, go_sem, q0, q1, q2, q3]) rfl ⟨_, _, _, _, _, _, _, _, rfl, zero_num _, zero_num _, by decide, by decide, hBB, Nat.le_refl _, Nat.le_refl _⟩
theorem rof_o (s1 s2 : Bool) (a1 a2 : Option Addr) (n1 n2 c1 c2 : Nat) (o1 o2 : Option Int) (l1 : n1 ≤ c1) (l2 : n2 ≤ c2) (w : World) (h1 : Arg w s1 a1 n1 o1) (h2 : Arg w s2 a2 n2 o2) :
 Calls Tryz.prog 31 #[.agg #[.bool s1, .slice a1 n1 c1], .agg #[.bool s2, .slice a2 n2 c2]] w (RatPC w (ofO o1 o2)) := by
 cases o1 with
 | none => exact rof_no_a s1 s2 a1 a2 n1 n2 c1 c2 w h1
 | some n =>
   cases o2 with
   | none => exact rof_no_b s1 s2 a1 a2 n1 n2 c1 c2 n w h1 h2
   | some d =>
     by_cases hd : d = 0
     · subst hd
       exact rof_zero s1 s2 a1 a2 n1 n2 c1 c2 n w h1 h2
     · show Calls _ _ _ _ (RatPC w (divO n d))
       rw [divO_some n hd]
       exact rofC_any s1 s2 a1 a2 n1 n2 c1 c2 n d h1.2 h2.2 l1 l2 hd w h1.1 h2.1
end Go.Proofs.YtgenaicmjddjcaaGreatDoor
