/- ratio's reference: Sign, Floor, Ceil, Int; Frac and Of of anything. -/
import Derived.Test.YtgenaicmjddjcaaGreatDoorRbR
import Derived.Test.YtgenaicmjddjcaaGreatDoorRbC
namespace Go.Proofs.YtgenaicmjddjcaaGreatDoor
open Go.RowKit Go.Shelf

set_option maxRecDepth 100000 in
set_option maxHeartbeats 4000000 in
theorem rsign_r (s1 s2 : Bool) (a1 a2 : Option Addr) (n1 n2 c1 c2 : Nat) (ox : Option Rat) (l1 : n1 ≤ c1) (l2 : n2 ≤ c2) (w : World) (hx : RArg w s1 a1 n1 s2 a2 n2 ox) :
 Calls Tryz.prog 29 #[.agg #[.bool s1, .slice a1 n1 c1, .bool s2, .slice a2 n2 c2]] w fun e w' => e = .returned (.int .i64 (sgnO ox)) ∧ Below w.heap.size w w' := by
 go_enter Tryz.func29, Tryz.ntmps29
 go_wp2_with fail
 obtain ⟨W1, hW1⟩ : ∃ W1, w.alloc (Obj.cells #[.bool s1, .slice a1 n1 c1, .bool s2, .slice a2 n2 c2] 37) = W1 := ⟨_, rfl⟩
 have qA : Quad W1 w.heap.size (.bool s1) (.slice a1 n1 c1) (.bool s2) (.slice a2 n2 c2) := by rw [← hW1]; exact Quad.new _ _ _ _ _ _
 have hB : Below w.heap.size w W1 := by rw [← hW1]; exact below_alloc _ _
 have hx := hx.below hB
 try rw [hW1]
 clear hW1
 refine (rright_r s1 s2 a1 a2 n1 n2 c1 c2 ox l1 l2 W1 hx).mono ?_
 rintro e w1 ⟨rfl, hk⟩
 have hB := hB.trans (hk.mono hB.size)
 have hx := hx.below hk
 have qA := qA.below hk
 clear hk
 cases ox with
 | none =>
   go_wp2
   go_ret
   exact ⟨rfl, hB⟩
 | some x =>
   go_wp2_with fail
   have hB := hB.drew
   have hx := hx.below (Below.drew (Below.refl w1.heap.size w1))
   have qA := qA.below (Below.drew (Below.refl w1.heap.size w1))
   refine wp_region_held_drew (S := fun w' => Below (w1.drew.heap.size) w1.drew w') (by kernel_rfl) (Below.refl _ _) (fun hHeld => ?_)
   obtain ⟨WE, hWE⟩ : ∃ W, w1.drew = W := ⟨_, rfl⟩
   rw [hWE] at hB hx qA hHeld ⊢
   clear hWE
   have hE := Below.refl WE.heap.size WE
   have lA := qA.lt
   obtain ⟨⟨x0, x1, x2, x3⟩, -, -, -, -⟩ := id qA
   clear hHeld
   refine dagT 5 ?hn (fun X => ⟨#[.agg #[.bool s1, .slice a1 n1 c1, .bool s2, .slice a2 n2 c2], .pointer (some ⟨w.heap.size, 0, none⟩), X 4, .agg #[.bool s1, .slice a1 n1 c1, .bool s2, .slice a2 n2 c2], .bool true, .bool false, X 0, X 1, X 2, X 3], []⟩) [(0, 0, 0), (0, 0, 0), (0, 0, 0), (0, 0, 0), (0, 0, 0)] [.val (.pointer (some ⟨w.heap.size, 0, none⟩)), .val (.agg #[.bool s1, .slice a1 n1 c1]), .num 0 true, .val (.int .i64 (cmpZ x.num 0)), .val (.int .i64 (cmpZ x.num 0))] [[], [0], [], [1, 2], [3]] [0, 1, 2, 3, 4] [] [] 25 37 WE (by kernel_rfl) (by kernel_rfl) (by kernel_rfl) (by kernel_rfl) (by kernel_rfl) ?op ?al ?st ?fin (upd (fun _ => undef) 4 (.int .i64 0)) _ _ (by kernel_rfl) (of_decide_eq_true (by kernel_rfl)) (of_decide_eq_true (by kernel_rfl))
   case hn => rfl
   case op =>
    repeat' first | exact Each.nil | refine Each.cons ?_ ?_
    all_goals intro X w7 H hb hD h
    · refine tv rfl (by rfl) ?_ (by exact h _ w7 rfl (Below.refl _ _))
      go_simp <;> rfl
    · have e0_ : X 0 = _ := hD 0 (by decide) rfl
      have z0 := (hb.cell (p := ⟨w.heap.size, 0, none⟩) lA).trans x0
      have z1 := (hb.cell (p := ⟨w.heap.size, 1, none⟩) lA).trans x1
      refine tv rfl (by simp only [e0_]; rfl) ?_ (by exact h _ w7 rfl (Below.refl _ _))
      simp only [e0_]; go_simp <;> rfl
    · refine wpOp_call (i := 2) (f := 82) (args := #[.int .i64 0]) 8 rfl rfl (by rfl) (by go_simp) ?_
      refine (whole_r 0 (by decide) (by decide) w7).mono ?_
      rintro e w8 ⟨s6, a6, n6, c6, rfl, N6, k6, l6, hk⟩
      exact ⟨_, rfl, h _ w8 ⟨s6, a6, n6, c6, rfl, N6, k6, fun _ => l6⟩ hk⟩
    · have e1_ : X 1 = _ := hD 1 (by decide) rfl
      obtain ⟨s2_, a2_, n2_, c2_, e2_, N2_, k2_, q2_⟩ := hD 2 (by decide) rfl
      have hx := hx.below hb
      refine wpOp_call (i := 3) (f := 81) (args := #[.agg #[.bool s1, .slice a1 n1 c1], .agg #[.bool s2_, .slice a2_ n2_ c2_]]) 9 rfl rfl (by simp only [e1_, e2_]; rfl) (by simp only [e1_, e2_]; go_simp) ?_
      refine (rcmp_any s1 s2_ a1 a2_ n1 n2_ c1 c2_ x.num 0 hx.l1 k2_ w7 hx.num N2_).mono ?_
      rintro e w8 ⟨rfl, hk⟩
      exact ⟨_, rfl, h _ w8 rfl hk⟩
    · have e3_ : X 3 = _ := hD 3 (by decide) rfl
      refine tv rfl (by simp only [e3_]; rfl) ?_ (by exact h _ w7 rfl (Below.refl _ _))
      simp only [e3_]; go_simp <;> rfl
   case al => exact Each.nil
   case st => exact Each.nil
   case fin =>
    intro X3 w9 hI
    have hE := hI.below
    have e4_ : X3 4 = _ := hI.fact 4 (by decide) rfl rfl
    have qA := qA.below hE
    clear hI
    simp only [e4_]
    clear e4_
    clear x0 x1 x2 x3 lA
    have hB := hB.trans (hE.mono hB.size)
    clear hE
    go_wp2
    go_ret
    exact ⟨rfl, hB⟩
set_option maxRecDepth 100000 in
set_option maxHeartbeats 4000000 in
theorem rfloor_r (s1 s2 : Bool) (a1 a2 : Option Addr) (n1 n2 c1 c2 : Nat) (ox : Option Rat) (l1 : n1 ≤ c1) (l2 : n2 ≤ c2) (w : World) (hx : RArg w s1 a1 n1 s2 a2 n2 ox) :
 Calls Tryz.prog 23 #[.agg #[.bool s1, .slice a1 n1 c1, .bool s2, .slice a2 n2 c2]] w (IntPost w (floorO ox)) := by
 go_enter Tryz.func23, Tryz.ntmps23
 go_wp2_with fail
 obtain ⟨W1, hW1⟩ : ∃ W1, w.alloc (Obj.cells #[.bool s1, .slice a1 n1 c1, .bool s2, .slice a2 n2 c2] 37) = W1 := ⟨_, rfl⟩
 have qA : Quad W1 w.heap.size (.bool s1) (.slice a1 n1 c1) (.bool s2) (.slice a2 n2 c2) := by rw [← hW1]; exact Quad.new _ _ _ _ _ _
 have hB : Below w.heap.size w W1 := by rw [← hW1]; exact below_alloc _ _
 have hx := hx.below hB
 try rw [hW1]
 clear hW1
 refine (rright_r s1 s2 a1 a2 n1 n2 c1 c2 ox l1 l2 W1 hx).mono ?_
 rintro e w1 ⟨rfl, hk⟩
 have hB := hB.trans (hk.mono hB.size)
 have hx := hx.below hk
 have qA := qA.below hk
 clear hk
 cases ox with
 | none =>
   go_wp2
   go_ret2
   exact ⟨rfl, hB⟩
 | some x =>
   obtain ⟨⟨x10, x11, x12, x13⟩, -, -, -, -⟩ := id qA
   go_wp2_with fail
   clear x10 x11 x12 x13
   have hd0 := hide (rat_den_ne x)
   refine (over_c s1 s2 a1 a2 n1 n2 c1 c2 x.num x.den hx.l1 hx.l2 l1 hd0 w1 hx.num hx.den).mono ?_
   rintro e u1 ⟨s8, a8, n8, c8, rfl, N8, k8, l8, hk⟩
   have hB := hB.trans (hk.mono hB.size)
   have qA := qA.below hk
   clear hk
   go_wp2_with fail
   obtain ⟨O, hO⟩ : ∃ O, intO (some (x.num / (x.den : Int))) = O := ⟨_, rfl⟩
   have cc := rint_arg s8 a8 n8 c8 (some (x.num / (x.den : Int))) u1 ⟨N8, k8⟩
   rw [hO] at cc
   have HO := hide hO
   clear hO
   refine cc.mono ?_
   clear cc
   rintro e u9 ⟨rfl, hk⟩
   have hB := hB.trans (hk.mono hB.size)
   go_wp2
   go_ret2
   exact ⟨by rw [show floorO (some x) = O from HO.out]; rfl, hB⟩
set_option maxRecDepth 100000 in
set_option maxHeartbeats 4000000 in
theorem rceil_r (s1 s2 : Bool) (a1 a2 : Option Addr) (n1 n2 c1 c2 : Nat) (ox : Option Rat) (l1 : n1 ≤ c1) (l2 : n2 ≤ c2) (w : World) (hx : RArg w s1 a1 n1 s2 a2 n2 ox) :
 Calls Tryz.prog 25 #[.agg #[.bool s1, .slice a1 n1 c1, .bool s2, .slice a2 n2 c2]] w (IntPost w (ceilO ox)) := by
 go_enter Tryz.func25, Tryz.ntmps25
 go_wp2_with fail
 obtain ⟨W1, hW1⟩ : ∃ W1, w.alloc (Obj.cells #[.bool s1, .slice a1 n1 c1, .bool s2, .slice a2 n2 c2] 37) = W1 := ⟨_, rfl⟩
 have qA : Quad W1 w.heap.size (.bool s1) (.slice a1 n1 c1) (.bool s2) (.slice a2 n2 c2) := by rw [← hW1]; exact Quad.new _ _ _ _ _ _
 have hB : Below w.heap.size w W1 := by rw [← hW1]; exact below_alloc _ _
 have hx := hx.below hB
 try rw [hW1]
 clear hW1
 refine (rright_r s1 s2 a1 a2 n1 n2 c1 c2 ox l1 l2 W1 hx).mono ?_
 rintro e w1 ⟨rfl, hk⟩
 have hB := hB.trans (hk.mono hB.size)
 have hx := hx.below hk
 have qA := qA.below hk
 clear hk
 cases ox with
 | none =>
   go_wp2
   go_ret2
   exact ⟨rfl, hB⟩
 | some x =>
   have hd0 := hide (rat_den_ne x)
   obtain ⟨O, hO⟩ : ∃ O, intO (some (-((-x.num) / (x.den : Int)))) = O := ⟨_, rfl⟩
   have HO := hide hO
   clear hO
   go_wp2_with fail
   have hB := hB.drew
   have hx := hx.below (Below.drew (Below.refl w1.heap.size w1))
   have qA := qA.below (Below.drew (Below.refl w1.heap.size w1))
   refine wp_region_held_drew (S := fun w' => Below (w1.drew.heap.size) w1.drew w') (by kernel_rfl) (Below.refl _ _) (fun hHeld => ?_)
   obtain ⟨WE, hWE⟩ : ∃ W, w1.drew = W := ⟨_, rfl⟩
   rw [hWE] at hB hx qA hHeld ⊢
   clear hWE
   have hE := Below.refl WE.heap.size WE
   have lA := qA.lt
   obtain ⟨⟨x0, x1, x2, x3⟩, -, -, -, -⟩ := id qA
   clear hHeld
   refine dagT 12 ?hn (fun X => ⟨#[.agg #[.bool s1, .slice a1 n1 c1, .bool s2, .slice a2 n2 c2], .pointer (some ⟨w.heap.size, 0, none⟩), X 10, X 11, .agg #[.bool s1, .slice a1 n1 c1, .bool s2, .slice a2 n2 c2], .bool true, .bool false, X 0, X 1, X 2, X 3, X 4, X 5, X 6, X 7, X 8, X 9], []⟩) [(0, 0, 0), (0, 0, 0), (0, 0, 0), (0, 0, 0), (0, 0, 0), (0, 0, 0), (0, 0, 0), (0, 0, 0), (0, 0, 0), (0, 0, 0), (0, 0, 0), (0, 0, 0)] [.val (.pointer (some ⟨w.heap.size, 0, none⟩)), .val (.agg #[.bool s1, .slice a1 n1 c1]), .num (-x.num) true, .val (.pointer (some ⟨w.heap.size, 2, none⟩)), .val (.agg #[.bool s2, .slice a2 n2 c2]), .num ((-x.num) / (x.den : Int)) true, .num (-((-x.num) / (x.den : Int))) true, .val (.tuple #[.int .i64 (O.getD 0), .bool O.isSome]), .val (.int .i64 (O.getD 0)), .val (.bool O.isSome), .val (.int .i64 (O.getD 0)), .val (.bool O.isSome)] [[], [0], [1], [], [3], [2, 4], [5], [6], [7], [7], [8], [9]] [0, 1, 2, 3, 4, 5, 6, 7, 8, 9, 10, 11] [] [] 25 37 WE (by kernel_rfl) (by kernel_rfl) (by kernel_rfl) (by kernel_rfl) (by kernel_rfl) ?op ?al ?st ?fin (upd (upd (fun _ => undef) 10 (.int .i64 0)) 11 (.bool false)) _ _ (by kernel_rfl) (of_decide_eq_true (by kernel_rfl)) (of_decide_eq_true (by kernel_rfl))
   case hn => rfl
   case op =>
    repeat' first | exact Each.nil | refine Each.cons ?_ ?_
    all_goals intro X w7 H hb hD h
    · refine tv rfl (by rfl) ?_ (by exact h _ w7 rfl (Below.refl _ _))
      go_simp <;> rfl
    · have e0_ : X 0 = _ := hD 0 (by decide) rfl
      have z0 := (hb.cell (p := ⟨w.heap.size, 0, none⟩) lA).trans x0
      have z1 := (hb.cell (p := ⟨w.heap.size, 1, none⟩) lA).trans x1
      refine tv rfl (by simp only [e0_]; rfl) ?_ (by exact h _ w7 rfl (Below.refl _ _))
      simp only [e0_]; go_simp <;> rfl
    · have e1_ : X 1 = _ := hD 1 (by decide) rfl
      have hx := hx.below hb
      refine wpOp_call (i := 2) (f := 87) (args := #[.agg #[.bool s1, .slice a1 n1 c1]]) 9 rfl rfl (by simp only [e1_]; rfl) (by simp only [e1_]; go_simp) ?_
      refine (ropp_c s1 a1 n1 c1 x.num hx.l1 w7 hx.num).mono ?_
      rintro e w8 ⟨s8, a8, n8, c8, rfl, N8, k8, l8, hk⟩
      exact ⟨_, rfl, h _ w8 ⟨s8, a8, n8, c8, rfl, N8, k8, fun _ => l8⟩ hk⟩
    · refine tv rfl (by rfl) ?_ (by exact h _ w7 rfl (Below.refl _ _))
      go_simp <;> rfl
    · have e3_ : X 3 = _ := hD 3 (by decide) rfl
      have z2 := (hb.cell (p := ⟨w.heap.size, 2, none⟩) lA).trans x2
      have z3 := (hb.cell (p := ⟨w.heap.size, 3, none⟩) lA).trans x3
      refine tv rfl (by simp only [e3_]; rfl) ?_ (by exact h _ w7 rfl (Below.refl _ _))
      simp only [e3_]; go_simp <;> rfl
    · obtain ⟨s2_, a2_, n2_, c2_, e2_, N2_, k2_, q2_⟩ := hD 2 (by decide) rfl
      have e4_ : X 4 = _ := hD 4 (by decide) rfl
      have hx := hx.below hb
      refine wpOp_call (i := 5) (f := 85) (args := #[.agg #[.bool s2_, .slice a2_ n2_ c2_], .agg #[.bool s2, .slice a2 n2 c2]]) 12 rfl rfl (by simp only [e2_, e4_]; rfl) (by simp only [e2_, e4_]; go_simp) ?_
      refine (over_c s2_ s2 a2_ a2 n2_ n2 c2_ c2 (-x.num) x.den k2_ hx.l2 (q2_ rfl) hd0 w7 N2_ hx.den).mono ?_
      rintro e w8 ⟨s8, a8, n8, c8, rfl, N8, k8, l8, hk⟩
      exact ⟨_, rfl, h _ w8 ⟨s8, a8, n8, c8, rfl, N8, k8, fun _ => l8⟩ hk⟩
    · obtain ⟨s5_, a5_, n5_, c5_, e5_, N5_, k5_, q5_⟩ := hD 5 (by decide) rfl
      refine wpOp_call (i := 6) (f := 87) (args := #[.agg #[.bool s5_, .slice a5_ n5_ c5_]]) 13 rfl rfl (by simp only [e5_]; rfl) (by simp only [e5_]; go_simp) ?_
      refine (ropp_c s5_ a5_ n5_ c5_ ((-x.num) / (x.den : Int)) k5_ w7 N5_).mono ?_
      rintro e w8 ⟨s8, a8, n8, c8, rfl, N8, k8, l8, hk⟩
      exact ⟨_, rfl, h _ w8 ⟨s8, a8, n8, c8, rfl, N8, k8, fun _ => l8⟩ hk⟩
    · obtain ⟨s6_, a6_, n6_, c6_, e6_, N6_, k6_, q6_⟩ := hD 6 (by decide) rfl
      have cc := rint_arg s6_ a6_ n6_ c6_ (some (-((-x.num) / (x.den : Int)))) w7 ⟨N6_, k6_⟩
      rw [HO.out] at cc
      refine wpOp_call (i := 7) (f := 84) (args := #[.agg #[.bool s6_, .slice a6_ n6_ c6_]]) 14 rfl rfl (by simp only [e6_]; rfl) (by simp only [e6_]; go_simp) ?_
      refine (cc).mono ?_
      rintro e w8 ⟨rfl, hk⟩
      exact ⟨_, rfl, h _ w8 rfl hk⟩
    · have e7_ : X 7 = _ := hD 7 (by decide) rfl
      refine tv rfl (by simp only [e7_]; rfl) ?_ (by exact h _ w7 rfl (Below.refl _ _))
      simp only [e7_]; go_simp <;> rfl
    · have e7_ : X 7 = _ := hD 7 (by decide) rfl
      refine tv rfl (by simp only [e7_]; rfl) ?_ (by exact h _ w7 rfl (Below.refl _ _))
      simp only [e7_]; go_simp <;> rfl
    · have e8_ : X 8 = _ := hD 8 (by decide) rfl
      refine tv rfl (by simp only [e8_]; rfl) ?_ (by exact h _ w7 rfl (Below.refl _ _))
      simp only [e8_]; go_simp <;> rfl
    · have e9_ : X 9 = _ := hD 9 (by decide) rfl
      refine tv rfl (by simp only [e9_]; rfl) ?_ (by exact h _ w7 rfl (Below.refl _ _))
      simp only [e9_]; go_simp <;> rfl
   case al => exact Each.nil
   case st => exact Each.nil
   case fin =>
    intro X3 w9 hI
    have hE := hI.below
    have e10_ : X3 10 = _ := hI.fact 10 (by decide) rfl rfl
    have e11_ : X3 11 = _ := hI.fact 11 (by decide) rfl rfl
    have qA := qA.below hE
    clear hI
    simp only [e10_, e11_]
    clear e10_ e11_
    clear x0 x1 x2 x3 lA
    have hB := hB.trans (hE.mono hB.size)
    clear hE
    go_wp2
    go_ret2
    exact ⟨by rw [show ceilO (some x) = O from HO.out]; rfl, hB⟩
set_option maxRecDepth 100000 in
set_option maxHeartbeats 4000000 in
theorem rintC_r (n : Int) (h0 : -9223372036854775808 ≤ n) (h1 : n ≤ 9223372036854775807) (w : World) :
 Calls Tryz.prog 21 #[.int .i64 n] w (RatVC w (some (n : Rat))) := by
 go_enter Tryz.func21, Tryz.ntmps21
 go_wp2_with fail
 obtain ⟨W1, hW1⟩ : ∃ W1, w.alloc (Obj.cells #[.bool false, .slice none 0 0, .bool false, .slice none 0 0] 37) = W1 := ⟨_, rfl⟩
 have qC : Quad W1 w.heap.size (.bool false) (.slice none 0 0) (.bool false) (.slice none 0 0) := by rw [← hW1]; exact Quad.new _ _ _ _ _ _
 have hB : Below w.heap.size w W1 := by rw [← hW1]; exact below_alloc _ _
 try rw [hW1]
 clear hW1
 refine (whole_r n h0 h1 W1).mono ?_
 rintro e w1 ⟨s1, a1, n1, c1, rfl, P1, k1, l1, hk⟩
 have hB := hB.trans (hk.mono hB.size)
 have qC := qC.below hk
 clear hk
 go_wp2_with fail
 refine (whole_r 1 (by decide) (by decide) w1).mono ?_
 rintro e w2 ⟨s2, a2, n2, c2, rfl, P2, k2, l2, hk⟩
 have hB := hB.trans (hk.mono hB.size)
 have qC := qC.below hk
 have P1 := P1.below hk
 clear hk
 obtain ⟨Wz, hWz⟩ : ∃ W, (((w2.setCell ⟨w.heap.size, 0, none⟩ (.bool s1)).setCell ⟨w.heap.size, 1, none⟩ (.slice a1 n1 c1)).setCell ⟨w.heap.size, 2, none⟩ (.bool s2)).setCell ⟨w.heap.size, 3, none⟩ (.slice a2 n2 c2) = W := ⟨_, rfl⟩
 obtain ⟨hQ, hT⟩ := qC.set _ _ _ _ hWz
 have hBz : Below w.heap.size w Wz := by rw [← hWz]; exact below_set4 hB (by omega) _ _ _ _
 have P1 := P1.quad qC.four hT
 have P2 := P2.quad qC.four hT
 have K := hide (And.intro hQ (And.intro P1 (And.intro P2 hBz)))
 have HWz := hide hWz
 clear hQ hBz hWz hT P1 P2
 obtain ⟨⟨x90, x91, x92, x93⟩, z90, z91, z92, z93⟩ := id qC
 go_wp2
 obtain ⟨⟨⟨q0, q1, q2, q3⟩, -, -, -, -⟩, P1, P2, hBB⟩ := K.out
 rw [HWz.out]
 exact bodyPost_ret (v := .agg #[.bool s1, .slice a1 n1 c1, .bool s2, .slice a2 n2 c2]) (by simp [results, Tryz.results21, go_sem, q0, q1, q2, q3]) rfl ⟨_, _, _, _, _, _, _, _, rfl, by rw [show numO (some ((n : Int) : Rat)) = n from Rat.num_intCast n]; exact P1, by rw [show denO (some ((n : Int) : Rat)) = 1 from by show (((n : Rat).den : Nat) : Int) = 1; rw [Rat.den_intCast]; rfl]; exact P2, k1, k2, hBB, l1, l2⟩
set_option maxRecDepth 100000 in
set_option maxHeartbeats 4000000 in
theorem rfracC_no (n d : Int) (hd : d < 1) (w : World) :
 Calls Tryz.prog 20 #[.agg #[.int .i64 n, .int .i64 d]] w (RatVC w none) := by
 have hd1 : decide (d < 1) = true := decide_eq_true hd
 go_enter Tryz.func20, Tryz.ntmps20
 go_wp2
 obtain ⟨W1, hW1⟩ : ∃ W1, (w.alloc (Obj.cells #[.int .i64 n, .int .i64 d] 39)).alloc (Obj.cells #[.bool false, .slice none 0 0, .bool false, .slice none 0 0] 37) = W1 := ⟨_, rfl⟩
 have bA : W1.cell? ⟨w.heap.size, 0, none⟩ = some (.int .i64 n) ∧ W1.cell? ⟨w.heap.size, 1, none⟩ = some (.int .i64 d) := by rw [← hW1]; exact ⟨by simp [go_sem], by simp [go_sem]⟩
 have qC : Quad W1 (w.heap.size + 1) (.bool false) (.slice none 0 0) (.bool false) (.slice none 0 0) := by
  rw [← hW1]; have := Quad.new (w.alloc (Obj.cells #[.int .i64 n, .int .i64 d] 39)) (.bool false) (.slice none 0 0) (.bool false) (.slice none 0 0) 37
  rw [World.size_alloc] at this; exact this
 have hB : Below w.heap.size w W1 := by rw [← hW1]; exact (below_alloc _ _).trans ((below_alloc _ _).mono (by simp))
 rw [hW1]
 clear hW1 bA
 obtain ⟨⟨q0, q1, q2, q3⟩, -, -, -, -⟩ := qC
 exact bodyPost_ret (v := .agg #[.bool false, .slice none 0 0, .bool false, .slice none 0 0]) (by simp [results, Tryz.results20, go_sem, q0, q1, q2, q3]) rfl ⟨_, _, _, _, _, _, _, _, rfl, zero_num _, zero_num _, by decide, by decide, hB, Nat.le_refl _, Nat.le_refl _⟩
def fracO (n d : Int) : Option Rat := if d < 1 then none else some (Rat.divInt n d)
theorem rfracC_o (n d : Int) (h0 : -9223372036854775808 ≤ n) (h1 : n ≤ 9223372036854775807) (hd9 : d ≤ 9223372036854775807) (w : World) :
 Calls Tryz.prog 20 #[.agg #[.int .i64 n, .int .i64 d]] w (RatVC w (fracO n d)) := by
 unfold fracO
 split
 · exact rfracC_no n d ‹_› w
 · exact rfracC_yes n d h0 h1 (by omega) hd9 w
theorem frac_o (n d : Int) (h0 : -9223372036854775808 ≤ n) (h1 : n ≤ 9223372036854775807) (hd9 : d ≤ 9223372036854775807) (w : World) :
 Calls Tryz.prog 33 #[.agg #[.int .i64 n, .int .i64 d]] w (RatVal w (fracO n d)) := by
 unfold fracO
 split
 · exact frac_no n d ‹_› w
 · exact frac_yes n d h0 h1 (by omega) hd9 w
end Go.Proofs.YtgenaicmjddjcaaGreatDoor
