/- ratio's sum and scale. -/
import Derived.Test.YtgenaicmjddjcaaGreatDoorRaE
namespace Go.Proofs.YtgenaicmjddjcaaGreatDoor
open Go.RowKit Go.Shelf

set_option maxRecDepth 100000 in
set_option maxHeartbeats 4000000 in
theorem sum_r (s1 s2 t1 t2 : Bool) (a1 a2 b1 b2 : Option Addr) (n1 n2 m1 m2 c1 c2 d1 d2 : Nat) (x y : Rat) (w : World) (hx : RArg w s1 a1 n1 s2 a2 n2 (some x)) (hy : RArg w t1 b1 m1 t2 b2 m2 (some y)) :
 Calls Tryz.prog 94 #[.agg #[.bool s1, .slice a1 n1 c1, .bool s2, .slice a2 n2 c2], .agg #[.bool t1, .slice b1 m1 d1, .bool t2, .slice b2 m2 d2]] w (RatPost w (addR x y)) := by
 have HO1 := hide (show ∃ O, fitO (x.num * y.den) = O from ⟨_, rfl⟩)
 have HO2 := hide (show ∃ O, fitO (y.num * x.den) = O from ⟨_, rfl⟩)
 have HO3 := hide (show ∃ O, fitO ((x.den : Int) * y.den) = O from ⟨_, rfl⟩)
 obtain ⟨O1, hO1⟩ := HO1.out
 obtain ⟨O2, hO2⟩ := HO2.out
 obtain ⟨O3, hO3⟩ := HO3.out
 obtain ⟨O4, hO4⟩ : ∃ O, fitO (O1.getD 0 + O2.getD 0) = O := ⟨_, rfl⟩
 have E1 := hide hO1
 have E2 := hide hO2
 have E3 := hide hO3
 have E4 := hide hO4
 clear HO1 HO2 HO3 hO1 hO2 hO3 hO4
 go_enter Tryz.func94, Tryz.ntmps94
 go_wp2_with fail
 obtain ⟨W1, hW1⟩ : ∃ W1, ((w.alloc (Obj.cells #[.bool s1, .slice a1 n1 c1, .bool s2, .slice a2 n2 c2] 37)).alloc (Obj.cells #[.bool t1, .slice b1 m1 d1, .bool t2, .slice b2 m2 d2] 37)).alloc (Obj.cells #[.bool false, .slice none 0 0, .bool false, .slice none 0 0] 37) = W1 := ⟨_, rfl⟩
 obtain ⟨qA, qB, qC, hB⟩ := rat_boxes2 w _ _ _ _ _ _ _ _ _ hW1
 have hx := hx.below hB
 have hy := hy.below hB
 try rw [hW1]
 clear hW1
 obtain ⟨⟨x10, x11, x12, x13⟩, -, -, -, -⟩ := id qA
 obtain ⟨⟨x20, x21, x22, x23⟩, -, -, -, -⟩ := id qB
 go_wp2_with fail
 clear x10 x11 x12 x13 x20 x21 x22 x23
 have cc := mul_arg s1 t2 a1 b2 n1 m2 c1 d2 (some x.num) (some (y.den : Int)) W1 ⟨hx.num, hx.l1⟩ ⟨hy.den, hy.l2⟩
 rw [show mulO (some x.num) (some (y.den : Int)) = _ from E1.out] at cc
 refine cc.mono ?_
 clear cc
 rintro e u3 ⟨s3, a3, n3, c3, rfl, N3, k3, -, hk⟩
 have hB := hB.trans (hk.mono hB.size)
 have hx := hx.below hk
 have hy := hy.below hk
 have qA := qA.below hk
 have qB := qB.below hk
 have qC := qC.below hk
 clear hk
 obtain ⟨Z3, hZ3⟩ : ∃ Z, u3.alloc (Obj.cells #[.bool false, .slice none 0 0] 25) = Z := ⟨_, rfl⟩
 obtain ⟨W3, hW3⟩ : ∃ W, (Z3.setCell ⟨u3.heap.size, 0, none⟩ (.bool s3)).setCell ⟨u3.heap.size, 1, none⟩ (.slice a3 n3 c3) = W := ⟨_, rfl⟩
 obtain ⟨H3, hk, bx3⟩ := num_new (c := c3) hZ3 hW3 N3
 clear N3
 obtain ⟨B3, hB3⟩ : ∃ B, u3.heap.size = B := ⟨_, rfl⟩
 have hB := hB.trans (hk.mono hB.size)
 have hx := hx.below hk
 have hy := hy.below hk
 have qA := qA.below hk
 have qB := qB.below hk
 have qC := qC.below hk
 clear hk
 rw [hB3] at hW3 H3 bx3
 obtain ⟨⟨x10, x11, x12, x13⟩, -, -, -, -⟩ := id qA
 obtain ⟨⟨x20, x21, x22, x23⟩, -, -, -, -⟩ := id qB
 obtain ⟨y30, y31, yz30, yz31⟩ := id bx3
 go_wp2_with fail
 try rw [hW3]
 try rw [hB3]
 clear hW3 hB3
 clear x10 x11 x12 x13 x20 x21 x22 x23 y30 y31 yz30 yz31
 have cc := mul_arg t1 s2 b1 a2 m1 n2 d1 c2 (some y.num) (some (x.den : Int)) W3 ⟨hy.num, hy.l1⟩ ⟨hx.den, hx.l2⟩
 rw [show mulO (some y.num) (some (x.den : Int)) = _ from E2.out] at cc
 refine cc.mono ?_
 clear cc
 rintro e u4 ⟨s4, a4, n4, c4, rfl, N4, k4, -, hk⟩
 have hB := hB.trans (hk.mono hB.size)
 have hx := hx.below hk
 have hy := hy.below hk
 have qA := qA.below hk
 have qB := qB.below hk
 have qC := qC.below hk
 have H3 := H3.below hk
 clear hk
 obtain ⟨Z4, hZ4⟩ : ∃ Z, u4.alloc (Obj.cells #[.bool false, .slice none 0 0] 25) = Z := ⟨_, rfl⟩
 obtain ⟨W4, hW4⟩ : ∃ W, (Z4.setCell ⟨u4.heap.size, 0, none⟩ (.bool s4)).setCell ⟨u4.heap.size, 1, none⟩ (.slice a4 n4 c4) = W := ⟨_, rfl⟩
 obtain ⟨H4, hk, bx4⟩ := num_new (c := c4) hZ4 hW4 N4
 clear N4
 obtain ⟨B4, hB4⟩ : ∃ B, u4.heap.size = B := ⟨_, rfl⟩
 have hB := hB.trans (hk.mono hB.size)
 have hx := hx.below hk
 have hy := hy.below hk
 have qA := qA.below hk
 have qB := qB.below hk
 have qC := qC.below hk
 have H3 := H3.below hk
 clear hk
 rw [hB4] at hW4 H4 bx4
 obtain ⟨⟨x10, x11, x12, x13⟩, -, -, -, -⟩ := id qA
 obtain ⟨⟨x20, x21, x22, x23⟩, -, -, -, -⟩ := id qB
 obtain ⟨y40, y41, yz40, yz41⟩ := id bx4
 go_wp2_with fail
 try rw [hW4]
 try rw [hB4]
 clear hW4 hB4
 clear x10 x11 x12 x13 x20 x21 x22 x23 y40 y41 yz40 yz41
 have cc := mul_arg s2 t2 a2 b2 n2 m2 c2 d2 (some (x.den : Int)) (some (y.den : Int)) W4 ⟨hx.den, hx.l2⟩ ⟨hy.den, hy.l2⟩
 rw [show mulO (some (x.den : Int)) (some (y.den : Int)) = _ from E3.out] at cc
 refine cc.mono ?_
 clear cc
 rintro e u5 ⟨s5, a5, n5, c5, rfl, N5, k5, -, hk⟩
 have hB := hB.trans (hk.mono hB.size)
 have hx := hx.below hk
 have hy := hy.below hk
 have qA := qA.below hk
 have qB := qB.below hk
 have qC := qC.below hk
 have H3 := H3.below hk
 have H4 := H4.below hk
 clear hk
 obtain ⟨Z5, hZ5⟩ : ∃ Z, u5.alloc (Obj.cells #[.bool false, .slice none 0 0] 25) = Z := ⟨_, rfl⟩
 obtain ⟨W5, hW5⟩ : ∃ W, (Z5.setCell ⟨u5.heap.size, 0, none⟩ (.bool s5)).setCell ⟨u5.heap.size, 1, none⟩ (.slice a5 n5 c5) = W := ⟨_, rfl⟩
 obtain ⟨H5, hk, bx5⟩ := num_new (c := c5) hZ5 hW5 N5
 clear N5
 obtain ⟨B5, hB5⟩ : ∃ B, u5.heap.size = B := ⟨_, rfl⟩
 have hB := hB.trans (hk.mono hB.size)
 have hx := hx.below hk
 have hy := hy.below hk
 have qA := qA.below hk
 have qB := qB.below hk
 have qC := qC.below hk
 have H3 := H3.below hk
 have H4 := H4.below hk
 clear hk
 rw [hB5] at hW5 H5 bx5
 obtain ⟨x10, x11, -, -⟩ := id H3.box
 obtain ⟨x20, x21, -, -⟩ := id H4.box
 obtain ⟨y50, y51, yz50, yz51⟩ := id bx5
 go_wp2_with fail
 try rw [hW5]
 try rw [hB5]
 clear hW5 hB5
 clear x10 x11 x20 x21 y50 y51 yz50 yz51
 have cc := add_arg s3 s4 a3 a4 n3 n4 c3 c4 (some (O1.getD 0)) (some (O2.getD 0)) W5 ⟨H3.num, k3⟩ ⟨H4.num, k4⟩
 rw [show addO (some (O1.getD 0)) (some (O2.getD 0)) = _ from E4.out] at cc
 refine cc.mono ?_
 clear cc
 rintro e u6 ⟨s6, a6, n6, c6, rfl, N6, k6, -, hk⟩
 have hB := hB.trans (hk.mono hB.size)
 have hx := hx.below hk
 have hy := hy.below hk
 have qA := qA.below hk
 have qB := qB.below hk
 have qC := qC.below hk
 have H3 := H3.below hk
 have H4 := H4.below hk
 have H5 := H5.below hk
 clear hk
 obtain ⟨Z6, hZ6⟩ : ∃ Z, u6.alloc (Obj.cells #[.bool false, .slice none 0 0] 25) = Z := ⟨_, rfl⟩
 obtain ⟨W6, hW6⟩ : ∃ W, (Z6.setCell ⟨u6.heap.size, 0, none⟩ (.bool s6)).setCell ⟨u6.heap.size, 1, none⟩ (.slice a6 n6 c6) = W := ⟨_, rfl⟩
 obtain ⟨H6, hk, bx6⟩ := num_new (c := c6) hZ6 hW6 N6
 clear N6
 obtain ⟨B6, hB6⟩ : ∃ B, u6.heap.size = B := ⟨_, rfl⟩
 have hB := hB.trans (hk.mono hB.size)
 have hx := hx.below hk
 have hy := hy.below hk
 have qA := qA.below hk
 have qB := qB.below hk
 have qC := qC.below hk
 have H3 := H3.below hk
 have H4 := H4.below hk
 have H5 := H5.below hk
 clear hk
 rw [hB6] at hW6 H6 bx6
 have P1 := zero_num W6
 have P2 := zero_num W6
 cases O1 with
 | none =>
   obtain ⟨Wz, hWz⟩ : ∃ W, (((W6.setCell ⟨w.heap.size + 1 + 1, 0, none⟩ (.bool false)).setCell ⟨w.heap.size + 1 + 1, 1, none⟩ (.slice none 0 0)).setCell ⟨w.heap.size + 1 + 1, 2, none⟩ (.bool false)).setCell ⟨w.heap.size + 1 + 1, 3, none⟩ (.slice none 0 0) = W := ⟨_, rfl⟩
   obtain ⟨hQ, hT⟩ := qC.set _ _ _ _ hWz
   have hBz : Below w.heap.size w Wz := by rw [← hWz]; exact below_set4 hB (by omega) _ _ _ _
   have P1 := P1.quad qC.four hT
   have P2 := P2.quad qC.four hT
   have K := hide (And.intro hQ (And.intro P1 (And.intro P2 hBz)))
   have HWz := hide hWz
   clear hQ hBz hWz hT P1 P2
   obtain ⟨⟨x90, x91, x92, x93⟩, z90, z91, z92, z93⟩ := id qC
   obtain ⟨y60, y61, yz60, yz61⟩ := id bx6
   go_wp2
   try rw [hW6]
   try rw [hB6]
   obtain ⟨⟨⟨q0, q1, q2, q3⟩, -, -, -, -⟩, P1, P2, hBB⟩ := K.out
   rw [HWz.out]
   exact bodyPost_ret (v := .tuple #[.agg #[.bool false, .slice none 0 0, .bool false, .slice none 0 0], .bool false]) (by simp [results, Tryz.results94, go_sem, q0, q1, q2, q3]) rfl (by rw [show addR x y = none from (by unfold addR; rw [E1.out])]; exact ⟨_, _, _, _, _, _, _, _, rfl, P1, P2, by decide, by decide, hBB⟩)
 | some v1 =>
   cases O2 with
   | none =>
     obtain ⟨Wz, hWz⟩ : ∃ W, (((W6.setCell ⟨w.heap.size + 1 + 1, 0, none⟩ (.bool false)).setCell ⟨w.heap.size + 1 + 1, 1, none⟩ (.slice none 0 0)).setCell ⟨w.heap.size + 1 + 1, 2, none⟩ (.bool false)).setCell ⟨w.heap.size + 1 + 1, 3, none⟩ (.slice none 0 0) = W := ⟨_, rfl⟩
     obtain ⟨hQ, hT⟩ := qC.set _ _ _ _ hWz
     have hBz : Below w.heap.size w Wz := by rw [← hWz]; exact below_set4 hB (by omega) _ _ _ _
     have P1 := P1.quad qC.four hT
     have P2 := P2.quad qC.four hT
     have K := hide (And.intro hQ (And.intro P1 (And.intro P2 hBz)))
     have HWz := hide hWz
     clear hQ hBz hWz hT P1 P2
     obtain ⟨⟨x90, x91, x92, x93⟩, z90, z91, z92, z93⟩ := id qC
     obtain ⟨y60, y61, yz60, yz61⟩ := id bx6
     go_wp2
     try rw [hW6]
     try rw [hB6]
     obtain ⟨⟨⟨q0, q1, q2, q3⟩, -, -, -, -⟩, P1, P2, hBB⟩ := K.out
     rw [HWz.out]
     exact bodyPost_ret (v := .tuple #[.agg #[.bool false, .slice none 0 0, .bool false, .slice none 0 0], .bool false]) (by simp [results, Tryz.results94, go_sem, q0, q1, q2, q3]) rfl (by rw [show addR x y = none from (by unfold addR; rw [E1.out, E2.out])]; exact ⟨_, _, _, _, _, _, _, _, rfl, P1, P2, by decide, by decide, hBB⟩)
   | some v2 =>
     cases O3 with
     | none =>
       obtain ⟨Wz, hWz⟩ : ∃ W, (((W6.setCell ⟨w.heap.size + 1 + 1, 0, none⟩ (.bool false)).setCell ⟨w.heap.size + 1 + 1, 1, none⟩ (.slice none 0 0)).setCell ⟨w.heap.size + 1 + 1, 2, none⟩ (.bool false)).setCell ⟨w.heap.size + 1 + 1, 3, none⟩ (.slice none 0 0) = W := ⟨_, rfl⟩
       obtain ⟨hQ, hT⟩ := qC.set _ _ _ _ hWz
       have hBz : Below w.heap.size w Wz := by rw [← hWz]; exact below_set4 hB (by omega) _ _ _ _
       have P1 := P1.quad qC.four hT
       have P2 := P2.quad qC.four hT
       have K := hide (And.intro hQ (And.intro P1 (And.intro P2 hBz)))
       have HWz := hide hWz
       clear hQ hBz hWz hT P1 P2
       obtain ⟨⟨x90, x91, x92, x93⟩, z90, z91, z92, z93⟩ := id qC
       obtain ⟨y60, y61, yz60, yz61⟩ := id bx6
       go_wp2
       try rw [hW6]
       try rw [hB6]
       obtain ⟨⟨⟨q0, q1, q2, q3⟩, -, -, -, -⟩, P1, P2, hBB⟩ := K.out
       rw [HWz.out]
       exact bodyPost_ret (v := .tuple #[.agg #[.bool false, .slice none 0 0, .bool false, .slice none 0 0], .bool false]) (by simp [results, Tryz.results94, go_sem, q0, q1, q2, q3]) rfl (by rw [show addR x y = none from (by unfold addR; rw [E1.out, E2.out, E3.out])]; exact ⟨_, _, _, _, _, _, _, _, rfl, P1, P2, by decide, by decide, hBB⟩)
     | some v3 =>
       cases O4 with
       | none =>
         obtain ⟨Wz, hWz⟩ : ∃ W, (((W6.setCell ⟨w.heap.size + 1 + 1, 0, none⟩ (.bool false)).setCell ⟨w.heap.size + 1 + 1, 1, none⟩ (.slice none 0 0)).setCell ⟨w.heap.size + 1 + 1, 2, none⟩ (.bool false)).setCell ⟨w.heap.size + 1 + 1, 3, none⟩ (.slice none 0 0) = W := ⟨_, rfl⟩
         obtain ⟨hQ, hT⟩ := qC.set _ _ _ _ hWz
         have hBz : Below w.heap.size w Wz := by rw [← hWz]; exact below_set4 hB (by omega) _ _ _ _
         have P1 := P1.quad qC.four hT
         have P2 := P2.quad qC.four hT
         have K := hide (And.intro hQ (And.intro P1 (And.intro P2 hBz)))
         have HWz := hide hWz
         clear hQ hBz hWz hT P1 P2
         obtain ⟨⟨x90, x91, x92, x93⟩, z90, z91, z92, z93⟩ := id qC
         obtain ⟨y60, y61, yz60, yz61⟩ := id bx6
         go_wp2
         try rw [hW6]
         try rw [hB6]
         obtain ⟨⟨⟨q0, q1, q2, q3⟩, -, -, -, -⟩, P1, P2, hBB⟩ := K.out
         rw [HWz.out]
         exact bodyPost_ret (v := .tuple #[.agg #[.bool false, .slice none 0 0, .bool false, .slice none 0 0], .bool false]) (by simp [results, Tryz.results94, go_sem, q0, q1, q2, q3]) rfl (by rw [show addR x y = none from (by have e4 : fitO (v1 + v2) = none := E4.out; unfold addR; rw [E1.out, E2.out, E3.out]; show (match fitO (v1 + v2) with | some s => divO s v3 | none => none) = none; rw [e4])]; exact ⟨_, _, _, _, _, _, _, _, rfl, P1, P2, by decide, by decide, hBB⟩)
       | some v4 =>
         clear P1 P2
         obtain ⟨y60, y61, yz60, yz61⟩ := id bx6
         obtain ⟨x10, x11, -, -⟩ := id H6.box
         obtain ⟨x20, x21, -, -⟩ := id H5.box
         go_wp2_with fail
         try rw [hW6]
         try rw [hB6]
         clear hW6 hB6
         clear y60 y61 yz60 yz61 x10 x11 x20 x21
         have cc := of_r s6 s5 a6 a5 n6 n5 c6 c5 v4 v3 k6 k5 W6 H6.num H5.num
         have e0 : addR x y = divO v4 v3 := by have e4 : fitO (v1 + v2) = some v4 := E4.out; unfold addR; rw [E1.out, E2.out, E3.out]; show (match fitO (v1 + v2) with | some s => divO s v3 | none => none) = divO v4 v3; rw [e4]
         rw [← e0] at cc
         clear e0
         refine cc.mono ?_
         clear cc
         rintro e u9 ⟨s8, a8, n8, c8, s9, a9, n9, c9, rfl, P1, P2, k8, k9, hk⟩
         have hB := hB.trans (hk.mono hB.size)
         have qC := qC.below hk
         clear hk
         obtain ⟨Wz, hWz⟩ : ∃ W, (((u9.setCell ⟨w.heap.size + 1 + 1, 0, none⟩ (.bool s8)).setCell ⟨w.heap.size + 1 + 1, 1, none⟩ (.slice a8 n8 c8)).setCell ⟨w.heap.size + 1 + 1, 2, none⟩ (.bool s9)).setCell ⟨w.heap.size + 1 + 1, 3, none⟩ (.slice a9 n9 c9) = W := ⟨_, rfl⟩
         obtain ⟨hQ, hT⟩ := qC.set _ _ _ _ hWz
         have hBz : Below w.heap.size w Wz := by rw [← hWz]; exact below_set4 hB (by omega) _ _ _ _
         have P1 := P1.quad qC.four hT
         have P2 := P2.quad qC.four hT
         have K := hide (And.intro hQ (And.intro P1 (And.intro P2 hBz)))
         have HWz := hide hWz
         clear hQ hBz hWz hT P1 P2
         obtain ⟨⟨x90, x91, x92, x93⟩, z90, z91, z92, z93⟩ := id qC
         go_wp2
         obtain ⟨⟨⟨q0, q1, q2, q3⟩, -, -, -, -⟩, P1, P2, hBB⟩ := K.out
         rw [HWz.out]
         exact bodyPost_ret (v := .tuple #[.agg #[.bool s8, .slice a8 n8 c8, .bool s9, .slice a9 n9 c9], .bool (addR x y).isSome]) (by simp [results, Tryz.results94, go_sem, q0, q1, q2, q3]) rfl ⟨_, _, _, _, _, _, _, _, rfl, P1, P2, k8, k9, hBB⟩
set_option maxRecDepth 100000 in
set_option maxHeartbeats 4000000 in
theorem scale_r (s1 s2 t1 t2 : Bool) (a1 a2 b1 b2 : Option Addr) (n1 n2 m1 m2 c1 c2 d1 d2 : Nat) (x : Rat) (n d : Int) (km1 : m1 ≤ 64) (km2 : m2 ≤ 64) (w : World) (hx : RArg w s1 a1 n1 s2 a2 n2 (some x)) (hn : IsN w t1 b1 m1 n) (hd : IsN w t2 b2 m2 d) :
 Calls Tryz.prog 97 #[.agg #[.bool s1, .slice a1 n1 c1, .bool s2, .slice a2 n2 c2], .agg #[.bool t1, .slice b1 m1 d1], .agg #[.bool t2, .slice b2 m2 d2]] w (RatPost w (mulR x.num n x.den d)) := by
 obtain ⟨O1, hO1⟩ : ∃ O, fitO (x.num * n) = O := ⟨_, rfl⟩
 obtain ⟨O2, hO2⟩ : ∃ O, fitO ((x.den : Int) * d) = O := ⟨_, rfl⟩
 have E1 := hide hO1
 have E2 := hide hO2
 clear hO1 hO2
 go_enter Tryz.func97, Tryz.ntmps97
 go_wp2_with fail
 obtain ⟨W1, hW1⟩ : ∃ W1, (((w.alloc (Obj.cells #[.bool s1, .slice a1 n1 c1, .bool s2, .slice a2 n2 c2] 37)).alloc (Obj.cells #[.bool t1, .slice b1 m1 d1] 25)).alloc (Obj.cells #[.bool t2, .slice b2 m2 d2] 25)).alloc (Obj.cells #[.bool false, .slice none 0 0, .bool false, .slice none 0 0] 37) = W1 := ⟨_, rfl⟩
 obtain ⟨qA, bB, bD, qC, hB⟩ := rat_boxes3 w _ _ _ _ _ _ _ _ _ _ hW1
 have hx := hx.below hB
 have H1 : Held W1 (w.heap.size + 1) t1 b1 m1 d1 n := ⟨bB, hn.below hB⟩
 have H2 : Held W1 (w.heap.size + 1 + 1) t2 b2 m2 d2 d := ⟨bD, hd.below hB⟩
 clear bB bD
 try rw [hW1]
 clear hW1
 obtain ⟨⟨x10, x11, x12, x13⟩, -, -, -, -⟩ := id qA
 obtain ⟨x20, x21, -, -⟩ := id H1.box
 go_wp2_with fail
 clear x10 x11 x12 x13 x20 x21
 have cc := mul_arg s1 t1 a1 b1 n1 m1 c1 d1 (some x.num) (some n) W1 ⟨hx.num, hx.l1⟩ ⟨H1.num, km1⟩
 rw [show mulO (some x.num) (some n) = _ from E1.out] at cc
 refine cc.mono ?_
 clear cc
 rintro e u3 ⟨s3, a3, n3, c3, rfl, N3, k3, -, hk⟩
 have hB := hB.trans (hk.mono hB.size)
 have hx := hx.below hk
 have H1 := H1.below hk
 have H2 := H2.below hk
 have qA := qA.below hk
 have qC := qC.below hk
 clear hk
 obtain ⟨Z3, hZ3⟩ : ∃ Z, u3.alloc (Obj.cells #[.bool false, .slice none 0 0] 25) = Z := ⟨_, rfl⟩
 obtain ⟨W3, hW3⟩ : ∃ W, (Z3.setCell ⟨u3.heap.size, 0, none⟩ (.bool s3)).setCell ⟨u3.heap.size, 1, none⟩ (.slice a3 n3 c3) = W := ⟨_, rfl⟩
 obtain ⟨H3, hk, bx3⟩ := num_new (c := c3) hZ3 hW3 N3
 clear N3
 obtain ⟨B3, hB3⟩ : ∃ B, u3.heap.size = B := ⟨_, rfl⟩
 have hB := hB.trans (hk.mono hB.size)
 have hx := hx.below hk
 have H1 := H1.below hk
 have H2 := H2.below hk
 have qA := qA.below hk
 have qC := qC.below hk
 clear hk
 rw [hB3] at hW3 H3 bx3
 obtain ⟨⟨x10, x11, x12, x13⟩, -, -, -, -⟩ := id qA
 obtain ⟨x20, x21, -, -⟩ := id H2.box
 obtain ⟨y30, y31, yz30, yz31⟩ := id bx3
 go_wp2_with fail
 try rw [hW3]
 try rw [hB3]
 clear hW3 hB3
 clear x10 x11 x12 x13 x20 x21 y30 y31 yz30 yz31
 have cc := mul_arg s2 t2 a2 b2 n2 m2 c2 d2 (some (x.den : Int)) (some d) W3 ⟨hx.den, hx.l2⟩ ⟨H2.num, km2⟩
 rw [show mulO (some (x.den : Int)) (some d) = _ from E2.out] at cc
 refine cc.mono ?_
 clear cc
 rintro e u4 ⟨s4, a4, n4, c4, rfl, N4, k4, -, hk⟩
 have hB := hB.trans (hk.mono hB.size)
 have hx := hx.below hk
 have H1 := H1.below hk
 have H2 := H2.below hk
 have qA := qA.below hk
 have qC := qC.below hk
 have H3 := H3.below hk
 clear hk
 obtain ⟨Z4, hZ4⟩ : ∃ Z, u4.alloc (Obj.cells #[.bool false, .slice none 0 0] 25) = Z := ⟨_, rfl⟩
 obtain ⟨W4, hW4⟩ : ∃ W, (Z4.setCell ⟨u4.heap.size, 0, none⟩ (.bool s4)).setCell ⟨u4.heap.size, 1, none⟩ (.slice a4 n4 c4) = W := ⟨_, rfl⟩
 obtain ⟨H4, hk, bx4⟩ := num_new (c := c4) hZ4 hW4 N4
 clear N4
 obtain ⟨B4, hB4⟩ : ∃ B, u4.heap.size = B := ⟨_, rfl⟩
 have hB := hB.trans (hk.mono hB.size)
 have hx := hx.below hk
 have H1 := H1.below hk
 have H2 := H2.below hk
 have qA := qA.below hk
 have qC := qC.below hk
 have H3 := H3.below hk
 clear hk
 rw [hB4] at hW4 H4 bx4
 have P1 := zero_num W4
 have P2 := zero_num W4
 cases O1 with
 | none =>
   obtain ⟨Wz, hWz⟩ : ∃ W, (((W4.setCell ⟨w.heap.size + 1 + 1 + 1, 0, none⟩ (.bool false)).setCell ⟨w.heap.size + 1 + 1 + 1, 1, none⟩ (.slice none 0 0)).setCell ⟨w.heap.size + 1 + 1 + 1, 2, none⟩ (.bool false)).setCell ⟨w.heap.size + 1 + 1 + 1, 3, none⟩ (.slice none 0 0) = W := ⟨_, rfl⟩
   obtain ⟨hQ, hT⟩ := qC.set _ _ _ _ hWz
   have hBz : Below w.heap.size w Wz := by rw [← hWz]; exact below_set4 hB (by omega) _ _ _ _
   have P1 := P1.quad qC.four hT
   have P2 := P2.quad qC.four hT
   have K := hide (And.intro hQ (And.intro P1 (And.intro P2 hBz)))
   have HWz := hide hWz
   clear hQ hBz hWz hT P1 P2
   obtain ⟨⟨x90, x91, x92, x93⟩, z90, z91, z92, z93⟩ := id qC
   obtain ⟨y40, y41, yz40, yz41⟩ := id bx4
   go_wp2
   try rw [hW4]
   try rw [hB4]
   obtain ⟨⟨⟨q0, q1, q2, q3⟩, -, -, -, -⟩, P1, P2, hBB⟩ := K.out
   rw [HWz.out]
   exact bodyPost_ret (v := .tuple #[.agg #[.bool false, .slice none 0 0, .bool false, .slice none 0 0], .bool false]) (by simp [results, Tryz.results97, go_sem, q0, q1, q2, q3]) rfl (by rw [show mulR x.num n x.den d = none from (by unfold mulR; rw [E1.out])]; exact ⟨_, _, _, _, _, _, _, _, rfl, P1, P2, by decide, by decide, hBB⟩)
 | some v1 =>
   cases O2 with
   | none =>
     obtain ⟨Wz, hWz⟩ : ∃ W, (((W4.setCell ⟨w.heap.size + 1 + 1 + 1, 0, none⟩ (.bool false)).setCell ⟨w.heap.size + 1 + 1 + 1, 1, none⟩ (.slice none 0 0)).setCell ⟨w.heap.size + 1 + 1 + 1, 2, none⟩ (.bool false)).setCell ⟨w.heap.size + 1 + 1 + 1, 3, none⟩ (.slice none 0 0) = W := ⟨_, rfl⟩
     obtain ⟨hQ, hT⟩ := qC.set _ _ _ _ hWz
     have hBz : Below w.heap.size w Wz := by rw [← hWz]; exact below_set4 hB (by omega) _ _ _ _
     have P1 := P1.quad qC.four hT
     have P2 := P2.quad qC.four hT
     have K := hide (And.intro hQ (And.intro P1 (And.intro P2 hBz)))
     have HWz := hide hWz
     clear hQ hBz hWz hT P1 P2
     obtain ⟨⟨x90, x91, x92, x93⟩, z90, z91, z92, z93⟩ := id qC
     obtain ⟨y40, y41, yz40, yz41⟩ := id bx4
     go_wp2
     try rw [hW4]
     try rw [hB4]
     obtain ⟨⟨⟨q0, q1, q2, q3⟩, -, -, -, -⟩, P1, P2, hBB⟩ := K.out
     rw [HWz.out]
     exact bodyPost_ret (v := .tuple #[.agg #[.bool false, .slice none 0 0, .bool false, .slice none 0 0], .bool false]) (by simp [results, Tryz.results97, go_sem, q0, q1, q2, q3]) rfl (by rw [show mulR x.num n x.den d = none from (by unfold mulR; rw [E1.out, E2.out])]; exact ⟨_, _, _, _, _, _, _, _, rfl, P1, P2, by decide, by decide, hBB⟩)
   | some v2 =>
     clear P1 P2
     obtain ⟨y40, y41, yz40, yz41⟩ := id bx4
     obtain ⟨x10, x11, -, -⟩ := id H3.box
     obtain ⟨x20, x21, -, -⟩ := id H4.box
     go_wp2_with fail
     try rw [hW4]
     try rw [hB4]
     clear hW4 hB4
     clear y40 y41 yz40 yz41 x10 x11 x20 x21
     have cc := of_r s3 s4 a3 a4 n3 n4 c3 c4 v1 v2 k3 k4 W4 H3.num H4.num
     have e0 : mulR x.num n x.den d = divO v1 v2 := by unfold mulR; rw [E1.out, E2.out]
     rw [← e0] at cc
     clear e0
     refine cc.mono ?_
     clear cc
     rintro e u9 ⟨s8, a8, n8, c8, s9, a9, n9, c9, rfl, P1, P2, k8, k9, hk⟩
     have hB := hB.trans (hk.mono hB.size)
     have qC := qC.below hk
     clear hk
     obtain ⟨Wz, hWz⟩ : ∃ W, (((u9.setCell ⟨w.heap.size + 1 + 1 + 1, 0, none⟩ (.bool s8)).setCell ⟨w.heap.size + 1 + 1 + 1, 1, none⟩ (.slice a8 n8 c8)).setCell ⟨w.heap.size + 1 + 1 + 1, 2, none⟩ (.bool s9)).setCell ⟨w.heap.size + 1 + 1 + 1, 3, none⟩ (.slice a9 n9 c9) = W := ⟨_, rfl⟩
     obtain ⟨hQ, hT⟩ := qC.set _ _ _ _ hWz
     have hBz : Below w.heap.size w Wz := by rw [← hWz]; exact below_set4 hB (by omega) _ _ _ _
     have P1 := P1.quad qC.four hT
     have P2 := P2.quad qC.four hT
     have K := hide (And.intro hQ (And.intro P1 (And.intro P2 hBz)))
     have HWz := hide hWz
     clear hQ hBz hWz hT P1 P2
     obtain ⟨⟨x90, x91, x92, x93⟩, z90, z91, z92, z93⟩ := id qC
     go_wp2
     obtain ⟨⟨⟨q0, q1, q2, q3⟩, -, -, -, -⟩, P1, P2, hBB⟩ := K.out
     rw [HWz.out]
     exact bodyPost_ret (v := .tuple #[.agg #[.bool s8, .slice a8 n8 c8, .bool s9, .slice a9 n9 c9], .bool (mulR x.num n x.den d).isSome]) (by simp [results, Tryz.results97, go_sem, q0, q1, q2, q3]) rfl ⟨_, _, _, _, _, _, _, _, rfl, P1, P2, k8, k9, hBB⟩

def addRO : Option Rat → Option Rat → Option Rat
 | some x, some y => addR x y
 | _, _ => none
def subRO : Option Rat → Option Rat → Option Rat
 | some x, some y => addR x (-y)
 | _, _ => none
def mulRO : Option Rat → Option Rat → Option Rat
 | some x, some y => mulR x.num y.num x.den y.den
 | _, _ => none
def divRO : Option Rat → Option Rat → Option Rat
 | some x, some y => mulR x.num y.den x.den y.num
 | _, _ => none
theorem RArg.neg {w : World} {s1 s2 : Bool} {a1 a2 : Option Addr} {n1 n2 : Nat} {y : Rat} (h1 : IsN w s1 a1 n1 (-y.num)) (h2 : IsN w s2 a2 n2 (y.den : Int)) (k1 : n1 ≤ 64) (k2 : n2 ≤ 64) : RArg w s1 a1 n1 s2 a2 n2 (some (-y)) := ⟨h1, h2, k1, k2⟩
set_option maxRecDepth 100000 in
set_option maxHeartbeats 4000000 in
theorem add_r (s1 s2 t1 t2 : Bool) (a1 a2 b1 b2 : Option Addr) (n1 n2 m1 m2 c1 c2 d1 d2 : Nat) (ox oy : Option Rat) (w : World) (hx : RArg w s1 a1 n1 s2 a2 n2 ox) (hy : RArg w t1 b1 m1 t2 b2 m2 oy) :
 Calls Tryz.prog 35 #[.agg #[.bool s1, .slice a1 n1 c1, .bool s2, .slice a2 n2 c2], .agg #[.bool t1, .slice b1 m1 d1, .bool t2, .slice b2 m2 d2]] w (RatPost w (addRO ox oy)) := by
 go_enter Tryz.func35, Tryz.ntmps35
 go_wp2_with fail
 obtain ⟨W1, hW1⟩ : ∃ W1, ((w.alloc (Obj.cells #[.bool s1, .slice a1 n1 c1, .bool s2, .slice a2 n2 c2] 37)).alloc (Obj.cells #[.bool t1, .slice b1 m1 d1, .bool t2, .slice b2 m2 d2] 37)).alloc (Obj.cells #[.bool false, .slice none 0 0, .bool false, .slice none 0 0] 37) = W1 := ⟨_, rfl⟩
 obtain ⟨qA, qB, qC, hB⟩ := rat_boxes2 w _ _ _ _ _ _ _ _ _ hW1
 have hx := hx.below hB
 have hy := hy.below hB
 try rw [hW1]
 clear hW1
 obtain ⟨⟨x10, x11, x12, x13⟩, -, -, -, -⟩ := id qA
 go_wp2_with fail
 clear x10 x11 x12 x13
 refine (right_r s1 s2 a1 a2 n1 n2 c1 c2 ox W1 hx).mono ?_
 rintro e w1 ⟨rfl, hk⟩
 have hB := hB.trans (hk.mono hB.size)
 have hx := hx.below hk
 have hy := hy.below hk
 have qA := qA.below hk
 have qB := qB.below hk
 have qC := qC.below hk
 clear hk
 cases ox with
 | none =>
   have P1 := zero_num w1
   have P2 := zero_num w1
   obtain ⟨Wz, hWz⟩ : ∃ W, (((w1.setCell ⟨w.heap.size + 1 + 1, 0, none⟩ (.bool false)).setCell ⟨w.heap.size + 1 + 1, 1, none⟩ (.slice none 0 0)).setCell ⟨w.heap.size + 1 + 1, 2, none⟩ (.bool false)).setCell ⟨w.heap.size + 1 + 1, 3, none⟩ (.slice none 0 0) = W := ⟨_, rfl⟩
   obtain ⟨hQ, hT⟩ := qC.set _ _ _ _ hWz
   have hBz : Below w.heap.size w Wz := by rw [← hWz]; exact below_set4 hB (by omega) _ _ _ _
   have P1 := P1.quad qC.four hT
   have P2 := P2.quad qC.four hT
   have K := hide (And.intro hQ (And.intro P1 (And.intro P2 hBz)))
   have HWz := hide hWz
   clear hQ hBz hWz hT P1 P2
   obtain ⟨⟨x90, x91, x92, x93⟩, z90, z91, z92, z93⟩ := id qC
   go_wp2
   obtain ⟨⟨⟨q0, q1, q2, q3⟩, -, -, -, -⟩, P1, P2, hBB⟩ := K.out
   rw [HWz.out]
   exact bodyPost_ret (v := .tuple #[.agg #[.bool false, .slice none 0 0, .bool false, .slice none 0 0], .bool false]) (by simp [results, Tryz.results35, go_sem, q0, q1, q2, q3]) rfl (by rw [show addRO none oy = none from rfl]; exact ⟨_, _, _, _, _, _, _, _, rfl, P1, P2, by decide, by decide, hBB⟩)
 | some x =>
   obtain ⟨⟨x20, x21, x22, x23⟩, -, -, -, -⟩ := id qB
   go_wp2_with fail
   clear x20 x21 x22 x23
   refine (right_r t1 t2 b1 b2 m1 m2 d1 d2 oy w1 hy).mono ?_
   rintro e w2 ⟨rfl, hk⟩
   have hB := hB.trans (hk.mono hB.size)
   have hx := hx.below hk
   have hy := hy.below hk
   have qA := qA.below hk
   have qB := qB.below hk
   have qC := qC.below hk
   clear hk
   cases oy with
   | none =>
     have P1 := zero_num w2
     have P2 := zero_num w2
     obtain ⟨Wz, hWz⟩ : ∃ W, (((w2.setCell ⟨w.heap.size + 1 + 1, 0, none⟩ (.bool false)).setCell ⟨w.heap.size + 1 + 1, 1, none⟩ (.slice none 0 0)).setCell ⟨w.heap.size + 1 + 1, 2, none⟩ (.bool false)).setCell ⟨w.heap.size + 1 + 1, 3, none⟩ (.slice none 0 0) = W := ⟨_, rfl⟩
     obtain ⟨hQ, hT⟩ := qC.set _ _ _ _ hWz
     have hBz : Below w.heap.size w Wz := by rw [← hWz]; exact below_set4 hB (by omega) _ _ _ _
     have P1 := P1.quad qC.four hT
     have P2 := P2.quad qC.four hT
     have K := hide (And.intro hQ (And.intro P1 (And.intro P2 hBz)))
     have HWz := hide hWz
     clear hQ hBz hWz hT P1 P2
     obtain ⟨⟨x90, x91, x92, x93⟩, z90, z91, z92, z93⟩ := id qC
     go_wp2
     obtain ⟨⟨⟨q0, q1, q2, q3⟩, -, -, -, -⟩, P1, P2, hBB⟩ := K.out
     rw [HWz.out]
     exact bodyPost_ret (v := .tuple #[.agg #[.bool false, .slice none 0 0, .bool false, .slice none 0 0], .bool false]) (by simp [results, Tryz.results35, go_sem, q0, q1, q2, q3]) rfl (by rw [show addRO (some x) none = none from rfl]; exact ⟨_, _, _, _, _, _, _, _, rfl, P1, P2, by decide, by decide, hBB⟩)
   | some y =>
     obtain ⟨⟨x10, x11, x12, x13⟩, -, -, -, -⟩ := id qA
     obtain ⟨⟨x20, x21, x22, x23⟩, -, -, -, -⟩ := id qB
     go_wp2_with fail
     clear x10 x11 x12 x13 x20 x21 x22 x23
     refine (sum_r s1 s2 t1 t2 a1 a2 b1 b2 n1 n2 m1 m2 c1 c2 d1 d2 x y w2 hx hy).mono ?_
     rintro e w3 ⟨s8, a8, n8, c8, s9, a9, n9, c9, rfl, P1, P2, k8, k9, hk⟩
     have hB := hB.trans (hk.mono hB.size)
     have qC := qC.below hk
     clear hk
     obtain ⟨Wz, hWz⟩ : ∃ W, (((w3.setCell ⟨w.heap.size + 1 + 1, 0, none⟩ (.bool s8)).setCell ⟨w.heap.size + 1 + 1, 1, none⟩ (.slice a8 n8 c8)).setCell ⟨w.heap.size + 1 + 1, 2, none⟩ (.bool s9)).setCell ⟨w.heap.size + 1 + 1, 3, none⟩ (.slice a9 n9 c9) = W := ⟨_, rfl⟩
     obtain ⟨hQ, hT⟩ := qC.set _ _ _ _ hWz
     have hBz : Below w.heap.size w Wz := by rw [← hWz]; exact below_set4 hB (by omega) _ _ _ _
     have P1 := P1.quad qC.four hT
     have P2 := P2.quad qC.four hT
     have K := hide (And.intro hQ (And.intro P1 (And.intro P2 hBz)))
     have HWz := hide hWz
     clear hQ hBz hWz hT P1 P2
     obtain ⟨⟨x90, x91, x92, x93⟩, z90, z91, z92, z93⟩ := id qC
     go_wp2
     obtain ⟨⟨⟨q0, q1, q2, q3⟩, -, -, -, -⟩, P1, P2, hBB⟩ := K.out
     rw [HWz.out]
     exact bodyPost_ret (v := .tuple #[.agg #[.bool s8, .slice a8 n8 c8, .bool s9, .slice a9 n9 c9], .bool (addR x y).isSome]) (by simp [results, Tryz.results35, go_sem, q0, q1, q2, q3]) rfl ⟨_, _, _, _, _, _, _, _, rfl, P1, P2, k8, k9, hBB⟩
set_option maxRecDepth 100000 in
set_option maxHeartbeats 4000000 in
theorem mul_r (s1 s2 t1 t2 : Bool) (a1 a2 b1 b2 : Option Addr) (n1 n2 m1 m2 c1 c2 d1 d2 : Nat) (ox oy : Option Rat) (w : World) (hx : RArg w s1 a1 n1 s2 a2 n2 ox) (hy : RArg w t1 b1 m1 t2 b2 m2 oy) :
 Calls Tryz.prog 39 #[.agg #[.bool s1, .slice a1 n1 c1, .bool s2, .slice a2 n2 c2], .agg #[.bool t1, .slice b1 m1 d1, .bool t2, .slice b2 m2 d2]] w (RatPost w (mulRO ox oy)) := by
 go_enter Tryz.func39, Tryz.ntmps39
 go_wp2_with fail
 obtain ⟨W1, hW1⟩ : ∃ W1, ((w.alloc (Obj.cells #[.bool s1, .slice a1 n1 c1, .bool s2, .slice a2 n2 c2] 37)).alloc (Obj.cells #[.bool t1, .slice b1 m1 d1, .bool t2, .slice b2 m2 d2] 37)).alloc (Obj.cells #[.bool false, .slice none 0 0, .bool false, .slice none 0 0] 37) = W1 := ⟨_, rfl⟩
 obtain ⟨qA, qB, qC, hB⟩ := rat_boxes2 w _ _ _ _ _ _ _ _ _ hW1
 have hx := hx.below hB
 have hy := hy.below hB
 try rw [hW1]
 clear hW1
 obtain ⟨⟨x10, x11, x12, x13⟩, -, -, -, -⟩ := id qA
 go_wp2_with fail
 clear x10 x11 x12 x13
 refine (right_r s1 s2 a1 a2 n1 n2 c1 c2 ox W1 hx).mono ?_
 rintro e w1 ⟨rfl, hk⟩
 have hB := hB.trans (hk.mono hB.size)
 have hx := hx.below hk
 have hy := hy.below hk
 have qA := qA.below hk
 have qB := qB.below hk
 have qC := qC.below hk
 clear hk
 cases ox with
 | none =>
   have P1 := zero_num w1
   have P2 := zero_num w1
   obtain ⟨Wz, hWz⟩ : ∃ W, (((w1.setCell ⟨w.heap.size + 1 + 1, 0, none⟩ (.bool false)).setCell ⟨w.heap.size + 1 + 1, 1, none⟩ (.slice none 0 0)).setCell ⟨w.heap.size + 1 + 1, 2, none⟩ (.bool false)).setCell ⟨w.heap.size + 1 + 1, 3, none⟩ (.slice none 0 0) = W := ⟨_, rfl⟩
   obtain ⟨hQ, hT⟩ := qC.set _ _ _ _ hWz
   have hBz : Below w.heap.size w Wz := by rw [← hWz]; exact below_set4 hB (by omega) _ _ _ _
   have P1 := P1.quad qC.four hT
   have P2 := P2.quad qC.four hT
   have K := hide (And.intro hQ (And.intro P1 (And.intro P2 hBz)))
   have HWz := hide hWz
   clear hQ hBz hWz hT P1 P2
   obtain ⟨⟨x90, x91, x92, x93⟩, z90, z91, z92, z93⟩ := id qC
   go_wp2
   obtain ⟨⟨⟨q0, q1, q2, q3⟩, -, -, -, -⟩, P1, P2, hBB⟩ := K.out
   rw [HWz.out]
   exact bodyPost_ret (v := .tuple #[.agg #[.bool false, .slice none 0 0, .bool false, .slice none 0 0], .bool false]) (by simp [results, Tryz.results39, go_sem, q0, q1, q2, q3]) rfl (by rw [show mulRO none oy = none from rfl]; exact ⟨_, _, _, _, _, _, _, _, rfl, P1, P2, by decide, by decide, hBB⟩)
 | some x =>
   obtain ⟨⟨x20, x21, x22, x23⟩, -, -, -, -⟩ := id qB
   go_wp2_with fail
   clear x20 x21 x22 x23
   refine (right_r t1 t2 b1 b2 m1 m2 d1 d2 oy w1 hy).mono ?_
   rintro e w2 ⟨rfl, hk⟩
   have hB := hB.trans (hk.mono hB.size)
   have hx := hx.below hk
   have hy := hy.below hk
   have qA := qA.below hk
   have qB := qB.below hk
   have qC := qC.below hk
   clear hk
   cases oy with
   | none =>
     have P1 := zero_num w2
     have P2 := zero_num w2
     obtain ⟨Wz, hWz⟩ : ∃ W, (((w2.setCell ⟨w.heap.size + 1 + 1, 0, none⟩ (.bool false)).setCell ⟨w.heap.size + 1 + 1, 1, none⟩ (.slice none 0 0)).setCell ⟨w.heap.size + 1 + 1, 2, none⟩ (.bool false)).setCell ⟨w.heap.size + 1 + 1, 3, none⟩ (.slice none 0 0) = W := ⟨_, rfl⟩
     obtain ⟨hQ, hT⟩ := qC.set _ _ _ _ hWz
     have hBz : Below w.heap.size w Wz := by rw [← hWz]; exact below_set4 hB (by omega) _ _ _ _
     have P1 := P1.quad qC.four hT
     have P2 := P2.quad qC.four hT
     have K := hide (And.intro hQ (And.intro P1 (And.intro P2 hBz)))
     have HWz := hide hWz
     clear hQ hBz hWz hT P1 P2
     obtain ⟨⟨x90, x91, x92, x93⟩, z90, z91, z92, z93⟩ := id qC
     go_wp2
     obtain ⟨⟨⟨q0, q1, q2, q3⟩, -, -, -, -⟩, P1, P2, hBB⟩ := K.out
     rw [HWz.out]
     exact bodyPost_ret (v := .tuple #[.agg #[.bool false, .slice none 0 0, .bool false, .slice none 0 0], .bool false]) (by simp [results, Tryz.results39, go_sem, q0, q1, q2, q3]) rfl (by rw [show mulRO (some x) none = none from rfl]; exact ⟨_, _, _, _, _, _, _, _, rfl, P1, P2, by decide, by decide, hBB⟩)
   | some y =>
     obtain ⟨⟨x10, x11, x12, x13⟩, -, -, -, -⟩ := id qA
     obtain ⟨⟨x20, x21, x22, x23⟩, -, -, -, -⟩ := id qB
     go_wp2_with fail
     clear x10 x11 x12 x13 x20 x21 x22 x23
     refine (scale_r s1 s2 t1 t2 a1 a2 b1 b2 n1 n2 m1 m2 c1 c2 d1 d2 x y.num y.den hy.l1 hy.l2 w2 hx hy.num hy.den).mono ?_
     rintro e w3 ⟨s8, a8, n8, c8, s9, a9, n9, c9, rfl, P1, P2, k8, k9, hk⟩
     have hB := hB.trans (hk.mono hB.size)
     have qC := qC.below hk
     clear hk
     obtain ⟨Wz, hWz⟩ : ∃ W, (((w3.setCell ⟨w.heap.size + 1 + 1, 0, none⟩ (.bool s8)).setCell ⟨w.heap.size + 1 + 1, 1, none⟩ (.slice a8 n8 c8)).setCell ⟨w.heap.size + 1 + 1, 2, none⟩ (.bool s9)).setCell ⟨w.heap.size + 1 + 1, 3, none⟩ (.slice a9 n9 c9) = W := ⟨_, rfl⟩
     obtain ⟨hQ, hT⟩ := qC.set _ _ _ _ hWz
     have hBz : Below w.heap.size w Wz := by rw [← hWz]; exact below_set4 hB (by omega) _ _ _ _
     have P1 := P1.quad qC.four hT
     have P2 := P2.quad qC.four hT
     have K := hide (And.intro hQ (And.intro P1 (And.intro P2 hBz)))
     have HWz := hide hWz
     clear hQ hBz hWz hT P1 P2
     obtain ⟨⟨x90, x91, x92, x93⟩, z90, z91, z92, z93⟩ := id qC
     go_wp2
     obtain ⟨⟨⟨q0, q1, q2, q3⟩, -, -, -, -⟩, P1, P2, hBB⟩ := K.out
     rw [HWz.out]
     exact bodyPost_ret (v := .tuple #[.agg #[.bool s8, .slice a8 n8 c8, .bool s9, .slice a9 n9 c9], .bool (mulR x.num y.num x.den y.den).isSome]) (by simp [results, Tryz.results39, go_sem, q0, q1, q2, q3]) rfl ⟨_, _, _, _, _, _, _, _, rfl, P1, P2, k8, k9, hBB⟩
set_option maxRecDepth 100000 in
set_option maxHeartbeats 4000000 in
theorem div_r (s1 s2 t1 t2 : Bool) (a1 a2 b1 b2 : Option Addr) (n1 n2 m1 m2 c1 c2 d1 d2 : Nat) (ox oy : Option Rat) (w : World) (hx : RArg w s1 a1 n1 s2 a2 n2 ox) (hy : RArg w t1 b1 m1 t2 b2 m2 oy) :
 Calls Tryz.prog 41 #[.agg #[.bool s1, .slice a1 n1 c1, .bool s2, .slice a2 n2 c2], .agg #[.bool t1, .slice b1 m1 d1, .bool t2, .slice b2 m2 d2]] w (RatPost w (divRO ox oy)) := by
 go_enter Tryz.func41, Tryz.ntmps41
 go_wp2_with fail
 obtain ⟨W1, hW1⟩ : ∃ W1, ((w.alloc (Obj.cells #[.bool s1, .slice a1 n1 c1, .bool s2, .slice a2 n2 c2] 37)).alloc (Obj.cells #[.bool t1, .slice b1 m1 d1, .bool t2, .slice b2 m2 d2] 37)).alloc (Obj.cells #[.bool false, .slice none 0 0, .bool false, .slice none 0 0] 37) = W1 := ⟨_, rfl⟩
 obtain ⟨qA, qB, qC, hB⟩ := rat_boxes2 w _ _ _ _ _ _ _ _ _ hW1
 have hx := hx.below hB
 have hy := hy.below hB
 try rw [hW1]
 clear hW1
 obtain ⟨⟨x10, x11, x12, x13⟩, -, -, -, -⟩ := id qA
 go_wp2_with fail
 clear x10 x11 x12 x13
 refine (right_r s1 s2 a1 a2 n1 n2 c1 c2 ox W1 hx).mono ?_
 rintro e w1 ⟨rfl, hk⟩
 have hB := hB.trans (hk.mono hB.size)
 have hx := hx.below hk
 have hy := hy.below hk
 have qA := qA.below hk
 have qB := qB.below hk
 have qC := qC.below hk
 clear hk
 cases ox with
 | none =>
   have P1 := zero_num w1
   have P2 := zero_num w1
   obtain ⟨Wz, hWz⟩ : ∃ W, (((w1.setCell ⟨w.heap.size + 1 + 1, 0, none⟩ (.bool false)).setCell ⟨w.heap.size + 1 + 1, 1, none⟩ (.slice none 0 0)).setCell ⟨w.heap.size + 1 + 1, 2, none⟩ (.bool false)).setCell ⟨w.heap.size + 1 + 1, 3, none⟩ (.slice none 0 0) = W := ⟨_, rfl⟩
   obtain ⟨hQ, hT⟩ := qC.set _ _ _ _ hWz
   have hBz : Below w.heap.size w Wz := by rw [← hWz]; exact below_set4 hB (by omega) _ _ _ _
   have P1 := P1.quad qC.four hT
   have P2 := P2.quad qC.four hT
   have K := hide (And.intro hQ (And.intro P1 (And.intro P2 hBz)))
   have HWz := hide hWz
   clear hQ hBz hWz hT P1 P2
   obtain ⟨⟨x90, x91, x92, x93⟩, z90, z91, z92, z93⟩ := id qC
   go_wp2
   obtain ⟨⟨⟨q0, q1, q2, q3⟩, -, -, -, -⟩, P1, P2, hBB⟩ := K.out
   rw [HWz.out]
   exact bodyPost_ret (v := .tuple #[.agg #[.bool false, .slice none 0 0, .bool false, .slice none 0 0], .bool false]) (by simp [results, Tryz.results41, go_sem, q0, q1, q2, q3]) rfl (by rw [show divRO none oy = none from rfl]; exact ⟨_, _, _, _, _, _, _, _, rfl, P1, P2, by decide, by decide, hBB⟩)
 | some x =>
   obtain ⟨⟨x20, x21, x22, x23⟩, -, -, -, -⟩ := id qB
   go_wp2_with fail
   clear x20 x21 x22 x23
   refine (right_r t1 t2 b1 b2 m1 m2 d1 d2 oy w1 hy).mono ?_
   rintro e w2 ⟨rfl, hk⟩
   have hB := hB.trans (hk.mono hB.size)
   have hx := hx.below hk
   have hy := hy.below hk
   have qA := qA.below hk
   have qB := qB.below hk
   have qC := qC.below hk
   clear hk
   cases oy with
   | none =>
     have P1 := zero_num w2
     have P2 := zero_num w2
     obtain ⟨Wz, hWz⟩ : ∃ W, (((w2.setCell ⟨w.heap.size + 1 + 1, 0, none⟩ (.bool false)).setCell ⟨w.heap.size + 1 + 1, 1, none⟩ (.slice none 0 0)).setCell ⟨w.heap.size + 1 + 1, 2, none⟩ (.bool false)).setCell ⟨w.heap.size + 1 + 1, 3, none⟩ (.slice none 0 0) = W := ⟨_, rfl⟩
     obtain ⟨hQ, hT⟩ := qC.set _ _ _ _ hWz
     have hBz : Below w.heap.size w Wz := by rw [← hWz]; exact below_set4 hB (by omega) _ _ _ _
     have P1 := P1.quad qC.four hT
     have P2 := P2.quad qC.four hT
     have K := hide (And.intro hQ (And.intro P1 (And.intro P2 hBz)))
     have HWz := hide hWz
     clear hQ hBz hWz hT P1 P2
     obtain ⟨⟨x90, x91, x92, x93⟩, z90, z91, z92, z93⟩ := id qC
     go_wp2
     obtain ⟨⟨⟨q0, q1, q2, q3⟩, -, -, -, -⟩, P1, P2, hBB⟩ := K.out
     rw [HWz.out]
     exact bodyPost_ret (v := .tuple #[.agg #[.bool false, .slice none 0 0, .bool false, .slice none 0 0], .bool false]) (by simp [results, Tryz.results41, go_sem, q0, q1, q2, q3]) rfl (by rw [show divRO (some x) none = none from rfl]; exact ⟨_, _, _, _, _, _, _, _, rfl, P1, P2, by decide, by decide, hBB⟩)
   | some y =>
     obtain ⟨⟨x10, x11, x12, x13⟩, -, -, -, -⟩ := id qA
     obtain ⟨⟨x20, x21, x22, x23⟩, -, -, -, -⟩ := id qB
     go_wp2_with fail
     clear x10 x11 x12 x13 x20 x21 x22 x23
     refine (scale_r s1 s2 t2 t1 a1 a2 b2 b1 n1 n2 m2 m1 c1 c2 d2 d1 x y.den y.num hy.l2 hy.l1 w2 hx hy.den hy.num).mono ?_
     rintro e w3 ⟨s8, a8, n8, c8, s9, a9, n9, c9, rfl, P1, P2, k8, k9, hk⟩
     have hB := hB.trans (hk.mono hB.size)
     have qC := qC.below hk
     clear hk
     obtain ⟨Wz, hWz⟩ : ∃ W, (((w3.setCell ⟨w.heap.size + 1 + 1, 0, none⟩ (.bool s8)).setCell ⟨w.heap.size + 1 + 1, 1, none⟩ (.slice a8 n8 c8)).setCell ⟨w.heap.size + 1 + 1, 2, none⟩ (.bool s9)).setCell ⟨w.heap.size + 1 + 1, 3, none⟩ (.slice a9 n9 c9) = W := ⟨_, rfl⟩
     obtain ⟨hQ, hT⟩ := qC.set _ _ _ _ hWz
     have hBz : Below w.heap.size w Wz := by rw [← hWz]; exact below_set4 hB (by omega) _ _ _ _
     have P1 := P1.quad qC.four hT
     have P2 := P2.quad qC.four hT
     have K := hide (And.intro hQ (And.intro P1 (And.intro P2 hBz)))
     have HWz := hide hWz
     clear hQ hBz hWz hT P1 P2
     obtain ⟨⟨x90, x91, x92, x93⟩, z90, z91, z92, z93⟩ := id qC
     go_wp2
     obtain ⟨⟨⟨q0, q1, q2, q3⟩, -, -, -, -⟩, P1, P2, hBB⟩ := K.out
     rw [HWz.out]
     exact bodyPost_ret (v := .tuple #[.agg #[.bool s8, .slice a8 n8 c8, .bool s9, .slice a9 n9 c9], .bool (mulR x.num y.den x.den y.num).isSome]) (by simp [results, Tryz.results41, go_sem, q0, q1, q2, q3]) rfl ⟨_, _, _, _, _, _, _, _, rfl, P1, P2, k8, k9, hBB⟩
set_option maxRecDepth 100000 in
set_option maxHeartbeats 4000000 in
theorem sub_r (s1 s2 t1 t2 : Bool) (a1 a2 b1 b2 : Option Addr) (n1 n2 m1 m2 c1 c2 d1 d2 : Nat) (ox oy : Option Rat) (w : World) (hx : RArg w s1 a1 n1 s2 a2 n2 ox) (hy : RArg w t1 b1 m1 t2 b2 m2 oy) :
 Calls Tryz.prog 37 #[.agg #[.bool s1, .slice a1 n1 c1, .bool s2, .slice a2 n2 c2], .agg #[.bool t1, .slice b1 m1 d1, .bool t2, .slice b2 m2 d2]] w (RatPost w (subRO ox oy)) := by
 go_enter Tryz.func37, Tryz.ntmps37
 go_wp2_with fail
 obtain ⟨W1, hW1⟩ : ∃ W1, ((w.alloc (Obj.cells #[.bool s1, .slice a1 n1 c1, .bool s2, .slice a2 n2 c2] 37)).alloc (Obj.cells #[.bool t1, .slice b1 m1 d1, .bool t2, .slice b2 m2 d2] 37)).alloc (Obj.cells #[.bool false, .slice none 0 0, .bool false, .slice none 0 0] 37) = W1 := ⟨_, rfl⟩
 obtain ⟨qA, qB, qC, hB⟩ := rat_boxes2 w _ _ _ _ _ _ _ _ _ hW1
 have hx := hx.below hB
 have hy := hy.below hB
 try rw [hW1]
 clear hW1
 obtain ⟨⟨x10, x11, x12, x13⟩, -, -, -, -⟩ := id qA
 go_wp2_with fail
 clear x10 x11 x12 x13
 refine (right_r s1 s2 a1 a2 n1 n2 c1 c2 ox W1 hx).mono ?_
 rintro e w1 ⟨rfl, hk⟩
 have hB := hB.trans (hk.mono hB.size)
 have hx := hx.below hk
 have hy := hy.below hk
 have qA := qA.below hk
 have qB := qB.below hk
 have qC := qC.below hk
 clear hk
 cases ox with
 | none =>
   have P1 := zero_num w1
   have P2 := zero_num w1
   obtain ⟨Wz, hWz⟩ : ∃ W, (((w1.setCell ⟨w.heap.size + 1 + 1, 0, none⟩ (.bool false)).setCell ⟨w.heap.size + 1 + 1, 1, none⟩ (.slice none 0 0)).setCell ⟨w.heap.size + 1 + 1, 2, none⟩ (.bool false)).setCell ⟨w.heap.size + 1 + 1, 3, none⟩ (.slice none 0 0) = W := ⟨_, rfl⟩
   obtain ⟨hQ, hT⟩ := qC.set _ _ _ _ hWz
   have hBz : Below w.heap.size w Wz := by rw [← hWz]; exact below_set4 hB (by omega) _ _ _ _
   have P1 := P1.quad qC.four hT
   have P2 := P2.quad qC.four hT
   have K := hide (And.intro hQ (And.intro P1 (And.intro P2 hBz)))
   have HWz := hide hWz
   clear hQ hBz hWz hT P1 P2
   obtain ⟨⟨x90, x91, x92, x93⟩, z90, z91, z92, z93⟩ := id qC
   go_wp2
   obtain ⟨⟨⟨q0, q1, q2, q3⟩, -, -, -, -⟩, P1, P2, hBB⟩ := K.out
   rw [HWz.out]
   exact bodyPost_ret (v := .tuple #[.agg #[.bool false, .slice none 0 0, .bool false, .slice none 0 0], .bool false]) (by simp [results, Tryz.results37, go_sem, q0, q1, q2, q3]) rfl (by rw [show subRO none oy = none from rfl]; exact ⟨_, _, _, _, _, _, _, _, rfl, P1, P2, by decide, by decide, hBB⟩)
 | some x =>
   obtain ⟨⟨x20, x21, x22, x23⟩, -, -, -, -⟩ := id qB
   go_wp2_with fail
   clear x20 x21 x22 x23
   refine (right_r t1 t2 b1 b2 m1 m2 d1 d2 oy w1 hy).mono ?_
   rintro e w2 ⟨rfl, hk⟩
   have hB := hB.trans (hk.mono hB.size)
   have hx := hx.below hk
   have hy := hy.below hk
   have qA := qA.below hk
   have qB := qB.below hk
   have qC := qC.below hk
   clear hk
   cases oy with
   | none =>
     have P1 := zero_num w2
     have P2 := zero_num w2
     obtain ⟨Wz, hWz⟩ : ∃ W, (((w2.setCell ⟨w.heap.size + 1 + 1, 0, none⟩ (.bool false)).setCell ⟨w.heap.size + 1 + 1, 1, none⟩ (.slice none 0 0)).setCell ⟨w.heap.size + 1 + 1, 2, none⟩ (.bool false)).setCell ⟨w.heap.size + 1 + 1, 3, none⟩ (.slice none 0 0) = W := ⟨_, rfl⟩
     obtain ⟨hQ, hT⟩ := qC.set _ _ _ _ hWz
     have hBz : Below w.heap.size w Wz := by rw [← hWz]; exact below_set4 hB (by omega) _ _ _ _
     have P1 := P1.quad qC.four hT
     have P2 := P2.quad qC.four hT
     have K := hide (And.intro hQ (And.intro P1 (And.intro P2 hBz)))
     have HWz := hide hWz
     clear hQ hBz hWz hT P1 P2
     obtain ⟨⟨x90, x91, x92, x93⟩, z90, z91, z92, z93⟩ := id qC
     go_wp2
     obtain ⟨⟨⟨q0, q1, q2, q3⟩, -, -, -, -⟩, P1, P2, hBB⟩ := K.out
     rw [HWz.out]
     exact bodyPost_ret (v := .tuple #[.agg #[.bool false, .slice none 0 0, .bool false, .slice none 0 0], .bool false]) (by simp [results, Tryz.results37, go_sem, q0, q1, q2, q3]) rfl (by rw [show subRO (some x) none = none from rfl]; exact ⟨_, _, _, _, _, _, _, _, rfl, P1, P2, by decide, by decide, hBB⟩)
   | some y =>
     go_wp2_with fail
     have hB := hB.drew
     have hx := hx.below (Below.drew (Below.refl _ _))
     have hy := hy.below (Below.drew (Below.refl _ _))
     have qA : Quad w2.drew _ _ _ _ _ := qA.below (Below.drew (Below.refl _ _))
     have qB : Quad w2.drew _ _ _ _ _ := qB.below (Below.drew (Below.refl _ _))
     have qC : Quad w2.drew _ _ _ _ _ := qC.below (Below.drew (Below.refl _ _))
     refine wp_region_held_drew (S := fun w' => Below (w.heap.size + 1 + 1) w2.drew w') (by kernel_rfl) (Below.refl _ _) (fun hHeld => ?_)
     obtain ⟨WE, hWE⟩ : ∃ W, w2.drew = W := ⟨_, rfl⟩
     rw [hWE] at hB hx hy qA qB qC hHeld ⊢
     clear hWE
     have lC := qC.lt
     have lC' : w.heap.size + 1 + 1 ≤ WE.heap.size := by omega
     have lA : w.heap.size < w.heap.size + 1 + 1 := by omega
     have lB : w.heap.size + 1 < w.heap.size + 1 + 1 := by omega
     have hE := Below.refl WE.heap.size WE
     obtain ⟨⟨x10, x11, x12, x13⟩, -, -, -, -⟩ := id qA
     obtain ⟨⟨x20, x21, x22, x23⟩, -, -, -, -⟩ := id qB
     refine tk 0 (.agg #[.bool s1, .slice a1 n1 c1, .bool s2, .slice a2 n2 c2]) 15 rfl rfl ?_ (Or.inl ⟨by rfl, fun w' hSw => by have q0 := (hSw.cell (p := ⟨w.heap.size, 0, none⟩) lA).trans x10; have q1 := (hSw.cell (p := ⟨w.heap.size, 1, none⟩) lA).trans x11; have q2 := (hSw.cell (p := ⟨w.heap.size, 2, none⟩) lA).trans x12; have q3 := (hSw.cell (p := ⟨w.heap.size, 3, none⟩) lA).trans x13; go_simp⟩)
     simp only [Act.put, pA, pB, pC]
     refine tk 1 (.pointer (some ⟨w.heap.size + 1, 0, none⟩)) 16 rfl rfl ?_
     simp only [Act.put, pA, pB, pC]
     refine tk 2 (.agg #[.bool t1, .slice b1 m1 d1]) 17 rfl rfl ?_ (Or.inl ⟨by rfl, fun w' hSw => by have q0 := (hSw.cell (p := ⟨w.heap.size + 1, 0, none⟩) lB).trans x20; have q1 := (hSw.cell (p := ⟨w.heap.size + 1, 1, none⟩) lB).trans x21; go_simp⟩)
     simp only [Act.put, pA, pB, pC]
     refine tk 4 (.pointer (some ⟨w.heap.size + 1, 2, none⟩)) 19 rfl rfl ?_
     simp only [Act.put, pA, pB, pC]
     refine tk 5 (.agg #[.bool t2, .slice b2 m2 d2]) 20 rfl rfl ?_ (Or.inl ⟨by rfl, fun w' hSw => by have q2 := (hSw.cell (p := ⟨w.heap.size + 1, 2, none⟩) lB).trans x22; have q3 := (hSw.cell (p := ⟨w.heap.size + 1, 3, none⟩) lB).trans x23; go_simp⟩)
     simp only [Act.put, pA, pB, pC]
     refine wpAnyH_one 3 (by kernel_rfl) ?_
     refine wpOp_call (i := 3) (f := 86) (args := #[.agg #[.bool t1, .slice b1 m1 d1]]) 18 rfl rfl (by rfl) (by go_simp) ?_
     refine (opposite_any t1 b1 m1 d1 y.num hy.l1 WE hy.num).mono ?_
     rintro e r1 ⟨s6, a6, n6, c6, rfl, N6, k6, -, hk⟩
     have hE := hE.trans (hk.mono hE.size)
     have hx := hx.below hk
     have hy := hy.below hk
     have qC := qC.below hk
     have hS : Below (w.heap.size + 1 + 1) WE r1 := hE.mono lC'
     refine ⟨_, rfl, hS, ?_⟩
     simp only [Act.put, pA, pB, pC]
     refine tk 6 (.agg #[.bool s6, .slice a6 n6 c6, .bool t2, .slice b2 m2 d2]) 21 rfl rfl ?_
     simp only [Act.put, pA, pB, pC]
     refine wpAnyH_one 7 (by kernel_rfl) ?_
     refine wpOp_call (i := 7) (f := 94) (args := #[.agg #[.bool s1, .slice a1 n1 c1, .bool s2, .slice a2 n2 c2], .agg #[.bool s6, .slice a6 n6 c6, .bool t2, .slice b2 m2 d2]]) 22 rfl rfl (by rfl) (by go_simp) ?_
     refine (sum_r s1 s2 s6 t2 a1 a2 a6 b2 n1 n2 n6 m2 c1 c2 c6 d2 x (-y) r1 hx (RArg.neg N6 hy.den k6 hy.l2)).mono ?_
     rintro e r2 ⟨s8, a8, n8, c8, s9, a9, n9, c9, rfl, P1, P2, k8, k9, hk⟩
     have hE := hE.trans (hk.mono hE.size)
     have hx := hx.below hk
     have hy := hy.below hk
     have qC := qC.below hk
     have N6 := N6.below hk
     have hS : Below (w.heap.size + 1 + 1) WE r2 := hE.mono lC'
     refine ⟨_, rfl, hS, ?_⟩
     simp only [Act.put, pA, pB, pC]
     refine tk 8 (.agg #[.bool s8, .slice a8 n8 c8, .bool s9, .slice a9 n9 c9]) 23 rfl rfl ?_
     simp only [Act.put, pA, pB, pC]
     refine tk 9 (.bool (addR x (-y)).isSome) 24 rfl rfl ?_
     simp only [Act.put, pA, pB, pC]
     refine wpAnyH_one 10 (by kernel_rfl) ?_
     have hB5 := hB.trans (hE.mono hB.size)
     obtain ⟨Wz, hWz⟩ : ∃ W, (((r2.setCell ⟨w.heap.size + 1 + 1, 0, none⟩ (.bool s8)).setCell ⟨w.heap.size + 1 + 1, 1, none⟩ (.slice a8 n8 c8)).setCell ⟨w.heap.size + 1 + 1, 2, none⟩ (.bool s9)).setCell ⟨w.heap.size + 1 + 1, 3, none⟩ (.slice a9 n9 c9) = W := ⟨_, rfl⟩
     obtain ⟨hQ, hT⟩ := qC.set _ _ _ _ hWz
     have hBz : Below w.heap.size w Wz := by rw [← hWz]; exact below_set4 hB5 (by omega) _ _ _ _
     have P1 := P1.quad qC.four hT
     have P2 := P2.quad qC.four hT
     have K := hide (And.intro hQ (And.intro P1 (And.intro P2 hBz)))
     have HWz := hide hWz
     clear hQ hBz hWz hT P1 P2
     obtain ⟨⟨x90, x91, x92, x93⟩, z90, z91, z92, z93⟩ := id qC
     have hSz : Below (w.heap.size + 1 + 1) WE ((((r2.setCell ⟨w.heap.size + 1 + 1, 0, none⟩ (.bool s8)).setCell ⟨w.heap.size + 1 + 1, 1, none⟩ (.slice a8 n8 c8)).setCell ⟨w.heap.size + 1 + 1, 2, none⟩ (.bool s9)).setCell ⟨w.heap.size + 1 + 1, 3, none⟩ (.slice a9 n9 c9)) := (((hS.setCell (p := ⟨w.heap.size + 1 + 1, 0, none⟩) (Nat.le_refl _) _).setCell (p := ⟨w.heap.size + 1 + 1, 1, none⟩) (Nat.le_refl _) _).setCell (p := ⟨w.heap.size + 1 + 1, 2, none⟩) (Nat.le_refl _) _).setCell (p := ⟨w.heap.size + 1 + 1, 3, none⟩) (Nat.le_refl _) _
     refine wpOp_run (i := 10) rfl ?_
     go_simp
     refine tk 11 (.bool (addR x (-y)).isSome) 5 rfl rfl ?_
     simp only [Act.put, pA, pB, pC]
     refine wpAnyH_done (by kernel_rfl) ?_ _
     go_wp2
     obtain ⟨⟨⟨q0, q1, q2, q3⟩, -, -, -, -⟩, P1, P2, hBB⟩ := K.out
     rw [HWz.out]
     exact bodyPost_ret (v := .tuple #[.agg #[.bool s8, .slice a8 n8 c8, .bool s9, .slice a9 n9 c9], .bool (addR x (-y)).isSome]) (by simp [results, Tryz.results37, go_sem, q0, q1, q2, q3]) rfl ⟨_, _, _, _, _, _, _, _, rfl, P1, P2, k8, k9, hBB⟩
end Go.Proofs.YtgenaicmjddjcaaGreatDoor
