/- the law's sanity. -/
import Derived.Test.YtgenaicmjddjcaaGreatDoorLwA
namespace Go.Proofs.YtgenaicmjddjcaaGreatDoor
open Go.RowKit Go.Shelf

set_option maxRecDepth 100000 in
set_option maxHeartbeats 64000000 in
theorem sanity3_true (w : World) (ht : Pow10 w) (hsy : Syn w) :
 Calls Tryz.prog 16 #[] w fun e w' => e = .returned (.bool true) ∧ Below w.heap.size w w' := by
 go_enter Tryz.func16, Tryz.ntmps16
 go_wp2_with fail
 have hB := Below.refl w.heap.size w
 refine (rof_any 6 (by decide) (by decide) w).mono ?_
 rintro e w2 ⟨s1, a1, n1, c1, rfl, N1, k1, -, hk⟩
 have hB := hB.trans (hk.mono hB.size)
 clear hk
 go_wp2_with fail
 refine (rof_any (-4) (by decide) (by decide) w2).mono ?_
 rintro e w4 ⟨s3, a3, n3, c3, rfl, N3, k3, -, hk⟩
 have hB := hB.trans (hk.mono hB.size)
 have N1 := N1.below hk
 clear hk
 go_wp2_with fail
 have cc := of_r s1 s3 a1 a3 n1 n3 c1 c3 6 (-4) k1 k3 w4 N1 N3
 rw [show divO 6 (-4) = some (Rat.divInt (-3) 2) by kernel_rfl] at cc
 refine (cc).mono ?_
 rintro e w6 ⟨s5, a5, n5, c5, t5, b5, m5, d5, rfl, P1, P2, k1, k2, hk⟩
 have hB := hB.trans (hk.mono hB.size)
 have N1 := N1.below hk
 have N3 := N3.below hk
 clear hk
 clear cc
 have R5 := rarg_of (some (Rat.divInt (-3) 2)) P1 P2 k1 k2
 clear P1 P2 k1 k2
 clear N1 N3
 obtain ⟨Z5, hZ5⟩ : ∃ Z, w6.alloc (Obj.cells #[.bool false, .slice none 0 0, .bool false, .slice none 0 0] 37) = Z := ⟨_, rfl⟩
 obtain ⟨W5, hW5⟩ : ∃ W, (((Z5.setCell ⟨w6.heap.size, 0, none⟩ (.bool s5)).setCell ⟨w6.heap.size, 1, none⟩ (.slice a5 n5 c5)).setCell ⟨w6.heap.size, 2, none⟩ (.bool t5)).setCell ⟨w6.heap.size, 3, none⟩ (.slice b5 m5 d5) = W := ⟨_, rfl⟩
 obtain ⟨HA, hk, bx5⟩ := rat_new (c1 := c5) (c2 := d5) hZ5 hW5 R5
 obtain ⟨BA, hB5⟩ : ∃ B, w6.heap.size = B := ⟨_, rfl⟩
 have lA : w.heap.size ≤ BA := by rw [← hB5]; exact hB.size
 have hB := hB.trans (hk.mono hB.size)
 clear hk
 rw [hB5] at hW5 HA bx5
 clear R5
 obtain ⟨⟨y0, y1, y2, y3⟩, yz0, yz1, yz2, yz3⟩ := id bx5
 go_wp2_with fail
 try rw [hW5]
 try rw [hB5]
 clear hW5 hB5
 clear y0 y1 y2 y3 yz0 yz1 yz2 yz3
 refine (rof_any 0 (by decide) (by decide) W5).mono ?_
 rintro e w8 ⟨s7, a7, n7, c7, rfl, N7, k7, -, hk⟩
 have hB := hB.trans (hk.mono hB.size)
 have HA := HA.below hk
 clear hk
 go_wp2_with fail
 refine (rof_any (-7) (by decide) (by decide) w8).mono ?_
 rintro e w10 ⟨s9, a9, n9, c9, rfl, N9, k9, -, hk⟩
 have hB := hB.trans (hk.mono hB.size)
 have HA := HA.below hk
 have N7 := N7.below hk
 clear hk
 go_wp2_with fail
 have cc := of_r s7 s9 a7 a9 n7 n9 c7 c9 0 (-7) k7 k9 w10 N7 N9
 rw [show divO 0 (-7) = some (Rat.divInt 0 1) by kernel_rfl] at cc
 refine (cc).mono ?_
 rintro e w12 ⟨s11, a11, n11, c11, t11, b11, m11, d11, rfl, P1, P2, k1, k2, hk⟩
 have hB := hB.trans (hk.mono hB.size)
 have HA := HA.below hk
 have N7 := N7.below hk
 have N9 := N9.below hk
 clear hk
 clear cc
 have R11 := rarg_of (some (Rat.divInt 0 1)) P1 P2 k1 k2
 clear P1 P2 k1 k2
 clear N7 N9
 obtain ⟨Z11, hZ11⟩ : ∃ Z, w12.alloc (Obj.cells #[.bool false, .slice none 0 0, .bool false, .slice none 0 0] 37) = Z := ⟨_, rfl⟩
 obtain ⟨W11, hW11⟩ : ∃ W, (((Z11.setCell ⟨w12.heap.size, 0, none⟩ (.bool s11)).setCell ⟨w12.heap.size, 1, none⟩ (.slice a11 n11 c11)).setCell ⟨w12.heap.size, 2, none⟩ (.bool t11)).setCell ⟨w12.heap.size, 3, none⟩ (.slice b11 m11 d11) = W := ⟨_, rfl⟩
 obtain ⟨HB, hk, bx11⟩ := rat_new (c1 := c11) (c2 := d11) hZ11 hW11 R11
 obtain ⟨BB, hB11⟩ : ∃ B, w12.heap.size = B := ⟨_, rfl⟩
 have lB : w.heap.size ≤ BB := by rw [← hB11]; exact hB.size
 have lAB : BA < BB := by rw [← hB11]; exact HA.box.lt
 have hB := hB.trans (hk.mono hB.size)
 have HA := HA.below hk
 clear hk
 rw [hB11] at hW11 HB bx11
 clear R11
 obtain ⟨⟨y0, y1, y2, y3⟩, yz0, yz1, yz2, yz3⟩ := id bx11
 go_wp2_with fail
 try rw [hW11]
 try rw [hB11]
 clear hW11 hB11
 clear y0 y1 y2 y3 yz0 yz1 yz2 yz3
 refine (rof_any 1 (by decide) (by decide) W11).mono ?_
 rintro e w14 ⟨s13, a13, n13, c13, rfl, N13, k13, -, hk⟩
 have hB := hB.trans (hk.mono hB.size)
 have HA := HA.below hk
 have HB := HB.below hk
 clear hk
 go_wp2_with fail
 refine (rof_any 0 (by decide) (by decide) w14).mono ?_
 rintro e w16 ⟨s15, a15, n15, c15, rfl, N15, k15, -, hk⟩
 have hB := hB.trans (hk.mono hB.size)
 have HA := HA.below hk
 have HB := HB.below hk
 have N13 := N13.below hk
 clear hk
 go_wp2_with fail
 have cc := of_r s13 s15 a13 a15 n13 n15 c13 c15 1 0 k13 k15 w16 N13 N15
 rw [show divO 1 0 = none by kernel_rfl] at cc
 refine (cc).mono ?_
 rintro e w18 ⟨s17, a17, n17, c17, t17, b17, m17, d17, rfl, P1, P2, k1, k2, hk⟩
 have hB := hB.trans (hk.mono hB.size)
 have HA := HA.below hk
 have HB := HB.below hk
 have N13 := N13.below hk
 have N15 := N15.below hk
 clear hk
 clear cc
 have R17 := rarg_of (none) P1 P2 k1 k2
 have P17 := P1
 have Q17 := P2
 have kk17 := k1
 have ll17 := k2
 clear P1 P2 k1 k2
 clear N13 N15
 obtain ⟨Z17, hZ17⟩ : ∃ Z, w18.alloc (Obj.cells #[.bool false, .slice none 0 0, .bool false, .slice none 0 0] 37) = Z := ⟨_, rfl⟩
 obtain ⟨W17, hW17⟩ : ∃ W, (((Z17.setCell ⟨w18.heap.size, 0, none⟩ (.bool s17)).setCell ⟨w18.heap.size, 1, none⟩ (.slice a17 n17 c17)).setCell ⟨w18.heap.size, 2, none⟩ (.bool t17)).setCell ⟨w18.heap.size, 3, none⟩ (.slice b17 m17 d17) = W := ⟨_, rfl⟩
 obtain ⟨HC, hk, bx17⟩ := rat_new (c1 := c17) (c2 := d17) hZ17 hW17 R17
 obtain ⟨BC, hB17⟩ : ∃ B, w18.heap.size = B := ⟨_, rfl⟩
 have lC : w.heap.size ≤ BC := by rw [← hB17]; exact hB.size
 have lAC : BA < BC := by rw [← hB17]; exact HA.box.lt
 have lBC : BB < BC := by rw [← hB17]; exact HB.box.lt
 have hB := hB.trans (hk.mono hB.size)
 have HA := HA.below hk
 have HB := HB.below hk
 have P17 := P17.below hk
 have Q17 := Q17.below hk
 clear hk
 rw [hB17] at hW17 HC bx17
 clear R17
 obtain ⟨⟨y0, y1, y2, y3⟩, yz0, yz1, yz2, yz3⟩ := id bx17
 obtain ⟨⟨x00, x01, x02, x03⟩, xz00, xz01, xz02, xz03⟩ := id HA.box
 go_wp2_with fail
 try rw [hW17]
 try rw [hB17]
 clear hW17 hB17
 clear y0 y1 y2 y3 yz0 yz1 yz2 yz3 x00 x01 x02 x03 xz00 xz01 xz02 xz03
 refine (gives_yes s5 t5 a5 b5 n5 m5 c5 d5 (Rat.divInt (-3) 2) (-3) 2 (by decide) (by decide) (by decide) (by decide) (by decide) (hide (by kernel_rfl)) W17 HA.arg).mono ?_
 rintro e w19 ⟨rfl, hk⟩
 have hB := hB.trans (hk.mono hB.size)
 have HA := HA.below hk
 have HB := HB.below hk
 have P17 := P17.below hk
 have Q17 := Q17.below hk
 have HC := HC.below hk
 clear hk
 obtain ⟨⟨x00, x01, x02, x03⟩, xz00, xz01, xz02, xz03⟩ := id HB.box
 go_wp2_with fail
 clear x00 x01 x02 x03 xz00 xz01 xz02 xz03
 refine (gives_yes s11 t11 a11 b11 n11 m11 c11 d11 (Rat.divInt 0 1) 0 1 (by decide) (by decide) (by decide) (by decide) (by decide) (hide (by kernel_rfl)) w19 HB.arg).mono ?_
 rintro e w20 ⟨rfl, hk⟩
 have hB := hB.trans (hk.mono hB.size)
 have HA := HA.below hk
 have HB := HB.below hk
 have P17 := P17.below hk
 have Q17 := Q17.below hk
 have HC := HC.below hk
 clear hk
 obtain ⟨⟨x00, x01, x02, x03⟩, xz00, xz01, xz02, xz03⟩ := id HC.box
 go_wp2_with fail
 clear x00 x01 x02 x03 xz00 xz01 xz02 xz03
 refine (none_yes s17 t17 a17 b17 n17 m17 c17 d17 kk17 ll17 w20 P17 Q17).mono ?_
 rintro e w21 ⟨rfl, hk⟩
 have hB := hB.trans (hk.mono hB.size)
 have HA := HA.below hk
 have HB := HB.below hk
 have P17 := P17.below hk
 have Q17 := Q17.below hk
 have HC := HC.below hk
 clear hk
 go_wp2_with fail
 refine (frac_yes 2 4 (by decide) (by decide) (by decide) (by decide) w21).mono ?_
 rintro e w23 ⟨s22, a22, n22, c22, t22, b22, m22, d22, rfl, P1, P2, k1, k2, hk⟩
 have hB := hB.trans (hk.mono hB.size)
 have HA := HA.below hk
 have HB := HB.below hk
 have P17 := P17.below hk
 have Q17 := Q17.below hk
 have HC := HC.below hk
 clear hk
 have R22 := rarg_of (some (Rat.divInt 2 4)) P1 P2 k1 k2
 clear P1 P2 k1 k2
 go_wp2_with fail
 refine (gives_yes s22 t22 a22 b22 n22 m22 c22 d22 (Rat.divInt 2 4) 1 2 (by decide) (by decide) (by decide) (by decide) (by decide) (hide (by kernel_rfl)) w23 R22).mono ?_
 rintro e w24 ⟨rfl, hk⟩
 have hB := hB.trans (hk.mono hB.size)
 have HA := HA.below hk
 have HB := HB.below hk
 have P17 := P17.below hk
 have Q17 := Q17.below hk
 have HC := HC.below hk
 have R22 := R22.below hk
 clear hk
 clear R22
 go_wp2_with fail
 refine (frac_no 1 (-2) (by decide) w24).mono ?_
 rintro e w26 ⟨s25, a25, n25, c25, t25, b25, m25, d25, rfl, P1, P2, k1, k2, hk⟩
 have hB := hB.trans (hk.mono hB.size)
 have HA := HA.below hk
 have HB := HB.below hk
 have P17 := P17.below hk
 have Q17 := Q17.below hk
 have HC := HC.below hk
 clear hk
 go_wp2_with fail
 refine (same_r s25 t25 false false a25 b25 none none n25 m25 0 0 c25 d25 0 0 0 0 k1 k2 w26 P1 P2 (zero_num _) (zero_num _)).mono ?_
 rintro e w27 ⟨rfl, hk⟩
 have hB := hB.trans (hk.mono hB.size)
 have HA := HA.below hk
 have HB := HB.below hk
 have P17 := P17.below hk
 have Q17 := Q17.below hk
 have HC := HC.below hk
 have P1 := P1.below hk
 have P2 := P2.below hk
 clear hk
 clear P1 P2
 clear k1 k2
 go_wp2_with fail
 refine (lawof_r 1 6 (by decide) (by decide) (by decide) (by decide) (by decide) w27).mono ?_
 rintro e w29 ⟨s28, a28, n28, c28, t28, b28, m28, d28, rfl, P1, P2, k1, k2, hk⟩
 have hB := hB.trans (hk.mono hB.size)
 have HA := HA.below hk
 have HB := HB.below hk
 have P17 := P17.below hk
 have Q17 := Q17.below hk
 have HC := HC.below hk
 clear hk
 have R28 := rarg_of (some (Rat.divInt 1 6)) P1 P2 k1 k2
 clear P1 P2 k1 k2
 go_wp2_with fail
 refine (lawof_r 1 10 (by decide) (by decide) (by decide) (by decide) (by decide) w29).mono ?_
 rintro e w31 ⟨s30, a30, n30, c30, t30, b30, m30, d30, rfl, P1, P2, k1, k2, hk⟩
 have hB := hB.trans (hk.mono hB.size)
 have HA := HA.below hk
 have HB := HB.below hk
 have P17 := P17.below hk
 have Q17 := Q17.below hk
 have HC := HC.below hk
 have R28 := R28.below hk
 clear hk
 have R30 := rarg_of (some (Rat.divInt 1 10)) P1 P2 k1 k2
 clear P1 P2 k1 k2
 go_wp2_with fail
 have cc := add_r s28 t28 s30 t30 a28 b28 a30 b30 n28 m28 n30 m30 c28 d28 c30 d30 (some (Rat.divInt 1 6)) (some (Rat.divInt 1 10)) w31 R28 R30
 rw [show addRO (some (Rat.divInt 1 6)) (some (Rat.divInt 1 10)) = some (Rat.divInt 4 15) by kernel_rfl] at cc
 refine (cc).mono ?_
 rintro e w33 ⟨s32, a32, n32, c32, t32, b32, m32, d32, rfl, P1, P2, k1, k2, hk⟩
 have hB := hB.trans (hk.mono hB.size)
 have HA := HA.below hk
 have HB := HB.below hk
 have P17 := P17.below hk
 have Q17 := Q17.below hk
 have HC := HC.below hk
 have R28 := R28.below hk
 have R30 := R30.below hk
 clear hk
 clear cc
 have R32 := rarg_of (some (Rat.divInt 4 15)) P1 P2 k1 k2
 clear P1 P2 k1 k2
 clear R28 R30
 obtain ⟨W32, hW32⟩ : ∃ W, (((w33.setCell ⟨BA, 0, none⟩ (.bool s32)).setCell ⟨BA, 1, none⟩ (.slice a32 n32 c32)).setCell ⟨BA, 2, none⟩ (.bool t32)).setCell ⟨BA, 3, none⟩ (.slice b32 m32 d32) = W := ⟨_, rfl⟩
 obtain ⟨Hn, hT⟩ := HA.set (c1' := c32) (c2' := d32) R32 hW32
 have HB := HB.touch HA.box.four hT (by omega)
 have HC := HC.touch HA.box.four hT (by omega)
 have P17 := P17.quad HA.box.four hT
 have Q17 := Q17.quad HA.box.four hT
 have hB : Below w.heap.size w W32 := by rw [← hW32]; exact below_set4 hB lA _ _ _ _
 have ho := id HA.box
 have HA := Hn
 clear Hn hT R32
 obtain ⟨⟨y0, y1, y2, y3⟩, yz0, yz1, yz2, yz3⟩ := id ho
 go_wp2_with fail
 try rw [hW32]
 clear hW32
 clear y0 y1 y2 y3 yz0 yz1 yz2 yz3
 refine (lawof_r 1 2 (by decide) (by decide) (by decide) (by decide) (by decide) W32).mono ?_
 rintro e w35 ⟨s34, a34, n34, c34, t34, b34, m34, d34, rfl, P1, P2, k1, k2, hk⟩
 have hB := hB.trans (hk.mono hB.size)
 have HA := HA.below hk
 have HB := HB.below hk
 have P17 := P17.below hk
 have Q17 := Q17.below hk
 have HC := HC.below hk
 clear hk
 have R34 := rarg_of (some (Rat.divInt 1 2)) P1 P2 k1 k2
 clear P1 P2 k1 k2
 go_wp2_with fail
 refine (lawof_r 2 3 (by decide) (by decide) (by decide) (by decide) (by decide) w35).mono ?_
 rintro e w37 ⟨s36, a36, n36, c36, t36, b36, m36, d36, rfl, P1, P2, k1, k2, hk⟩
 have hB := hB.trans (hk.mono hB.size)
 have HA := HA.below hk
 have HB := HB.below hk
 have P17 := P17.below hk
 have Q17 := Q17.below hk
 have HC := HC.below hk
 have R34 := R34.below hk
 clear hk
 have R36 := rarg_of (some (Rat.divInt 2 3)) P1 P2 k1 k2
 clear P1 P2 k1 k2
 go_wp2_with fail
 have cc := sub_r s34 t34 s36 t36 a34 b34 a36 b36 n34 m34 n36 m36 c34 d34 c36 d36 (some (Rat.divInt 1 2)) (some (Rat.divInt 2 3)) w37 R34 R36
 rw [show subRO (some (Rat.divInt 1 2)) (some (Rat.divInt 2 3)) = some (Rat.divInt (-1) 6) by kernel_rfl] at cc
 refine (cc).mono ?_
 rintro e w39 ⟨s38, a38, n38, c38, t38, b38, m38, d38, rfl, P1, P2, k1, k2, hk⟩
 have hB := hB.trans (hk.mono hB.size)
 have HA := HA.below hk
 have HB := HB.below hk
 have P17 := P17.below hk
 have Q17 := Q17.below hk
 have HC := HC.below hk
 have R34 := R34.below hk
 have R36 := R36.below hk
 clear hk
 clear cc
 have R38 := rarg_of (some (Rat.divInt (-1) 6)) P1 P2 k1 k2
 clear P1 P2 k1 k2
 clear R34 R36
 obtain ⟨W38, hW38⟩ : ∃ W, (((w39.setCell ⟨BB, 0, none⟩ (.bool s38)).setCell ⟨BB, 1, none⟩ (.slice a38 n38 c38)).setCell ⟨BB, 2, none⟩ (.bool t38)).setCell ⟨BB, 3, none⟩ (.slice b38 m38 d38) = W := ⟨_, rfl⟩
 obtain ⟨Hn, hT⟩ := HB.set (c1' := c38) (c2' := d38) R38 hW38
 have HA := HA.touch HB.box.four hT (by omega)
 have HC := HC.touch HB.box.four hT (by omega)
 have P17 := P17.quad HB.box.four hT
 have Q17 := Q17.quad HB.box.four hT
 have hB : Below w.heap.size w W38 := by rw [← hW38]; exact below_set4 hB lB _ _ _ _
 have ho := id HB.box
 have HB := Hn
 clear Hn hT R38
 obtain ⟨⟨y0, y1, y2, y3⟩, yz0, yz1, yz2, yz3⟩ := id ho
 go_wp2_with fail
 try rw [hW38]
 clear hW38
 clear y0 y1 y2 y3 yz0 yz1 yz2 yz3
 refine (lawof_r 2 3 (by decide) (by decide) (by decide) (by decide) (by decide) W38).mono ?_
 rintro e w41 ⟨s40, a40, n40, c40, t40, b40, m40, d40, rfl, P1, P2, k1, k2, hk⟩
 have hB := hB.trans (hk.mono hB.size)
 have HA := HA.below hk
 have HB := HB.below hk
 have P17 := P17.below hk
 have Q17 := Q17.below hk
 have HC := HC.below hk
 clear hk
 have R40 := rarg_of (some (Rat.divInt 2 3)) P1 P2 k1 k2
 clear P1 P2 k1 k2
 go_wp2_with fail
 refine (lawof_r 3 4 (by decide) (by decide) (by decide) (by decide) (by decide) w41).mono ?_
 rintro e w43 ⟨s42, a42, n42, c42, t42, b42, m42, d42, rfl, P1, P2, k1, k2, hk⟩
 have hB := hB.trans (hk.mono hB.size)
 have HA := HA.below hk
 have HB := HB.below hk
 have P17 := P17.below hk
 have Q17 := Q17.below hk
 have HC := HC.below hk
 have R40 := R40.below hk
 clear hk
 have R42 := rarg_of (some (Rat.divInt 3 4)) P1 P2 k1 k2
 clear P1 P2 k1 k2
 go_wp2_with fail
 have cc := mul_r s40 t40 s42 t42 a40 b40 a42 b42 n40 m40 n42 m42 c40 d40 c42 d42 (some (Rat.divInt 2 3)) (some (Rat.divInt 3 4)) w43 R40 R42
 rw [show mulRO (some (Rat.divInt 2 3)) (some (Rat.divInt 3 4)) = some (Rat.divInt 1 2) by kernel_rfl] at cc
 refine (cc).mono ?_
 rintro e w45 ⟨s44, a44, n44, c44, t44, b44, m44, d44, rfl, P1, P2, k1, k2, hk⟩
 have hB := hB.trans (hk.mono hB.size)
 have HA := HA.below hk
 have HB := HB.below hk
 have P17 := P17.below hk
 have Q17 := Q17.below hk
 have HC := HC.below hk
 have R40 := R40.below hk
 have R42 := R42.below hk
 clear hk
 clear cc
 have R44 := rarg_of (some (Rat.divInt 1 2)) P1 P2 k1 k2
 clear P1 P2 k1 k2
 clear R40 R42
 clear P17
 clear Q17
 obtain ⟨W44, hW44⟩ : ∃ W, (((w45.setCell ⟨BC, 0, none⟩ (.bool s44)).setCell ⟨BC, 1, none⟩ (.slice a44 n44 c44)).setCell ⟨BC, 2, none⟩ (.bool t44)).setCell ⟨BC, 3, none⟩ (.slice b44 m44 d44) = W := ⟨_, rfl⟩
 obtain ⟨Hn, hT⟩ := HC.set (c1' := c44) (c2' := d44) R44 hW44
 have HA := HA.touch HC.box.four hT (by omega)
 have HB := HB.touch HC.box.four hT (by omega)
 have hB : Below w.heap.size w W44 := by rw [← hW44]; exact below_set4 hB lC _ _ _ _
 have ho := id HC.box
 have HC := Hn
 clear Hn hT R44
 obtain ⟨⟨y0, y1, y2, y3⟩, yz0, yz1, yz2, yz3⟩ := id ho
 obtain ⟨⟨x00, x01, x02, x03⟩, xz00, xz01, xz02, xz03⟩ := id HA.box
 go_wp2_with fail
 try rw [hW44]
 clear hW44
 clear y0 y1 y2 y3 yz0 yz1 yz2 yz3 x00 x01 x02 x03 xz00 xz01 xz02 xz03
 refine (gives_yes s32 t32 a32 b32 n32 m32 c32 d32 (Rat.divInt 4 15) 4 15 (by decide) (by decide) (by decide) (by decide) (by decide) (hide (by kernel_rfl)) W44 HA.arg).mono ?_
 rintro e w46 ⟨rfl, hk⟩
 have hB := hB.trans (hk.mono hB.size)
 have HA := HA.below hk
 have HB := HB.below hk
 have HC := HC.below hk
 clear hk
 obtain ⟨⟨x00, x01, x02, x03⟩, xz00, xz01, xz02, xz03⟩ := id HB.box
 go_wp2_with fail
 clear x00 x01 x02 x03 xz00 xz01 xz02 xz03
 refine (gives_yes s38 t38 a38 b38 n38 m38 c38 d38 (Rat.divInt (-1) 6) (-1) 6 (by decide) (by decide) (by decide) (by decide) (by decide) (hide (by kernel_rfl)) w46 HB.arg).mono ?_
 rintro e w47 ⟨rfl, hk⟩
 have hB := hB.trans (hk.mono hB.size)
 have HA := HA.below hk
 have HB := HB.below hk
 have HC := HC.below hk
 clear hk
 obtain ⟨⟨x00, x01, x02, x03⟩, xz00, xz01, xz02, xz03⟩ := id HC.box
 go_wp2_with fail
 clear x00 x01 x02 x03 xz00 xz01 xz02 xz03
 refine (gives_yes s44 t44 a44 b44 n44 m44 c44 d44 (Rat.divInt 1 2) 1 2 (by decide) (by decide) (by decide) (by decide) (by decide) (hide (by kernel_rfl)) w47 HC.arg).mono ?_
 rintro e w48 ⟨rfl, hk⟩
 have hB := hB.trans (hk.mono hB.size)
 have HA := HA.below hk
 have HB := HB.below hk
 have HC := HC.below hk
 clear hk
 go_wp2_with fail
 refine (lawof_r 1 2 (by decide) (by decide) (by decide) (by decide) (by decide) w48).mono ?_
 rintro e w50 ⟨s49, a49, n49, c49, t49, b49, m49, d49, rfl, P1, P2, k1, k2, hk⟩
 have hB := hB.trans (hk.mono hB.size)
 have HA := HA.below hk
 have HB := HB.below hk
 have HC := HC.below hk
 clear hk
 have R49 := rarg_of (some (Rat.divInt 1 2)) P1 P2 k1 k2
 clear P1 P2 k1 k2
 go_wp2_with fail
 refine (lawof_r (-3) 4 (by decide) (by decide) (by decide) (by decide) (by decide) w50).mono ?_
 rintro e w52 ⟨s51, a51, n51, c51, t51, b51, m51, d51, rfl, P1, P2, k1, k2, hk⟩
 have hB := hB.trans (hk.mono hB.size)
 have HA := HA.below hk
 have HB := HB.below hk
 have HC := HC.below hk
 have R49 := R49.below hk
 clear hk
 have R51 := rarg_of (some (Rat.divInt (-3) 4)) P1 P2 k1 k2
 clear P1 P2 k1 k2
 go_wp2_with fail
 have cc := div_r s49 t49 s51 t51 a49 b49 a51 b51 n49 m49 n51 m51 c49 d49 c51 d51 (some (Rat.divInt 1 2)) (some (Rat.divInt (-3) 4)) w52 R49 R51
 rw [show divRO (some (Rat.divInt 1 2)) (some (Rat.divInt (-3) 4)) = some (Rat.divInt (-2) 3) by kernel_rfl] at cc
 refine (cc).mono ?_
 rintro e w54 ⟨s53, a53, n53, c53, t53, b53, m53, d53, rfl, P1, P2, k1, k2, hk⟩
 have hB := hB.trans (hk.mono hB.size)
 have HA := HA.below hk
 have HB := HB.below hk
 have HC := HC.below hk
 have R49 := R49.below hk
 have R51 := R51.below hk
 clear hk
 clear cc
 have R53 := rarg_of (some (Rat.divInt (-2) 3)) P1 P2 k1 k2
 clear P1 P2 k1 k2
 clear R49 R51
 obtain ⟨W53, hW53⟩ : ∃ W, (((w54.setCell ⟨BA, 0, none⟩ (.bool s53)).setCell ⟨BA, 1, none⟩ (.slice a53 n53 c53)).setCell ⟨BA, 2, none⟩ (.bool t53)).setCell ⟨BA, 3, none⟩ (.slice b53 m53 d53) = W := ⟨_, rfl⟩
 obtain ⟨Hn, hT⟩ := HA.set (c1' := c53) (c2' := d53) R53 hW53
 have HB := HB.touch HA.box.four hT (by omega)
 have HC := HC.touch HA.box.four hT (by omega)
 have hB : Below w.heap.size w W53 := by rw [← hW53]; exact below_set4 hB lA _ _ _ _
 have ho := id HA.box
 have HA := Hn
 clear Hn hT R53
 obtain ⟨⟨y0, y1, y2, y3⟩, yz0, yz1, yz2, yz3⟩ := id ho
 go_wp2_with fail
 try rw [hW53]
 clear hW53
 clear y0 y1 y2 y3 yz0 yz1 yz2 yz3
 refine (lawof_r 1 2 (by decide) (by decide) (by decide) (by decide) (by decide) W53).mono ?_
 rintro e w56 ⟨s55, a55, n55, c55, t55, b55, m55, d55, rfl, P1, P2, k1, k2, hk⟩
 have hB := hB.trans (hk.mono hB.size)
 have HA := HA.below hk
 have HB := HB.below hk
 have HC := HC.below hk
 clear hk
 have R55 := rarg_of (some (Rat.divInt 1 2)) P1 P2 k1 k2
 clear P1 P2 k1 k2
 go_wp2_with fail
 refine (lawof_r 0 1 (by decide) (by decide) (by decide) (by decide) (by decide) w56).mono ?_
 rintro e w58 ⟨s57, a57, n57, c57, t57, b57, m57, d57, rfl, P1, P2, k1, k2, hk⟩
 have hB := hB.trans (hk.mono hB.size)
 have HA := HA.below hk
 have HB := HB.below hk
 have HC := HC.below hk
 have R55 := R55.below hk
 clear hk
 have R57 := rarg_of (some (Rat.divInt 0 1)) P1 P2 k1 k2
 clear P1 P2 k1 k2
 go_wp2_with fail
 have cc := div_r s55 t55 s57 t57 a55 b55 a57 b57 n55 m55 n57 m57 c55 d55 c57 d57 (some (Rat.divInt 1 2)) (some (Rat.divInt 0 1)) w58 R55 R57
 rw [show divRO (some (Rat.divInt 1 2)) (some (Rat.divInt 0 1)) = none by kernel_rfl] at cc
 refine (cc).mono ?_
 rintro e w60 ⟨s59, a59, n59, c59, t59, b59, m59, d59, rfl, P1, P2, k1, k2, hk⟩
 have hB := hB.trans (hk.mono hB.size)
 have HA := HA.below hk
 have HB := HB.below hk
 have HC := HC.below hk
 have R55 := R55.below hk
 have R57 := R57.below hk
 clear hk
 clear cc
 have R59 := rarg_of (none) P1 P2 k1 k2
 have P59 := P1
 have Q59 := P2
 have kk59 := k1
 have ll59 := k2
 clear P1 P2 k1 k2
 clear R55 R57
 obtain ⟨W59, hW59⟩ : ∃ W, (((w60.setCell ⟨BB, 0, none⟩ (.bool s59)).setCell ⟨BB, 1, none⟩ (.slice a59 n59 c59)).setCell ⟨BB, 2, none⟩ (.bool t59)).setCell ⟨BB, 3, none⟩ (.slice b59 m59 d59) = W := ⟨_, rfl⟩
 obtain ⟨Hn, hT⟩ := HB.set (c1' := c59) (c2' := d59) R59 hW59
 have HA := HA.touch HB.box.four hT (by omega)
 have HC := HC.touch HB.box.four hT (by omega)
 have P59 := P59.quad HB.box.four hT
 have Q59 := Q59.quad HB.box.four hT
 have hB : Below w.heap.size w W59 := by rw [← hW59]; exact below_set4 hB lB _ _ _ _
 have ho := id HB.box
 have HB := Hn
 clear Hn hT R59
 obtain ⟨⟨y0, y1, y2, y3⟩, yz0, yz1, yz2, yz3⟩ := id ho
 obtain ⟨⟨x00, x01, x02, x03⟩, xz00, xz01, xz02, xz03⟩ := id HA.box
 go_wp2_with fail
 try rw [hW59]
 clear hW59
 clear y0 y1 y2 y3 yz0 yz1 yz2 yz3 x00 x01 x02 x03 xz00 xz01 xz02 xz03
 refine (gives_yes s53 t53 a53 b53 n53 m53 c53 d53 (Rat.divInt (-2) 3) (-2) 3 (by decide) (by decide) (by decide) (by decide) (by decide) (hide (by kernel_rfl)) W59 HA.arg).mono ?_
 rintro e w61 ⟨rfl, hk⟩
 have hB := hB.trans (hk.mono hB.size)
 have HA := HA.below hk
 have HB := HB.below hk
 have HC := HC.below hk
 have P59 := P59.below hk
 have Q59 := Q59.below hk
 clear hk
 obtain ⟨⟨x00, x01, x02, x03⟩, xz00, xz01, xz02, xz03⟩ := id HB.box
 go_wp2_with fail
 clear x00 x01 x02 x03 xz00 xz01 xz02 xz03
 refine (none_yes s59 t59 a59 b59 n59 m59 c59 d59 kk59 ll59 w61 P59 Q59).mono ?_
 rintro e w62 ⟨rfl, hk⟩
 have hB := hB.trans (hk.mono hB.size)
 have HA := HA.below hk
 have HB := HB.below hk
 have HC := HC.below hk
 have P59 := P59.below hk
 have Q59 := Q59.below hk
 clear hk
 go_wp2_with fail
 refine (lawof_r 1 3 (by decide) (by decide) (by decide) (by decide) (by decide) w62).mono ?_
 rintro e w64 ⟨s63, a63, n63, c63, t63, b63, m63, d63, rfl, P1, P2, k1, k2, hk⟩
 have hB := hB.trans (hk.mono hB.size)
 have HA := HA.below hk
 have HB := HB.below hk
 have HC := HC.below hk
 have P59 := P59.below hk
 have Q59 := Q59.below hk
 clear hk
 have R63 := rarg_of (some (Rat.divInt 1 3)) P1 P2 k1 k2
 clear P1 P2 k1 k2
 go_wp2_with fail
 refine (lawof_r 333 1000 (by decide) (by decide) (by decide) (by decide) (by decide) w64).mono ?_
 rintro e w66 ⟨s65, a65, n65, c65, t65, b65, m65, d65, rfl, P1, P2, k1, k2, hk⟩
 have hB := hB.trans (hk.mono hB.size)
 have HA := HA.below hk
 have HB := HB.below hk
 have HC := HC.below hk
 have P59 := P59.below hk
 have Q59 := Q59.below hk
 have R63 := R63.below hk
 clear hk
 have R65 := rarg_of (some (Rat.divInt 333 1000)) P1 P2 k1 k2
 clear P1 P2 k1 k2
 go_wp2_with fail
 have cc := cmp_r s63 t63 s65 t65 a63 b63 a65 b65 n63 m63 n65 m65 c63 d63 c65 d65 (some (Rat.divInt 1 3)) (some (Rat.divInt 333 1000)) w66 R63 R65
 rw [show cmpRO (some (Rat.divInt 1 3)) (some (Rat.divInt 333 1000)) = 1 by kernel_rfl] at cc
 refine (cc).mono ?_
 rintro e w67 ⟨rfl, hk⟩
 have hB := hB.trans (hk.mono hB.size)
 have HA := HA.below hk
 have HB := HB.below hk
 have HC := HC.below hk
 have P59 := P59.below hk
 have Q59 := Q59.below hk
 have R63 := R63.below hk
 have R65 := R65.below hk
 clear hk
 clear cc
 clear R63 R65
 go_wp2_with fail
 refine (lawof_r (-1) 2 (by decide) (by decide) (by decide) (by decide) (by decide) w67).mono ?_
 rintro e w69 ⟨s68, a68, n68, c68, t68, b68, m68, d68, rfl, P1, P2, k1, k2, hk⟩
 have hB := hB.trans (hk.mono hB.size)
 have HA := HA.below hk
 have HB := HB.below hk
 have HC := HC.below hk
 have P59 := P59.below hk
 have Q59 := Q59.below hk
 clear hk
 have R68 := rarg_of (some (Rat.divInt (-1) 2)) P1 P2 k1 k2
 clear P1 P2 k1 k2
 go_wp2_with fail
 refine (lawof_r (-1) 3 (by decide) (by decide) (by decide) (by decide) (by decide) w69).mono ?_
 rintro e w71 ⟨s70, a70, n70, c70, t70, b70, m70, d70, rfl, P1, P2, k1, k2, hk⟩
 have hB := hB.trans (hk.mono hB.size)
 have HA := HA.below hk
 have HB := HB.below hk
 have HC := HC.below hk
 have P59 := P59.below hk
 have Q59 := Q59.below hk
 have R68 := R68.below hk
 clear hk
 have R70 := rarg_of (some (Rat.divInt (-1) 3)) P1 P2 k1 k2
 clear P1 P2 k1 k2
 go_wp2_with fail
 have cc := cmp_r s68 t68 s70 t70 a68 b68 a70 b70 n68 m68 n70 m70 c68 d68 c70 d70 (some (Rat.divInt (-1) 2)) (some (Rat.divInt (-1) 3)) w71 R68 R70
 rw [show cmpRO (some (Rat.divInt (-1) 2)) (some (Rat.divInt (-1) 3)) = -1 by kernel_rfl] at cc
 refine (cc).mono ?_
 rintro e w72 ⟨rfl, hk⟩
 have hB := hB.trans (hk.mono hB.size)
 have HA := HA.below hk
 have HB := HB.below hk
 have HC := HC.below hk
 have P59 := P59.below hk
 have Q59 := Q59.below hk
 have R68 := R68.below hk
 have R70 := R70.below hk
 clear hk
 clear cc
 clear R68 R70
 go_wp2_with fail
 refine (lawof_r 1 2 (by decide) (by decide) (by decide) (by decide) (by decide) w72).mono ?_
 rintro e w74 ⟨s73, a73, n73, c73, t73, b73, m73, d73, rfl, P1, P2, k1, k2, hk⟩
 have hB := hB.trans (hk.mono hB.size)
 have HA := HA.below hk
 have HB := HB.below hk
 have HC := HC.below hk
 have P59 := P59.below hk
 have Q59 := Q59.below hk
 clear hk
 have R73 := rarg_of (some (Rat.divInt 1 2)) P1 P2 k1 k2
 clear P1 P2 k1 k2
 go_wp2_with fail
 have cc := cmp_r s73 t73 false false a73 b73 none none n73 m73 0 0 c73 d73 0 0 (some (Rat.divInt 1 2)) none w74 R73 (RArg.zero _)
 rw [show cmpRO (some (Rat.divInt 1 2)) none = 0 by kernel_rfl] at cc
 refine (cc).mono ?_
 rintro e w75 ⟨rfl, hk⟩
 have hB := hB.trans (hk.mono hB.size)
 have HA := HA.below hk
 have HB := HB.below hk
 have HC := HC.below hk
 have P59 := P59.below hk
 have Q59 := Q59.below hk
 have R73 := R73.below hk
 clear hk
 clear cc
 clear R73
 go_wp2_with fail
 refine (lawof_r (-1) 2 (by decide) (by decide) (by decide) (by decide) (by decide) w75).mono ?_
 rintro e w77 ⟨s76, a76, n76, c76, t76, b76, m76, d76, rfl, P1, P2, k1, k2, hk⟩
 have hB := hB.trans (hk.mono hB.size)
 have HA := HA.below hk
 have HB := HB.below hk
 have HC := HC.below hk
 have P59 := P59.below hk
 have Q59 := Q59.below hk
 clear hk
 have R76 := rarg_of (some (Rat.divInt (-1) 2)) P1 P2 k1 k2
 clear P1 P2 k1 k2
 go_wp2_with fail
 have cc := sign_r s76 t76 a76 b76 n76 m76 c76 d76 (some (Rat.divInt (-1) 2)) w77 R76
 rw [show sgnO (some (Rat.divInt (-1) 2)) = -1 by kernel_rfl] at cc
 refine (cc).mono ?_
 rintro e w78 ⟨rfl, hk⟩
 have hB := hB.trans (hk.mono hB.size)
 have HA := HA.below hk
 have HB := HB.below hk
 have HC := HC.below hk
 have P59 := P59.below hk
 have Q59 := Q59.below hk
 have R76 := R76.below hk
 clear hk
 clear cc
 clear R76
 go_wp2_with fail
 refine (lawof_r 7 2 (by decide) (by decide) (by decide) (by decide) (by decide) w78).mono ?_
 rintro e w80 ⟨s79, a79, n79, c79, t79, b79, m79, d79, rfl, P1, P2, k1, k2, hk⟩
 have hB := hB.trans (hk.mono hB.size)
 have HA := HA.below hk
 have HB := HB.below hk
 have HC := HC.below hk
 have P59 := P59.below hk
 have Q59 := Q59.below hk
 clear hk
 have R79 := rarg_of (some (Rat.divInt 7 2)) P1 P2 k1 k2
 clear P1 P2 k1 k2
 go_wp2_with fail
 refine (rounds_yes s79 t79 a79 b79 n79 m79 c79 d79 (Rat.divInt 7 2) 3 4 (hide (by kernel_rfl)) (hide (by kernel_rfl)) w80 R79).mono ?_
 rintro e w81 ⟨rfl, hk⟩
 have hB := hB.trans (hk.mono hB.size)
 have HA := HA.below hk
 have HB := HB.below hk
 have HC := HC.below hk
 have P59 := P59.below hk
 have Q59 := Q59.below hk
 have R79 := R79.below hk
 clear hk
 clear R79
 go_wp2_with fail
 refine (lawof_r (-7) 2 (by decide) (by decide) (by decide) (by decide) (by decide) w81).mono ?_
 rintro e w83 ⟨s82, a82, n82, c82, t82, b82, m82, d82, rfl, P1, P2, k1, k2, hk⟩
 have hB := hB.trans (hk.mono hB.size)
 have HA := HA.below hk
 have HB := HB.below hk
 have HC := HC.below hk
 have P59 := P59.below hk
 have Q59 := Q59.below hk
 clear hk
 have R82 := rarg_of (some (Rat.divInt (-7) 2)) P1 P2 k1 k2
 clear P1 P2 k1 k2
 go_wp2_with fail
 refine (rounds_yes s82 t82 a82 b82 n82 m82 c82 d82 (Rat.divInt (-7) 2) (-4) (-3) (hide (by kernel_rfl)) (hide (by kernel_rfl)) w83 R82).mono ?_
 rintro e w84 ⟨rfl, hk⟩
 have hB := hB.trans (hk.mono hB.size)
 have HA := HA.below hk
 have HB := HB.below hk
 have HC := HC.below hk
 have P59 := P59.below hk
 have Q59 := Q59.below hk
 have R82 := R82.below hk
 clear hk
 clear R82
 go_wp2_with fail
 refine (lawof_r 4 1 (by decide) (by decide) (by decide) (by decide) (by decide) w84).mono ?_
 rintro e w86 ⟨s85, a85, n85, c85, t85, b85, m85, d85, rfl, P1, P2, k1, k2, hk⟩
 have hB := hB.trans (hk.mono hB.size)
 have HA := HA.below hk
 have HB := HB.below hk
 have HC := HC.below hk
 have P59 := P59.below hk
 have Q59 := Q59.below hk
 clear hk
 have R85 := rarg_of (some (Rat.divInt 4 1)) P1 P2 k1 k2
 clear P1 P2 k1 k2
 go_wp2_with fail
 refine (rounds_yes s85 t85 a85 b85 n85 m85 c85 d85 (Rat.divInt 4 1) 4 4 (hide (by kernel_rfl)) (hide (by kernel_rfl)) w86 R85).mono ?_
 rintro e w87 ⟨rfl, hk⟩
 have hB := hB.trans (hk.mono hB.size)
 have HA := HA.below hk
 have HB := HB.below hk
 have HC := HC.below hk
 have P59 := P59.below hk
 have Q59 := Q59.below hk
 have R85 := R85.below hk
 clear hk
 clear R85
 go_wp2_with fail
 refine (lawof_r 1 2 (by decide) (by decide) (by decide) (by decide) (by decide) w87).mono ?_
 rintro e w89 ⟨s88, a88, n88, c88, t88, b88, m88, d88, rfl, P1, P2, k1, k2, hk⟩
 have hB := hB.trans (hk.mono hB.size)
 have HA := HA.below hk
 have HB := HB.below hk
 have HC := HC.below hk
 have P59 := P59.below hk
 have Q59 := Q59.below hk
 clear hk
 have R88 := rarg_of (some (Rat.divInt 1 2)) P1 P2 k1 k2
 clear P1 P2 k1 k2
 go_wp2_with fail
 refine (right_r s88 t88 a88 b88 n88 m88 c88 d88 (some (Rat.divInt 1 2)) w89 R88).mono ?_
 rintro e w90 ⟨rfl, hk⟩
 have hB := hB.trans (hk.mono hB.size)
 have HA := HA.below hk
 have HB := HB.below hk
 have HC := HC.below hk
 have P59 := P59.below hk
 have Q59 := Q59.below hk
 have R88 := R88.below hk
 clear hk
 clear R88
 go_wp2_with fail
 refine (right_r false false none none 0 0 0 0 none w90 (RArg.zero _)).mono ?_
 rintro e w91 ⟨rfl, hk⟩
 have hB := hB.trans (hk.mono hB.size)
 have HA := HA.below hk
 have HB := HB.below hk
 have HC := HC.below hk
 have P59 := P59.below hk
 have Q59 := Q59.below hk
 clear hk
 go_wp2_with fail
 have cp : Calls Tryz.prog 48 #[.string ⟨#[50, 47, 52]⟩] w91 (RatPost w91 (parseRO [50, 47, 52])) := ratParse_r [50, 47, 52] (by decide) w91 (hsy.below hB)
 have cc := cp
 rw [show parseRO [50, 47, 52] = none by kernel_rfl] at cc
 refine (cc).mono ?_
 rintro e w93 ⟨s92, a92, n92, c92, t92, b92, m92, d92, rfl, P1, P2, k1, k2, hk⟩
 have hB := hB.trans (hk.mono hB.size)
 have HA := HA.below hk
 have HB := HB.below hk
 have HC := HC.below hk
 have P59 := P59.below hk
 have Q59 := Q59.below hk
 clear hk
 clear cc
 have R92 := rarg_of (none) P1 P2 k1 k2
 have P92 := P1
 have Q92 := P2
 have kk92 := k1
 have ll92 := k2
 clear P1 P2 k1 k2
 clear cp
 obtain ⟨Z92, hZ92⟩ : ∃ Z, w93.alloc (Obj.cells #[.bool false, .slice none 0 0, .bool false, .slice none 0 0] 37) = Z := ⟨_, rfl⟩
 obtain ⟨W92, hW92⟩ : ∃ W, (((Z92.setCell ⟨w93.heap.size, 0, none⟩ (.bool s92)).setCell ⟨w93.heap.size, 1, none⟩ (.slice a92 n92 c92)).setCell ⟨w93.heap.size, 2, none⟩ (.bool t92)).setCell ⟨w93.heap.size, 3, none⟩ (.slice b92 m92 d92) = W := ⟨_, rfl⟩
 obtain ⟨HD, hk, bx92⟩ := rat_new (c1 := c92) (c2 := d92) hZ92 hW92 R92
 obtain ⟨BD, hB92⟩ : ∃ B, w93.heap.size = B := ⟨_, rfl⟩
 have lD : w.heap.size ≤ BD := by rw [← hB92]; exact hB.size
 have lAD : BA < BD := by rw [← hB92]; exact HA.box.lt
 have lBD : BB < BD := by rw [← hB92]; exact HB.box.lt
 have lCD : BC < BD := by rw [← hB92]; exact HC.box.lt
 have hB := hB.trans (hk.mono hB.size)
 have HA := HA.below hk
 have HB := HB.below hk
 have HC := HC.below hk
 have P59 := P59.below hk
 have Q59 := Q59.below hk
 have P92 := P92.below hk
 have Q92 := Q92.below hk
 clear hk
 rw [hB92] at hW92 HD bx92
 clear R92
 obtain ⟨⟨y0, y1, y2, y3⟩, yz0, yz1, yz2, yz3⟩ := id bx92
 go_wp2_with fail
 try rw [hW92]
 try rw [hB92]
 clear hW92 hB92
 clear y0 y1 y2 y3 yz0 yz1 yz2 yz3
 have cp : Calls Tryz.prog 48 #[.string ⟨#[51, 47, 49]⟩] W92 (RatPost W92 (parseRO [51, 47, 49])) := ratParse_r [51, 47, 49] (by decide) W92 (hsy.below hB)
 have cc := cp
 rw [show parseRO [51, 47, 49] = none by kernel_rfl] at cc
 refine (cc).mono ?_
 rintro e w95 ⟨s94, a94, n94, c94, t94, b94, m94, d94, rfl, P1, P2, k1, k2, hk⟩
 have hB := hB.trans (hk.mono hB.size)
 have HA := HA.below hk
 have HB := HB.below hk
 have HC := HC.below hk
 have P59 := P59.below hk
 have Q59 := Q59.below hk
 have P92 := P92.below hk
 have Q92 := Q92.below hk
 have HD := HD.below hk
 clear hk
 clear cc
 have R94 := rarg_of (none) P1 P2 k1 k2
 have P94 := P1
 have Q94 := P2
 have kk94 := k1
 have ll94 := k2
 clear P1 P2 k1 k2
 clear cp
 obtain ⟨Z94, hZ94⟩ : ∃ Z, w95.alloc (Obj.cells #[.bool false, .slice none 0 0, .bool false, .slice none 0 0] 37) = Z := ⟨_, rfl⟩
 obtain ⟨W94, hW94⟩ : ∃ W, (((Z94.setCell ⟨w95.heap.size, 0, none⟩ (.bool s94)).setCell ⟨w95.heap.size, 1, none⟩ (.slice a94 n94 c94)).setCell ⟨w95.heap.size, 2, none⟩ (.bool t94)).setCell ⟨w95.heap.size, 3, none⟩ (.slice b94 m94 d94) = W := ⟨_, rfl⟩
 obtain ⟨HE, hk, bx94⟩ := rat_new (c1 := c94) (c2 := d94) hZ94 hW94 R94
 obtain ⟨BE, hB94⟩ : ∃ B, w95.heap.size = B := ⟨_, rfl⟩
 have lE : w.heap.size ≤ BE := by rw [← hB94]; exact hB.size
 have lAE : BA < BE := by rw [← hB94]; exact HA.box.lt
 have lBE : BB < BE := by rw [← hB94]; exact HB.box.lt
 have lCE : BC < BE := by rw [← hB94]; exact HC.box.lt
 have lDE : BD < BE := by rw [← hB94]; exact HD.box.lt
 have hB := hB.trans (hk.mono hB.size)
 have HA := HA.below hk
 have HB := HB.below hk
 have HC := HC.below hk
 have P59 := P59.below hk
 have Q59 := Q59.below hk
 have P92 := P92.below hk
 have Q92 := Q92.below hk
 have HD := HD.below hk
 have P94 := P94.below hk
 have Q94 := Q94.below hk
 clear hk
 rw [hB94] at hW94 HE bx94
 clear R94
 obtain ⟨⟨y0, y1, y2, y3⟩, yz0, yz1, yz2, yz3⟩ := id bx94
 go_wp2_with fail
 try rw [hW94]
 try rw [hB94]
 clear hW94 hB94
 clear y0 y1 y2 y3 yz0 yz1 yz2 yz3
 have cp : Calls Tryz.prog 48 #[.string ⟨#[45, 51, 47, 50]⟩] W94 (RatPost W94 (parseRO [45, 51, 47, 50])) := ratParse_r [45, 51, 47, 50] (by decide) W94 (hsy.below hB)
 have cc := cp
 rw [show parseRO [45, 51, 47, 50] = some (Rat.divInt (-3) 2) by kernel_rfl] at cc
 refine (cc).mono ?_
 rintro e w97 ⟨s96, a96, n96, c96, t96, b96, m96, d96, rfl, P1, P2, k1, k2, hk⟩
 have hB := hB.trans (hk.mono hB.size)
 have HA := HA.below hk
 have HB := HB.below hk
 have HC := HC.below hk
 have P59 := P59.below hk
 have Q59 := Q59.below hk
 have P92 := P92.below hk
 have Q92 := Q92.below hk
 have HD := HD.below hk
 have P94 := P94.below hk
 have Q94 := Q94.below hk
 have HE := HE.below hk
 clear hk
 clear cc
 have R96 := rarg_of (some (Rat.divInt (-3) 2)) P1 P2 k1 k2
 clear P1 P2 k1 k2
 clear cp
 obtain ⟨Z96, hZ96⟩ : ∃ Z, w97.alloc (Obj.cells #[.bool false, .slice none 0 0, .bool false, .slice none 0 0] 37) = Z := ⟨_, rfl⟩
 obtain ⟨W96, hW96⟩ : ∃ W, (((Z96.setCell ⟨w97.heap.size, 0, none⟩ (.bool s96)).setCell ⟨w97.heap.size, 1, none⟩ (.slice a96 n96 c96)).setCell ⟨w97.heap.size, 2, none⟩ (.bool t96)).setCell ⟨w97.heap.size, 3, none⟩ (.slice b96 m96 d96) = W := ⟨_, rfl⟩
 obtain ⟨HG, hk, bx96⟩ := rat_new (c1 := c96) (c2 := d96) hZ96 hW96 R96
 obtain ⟨BG, hB96⟩ : ∃ B, w97.heap.size = B := ⟨_, rfl⟩
 have lG : w.heap.size ≤ BG := by rw [← hB96]; exact hB.size
 have lAG : BA < BG := by rw [← hB96]; exact HA.box.lt
 have lBG : BB < BG := by rw [← hB96]; exact HB.box.lt
 have lCG : BC < BG := by rw [← hB96]; exact HC.box.lt
 have lDG : BD < BG := by rw [← hB96]; exact HD.box.lt
 have lEG : BE < BG := by rw [← hB96]; exact HE.box.lt
 have hB := hB.trans (hk.mono hB.size)
 have HA := HA.below hk
 have HB := HB.below hk
 have HC := HC.below hk
 have P59 := P59.below hk
 have Q59 := Q59.below hk
 have P92 := P92.below hk
 have Q92 := Q92.below hk
 have HD := HD.below hk
 have P94 := P94.below hk
 have Q94 := Q94.below hk
 have HE := HE.below hk
 clear hk
 rw [hB96] at hW96 HG bx96
 clear R96
 obtain ⟨⟨y0, y1, y2, y3⟩, yz0, yz1, yz2, yz3⟩ := id bx96
 go_wp2_with fail
 try rw [hW96]
 try rw [hB96]
 clear hW96 hB96
 clear y0 y1 y2 y3 yz0 yz1 yz2 yz3
 refine (lawof_r (-3) 2 (by decide) (by decide) (by decide) (by decide) (by decide) W96).mono ?_
 rintro e w99 ⟨s98, a98, n98, c98, t98, b98, m98, d98, rfl, P1, P2, k1, k2, hk⟩
 have hB := hB.trans (hk.mono hB.size)
 have HA := HA.below hk
 have HB := HB.below hk
 have HC := HC.below hk
 have P59 := P59.below hk
 have Q59 := Q59.below hk
 have P92 := P92.below hk
 have Q92 := Q92.below hk
 have HD := HD.below hk
 have P94 := P94.below hk
 have Q94 := Q94.below hk
 have HE := HE.below hk
 have HG := HG.below hk
 clear hk
 have R98 := rarg_of (some (Rat.divInt (-3) 2)) P1 P2 k1 k2
 clear P1 P2 k1 k2
 go_wp2_with fail
 have cc : Calls Tryz.prog 47 #[.agg #[.bool s98, .slice a98 n98 c98, .bool t98, .slice b98 m98 d98]] w99 fun e w' => e = .returned (.string ⟨#[45, 51, 47, 50]⟩) ∧ Below w99.heap.size w99 w' := by
  have h := ratText_r s98 t98 a98 b98 n98 m98 c98 d98 (some (Rat.divInt (-3) 2)) w99 (ht.below hB) R98
  rw [show txtRO (some (Rat.divInt (-3) 2)) = [45, 51, 47, 50] by kernel_rfl] at h
  exact h
 refine (cc).mono ?_
 rintro e w100 ⟨rfl, hk⟩
 have hB := hB.trans (hk.mono hB.size)
 have HA := HA.below hk
 have HB := HB.below hk
 have HC := HC.below hk
 have P59 := P59.below hk
 have Q59 := Q59.below hk
 have P92 := P92.below hk
 have Q92 := Q92.below hk
 have HD := HD.below hk
 have P94 := P94.below hk
 have Q94 := Q94.below hk
 have HE := HE.below hk
 have HG := HG.below hk
 have R98 := R98.below hk
 clear hk
 clear cc
 clear R98
 go_wp2_with fail
 refine (lawof_r 5 1 (by decide) (by decide) (by decide) (by decide) (by decide) w100).mono ?_
 rintro e w102 ⟨s101, a101, n101, c101, t101, b101, m101, d101, rfl, P1, P2, k1, k2, hk⟩
 have hB := hB.trans (hk.mono hB.size)
 have HA := HA.below hk
 have HB := HB.below hk
 have HC := HC.below hk
 have P59 := P59.below hk
 have Q59 := Q59.below hk
 have P92 := P92.below hk
 have Q92 := Q92.below hk
 have HD := HD.below hk
 have P94 := P94.below hk
 have Q94 := Q94.below hk
 have HE := HE.below hk
 have HG := HG.below hk
 clear hk
 have R101 := rarg_of (some (Rat.divInt 5 1)) P1 P2 k1 k2
 clear P1 P2 k1 k2
 go_wp2_with fail
 have cc : Calls Tryz.prog 47 #[.agg #[.bool s101, .slice a101 n101 c101, .bool t101, .slice b101 m101 d101]] w102 fun e w' => e = .returned (.string ⟨#[53]⟩) ∧ Below w102.heap.size w102 w' := by
  have h := ratText_r s101 t101 a101 b101 n101 m101 c101 d101 (some (Rat.divInt 5 1)) w102 (ht.below hB) R101
  rw [show txtRO (some (Rat.divInt 5 1)) = [53] by kernel_rfl] at h
  exact h
 refine (cc).mono ?_
 rintro e w103 ⟨rfl, hk⟩
 have hB := hB.trans (hk.mono hB.size)
 have HA := HA.below hk
 have HB := HB.below hk
 have HC := HC.below hk
 have P59 := P59.below hk
 have Q59 := Q59.below hk
 have P92 := P92.below hk
 have Q92 := Q92.below hk
 have HD := HD.below hk
 have P94 := P94.below hk
 have Q94 := Q94.below hk
 have HE := HE.below hk
 have HG := HG.below hk
 have R101 := R101.below hk
 clear hk
 clear cc
 clear R101
 obtain ⟨⟨x00, x01, x02, x03⟩, xz00, xz01, xz02, xz03⟩ := id HG.box
 go_wp2_with fail
 clear x00 x01 x02 x03 xz00 xz01 xz02 xz03
 refine (gives_yes s96 t96 a96 b96 n96 m96 c96 d96 (Rat.divInt (-3) 2) (-3) 2 (by decide) (by decide) (by decide) (by decide) (by decide) (hide (by kernel_rfl)) w103 HG.arg).mono ?_
 rintro e w104 ⟨rfl, hk⟩
 have hB := hB.trans (hk.mono hB.size)
 have HA := HA.below hk
 have HB := HB.below hk
 have HC := HC.below hk
 have P59 := P59.below hk
 have Q59 := Q59.below hk
 have P92 := P92.below hk
 have Q92 := Q92.below hk
 have HD := HD.below hk
 have P94 := P94.below hk
 have Q94 := Q94.below hk
 have HE := HE.below hk
 have HG := HG.below hk
 clear hk
 go_wp2
 go_ret
 exact ⟨rfl, hB⟩
end Go.Proofs.YtgenaicmjddjcaaGreatDoor
