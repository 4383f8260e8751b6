/- the law RatioOrder: it is true. -/
import Derived.Test.YtikepnocefdmnaaGreatDoorLwS
import Derived.Test.YtikepnocefdmnaaGreatDoorLwT
import Derived.Test.YtikepnocefdmnaaGreatDoorFanR
namespace Go.Proofs.YtikepnocefdmnaaGreatDoor
open Go.RowKit Go.Shelf

set_option maxRecDepth 100000 in
set_option maxHeartbeats 64000000 in
theorem rorder_true (x0 x1 x2 : Option Addr) (L0 L1 L2 d0 d1 d2 : Nat) (g0 g1 g2 : Nat → Int) (hL0 : L0 ≤ 9223372036854775807) (hL1 : L1 ≤ 9223372036854775807) (hL2 : L2 ≤ 9223372036854775807) (w : World) (ht : Pow10 w) (hsy : Syn w) (h0 : Ints w x0 L0 g0) (h1 : Ints w x1 L1 g1) (h2 : Ints w x2 L2 g2) :
 Calls Tryz.prog 6 #[.agg #[.slice x0 L0 d0, .slice x1 L1 d1, .slice x2 L2 d2]] w fun e w' => e = .returned (.bool true) ∧ Below w.heap.size w w' := by
 go_enter Tryz.func6, Tryz.ntmps6
 go_wp2_with fail
 have hB := below_alloc w (Obj.cells #[.slice x0 L0 d0, .slice x1 L1 d1, .slice x2 L2 d2] 52)
 have k0 : (w.alloc (Obj.cells #[.slice x0 L0 d0, .slice x1 L1 d1, .slice x2 L2 d2] 52)).cell? ⟨w.heap.size, 0, none⟩ = some (.slice x0 L0 d0) := by simp [go_sem]
 have k1 : (w.alloc (Obj.cells #[.slice x0 L0 d0, .slice x1 L1 d1, .slice x2 L2 d2] 52)).cell? ⟨w.heap.size, 1, none⟩ = some (.slice x1 L1 d1) := by simp [go_sem]
 have k2 : (w.alloc (Obj.cells #[.slice x0 L0 d0, .slice x1 L1 d1, .slice x2 L2 d2] 52)).cell? ⟨w.heap.size, 2, none⟩ = some (.slice x2 L2 d2) := by simp [go_sem]
 obtain ⟨W0, hW0⟩ : ∃ W0, w.alloc (Obj.cells #[.slice x0 L0 d0, .slice x1 L1 d1, .slice x2 L2 d2] 52) = W0 := ⟨_, rfl⟩
 rw [hW0] at hB k0 k1 k2 ⊢
 clear hW0
 refine (sanity3_true W0 (ht.below hB) (hsy.below hB)).mono ?_
 rintro e w1 ⟨rfl, hkeep⟩
 have hB1 := hB.trans (hkeep.mono hB.size)
 have k0 := (hkeep.cell (p := ⟨w.heap.size, 0, none⟩) (lt_of_cell k0)).trans k0
 have k1 := (hkeep.cell (p := ⟨w.heap.size, 1, none⟩) (lt_of_cell k1)).trans k1
 have k2 := (hkeep.cell (p := ⟨w.heap.size, 2, none⟩) (lt_of_cell k2)).trans k2
 clear hB hkeep
 go_wp2_with fail
 have hB2 : Below w.heap.size w w1.drew := hB1.drew
 have k0 : w1.drew.cell? ⟨w.heap.size, 0, none⟩ = some (.slice x0 L0 d0) := k0
 have k1 : w1.drew.cell? ⟨w.heap.size, 1, none⟩ = some (.slice x1 L1 d1) := k1
 have k2 : w1.drew.cell? ⟨w.heap.size, 2, none⟩ = some (.slice x2 L2 d2) := k2
 have l0 := h0.below (hB2.mono (Nat.le_refl _))
 have l1 := h1.below (hB2.mono (Nat.le_refl _))
 have l2 := h2.below (hB2.mono (Nat.le_refl _))
 refine wp_region_held_drew (S := fun w' => Below w1.drew.heap.size w1.drew w') (by kernel_rfl) (Below.refl _ _) (fun hHeld => ?_)
 obtain ⟨WD, hWD⟩ : ∃ WD, w1.drew = WD := ⟨_, rfl⟩
 rw [hWD] at hB2 k0 k1 k2 l0 l1 l2 hHeld ⊢
 clear hWD hB1
 have hlt := lt_of_cell k0
 refine tk 0 (.pointer (some ⟨w.heap.size, 0, none⟩)) 19 rfl rfl ?_
 simp only [Act.put, pA, pB, pC]
 refine tk 1 (.slice x0 L0 d0) 20 rfl rfl ?_ (Or.inl ⟨by rfl, fun w' hSw => by have q := (hSw.cell (p := ⟨w.heap.size, 0, none⟩) hlt).trans k0; go_simp⟩)
 simp only [Act.put, pA, pB, pC]
 refine tk 3 (.pointer (some ⟨w.heap.size, 1, none⟩)) 22 rfl rfl ?_
 simp only [Act.put, pA, pB, pC]
 refine tk 4 (.slice x1 L1 d1) 23 rfl rfl ?_ (Or.inl ⟨by rfl, fun w' hSw => by have q := (hSw.cell (p := ⟨w.heap.size, 1, none⟩) hlt).trans k1; go_simp⟩)
 simp only [Act.put, pA, pB, pC]
 refine tk 6 (.pointer (some ⟨w.heap.size, 2, none⟩)) 25 rfl rfl ?_
 simp only [Act.put, pA, pB, pC]
 refine tk 7 (.slice x2 L2 d2) 26 rfl rfl ?_ (Or.inl ⟨by rfl, fun w' hSw => by have q := (hSw.cell (p := ⟨w.heap.size, 2, none⟩) hlt).trans k2; go_simp⟩)
 simp only [Act.put, pA, pB, pC]
 refine fanR (RB 3) 3 27 (fun U V => ⟨#[.agg #[.slice x0 L0 d0, .slice x1 L1 d1, .slice x2 L2 d2], .pointer (some ⟨w.heap.size, 0, none⟩), .bool false, .bool true, U 0, U 1, U 2, undef, undef, undef, undef, undef, undef, undef, undef, undef, undef, undef, .bool true, .pointer (some ⟨w.heap.size, 0, none⟩), .slice x0 L0 d0, V 0, .pointer (some ⟨w.heap.size, 1, none⟩), .slice x1 L1 d1, V 1, .pointer (some ⟨w.heap.size, 2, none⟩), .slice x2 L2 d2, V 2, undef, undef, undef, undef, undef, undef, undef, undef, undef, undef, undef, undef, undef, undef, undef, undef, undef, undef, undef, undef, undef, undef, undef, undef, undef, undef, undef, undef, undef, undef, undef, undef, undef, undef, undef, undef, undef, undef, undef, undef, undef, undef, undef, undef, undef, undef, undef, undef, undef, undef, undef, undef, undef, undef, undef, undef, undef, undef, undef, undef, undef, undef, undef, undef, undef, undef, undef, undef, undef, undef, undef, undef, undef, undef, undef, undef, undef, undef, undef, undef, undef, undef, undef, undef, undef, undef, undef, undef, undef, undef, undef, undef, undef, undef, undef, undef, undef, undef, undef, undef, undef, undef, undef, undef, undef, undef, undef, undef, undef, undef, undef, undef, undef], []⟩) WD (by kernel_rfl) (topo_of (by kernel_rfl)) (dep_of (by kernel_rfl)) ?hal ?hcl ?hst ?hend (fun _ => undef) (fun _ => undef) _ _ (by kernel_rfl) (of_decide_eq_true (by kernel_rfl)) (of_decide_eq_true (by kernel_rfl)) (of_decide_eq_true (by kernel_rfl))
 case hal =>
  intro k U V w' H hk h
  match k, hk with
  | 0, _ =>
    refine wpOp_run (i := 9) rfl ?_
    go_simp
    exact h
  | 1, _ =>
    refine wpOp_run (i := 10) rfl ?_
    go_simp
    exact h
  | 2, _ =>
    refine wpOp_run (i := 11) rfl ?_
    go_simp
    exact h
 case hcl =>
  intro k U V w' H hk hb h
  match k, hk with
  | 0, _ =>
    refine wpOp_call (i := 2) (f := 12) (args := #[.slice x0 L0 d0]) 21 rfl rfl (by rfl) (by go_simp) ?_
    refine (madeR_any x0 L0 d0 g0 hL0 w' (l0.below hb)).mono ?_
    rintro e w2 ⟨x, hx, s1, a1, n1, c1, s2, a2, n2, c2, rfl, P1, P2, q1, q2, hg⟩
    exact ⟨_, rfl, h _ w2 ⟨s1, a1, n1, c1, s2, a2, n2, c2, x, rfl, rarg_of (some x) P1 P2 q1 q2, hx⟩ hg⟩
  | 1, _ =>
    refine wpOp_call (i := 5) (f := 12) (args := #[.slice x1 L1 d1]) 24 rfl rfl (by rfl) (by go_simp) ?_
    refine (madeR_any x1 L1 d1 g1 hL1 w' (l1.below hb)).mono ?_
    rintro e w2 ⟨x, hx, s1, a1, n1, c1, s2, a2, n2, c2, rfl, P1, P2, q1, q2, hg⟩
    exact ⟨_, rfl, h _ w2 ⟨s1, a1, n1, c1, s2, a2, n2, c2, x, rfl, rarg_of (some x) P1 P2 q1 q2, hx⟩ hg⟩
  | 2, _ =>
    refine wpOp_call (i := 8) (f := 12) (args := #[.slice x2 L2 d2]) 27 rfl rfl (by rfl) (by go_simp) ?_
    refine (madeR_any x2 L2 d2 g2 hL2 w' (l2.below hb)).mono ?_
    rintro e w2 ⟨x, hx, s1, a1, n1, c1, s2, a2, n2, c2, rfl, P1, P2, q1, q2, hg⟩
    exact ⟨_, rfl, h _ w2 ⟨s1, a1, n1, c1, s2, a2, n2, c2, x, rfl, rarg_of (some x) P1 P2 q1 q2, hx⟩ hg⟩
 case hst =>
  intro k U V w' H B s1 a1 n1 c1 s2 a2 n2 c2 hk hU hV hbox h
  obtain ⟨t1, b1, m1, e1, t2, b2, m2, e2, ⟨q0, q1, q2, q3⟩, z0, z1, z2, z3⟩ := hbox
  match k, hk with
  | 0, _ =>
    refine wpOp_run (i := 12) rfl ?_
    simp only [hU, hV] at h ⊢
    go_simp
    exact h
  | 1, _ =>
    refine wpOp_run (i := 13) rfl ?_
    simp only [hU, hV] at h ⊢
    go_simp
    exact h
  | 2, _ =>
    refine wpOp_run (i := 14) rfl ?_
    simp only [hU, hV] at h ⊢
    go_simp
    exact h
 case hend =>
  intro U V fB w3 hF
  obtain ⟨B4, s21, a21, n21, c21, t21, b21, m21, d21, x, hU0, hV0, H4, rx, b4⟩ := hF.held (k := 0) (by decide)
  obtain ⟨B5, s24, a24, n24, c24, t24, b24, m24, d24, y, hU1, hV1, H5, ry, b5⟩ := hF.held (k := 1) (by decide)
  obtain ⟨B6, s27, a27, n27, c27, t27, b27, m27, d27, z, hU2, hV2, H6, rz, b6⟩ := hF.held (k := 2) (by decide)
  have hB := hB2.trans (hF.below.mono hB2.size)
  clear hF
  rw [hU0, hU1, hU2]
  have l4 : w.heap.size ≤ B4 := Nat.le_trans hB2.size b4
  have l5 : w.heap.size ≤ B5 := Nat.le_trans hB2.size b5
  have l6 : w.heap.size ≤ B6 := Nat.le_trans hB2.size b6
  clear hU0 hU1 hU2 hV0 hV1 hV2 k0 k1 k2 l0 l1 l2 b4 b5 b6 hHeld hB2 hlt
  have HSub : Hid (subRO (some x) (some y) = some (x - y)) := hide (by
   show addR x (-y) = _
   rw [addR_fit rx ry.neg (by decide), Rat.sub_eq_add_neg])
  have HA : Hid (addRO (some x) (some z) = some (x + z)) := hide (addR_fit rx rz (by decide))
  have HA2 : Hid (addRO (some y) (some z) = some (y + z)) := hide (addR_fit ry rz (by decide))
  have HM : Hid (mulRO (some x) (some z) = some (x * z)) := hide (mulR_fit rx rz (by decide))
  have HM2 : Hid (mulRO (some y) (some z) = some (y * z)) := hide (mulR_fit ry rz (by decide))
  have o3 := cmpR_three x y
  have s3 := cmpR_three z 0
  rw [← sgnR_eq] at s3
  have K88 : cmpRO (some y) (some x) = - cmpR x y := cmpR_swap x y
  have K81 : sgnO (some (x - y)) = cmpR x y := cmpR_sub x y
  have K96 : cmpRO (some (x + z)) (some (y + z)) = cmpR x y := cmpR_add x y z
  have K103 : cmpRO (some (x * z)) (some (y * z)) = cmpR x y * sgnR z := cmpR_mul x y z
  have T0 : Hid (cmpR x y = 0 → x = y) := fun h => cmpR_eq.1 h
  have T1 : Hid (cmpR x y = 0 ∨ cmpR x y = -1 → cmpRO (some y) (some z) ≤ 0 → cmpRO (some x) (some z) ≤ 0) := fun h h2 => by
   have h3 : x ≤ y := cmpR_le.1 (by omega)
   exact cmpR_le.2 (Rat.le_trans h3 (cmpR_le.1 h2))
  have K138 : Hid (cmpRO (some x) (some x) = 0) := hide (cmpR_eq.2 rfl)
  clear rx ry rz
  obtain ⟨O, hO⟩ : ∃ O, cmpR x y = O := ⟨_, rfl⟩
  have K30 : Hid (cmpRO (some x) (some y) = O) := hide hO
  rw [hO] at o3 K88 K81 K96 K103 T0 T1
  clear hO
  obtain ⟨S, hS'⟩ : ∃ S, sgnR z = S := ⟨_, rfl⟩
  have K106 : Hid (sgnO (some z) = S) := hide hS'
  rw [hS'] at s3 K103
  clear hS'
  have o4 : -1 ≤ O * S ∧ O * S ≤ 1 := by
   rcases o3 with h | h | h <;> rcases s3 with h' | h' | h' <;> subst h <;> subst h' <;> decide
  have ho0 : -1 ≤ O := by omega
  have ho1 : O ≤ 1 := by omega
  obtain ⟨T, hT'⟩ : ∃ T, O * S = T := ⟨_, rfl⟩
  rw [hT'] at o4 K103
  obtain ⟨o5, o6⟩ := o4
  have H88 := hide K88
  have H81 := hide K81
  have H96 := hide K96
  have H103 := hide K103
  have O3 := hide o3
  clear K88 K81 K96 K103 o3 s3
  have v1 : IntKind.i64.wrap (-O) = -O := by simp only [IntKind.wrap, IntKind.bits, IntKind.signed]; simp; omega
  have v2 : IntKind.i64.wrap T = T := by simp only [IntKind.wrap, IntKind.bits, IntKind.signed]; simp; omega
  have v3 : IntKind.i64.wrap (O * S) = T := by rw [hT', v2]
  obtain ⟨C1, hC⟩ : ∃ C, cmpRO (some y) (some z) = C := ⟨_, rfl⟩
  have K124 := hide hC
  rw [hC] at T1
  clear hC
  obtain ⟨C2, hC⟩ : ∃ C, cmpRO (some x) (some z) = C := ⟨_, rfl⟩
  have K130 := hide hC
  rw [hC] at T1
  clear hC
  obtain ⟨⟨x00, x01, x02, x03⟩, k00, k01, k02, k03⟩ := id H4.box
  obtain ⟨⟨x10, x11, x12, x13⟩, k10, k11, k12, k13⟩ := id H5.box
  go_wp2_with fail
  clear x00 x01 x02 x03 k00 k01 k02 k03 x10 x11 x12 x13 k10 k11 k12 k13
  have cc := cmp_r s21 t21 s24 t24 a21 b21 a24 b24 n21 m21 n24 m24 c21 d21 c24 d24 (some x) (some y) w3 H4.arg H5.arg
  rw [K30.out] at cc
  refine cc.mono ?_
  rintro e w1 ⟨rfl, hk⟩
  have hB := hB.trans (hk.mono hB.size)
  have H4 := H4.below hk
  have H5 := H5.below hk
  have H6 := H6.below hk
  clear hk
  clear cc
  obtain ⟨⟨x00, x01, x02, x03⟩, k00, k01, k02, k03⟩ := id H4.box
  obtain ⟨⟨x10, x11, x12, x13⟩, k10, k11, k12, k13⟩ := id H5.box
  go_wp2_with fail
  clear x00 x01 x02 x03 k00 k01 k02 k03 x10 x11 x12 x13 k10 k11 k12 k13
  have cc := sub_r s21 t21 s24 t24 a21 b21 a24 b24 n21 m21 n24 m24 c21 d21 c24 d24 (some x) (some y) w1 H4.arg H5.arg
  rw [HSub.out] at cc
  refine cc.mono ?_
  rintro e w2 ⟨s34, a34, n34, c34, t34, b34, m34, d34, rfl, P1, P2, k1, k2, hk⟩
  have hB := hB.trans (hk.mono hB.size)
  have H4 := H4.below hk
  have H5 := H5.below hk
  have H6 := H6.below hk
  clear hk
  clear cc
  have R34 := rarg_of (some (x - y)) P1 P2 k1 k2
  clear P1 P2 k1 k2
  obtain ⟨Z34, hZ34⟩ : ∃ Z, w2.alloc (Obj.cells #[.bool false, .slice none 0 0, .bool false, .slice none 0 0] 27) = Z := ⟨_, rfl⟩
  obtain ⟨W34, hW34⟩ : ∃ W, (((Z34.setCell ⟨w2.heap.size, 0, none⟩ (.bool s34)).setCell ⟨w2.heap.size, 1, none⟩ (.slice a34 n34 c34)).setCell ⟨w2.heap.size, 2, none⟩ (.bool t34)).setCell ⟨w2.heap.size, 3, none⟩ (.slice b34 m34 d34) = W := ⟨_, rfl⟩
  obtain ⟨H8, hk, bx34⟩ := rat_new (c1 := c34) (c2 := d34) hZ34 hW34 R34
  obtain ⟨B8, hB34⟩ : ∃ B, w2.heap.size = B := ⟨_, rfl⟩
  have l8 : w.heap.size ≤ B8 := by rw [← hB34]; exact hB.size
  have hB := hB.trans (hk.mono hB.size)
  have H4 := H4.below hk
  have H5 := H5.below hk
  have H6 := H6.below hk
  have R34 := R34.below hk
  clear hk
  rw [hB34] at hW34 H8 bx34
  clear R34
  obtain ⟨⟨y0, y1, y2, y3⟩, yz0, yz1, yz2, yz3⟩ := id bx34
  obtain ⟨⟨x10, x11, x12, x13⟩, k10, k11, k12, k13⟩ := id H4.box
  obtain ⟨⟨x20, x21, x22, x23⟩, k20, k21, k22, k23⟩ := id H6.box
  go_wp2_with fail
  try rw [hW34]
  try rw [hB34]
  clear hW34 hB34
  clear y0 y1 y2 y3 yz0 yz1 yz2 yz3 x10 x11 x12 x13 k10 k11 k12 k13 x20 x21 x22 x23 k20 k21 k22 k23
  have cc := add_r s21 t21 s27 t27 a21 b21 a27 b27 n21 m21 n27 m27 c21 d21 c27 d27 (some x) (some z) W34 H4.arg H6.arg
  rw [HA.out] at cc
  refine cc.mono ?_
  rintro e w3 ⟨s40, a40, n40, c40, t40, b40, m40, d40, rfl, P1, P2, k1, k2, hk⟩
  have hB := hB.trans (hk.mono hB.size)
  have H4 := H4.below hk
  have H5 := H5.below hk
  have H6 := H6.below hk
  have H8 := H8.below hk
  clear hk
  clear cc
  have R40 := rarg_of (some (x + z)) P1 P2 k1 k2
  clear P1 P2 k1 k2
  obtain ⟨Z40, hZ40⟩ : ∃ Z, w3.alloc (Obj.cells #[.bool false, .slice none 0 0, .bool false, .slice none 0 0] 27) = Z := ⟨_, rfl⟩
  obtain ⟨W40, hW40⟩ : ∃ W, (((Z40.setCell ⟨w3.heap.size, 0, none⟩ (.bool s40)).setCell ⟨w3.heap.size, 1, none⟩ (.slice a40 n40 c40)).setCell ⟨w3.heap.size, 2, none⟩ (.bool t40)).setCell ⟨w3.heap.size, 3, none⟩ (.slice b40 m40 d40) = W := ⟨_, rfl⟩
  obtain ⟨H10, hk, bx40⟩ := rat_new (c1 := c40) (c2 := d40) hZ40 hW40 R40
  obtain ⟨B10, hB40⟩ : ∃ B, w3.heap.size = B := ⟨_, rfl⟩
  have l10 : w.heap.size ≤ B10 := by rw [← hB40]; exact hB.size
  have hB := hB.trans (hk.mono hB.size)
  have H4 := H4.below hk
  have H5 := H5.below hk
  have H6 := H6.below hk
  have H8 := H8.below hk
  have R40 := R40.below hk
  clear hk
  rw [hB40] at hW40 H10 bx40
  clear R40
  obtain ⟨⟨y0, y1, y2, y3⟩, yz0, yz1, yz2, yz3⟩ := id bx40
  obtain ⟨⟨x10, x11, x12, x13⟩, k10, k11, k12, k13⟩ := id H5.box
  obtain ⟨⟨x20, x21, x22, x23⟩, k20, k21, k22, k23⟩ := id H6.box
  go_wp2_with fail
  try rw [hW40]
  try rw [hB40]
  clear hW40 hB40
  clear y0 y1 y2 y3 yz0 yz1 yz2 yz3 x10 x11 x12 x13 k10 k11 k12 k13 x20 x21 x22 x23 k20 k21 k22 k23
  have cc := add_r s24 t24 s27 t27 a24 b24 a27 b27 n24 m24 n27 m27 c24 d24 c27 d27 (some y) (some z) W40 H5.arg H6.arg
  rw [HA2.out] at cc
  refine cc.mono ?_
  rintro e w4 ⟨s46, a46, n46, c46, t46, b46, m46, d46, rfl, P1, P2, k1, k2, hk⟩
  have hB := hB.trans (hk.mono hB.size)
  have H4 := H4.below hk
  have H5 := H5.below hk
  have H6 := H6.below hk
  have H8 := H8.below hk
  have H10 := H10.below hk
  clear hk
  clear cc
  have R46 := rarg_of (some (y + z)) P1 P2 k1 k2
  clear P1 P2 k1 k2
  obtain ⟨Z46, hZ46⟩ : ∃ Z, w4.alloc (Obj.cells #[.bool false, .slice none 0 0, .bool false, .slice none 0 0] 27) = Z := ⟨_, rfl⟩
  obtain ⟨W46, hW46⟩ : ∃ W, (((Z46.setCell ⟨w4.heap.size, 0, none⟩ (.bool s46)).setCell ⟨w4.heap.size, 1, none⟩ (.slice a46 n46 c46)).setCell ⟨w4.heap.size, 2, none⟩ (.bool t46)).setCell ⟨w4.heap.size, 3, none⟩ (.slice b46 m46 d46) = W := ⟨_, rfl⟩
  obtain ⟨H12, hk, bx46⟩ := rat_new (c1 := c46) (c2 := d46) hZ46 hW46 R46
  obtain ⟨B12, hB46⟩ : ∃ B, w4.heap.size = B := ⟨_, rfl⟩
  have l12 : w.heap.size ≤ B12 := by rw [← hB46]; exact hB.size
  have hB := hB.trans (hk.mono hB.size)
  have H4 := H4.below hk
  have H5 := H5.below hk
  have H6 := H6.below hk
  have H8 := H8.below hk
  have H10 := H10.below hk
  have R46 := R46.below hk
  clear hk
  rw [hB46] at hW46 H12 bx46
  clear R46
  obtain ⟨⟨y0, y1, y2, y3⟩, yz0, yz1, yz2, yz3⟩ := id bx46
  obtain ⟨⟨x10, x11, x12, x13⟩, k10, k11, k12, k13⟩ := id H4.box
  obtain ⟨⟨x20, x21, x22, x23⟩, k20, k21, k22, k23⟩ := id H6.box
  go_wp2_with fail
  try rw [hW46]
  try rw [hB46]
  clear hW46 hB46
  clear y0 y1 y2 y3 yz0 yz1 yz2 yz3 x10 x11 x12 x13 k10 k11 k12 k13 x20 x21 x22 x23 k20 k21 k22 k23
  have cc := mul_r s21 t21 s27 t27 a21 b21 a27 b27 n21 m21 n27 m27 c21 d21 c27 d27 (some x) (some z) W46 H4.arg H6.arg
  rw [HM.out] at cc
  refine cc.mono ?_
  rintro e w5 ⟨s52, a52, n52, c52, t52, b52, m52, d52, rfl, P1, P2, k1, k2, hk⟩
  have hB := hB.trans (hk.mono hB.size)
  have H4 := H4.below hk
  have H5 := H5.below hk
  have H6 := H6.below hk
  have H8 := H8.below hk
  have H10 := H10.below hk
  have H12 := H12.below hk
  clear hk
  clear cc
  have R52 := rarg_of (some (x * z)) P1 P2 k1 k2
  clear P1 P2 k1 k2
  obtain ⟨Z52, hZ52⟩ : ∃ Z, w5.alloc (Obj.cells #[.bool false, .slice none 0 0, .bool false, .slice none 0 0] 27) = Z := ⟨_, rfl⟩
  obtain ⟨W52, hW52⟩ : ∃ W, (((Z52.setCell ⟨w5.heap.size, 0, none⟩ (.bool s52)).setCell ⟨w5.heap.size, 1, none⟩ (.slice a52 n52 c52)).setCell ⟨w5.heap.size, 2, none⟩ (.bool t52)).setCell ⟨w5.heap.size, 3, none⟩ (.slice b52 m52 d52) = W := ⟨_, rfl⟩
  obtain ⟨H14, hk, bx52⟩ := rat_new (c1 := c52) (c2 := d52) hZ52 hW52 R52
  obtain ⟨B14, hB52⟩ : ∃ B, w5.heap.size = B := ⟨_, rfl⟩
  have l14 : w.heap.size ≤ B14 := by rw [← hB52]; exact hB.size
  have hB := hB.trans (hk.mono hB.size)
  have H4 := H4.below hk
  have H5 := H5.below hk
  have H6 := H6.below hk
  have H8 := H8.below hk
  have H10 := H10.below hk
  have H12 := H12.below hk
  have R52 := R52.below hk
  clear hk
  rw [hB52] at hW52 H14 bx52
  clear R52
  obtain ⟨⟨y0, y1, y2, y3⟩, yz0, yz1, yz2, yz3⟩ := id bx52
  obtain ⟨⟨x10, x11, x12, x13⟩, k10, k11, k12, k13⟩ := id H5.box
  obtain ⟨⟨x20, x21, x22, x23⟩, k20, k21, k22, k23⟩ := id H6.box
  go_wp2_with fail
  try rw [hW52]
  try rw [hB52]
  clear hW52 hB52
  clear y0 y1 y2 y3 yz0 yz1 yz2 yz3 x10 x11 x12 x13 k10 k11 k12 k13 x20 x21 x22 x23 k20 k21 k22 k23
  have cc := mul_r s24 t24 s27 t27 a24 b24 a27 b27 n24 m24 n27 m27 c24 d24 c27 d27 (some y) (some z) W52 H5.arg H6.arg
  rw [HM2.out] at cc
  refine cc.mono ?_
  rintro e w6 ⟨s58, a58, n58, c58, t58, b58, m58, d58, rfl, P1, P2, k1, k2, hk⟩
  have hB := hB.trans (hk.mono hB.size)
  have H4 := H4.below hk
  have H5 := H5.below hk
  have H6 := H6.below hk
  have H8 := H8.below hk
  have H10 := H10.below hk
  have H12 := H12.below hk
  have H14 := H14.below hk
  clear hk
  clear cc
  have R58 := rarg_of (some (y * z)) P1 P2 k1 k2
  clear P1 P2 k1 k2
  obtain ⟨Z58, hZ58⟩ : ∃ Z, w6.alloc (Obj.cells #[.bool false, .slice none 0 0, .bool false, .slice none 0 0] 27) = Z := ⟨_, rfl⟩
  obtain ⟨W58, hW58⟩ : ∃ W, (((Z58.setCell ⟨w6.heap.size, 0, none⟩ (.bool s58)).setCell ⟨w6.heap.size, 1, none⟩ (.slice a58 n58 c58)).setCell ⟨w6.heap.size, 2, none⟩ (.bool t58)).setCell ⟨w6.heap.size, 3, none⟩ (.slice b58 m58 d58) = W := ⟨_, rfl⟩
  obtain ⟨H16, hk, bx58⟩ := rat_new (c1 := c58) (c2 := d58) hZ58 hW58 R58
  obtain ⟨B16, hB58⟩ : ∃ B, w6.heap.size = B := ⟨_, rfl⟩
  have l16 : w.heap.size ≤ B16 := by rw [← hB58]; exact hB.size
  have hB := hB.trans (hk.mono hB.size)
  have H4 := H4.below hk
  have H5 := H5.below hk
  have H6 := H6.below hk
  have H8 := H8.below hk
  have H10 := H10.below hk
  have H12 := H12.below hk
  have H14 := H14.below hk
  have R58 := R58.below hk
  clear hk
  rw [hB58] at hW58 H16 bx58
  clear R58
  obtain ⟨⟨y0, y1, y2, y3⟩, yz0, yz1, yz2, yz3⟩ := id bx58
  go_wp2_with fail
  try rw [hW58]
  try rw [hB58]
  clear hW58 hB58
  clear y0 y1 y2 y3 yz0 yz1 yz2 yz3
  obtain ⟨S9, hS9⟩ : ∃ b, W58.drew.heap.size = b := ⟨_, rfl⟩
  have lS : S9 ≤ W58.drew.heap.size := by omega
  have l4E : B4 < S9 := by rw [← hS9]; exact H4.box.lt
  have l5E : B5 < S9 := by rw [← hS9]; exact H5.box.lt
  have l6E : B6 < S9 := by rw [← hS9]; exact H6.box.lt
  have l8E : B8 < S9 := by rw [← hS9]; exact H8.box.lt
  have l10E : B10 < S9 := by rw [← hS9]; exact H10.box.lt
  have l12E : B12 < S9 := by rw [← hS9]; exact H12.box.lt
  have l14E : B14 < S9 := by rw [← hS9]; exact H14.box.lt
  have l16E : B16 < S9 := by rw [← hS9]; exact H16.box.lt
  clear hS9
  have hB := hB.drew
  have H4 := H4.below (Below.drew (Below.refl W58.heap.size W58))
  have H5 := H5.below (Below.drew (Below.refl W58.heap.size W58))
  have H6 := H6.below (Below.drew (Below.refl W58.heap.size W58))
  have H8 := H8.below (Below.drew (Below.refl W58.heap.size W58))
  have H10 := H10.below (Below.drew (Below.refl W58.heap.size W58))
  have H12 := H12.below (Below.drew (Below.refl W58.heap.size W58))
  have H14 := H14.below (Below.drew (Below.refl W58.heap.size W58))
  have H16 := H16.below (Below.drew (Below.refl W58.heap.size W58))
  refine wp_region_held_drew (S := fun w' => Below (S9) W58.drew w') (by kernel_rfl) (Below.refl _ _) (fun hHeld => ?_)
  obtain ⟨E9, hWE⟩ : ∃ W, W58.drew = W := ⟨_, rfl⟩
  rw [hWE] at hB H4 H5 H6 H8 H10 H12 H14 H16 hHeld lS ⊢
  clear hWE
  have hE := Below.refl E9.heap.size E9
  have hS : Below S9 E9 E9 := Below.refl _ _
  have q4E := H4.box
  have q5E := H5.box
  have q6E := H6.box
  have q8E := H8.box
  have q10E := H10.box
  have q12E := H12.box
  have q14E := H14.box
  have q16E := H16.box
  refine tk 0 (.bool true) 61 rfl rfl ?_
  simp only [Act.put, pA, pB, pC]
  refine tk 1 (.bool false) 62 rfl rfl ?_
  simp only [Act.put, pA, pB, pC]
  refine tk 2 (.bool false) 63 rfl rfl ?_
  simp only [Act.put, pA, pB, pC]
  refine tk 3 (.bool true) 64 rfl rfl ?_
  simp only [Act.put, pA, pB, pC]
  refine tk 4 (.bool false) 65 rfl rfl ?_
  simp only [Act.put, pA, pB, pC]
  refine tk 5 (.bool false) 66 rfl rfl ?_
  simp only [Act.put, pA, pB, pC]
  refine tk 6 (.bool false) 67 rfl rfl ?_
  simp only [Act.put, pA, pB, pC]
  refine tk 7 (.bool true) 68 rfl rfl ?_
  simp only [Act.put, pA, pB, pC]
  refine tk 8 (.bool false) 69 rfl rfl ?_
  simp only [Act.put, pA, pB, pC]
  refine tk 9 (.bool false) 70 rfl rfl ?_
  simp only [Act.put, pA, pB, pC]
  refine tk 10 (.bool false) 71 rfl rfl ?_
  simp only [Act.put, pA, pB, pC]
  refine tk 11 (.bool true) 72 rfl rfl ?_
  simp only [Act.put, pA, pB, pC]
  refine tk 12 (.bool false) 73 rfl rfl ?_
  simp only [Act.put, pA, pB, pC]
  refine tk 13 (.bool false) 74 rfl rfl ?_
  simp only [Act.put, pA, pB, pC]
  refine tk 14 (.bool false) 75 rfl rfl ?_
  simp only [Act.put, pA, pB, pC]
  refine tk 15 (.bool true) 76 rfl rfl ?_
  simp only [Act.put, pA, pB, pC]
  refine tk 16 (.bool false) 77 rfl rfl ?_
  simp only [Act.put, pA, pB, pC]
  refine tk 17 (.bool false) 78 rfl rfl ?_
  simp only [Act.put, pA, pB, pC]
  refine tk 18 (.bool false) 79 rfl rfl ?_
  simp only [Act.put, pA, pB, pC]
  refine tk 19 (.agg #[.bool s34, .slice a34 n34 c34, .bool t34, .slice b34 m34 d34]) 80 rfl rfl ?_ (Or.inl ⟨by rfl, fun w' hSw => by obtain ⟨⟨z0, z1, z2, z3⟩, -, -, -, -⟩ := q8E.under hSw l8E; go_simp⟩)
  simp only [Act.put, pA, pB, pC]
  refine tk 21 (.int .i64 O) 82 rfl rfl ?_
  simp only [Act.put, pA, pB, pC]
  refine wpAnyH_one 20 (by kernel_rfl) ?_
  have cc := sign_r s34 t34 a34 b34 n34 m34 c34 d34 (some (x - y)) E9 H8.arg
  rw [H81.out] at cc
  refine wpOp_call (i := 20) (f := 22) (args := #[.agg #[.bool s34, .slice a34 n34 c34, .bool t34, .slice b34 m34 d34]]) 81 rfl rfl (by rfl) (by go_simp) ?_
  refine (cc).mono ?_
  rintro e r1 ⟨rfl, hk⟩
  clear cc
  have hE := hE.trans (hk.mono hE.size)
  have H4 := H4.below hk
  have H5 := H5.below hk
  have H6 := H6.below hk
  have H8 := H8.below hk
  have H10 := H10.below hk
  have H12 := H12.below hk
  have H14 := H14.below hk
  have H16 := H16.below hk
  have hS : Below S9 E9 r1 := hE.mono lS
  refine ⟨_, rfl, hS, ?_⟩
  simp only [Act.put, pA, pB, pC]
  refine tk 22 (.bool false) 83 rfl rfl ?_
  simp only [Act.put, pA, pB, pC]
  refine tk 23 (.bool false) 84 rfl rfl ?_
  simp only [Act.put, pA, pB, pC]
  refine tk 24 (.bool false) 85 rfl rfl ?_
  simp only [Act.put, pA, pB, pC]
  refine tk 25 (.agg #[.bool s24, .slice a24 n24 c24, .bool t24, .slice b24 m24 d24]) 86 rfl rfl ?_ (Or.inl ⟨by rfl, fun w' hSw => by obtain ⟨⟨z0, z1, z2, z3⟩, -, -, -, -⟩ := q5E.under hSw l5E; go_simp⟩)
  simp only [Act.put, pA, pB, pC]
  refine tk 26 (.agg #[.bool s21, .slice a21 n21 c21, .bool t21, .slice b21 m21 d21]) 87 rfl rfl ?_ (Or.inl ⟨by rfl, fun w' hSw => by obtain ⟨⟨z0, z1, z2, z3⟩, -, -, -, -⟩ := q4E.under hSw l4E; go_simp⟩)
  simp only [Act.put, pA, pB, pC]
  refine tk 28 (.int .i64 O) 89 rfl rfl ?_
  simp only [Act.put, pA, pB, pC]
  refine tk 29 (.int .i64 (-O)) 90 rfl rfl ?_
  simp only [Act.put, pA, pB, pC]
  refine wpAnyH_one 27 (by kernel_rfl) ?_
  have cc := cmp_r s24 t24 s21 t21 a24 b24 a21 b21 n24 m24 n21 m21 c24 d24 c21 d21 (some y) (some x) r1 H5.arg H4.arg
  rw [H88.out] at cc
  refine wpOp_call (i := 27) (f := 37) (args := #[.agg #[.bool s24, .slice a24 n24 c24, .bool t24, .slice b24 m24 d24], .agg #[.bool s21, .slice a21 n21 c21, .bool t21, .slice b21 m21 d21]]) 88 rfl rfl (by rfl) (by go_simp) ?_
  refine (cc).mono ?_
  rintro e r2 ⟨rfl, hk⟩
  clear cc
  have hE := hE.trans (hk.mono hE.size)
  have H4 := H4.below hk
  have H5 := H5.below hk
  have H6 := H6.below hk
  have H8 := H8.below hk
  have H10 := H10.below hk
  have H12 := H12.below hk
  have H14 := H14.below hk
  have H16 := H16.below hk
  have hS : Below S9 E9 r2 := hE.mono lS
  refine ⟨_, rfl, hS, ?_⟩
  simp only [Act.put, pA, pB, pC]
  refine tk 30 (.bool false) 91 rfl rfl ?_
  simp only [Act.put, pA, pB, pC]
  refine tk 31 (.bool false) 92 rfl rfl ?_
  simp only [Act.put, pA, pB, pC]
  refine tk 32 (.bool false) 93 rfl rfl ?_
  simp only [Act.put, pA, pB, pC]
  refine tk 33 (.agg #[.bool s40, .slice a40 n40 c40, .bool t40, .slice b40 m40 d40]) 94 rfl rfl ?_ (Or.inl ⟨by rfl, fun w' hSw => by obtain ⟨⟨z0, z1, z2, z3⟩, -, -, -, -⟩ := q10E.under hSw l10E; go_simp⟩)
  simp only [Act.put, pA, pB, pC]
  refine tk 34 (.agg #[.bool s46, .slice a46 n46 c46, .bool t46, .slice b46 m46 d46]) 95 rfl rfl ?_ (Or.inl ⟨by rfl, fun w' hSw => by obtain ⟨⟨z0, z1, z2, z3⟩, -, -, -, -⟩ := q12E.under hSw l12E; go_simp⟩)
  simp only [Act.put, pA, pB, pC]
  refine tk 36 (.int .i64 O) 97 rfl rfl ?_
  simp only [Act.put, pA, pB, pC]
  refine wpAnyH_one 35 (by kernel_rfl) ?_
  have cc := cmp_r s40 t40 s46 t46 a40 b40 a46 b46 n40 m40 n46 m46 c40 d40 c46 d46 (some (x + z)) (some (y + z)) r2 H10.arg H12.arg
  rw [H96.out] at cc
  refine wpOp_call (i := 35) (f := 37) (args := #[.agg #[.bool s40, .slice a40 n40 c40, .bool t40, .slice b40 m40 d40], .agg #[.bool s46, .slice a46 n46 c46, .bool t46, .slice b46 m46 d46]]) 96 rfl rfl (by rfl) (by go_simp) ?_
  refine (cc).mono ?_
  rintro e r3 ⟨rfl, hk⟩
  clear cc
  have hE := hE.trans (hk.mono hE.size)
  have H4 := H4.below hk
  have H5 := H5.below hk
  have H6 := H6.below hk
  have H8 := H8.below hk
  have H10 := H10.below hk
  have H12 := H12.below hk
  have H14 := H14.below hk
  have H16 := H16.below hk
  have hS : Below S9 E9 r3 := hE.mono lS
  refine ⟨_, rfl, hS, ?_⟩
  simp only [Act.put, pA, pB, pC]
  refine tk 37 (.bool false) 98 rfl rfl ?_
  simp only [Act.put, pA, pB, pC]
  refine tk 38 (.bool false) 99 rfl rfl ?_
  simp only [Act.put, pA, pB, pC]
  refine tk 39 (.bool false) 100 rfl rfl ?_
  simp only [Act.put, pA, pB, pC]
  refine tk 40 (.agg #[.bool s52, .slice a52 n52 c52, .bool t52, .slice b52 m52 d52]) 101 rfl rfl ?_ (Or.inl ⟨by rfl, fun w' hSw => by obtain ⟨⟨z0, z1, z2, z3⟩, -, -, -, -⟩ := q14E.under hSw l14E; go_simp⟩)
  simp only [Act.put, pA, pB, pC]
  refine tk 41 (.agg #[.bool s58, .slice a58 n58 c58, .bool t58, .slice b58 m58 d58]) 102 rfl rfl ?_ (Or.inl ⟨by rfl, fun w' hSw => by obtain ⟨⟨z0, z1, z2, z3⟩, -, -, -, -⟩ := q16E.under hSw l16E; go_simp⟩)
  simp only [Act.put, pA, pB, pC]
  refine tk 43 (.int .i64 O) 104 rfl rfl ?_
  simp only [Act.put, pA, pB, pC]
  refine tk 44 (.agg #[.bool s27, .slice a27 n27 c27, .bool t27, .slice b27 m27 d27]) 105 rfl rfl ?_ (Or.inl ⟨by rfl, fun w' hSw => by obtain ⟨⟨z0, z1, z2, z3⟩, -, -, -, -⟩ := q6E.under hSw l6E; go_simp⟩)
  simp only [Act.put, pA, pB, pC]
  refine wpAnyH_one 42 (by kernel_rfl) ?_
  have cc := cmp_r s52 t52 s58 t58 a52 b52 a58 b58 n52 m52 n58 m58 c52 d52 c58 d58 (some (x * z)) (some (y * z)) r3 H14.arg H16.arg
  rw [H103.out] at cc
  refine wpOp_call (i := 42) (f := 37) (args := #[.agg #[.bool s52, .slice a52 n52 c52, .bool t52, .slice b52 m52 d52], .agg #[.bool s58, .slice a58 n58 c58, .bool t58, .slice b58 m58 d58]]) 103 rfl rfl (by rfl) (by go_simp) ?_
  refine (cc).mono ?_
  rintro e r4 ⟨rfl, hk⟩
  clear cc
  have hE := hE.trans (hk.mono hE.size)
  have H4 := H4.below hk
  have H5 := H5.below hk
  have H6 := H6.below hk
  have H8 := H8.below hk
  have H10 := H10.below hk
  have H12 := H12.below hk
  have H14 := H14.below hk
  have H16 := H16.below hk
  have hS : Below S9 E9 r4 := hE.mono lS
  refine ⟨_, rfl, hS, ?_⟩
  simp only [Act.put, pA, pB, pC]
  refine wpAnyH_one 45 (by kernel_rfl) ?_
  have cc := sign_r s27 t27 a27 b27 n27 m27 c27 d27 (some z) r4 H6.arg
  rw [K106.out] at cc
  refine wpOp_call (i := 45) (f := 22) (args := #[.agg #[.bool s27, .slice a27 n27 c27, .bool t27, .slice b27 m27 d27]]) 106 rfl rfl (by rfl) (by go_simp) ?_
  refine (cc).mono ?_
  rintro e r5 ⟨rfl, hk⟩
  clear cc
  have hE := hE.trans (hk.mono hE.size)
  have H4 := H4.below hk
  have H5 := H5.below hk
  have H6 := H6.below hk
  have H8 := H8.below hk
  have H10 := H10.below hk
  have H12 := H12.below hk
  have H14 := H14.below hk
  have H16 := H16.below hk
  have hS : Below S9 E9 r5 := hE.mono lS
  refine ⟨_, rfl, hS, ?_⟩
  simp only [Act.put, pA, pB, pC]
  refine tk 46 (.int .i64 T) 107 rfl rfl ?_
  simp only [Act.put, pA, pB, pC]
  refine tk 47 (.bool false) 108 rfl rfl ?_
  simp only [Act.put, pA, pB, pC]
  refine tk 48 (.bool false) 109 rfl rfl ?_
  simp only [Act.put, pA, pB, pC]
  refine wpAnyH_done (by kernel_rfl) ?_ _
  have hB := hB.trans (hE.mono hB.size)
  clear q4E q5E q6E q8E q10E q12E q14E q16E
  clear v1 v2 v3 hT' o5 o6 ho0 ho1
  rcases O3.out with hO | hO | hO
  · have T1x := hide (T1.out (.inr hO))
    subst hO
    by_cases hc1 : C1 ≤ 0
    · have tc := decide_eq_true hc1
      have tc2 : decide (0 < C2) = false := decide_eq_false (by have := T1x.out hc1; omega)
      clear hc1
      obtain ⟨⟨x00, x01, x02, x03⟩, k00, k01, k02, k03⟩ := id H5.box
      obtain ⟨⟨x10, x11, x12, x13⟩, k10, k11, k12, k13⟩ := id H6.box
      go_wp2_with fail
      clear x00 x01 x02 x03 k00 k01 k02 k03 x10 x11 x12 x13 k10 k11 k12 k13
      have cc := cmp_r s24 t24 s27 t27 a24 b24 a27 b27 n24 m24 n27 m27 c24 d24 c27 d27 (some y) (some z) r5 H5.arg H6.arg
      rw [K124.out] at cc
      refine cc.mono ?_
      rintro e w7 ⟨rfl, hk⟩
      have hB := hB.trans (hk.mono hB.size)
      have H4 := H4.below hk
      have H5 := H5.below hk
      have H6 := H6.below hk
      have H8 := H8.below hk
      have H10 := H10.below hk
      have H12 := H12.below hk
      have H14 := H14.below hk
      have H16 := H16.below hk
      clear hk
      clear cc
      obtain ⟨⟨x00, x01, x02, x03⟩, k00, k01, k02, k03⟩ := id H4.box
      obtain ⟨⟨x10, x11, x12, x13⟩, k10, k11, k12, k13⟩ := id H6.box
      go_wp2_with fail
      clear x00 x01 x02 x03 k00 k01 k02 k03 x10 x11 x12 x13 k10 k11 k12 k13
      have cc := cmp_r s21 t21 s27 t27 a21 b21 a27 b27 n21 m21 n27 m27 c21 d21 c27 d27 (some x) (some z) w7 H4.arg H6.arg
      rw [K130.out] at cc
      refine cc.mono ?_
      rintro e w8 ⟨rfl, hk⟩
      have hB := hB.trans (hk.mono hB.size)
      have H4 := H4.below hk
      have H5 := H5.below hk
      have H6 := H6.below hk
      have H8 := H8.below hk
      have H10 := H10.below hk
      have H12 := H12.below hk
      have H14 := H14.below hk
      have H16 := H16.below hk
      clear hk
      clear cc
      obtain ⟨⟨x00, x01, x02, x03⟩, k00, k01, k02, k03⟩ := id H4.box
      go_wp2_with fail
      clear x00 x01 x02 x03 k00 k01 k02 k03
      have cc := cmp_r s21 t21 s21 t21 a21 b21 a21 b21 n21 m21 n21 m21 c21 d21 c21 d21 (some x) (some x) w8 H4.arg H4.arg
      rw [K138.out] at cc
      refine cc.mono ?_
      rintro e w9 ⟨rfl, hk⟩
      have hB := hB.trans (hk.mono hB.size)
      have H4 := H4.below hk
      have H5 := H5.below hk
      have H6 := H6.below hk
      have H8 := H8.below hk
      have H10 := H10.below hk
      have H12 := H12.below hk
      have H14 := H14.below hk
      have H16 := H16.below hk
      clear hk
      clear cc
      go_wp2
      go_ret
      exact ⟨rfl, hB⟩
    · have tc := decide_eq_false hc1
      clear hc1
      obtain ⟨⟨x00, x01, x02, x03⟩, k00, k01, k02, k03⟩ := id H5.box
      obtain ⟨⟨x10, x11, x12, x13⟩, k10, k11, k12, k13⟩ := id H6.box
      go_wp2_with fail
      clear x00 x01 x02 x03 k00 k01 k02 k03 x10 x11 x12 x13 k10 k11 k12 k13
      have cc := cmp_r s24 t24 s27 t27 a24 b24 a27 b27 n24 m24 n27 m27 c24 d24 c27 d27 (some y) (some z) r5 H5.arg H6.arg
      rw [K124.out] at cc
      refine cc.mono ?_
      rintro e w7 ⟨rfl, hk⟩
      have hB := hB.trans (hk.mono hB.size)
      have H4 := H4.below hk
      have H5 := H5.below hk
      have H6 := H6.below hk
      have H8 := H8.below hk
      have H10 := H10.below hk
      have H12 := H12.below hk
      have H14 := H14.below hk
      have H16 := H16.below hk
      clear hk
      clear cc
      obtain ⟨⟨x00, x01, x02, x03⟩, k00, k01, k02, k03⟩ := id H4.box
      go_wp2_with fail
      clear x00 x01 x02 x03 k00 k01 k02 k03
      have cc := cmp_r s21 t21 s21 t21 a21 b21 a21 b21 n21 m21 n21 m21 c21 d21 c21 d21 (some x) (some x) w7 H4.arg H4.arg
      rw [K138.out] at cc
      refine cc.mono ?_
      rintro e w8 ⟨rfl, hk⟩
      have hB := hB.trans (hk.mono hB.size)
      have H4 := H4.below hk
      have H5 := H5.below hk
      have H6 := H6.below hk
      have H8 := H8.below hk
      have H10 := H10.below hk
      have H12 := H12.below hk
      have H14 := H14.below hk
      have H16 := H16.below hk
      clear hk
      clear cc
      go_wp2
      go_ret
      exact ⟨rfl, hB⟩
  · have e := T0.out hO
    subst e
    have T1x := hide (T1.out (.inl hO))
    subst hO
    by_cases hc1 : C1 ≤ 0
    · have tc := decide_eq_true hc1
      have tc2 : decide (0 < C2) = false := decide_eq_false (by have := T1x.out hc1; omega)
      clear hc1
      obtain ⟨⟨x00, x01, x02, x03⟩, k00, k01, k02, k03⟩ := id H4.box
      obtain ⟨⟨x10, x11, x12, x13⟩, k10, k11, k12, k13⟩ := id H5.box
      go_wp2_with fail
      clear x00 x01 x02 x03 k00 k01 k02 k03 x10 x11 x12 x13 k10 k11 k12 k13
      have cc := same_r s21 t21 s24 t24 a21 b21 a24 b24 n21 m21 n24 m24 c21 d21 c24 d24 _ _ H4.arg.l1 H4.arg.l2 r5 H4.arg.num H4.arg.den H5.arg.num H5.arg.den
      refine cc.mono ?_
      rintro e w7 ⟨rfl, hk⟩
      have hB := hB.trans (hk.mono hB.size)
      have H4 := H4.below hk
      have H5 := H5.below hk
      have H6 := H6.below hk
      have H8 := H8.below hk
      have H10 := H10.below hk
      have H12 := H12.below hk
      have H14 := H14.below hk
      have H16 := H16.below hk
      clear hk
      clear cc
      obtain ⟨⟨x00, x01, x02, x03⟩, k00, k01, k02, k03⟩ := id H5.box
      obtain ⟨⟨x10, x11, x12, x13⟩, k10, k11, k12, k13⟩ := id H6.box
      go_wp2_with fail
      clear x00 x01 x02 x03 k00 k01 k02 k03 x10 x11 x12 x13 k10 k11 k12 k13
      have cc := cmp_r s24 t24 s27 t27 a24 b24 a27 b27 n24 m24 n27 m27 c24 d24 c27 d27 (some x) (some z) w7 H5.arg H6.arg
      rw [K124.out] at cc
      refine cc.mono ?_
      rintro e w8 ⟨rfl, hk⟩
      have hB := hB.trans (hk.mono hB.size)
      have H4 := H4.below hk
      have H5 := H5.below hk
      have H6 := H6.below hk
      have H8 := H8.below hk
      have H10 := H10.below hk
      have H12 := H12.below hk
      have H14 := H14.below hk
      have H16 := H16.below hk
      clear hk
      clear cc
      obtain ⟨⟨x00, x01, x02, x03⟩, k00, k01, k02, k03⟩ := id H4.box
      obtain ⟨⟨x10, x11, x12, x13⟩, k10, k11, k12, k13⟩ := id H6.box
      go_wp2_with fail
      clear x00 x01 x02 x03 k00 k01 k02 k03 x10 x11 x12 x13 k10 k11 k12 k13
      have cc := cmp_r s21 t21 s27 t27 a21 b21 a27 b27 n21 m21 n27 m27 c21 d21 c27 d27 (some x) (some z) w8 H4.arg H6.arg
      rw [K130.out] at cc
      refine cc.mono ?_
      rintro e w9 ⟨rfl, hk⟩
      have hB := hB.trans (hk.mono hB.size)
      have H4 := H4.below hk
      have H5 := H5.below hk
      have H6 := H6.below hk
      have H8 := H8.below hk
      have H10 := H10.below hk
      have H12 := H12.below hk
      have H14 := H14.below hk
      have H16 := H16.below hk
      clear hk
      clear cc
      obtain ⟨⟨x00, x01, x02, x03⟩, k00, k01, k02, k03⟩ := id H4.box
      go_wp2_with fail
      clear x00 x01 x02 x03 k00 k01 k02 k03
      have cc := cmp_r s21 t21 s21 t21 a21 b21 a21 b21 n21 m21 n21 m21 c21 d21 c21 d21 (some x) (some x) w9 H4.arg H4.arg
      rw [K138.out] at cc
      refine cc.mono ?_
      rintro e w10 ⟨rfl, hk⟩
      have hB := hB.trans (hk.mono hB.size)
      have H4 := H4.below hk
      have H5 := H5.below hk
      have H6 := H6.below hk
      have H8 := H8.below hk
      have H10 := H10.below hk
      have H12 := H12.below hk
      have H14 := H14.below hk
      have H16 := H16.below hk
      clear hk
      clear cc
      go_wp2
      go_ret
      exact ⟨rfl, hB⟩
    · have tc := decide_eq_false hc1
      clear hc1
      obtain ⟨⟨x00, x01, x02, x03⟩, k00, k01, k02, k03⟩ := id H4.box
      obtain ⟨⟨x10, x11, x12, x13⟩, k10, k11, k12, k13⟩ := id H5.box
      go_wp2_with fail
      clear x00 x01 x02 x03 k00 k01 k02 k03 x10 x11 x12 x13 k10 k11 k12 k13
      have cc := same_r s21 t21 s24 t24 a21 b21 a24 b24 n21 m21 n24 m24 c21 d21 c24 d24 _ _ H4.arg.l1 H4.arg.l2 r5 H4.arg.num H4.arg.den H5.arg.num H5.arg.den
      refine cc.mono ?_
      rintro e w7 ⟨rfl, hk⟩
      have hB := hB.trans (hk.mono hB.size)
      have H4 := H4.below hk
      have H5 := H5.below hk
      have H6 := H6.below hk
      have H8 := H8.below hk
      have H10 := H10.below hk
      have H12 := H12.below hk
      have H14 := H14.below hk
      have H16 := H16.below hk
      clear hk
      clear cc
      obtain ⟨⟨x00, x01, x02, x03⟩, k00, k01, k02, k03⟩ := id H5.box
      obtain ⟨⟨x10, x11, x12, x13⟩, k10, k11, k12, k13⟩ := id H6.box
      go_wp2_with fail
      clear x00 x01 x02 x03 k00 k01 k02 k03 x10 x11 x12 x13 k10 k11 k12 k13
      have cc := cmp_r s24 t24 s27 t27 a24 b24 a27 b27 n24 m24 n27 m27 c24 d24 c27 d27 (some x) (some z) w7 H5.arg H6.arg
      rw [K124.out] at cc
      refine cc.mono ?_
      rintro e w8 ⟨rfl, hk⟩
      have hB := hB.trans (hk.mono hB.size)
      have H4 := H4.below hk
      have H5 := H5.below hk
      have H6 := H6.below hk
      have H8 := H8.below hk
      have H10 := H10.below hk
      have H12 := H12.below hk
      have H14 := H14.below hk
      have H16 := H16.below hk
      clear hk
      clear cc
      obtain ⟨⟨x00, x01, x02, x03⟩, k00, k01, k02, k03⟩ := id H4.box
      go_wp2_with fail
      clear x00 x01 x02 x03 k00 k01 k02 k03
      have cc := cmp_r s21 t21 s21 t21 a21 b21 a21 b21 n21 m21 n21 m21 c21 d21 c21 d21 (some x) (some x) w8 H4.arg H4.arg
      rw [K138.out] at cc
      refine cc.mono ?_
      rintro e w9 ⟨rfl, hk⟩
      have hB := hB.trans (hk.mono hB.size)
      have H4 := H4.below hk
      have H5 := H5.below hk
      have H6 := H6.below hk
      have H8 := H8.below hk
      have H10 := H10.below hk
      have H12 := H12.below hk
      have H14 := H14.below hk
      have H16 := H16.below hk
      clear hk
      clear cc
      go_wp2
      go_ret
      exact ⟨rfl, hB⟩
  · subst hO
    obtain ⟨⟨x00, x01, x02, x03⟩, k00, k01, k02, k03⟩ := id H4.box
    go_wp2_with fail
    clear x00 x01 x02 x03 k00 k01 k02 k03
    have cc := cmp_r s21 t21 s21 t21 a21 b21 a21 b21 n21 m21 n21 m21 c21 d21 c21 d21 (some x) (some x) r5 H4.arg H4.arg
    rw [K138.out] at cc
    refine cc.mono ?_
    rintro e w7 ⟨rfl, hk⟩
    have hB := hB.trans (hk.mono hB.size)
    have H4 := H4.below hk
    have H5 := H5.below hk
    have H6 := H6.below hk
    have H8 := H8.below hk
    have H10 := H10.below hk
    have H12 := H12.below hk
    have H14 := H14.below hk
    have H16 := H16.below hk
    clear hk
    clear cc
    go_wp2
    go_ret
    exact ⟨rfl, hB⟩
end Go.Proofs.YtikepnocefdmnaaGreatDoor
