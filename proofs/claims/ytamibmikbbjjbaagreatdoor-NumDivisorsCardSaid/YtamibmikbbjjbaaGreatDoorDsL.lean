/- the law NumDivisors: it is true. -/
import Derived.Test.YtamibmikbbjjbaaGreatDoorSanity
import Derived.Test.YtamibmikbbjjbaaGreatDoorPRef
import Derived.Test.YtamibmikbbjjbaaGreatDoorPDivL
import Derived.Test.YtamibmikbbjjbaaGreatDoorPGcd
import Derived.Test.YtamibmikbbjjbaaGreatDoorDsM
namespace Go.Proofs.YtamibmikbbjjbaaGreatDoor
open Go.RowKit Go.Shelf


set_option maxRecDepth 100000 in
set_option maxHeartbeats 16000000 in
theorem divisors_true (x0 x1 x2 : Option Addr) (L0 L1 L2 d0 d1 d2 : Nat) (g0 g1 g2 : Nat → Int) (hL0 : L0 ≤ 9223372036854775807) (hL1 : L1 ≤ 9223372036854775807) (hL2 : L2 ≤ 9223372036854775807) (w : World) (ht : Pow10 w) (h0 : Ints w x0 L0 g0) (h1 : Ints w x1 L1 g1) (h2 : Ints w x2 L2 g2) :
    Calls Tryz.prog 5 #[.agg #[.slice x0 L0 d0, .slice x1 L1 d1, .slice x2 L2 d2]] w fun e w' => e = .returned (.bool true) ∧ Below w.heap.size w w' := by
  go_enter Tryz.func5, Tryz.ntmps5
  go_wp2_with fail
  have hB := below_alloc w (Obj.cells #[.slice x0 L0 d0, .slice x1 L1 d1, .slice x2 L2 d2] 43)
  have k0 : (w.alloc (Obj.cells #[.slice x0 L0 d0, .slice x1 L1 d1, .slice x2 L2 d2] 43)).cell? ⟨w.heap.size, 0, none⟩ = some (.slice x0 L0 d0) := by simp [go_sem]
  have k1 : (w.alloc (Obj.cells #[.slice x0 L0 d0, .slice x1 L1 d1, .slice x2 L2 d2] 43)).cell? ⟨w.heap.size, 1, none⟩ = some (.slice x1 L1 d1) := by simp [go_sem]
  have k2 : (w.alloc (Obj.cells #[.slice x0 L0 d0, .slice x1 L1 d1, .slice x2 L2 d2] 43)).cell? ⟨w.heap.size, 2, none⟩ = some (.slice x2 L2 d2) := by simp [go_sem]
  obtain ⟨W0, hW0⟩ : ∃ W0, w.alloc (Obj.cells #[.slice x0 L0 d0, .slice x1 L1 d1, .slice x2 L2 d2] 43) = W0 := ⟨_, rfl⟩
  rw [hW0] at hB k0 k1 k2 ⊢
  clear hW0
  refine (sanity_true W0 (ht.below hB)).mono ?_
  rintro e w1 ⟨rfl, hkeep⟩
  have hB1 := hB.trans (hkeep.mono hB.size)
  have k0 := (hkeep.cell (p := ⟨w.heap.size, 0, none⟩) (lt_of_cell k0)).trans k0
  have k1 := (hkeep.cell (p := ⟨w.heap.size, 1, none⟩) (lt_of_cell k1)).trans k1
  have k2 := (hkeep.cell (p := ⟨w.heap.size, 2, none⟩) (lt_of_cell k2)).trans k2
  clear hB hkeep
  go_wp2_with fail
  have hB2 : Below w.heap.size w w1.drew := hB1.drew
  have k0 : w1.drew.cell? ⟨w.heap.size, 0, none⟩ = some (.slice x0 L0 d0) := k0
  have k1 : w1.drew.cell? ⟨w.heap.size, 1, none⟩ = some (.slice x1 L1 d1) := k1
  have k2 : w1.drew.cell? ⟨w.heap.size, 2, none⟩ = some (.slice x2 L2 d2) := k2
  have l0 := h0.below (hB2.mono (Nat.le_refl _))
  have l1 := h1.below (hB2.mono (Nat.le_refl _))
  have l2 := h2.below (hB2.mono (Nat.le_refl _))
  refine wp_region_held_drew (S := fun w' => Below w1.drew.heap.size w1.drew w') (by kernel_rfl) (Below.refl _ _) (fun hHeld => ?_)
  obtain ⟨WD, hWD⟩ : ∃ WD, w1.drew = WD := ⟨_, rfl⟩
  rw [hWD] at hB2 k0 k1 k2 l0 l1 l2 hHeld ⊢
  clear hWD hB1
  have hlt := lt_of_cell k0
  refine take_at (i := 0) (v := .pointer (some ⟨w.heap.size, 0, none⟩)) 30 rfl rfl (by kernel_rfl) (by kernel_rfl) (by kernel_rfl) (fun _ _ _ h => h) (Or.inl ⟨by rfl, fun w' hSw => by go_simp⟩) (by assumption) ?_
  simp only [Act.put, List.setIfInBounds_toArray, List.set_cons_zero, List.set_cons_succ]
  refine take_at (i := 1) (v := .slice x0 L0 d0) 31 rfl rfl (by kernel_rfl) (by kernel_rfl) (by kernel_rfl) (fun _ _ _ h => h) (Or.inl ⟨by rfl, fun w' hSw => by have q := (hSw.cell (p := ⟨w.heap.size, 0, none⟩) hlt).trans k0; go_simp⟩) (by assumption) ?_
  simp only [Act.put, List.setIfInBounds_toArray, List.set_cons_zero, List.set_cons_succ]
  refine take_at (i := 3) (v := .pointer (some ⟨w.heap.size, 1, none⟩)) 33 rfl rfl (by kernel_rfl) (by kernel_rfl) (by kernel_rfl) (fun _ _ _ h => h) (Or.inl ⟨by rfl, fun w' hSw => by go_simp⟩) (by assumption) ?_
  simp only [Act.put, List.setIfInBounds_toArray, List.set_cons_zero, List.set_cons_succ]
  refine take_at (i := 4) (v := .slice x1 L1 d1) 34 rfl rfl (by kernel_rfl) (by kernel_rfl) (by kernel_rfl) (fun _ _ _ h => h) (Or.inl ⟨by rfl, fun w' hSw => by have q := (hSw.cell (p := ⟨w.heap.size, 1, none⟩) hlt).trans k1; go_simp⟩) (by assumption) ?_
  simp only [Act.put, List.setIfInBounds_toArray, List.set_cons_zero, List.set_cons_succ]
  refine take_at (i := 6) (v := .pointer (some ⟨w.heap.size, 2, none⟩)) 36 rfl rfl (by kernel_rfl) (by kernel_rfl) (by kernel_rfl) (fun _ _ _ h => h) (Or.inl ⟨by rfl, fun w' hSw => by go_simp⟩) (by assumption) ?_
  simp only [Act.put, List.setIfInBounds_toArray, List.set_cons_zero, List.set_cons_succ]
  refine take_at (i := 7) (v := .slice x2 L2 d2) 37 rfl rfl (by kernel_rfl) (by kernel_rfl) (by kernel_rfl) (fun _ _ _ h => h) (Or.inl ⟨by rfl, fun w' hSw => by have q := (hSw.cell (p := ⟨w.heap.size, 2, none⟩) hlt).trans k2; go_simp⟩) (by assumption) ?_
  simp only [Act.put, List.setIfInBounds_toArray, List.set_cons_zero, List.set_cons_succ]
  refine fan 3 26 (fun U V => ⟨#[.agg #[.slice x0 L0 d0, .slice x1 L1 d1, .slice x2 L2 d2], .pointer (some ⟨w.heap.size, 0, none⟩), .bool false, .bool true, U 0, U 1, U 2, undef, undef, undef, undef, undef, undef, undef, undef, undef, undef, undef, undef, undef, undef, undef, undef, undef, undef, undef, undef, undef, undef, .bool true, .pointer (some ⟨w.heap.size, 0, none⟩), .slice x0 L0 d0, V 0, .pointer (some ⟨w.heap.size, 1, none⟩), .slice x1 L1 d1, V 1, .pointer (some ⟨w.heap.size, 2, none⟩), .slice x2 L2 d2, V 2, undef, undef, undef, undef, undef, undef, undef, undef, undef, undef, undef, undef, undef, undef, undef, undef, undef, undef, undef, undef, undef, undef, undef, undef, undef, undef, undef, undef, undef, undef, undef, undef, undef, undef, undef, undef, undef, undef, undef, undef, undef, undef, undef, undef, undef, undef, undef, undef, undef, undef, undef, undef, undef, undef, undef, undef, undef, undef, undef, undef, undef, undef, undef, undef, undef, undef, undef, undef, undef, undef, undef, undef, undef, undef, undef, undef, undef, undef, undef, undef, undef, undef, undef, undef, undef, undef, undef, undef, undef, undef, undef, undef, undef, undef, undef, undef, undef, undef, undef, undef, undef, undef, undef, undef, undef, undef, undef, undef, undef, undef, undef, undef, undef, undef, undef, undef, undef, undef, undef, undef, undef, undef, undef, undef, undef, undef, undef, undef, undef, undef, undef, undef, undef, undef, undef, undef, undef, undef, undef, undef, undef, undef, undef, undef, undef, undef, undef, undef, undef, undef, undef, undef, undef, undef, undef, undef, undef, undef, undef, undef, undef], []⟩) WD (by kernel_rfl) (topo_of (by kernel_rfl)) (dep_of (by kernel_rfl)) ?hal ?hcl ?hst ?hend (fun _ => undef) (fun _ => undef) _ _ (by kernel_rfl) (of_decide_eq_true (by kernel_rfl)) (of_decide_eq_true (by kernel_rfl)) (of_decide_eq_true (by kernel_rfl))
  case hal =>
    intro k U V w' H hk h
    match k, hk with
    | 0, _ =>
      refine wpOp_run (i := 9) rfl ?_
      go_simp
      exact h
    | 1, _ =>
      refine wpOp_run (i := 10) rfl ?_
      go_simp
      exact h
    | 2, _ =>
      refine wpOp_run (i := 11) rfl ?_
      go_simp
      exact h
  case hcl =>
    intro k U V w' H hk hb h
    match k, hk with
    | 0, _ =>
      refine wpOp_call (i := 2) (f := 14) (args := #[.slice x0 L0 d0]) 32 rfl rfl (by rfl) (by go_simp) ?_
      refine (made_any x0 L0 d0 g0 hL0 w' (l0.below hb)).mono ?_
      rintro e w2 ⟨z, s, a, n, c, rfl, hN, h6, hf, hg⟩
      exact ⟨_, rfl, h z s a n c w2 hN h6 hf hg⟩
    | 1, _ =>
      refine wpOp_call (i := 5) (f := 14) (args := #[.slice x1 L1 d1]) 35 rfl rfl (by rfl) (by go_simp) ?_
      refine (made_any x1 L1 d1 g1 hL1 w' (l1.below hb)).mono ?_
      rintro e w2 ⟨z, s, a, n, c, rfl, hN, h6, hf, hg⟩
      exact ⟨_, rfl, h z s a n c w2 hN h6 hf hg⟩
    | 2, _ =>
      refine wpOp_call (i := 8) (f := 14) (args := #[.slice x2 L2 d2]) 38 rfl rfl (by rfl) (by go_simp) ?_
      refine (made_any x2 L2 d2 g2 hL2 w' (l2.below hb)).mono ?_
      rintro e w2 ⟨z, s, a, n, c, rfl, hN, h6, hf, hg⟩
      exact ⟨_, rfl, h z s a n c w2 hN h6 hf hg⟩
  case hst =>
    intro k U V w' H B s a n c hk hU hV hbox h
    obtain ⟨v0, v1, hbox⟩ := hbox
    obtain ⟨q0, q1, z0, z1⟩ := hbox
    match k, hk with
    | 0, _ =>
      refine wpOp_run (i := 12) rfl ?_
      simp only [hU, hV] at h ⊢
      go_simp
      exact h
    | 1, _ =>
      refine wpOp_run (i := 13) rfl ?_
      simp only [hU, hV] at h ⊢
      go_simp
      exact h
    | 2, _ =>
      refine wpOp_run (i := 14) rfl ?_
      simp only [hU, hV] at h ⊢
      go_simp
      exact h
  case hend =>
    intro U V fB fs fa fn fc fz w3 hF
    obtain ⟨B4, s4, a4, n4, c4, A, hU0, H4, m4, b4⟩ := hF.holds (k := 0) (by decide)
    obtain ⟨B5, s5, a5, n5, c5, B, hU1, H5, m5, b5⟩ := hF.holds (k := 1) (by decide)
    obtain ⟨B6, s6, a6, n6, c6, C, hU2, H6, m6, b6⟩ := hF.holds (k := 2) (by decide)
    have hB := hB2.trans (hF.below.mono hB2.size)
    clear hF
    rw [hU0, hU1, hU2]
    clear hU0 hU1 hU2 k0 k1 k2 l0 l1 l2 b4 b5 b6 hHeld hB2 hlt
    have qA := hide (num_lt H4.num m4)
    have qB := hide (num_lt H5.num m5)
    have qC := hide (num_lt H6.num m6)
    have k4 : n4 ≤ 64 := by omega
    have k5 : n5 ≤ 64 := by omega
    have k6 : n6 ≤ 64 := by omega
    clear m4 m5 m6
    by_cases h5 : n5 = 0
    · subst h5
      have hB0 := num_zero H5.num
      subst hB0
      by_cases h4 : n4 = 0
      · subst h4
        have hA0 := num_zero H4.num
        subst hA0
        obtain ⟨x4, y4, -, -⟩ := H4.box
        obtain ⟨x5, y5, -, -⟩ := H5.box
        go_wp2_with fail
        clear x4 y4 x5 y5
        refine (div_zero s4 s5 a4 a5 0 c4 c5 (0) (by decide) w3 H4.num H5.num).mono ?_
        rintro e u1 ⟨rfl, hkeep⟩
        have hB := hB.trans (hkeep.mono hB.size)
        have H4 := H4.below hkeep
        have H5 := H5.below hkeep
        have H6 := H6.below hkeep
        have N1 := zero_num u1
        have N2 := zero_num u1
        obtain ⟨Z7, hZ7⟩ : ∃ Z, (u1.alloc (Obj.cells #[.bool false, .slice none 0 0] 26)).alloc (Obj.cells #[.bool false, .slice none 0 0] 26) = Z := ⟨_, rfl⟩
        obtain ⟨W7, hW7⟩ : ∃ W, (((Z7.setCell ⟨u1.heap.size, 0, none⟩ (.bool false)).setCell ⟨u1.heap.size, 1, none⟩ (.slice none 0 0)).setCell ⟨u1.heap.size + 1, 0, none⟩ (.bool false)).setCell ⟨u1.heap.size + 1, 1, none⟩ (.slice none 0 0) = W := ⟨_, rfl⟩
        obtain ⟨H7, H8, hkeep, bx, by', -⟩ := two_nums (c1 := 0) (c2 := 0) hZ7 hW7 N1 N2
        clear N1 N2
        obtain ⟨B7, hB7⟩ : ∃ B, u1.heap.size = B := ⟨_, rfl⟩
        have hB := hB.trans (hkeep.mono hB.size)
        have H4 := H4.below hkeep
        have H5 := H5.below hkeep
        have H6 := H6.below hkeep
        rw [hB7] at hW7 H7 H8 bx by'
        obtain ⟨bx0, bx1, bz0, bz1⟩ := bx
        obtain ⟨by0, by1, by2, by3⟩ := by'
        obtain ⟨x4, y4, -, -⟩ := H4.box
        obtain ⟨x5, y5, -, -⟩ := H5.box
        go_wp2_with fail
        clear x4 y4 x5 y5
        try rw [hW7]
        try rw [hB7]
        clear hW7 hB7
        clear hZ7
        clear bx0 bx1 bz0 bz1 by0 by1 by2 by3
        clear H7 H8
        refine (gcd_num s4 s5 a4 a5 0 0 c4 c5 (0) (0) (by decide) (by decide) W7 H4.num H5.num).mono ?_
        intro e u2 hpost
        obtain ⟨a14, c14, rfl, N, hkeep⟩ := hpost.lit false 0 (by decide) dlen_zero
        clear hpost
        have N : IsN u2 false a14 0 0 := N
        have hB := hB.trans (hkeep.mono hB.size)
        have H4 := H4.below hkeep
        have H5 := H5.below hkeep
        have H6 := H6.below hkeep
        have H14 := Held.new c14 N 26
        clear N
        have hB := hB.trans ((below_alloc u2 (Obj.cells #[.bool false, .slice a14 0 c14] 26)).mono hB.size)
        have hkeep := below_alloc u2 (Obj.cells #[.bool false, .slice a14 0 c14] 26)
        obtain ⟨W14, hW14⟩ : ∃ W, u2.alloc (Obj.cells #[.bool false, .slice a14 0 c14] 26) = W := ⟨_, rfl⟩
        obtain ⟨B14, hB14⟩ : ∃ B, u2.heap.size = B := ⟨_, rfl⟩
        rw [hW14] at hB hkeep H14
        rw [hB14] at H14
        have H4 := H4.below hkeep
        have H5 := H5.below hkeep
        have H6 := H6.below hkeep
        obtain ⟨x4, y4, -, -⟩ := H4.box
        obtain ⟨x5, y5, -, -⟩ := H5.box
        obtain ⟨x14, y14, -, -⟩ := H14.box
        have hkeep := below_alloc W14 (Obj.cells #[.bool s4, .slice a4 0 c4, .bool s5, .slice a5 0 c5] 26)
        have hB := hB.trans (hkeep.mono hB.size)
        have HL := Four.new W14 (.bool s4) (.slice a4 0 c4) (.bool s5) (.slice a5 0 c5) 26
        obtain ⟨VL, hVL⟩ : ∃ W, W14.alloc (Obj.cells #[.bool s4, .slice a4 0 c4, .bool s5, .slice a5 0 c5] 26) = W := ⟨_, rfl⟩
        obtain ⟨BL, hBL⟩ : ∃ B, W14.heap.size = B := ⟨_, rfl⟩
        rw [hVL] at hB hkeep HL
        rw [hBL] at HL
        have H4 := H4.below hkeep
        have H5 := H5.below hkeep
        have H6 := H6.below hkeep
        have H14 := H14.below hkeep
        go_wp2_with fail
        clear x4 y4 x5 y5 x14 y14
        try rw [hW14]
        try rw [hB14]
        clear hW14 hB14
        try rw [hVL]
        try rw [hBL]
        clear hVL hBL
        refine wp_loop_rounds 3 ?_
        rw [rounds_succ]
        have N := H4.num
        obtain ⟨l0, l1, l2, l3⟩ := id HL
        have H117 := Held.new c4 N 26
        clear N
        have hB := hB.trans ((below_alloc VL (Obj.cells #[.bool s4, .slice a4 0 c4] 26)).mono hB.size)
        have hkeep := below_alloc VL (Obj.cells #[.bool s4, .slice a4 0 c4] 26)
        obtain ⟨W117, hW117⟩ : ∃ W, VL.alloc (Obj.cells #[.bool s4, .slice a4 0 c4] 26) = W := ⟨_, rfl⟩
        obtain ⟨B117, hB117⟩ : ∃ B, VL.heap.size = B := ⟨_, rfl⟩
        rw [hW117] at hB hkeep H117
        rw [hB117] at H117
        have H4 := H4.below hkeep
        have H5 := H5.below hkeep
        have H6 := H6.below hkeep
        have H14 := H14.below hkeep
        have HL := HL.below hkeep
        obtain ⟨x117, y117, -, -⟩ := H117.box
        obtain ⟨x14, y14, -, -⟩ := H14.box
        go_wp2_with fail
        clear x117 y117 x14 y14
        clear l0 l1 l2 l3
        try rw [hW117]
        try rw [hB117]
        clear hW117 hB117
        refine (div_zero s4 false a4 a14 0 c4 c14 (0) (by decide) W117 H117.num H14.num).mono ?_
        rintro e u3 ⟨rfl, hkeep⟩
        have hB := hB.trans (hkeep.mono hB.size)
        have H4 := H4.below hkeep
        have H5 := H5.below hkeep
        have H6 := H6.below hkeep
        have H14 := H14.below hkeep
        have HL := HL.below hkeep
        have H117 := H117.below hkeep
        have N1 := zero_num u3
        have N2 := zero_num u3
        obtain ⟨Z118, hZ118⟩ : ∃ Z, (u3.alloc (Obj.cells #[.bool false, .slice none 0 0] 26)).alloc (Obj.cells #[.bool false, .slice none 0 0] 26) = Z := ⟨_, rfl⟩
        obtain ⟨W118, hW118⟩ : ∃ W, (((Z118.setCell ⟨u3.heap.size, 0, none⟩ (.bool false)).setCell ⟨u3.heap.size, 1, none⟩ (.slice none 0 0)).setCell ⟨u3.heap.size + 1, 0, none⟩ (.bool false)).setCell ⟨u3.heap.size + 1, 1, none⟩ (.slice none 0 0) = W := ⟨_, rfl⟩
        obtain ⟨H118, H119, hkeep, bx, by', -⟩ := two_nums (c1 := 0) (c2 := 0) hZ118 hW118 N1 N2
        clear N1 N2
        obtain ⟨B118, hB118⟩ : ∃ B, u3.heap.size = B := ⟨_, rfl⟩
        have hB := hB.trans (hkeep.mono hB.size)
        have H4 := H4.below hkeep
        have H5 := H5.below hkeep
        have H6 := H6.below hkeep
        have H14 := H14.below hkeep
        have HL := HL.below hkeep
        have H117 := H117.below hkeep
        rw [hB118] at hW118 H118 H119 bx by'
        obtain ⟨bx0, bx1, bz0, bz1⟩ := bx
        obtain ⟨by0, by1, by2, by3⟩ := by'
        obtain ⟨x14, y14, -, -⟩ := H14.box
        go_wp2_with fail
        clear x14 y14
        try rw [hW118]
        try rw [hB118]
        clear hW118 hB118
        clear hZ118
        clear bx0 bx1 bz0 bz1 by0 by1 by2 by3
        clear H117 H118 H119
        rw [rounds_succ]
        have N := H5.num
        obtain ⟨l0, l1, l2, l3⟩ := id HL
        have H217 := Held.new c5 N 26
        clear N
        have hB := hB.trans ((below_alloc W118 (Obj.cells #[.bool s5, .slice a5 0 c5] 26)).mono hB.size)
        have hkeep := below_alloc W118 (Obj.cells #[.bool s5, .slice a5 0 c5] 26)
        obtain ⟨W217, hW217⟩ : ∃ W, W118.alloc (Obj.cells #[.bool s5, .slice a5 0 c5] 26) = W := ⟨_, rfl⟩
        obtain ⟨B217, hB217⟩ : ∃ B, W118.heap.size = B := ⟨_, rfl⟩
        rw [hW217] at hB hkeep H217
        rw [hB217] at H217
        have H4 := H4.below hkeep
        have H5 := H5.below hkeep
        have H6 := H6.below hkeep
        have H14 := H14.below hkeep
        have HL := HL.below hkeep
        obtain ⟨x217, y217, -, -⟩ := H217.box
        obtain ⟨x14, y14, -, -⟩ := H14.box
        go_wp2_with fail
        clear x217 y217 x14 y14
        clear l0 l1 l2 l3
        try rw [hW217]
        try rw [hB217]
        clear hW217 hB217
        refine (div_zero s5 false a5 a14 0 c5 c14 (0) (by decide) W217 H217.num H14.num).mono ?_
        rintro e u4 ⟨rfl, hkeep⟩
        have hB := hB.trans (hkeep.mono hB.size)
        have H4 := H4.below hkeep
        have H5 := H5.below hkeep
        have H6 := H6.below hkeep
        have H14 := H14.below hkeep
        have HL := HL.below hkeep
        have H217 := H217.below hkeep
        have N1 := zero_num u4
        have N2 := zero_num u4
        obtain ⟨Z218, hZ218⟩ : ∃ Z, (u4.alloc (Obj.cells #[.bool false, .slice none 0 0] 26)).alloc (Obj.cells #[.bool false, .slice none 0 0] 26) = Z := ⟨_, rfl⟩
        obtain ⟨W218, hW218⟩ : ∃ W, (((Z218.setCell ⟨u4.heap.size, 0, none⟩ (.bool false)).setCell ⟨u4.heap.size, 1, none⟩ (.slice none 0 0)).setCell ⟨u4.heap.size + 1, 0, none⟩ (.bool false)).setCell ⟨u4.heap.size + 1, 1, none⟩ (.slice none 0 0) = W := ⟨_, rfl⟩
        obtain ⟨H218, H219, hkeep, bx, by', -⟩ := two_nums (c1 := 0) (c2 := 0) hZ218 hW218 N1 N2
        clear N1 N2
        obtain ⟨B218, hB218⟩ : ∃ B, u4.heap.size = B := ⟨_, rfl⟩
        have hB := hB.trans (hkeep.mono hB.size)
        have H4 := H4.below hkeep
        have H5 := H5.below hkeep
        have H6 := H6.below hkeep
        have H14 := H14.below hkeep
        have HL := HL.below hkeep
        have H217 := H217.below hkeep
        rw [hB218] at hW218 H218 H219 bx by'
        obtain ⟨bx0, bx1, bz0, bz1⟩ := bx
        obtain ⟨by0, by1, by2, by3⟩ := by'
        obtain ⟨x14, y14, -, -⟩ := H14.box
        go_wp2_with fail
        clear x14 y14
        try rw [hW218]
        try rw [hB218]
        clear hW218 hB218
        clear hZ218
        clear bx0 bx1 bz0 bz1 by0 by1 by2 by3
        clear H217 H218 H219
        clear HL
        rw [rounds_succ]
        obtain ⟨x4, y4, -, -⟩ := H4.box
        obtain ⟨x6, y6, -, -⟩ := H6.box
        go_wp2_with fail
        clear x4 y4 x6 y6
        refine (mul_any s4 s6 a4 a6 0 n6 c4 c6 (0) (C) (by decide) k6 W218 H4.num H6.num (fit_of (mul_lt qA.out qC.out) (by decide))).mono ?_
        rintro e u5 ⟨s21, a21, n21, c21, rfl, N, -, hkeep⟩
        have hB := hB.trans (hkeep.mono hB.size)
        have H4 := H4.below hkeep
        have H5 := H5.below hkeep
        have H6 := H6.below hkeep
        have H14 := H14.below hkeep
        have k21 : n21 ≤ 64 := by rw [N.dig.len]; exact (fit_of (mul_lt qA.out qC.out) (by decide))
        have H21 := Held.new c21 N 26
        clear N
        have hB := hB.trans ((below_alloc u5 (Obj.cells #[.bool s21, .slice a21 n21 c21] 26)).mono hB.size)
        have hkeep := below_alloc u5 (Obj.cells #[.bool s21, .slice a21 n21 c21] 26)
        obtain ⟨W21, hW21⟩ : ∃ W, u5.alloc (Obj.cells #[.bool s21, .slice a21 n21 c21] 26) = W := ⟨_, rfl⟩
        obtain ⟨B21, hB21⟩ : ∃ B, u5.heap.size = B := ⟨_, rfl⟩
        rw [hW21] at hB hkeep H21
        rw [hB21] at H21
        have H4 := H4.below hkeep
        have H5 := H5.below hkeep
        have H6 := H6.below hkeep
        have H14 := H14.below hkeep
        obtain ⟨x6, y6, -, -⟩ := H6.box
        obtain ⟨x5, y5, -, -⟩ := H5.box
        go_wp2_with fail
        clear x6 y6 x5 y5
        try rw [hW21]
        try rw [hB21]
        clear hW21 hB21
        refine (mul_any s6 s5 a6 a5 n6 0 c6 c5 (C) (0) k6 (by decide) W21 H6.num H5.num (fit_of (mul_lt qC.out qB.out) (by decide))).mono ?_
        rintro e u6 ⟨s23, a23, n23, c23, rfl, N, -, hkeep⟩
        have hB := hB.trans (hkeep.mono hB.size)
        have H4 := H4.below hkeep
        have H5 := H5.below hkeep
        have H6 := H6.below hkeep
        have H14 := H14.below hkeep
        have H21 := H21.below hkeep
        have k23 : n23 ≤ 64 := by rw [N.dig.len]; exact (fit_of (mul_lt qC.out qB.out) (by decide))
        have H23 := Held.new c23 N 26
        clear N
        have hB := hB.trans ((below_alloc u6 (Obj.cells #[.bool s23, .slice a23 n23 c23] 26)).mono hB.size)
        have hkeep := below_alloc u6 (Obj.cells #[.bool s23, .slice a23 n23 c23] 26)
        obtain ⟨W23, hW23⟩ : ∃ W, u6.alloc (Obj.cells #[.bool s23, .slice a23 n23 c23] 26) = W := ⟨_, rfl⟩
        obtain ⟨B23, hB23⟩ : ∃ B, u6.heap.size = B := ⟨_, rfl⟩
        rw [hW23] at hB hkeep H23
        rw [hB23] at H23
        have H4 := H4.below hkeep
        have H5 := H5.below hkeep
        have H6 := H6.below hkeep
        have H14 := H14.below hkeep
        have H21 := H21.below hkeep
        obtain ⟨x14, y14, -, -⟩ := H14.box
        obtain ⟨x6, y6, -, -⟩ := H6.box
        go_wp2_with fail
        clear x14 y14 x6 y6
        try rw [hW23]
        try rw [hB23]
        clear hW23 hB23
        have qN : Hid (((C.natAbs : Int)).natAbs < bp 6) := hide (by rw [Int.natAbs_natCast]; exact qC.out)
        refine (mul_any false false a14 a6 0 n6 c14 c6 (0) (C.natAbs : Int) (by decide) k6 W23 H14.num (abs_num H6.num) (fit_of (mul_lt qA.out qN.out) (by decide))).mono ?_
        rintro e u7 ⟨s25, a25, n25, c25, rfl, N, -, hkeep⟩
        have hB := hB.trans (hkeep.mono hB.size)
        have H4 := H4.below hkeep
        have H5 := H5.below hkeep
        have H6 := H6.below hkeep
        have H14 := H14.below hkeep
        have H21 := H21.below hkeep
        have H23 := H23.below hkeep
        have k25 : n25 ≤ 64 := by rw [N.dig.len]; exact (fit_of (mul_lt qA.out qN.out) (by decide))
        have H25 := Held.new c25 N 26
        clear N
        have hB := hB.trans ((below_alloc u7 (Obj.cells #[.bool s25, .slice a25 n25 c25] 26)).mono hB.size)
        have hkeep := below_alloc u7 (Obj.cells #[.bool s25, .slice a25 n25 c25] 26)
        obtain ⟨W25, hW25⟩ : ∃ W, u7.alloc (Obj.cells #[.bool s25, .slice a25 n25 c25] 26) = W := ⟨_, rfl⟩
        obtain ⟨B25, hB25⟩ : ∃ B, u7.heap.size = B := ⟨_, rfl⟩
        rw [hW25] at hB hkeep H25
        rw [hB25] at H25
        have H4 := H4.below hkeep
        have H5 := H5.below hkeep
        have H6 := H6.below hkeep
        have H14 := H14.below hkeep
        have H21 := H21.below hkeep
        have H23 := H23.below hkeep
        clear H4 H5 H6 H14
        obtain ⟨x21, y21, -, -⟩ := H21.box
        obtain ⟨x23, y23, -, -⟩ := H23.box
        go_wp2_with fail
        clear x21 y21 x23 y23
        try rw [hW25]
        try rw [hB25]
        clear hW25 hB25
        refine (gcd_num s21 s23 a21 a23 n21 n23 c21 c23 (0 * C) (C * 0) k21 k23 W25 H21.num H23.num).mono ?_
        rintro e u8 ⟨s27, a27, n27, c27, rfl, N, -, hkeep⟩
        have hB := hB.trans (hkeep.mono hB.size)
        have H21 := H21.below hkeep
        have H23 := H23.below hkeep
        have H25 := H25.below hkeep
        have k27 : n27 ≤ 64 := by rw [N.dig.len]; exact fit_of (gcd_lt (k := 12) (mul_lt qA.out qC.out) (mul_lt qC.out qB.out)) (by decide)
        have hs27 : s27 = false := N.sign.trans (gcd_sign _ _)
        subst hs27
        have H27 := Held.new c27 N 26
        clear N
        have hB := hB.trans ((below_alloc u8 (Obj.cells #[.bool false, .slice a27 n27 c27] 26)).mono hB.size)
        have hkeep := below_alloc u8 (Obj.cells #[.bool false, .slice a27 n27 c27] 26)
        obtain ⟨W27, hW27⟩ : ∃ W, u8.alloc (Obj.cells #[.bool false, .slice a27 n27 c27] 26) = W := ⟨_, rfl⟩
        obtain ⟨B27, hB27⟩ : ∃ B, u8.heap.size = B := ⟨_, rfl⟩
        rw [hW27] at hB hkeep H27
        rw [hB27] at H27
        have H21 := H21.below hkeep
        have H23 := H23.below hkeep
        have H25 := H25.below hkeep
        obtain ⟨x27, y27, -, -⟩ := H27.box
        obtain ⟨x25, y25, -, -⟩ := H25.box
        go_wp2_with fail
        clear x27 y27 x25 y25
        try rw [hW27]
        try rw [hB27]
        clear hW27 hB27
        refine (same_eq false s25 a27 a25 n27 n25 c27 c25 ((Int.gcd (0 * C) (C * 0) : Nat)) k27 W27 H27.num (eq_num (by simp) H25.num)).mono ?_
        rintro e u9 ⟨rfl, hkeep⟩
        have hB := hB.trans (hkeep.mono hB.size)
        have H21 := H21.below hkeep
        have H23 := H23.below hkeep
        have H25 := H25.below hkeep
        have H27 := H27.below hkeep
        go_wp2
        go_ret
        exact ⟨rfl, hB⟩
      · have hG : Hid (¬ Int.gcd A 0 = 0) := hide (fun e => num_pos H4.num h4 (Int.gcd_eq_zero_iff.1 e).1)
        obtain ⟨x4, y4, -, -⟩ := H4.box
        obtain ⟨x5, y5, -, -⟩ := H5.box
        go_wp2_with fail
        clear x4 y4 x5 y5
        refine (div_zero s4 s5 a4 a5 n4 c4 c5 (A) k4 w3 H4.num H5.num).mono ?_
        rintro e u1 ⟨rfl, hkeep⟩
        have hB := hB.trans (hkeep.mono hB.size)
        have H4 := H4.below hkeep
        have H5 := H5.below hkeep
        have H6 := H6.below hkeep
        have N1 := zero_num u1
        have N2 := zero_num u1
        obtain ⟨Z7, hZ7⟩ : ∃ Z, (u1.alloc (Obj.cells #[.bool false, .slice none 0 0] 26)).alloc (Obj.cells #[.bool false, .slice none 0 0] 26) = Z := ⟨_, rfl⟩
        obtain ⟨W7, hW7⟩ : ∃ W, (((Z7.setCell ⟨u1.heap.size, 0, none⟩ (.bool false)).setCell ⟨u1.heap.size, 1, none⟩ (.slice none 0 0)).setCell ⟨u1.heap.size + 1, 0, none⟩ (.bool false)).setCell ⟨u1.heap.size + 1, 1, none⟩ (.slice none 0 0) = W := ⟨_, rfl⟩
        obtain ⟨H7, H8, hkeep, bx, by', -⟩ := two_nums (c1 := 0) (c2 := 0) hZ7 hW7 N1 N2
        clear N1 N2
        obtain ⟨B7, hB7⟩ : ∃ B, u1.heap.size = B := ⟨_, rfl⟩
        have hB := hB.trans (hkeep.mono hB.size)
        have H4 := H4.below hkeep
        have H5 := H5.below hkeep
        have H6 := H6.below hkeep
        rw [hB7] at hW7 H7 H8 bx by'
        obtain ⟨bx0, bx1, bz0, bz1⟩ := bx
        obtain ⟨by0, by1, by2, by3⟩ := by'
        obtain ⟨x4, y4, -, -⟩ := H4.box
        obtain ⟨x5, y5, -, -⟩ := H5.box
        go_wp2_with fail
        clear x4 y4 x5 y5
        try rw [hW7]
        try rw [hB7]
        clear hW7 hB7
        clear hZ7
        clear bx0 bx1 bz0 bz1 by0 by1 by2 by3
        clear H7 H8
        refine (gcd_num s4 s5 a4 a5 n4 0 c4 c5 (A) (0) k4 (by decide) W7 H4.num H5.num).mono ?_
        rintro e u2 ⟨s14, a14, n14, c14, rfl, N, -, hkeep⟩
        have hB := hB.trans (hkeep.mono hB.size)
        have H4 := H4.below hkeep
        have H5 := H5.below hkeep
        have H6 := H6.below hkeep
        have k14 : n14 ≤ 64 := by rw [N.dig.len]; exact fit_of (gcd_lt qA.out qB.out) (by decide)
        have hs14 : s14 = false := N.sign.trans (gcd_sign _ _)
        subst hs14
        have H14 := Held.new c14 N 26
        clear N
        have hB := hB.trans ((below_alloc u2 (Obj.cells #[.bool false, .slice a14 n14 c14] 26)).mono hB.size)
        have hkeep := below_alloc u2 (Obj.cells #[.bool false, .slice a14 n14 c14] 26)
        obtain ⟨W14, hW14⟩ : ∃ W, u2.alloc (Obj.cells #[.bool false, .slice a14 n14 c14] 26) = W := ⟨_, rfl⟩
        obtain ⟨B14, hB14⟩ : ∃ B, u2.heap.size = B := ⟨_, rfl⟩
        rw [hW14] at hB hkeep H14
        rw [hB14] at H14
        have H4 := H4.below hkeep
        have H5 := H5.below hkeep
        have H6 := H6.below hkeep
        have p14 : Hid (0 < n14) := hide (by exact Nat.pos_of_ne_zero fun h => by subst h; exact hG.out (Int.ofNat.inj (num_zero H14.num)))
        have t14 : ((n14 : Int) == 0) = false := by have := p14.out; simp; omega
        have v14 : decide (0 < n14) = true := by have := p14.out; simp; omega
        obtain ⟨x4, y4, -, -⟩ := H4.box
        obtain ⟨x5, y5, -, -⟩ := H5.box
        obtain ⟨x14, y14, -, -⟩ := H14.box
        have hkeep := below_alloc W14 (Obj.cells #[.bool s4, .slice a4 n4 c4, .bool s5, .slice a5 0 c5] 26)
        have hB := hB.trans (hkeep.mono hB.size)
        have HL := Four.new W14 (.bool s4) (.slice a4 n4 c4) (.bool s5) (.slice a5 0 c5) 26
        obtain ⟨VL, hVL⟩ : ∃ W, W14.alloc (Obj.cells #[.bool s4, .slice a4 n4 c4, .bool s5, .slice a5 0 c5] 26) = W := ⟨_, rfl⟩
        obtain ⟨BL, hBL⟩ : ∃ B, W14.heap.size = B := ⟨_, rfl⟩
        rw [hVL] at hB hkeep HL
        rw [hBL] at HL
        have H4 := H4.below hkeep
        have H5 := H5.below hkeep
        have H6 := H6.below hkeep
        have H14 := H14.below hkeep
        go_wp2_with fail
        clear x4 y4 x5 y5 x14 y14
        try rw [hW14]
        try rw [hB14]
        clear hW14 hB14
        try rw [hVL]
        try rw [hBL]
        clear hVL hBL
        refine wp_loop_rounds 3 ?_
        rw [rounds_succ]
        have k117 := k4
        have N := H4.num
        obtain ⟨l0, l1, l2, l3⟩ := id HL
        have H117 := Held.new c4 N 26
        clear N
        have hB := hB.trans ((below_alloc VL (Obj.cells #[.bool s4, .slice a4 n4 c4] 26)).mono hB.size)
        have hkeep := below_alloc VL (Obj.cells #[.bool s4, .slice a4 n4 c4] 26)
        obtain ⟨W117, hW117⟩ : ∃ W, VL.alloc (Obj.cells #[.bool s4, .slice a4 n4 c4] 26) = W := ⟨_, rfl⟩
        obtain ⟨B117, hB117⟩ : ∃ B, VL.heap.size = B := ⟨_, rfl⟩
        rw [hW117] at hB hkeep H117
        rw [hB117] at H117
        have H4 := H4.below hkeep
        have H5 := H5.below hkeep
        have H6 := H6.below hkeep
        have H14 := H14.below hkeep
        have HL := HL.below hkeep
        obtain ⟨x117, y117, -, -⟩ := H117.box
        obtain ⟨x14, y14, -, -⟩ := H14.box
        go_wp2_with fail
        clear x117 y117 x14 y14
        clear l0 l1 l2 l3
        try rw [hW117]
        try rw [hB117]
        clear hW117 hB117
        refine (div_num s4 false a4 a14 n4 n14 c4 c14 (A) ((Int.gcd A 0 : Nat)) k117 k14 W117 H117.num H14.num p14.out).mono ?_
        rintro e u3 ⟨z118, z119, s118, a118, n118, c118, s119, a119, n119, c119, rfl, hq, hr0, hr1, N1, N2, -, -, k118, k119, hkeep⟩
        have hB := hB.trans (hkeep.mono hB.size)
        have H4 := H4.below hkeep
        have H5 := H5.below hkeep
        have H6 := H6.below hkeep
        have H14 := H14.below hkeep
        have HL := HL.below hkeep
        have H117 := H117.below hkeep
        have hz := div_rest hq hr0 hr1 (Int.gcd_dvd_left A 0)
        subst hz
        have hn := N2.dig.len.trans dlen_zero
        subst hn
        clear hq hr0 hr1
        obtain ⟨Z118, hZ118⟩ : ∃ Z, (u3.alloc (Obj.cells #[.bool false, .slice none 0 0] 26)).alloc (Obj.cells #[.bool false, .slice none 0 0] 26) = Z := ⟨_, rfl⟩
        obtain ⟨W118, hW118⟩ : ∃ W, (((Z118.setCell ⟨u3.heap.size, 0, none⟩ (.bool s118)).setCell ⟨u3.heap.size, 1, none⟩ (.slice a118 n118 c118)).setCell ⟨u3.heap.size + 1, 0, none⟩ (.bool s119)).setCell ⟨u3.heap.size + 1, 1, none⟩ (.slice a119 0 c119) = W := ⟨_, rfl⟩
        obtain ⟨H118, H119, hkeep, bx, by', -⟩ := two_nums (c1 := c118) (c2 := c119) hZ118 hW118 N1 N2
        clear N1 N2
        obtain ⟨B118, hB118⟩ : ∃ B, u3.heap.size = B := ⟨_, rfl⟩
        have hB := hB.trans (hkeep.mono hB.size)
        have H4 := H4.below hkeep
        have H5 := H5.below hkeep
        have H6 := H6.below hkeep
        have H14 := H14.below hkeep
        have HL := HL.below hkeep
        have H117 := H117.below hkeep
        rw [hB118] at hW118 H118 H119 bx by'
        obtain ⟨bx0, bx1, bz0, bz1⟩ := bx
        obtain ⟨by0, by1, by2, by3⟩ := by'
        obtain ⟨x14, y14, -, -⟩ := H14.box
        obtain ⟨x119, y119, -, -⟩ := H119.box
        go_wp2_with fail
        clear x14 y14 x119 y119
        try rw [hW118]
        try rw [hB118]
        clear hW118 hB118
        clear hZ118
        clear bx0 bx1 bz0 bz1 by0 by1 by2 by3
        clear H117 H118 H119
        rw [rounds_succ]
        have N := H5.num
        obtain ⟨l0, l1, l2, l3⟩ := id HL
        have H217 := Held.new c5 N 26
        clear N
        have hB := hB.trans ((below_alloc W118 (Obj.cells #[.bool s5, .slice a5 0 c5] 26)).mono hB.size)
        have hkeep := below_alloc W118 (Obj.cells #[.bool s5, .slice a5 0 c5] 26)
        obtain ⟨W217, hW217⟩ : ∃ W, W118.alloc (Obj.cells #[.bool s5, .slice a5 0 c5] 26) = W := ⟨_, rfl⟩
        obtain ⟨B217, hB217⟩ : ∃ B, W118.heap.size = B := ⟨_, rfl⟩
        rw [hW217] at hB hkeep H217
        rw [hB217] at H217
        have H4 := H4.below hkeep
        have H5 := H5.below hkeep
        have H6 := H6.below hkeep
        have H14 := H14.below hkeep
        have HL := HL.below hkeep
        obtain ⟨x217, y217, -, -⟩ := H217.box
        obtain ⟨x14, y14, -, -⟩ := H14.box
        go_wp2_with fail
        clear x217 y217 x14 y14
        clear l0 l1 l2 l3
        try rw [hW217]
        try rw [hB217]
        clear hW217 hB217
        have k217 : 0 ≤ 64 := by decide
        refine (div_num s5 false a5 a14 0 n14 c5 c14 (0) ((Int.gcd A 0 : Nat)) (by decide) k14 W217 H217.num H14.num p14.out).mono ?_
        rintro e u4 ⟨z218, z219, s218, a218, n218, c218, s219, a219, n219, c219, rfl, hq, hr0, hr1, N1, N2, -, -, k218, k219, hkeep⟩
        have hB := hB.trans (hkeep.mono hB.size)
        have H4 := H4.below hkeep
        have H5 := H5.below hkeep
        have H6 := H6.below hkeep
        have H14 := H14.below hkeep
        have HL := HL.below hkeep
        have H217 := H217.below hkeep
        have hz := div_rest hq hr0 hr1 (Int.gcd_dvd_right A 0)
        subst hz
        have hn := N2.dig.len.trans dlen_zero
        subst hn
        clear hq hr0 hr1
        obtain ⟨Z218, hZ218⟩ : ∃ Z, (u4.alloc (Obj.cells #[.bool false, .slice none 0 0] 26)).alloc (Obj.cells #[.bool false, .slice none 0 0] 26) = Z := ⟨_, rfl⟩
        obtain ⟨W218, hW218⟩ : ∃ W, (((Z218.setCell ⟨u4.heap.size, 0, none⟩ (.bool s218)).setCell ⟨u4.heap.size, 1, none⟩ (.slice a218 n218 c218)).setCell ⟨u4.heap.size + 1, 0, none⟩ (.bool s219)).setCell ⟨u4.heap.size + 1, 1, none⟩ (.slice a219 0 c219) = W := ⟨_, rfl⟩
        obtain ⟨H218, H219, hkeep, bx, by', -⟩ := two_nums (c1 := c218) (c2 := c219) hZ218 hW218 N1 N2
        clear N1 N2
        obtain ⟨B218, hB218⟩ : ∃ B, u4.heap.size = B := ⟨_, rfl⟩
        have hB := hB.trans (hkeep.mono hB.size)
        have H4 := H4.below hkeep
        have H5 := H5.below hkeep
        have H6 := H6.below hkeep
        have H14 := H14.below hkeep
        have HL := HL.below hkeep
        have H217 := H217.below hkeep
        rw [hB218] at hW218 H218 H219 bx by'
        obtain ⟨bx0, bx1, bz0, bz1⟩ := bx
        obtain ⟨by0, by1, by2, by3⟩ := by'
        obtain ⟨x14, y14, -, -⟩ := H14.box
        obtain ⟨x219, y219, -, -⟩ := H219.box
        go_wp2_with fail
        clear x14 y14 x219 y219
        try rw [hW218]
        try rw [hB218]
        clear hW218 hB218
        clear hZ218
        clear bx0 bx1 bz0 bz1 by0 by1 by2 by3
        clear H217 H218 H219
        clear HL
        rw [rounds_succ]
        obtain ⟨x4, y4, -, -⟩ := H4.box
        obtain ⟨x6, y6, -, -⟩ := H6.box
        go_wp2_with fail
        clear x4 y4 x6 y6
        refine (mul_any s4 s6 a4 a6 n4 n6 c4 c6 (A) (C) k4 k6 W218 H4.num H6.num (fit_of (mul_lt qA.out qC.out) (by decide))).mono ?_
        rintro e u5 ⟨s21, a21, n21, c21, rfl, N, -, hkeep⟩
        have hB := hB.trans (hkeep.mono hB.size)
        have H4 := H4.below hkeep
        have H5 := H5.below hkeep
        have H6 := H6.below hkeep
        have H14 := H14.below hkeep
        have k21 : n21 ≤ 64 := by rw [N.dig.len]; exact (fit_of (mul_lt qA.out qC.out) (by decide))
        have H21 := Held.new c21 N 26
        clear N
        have hB := hB.trans ((below_alloc u5 (Obj.cells #[.bool s21, .slice a21 n21 c21] 26)).mono hB.size)
        have hkeep := below_alloc u5 (Obj.cells #[.bool s21, .slice a21 n21 c21] 26)
        obtain ⟨W21, hW21⟩ : ∃ W, u5.alloc (Obj.cells #[.bool s21, .slice a21 n21 c21] 26) = W := ⟨_, rfl⟩
        obtain ⟨B21, hB21⟩ : ∃ B, u5.heap.size = B := ⟨_, rfl⟩
        rw [hW21] at hB hkeep H21
        rw [hB21] at H21
        have H4 := H4.below hkeep
        have H5 := H5.below hkeep
        have H6 := H6.below hkeep
        have H14 := H14.below hkeep
        obtain ⟨x6, y6, -, -⟩ := H6.box
        obtain ⟨x5, y5, -, -⟩ := H5.box
        go_wp2_with fail
        clear x6 y6 x5 y5
        try rw [hW21]
        try rw [hB21]
        clear hW21 hB21
        refine (mul_any s6 s5 a6 a5 n6 0 c6 c5 (C) (0) k6 (by decide) W21 H6.num H5.num (fit_of (mul_lt qC.out qB.out) (by decide))).mono ?_
        rintro e u6 ⟨s23, a23, n23, c23, rfl, N, -, hkeep⟩
        have hB := hB.trans (hkeep.mono hB.size)
        have H4 := H4.below hkeep
        have H5 := H5.below hkeep
        have H6 := H6.below hkeep
        have H14 := H14.below hkeep
        have H21 := H21.below hkeep
        have k23 : n23 ≤ 64 := by rw [N.dig.len]; exact (fit_of (mul_lt qC.out qB.out) (by decide))
        have H23 := Held.new c23 N 26
        clear N
        have hB := hB.trans ((below_alloc u6 (Obj.cells #[.bool s23, .slice a23 n23 c23] 26)).mono hB.size)
        have hkeep := below_alloc u6 (Obj.cells #[.bool s23, .slice a23 n23 c23] 26)
        obtain ⟨W23, hW23⟩ : ∃ W, u6.alloc (Obj.cells #[.bool s23, .slice a23 n23 c23] 26) = W := ⟨_, rfl⟩
        obtain ⟨B23, hB23⟩ : ∃ B, u6.heap.size = B := ⟨_, rfl⟩
        rw [hW23] at hB hkeep H23
        rw [hB23] at H23
        have H4 := H4.below hkeep
        have H5 := H5.below hkeep
        have H6 := H6.below hkeep
        have H14 := H14.below hkeep
        have H21 := H21.below hkeep
        obtain ⟨x14, y14, -, -⟩ := H14.box
        obtain ⟨x6, y6, -, -⟩ := H6.box
        go_wp2_with fail
        clear x14 y14 x6 y6
        try rw [hW23]
        try rw [hB23]
        clear hW23 hB23
        have qN : Hid (((C.natAbs : Int)).natAbs < bp 6) := hide (by rw [Int.natAbs_natCast]; exact qC.out)
        refine (mul_any false false a14 a6 n14 n6 c14 c6 ((Int.gcd A 0 : Nat)) (C.natAbs : Int) k14 k6 W23 H14.num (abs_num H6.num) (fit_of (mul_lt (gcd_lt qA.out qB.out) qN.out) (by decide))).mono ?_
        rintro e u7 ⟨s25, a25, n25, c25, rfl, N, -, hkeep⟩
        have hB := hB.trans (hkeep.mono hB.size)
        have H4 := H4.below hkeep
        have H5 := H5.below hkeep
        have H6 := H6.below hkeep
        have H14 := H14.below hkeep
        have H21 := H21.below hkeep
        have H23 := H23.below hkeep
        have k25 : n25 ≤ 64 := by rw [N.dig.len]; exact (fit_of (mul_lt (gcd_lt qA.out qB.out) qN.out) (by decide))
        have H25 := Held.new c25 N 26
        clear N
        have hB := hB.trans ((below_alloc u7 (Obj.cells #[.bool s25, .slice a25 n25 c25] 26)).mono hB.size)
        have hkeep := below_alloc u7 (Obj.cells #[.bool s25, .slice a25 n25 c25] 26)
        obtain ⟨W25, hW25⟩ : ∃ W, u7.alloc (Obj.cells #[.bool s25, .slice a25 n25 c25] 26) = W := ⟨_, rfl⟩
        obtain ⟨B25, hB25⟩ : ∃ B, u7.heap.size = B := ⟨_, rfl⟩
        rw [hW25] at hB hkeep H25
        rw [hB25] at H25
        have H4 := H4.below hkeep
        have H5 := H5.below hkeep
        have H6 := H6.below hkeep
        have H14 := H14.below hkeep
        have H21 := H21.below hkeep
        have H23 := H23.below hkeep
        clear H4 H5 H6 H14
        obtain ⟨x21, y21, -, -⟩ := H21.box
        obtain ⟨x23, y23, -, -⟩ := H23.box
        go_wp2_with fail
        clear x21 y21 x23 y23
        try rw [hW25]
        try rw [hB25]
        clear hW25 hB25
        refine (gcd_num s21 s23 a21 a23 n21 n23 c21 c23 (A * C) (C * 0) k21 k23 W25 H21.num H23.num).mono ?_
        rintro e u8 ⟨s27, a27, n27, c27, rfl, N, -, hkeep⟩
        have hB := hB.trans (hkeep.mono hB.size)
        have H21 := H21.below hkeep
        have H23 := H23.below hkeep
        have H25 := H25.below hkeep
        have k27 : n27 ≤ 64 := by rw [N.dig.len]; exact fit_of (gcd_lt (k := 12) (mul_lt qA.out qC.out) (mul_lt qC.out qB.out)) (by decide)
        have hs27 : s27 = false := N.sign.trans (gcd_sign _ _)
        subst hs27
        have H27 := Held.new c27 N 26
        clear N
        have hB := hB.trans ((below_alloc u8 (Obj.cells #[.bool false, .slice a27 n27 c27] 26)).mono hB.size)
        have hkeep := below_alloc u8 (Obj.cells #[.bool false, .slice a27 n27 c27] 26)
        obtain ⟨W27, hW27⟩ : ∃ W, u8.alloc (Obj.cells #[.bool false, .slice a27 n27 c27] 26) = W := ⟨_, rfl⟩
        obtain ⟨B27, hB27⟩ : ∃ B, u8.heap.size = B := ⟨_, rfl⟩
        rw [hW27] at hB hkeep H27
        rw [hB27] at H27
        have H21 := H21.below hkeep
        have H23 := H23.below hkeep
        have H25 := H25.below hkeep
        obtain ⟨x27, y27, -, -⟩ := H27.box
        obtain ⟨x25, y25, -, -⟩ := H25.box
        go_wp2_with fail
        clear x27 y27 x25 y25
        try rw [hW27]
        try rw [hB27]
        clear hW27 hB27
        refine (same_eq false s25 a27 a25 n27 n25 c27 c25 ((Int.gcd (A * C) (C * 0) : Nat)) k27 W27 H27.num (eq_num (gcd_scale A 0 C).symm H25.num)).mono ?_
        rintro e u9 ⟨rfl, hkeep⟩
        have hB := hB.trans (hkeep.mono hB.size)
        have H21 := H21.below hkeep
        have H23 := H23.below hkeep
        have H25 := H25.below hkeep
        have H27 := H27.below hkeep
        go_wp2
        go_ret
        exact ⟨rfl, hB⟩
    · have p5 : Hid (0 < n5) := hide (by omega)
      have hG : Hid (¬ Int.gcd A B = 0) := hide (fun e => num_pos H5.num h5 (Int.gcd_eq_zero_iff.1 e).2)
      have t5 : decide (0 < n5) = true := by simp; omega
      obtain ⟨x4, y4, -, -⟩ := H4.box
      obtain ⟨x5, y5, -, -⟩ := H5.box
      go_wp2_with fail
      clear x4 y4 x5 y5
      refine (div_num s4 s5 a4 a5 n4 n5 c4 c5 (A) (B) k4 k5 w3 H4.num H5.num p5.out).mono ?_
      rintro e u1 ⟨z7, z8, s7, a7, n7, c7, s8, a8, n8, c8, rfl, hq, hr0, hr1, N1, N2, -, -, k7, k8, hkeep⟩
      have hB := hB.trans (hkeep.mono hB.size)
      have H4 := H4.below hkeep
      have H5 := H5.below hkeep
      have H6 := H6.below hkeep
      have hs8 : s8 = false := by rw [N2.sign]; simp; omega
      subst hs8
      have hA := hide hq
      have hR := hide (And.intro hr0 hr1)
      clear hq hr0 hr1
      obtain ⟨Z7, hZ7⟩ : ∃ Z, (u1.alloc (Obj.cells #[.bool false, .slice none 0 0] 26)).alloc (Obj.cells #[.bool false, .slice none 0 0] 26) = Z := ⟨_, rfl⟩
      obtain ⟨W7, hW7⟩ : ∃ W, (((Z7.setCell ⟨u1.heap.size, 0, none⟩ (.bool s7)).setCell ⟨u1.heap.size, 1, none⟩ (.slice a7 n7 c7)).setCell ⟨u1.heap.size + 1, 0, none⟩ (.bool false)).setCell ⟨u1.heap.size + 1, 1, none⟩ (.slice a8 n8 c8) = W := ⟨_, rfl⟩
      obtain ⟨H7, H8, hkeep, bx, by', -⟩ := two_nums (c1 := c7) (c2 := c8) hZ7 hW7 N1 N2
      clear N1 N2
      obtain ⟨B7, hB7⟩ : ∃ B, u1.heap.size = B := ⟨_, rfl⟩
      have hB := hB.trans (hkeep.mono hB.size)
      have H4 := H4.below hkeep
      have H5 := H5.below hkeep
      have H6 := H6.below hkeep
      rw [hB7] at hW7 H7 H8 bx by'
      obtain ⟨bx0, bx1, bz0, bz1⟩ := bx
      obtain ⟨by0, by1, by2, by3⟩ := by'
      have q10 := hide (quot_lt qA.out qB.out hA.out hR.out.1 hR.out.2)
      obtain ⟨x7, y7, -, -⟩ := H7.box
      obtain ⟨x5, y5, -, -⟩ := H5.box
      go_wp2_with fail
      clear x7 y7 x5 y5
      try rw [hW7]
      try rw [hB7]
      clear hW7 hB7
      clear hZ7
      clear bx0 bx1 bz0 bz1 by0 by1 by2 by3
      refine (mul_any s7 s5 a7 a5 n7 n5 c7 c5 (z7) (B) k7 k5 W7 H7.num H5.num (fit_of q10.out (by decide))).mono ?_
      rintro e u2 ⟨s10, a10, n10, c10, rfl, N, -, hkeep⟩
      have hB := hB.trans (hkeep.mono hB.size)
      have H4 := H4.below hkeep
      have H5 := H5.below hkeep
      have H6 := H6.below hkeep
      have H7 := H7.below hkeep
      have H8 := H8.below hkeep
      have k10 : n10 ≤ 64 := by rw [N.dig.len]; exact (fit_of q10.out (by decide))
      have H10 := Held.new c10 N 26
      clear N
      have hB := hB.trans ((below_alloc u2 (Obj.cells #[.bool s10, .slice a10 n10 c10] 26)).mono hB.size)
      have hkeep := below_alloc u2 (Obj.cells #[.bool s10, .slice a10 n10 c10] 26)
      obtain ⟨W10, hW10⟩ : ∃ W, u2.alloc (Obj.cells #[.bool s10, .slice a10 n10 c10] 26) = W := ⟨_, rfl⟩
      obtain ⟨B10, hB10⟩ : ∃ B, u2.heap.size = B := ⟨_, rfl⟩
      rw [hW10] at hB hkeep H10
      rw [hB10] at H10
      have H4 := H4.below hkeep
      have H5 := H5.below hkeep
      have H6 := H6.below hkeep
      have H7 := H7.below hkeep
      have H8 := H8.below hkeep
      obtain ⟨x10, y10, -, -⟩ := H10.box
      obtain ⟨x8, y8, -, -⟩ := H8.box
      go_wp2_with fail
      clear x10 y10 x8 y8
      try rw [hW10]
      try rw [hB10]
      clear hW10 hB10
      refine (add_any s10 false a10 a8 n10 n8 c10 c8 (z7 * B) (z8) k10 k8 W10 H10.num H8.num (by rw [← hA.out]; exact fit_of qA.out (by decide))).mono ?_
      rintro e u3 ⟨s12, a12, n12, c12, rfl, N, -, hkeep⟩
      have hB := hB.trans (hkeep.mono hB.size)
      have H4 := H4.below hkeep
      have H5 := H5.below hkeep
      have H6 := H6.below hkeep
      have H7 := H7.below hkeep
      have H8 := H8.below hkeep
      have H10 := H10.below hkeep
      have k12 : n12 ≤ 64 := by rw [N.dig.len]; exact (by rw [← hA.out]; exact fit_of qA.out (by decide))
      have H12 := Held.new c12 N 26
      clear N
      have hB := hB.trans ((below_alloc u3 (Obj.cells #[.bool s12, .slice a12 n12 c12] 26)).mono hB.size)
      have hkeep := below_alloc u3 (Obj.cells #[.bool s12, .slice a12 n12 c12] 26)
      obtain ⟨W12, hW12⟩ : ∃ W, u3.alloc (Obj.cells #[.bool s12, .slice a12 n12 c12] 26) = W := ⟨_, rfl⟩
      obtain ⟨B12, hB12⟩ : ∃ B, u3.heap.size = B := ⟨_, rfl⟩
      rw [hW12] at hB hkeep H12
      rw [hB12] at H12
      have H4 := H4.below hkeep
      have H5 := H5.below hkeep
      have H6 := H6.below hkeep
      have H7 := H7.below hkeep
      have H8 := H8.below hkeep
      have H10 := H10.below hkeep
      obtain ⟨x12, y12, -, -⟩ := H12.box
      obtain ⟨x4, y4, -, -⟩ := H4.box
      go_wp2_with fail
      clear x12 y12 x4 y4
      try rw [hW12]
      try rw [hB12]
      clear hW12 hB12
      refine (same_eq s12 s4 a12 a4 n12 n4 c12 c4 (z7 * B + z8) k12 W12 H12.num (eq_num hA.out.symm H4.num)).mono ?_
      rintro e u4 ⟨rfl, hkeep⟩
      have hB := hB.trans (hkeep.mono hB.size)
      have H4 := H4.below hkeep
      have H5 := H5.below hkeep
      have H6 := H6.below hkeep
      have H7 := H7.below hkeep
      have H8 := H8.below hkeep
      have H10 := H10.below hkeep
      have H12 := H12.below hkeep
      obtain ⟨x8, y8, -, -⟩ := H8.box
      obtain ⟨x5, y5, -, -⟩ := H5.box
      go_wp2_with fail
      clear x8 y8 x5 y5
      refine (cmp_any false false a8 a5 n8 n5 c8 c5 z8 (B.natAbs : Int) k8 k5 u4 H8.num (abs_num H5.num)).mono ?_
      rintro e u5 ⟨rfl, hkeep⟩
      have hB := hB.trans (hkeep.mono hB.size)
      have H4 := H4.below hkeep
      have H5 := H5.below hkeep
      have H6 := H6.below hkeep
      have H7 := H7.below hkeep
      have H8 := H8.below hkeep
      have H10 := H10.below hkeep
      have H12 := H12.below hkeep
      rw [cmp_rest hR.out.2]
      obtain ⟨x7, y7, -, -⟩ := H7.box
      go_wp2_with fail
      clear x7 y7
      refine (right_yes s7 a7 n7 c7 z7 k7 u5 H7.num).mono ?_
      rintro e u6 ⟨rfl, hkeep⟩
      have hB := hB.trans (hkeep.mono hB.size)
      have H4 := H4.below hkeep
      have H5 := H5.below hkeep
      have H6 := H6.below hkeep
      have H7 := H7.below hkeep
      have H8 := H8.below hkeep
      have H10 := H10.below hkeep
      have H12 := H12.below hkeep
      obtain ⟨x8, y8, -, -⟩ := H8.box
      go_wp2_with fail
      clear x8 y8
      refine (right_yes false a8 n8 c8 z8 k8 u6 H8.num).mono ?_
      rintro e u7 ⟨rfl, hkeep⟩
      have hB := hB.trans (hkeep.mono hB.size)
      have H4 := H4.below hkeep
      have H5 := H5.below hkeep
      have H6 := H6.below hkeep
      have H7 := H7.below hkeep
      have H8 := H8.below hkeep
      have H10 := H10.below hkeep
      have H12 := H12.below hkeep
      clear H7 H8 H10 H12
      obtain ⟨x4, y4, -, -⟩ := H4.box
      obtain ⟨x5, y5, -, -⟩ := H5.box
      go_wp2_with fail
      clear x4 y4 x5 y5
      refine (gcd_num s4 s5 a4 a5 n4 n5 c4 c5 (A) (B) k4 k5 u7 H4.num H5.num).mono ?_
      rintro e u8 ⟨s14, a14, n14, c14, rfl, N, -, hkeep⟩
      have hB := hB.trans (hkeep.mono hB.size)
      have H4 := H4.below hkeep
      have H5 := H5.below hkeep
      have H6 := H6.below hkeep
      have k14 : n14 ≤ 64 := by rw [N.dig.len]; exact fit_of (gcd_lt qA.out qB.out) (by decide)
      have hs14 : s14 = false := N.sign.trans (gcd_sign _ _)
      subst hs14
      have H14 := Held.new c14 N 26
      clear N
      have hB := hB.trans ((below_alloc u8 (Obj.cells #[.bool false, .slice a14 n14 c14] 26)).mono hB.size)
      have hkeep := below_alloc u8 (Obj.cells #[.bool false, .slice a14 n14 c14] 26)
      obtain ⟨W14, hW14⟩ : ∃ W, u8.alloc (Obj.cells #[.bool false, .slice a14 n14 c14] 26) = W := ⟨_, rfl⟩
      obtain ⟨B14, hB14⟩ : ∃ B, u8.heap.size = B := ⟨_, rfl⟩
      rw [hW14] at hB hkeep H14
      rw [hB14] at H14
      have H4 := H4.below hkeep
      have H5 := H5.below hkeep
      have H6 := H6.below hkeep
      have p14 : Hid (0 < n14) := hide (by exact Nat.pos_of_ne_zero fun h => by subst h; exact hG.out (Int.ofNat.inj (num_zero H14.num)))
      have t14 : ((n14 : Int) == 0) = false := by have := p14.out; simp; omega
      have v14 : decide (0 < n14) = true := by have := p14.out; simp; omega
      obtain ⟨x4, y4, -, -⟩ := H4.box
      obtain ⟨x5, y5, -, -⟩ := H5.box
      obtain ⟨x14, y14, -, -⟩ := H14.box
      have hkeep := below_alloc W14 (Obj.cells #[.bool s4, .slice a4 n4 c4, .bool s5, .slice a5 n5 c5] 26)
      have hB := hB.trans (hkeep.mono hB.size)
      have HL := Four.new W14 (.bool s4) (.slice a4 n4 c4) (.bool s5) (.slice a5 n5 c5) 26
      obtain ⟨VL, hVL⟩ : ∃ W, W14.alloc (Obj.cells #[.bool s4, .slice a4 n4 c4, .bool s5, .slice a5 n5 c5] 26) = W := ⟨_, rfl⟩
      obtain ⟨BL, hBL⟩ : ∃ B, W14.heap.size = B := ⟨_, rfl⟩
      rw [hVL] at hB hkeep HL
      rw [hBL] at HL
      have H4 := H4.below hkeep
      have H5 := H5.below hkeep
      have H6 := H6.below hkeep
      have H14 := H14.below hkeep
      go_wp2_with fail
      clear x4 y4 x5 y5 x14 y14
      try rw [hW14]
      try rw [hB14]
      clear hW14 hB14
      try rw [hVL]
      try rw [hBL]
      clear hVL hBL
      refine wp_loop_rounds 3 ?_
      rw [rounds_succ]
      have k117 := k4
      have N := H4.num
      obtain ⟨l0, l1, l2, l3⟩ := id HL
      have H117 := Held.new c4 N 26
      clear N
      have hB := hB.trans ((below_alloc VL (Obj.cells #[.bool s4, .slice a4 n4 c4] 26)).mono hB.size)
      have hkeep := below_alloc VL (Obj.cells #[.bool s4, .slice a4 n4 c4] 26)
      obtain ⟨W117, hW117⟩ : ∃ W, VL.alloc (Obj.cells #[.bool s4, .slice a4 n4 c4] 26) = W := ⟨_, rfl⟩
      obtain ⟨B117, hB117⟩ : ∃ B, VL.heap.size = B := ⟨_, rfl⟩
      rw [hW117] at hB hkeep H117
      rw [hB117] at H117
      have H4 := H4.below hkeep
      have H5 := H5.below hkeep
      have H6 := H6.below hkeep
      have H14 := H14.below hkeep
      have HL := HL.below hkeep
      obtain ⟨x117, y117, -, -⟩ := H117.box
      obtain ⟨x14, y14, -, -⟩ := H14.box
      go_wp2_with fail
      clear x117 y117 x14 y14
      clear l0 l1 l2 l3
      try rw [hW117]
      try rw [hB117]
      clear hW117 hB117
      refine (div_num s4 false a4 a14 n4 n14 c4 c14 (A) ((Int.gcd A B : Nat)) k117 k14 W117 H117.num H14.num p14.out).mono ?_
      rintro e u9 ⟨z118, z119, s118, a118, n118, c118, s119, a119, n119, c119, rfl, hq, hr0, hr1, N1, N2, -, -, k118, k119, hkeep⟩
      have hB := hB.trans (hkeep.mono hB.size)
      have H4 := H4.below hkeep
      have H5 := H5.below hkeep
      have H6 := H6.below hkeep
      have H14 := H14.below hkeep
      have HL := HL.below hkeep
      have H117 := H117.below hkeep
      have hz := div_rest hq hr0 hr1 (Int.gcd_dvd_left A B)
      subst hz
      have hn := N2.dig.len.trans dlen_zero
      subst hn
      clear hq hr0 hr1
      obtain ⟨Z118, hZ118⟩ : ∃ Z, (u9.alloc (Obj.cells #[.bool false, .slice none 0 0] 26)).alloc (Obj.cells #[.bool false, .slice none 0 0] 26) = Z := ⟨_, rfl⟩
      obtain ⟨W118, hW118⟩ : ∃ W, (((Z118.setCell ⟨u9.heap.size, 0, none⟩ (.bool s118)).setCell ⟨u9.heap.size, 1, none⟩ (.slice a118 n118 c118)).setCell ⟨u9.heap.size + 1, 0, none⟩ (.bool s119)).setCell ⟨u9.heap.size + 1, 1, none⟩ (.slice a119 0 c119) = W := ⟨_, rfl⟩
      obtain ⟨H118, H119, hkeep, bx, by', -⟩ := two_nums (c1 := c118) (c2 := c119) hZ118 hW118 N1 N2
      clear N1 N2
      obtain ⟨B118, hB118⟩ : ∃ B, u9.heap.size = B := ⟨_, rfl⟩
      have hB := hB.trans (hkeep.mono hB.size)
      have H4 := H4.below hkeep
      have H5 := H5.below hkeep
      have H6 := H6.below hkeep
      have H14 := H14.below hkeep
      have HL := HL.below hkeep
      have H117 := H117.below hkeep
      rw [hB118] at hW118 H118 H119 bx by'
      obtain ⟨bx0, bx1, bz0, bz1⟩ := bx
      obtain ⟨by0, by1, by2, by3⟩ := by'
      obtain ⟨x14, y14, -, -⟩ := H14.box
      obtain ⟨x119, y119, -, -⟩ := H119.box
      go_wp2_with fail
      clear x14 y14 x119 y119
      try rw [hW118]
      try rw [hB118]
      clear hW118 hB118
      clear hZ118
      clear bx0 bx1 bz0 bz1 by0 by1 by2 by3
      clear H117 H118 H119
      rw [rounds_succ]
      have k217 := k5
      have N := H5.num
      obtain ⟨l0, l1, l2, l3⟩ := id HL
      have H217 := Held.new c5 N 26
      clear N
      have hB := hB.trans ((below_alloc W118 (Obj.cells #[.bool s5, .slice a5 n5 c5] 26)).mono hB.size)
      have hkeep := below_alloc W118 (Obj.cells #[.bool s5, .slice a5 n5 c5] 26)
      obtain ⟨W217, hW217⟩ : ∃ W, W118.alloc (Obj.cells #[.bool s5, .slice a5 n5 c5] 26) = W := ⟨_, rfl⟩
      obtain ⟨B217, hB217⟩ : ∃ B, W118.heap.size = B := ⟨_, rfl⟩
      rw [hW217] at hB hkeep H217
      rw [hB217] at H217
      have H4 := H4.below hkeep
      have H5 := H5.below hkeep
      have H6 := H6.below hkeep
      have H14 := H14.below hkeep
      have HL := HL.below hkeep
      obtain ⟨x217, y217, -, -⟩ := H217.box
      obtain ⟨x14, y14, -, -⟩ := H14.box
      go_wp2_with fail
      clear x217 y217 x14 y14
      clear l0 l1 l2 l3
      try rw [hW217]
      try rw [hB217]
      clear hW217 hB217
      refine (div_num s5 false a5 a14 n5 n14 c5 c14 (B) ((Int.gcd A B : Nat)) k217 k14 W217 H217.num H14.num p14.out).mono ?_
      rintro e u10 ⟨z218, z219, s218, a218, n218, c218, s219, a219, n219, c219, rfl, hq, hr0, hr1, N1, N2, -, -, k218, k219, hkeep⟩
      have hB := hB.trans (hkeep.mono hB.size)
      have H4 := H4.below hkeep
      have H5 := H5.below hkeep
      have H6 := H6.below hkeep
      have H14 := H14.below hkeep
      have HL := HL.below hkeep
      have H217 := H217.below hkeep
      have hz := div_rest hq hr0 hr1 (Int.gcd_dvd_right A B)
      subst hz
      have hn := N2.dig.len.trans dlen_zero
      subst hn
      clear hq hr0 hr1
      obtain ⟨Z218, hZ218⟩ : ∃ Z, (u10.alloc (Obj.cells #[.bool false, .slice none 0 0] 26)).alloc (Obj.cells #[.bool false, .slice none 0 0] 26) = Z := ⟨_, rfl⟩
      obtain ⟨W218, hW218⟩ : ∃ W, (((Z218.setCell ⟨u10.heap.size, 0, none⟩ (.bool s218)).setCell ⟨u10.heap.size, 1, none⟩ (.slice a218 n218 c218)).setCell ⟨u10.heap.size + 1, 0, none⟩ (.bool s219)).setCell ⟨u10.heap.size + 1, 1, none⟩ (.slice a219 0 c219) = W := ⟨_, rfl⟩
      obtain ⟨H218, H219, hkeep, bx, by', -⟩ := two_nums (c1 := c218) (c2 := c219) hZ218 hW218 N1 N2
      clear N1 N2
      obtain ⟨B218, hB218⟩ : ∃ B, u10.heap.size = B := ⟨_, rfl⟩
      have hB := hB.trans (hkeep.mono hB.size)
      have H4 := H4.below hkeep
      have H5 := H5.below hkeep
      have H6 := H6.below hkeep
      have H14 := H14.below hkeep
      have HL := HL.below hkeep
      have H217 := H217.below hkeep
      rw [hB218] at hW218 H218 H219 bx by'
      obtain ⟨bx0, bx1, bz0, bz1⟩ := bx
      obtain ⟨by0, by1, by2, by3⟩ := by'
      obtain ⟨x14, y14, -, -⟩ := H14.box
      obtain ⟨x219, y219, -, -⟩ := H219.box
      go_wp2_with fail
      clear x14 y14 x219 y219
      try rw [hW218]
      try rw [hB218]
      clear hW218 hB218
      clear hZ218
      clear bx0 bx1 bz0 bz1 by0 by1 by2 by3
      clear H217 H218 H219
      clear HL
      rw [rounds_succ]
      obtain ⟨x4, y4, -, -⟩ := H4.box
      obtain ⟨x6, y6, -, -⟩ := H6.box
      go_wp2_with fail
      clear x4 y4 x6 y6
      refine (mul_any s4 s6 a4 a6 n4 n6 c4 c6 (A) (C) k4 k6 W218 H4.num H6.num (fit_of (mul_lt qA.out qC.out) (by decide))).mono ?_
      rintro e u11 ⟨s21, a21, n21, c21, rfl, N, -, hkeep⟩
      have hB := hB.trans (hkeep.mono hB.size)
      have H4 := H4.below hkeep
      have H5 := H5.below hkeep
      have H6 := H6.below hkeep
      have H14 := H14.below hkeep
      have k21 : n21 ≤ 64 := by rw [N.dig.len]; exact (fit_of (mul_lt qA.out qC.out) (by decide))
      have H21 := Held.new c21 N 26
      clear N
      have hB := hB.trans ((below_alloc u11 (Obj.cells #[.bool s21, .slice a21 n21 c21] 26)).mono hB.size)
      have hkeep := below_alloc u11 (Obj.cells #[.bool s21, .slice a21 n21 c21] 26)
      obtain ⟨W21, hW21⟩ : ∃ W, u11.alloc (Obj.cells #[.bool s21, .slice a21 n21 c21] 26) = W := ⟨_, rfl⟩
      obtain ⟨B21, hB21⟩ : ∃ B, u11.heap.size = B := ⟨_, rfl⟩
      rw [hW21] at hB hkeep H21
      rw [hB21] at H21
      have H4 := H4.below hkeep
      have H5 := H5.below hkeep
      have H6 := H6.below hkeep
      have H14 := H14.below hkeep
      obtain ⟨x6, y6, -, -⟩ := H6.box
      obtain ⟨x5, y5, -, -⟩ := H5.box
      go_wp2_with fail
      clear x6 y6 x5 y5
      try rw [hW21]
      try rw [hB21]
      clear hW21 hB21
      refine (mul_any s6 s5 a6 a5 n6 n5 c6 c5 (C) (B) k6 k5 W21 H6.num H5.num (fit_of (mul_lt qC.out qB.out) (by decide))).mono ?_
      rintro e u12 ⟨s23, a23, n23, c23, rfl, N, -, hkeep⟩
      have hB := hB.trans (hkeep.mono hB.size)
      have H4 := H4.below hkeep
      have H5 := H5.below hkeep
      have H6 := H6.below hkeep
      have H14 := H14.below hkeep
      have H21 := H21.below hkeep
      have k23 : n23 ≤ 64 := by rw [N.dig.len]; exact (fit_of (mul_lt qC.out qB.out) (by decide))
      have H23 := Held.new c23 N 26
      clear N
      have hB := hB.trans ((below_alloc u12 (Obj.cells #[.bool s23, .slice a23 n23 c23] 26)).mono hB.size)
      have hkeep := below_alloc u12 (Obj.cells #[.bool s23, .slice a23 n23 c23] 26)
      obtain ⟨W23, hW23⟩ : ∃ W, u12.alloc (Obj.cells #[.bool s23, .slice a23 n23 c23] 26) = W := ⟨_, rfl⟩
      obtain ⟨B23, hB23⟩ : ∃ B, u12.heap.size = B := ⟨_, rfl⟩
      rw [hW23] at hB hkeep H23
      rw [hB23] at H23
      have H4 := H4.below hkeep
      have H5 := H5.below hkeep
      have H6 := H6.below hkeep
      have H14 := H14.below hkeep
      have H21 := H21.below hkeep
      obtain ⟨x14, y14, -, -⟩ := H14.box
      obtain ⟨x6, y6, -, -⟩ := H6.box
      go_wp2_with fail
      clear x14 y14 x6 y6
      try rw [hW23]
      try rw [hB23]
      clear hW23 hB23
      have qN : Hid (((C.natAbs : Int)).natAbs < bp 6) := hide (by rw [Int.natAbs_natCast]; exact qC.out)
      refine (mul_any false false a14 a6 n14 n6 c14 c6 ((Int.gcd A B : Nat)) (C.natAbs : Int) k14 k6 W23 H14.num (abs_num H6.num) (fit_of (mul_lt (gcd_lt qA.out qB.out) qN.out) (by decide))).mono ?_
      rintro e u13 ⟨s25, a25, n25, c25, rfl, N, -, hkeep⟩
      have hB := hB.trans (hkeep.mono hB.size)
      have H4 := H4.below hkeep
      have H5 := H5.below hkeep
      have H6 := H6.below hkeep
      have H14 := H14.below hkeep
      have H21 := H21.below hkeep
      have H23 := H23.below hkeep
      have k25 : n25 ≤ 64 := by rw [N.dig.len]; exact (fit_of (mul_lt (gcd_lt qA.out qB.out) qN.out) (by decide))
      have H25 := Held.new c25 N 26
      clear N
      have hB := hB.trans ((below_alloc u13 (Obj.cells #[.bool s25, .slice a25 n25 c25] 26)).mono hB.size)
      have hkeep := below_alloc u13 (Obj.cells #[.bool s25, .slice a25 n25 c25] 26)
      obtain ⟨W25, hW25⟩ : ∃ W, u13.alloc (Obj.cells #[.bool s25, .slice a25 n25 c25] 26) = W := ⟨_, rfl⟩
      obtain ⟨B25, hB25⟩ : ∃ B, u13.heap.size = B := ⟨_, rfl⟩
      rw [hW25] at hB hkeep H25
      rw [hB25] at H25
      have H4 := H4.below hkeep
      have H5 := H5.below hkeep
      have H6 := H6.below hkeep
      have H14 := H14.below hkeep
      have H21 := H21.below hkeep
      have H23 := H23.below hkeep
      clear H4 H5 H6 H14
      obtain ⟨x21, y21, -, -⟩ := H21.box
      obtain ⟨x23, y23, -, -⟩ := H23.box
      go_wp2_with fail
      clear x21 y21 x23 y23
      try rw [hW25]
      try rw [hB25]
      clear hW25 hB25
      refine (gcd_num s21 s23 a21 a23 n21 n23 c21 c23 (A * C) (C * B) k21 k23 W25 H21.num H23.num).mono ?_
      rintro e u14 ⟨s27, a27, n27, c27, rfl, N, -, hkeep⟩
      have hB := hB.trans (hkeep.mono hB.size)
      have H21 := H21.below hkeep
      have H23 := H23.below hkeep
      have H25 := H25.below hkeep
      have k27 : n27 ≤ 64 := by rw [N.dig.len]; exact fit_of (gcd_lt (k := 12) (mul_lt qA.out qC.out) (mul_lt qC.out qB.out)) (by decide)
      have hs27 : s27 = false := N.sign.trans (gcd_sign _ _)
      subst hs27
      have H27 := Held.new c27 N 26
      clear N
      have hB := hB.trans ((below_alloc u14 (Obj.cells #[.bool false, .slice a27 n27 c27] 26)).mono hB.size)
      have hkeep := below_alloc u14 (Obj.cells #[.bool false, .slice a27 n27 c27] 26)
      obtain ⟨W27, hW27⟩ : ∃ W, u14.alloc (Obj.cells #[.bool false, .slice a27 n27 c27] 26) = W := ⟨_, rfl⟩
      obtain ⟨B27, hB27⟩ : ∃ B, u14.heap.size = B := ⟨_, rfl⟩
      rw [hW27] at hB hkeep H27
      rw [hB27] at H27
      have H21 := H21.below hkeep
      have H23 := H23.below hkeep
      have H25 := H25.below hkeep
      obtain ⟨x27, y27, -, -⟩ := H27.box
      obtain ⟨x25, y25, -, -⟩ := H25.box
      go_wp2_with fail
      clear x27 y27 x25 y25
      try rw [hW27]
      try rw [hB27]
      clear hW27 hB27
      refine (same_eq false s25 a27 a25 n27 n25 c27 c25 ((Int.gcd (A * C) (C * B) : Nat)) k27 W27 H27.num (eq_num (gcd_scale A B C).symm H25.num)).mono ?_
      rintro e u15 ⟨rfl, hkeep⟩
      have hB := hB.trans (hkeep.mono hB.size)
      have H21 := H21.below hkeep
      have H23 := H23.below hkeep
      have H25 := H25.below hkeep
      have H27 := H27.below hkeep
      go_wp2
      go_ret
      exact ⟨rfl, hB⟩
end Go.Proofs.YtamibmikbbjjbaaGreatDoor
