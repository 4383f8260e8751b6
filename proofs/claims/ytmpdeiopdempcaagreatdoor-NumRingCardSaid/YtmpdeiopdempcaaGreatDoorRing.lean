/- the law NumRing: it is true. -/
import Derived.Test.YtmpdeiopdempcaaGreatDoorSanity
import Derived.Test.YtmpdeiopdempcaaGreatDoorFan
import Derived.Test.YtmpdeiopdempcaaGreatDoorRingM
namespace Go.Proofs.YtmpdeiopdempcaaGreatDoor
open Go.RowKit Go.Shelf

/-- what the region leaves of one variable -/
theorem Fan.held {K : Nat} {w0 w : World} {U V : Nat → Value} {B : Nat → Nat} {s : Nat → Bool} {a : Nat → Option Addr} {n c : Nat → Nat} {z : Nat → Int} (h : Fan K w0 (fun _ => true) (fun _ => true) (fun _ => true) U V B s a n c z w) {k : Nat} (hk : k < K) :
    ∃ (b : Nat) (s' : Bool) (a' : Option Addr) (n' c' : Nat) (z' : Int), U k = .pointer (some ⟨b, 0, none⟩) ∧ Held w b s' a' n' c' z' ∧ n' ≤ 6 ∧ w0.heap.size ≤ b :=
  ⟨B k, s k, a k, n k, c k, z k, (h.var k hk rfl).1, ⟨h.box1 k hk rfl rfl, (h.num k hk rfl).2.1⟩, (h.num k hk rfl).2.2.1, (h.var k hk rfl).2⟩
theorem IsN.drew {w : World} {s : Bool} {a : Option Addr} {n : Nat} {z : Int} (h : IsN w s a n z) : IsN w.drew s a n z := h.below (Below.drew (Below.refl _ _))

set_option maxRecDepth 100000 in
set_option maxHeartbeats 16000000 in
theorem ring_true (x0 x1 x2 : Option Addr) (L0 L1 L2 d0 d1 d2 : Nat) (g0 g1 g2 : Nat → Int) (hL0 : L0 ≤ 9223372036854775807) (hL1 : L1 ≤ 9223372036854775807) (hL2 : L2 ≤ 9223372036854775807) (w : World) (ht : Pow10 w) (h0 : Ints w x0 L0 g0) (h1 : Ints w x1 L1 g1) (h2 : Ints w x2 L2 g2) :
    Calls Tryz.prog 6 #[.agg #[.slice x0 L0 d0, .slice x1 L1 d1, .slice x2 L2 d2]] w fun e w' => e = .returned (.bool true) ∧ Below w.heap.size w w' := by
  go_enter Tryz.func6, Tryz.ntmps6
  go_wp2_with fail
  have hB := below_alloc w (Obj.cells #[.slice x0 L0 d0, .slice x1 L1 d1, .slice x2 L2 d2] 45)
  have k0 : (w.alloc (Obj.cells #[.slice x0 L0 d0, .slice x1 L1 d1, .slice x2 L2 d2] 45)).cell? ⟨w.heap.size, 0, none⟩ = some (.slice x0 L0 d0) := by simp [go_sem]
  have k1 : (w.alloc (Obj.cells #[.slice x0 L0 d0, .slice x1 L1 d1, .slice x2 L2 d2] 45)).cell? ⟨w.heap.size, 1, none⟩ = some (.slice x1 L1 d1) := by simp [go_sem]
  have k2 : (w.alloc (Obj.cells #[.slice x0 L0 d0, .slice x1 L1 d1, .slice x2 L2 d2] 45)).cell? ⟨w.heap.size, 2, none⟩ = some (.slice x2 L2 d2) := by simp [go_sem]
  obtain ⟨W0, hW0⟩ : ∃ W0, w.alloc (Obj.cells #[.slice x0 L0 d0, .slice x1 L1 d1, .slice x2 L2 d2] 45) = W0 := ⟨_, rfl⟩
  rw [hW0] at hB k0 k1 k2 ⊢
  clear hW0
  refine (sanity_true W0 (ht.below hB)).mono ?_
  rintro e w1 ⟨rfl, hkeep⟩
  have hB1 := hB.trans (hkeep.mono hB.size)
  have k0 := (hkeep.cell (p := ⟨w.heap.size, 0, none⟩) (lt_of_cell k0)).trans k0
  have k1 := (hkeep.cell (p := ⟨w.heap.size, 1, none⟩) (lt_of_cell k1)).trans k1
  have k2 := (hkeep.cell (p := ⟨w.heap.size, 2, none⟩) (lt_of_cell k2)).trans k2
  clear hB hkeep
  go_wp2_with fail
  have hB2 : Below w.heap.size w w1.drew := hB1.drew
  have k0 : w1.drew.cell? ⟨w.heap.size, 0, none⟩ = some (.slice x0 L0 d0) := k0
  have k1 : w1.drew.cell? ⟨w.heap.size, 1, none⟩ = some (.slice x1 L1 d1) := k1
  have k2 : w1.drew.cell? ⟨w.heap.size, 2, none⟩ = some (.slice x2 L2 d2) := k2
  have l0 := h0.below (hB2.mono (Nat.le_refl _))
  have l1 := h1.below (hB2.mono (Nat.le_refl _))
  have l2 := h2.below (hB2.mono (Nat.le_refl _))
  refine wp_region_held_drew (S := fun w' => Below w1.drew.heap.size w1.drew w') (by kernel_rfl) (Below.refl _ _) (fun hHeld => ?_)
  obtain ⟨WD, hWD⟩ : ∃ WD, w1.drew = WD := ⟨_, rfl⟩
  rw [hWD] at hB2 k0 k1 k2 l0 l1 l2 hHeld ⊢
  clear hWD hB1
  have hlt := lt_of_cell k0
  refine take_at (i := 0) (v := .pointer (some ⟨w.heap.size, 0, none⟩)) 34 rfl rfl (by kernel_rfl) (by kernel_rfl) (by kernel_rfl) (fun _ _ _ h => h) (Or.inl ⟨by rfl, fun w' hSw => by go_simp⟩) (by assumption) ?_
  simp only [Act.put, List.setIfInBounds_toArray, List.set_cons_zero, List.set_cons_succ]
  refine take_at (i := 1) (v := .slice x0 L0 d0) 35 rfl rfl (by kernel_rfl) (by kernel_rfl) (by kernel_rfl) (fun _ _ _ h => h) (Or.inl ⟨by rfl, fun w' hSw => by have q := (hSw.cell (p := ⟨w.heap.size, 0, none⟩) hlt).trans k0; go_simp⟩) (by assumption) ?_
  simp only [Act.put, List.setIfInBounds_toArray, List.set_cons_zero, List.set_cons_succ]
  refine take_at (i := 3) (v := .pointer (some ⟨w.heap.size, 1, none⟩)) 37 rfl rfl (by kernel_rfl) (by kernel_rfl) (by kernel_rfl) (fun _ _ _ h => h) (Or.inl ⟨by rfl, fun w' hSw => by go_simp⟩) (by assumption) ?_
  simp only [Act.put, List.setIfInBounds_toArray, List.set_cons_zero, List.set_cons_succ]
  refine take_at (i := 4) (v := .slice x1 L1 d1) 38 rfl rfl (by kernel_rfl) (by kernel_rfl) (by kernel_rfl) (fun _ _ _ h => h) (Or.inl ⟨by rfl, fun w' hSw => by have q := (hSw.cell (p := ⟨w.heap.size, 1, none⟩) hlt).trans k1; go_simp⟩) (by assumption) ?_
  simp only [Act.put, List.setIfInBounds_toArray, List.set_cons_zero, List.set_cons_succ]
  refine take_at (i := 6) (v := .pointer (some ⟨w.heap.size, 2, none⟩)) 40 rfl rfl (by kernel_rfl) (by kernel_rfl) (by kernel_rfl) (fun _ _ _ h => h) (Or.inl ⟨by rfl, fun w' hSw => by go_simp⟩) (by assumption) ?_
  simp only [Act.put, List.setIfInBounds_toArray, List.set_cons_zero, List.set_cons_succ]
  refine take_at (i := 7) (v := .slice x2 L2 d2) 41 rfl rfl (by kernel_rfl) (by kernel_rfl) (by kernel_rfl) (fun _ _ _ h => h) (Or.inl ⟨by rfl, fun w' hSw => by have q := (hSw.cell (p := ⟨w.heap.size, 2, none⟩) hlt).trans k2; go_simp⟩) (by assumption) ?_
  simp only [Act.put, List.setIfInBounds_toArray, List.set_cons_zero, List.set_cons_succ]
  refine fan 3 27 (fun U V => ⟨#[.agg #[.slice x0 L0 d0, .slice x1 L1 d1, .slice x2 L2 d2], .pointer (some ⟨w.heap.size, 0, none⟩), .bool false, .bool true, U 0, U 1, U 2, undef, undef, undef, undef, undef, undef, undef, undef, undef, undef, undef, undef, undef, undef, undef, undef, undef, undef, undef, undef, undef, undef, undef, undef, undef, undef, .bool true, .pointer (some ⟨w.heap.size, 0, none⟩), .slice x0 L0 d0, V 0, .pointer (some ⟨w.heap.size, 1, none⟩), .slice x1 L1 d1, V 1, .pointer (some ⟨w.heap.size, 2, none⟩), .slice x2 L2 d2, V 2, undef, undef, undef, undef, undef, undef, undef, undef, undef, undef, undef, undef, undef, undef, undef, undef, undef, undef, undef, undef, undef, undef, undef, undef, undef, undef, undef, undef, undef, undef, undef, undef, undef, undef, undef, undef, undef, undef, undef, undef, undef, undef, undef, undef, undef, undef, undef, undef, undef, undef, undef, undef, undef, undef, undef, undef, undef, undef, undef, undef, undef, undef, undef, undef, undef, undef, undef, undef, undef, undef, undef, undef, undef, undef, undef, undef, undef, undef, undef, undef, undef, undef, undef, undef, undef, undef, undef, undef, undef, undef, undef, undef, undef, undef, undef, undef, undef, undef, undef, undef, undef, undef, undef, undef, undef, undef, undef, undef, undef, undef, undef, undef, undef, undef, undef, undef, undef, undef, undef, undef, undef, undef, undef, undef, undef, undef, undef, undef, undef, undef, undef, undef, undef, undef, undef, undef, undef, undef, undef, undef, undef, undef, undef, undef, undef, undef, undef, undef, undef, undef, undef, undef, undef, undef, undef, undef, undef, undef, undef, undef, undef, undef, undef, undef, undef, undef, undef, undef, undef, undef, undef, undef, undef, undef, undef, undef, undef], []⟩) WD (by kernel_rfl) (topo_of (by kernel_rfl)) (dep_of (by kernel_rfl)) ?hal ?hcl ?hst ?hend (fun _ => undef) (fun _ => undef) _ _ (by kernel_rfl) (of_decide_eq_true (by kernel_rfl)) (of_decide_eq_true (by kernel_rfl)) (of_decide_eq_true (by kernel_rfl))
  case hal =>
    intro k U V w' H hk h
    match k, hk with
    | 0, _ =>
      refine wpOp_run (i := 9) rfl ?_
      go_simp
      exact h
    | 1, _ =>
      refine wpOp_run (i := 10) rfl ?_
      go_simp
      exact h
    | 2, _ =>
      refine wpOp_run (i := 11) rfl ?_
      go_simp
      exact h
  case hcl =>
    intro k U V w' H hk hb h
    match k, hk with
    | 0, _ =>
      refine wpOp_call (i := 2) (f := 10) (args := #[.slice x0 L0 d0]) 36 rfl rfl (by rfl) (by go_simp) ?_
      refine (made_any x0 L0 d0 g0 hL0 w' (l0.below hb)).mono ?_
      rintro e w2 ⟨z, s, a, n, c, rfl, hN, h6, hf, hg⟩
      exact ⟨_, rfl, h z s a n c w2 hN h6 hf hg⟩
    | 1, _ =>
      refine wpOp_call (i := 5) (f := 10) (args := #[.slice x1 L1 d1]) 39 rfl rfl (by rfl) (by go_simp) ?_
      refine (made_any x1 L1 d1 g1 hL1 w' (l1.below hb)).mono ?_
      rintro e w2 ⟨z, s, a, n, c, rfl, hN, h6, hf, hg⟩
      exact ⟨_, rfl, h z s a n c w2 hN h6 hf hg⟩
    | 2, _ =>
      refine wpOp_call (i := 8) (f := 10) (args := #[.slice x2 L2 d2]) 42 rfl rfl (by rfl) (by go_simp) ?_
      refine (made_any x2 L2 d2 g2 hL2 w' (l2.below hb)).mono ?_
      rintro e w2 ⟨z, s, a, n, c, rfl, hN, h6, hf, hg⟩
      exact ⟨_, rfl, h z s a n c w2 hN h6 hf hg⟩
  case hst =>
    intro k U V w' H B s a n c hk hU hV hbox h
    obtain ⟨v0, v1, hbox⟩ := hbox
    obtain ⟨q0, q1, z0, z1⟩ := hbox
    match k, hk with
    | 0, _ =>
      refine wpOp_run (i := 12) rfl ?_
      simp only [hU, hV] at h ⊢
      go_simp
      exact h
    | 1, _ =>
      refine wpOp_run (i := 13) rfl ?_
      simp only [hU, hV] at h ⊢
      go_simp
      exact h
    | 2, _ =>
      refine wpOp_run (i := 14) rfl ?_
      simp only [hU, hV] at h ⊢
      go_simp
      exact h
  case hend =>
    intro U V fB fs fa fn fc fz w3 hF
    obtain ⟨B4, s4, a4, n4, c4, A, hU0, H4, m4, b4⟩ := hF.held (k := 0) (by decide)
    obtain ⟨B5, s5, a5, n5, c5, B, hU1, H5, m5, b5⟩ := hF.held (k := 1) (by decide)
    obtain ⟨B6, s6, a6, n6, c6, C, hU2, H6, m6, b6⟩ := hF.held (k := 2) (by decide)
    have hB := hB2.trans (hF.below.mono hB2.size)
    clear hF
    rw [hU0, hU1, hU2]
    clear hU0 hU1 hU2 k0 k1 k2 l0 l1 l2 b4 b5 b6 hHeld hB2 hlt
    have qA := num_lt H4.num m4
    have qB := num_lt H5.num m5
    have qC := num_lt H6.num m6
    have qN : ((C.natAbs : Int)).natAbs < bp 6 := by rw [Int.natAbs_natCast]; exact qC
    have q7 := add_lt qA qB
    have q11 := mul_lt q7 qC
    have q13 := mul_lt qC qA
    have q15 := mul_lt qB qC
    have q17 := add_lt q13 q15
    have F7 := fit_of q7 (by decide)
    have F9 := fit_of (add_lt qB qA) (by decide)
    have F11 := fit_of q11 (by decide)
    have F13 := fit_of q13 (by decide)
    have F15 := fit_of q15 (by decide)
    have F17 := fit_of q17 (by decide)
    have F19 := fit_of (sub_lt q7 (lt_mono qB (by decide : 6 ≤ 7))) (by decide)
    have F21 := fit_of (sub_lt q11 q17) (by decide)
    have F23 := fit_of (add_lt qA qC) (by decide)
    have F25 := fit_of (add_lt qB qC) (by decide)
    have F28 := fit_of (mul_lt qA qN) (by decide)
    have F30 := fit_of (mul_lt qB qN) (by decide)
    have e21 : (A + B) * C - (C * A + B * C) = 0 := by rw [ring_dist]; exact Int.sub_self _
    have E21 : Hid (decide ((A + B) * C - (C * A + B * C) < 0) = false ∧ dlen ((A + B) * C - (C * A + B * C)).natAbs = 0) := by rw [e21]; exact ⟨rfl, dlen_zero⟩
    clear e21 qN q7 q11 q13 q15 q17 qA qB qC
    have k4 : n4 ≤ 64 := by omega
    have k5 : n5 ≤ 64 := by omega
    have k6 : n6 ≤ 64 := by omega
    have ho := cmpZ_bd A B
    have HO1 := hide (cmpZ_swap A B)
    have HO2 := hide (cmpZ_add A B C)
    have HO3 : Hid (C ≠ 0 → cmpZ (A * (C.natAbs : Int)) (B * (C.natAbs : Int)) = cmpZ A B) := fun h => cmpZ_mul A B (by omega)
    obtain ⟨o, ho'⟩ : ∃ o, cmpZ A B = o := ⟨_, rfl⟩
    rw [ho'] at ho HO1 HO2 HO3
    have HO := hide ho'
    obtain ⟨ho0, ho1⟩ := ho
    clear ho' m4 m5 m6
    obtain ⟨x4, y4, -, -⟩ := H4.box
    obtain ⟨x5, y5, -, -⟩ := H5.box
    go_wp2_with fail
    clear x4 y4 x5 y5
    refine (add_any s4 s5 a4 a5 n4 n5 c4 c5 (A) (B) k4 k5 w3 H4.num H5.num F7).mono ?_
    rintro e u1 ⟨s7, a7, n7, c7, rfl, N, -, hkeep⟩
    have hB := hB.trans (hkeep.mono hB.size)
    have H4 := H4.below hkeep
    have H5 := H5.below hkeep
    have H6 := H6.below hkeep
    have k7 : n7 ≤ 64 := by rw [N.dig.len]; exact F7
    have H7 := Held.new c7 N 27
    clear N
    have hB := hB.trans ((below_alloc u1 (Obj.cells #[.bool s7, .slice a7 n7 c7] 27)).mono hB.size)
    have hkeep := below_alloc u1 (Obj.cells #[.bool s7, .slice a7 n7 c7] 27)
    obtain ⟨W7, hW7⟩ : ∃ W, u1.alloc (Obj.cells #[.bool s7, .slice a7 n7 c7] 27) = W := ⟨_, rfl⟩
    obtain ⟨B7, hB7⟩ : ∃ B, u1.heap.size = B := ⟨_, rfl⟩
    rw [hW7] at hB hkeep H7
    rw [hB7] at H7
    have H4 := H4.below hkeep
    have H5 := H5.below hkeep
    have H6 := H6.below hkeep
    obtain ⟨x5, y5, -, -⟩ := H5.box
    obtain ⟨x4, y4, -, -⟩ := H4.box
    go_wp2_with fail
    clear x5 y5 x4 y4
    try rw [hW7]
    try rw [hB7]
    clear hW7 hB7
    refine (add_any s5 s4 a5 a4 n5 n4 c5 c4 (B) (A) k5 k4 W7 H5.num H4.num F9).mono ?_
    rintro e u2 ⟨s9, a9, n9, c9, rfl, N, -, hkeep⟩
    have hB := hB.trans (hkeep.mono hB.size)
    have H4 := H4.below hkeep
    have H5 := H5.below hkeep
    have H6 := H6.below hkeep
    have H7 := H7.below hkeep
    have k9 : n9 ≤ 64 := by rw [N.dig.len]; exact F9
    have H9 := Held.new c9 N 27
    clear N
    have hB := hB.trans ((below_alloc u2 (Obj.cells #[.bool s9, .slice a9 n9 c9] 27)).mono hB.size)
    have hkeep := below_alloc u2 (Obj.cells #[.bool s9, .slice a9 n9 c9] 27)
    obtain ⟨W9, hW9⟩ : ∃ W, u2.alloc (Obj.cells #[.bool s9, .slice a9 n9 c9] 27) = W := ⟨_, rfl⟩
    obtain ⟨B9, hB9⟩ : ∃ B, u2.heap.size = B := ⟨_, rfl⟩
    rw [hW9] at hB hkeep H9
    rw [hB9] at H9
    have H4 := H4.below hkeep
    have H5 := H5.below hkeep
    have H6 := H6.below hkeep
    have H7 := H7.below hkeep
    obtain ⟨x7, y7, -, -⟩ := H7.box
    obtain ⟨x6, y6, -, -⟩ := H6.box
    go_wp2_with fail
    clear x7 y7 x6 y6
    try rw [hW9]
    try rw [hB9]
    clear hW9 hB9
    refine (mul_any s7 s6 a7 a6 n7 n6 c7 c6 (A + B) (C) k7 k6 W9 H7.num H6.num F11).mono ?_
    rintro e u3 ⟨s11, a11, n11, c11, rfl, N, -, hkeep⟩
    have hB := hB.trans (hkeep.mono hB.size)
    have H4 := H4.below hkeep
    have H5 := H5.below hkeep
    have H6 := H6.below hkeep
    have H7 := H7.below hkeep
    have H9 := H9.below hkeep
    have k11 : n11 ≤ 64 := by rw [N.dig.len]; exact F11
    have H11 := Held.new c11 N 27
    clear N
    have hB := hB.trans ((below_alloc u3 (Obj.cells #[.bool s11, .slice a11 n11 c11] 27)).mono hB.size)
    have hkeep := below_alloc u3 (Obj.cells #[.bool s11, .slice a11 n11 c11] 27)
    obtain ⟨W11, hW11⟩ : ∃ W, u3.alloc (Obj.cells #[.bool s11, .slice a11 n11 c11] 27) = W := ⟨_, rfl⟩
    obtain ⟨B11, hB11⟩ : ∃ B, u3.heap.size = B := ⟨_, rfl⟩
    rw [hW11] at hB hkeep H11
    rw [hB11] at H11
    have H4 := H4.below hkeep
    have H5 := H5.below hkeep
    have H6 := H6.below hkeep
    have H7 := H7.below hkeep
    have H9 := H9.below hkeep
    obtain ⟨x6, y6, -, -⟩ := H6.box
    obtain ⟨x4, y4, -, -⟩ := H4.box
    go_wp2_with fail
    clear x6 y6 x4 y4
    try rw [hW11]
    try rw [hB11]
    clear hW11 hB11
    refine (mul_any s6 s4 a6 a4 n6 n4 c6 c4 (C) (A) k6 k4 W11 H6.num H4.num F13).mono ?_
    rintro e u4 ⟨s13, a13, n13, c13, rfl, N, -, hkeep⟩
    have hB := hB.trans (hkeep.mono hB.size)
    have H4 := H4.below hkeep
    have H5 := H5.below hkeep
    have H6 := H6.below hkeep
    have H7 := H7.below hkeep
    have H9 := H9.below hkeep
    have H11 := H11.below hkeep
    have k13 : n13 ≤ 64 := by rw [N.dig.len]; exact F13
    have H13 := Held.new c13 N 27
    clear N
    have hB := hB.trans ((below_alloc u4 (Obj.cells #[.bool s13, .slice a13 n13 c13] 27)).mono hB.size)
    have hkeep := below_alloc u4 (Obj.cells #[.bool s13, .slice a13 n13 c13] 27)
    obtain ⟨W13, hW13⟩ : ∃ W, u4.alloc (Obj.cells #[.bool s13, .slice a13 n13 c13] 27) = W := ⟨_, rfl⟩
    obtain ⟨B13, hB13⟩ : ∃ B, u4.heap.size = B := ⟨_, rfl⟩
    rw [hW13] at hB hkeep H13
    rw [hB13] at H13
    have H4 := H4.below hkeep
    have H5 := H5.below hkeep
    have H6 := H6.below hkeep
    have H7 := H7.below hkeep
    have H9 := H9.below hkeep
    have H11 := H11.below hkeep
    obtain ⟨x5, y5, -, -⟩ := H5.box
    obtain ⟨x6, y6, -, -⟩ := H6.box
    go_wp2_with fail
    clear x5 y5 x6 y6
    try rw [hW13]
    try rw [hB13]
    clear hW13 hB13
    refine (mul_any s5 s6 a5 a6 n5 n6 c5 c6 (B) (C) k5 k6 W13 H5.num H6.num F15).mono ?_
    rintro e u5 ⟨s15, a15, n15, c15, rfl, N, -, hkeep⟩
    have hB := hB.trans (hkeep.mono hB.size)
    have H4 := H4.below hkeep
    have H5 := H5.below hkeep
    have H6 := H6.below hkeep
    have H7 := H7.below hkeep
    have H9 := H9.below hkeep
    have H11 := H11.below hkeep
    have H13 := H13.below hkeep
    have k15 : n15 ≤ 64 := by rw [N.dig.len]; exact F15
    have H15 := Held.new c15 N 27
    clear N
    have hB := hB.trans ((below_alloc u5 (Obj.cells #[.bool s15, .slice a15 n15 c15] 27)).mono hB.size)
    have hkeep := below_alloc u5 (Obj.cells #[.bool s15, .slice a15 n15 c15] 27)
    obtain ⟨W15, hW15⟩ : ∃ W, u5.alloc (Obj.cells #[.bool s15, .slice a15 n15 c15] 27) = W := ⟨_, rfl⟩
    obtain ⟨B15, hB15⟩ : ∃ B, u5.heap.size = B := ⟨_, rfl⟩
    rw [hW15] at hB hkeep H15
    rw [hB15] at H15
    have H4 := H4.below hkeep
    have H5 := H5.below hkeep
    have H6 := H6.below hkeep
    have H7 := H7.below hkeep
    have H9 := H9.below hkeep
    have H11 := H11.below hkeep
    have H13 := H13.below hkeep
    obtain ⟨x13, y13, -, -⟩ := H13.box
    obtain ⟨x15, y15, -, -⟩ := H15.box
    go_wp2_with fail
    clear x13 y13 x15 y15
    try rw [hW15]
    try rw [hB15]
    clear hW15 hB15
    refine (add_any s13 s15 a13 a15 n13 n15 c13 c15 (C * A) (B * C) k13 k15 W15 H13.num H15.num F17).mono ?_
    rintro e u6 ⟨s17, a17, n17, c17, rfl, N, -, hkeep⟩
    have hB := hB.trans (hkeep.mono hB.size)
    have H4 := H4.below hkeep
    have H5 := H5.below hkeep
    have H6 := H6.below hkeep
    have H7 := H7.below hkeep
    have H9 := H9.below hkeep
    have H11 := H11.below hkeep
    have H13 := H13.below hkeep
    have H15 := H15.below hkeep
    have k17 : n17 ≤ 64 := by rw [N.dig.len]; exact F17
    have H17 := Held.new c17 N 27
    clear N
    have hB := hB.trans ((below_alloc u6 (Obj.cells #[.bool s17, .slice a17 n17 c17] 27)).mono hB.size)
    have hkeep := below_alloc u6 (Obj.cells #[.bool s17, .slice a17 n17 c17] 27)
    obtain ⟨W17, hW17⟩ : ∃ W, u6.alloc (Obj.cells #[.bool s17, .slice a17 n17 c17] 27) = W := ⟨_, rfl⟩
    obtain ⟨B17, hB17⟩ : ∃ B, u6.heap.size = B := ⟨_, rfl⟩
    rw [hW17] at hB hkeep H17
    rw [hB17] at H17
    have H4 := H4.below hkeep
    have H5 := H5.below hkeep
    have H6 := H6.below hkeep
    have H7 := H7.below hkeep
    have H9 := H9.below hkeep
    have H11 := H11.below hkeep
    have H13 := H13.below hkeep
    have H15 := H15.below hkeep
    obtain ⟨x7, y7, -, -⟩ := H7.box
    obtain ⟨x5, y5, -, -⟩ := H5.box
    go_wp2_with fail
    clear x7 y7 x5 y5
    try rw [hW17]
    try rw [hB17]
    clear hW17 hB17
    refine (sub_any s7 s5 a7 a5 n7 n5 c7 c5 (A + B) (B) k7 k5 W17 H7.num H5.num F19).mono ?_
    rintro e u7 ⟨s19, a19, n19, c19, rfl, N, -, hkeep⟩
    have hB := hB.trans (hkeep.mono hB.size)
    have H4 := H4.below hkeep
    have H5 := H5.below hkeep
    have H6 := H6.below hkeep
    have H7 := H7.below hkeep
    have H9 := H9.below hkeep
    have H11 := H11.below hkeep
    have H13 := H13.below hkeep
    have H15 := H15.below hkeep
    have H17 := H17.below hkeep
    have k19 : n19 ≤ 64 := by rw [N.dig.len]; exact F19
    have H19 := Held.new c19 N 27
    clear N
    have hB := hB.trans ((below_alloc u7 (Obj.cells #[.bool s19, .slice a19 n19 c19] 27)).mono hB.size)
    have hkeep := below_alloc u7 (Obj.cells #[.bool s19, .slice a19 n19 c19] 27)
    obtain ⟨W19, hW19⟩ : ∃ W, u7.alloc (Obj.cells #[.bool s19, .slice a19 n19 c19] 27) = W := ⟨_, rfl⟩
    obtain ⟨B19, hB19⟩ : ∃ B, u7.heap.size = B := ⟨_, rfl⟩
    rw [hW19] at hB hkeep H19
    rw [hB19] at H19
    have H4 := H4.below hkeep
    have H5 := H5.below hkeep
    have H6 := H6.below hkeep
    have H7 := H7.below hkeep
    have H9 := H9.below hkeep
    have H11 := H11.below hkeep
    have H13 := H13.below hkeep
    have H15 := H15.below hkeep
    have H17 := H17.below hkeep
    obtain ⟨x11, y11, -, -⟩ := H11.box
    obtain ⟨x17, y17, -, -⟩ := H17.box
    go_wp2_with fail
    clear x11 y11 x17 y17
    try rw [hW19]
    try rw [hB19]
    clear hW19 hB19
    refine (sub_any s11 s17 a11 a17 n11 n17 c11 c17 ((A + B) * C) ((C * A) + (B * C)) k11 k17 W19 H11.num H17.num F21).mono ?_
    intro e u8 hpost
    obtain ⟨a21, c21, rfl, N, hkeep⟩ := hpost.lit false 0 E21.out.1 E21.out.2
    clear hpost
    have hB := hB.trans (hkeep.mono hB.size)
    have H4 := H4.below hkeep
    have H5 := H5.below hkeep
    have H6 := H6.below hkeep
    have H7 := H7.below hkeep
    have H9 := H9.below hkeep
    have H11 := H11.below hkeep
    have H13 := H13.below hkeep
    have H15 := H15.below hkeep
    have H17 := H17.below hkeep
    have H19 := H19.below hkeep
    have H21 := Held.new c21 N 27
    clear N
    have hB := hB.trans ((below_alloc u8 (Obj.cells #[.bool false, .slice a21 0 c21] 27)).mono hB.size)
    have hkeep := below_alloc u8 (Obj.cells #[.bool false, .slice a21 0 c21] 27)
    obtain ⟨W21, hW21⟩ : ∃ W, u8.alloc (Obj.cells #[.bool false, .slice a21 0 c21] 27) = W := ⟨_, rfl⟩
    obtain ⟨B21, hB21⟩ : ∃ B, u8.heap.size = B := ⟨_, rfl⟩
    rw [hW21] at hB hkeep H21
    rw [hB21] at H21
    have H4 := H4.below hkeep
    have H5 := H5.below hkeep
    have H6 := H6.below hkeep
    have H7 := H7.below hkeep
    have H9 := H9.below hkeep
    have H11 := H11.below hkeep
    have H13 := H13.below hkeep
    have H15 := H15.below hkeep
    have H17 := H17.below hkeep
    have H19 := H19.below hkeep
    obtain ⟨x7, y7, -, -⟩ := H7.box
    obtain ⟨x9, y9, -, -⟩ := H9.box
    go_wp2_with fail
    clear x7 y7 x9 y9
    try rw [hW21]
    try rw [hB21]
    clear hW21 hB21
    refine (same_eq s7 s9 a7 a9 n7 n9 c7 c9 (A + B) k7 W21 H7.num (eq_num (Int.add_comm A B) H9.num)).mono ?_
    rintro e u9 ⟨rfl, hkeep⟩
    have hB := hB.trans (hkeep.mono hB.size)
    have H4 := H4.below hkeep
    have H5 := H5.below hkeep
    have H6 := H6.below hkeep
    have H7 := H7.below hkeep
    have H9 := H9.below hkeep
    have H11 := H11.below hkeep
    have H13 := H13.below hkeep
    have H15 := H15.below hkeep
    have H17 := H17.below hkeep
    have H19 := H19.below hkeep
    have H21 := H21.below hkeep
    obtain ⟨x11, y11, -, -⟩ := H11.box
    obtain ⟨x17, y17, -, -⟩ := H17.box
    go_wp2_with fail
    clear x11 y11 x17 y17
    refine (same_eq s11 s17 a11 a17 n11 n17 c11 c17 ((A + B) * C) k11 u9 H11.num (eq_num (ring_dist A B C) H17.num)).mono ?_
    rintro e u10 ⟨rfl, hkeep⟩
    have hB := hB.trans (hkeep.mono hB.size)
    have H4 := H4.below hkeep
    have H5 := H5.below hkeep
    have H6 := H6.below hkeep
    have H7 := H7.below hkeep
    have H9 := H9.below hkeep
    have H11 := H11.below hkeep
    have H13 := H13.below hkeep
    have H15 := H15.below hkeep
    have H17 := H17.below hkeep
    have H19 := H19.below hkeep
    have H21 := H21.below hkeep
    obtain ⟨x19, y19, -, -⟩ := H19.box
    obtain ⟨x4, y4, -, -⟩ := H4.box
    go_wp2_with fail
    clear x19 y19 x4 y4
    refine (same_eq s19 s4 a19 a4 n19 n4 c19 c4 ((A + B) - B) k19 u10 H19.num (eq_num (Int.add_sub_cancel A B) H4.num)).mono ?_
    rintro e u11 ⟨rfl, hkeep⟩
    have hB := hB.trans (hkeep.mono hB.size)
    have H4 := H4.below hkeep
    have H5 := H5.below hkeep
    have H6 := H6.below hkeep
    have H7 := H7.below hkeep
    have H9 := H9.below hkeep
    have H11 := H11.below hkeep
    have H13 := H13.below hkeep
    have H15 := H15.below hkeep
    have H17 := H17.below hkeep
    have H19 := H19.below hkeep
    have H21 := H21.below hkeep
    clear H7 H9 H11 H13 H15 H17 H19
    obtain ⟨x21, y21, -, -⟩ := H21.box
    obtain ⟨x4, y4, -, -⟩ := H4.box
    obtain ⟨x6, y6, -, -⟩ := H6.box
    go_wp2_with fail
    clear x4 y4 x6 y6
    clear x21 y21 H21
    refine (add_any s4 s6 a4 a6 n4 n6 c4 c6 (A) (C) k4 k6 u11 H4.num H6.num F23).mono ?_
    rintro e u12 ⟨s23, a23, n23, c23, rfl, N, -, hkeep⟩
    have hB := hB.trans (hkeep.mono hB.size)
    have H4 := H4.below hkeep
    have H5 := H5.below hkeep
    have H6 := H6.below hkeep
    have k23 : n23 ≤ 64 := by rw [N.dig.len]; exact F23
    have H23 := Held.new c23 N 27
    clear N
    have hB := hB.trans ((below_alloc u12 (Obj.cells #[.bool s23, .slice a23 n23 c23] 27)).mono hB.size)
    have hkeep := below_alloc u12 (Obj.cells #[.bool s23, .slice a23 n23 c23] 27)
    obtain ⟨W23, hW23⟩ : ∃ W, u12.alloc (Obj.cells #[.bool s23, .slice a23 n23 c23] 27) = W := ⟨_, rfl⟩
    obtain ⟨B23, hB23⟩ : ∃ B, u12.heap.size = B := ⟨_, rfl⟩
    rw [hW23] at hB hkeep H23
    rw [hB23] at H23
    have H4 := H4.below hkeep
    have H5 := H5.below hkeep
    have H6 := H6.below hkeep
    obtain ⟨x5, y5, -, -⟩ := H5.box
    obtain ⟨x6, y6, -, -⟩ := H6.box
    go_wp2_with fail
    clear x5 y5 x6 y6
    try rw [hW23]
    try rw [hB23]
    clear hW23 hB23
    refine (add_any s5 s6 a5 a6 n5 n6 c5 c6 (B) (C) k5 k6 W23 H5.num H6.num F25).mono ?_
    rintro e u13 ⟨s25, a25, n25, c25, rfl, N, -, hkeep⟩
    have hB := hB.trans (hkeep.mono hB.size)
    have H4 := H4.below hkeep
    have H5 := H5.below hkeep
    have H6 := H6.below hkeep
    have H23 := H23.below hkeep
    have k25 : n25 ≤ 64 := by rw [N.dig.len]; exact F25
    have H25 := Held.new c25 N 27
    clear N
    have hB := hB.trans ((below_alloc u13 (Obj.cells #[.bool s25, .slice a25 n25 c25] 27)).mono hB.size)
    have hkeep := below_alloc u13 (Obj.cells #[.bool s25, .slice a25 n25 c25] 27)
    obtain ⟨W25, hW25⟩ : ∃ W, u13.alloc (Obj.cells #[.bool s25, .slice a25 n25 c25] 27) = W := ⟨_, rfl⟩
    obtain ⟨B25, hB25⟩ : ∃ B, u13.heap.size = B := ⟨_, rfl⟩
    rw [hW25] at hB hkeep H25
    rw [hB25] at H25
    have H4 := H4.below hkeep
    have H5 := H5.below hkeep
    have H6 := H6.below hkeep
    have H23 := H23.below hkeep
    have N := abs_num H6.num
    have H27 := Held.new c6 N 27
    clear N
    have hB := hB.trans ((below_alloc W25 (Obj.cells #[.bool false, .slice a6 n6 c6] 27)).mono hB.size)
    have hkeep := below_alloc W25 (Obj.cells #[.bool false, .slice a6 n6 c6] 27)
    obtain ⟨W27, hW27⟩ : ∃ W, W25.alloc (Obj.cells #[.bool false, .slice a6 n6 c6] 27) = W := ⟨_, rfl⟩
    obtain ⟨B27, hB27⟩ : ∃ B, W25.heap.size = B := ⟨_, rfl⟩
    obtain ⟨p6, q6, -, -⟩ := H6.box
    rw [hW27] at hB hkeep H27
    rw [hB27] at H27
    have H4 := H4.below hkeep
    have H5 := H5.below hkeep
    have H6 := H6.below hkeep
    have H23 := H23.below hkeep
    have H25 := H25.below hkeep
    obtain ⟨x4, y4, -, -⟩ := H4.box
    obtain ⟨x27, y27, -, -⟩ := H27.box
    go_wp2_with fail
    clear x4 y4 x27 y27
    clear p6 q6
    try rw [hW25]
    try rw [hB25]
    clear hW25 hB25
    try rw [hW27]
    try rw [hB27]
    clear hW27 hB27
    refine (mul_any s4 false a4 a6 n4 n6 c4 c6 A (C.natAbs : Int) k4 k6 W27 H4.num H27.num F28).mono ?_
    rintro e u14 ⟨s28, a28, n28, c28, rfl, N, -, hkeep⟩
    have hB := hB.trans (hkeep.mono hB.size)
    have H4 := H4.below hkeep
    have H5 := H5.below hkeep
    have H6 := H6.below hkeep
    have H23 := H23.below hkeep
    have H25 := H25.below hkeep
    have H27 := H27.below hkeep
    have k28 : n28 ≤ 64 := by rw [N.dig.len]; exact F28
    have H28 := Held.new c28 N 27
    clear N
    have hB := hB.trans ((below_alloc u14 (Obj.cells #[.bool s28, .slice a28 n28 c28] 27)).mono hB.size)
    have hkeep := below_alloc u14 (Obj.cells #[.bool s28, .slice a28 n28 c28] 27)
    obtain ⟨W28, hW28⟩ : ∃ W, u14.alloc (Obj.cells #[.bool s28, .slice a28 n28 c28] 27) = W := ⟨_, rfl⟩
    obtain ⟨B28, hB28⟩ : ∃ B, u14.heap.size = B := ⟨_, rfl⟩
    rw [hW28] at hB hkeep H28
    rw [hB28] at H28
    have H4 := H4.below hkeep
    have H5 := H5.below hkeep
    have H6 := H6.below hkeep
    have H23 := H23.below hkeep
    have H25 := H25.below hkeep
    have H27 := H27.below hkeep
    obtain ⟨x5, y5, -, -⟩ := H5.box
    obtain ⟨x27, y27, -, -⟩ := H27.box
    go_wp2_with fail
    clear x5 y5 x27 y27
    try rw [hW28]
    try rw [hB28]
    clear hW28 hB28
    refine (mul_any s5 false a5 a6 n5 n6 c5 c6 B (C.natAbs : Int) k5 k6 W28 H5.num H27.num F30).mono ?_
    rintro e u15 ⟨s30, a30, n30, c30, rfl, N, -, hkeep⟩
    have hB := hB.trans (hkeep.mono hB.size)
    have H4 := H4.below hkeep
    have H5 := H5.below hkeep
    have H6 := H6.below hkeep
    have H23 := H23.below hkeep
    have H25 := H25.below hkeep
    have H27 := H27.below hkeep
    have H28 := H28.below hkeep
    have k30 : n30 ≤ 64 := by rw [N.dig.len]; exact F30
    have H30 := Held.new c30 N 27
    clear N
    have hB := hB.trans ((below_alloc u15 (Obj.cells #[.bool s30, .slice a30 n30 c30] 27)).mono hB.size)
    have hkeep := below_alloc u15 (Obj.cells #[.bool s30, .slice a30 n30 c30] 27)
    obtain ⟨W30, hW30⟩ : ∃ W, u15.alloc (Obj.cells #[.bool s30, .slice a30 n30 c30] 27) = W := ⟨_, rfl⟩
    obtain ⟨B30, hB30⟩ : ∃ B, u15.heap.size = B := ⟨_, rfl⟩
    rw [hW30] at hB hkeep H30
    rw [hB30] at H30
    have H4 := H4.below hkeep
    have H5 := H5.below hkeep
    have H6 := H6.below hkeep
    have H23 := H23.below hkeep
    have H25 := H25.below hkeep
    have H27 := H27.below hkeep
    have H28 := H28.below hkeep
    obtain ⟨x4, y4, -, -⟩ := H4.box
    obtain ⟨x5, y5, -, -⟩ := H5.box
    go_wp2_with fail
    clear x4 y4 x5 y5
    try rw [hW30]
    try rw [hB30]
    clear hW30 hB30
    refine (cmp_any s4 s5 a4 a5 n4 n5 c4 c5 (A) (B) k4 k5 W30 H4.num H5.num).mono ?_
    rintro e u16 ⟨rfl, hkeep⟩
    have hB := hB.trans (hkeep.mono hB.size)
    have H4 := H4.below hkeep
    have H5 := H5.below hkeep
    have H6 := H6.below hkeep
    have H23 := H23.below hkeep
    have H25 := H25.below hkeep
    have H27 := H27.below hkeep
    have H28 := H28.below hkeep
    have H30 := H30.below hkeep
    rw [show cmpZ (A) (B) = o from HO.out]
    obtain ⟨x5, y5, -, -⟩ := H5.box
    obtain ⟨x4, y4, -, -⟩ := H4.box
    go_wp2_with fail
    clear x5 y5 x4 y4
    refine (cmp_any s5 s4 a5 a4 n5 n4 c5 c4 (B) (A) k5 k4 u16 H5.num H4.num).mono ?_
    rintro e u17 ⟨rfl, hkeep⟩
    have hB := hB.trans (hkeep.mono hB.size)
    have H4 := H4.below hkeep
    have H5 := H5.below hkeep
    have H6 := H6.below hkeep
    have H23 := H23.below hkeep
    have H25 := H25.below hkeep
    have H27 := H27.below hkeep
    have H28 := H28.below hkeep
    have H30 := H30.below hkeep
    rw [show cmpZ (B) (A) = -o from HO1.out]
    by_cases h60 : n6 = 0
    · subst h60
      obtain ⟨p6, q6, -, -⟩ := H6.box
      obtain ⟨x23, y23, -, -⟩ := H23.box
      obtain ⟨x25, y25, -, -⟩ := H25.box
      go_wp2_with fail
      clear x23 y23 x25 y25
      refine (cmp_any s23 s25 a23 a25 n23 n25 c23 c25 (A + C) (B + C) k23 k25 u17 H23.num H25.num).mono ?_
      rintro e u18 ⟨rfl, hkeep⟩
      have hB := hB.trans (hkeep.mono hB.size)
      have H4 := H4.below hkeep
      have H5 := H5.below hkeep
      have H6 := H6.below hkeep
      have H23 := H23.below hkeep
      have H25 := H25.below hkeep
      have H27 := H27.below hkeep
      have H28 := H28.below hkeep
      have H30 := H30.below hkeep
      rw [show cmpZ (A + C) (B + C) = o from HO2.out]
      obtain ⟨p6, q6, -, -⟩ := H6.box
      go_wp2
      go_ret
      exact ⟨rfl, hB⟩
    · have hn6 : ((n6 : Int) == 0) = false := by simp; omega
      have hC := num_pos H6.num h60
      have HO3 := hide (HO3.out hC)
      clear hC
      obtain ⟨x23, y23, -, -⟩ := H23.box
      obtain ⟨x25, y25, -, -⟩ := H25.box
      go_wp2_with fail
      clear x23 y23 x25 y25
      refine (cmp_any s23 s25 a23 a25 n23 n25 c23 c25 (A + C) (B + C) k23 k25 u17 H23.num H25.num).mono ?_
      rintro e u18 ⟨rfl, hkeep⟩
      have hB := hB.trans (hkeep.mono hB.size)
      have H4 := H4.below hkeep
      have H5 := H5.below hkeep
      have H6 := H6.below hkeep
      have H23 := H23.below hkeep
      have H25 := H25.below hkeep
      have H27 := H27.below hkeep
      have H28 := H28.below hkeep
      have H30 := H30.below hkeep
      rw [show cmpZ (A + C) (B + C) = o from HO2.out]
      obtain ⟨p6, q6, -, -⟩ := H6.box
      obtain ⟨x28, y28, -, -⟩ := H28.box
      obtain ⟨x30, y30, -, -⟩ := H30.box
      go_wp2_with fail
      clear x28 y28 x30 y30
      refine (cmp_any s28 s30 a28 a30 n28 n30 c28 c30 (A * (C.natAbs : Int)) (B * (C.natAbs : Int)) k28 k30 u18 H28.num H30.num).mono ?_
      rintro e u19 ⟨rfl, hkeep⟩
      have hB := hB.trans (hkeep.mono hB.size)
      have H4 := H4.below hkeep
      have H5 := H5.below hkeep
      have H6 := H6.below hkeep
      have H23 := H23.below hkeep
      have H25 := H25.below hkeep
      have H27 := H27.below hkeep
      have H28 := H28.below hkeep
      have H30 := H30.below hkeep
      rw [show cmpZ (A * (C.natAbs : Int)) (B * (C.natAbs : Int)) = o from HO3.out]
      go_wp2
      go_ret
      exact ⟨rfl, hB⟩
end Go.Proofs.YtmpdeiopdempcaaGreatDoor
