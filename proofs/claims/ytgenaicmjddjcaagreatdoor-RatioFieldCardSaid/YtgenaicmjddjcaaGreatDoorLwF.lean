/- the law RatioField: it is true. -/
import Derived.Test.YtgenaicmjddjcaaGreatDoorLwS
import Derived.Test.YtgenaicmjddjcaaGreatDoorLwT
import Derived.Test.YtgenaicmjddjcaaGreatDoorFanR
namespace Go.Proofs.YtgenaicmjddjcaaGreatDoor
open Go.RowKit Go.Shelf

theorem setCell_id {w : World} {b o : Nat} {v : Value} (h : w.cell? ⟨b, o, none⟩ = some v) : w.setCell ⟨b, o, none⟩ v = w := by
 unfold World.setCell
 refine (congrArg (fun H => { w with heap := H }) ?_ : _ = { w with heap := w.heap })
 apply Array.ext_getElem?
 intro i
 rw [Array.getElem?_modify]
 split
 · rename_i hi
   subst hi
   show Option.map _ w.heap[b]? = w.heap[b]?
   cases ho : w.heap[b]? with
   | none => rfl
   | some x =>
     unfold World.cell? at h
     simp only [ho] at h
     cases x with
     | cells c elem fr =>
       simp at h ⊢
       apply Array.ext_getElem?
       intro j
       rw [Array.getElem?_setIfInBounds]
       split
       · rename_i hj
         subst hj
         split
         · exact h.symm
         · rename_i hlt
           rw [Array.getElem?_eq_none (by omega)] at h; cases h
       · rfl
     | _ => rfl
 · rfl
structure OkB (w : World) (b : Nat) : Prop where
 c : w.cell? ⟨b, 0, none⟩ = some (.bool true)
 z : w.frozen? ⟨b, 0, none⟩ = false
theorem OkB.new (w : World) : OkB (w.alloc (Obj.cells #[.bool true] 4)) w.heap.size := ⟨by simp [go_sem], by simp [go_sem]⟩
theorem OkB.below {w w' : World} {b : Nat} (h : OkB w b) (t : Below w.heap.size w w') : OkB w' b :=
 ⟨(t.cell (p := ⟨b, 0, none⟩) (lt_of_cell h.c)).trans h.c, (t.frozen (p := ⟨b, 0, none⟩) (lt_of_cell h.c)).trans h.z⟩
theorem OkB.quad {w W : World} {b B : Nat} (h : OkB w b) (hne : b ≠ B) (t : Touch B 0 4 w W) : OkB W b := by
 have hb := t.block b (lt_of_cell h.c) hne
 exact ⟨(cell_of_block_eq hb _).trans h.c, (frozen_of_block_eq hb _).trans h.z⟩
theorem OkB.id {w : World} {b : Nat} (h : OkB w b) : w.setCell ⟨b, 0, none⟩ (.bool true) = w := setCell_id h.c
set_option maxRecDepth 100000 in
set_option maxHeartbeats 4000000 in
theorem fadd_r (s1 s2 t1 t2 : Bool) (a1 a2 b1 b2 : Option Addr) (n1 n2 m1 m2 c1 c2 d1 d2 : Nat) (x y z : Rat) (HE : Hid (addRO (some x) (some y) = some z)) (bo : Nat) (w : World) (ok : OkB w bo) (hx : RArg w s1 a1 n1 s2 a2 n2 (some x)) (hy : RArg w t1 b1 m1 t2 b2 m2 (some y)) :
 Calls Tryz.prog 45 #[.agg #[.bool s1, .slice a1 n1 c1, .bool s2, .slice a2 n2 c2], .agg #[.bool t1, .slice b1 m1 d1, .bool t2, .slice b2 m2 d2], .pointer (some ⟨bo, 0, none⟩)] w (RatVal w (some z)) := by
 go_enter Tryz.func45, Tryz.ntmps45
 go_wp2_with fail
 obtain ⟨W1, hW1⟩ : ∃ W1, ((w.alloc (Obj.cells #[.bool s1, .slice a1 n1 c1, .bool s2, .slice a2 n2 c2] 37)).alloc (Obj.cells #[.bool t1, .slice b1 m1 d1, .bool t2, .slice b2 m2 d2] 37)).alloc (Obj.cells #[.bool false, .slice none 0 0, .bool false, .slice none 0 0] 37) = W1 := ⟨_, rfl⟩
 obtain ⟨qA, qB, qC, hB⟩ := rat_boxes2 w _ _ _ _ _ _ _ _ _ hW1
 have hx := hx.below hB
 have hy := hy.below hB
 have ok := ok.below hB
 try rw [hW1]
 clear hW1
 obtain ⟨⟨x10, x11, x12, x13⟩, -, -, -, -⟩ := id qA
 obtain ⟨⟨x20, x21, x22, x23⟩, -, -, -, -⟩ := id qB
 go_wp2_with fail
 clear x10 x11 x12 x13 x20 x21 x22 x23
 have cc := add_r s1 s2 t1 t2 a1 a2 b1 b2 n1 n2 m1 m2 c1 c2 d1 d2 (some x) (some y) W1 hx hy
 rw [HE.out] at cc
 refine cc.mono ?_
 clear cc
 rintro e u1 ⟨s8, a8, n8, c8, s9, a9, n9, c9, rfl, P1, P2, k8, k9, hk⟩
 have hB := hB.trans (hk.mono hB.size)
 have hx := hx.below hk
 have hy := hy.below hk
 have ok := ok.below hk
 have qA := qA.below hk
 have qB := qB.below hk
 have qC := qC.below hk
 clear hk
 clear hx hy
 obtain ⟨Z6, hZ6⟩ : ∃ Z, u1.alloc (Obj.cells #[.bool false, .slice none 0 0, .bool false, .slice none 0 0] 37) = Z := ⟨_, rfl⟩
 obtain ⟨W6, hW6⟩ : ∃ W, (((Z6.setCell ⟨u1.heap.size, 0, none⟩ (.bool s8)).setCell ⟨u1.heap.size, 1, none⟩ (.slice a8 n8 c8)).setCell ⟨u1.heap.size, 2, none⟩ (.bool s9)).setCell ⟨u1.heap.size, 3, none⟩ (.slice a9 n9 c9) = W := ⟨_, rfl⟩
 obtain ⟨H6, hk, bx6⟩ := rat_new (c1 := c8) (c2 := c9) hZ6 hW6 (rarg_of (some z) P1 P2 k8 k9)
 clear P1 P2
 obtain ⟨B6, hB6⟩ : ∃ B, u1.heap.size = B := ⟨_, rfl⟩
 have hB := hB.trans (hk.mono hB.size)
 have ok := ok.below hk
 have qA := qA.below hk
 have qB := qB.below hk
 have qC := qC.below hk
 clear hk
 rw [hB6] at hW6 H6 bx6
 have hid := ok.id
 have P1 := H6.arg.num
 have P2 := H6.arg.den
 obtain ⟨Wz, hWz⟩ : ∃ W, (((W6.setCell ⟨w.heap.size + 1 + 1, 0, none⟩ (.bool s8)).setCell ⟨w.heap.size + 1 + 1, 1, none⟩ (.slice a8 n8 c8)).setCell ⟨w.heap.size + 1 + 1, 2, none⟩ (.bool s9)).setCell ⟨w.heap.size + 1 + 1, 3, none⟩ (.slice a9 n9 c9) = W := ⟨_, rfl⟩
 obtain ⟨hQ, hT⟩ := qC.set _ _ _ _ hWz
 have hBz : Below w.heap.size w Wz := by rw [← hWz]; exact below_set4 hB (by omega) _ _ _ _
 have P1 := P1.quad qC.four hT
 have P2 := P2.quad qC.four hT
 have K := hide (And.intro hQ (And.intro P1 (And.intro P2 hBz)))
 have HWz := hide hWz
 clear hQ hBz hWz hT P1 P2
 obtain ⟨⟨x90, x91, x92, x93⟩, z90, z91, z92, z93⟩ := id qC
 obtain ⟨⟨y0, y1, y2, y3⟩, yz0, yz1, yz2, yz3⟩ := id bx6
 obtain ⟨⟨x70, x71, x72, x73⟩, -, -, -, -⟩ := id H6.box
 obtain ⟨o0, o1⟩ := id ok
 go_wp2
 try rw [hW6]
 try rw [hB6]
 obtain ⟨⟨⟨q0, q1, q2, q3⟩, -, -, -, -⟩, P1, P2, hBB⟩ := K.out
 rw [HWz.out]
 exact bodyPost_ret (v := .agg #[.bool s8, .slice a8 n8 c8, .bool s9, .slice a9 n9 c9]) (by simp [results, Tryz.results45, go_sem, q0, q1, q2, q3]) rfl ⟨_, _, _, _, _, _, _, _, rfl, P1, P2, k8, k9, hBB⟩
set_option maxRecDepth 100000 in
set_option maxHeartbeats 4000000 in
theorem fmul_r (s1 s2 t1 t2 : Bool) (a1 a2 b1 b2 : Option Addr) (n1 n2 m1 m2 c1 c2 d1 d2 : Nat) (x y z : Rat) (HE : Hid (mulRO (some x) (some y) = some z)) (bo : Nat) (w : World) (ok : OkB w bo) (hx : RArg w s1 a1 n1 s2 a2 n2 (some x)) (hy : RArg w t1 b1 m1 t2 b2 m2 (some y)) :
 Calls Tryz.prog 46 #[.agg #[.bool s1, .slice a1 n1 c1, .bool s2, .slice a2 n2 c2], .agg #[.bool t1, .slice b1 m1 d1, .bool t2, .slice b2 m2 d2], .pointer (some ⟨bo, 0, none⟩)] w (RatVal w (some z)) := by
 go_enter Tryz.func46, Tryz.ntmps46
 go_wp2_with fail
 obtain ⟨W1, hW1⟩ : ∃ W1, ((w.alloc (Obj.cells #[.bool s1, .slice a1 n1 c1, .bool s2, .slice a2 n2 c2] 37)).alloc (Obj.cells #[.bool t1, .slice b1 m1 d1, .bool t2, .slice b2 m2 d2] 37)).alloc (Obj.cells #[.bool false, .slice none 0 0, .bool false, .slice none 0 0] 37) = W1 := ⟨_, rfl⟩
 obtain ⟨qA, qB, qC, hB⟩ := rat_boxes2 w _ _ _ _ _ _ _ _ _ hW1
 have hx := hx.below hB
 have hy := hy.below hB
 have ok := ok.below hB
 try rw [hW1]
 clear hW1
 obtain ⟨⟨x10, x11, x12, x13⟩, -, -, -, -⟩ := id qA
 obtain ⟨⟨x20, x21, x22, x23⟩, -, -, -, -⟩ := id qB
 go_wp2_with fail
 clear x10 x11 x12 x13 x20 x21 x22 x23
 have cc := mul_r s1 s2 t1 t2 a1 a2 b1 b2 n1 n2 m1 m2 c1 c2 d1 d2 (some x) (some y) W1 hx hy
 rw [HE.out] at cc
 refine cc.mono ?_
 clear cc
 rintro e u1 ⟨s8, a8, n8, c8, s9, a9, n9, c9, rfl, P1, P2, k8, k9, hk⟩
 have hB := hB.trans (hk.mono hB.size)
 have hx := hx.below hk
 have hy := hy.below hk
 have ok := ok.below hk
 have qA := qA.below hk
 have qB := qB.below hk
 have qC := qC.below hk
 clear hk
 clear hx hy
 obtain ⟨Z6, hZ6⟩ : ∃ Z, u1.alloc (Obj.cells #[.bool false, .slice none 0 0, .bool false, .slice none 0 0] 37) = Z := ⟨_, rfl⟩
 obtain ⟨W6, hW6⟩ : ∃ W, (((Z6.setCell ⟨u1.heap.size, 0, none⟩ (.bool s8)).setCell ⟨u1.heap.size, 1, none⟩ (.slice a8 n8 c8)).setCell ⟨u1.heap.size, 2, none⟩ (.bool s9)).setCell ⟨u1.heap.size, 3, none⟩ (.slice a9 n9 c9) = W := ⟨_, rfl⟩
 obtain ⟨H6, hk, bx6⟩ := rat_new (c1 := c8) (c2 := c9) hZ6 hW6 (rarg_of (some z) P1 P2 k8 k9)
 clear P1 P2
 obtain ⟨B6, hB6⟩ : ∃ B, u1.heap.size = B := ⟨_, rfl⟩
 have hB := hB.trans (hk.mono hB.size)
 have ok := ok.below hk
 have qA := qA.below hk
 have qB := qB.below hk
 have qC := qC.below hk
 clear hk
 rw [hB6] at hW6 H6 bx6
 have hid := ok.id
 have P1 := H6.arg.num
 have P2 := H6.arg.den
 obtain ⟨Wz, hWz⟩ : ∃ W, (((W6.setCell ⟨w.heap.size + 1 + 1, 0, none⟩ (.bool s8)).setCell ⟨w.heap.size + 1 + 1, 1, none⟩ (.slice a8 n8 c8)).setCell ⟨w.heap.size + 1 + 1, 2, none⟩ (.bool s9)).setCell ⟨w.heap.size + 1 + 1, 3, none⟩ (.slice a9 n9 c9) = W := ⟨_, rfl⟩
 obtain ⟨hQ, hT⟩ := qC.set _ _ _ _ hWz
 have hBz : Below w.heap.size w Wz := by rw [← hWz]; exact below_set4 hB (by omega) _ _ _ _
 have P1 := P1.quad qC.four hT
 have P2 := P2.quad qC.four hT
 have K := hide (And.intro hQ (And.intro P1 (And.intro P2 hBz)))
 have HWz := hide hWz
 clear hQ hBz hWz hT P1 P2
 obtain ⟨⟨x90, x91, x92, x93⟩, z90, z91, z92, z93⟩ := id qC
 obtain ⟨⟨y0, y1, y2, y3⟩, yz0, yz1, yz2, yz3⟩ := id bx6
 obtain ⟨⟨x70, x71, x72, x73⟩, -, -, -, -⟩ := id H6.box
 obtain ⟨o0, o1⟩ := id ok
 go_wp2
 try rw [hW6]
 try rw [hB6]
 obtain ⟨⟨⟨q0, q1, q2, q3⟩, -, -, -, -⟩, P1, P2, hBB⟩ := K.out
 rw [HWz.out]
 exact bodyPost_ret (v := .agg #[.bool s8, .slice a8 n8 c8, .bool s9, .slice a9 n9 c9]) (by simp [results, Tryz.results46, go_sem, q0, q1, q2, q3]) rfl ⟨_, _, _, _, _, _, _, _, rfl, P1, P2, k8, k9, hBB⟩
theorem div_fitR {x y : Rat} {i j : Nat} (hx : RB i x) (hy : RB j y) (hk : i + j ≤ 64) (hy0 : y ≠ 0) : mulR x.num y.den x.den y.num = some (x / y) := by
 obtain ⟨a, -, -, -, e⟩ := hx.fit hy (Nat.le_refl _)
 unfold mulR
 rw [fit_lt a hk, fit_lt e hk]
 show divO _ _ = _
 rw [divO_some _ (den_num_ne hy0), rat_div]
theorem rb_mul {x y : Rat} {i j : Nat} (hx : RB i x) (hy : RB j y) : RB (i + j) (x * y) := by
 obtain ⟨-, -, c, d, -⟩ := hx.fit hy (Nat.le_refl _)
 rw [← rat_mul]
 exact RB.divInt (den_mul_ne x y) d c
theorem divR_zero {x : Rat} {i : Nat} (_hx : RB i x) : divRO (some x) (some 0) = none := by
 show mulR x.num ((0 : Rat).den : Int) x.den (0 : Rat).num = none
 unfold mulR
 show (match fitO (x.num * 1), fitO ((x.den : Int) * 0) with | some n, some d => divO n d | _, _ => none) = none
 rw [Int.mul_zero, show fitO 0 = some 0 from fitO_some (by rw [show (0 : Int).natAbs = 0 from rfl, dlen_zero]; decide)]
 cases fitO (x.num * 1) with
 | none => rfl
 | some n => rfl
set_option maxRecDepth 100000 in
set_option maxHeartbeats 64000000 in
theorem rfield_true (x0 x1 x2 : Option Addr) (L0 L1 L2 d0 d1 d2 : Nat) (g0 g1 g2 : Nat → Int) (hL0 : L0 ≤ 9223372036854775807) (hL1 : L1 ≤ 9223372036854775807) (hL2 : L2 ≤ 9223372036854775807) (w : World) (ht : Pow10 w) (hsy : Syn w) (h0 : Ints w x0 L0 g0) (h1 : Ints w x1 L1 g1) (h2 : Ints w x2 L2 g2) :
 Calls Tryz.prog 6 #[.agg #[.slice x0 L0 d0, .slice x1 L1 d1, .slice x2 L2 d2]] w fun e w' => e = .returned (.bool true) ∧ Below w.heap.size w w' := by
 go_enter Tryz.func6, Tryz.ntmps6
 go_wp2_with fail
 have hB := below_alloc w (Obj.cells #[.slice x0 L0 d0, .slice x1 L1 d1, .slice x2 L2 d2] 61)
 have k0 : (w.alloc (Obj.cells #[.slice x0 L0 d0, .slice x1 L1 d1, .slice x2 L2 d2] 61)).cell? ⟨w.heap.size, 0, none⟩ = some (.slice x0 L0 d0) := by simp [go_sem]
 have k1 : (w.alloc (Obj.cells #[.slice x0 L0 d0, .slice x1 L1 d1, .slice x2 L2 d2] 61)).cell? ⟨w.heap.size, 1, none⟩ = some (.slice x1 L1 d1) := by simp [go_sem]
 have k2 : (w.alloc (Obj.cells #[.slice x0 L0 d0, .slice x1 L1 d1, .slice x2 L2 d2] 61)).cell? ⟨w.heap.size, 2, none⟩ = some (.slice x2 L2 d2) := by simp [go_sem]
 obtain ⟨W0, hW0⟩ : ∃ W0, w.alloc (Obj.cells #[.slice x0 L0 d0, .slice x1 L1 d1, .slice x2 L2 d2] 61) = W0 := ⟨_, rfl⟩
 rw [hW0] at hB k0 k1 k2 ⊢
 clear hW0
 refine (sanity3_true W0 (ht.below hB) (hsy.below hB)).mono ?_
 rintro e w1 ⟨rfl, hkeep⟩
 have hB1 := hB.trans (hkeep.mono hB.size)
 have k0 := (hkeep.cell (p := ⟨w.heap.size, 0, none⟩) (lt_of_cell k0)).trans k0
 have k1 := (hkeep.cell (p := ⟨w.heap.size, 1, none⟩) (lt_of_cell k1)).trans k1
 have k2 := (hkeep.cell (p := ⟨w.heap.size, 2, none⟩) (lt_of_cell k2)).trans k2
 clear hB hkeep
 go_wp2_with fail
 have hB2 : Below w.heap.size w w1.drew := hB1.drew
 have k0 : w1.drew.cell? ⟨w.heap.size, 0, none⟩ = some (.slice x0 L0 d0) := k0
 have k1 : w1.drew.cell? ⟨w.heap.size, 1, none⟩ = some (.slice x1 L1 d1) := k1
 have k2 : w1.drew.cell? ⟨w.heap.size, 2, none⟩ = some (.slice x2 L2 d2) := k2
 have l0 := h0.below (hB2.mono (Nat.le_refl _))
 have l1 := h1.below (hB2.mono (Nat.le_refl _))
 have l2 := h2.below (hB2.mono (Nat.le_refl _))
 refine wp_region_held_drew (S := fun w' => Below w1.drew.heap.size w1.drew w') (by kernel_rfl) (Below.refl _ _) (fun hHeld => ?_)
 obtain ⟨WD, hWD⟩ : ∃ WD, w1.drew = WD := ⟨_, rfl⟩
 rw [hWD] at hB2 k0 k1 k2 l0 l1 l2 hHeld ⊢
 clear hWD hB1
 have hlt := lt_of_cell k0
 refine tk 0 (.pointer (some ⟨w.heap.size, 0, none⟩)) 15 rfl rfl ?_
 simp only [Act.put, pA, pB, pC]
 refine tk 1 (.slice x0 L0 d0) 16 rfl rfl ?_ (Or.inl ⟨by rfl, fun w' hSw => by have q := (hSw.cell (p := ⟨w.heap.size, 0, none⟩) hlt).trans k0; go_simp⟩)
 simp only [Act.put, pA, pB, pC]
 refine tk 3 (.pointer (some ⟨w.heap.size, 1, none⟩)) 18 rfl rfl ?_
 simp only [Act.put, pA, pB, pC]
 refine tk 4 (.slice x1 L1 d1) 19 rfl rfl ?_ (Or.inl ⟨by rfl, fun w' hSw => by have q := (hSw.cell (p := ⟨w.heap.size, 1, none⟩) hlt).trans k1; go_simp⟩)
 simp only [Act.put, pA, pB, pC]
 refine tk 6 (.pointer (some ⟨w.heap.size, 2, none⟩)) 21 rfl rfl ?_
 simp only [Act.put, pA, pB, pC]
 refine tk 7 (.slice x2 L2 d2) 22 rfl rfl ?_ (Or.inl ⟨by rfl, fun w' hSw => by have q := (hSw.cell (p := ⟨w.heap.size, 2, none⟩) hlt).trans k2; go_simp⟩)
 simp only [Act.put, pA, pB, pC]
 refine fanR (RB 3) 3 37 (fun U V => ⟨#[.agg #[.slice x0 L0 d0, .slice x1 L1 d1, .slice x2 L2 d2], .pointer (some ⟨w.heap.size, 0, none⟩), .bool false, .bool true, U 0, U 1, U 2, undef, undef, undef, undef, undef, undef, undef, .bool true, .pointer (some ⟨w.heap.size, 0, none⟩), .slice x0 L0 d0, V 0, .pointer (some ⟨w.heap.size, 1, none⟩), .slice x1 L1 d1, V 1, .pointer (some ⟨w.heap.size, 2, none⟩), .slice x2 L2 d2, V 2, undef, undef, undef, undef, undef, undef, undef, undef, undef, undef, undef, undef, undef, undef, undef, undef, undef, undef, undef, undef, undef, undef, undef, undef, undef, undef, undef, undef, undef, undef, undef, undef, undef, undef, undef, undef, undef, undef, undef, undef, undef, undef, undef, undef, undef, undef, undef, undef, undef, undef, undef, undef, undef, undef, undef, undef, undef, undef, undef, undef, undef, undef, undef, undef, undef, undef, undef, undef, undef, undef, undef, undef, undef, undef, undef, undef, undef, undef, undef, undef, undef, undef, undef, undef, undef, undef, undef, undef, undef, undef, undef, undef, undef, undef, undef, undef, undef, undef, undef, undef, undef, undef, undef, undef, undef, undef, undef, undef, undef, undef, undef, undef, undef, undef, undef, undef, undef, undef, undef, undef, undef, undef, undef, undef, undef, undef, undef, undef, undef, undef, undef, undef, undef, undef, undef, undef, undef, undef], []⟩) WD (by kernel_rfl) (topo_of (by kernel_rfl)) (dep_of (by kernel_rfl)) ?hal ?hcl ?hst ?hend (fun _ => undef) (fun _ => undef) _ _ (by kernel_rfl) (of_decide_eq_true (by kernel_rfl)) (of_decide_eq_true (by kernel_rfl)) (of_decide_eq_true (by kernel_rfl))
 case hal =>
  intro k U V w' H hk h
  match k, hk with
  | 0, _ =>
    refine wpOp_run (i := 9) rfl ?_
    go_simp
    exact h
  | 1, _ =>
    refine wpOp_run (i := 10) rfl ?_
    go_simp
    exact h
  | 2, _ =>
    refine wpOp_run (i := 11) rfl ?_
    go_simp
    exact h
 case hcl =>
  intro k U V w' H hk hb h
  match k, hk with
  | 0, _ =>
    refine wpOp_call (i := 2) (f := 18) (args := #[.slice x0 L0 d0]) 17 rfl rfl (by rfl) (by go_simp) ?_
    refine (madeR_any x0 L0 d0 g0 hL0 w' (l0.below hb)).mono ?_
    rintro e w2 ⟨x, hx, s1, a1, n1, c1, s2, a2, n2, c2, rfl, P1, P2, q1, q2, hg⟩
    exact ⟨_, rfl, h _ w2 ⟨s1, a1, n1, c1, s2, a2, n2, c2, x, rfl, rarg_of (some x) P1 P2 q1 q2, hx⟩ hg⟩
  | 1, _ =>
    refine wpOp_call (i := 5) (f := 18) (args := #[.slice x1 L1 d1]) 20 rfl rfl (by rfl) (by go_simp) ?_
    refine (madeR_any x1 L1 d1 g1 hL1 w' (l1.below hb)).mono ?_
    rintro e w2 ⟨x, hx, s1, a1, n1, c1, s2, a2, n2, c2, rfl, P1, P2, q1, q2, hg⟩
    exact ⟨_, rfl, h _ w2 ⟨s1, a1, n1, c1, s2, a2, n2, c2, x, rfl, rarg_of (some x) P1 P2 q1 q2, hx⟩ hg⟩
  | 2, _ =>
    refine wpOp_call (i := 8) (f := 18) (args := #[.slice x2 L2 d2]) 23 rfl rfl (by rfl) (by go_simp) ?_
    refine (madeR_any x2 L2 d2 g2 hL2 w' (l2.below hb)).mono ?_
    rintro e w2 ⟨x, hx, s1, a1, n1, c1, s2, a2, n2, c2, rfl, P1, P2, q1, q2, hg⟩
    exact ⟨_, rfl, h _ w2 ⟨s1, a1, n1, c1, s2, a2, n2, c2, x, rfl, rarg_of (some x) P1 P2 q1 q2, hx⟩ hg⟩
 case hst =>
  intro k U V w' H B s1 a1 n1 c1 s2 a2 n2 c2 hk hU hV hbox h
  obtain ⟨t1, b1, m1, e1, t2, b2, m2, e2, ⟨q0, q1, q2, q3⟩, z0, z1, z2, z3⟩ := hbox
  match k, hk with
  | 0, _ =>
    refine wpOp_run (i := 12) rfl ?_
    simp only [hU, hV] at h ⊢
    go_simp
    exact h
  | 1, _ =>
    refine wpOp_run (i := 13) rfl ?_
    simp only [hU, hV] at h ⊢
    go_simp
    exact h
  | 2, _ =>
    refine wpOp_run (i := 14) rfl ?_
    simp only [hU, hV] at h ⊢
    go_simp
    exact h
 case hend =>
  intro U V fB w3 hF
  obtain ⟨B4, s17, a17, n17, c17, t17, b17, m17, d17, x, hU0, hV0, H4, rx, b4⟩ := hF.held (k := 0) (by decide)
  obtain ⟨B5, s20, a20, n20, c20, t20, b20, m20, d20, y, hU1, hV1, H5, ry, b5⟩ := hF.held (k := 1) (by decide)
  obtain ⟨B6, s23, a23, n23, c23, t23, b23, m23, d23, z, hU2, hV2, H6, rz, b6⟩ := hF.held (k := 2) (by decide)
  have hB := hB2.trans (hF.below.mono hB2.size)
  clear hF
  rw [hU0, hU1, hU2]
  have l4 : w.heap.size ≤ B4 := Nat.le_trans hB2.size b4
  have l5 : w.heap.size ≤ B5 := Nat.le_trans hB2.size b5
  have l6 : w.heap.size ≤ B6 := Nat.le_trans hB2.size b6
  clear hU0 hU1 hU2 hV0 hV1 hV2 k0 k1 k2 l0 l1 l2 b4 b5 b6 hHeld hB2 hlt
  have A1 : Hid (addRO (some x) (some y) = some (x + y)) := hide (addR_fit rx ry (by decide))
  have A2 : Hid (addRO (some y) (some x) = some (y + x)) := hide (addR_fit ry rx (by decide))
  have A3 : Hid (addRO (some (x + y)) (some z) = some (x + y + z)) := hide (addR_fit (rx.add ry) rz (by decide))
  have A4 : Hid (addRO (some y) (some z) = some (y + z)) := hide (addR_fit ry rz (by decide))
  have A5 : Hid (addRO (some x) (some (y + z)) = some (x + (y + z))) := hide (addR_fit rx (ry.add rz) (by decide))
  have A6 : Hid (addRO (some (x * y)) (some (x * z)) = some (x * y + x * z)) := hide (addR_fit (rb_mul rx ry) (rb_mul rx rz) (by decide))
  have M1 : Hid (mulRO (some x) (some y) = some (x * y)) := hide (mulR_fit rx ry (by decide))
  have M2 : Hid (mulRO (some y) (some x) = some (y * x)) := hide (mulR_fit ry rx (by decide))
  have M3 : Hid (mulRO (some (x * y)) (some z) = some (x * y * z)) := hide (mulR_fit (rb_mul rx ry) rz (by decide))
  have M4 : Hid (mulRO (some y) (some z) = some (y * z)) := hide (mulR_fit ry rz (by decide))
  have M5 : Hid (mulRO (some x) (some (y * z)) = some (x * (y * z))) := hide (mulR_fit rx (rb_mul ry rz) (by decide))
  have M6 : Hid (mulRO (some x) (some (y + z)) = some (x * (y + z))) := hide (mulR_fit rx (ry.add rz) (by decide))
  have M7 : Hid (mulRO (some x) (some z) = some (x * z)) := hide (mulR_fit rx rz (by decide))
  have E34 : Hid (y + x = x + y) := hide (Rat.add_comm y x)
  have E45 : Hid (y * x = x * y) := hide (Rat.mul_comm y x)
  have E63 : Hid (x + (y + z) = x + y + z) := hide ((Rat.add_assoc x y z).symm)
  have E81 : Hid (x * (y * z) = x * y * z) := hide ((Rat.mul_assoc x y z).symm)
  have E102 : Hid (x * y + x * z = x * (y + z)) := hide ((Rat.mul_add x y z).symm)
  have HS : Hid (subRO (some (x + y)) (some y) = some x) := hide (by
   show addR (x + y) (-y) = _
   rw [addR_fit (rx.add ry) ry.neg (by decide), Rat.add_assoc, ← Rat.sub_eq_add_neg, Rat.sub_self, Rat.add_zero])
  have HD : Hid (y ≠ 0 → divRO (some (x * y)) (some y) = some x) := hide (fun h => by
   show mulR (x * y).num y.den (x * y).den y.num = _
   rw [div_fitR (rb_mul rx ry) ry (by decide) h, Rat.div_def, Rat.mul_assoc, Rat.mul_inv_cancel _ h, Rat.mul_one])
  have HZ : Hid (y = 0 → divRO (some (x * y)) (some y) = none) := hide (fun h => by
   subst h
   exact divR_zero (rb_mul rx ry))
  have HG : Hid (y ≠ 0 → sgnO (some y) ≠ 0) := hide (fun h e => h (cmpR_eq.1 ((sgnR_eq y).symm.trans e)))
  have HG0 : Hid (y = 0 → sgnO (some y) = 0) := hide (fun h => by subst h; rfl)
  clear rx ry rz
  have ok7 := OkB.new w3
  have hk := below_alloc w3 (Obj.cells #[.bool true] 4)
  obtain ⟨V7, hV7⟩ : ∃ W, w3.alloc (Obj.cells #[.bool true] 4) = W := ⟨_, rfl⟩
  obtain ⟨B7, hB7⟩ : ∃ B, w3.heap.size = B := ⟨_, rfl⟩
  rw [hV7] at ok7 hk
  have hB := hB.trans (hk.mono hB.size)
  have H4 := H4.below hk
  have H5 := H5.below hk
  have H6 := H6.below hk
  clear hk
  rw [hB7] at ok7
  go_wp2_with fail
  try rw [hV7]
  try rw [hB7]
  clear hV7 hB7
  obtain ⟨S6, hS6⟩ : ∃ b, V7.drew.heap.size = b := ⟨_, rfl⟩
  have lS : S6 ≤ V7.drew.heap.size := by omega
  have l4E : B4 < S6 := by rw [← hS6]; exact H4.box.lt
  have l5E : B5 < S6 := by rw [← hS6]; exact H5.box.lt
  have l6E : B6 < S6 := by rw [← hS6]; exact H6.box.lt
  have l7E : B7 < S6 := by rw [← hS6]; exact lt_of_cell ok7.c
  clear hS6
  have hB := hB.drew
  have H4 := H4.below (Below.drew (Below.refl V7.heap.size V7))
  have H5 := H5.below (Below.drew (Below.refl V7.heap.size V7))
  have H6 := H6.below (Below.drew (Below.refl V7.heap.size V7))
  have ok7 := ok7.below (Below.drew (Below.refl V7.heap.size V7))
  refine wp_region_held_drew (S := fun w' => Below (S6) V7.drew w') (by kernel_rfl) (Below.refl _ _) (fun hHeld => ?_)
  obtain ⟨E6, hWE⟩ : ∃ W, V7.drew = W := ⟨_, rfl⟩
  rw [hWE] at hB H4 H5 H6 ok7 hHeld lS ⊢
  clear hWE
  have hE := Below.refl E6.heap.size E6
  have hS : Below S6 E6 E6 := Below.refl _ _
  have q4E := H4.box
  have q5E := H5.box
  have q6E := H6.box
  refine tk 0 (.func (.func 45) #[] #[.pointer (some ⟨B7, 0, none⟩)]) 26 rfl rfl ?_
  simp only [Act.put, pA, pB, pC]
  refine tk 1 (.agg #[.bool s17, .slice a17 n17 c17, .bool t17, .slice b17 m17 d17]) 27 rfl rfl ?_ (Or.inl ⟨by rfl, fun w' hSw => by obtain ⟨⟨z0, z1, z2, z3⟩, -, -, -, -⟩ := q4E.under hSw l4E; go_simp⟩)
  simp only [Act.put, pA, pB, pC]
  refine tk 2 (.agg #[.bool s20, .slice a20 n20 c20, .bool t20, .slice b20 m20 d20]) 28 rfl rfl ?_ (Or.inl ⟨by rfl, fun w' hSw => by obtain ⟨⟨z0, z1, z2, z3⟩, -, -, -, -⟩ := q5E.under hSw l5E; go_simp⟩)
  simp only [Act.put, pA, pB, pC]
  refine tk 4 (.func (.func 45) #[] #[.pointer (some ⟨B7, 0, none⟩)]) 30 rfl rfl ?_
  simp only [Act.put, pA, pB, pC]
  refine tk 5 (.agg #[.bool s20, .slice a20 n20 c20, .bool t20, .slice b20 m20 d20]) 31 rfl rfl ?_ (Or.inl ⟨by rfl, fun w' hSw => by obtain ⟨⟨z0, z1, z2, z3⟩, -, -, -, -⟩ := q5E.under hSw l5E; go_simp⟩)
  simp only [Act.put, pA, pB, pC]
  refine tk 6 (.agg #[.bool s17, .slice a17 n17 c17, .bool t17, .slice b17 m17 d17]) 32 rfl rfl ?_ (Or.inl ⟨by rfl, fun w' hSw => by obtain ⟨⟨z0, z1, z2, z3⟩, -, -, -, -⟩ := q4E.under hSw l4E; go_simp⟩)
  simp only [Act.put, pA, pB, pC]
  refine wpAnyH_one 3 (by kernel_rfl) ?_
  have cc := fadd_r s17 t17 s20 t20 a17 b17 a20 b20 n17 m17 n20 m20 c17 d17 c20 d20 x y (x + y) A1 B7 E6 ok7 H4.arg H5.arg
  refine wpOp_call (i := 3) (f := 45) (args := #[.agg #[.bool s17, .slice a17 n17 c17, .bool t17, .slice b17 m17 d17], .agg #[.bool s20, .slice a20 n20 c20, .bool t20, .slice b20 m20 d20], .pointer (some ⟨B7, 0, none⟩)]) 29 rfl rfl (by rfl) (by go_simp) ?_
  refine (cc).mono ?_
  rintro e r1 ⟨s29, a29, n29, c29, t29, b29, m29, d29, rfl, P1, P2, k1, k2, hk⟩
  clear cc
  have hE := hE.trans (hk.mono hE.size)
  have H4 := H4.below hk
  have H5 := H5.below hk
  have H6 := H6.below hk
  have ok7 := ok7.below hk
  have R29 := rarg_of (some (x + y)) P1 P2 k1 k2
  clear P1 P2 k1 k2
  have hS : Below S6 E6 r1 := hE.mono lS
  refine ⟨_, rfl, hS, ?_⟩
  simp only [Act.put, pA, pB, pC]
  refine wpAnyH_one 7 (by kernel_rfl) ?_
  have cc := fadd_r s20 t20 s17 t17 a20 b20 a17 b17 n20 m20 n17 m17 c20 d20 c17 d17 y x (y + x) A2 B7 r1 ok7 H5.arg H4.arg
  refine wpOp_call (i := 7) (f := 45) (args := #[.agg #[.bool s20, .slice a20 n20 c20, .bool t20, .slice b20 m20 d20], .agg #[.bool s17, .slice a17 n17 c17, .bool t17, .slice b17 m17 d17], .pointer (some ⟨B7, 0, none⟩)]) 33 rfl rfl (by rfl) (by go_simp) ?_
  refine (cc).mono ?_
  rintro e r2 ⟨s33, a33, n33, c33, t33, b33, m33, d33, rfl, P1, P2, k1, k2, hk⟩
  clear cc
  have hE := hE.trans (hk.mono hE.size)
  have H4 := H4.below hk
  have H5 := H5.below hk
  have H6 := H6.below hk
  have ok7 := ok7.below hk
  have R29 := R29.below hk
  have R33 := rarg_of (some (y + x)) P1 P2 k1 k2
  clear P1 P2 k1 k2
  have hS : Below S6 E6 r2 := hE.mono lS
  refine ⟨_, rfl, hS, ?_⟩
  simp only [Act.put, pA, pB, pC]
  refine wpAnyH_one 8 (by kernel_rfl) ?_
  have ry := R33
  rw [E34.out] at ry
  have cc := same_r s29 t29 s33 t33 a29 b29 a33 b33 n29 m29 n33 m33 c29 d29 c33 d33 _ _ R29.l1 R29.l2 r2 R29.num R29.den ry.num ry.den
  clear ry
  refine wpOp_call (i := 8) (f := 32) (args := #[.agg #[.bool s29, .slice a29 n29 c29, .bool t29, .slice b29 m29 d29], .agg #[.bool s33, .slice a33 n33 c33, .bool t33, .slice b33 m33 d33]]) 34 rfl rfl (by rfl) (by go_simp) ?_
  refine (cc).mono ?_
  rintro e r3 ⟨rfl, hk⟩
  clear cc
  have hE := hE.trans (hk.mono hE.size)
  have H4 := H4.below hk
  have H5 := H5.below hk
  have H6 := H6.below hk
  have ok7 := ok7.below hk
  have R29 := R29.below hk
  have R33 := R33.below hk
  clear R29 R33
  have hS : Below S6 E6 r3 := hE.mono lS
  refine ⟨_, rfl, hS, ?_⟩
  simp only [Act.put, pA, pB, pC]
  refine tk 9 (.bool false) 35 rfl rfl ?_
  simp only [Act.put, pA, pB, pC]
  refine tk 10 (.bool false) 36 rfl rfl ?_
  simp only [Act.put, pA, pB, pC]
  refine tk 11 (.func (.func 46) #[] #[.pointer (some ⟨B7, 0, none⟩)]) 37 rfl rfl ?_
  simp only [Act.put, pA, pB, pC]
  refine tk 12 (.agg #[.bool s17, .slice a17 n17 c17, .bool t17, .slice b17 m17 d17]) 38 rfl rfl ?_ (Or.inl ⟨by rfl, fun w' hSw => by obtain ⟨⟨z0, z1, z2, z3⟩, -, -, -, -⟩ := q4E.under hSw l4E; go_simp⟩)
  simp only [Act.put, pA, pB, pC]
  refine tk 13 (.agg #[.bool s20, .slice a20 n20 c20, .bool t20, .slice b20 m20 d20]) 39 rfl rfl ?_ (Or.inl ⟨by rfl, fun w' hSw => by obtain ⟨⟨z0, z1, z2, z3⟩, -, -, -, -⟩ := q5E.under hSw l5E; go_simp⟩)
  simp only [Act.put, pA, pB, pC]
  refine tk 15 (.func (.func 46) #[] #[.pointer (some ⟨B7, 0, none⟩)]) 41 rfl rfl ?_
  simp only [Act.put, pA, pB, pC]
  refine tk 16 (.agg #[.bool s20, .slice a20 n20 c20, .bool t20, .slice b20 m20 d20]) 42 rfl rfl ?_ (Or.inl ⟨by rfl, fun w' hSw => by obtain ⟨⟨z0, z1, z2, z3⟩, -, -, -, -⟩ := q5E.under hSw l5E; go_simp⟩)
  simp only [Act.put, pA, pB, pC]
  refine tk 17 (.agg #[.bool s17, .slice a17 n17 c17, .bool t17, .slice b17 m17 d17]) 43 rfl rfl ?_ (Or.inl ⟨by rfl, fun w' hSw => by obtain ⟨⟨z0, z1, z2, z3⟩, -, -, -, -⟩ := q4E.under hSw l4E; go_simp⟩)
  simp only [Act.put, pA, pB, pC]
  refine wpAnyH_one 14 (by kernel_rfl) ?_
  have cc := fmul_r s17 t17 s20 t20 a17 b17 a20 b20 n17 m17 n20 m20 c17 d17 c20 d20 x y (x * y) M1 B7 r3 ok7 H4.arg H5.arg
  refine wpOp_call (i := 14) (f := 46) (args := #[.agg #[.bool s17, .slice a17 n17 c17, .bool t17, .slice b17 m17 d17], .agg #[.bool s20, .slice a20 n20 c20, .bool t20, .slice b20 m20 d20], .pointer (some ⟨B7, 0, none⟩)]) 40 rfl rfl (by rfl) (by go_simp) ?_
  refine (cc).mono ?_
  rintro e r4 ⟨s40, a40, n40, c40, t40, b40, m40, d40, rfl, P1, P2, k1, k2, hk⟩
  clear cc
  have hE := hE.trans (hk.mono hE.size)
  have H4 := H4.below hk
  have H5 := H5.below hk
  have H6 := H6.below hk
  have ok7 := ok7.below hk
  have R40 := rarg_of (some (x * y)) P1 P2 k1 k2
  clear P1 P2 k1 k2
  have hS : Below S6 E6 r4 := hE.mono lS
  refine ⟨_, rfl, hS, ?_⟩
  simp only [Act.put, pA, pB, pC]
  refine wpAnyH_one 18 (by kernel_rfl) ?_
  have cc := fmul_r s20 t20 s17 t17 a20 b20 a17 b17 n20 m20 n17 m17 c20 d20 c17 d17 y x (y * x) M2 B7 r4 ok7 H5.arg H4.arg
  refine wpOp_call (i := 18) (f := 46) (args := #[.agg #[.bool s20, .slice a20 n20 c20, .bool t20, .slice b20 m20 d20], .agg #[.bool s17, .slice a17 n17 c17, .bool t17, .slice b17 m17 d17], .pointer (some ⟨B7, 0, none⟩)]) 44 rfl rfl (by rfl) (by go_simp) ?_
  refine (cc).mono ?_
  rintro e r5 ⟨s44, a44, n44, c44, t44, b44, m44, d44, rfl, P1, P2, k1, k2, hk⟩
  clear cc
  have hE := hE.trans (hk.mono hE.size)
  have H4 := H4.below hk
  have H5 := H5.below hk
  have H6 := H6.below hk
  have ok7 := ok7.below hk
  have R40 := R40.below hk
  have R44 := rarg_of (some (y * x)) P1 P2 k1 k2
  clear P1 P2 k1 k2
  have hS : Below S6 E6 r5 := hE.mono lS
  refine ⟨_, rfl, hS, ?_⟩
  simp only [Act.put, pA, pB, pC]
  refine wpAnyH_one 19 (by kernel_rfl) ?_
  have ry := R44
  rw [E45.out] at ry
  have cc := same_r s40 t40 s44 t44 a40 b40 a44 b44 n40 m40 n44 m44 c40 d40 c44 d44 _ _ R40.l1 R40.l2 r5 R40.num R40.den ry.num ry.den
  clear ry
  refine wpOp_call (i := 19) (f := 32) (args := #[.agg #[.bool s40, .slice a40 n40 c40, .bool t40, .slice b40 m40 d40], .agg #[.bool s44, .slice a44 n44 c44, .bool t44, .slice b44 m44 d44]]) 45 rfl rfl (by rfl) (by go_simp) ?_
  refine (cc).mono ?_
  rintro e r6 ⟨rfl, hk⟩
  clear cc
  have hE := hE.trans (hk.mono hE.size)
  have H4 := H4.below hk
  have H5 := H5.below hk
  have H6 := H6.below hk
  have ok7 := ok7.below hk
  have R40 := R40.below hk
  have R44 := R44.below hk
  clear R40 R44
  have hS : Below S6 E6 r6 := hE.mono lS
  refine ⟨_, rfl, hS, ?_⟩
  simp only [Act.put, pA, pB, pC]
  refine tk 20 (.bool false) 46 rfl rfl ?_
  simp only [Act.put, pA, pB, pC]
  refine tk 21 (.bool false) 47 rfl rfl ?_
  simp only [Act.put, pA, pB, pC]
  refine tk 22 (.bool false) 48 rfl rfl ?_
  simp only [Act.put, pA, pB, pC]
  refine tk 23 (.func (.func 45) #[] #[.pointer (some ⟨B7, 0, none⟩)]) 49 rfl rfl ?_
  simp only [Act.put, pA, pB, pC]
  refine tk 24 (.func (.func 45) #[] #[.pointer (some ⟨B7, 0, none⟩)]) 50 rfl rfl ?_
  simp only [Act.put, pA, pB, pC]
  refine tk 25 (.agg #[.bool s17, .slice a17 n17 c17, .bool t17, .slice b17 m17 d17]) 51 rfl rfl ?_ (Or.inl ⟨by rfl, fun w' hSw => by obtain ⟨⟨z0, z1, z2, z3⟩, -, -, -, -⟩ := q4E.under hSw l4E; go_simp⟩)
  simp only [Act.put, pA, pB, pC]
  refine tk 26 (.agg #[.bool s20, .slice a20 n20 c20, .bool t20, .slice b20 m20 d20]) 52 rfl rfl ?_ (Or.inl ⟨by rfl, fun w' hSw => by obtain ⟨⟨z0, z1, z2, z3⟩, -, -, -, -⟩ := q5E.under hSw l5E; go_simp⟩)
  simp only [Act.put, pA, pB, pC]
  refine tk 28 (.agg #[.bool s23, .slice a23 n23 c23, .bool t23, .slice b23 m23 d23]) 54 rfl rfl ?_ (Or.inl ⟨by rfl, fun w' hSw => by obtain ⟨⟨z0, z1, z2, z3⟩, -, -, -, -⟩ := q6E.under hSw l6E; go_simp⟩)
  simp only [Act.put, pA, pB, pC]
  refine tk 30 (.func (.func 45) #[] #[.pointer (some ⟨B7, 0, none⟩)]) 56 rfl rfl ?_
  simp only [Act.put, pA, pB, pC]
  refine tk 31 (.agg #[.bool s17, .slice a17 n17 c17, .bool t17, .slice b17 m17 d17]) 57 rfl rfl ?_ (Or.inl ⟨by rfl, fun w' hSw => by obtain ⟨⟨z0, z1, z2, z3⟩, -, -, -, -⟩ := q4E.under hSw l4E; go_simp⟩)
  simp only [Act.put, pA, pB, pC]
  refine tk 32 (.func (.func 45) #[] #[.pointer (some ⟨B7, 0, none⟩)]) 58 rfl rfl ?_
  simp only [Act.put, pA, pB, pC]
  refine tk 33 (.agg #[.bool s20, .slice a20 n20 c20, .bool t20, .slice b20 m20 d20]) 59 rfl rfl ?_ (Or.inl ⟨by rfl, fun w' hSw => by obtain ⟨⟨z0, z1, z2, z3⟩, -, -, -, -⟩ := q5E.under hSw l5E; go_simp⟩)
  simp only [Act.put, pA, pB, pC]
  refine tk 34 (.agg #[.bool s23, .slice a23 n23 c23, .bool t23, .slice b23 m23 d23]) 60 rfl rfl ?_ (Or.inl ⟨by rfl, fun w' hSw => by obtain ⟨⟨z0, z1, z2, z3⟩, -, -, -, -⟩ := q6E.under hSw l6E; go_simp⟩)
  simp only [Act.put, pA, pB, pC]
  refine wpAnyH_one 27 (by kernel_rfl) ?_
  have cc := fadd_r s17 t17 s20 t20 a17 b17 a20 b20 n17 m17 n20 m20 c17 d17 c20 d20 x y (x + y) A1 B7 r6 ok7 H4.arg H5.arg
  refine wpOp_call (i := 27) (f := 45) (args := #[.agg #[.bool s17, .slice a17 n17 c17, .bool t17, .slice b17 m17 d17], .agg #[.bool s20, .slice a20 n20 c20, .bool t20, .slice b20 m20 d20], .pointer (some ⟨B7, 0, none⟩)]) 53 rfl rfl (by rfl) (by go_simp) ?_
  refine (cc).mono ?_
  rintro e r7 ⟨s53, a53, n53, c53, t53, b53, m53, d53, rfl, P1, P2, k1, k2, hk⟩
  clear cc
  have hE := hE.trans (hk.mono hE.size)
  have H4 := H4.below hk
  have H5 := H5.below hk
  have H6 := H6.below hk
  have ok7 := ok7.below hk
  have R53 := rarg_of (some (x + y)) P1 P2 k1 k2
  clear P1 P2 k1 k2
  have hS : Below S6 E6 r7 := hE.mono lS
  refine ⟨_, rfl, hS, ?_⟩
  simp only [Act.put, pA, pB, pC]
  refine wpAnyH_one 29 (by kernel_rfl) ?_
  have cc := fadd_r s53 t53 s23 t23 a53 b53 a23 b23 n53 m53 n23 m23 c53 d53 c23 d23 (x + y) z (x + y + z) A3 B7 r7 ok7 R53 H6.arg
  refine wpOp_call (i := 29) (f := 45) (args := #[.agg #[.bool s53, .slice a53 n53 c53, .bool t53, .slice b53 m53 d53], .agg #[.bool s23, .slice a23 n23 c23, .bool t23, .slice b23 m23 d23], .pointer (some ⟨B7, 0, none⟩)]) 55 rfl rfl (by rfl) (by go_simp) ?_
  refine (cc).mono ?_
  rintro e r8 ⟨s55, a55, n55, c55, t55, b55, m55, d55, rfl, P1, P2, k1, k2, hk⟩
  clear cc
  have hE := hE.trans (hk.mono hE.size)
  have H4 := H4.below hk
  have H5 := H5.below hk
  have H6 := H6.below hk
  have ok7 := ok7.below hk
  have R53 := R53.below hk
  have R55 := rarg_of (some (x + y + z)) P1 P2 k1 k2
  clear P1 P2 k1 k2
  clear R53
  have hS : Below S6 E6 r8 := hE.mono lS
  refine ⟨_, rfl, hS, ?_⟩
  simp only [Act.put, pA, pB, pC]
  refine wpAnyH_one 35 (by kernel_rfl) ?_
  have cc := fadd_r s20 t20 s23 t23 a20 b20 a23 b23 n20 m20 n23 m23 c20 d20 c23 d23 y z (y + z) A4 B7 r8 ok7 H5.arg H6.arg
  refine wpOp_call (i := 35) (f := 45) (args := #[.agg #[.bool s20, .slice a20 n20 c20, .bool t20, .slice b20 m20 d20], .agg #[.bool s23, .slice a23 n23 c23, .bool t23, .slice b23 m23 d23], .pointer (some ⟨B7, 0, none⟩)]) 61 rfl rfl (by rfl) (by go_simp) ?_
  refine (cc).mono ?_
  rintro e r9 ⟨s61, a61, n61, c61, t61, b61, m61, d61, rfl, P1, P2, k1, k2, hk⟩
  clear cc
  have hE := hE.trans (hk.mono hE.size)
  have H4 := H4.below hk
  have H5 := H5.below hk
  have H6 := H6.below hk
  have ok7 := ok7.below hk
  have R55 := R55.below hk
  have R61 := rarg_of (some (y + z)) P1 P2 k1 k2
  clear P1 P2 k1 k2
  have hS : Below S6 E6 r9 := hE.mono lS
  refine ⟨_, rfl, hS, ?_⟩
  simp only [Act.put, pA, pB, pC]
  refine wpAnyH_one 36 (by kernel_rfl) ?_
  have cc := fadd_r s17 t17 s61 t61 a17 b17 a61 b61 n17 m17 n61 m61 c17 d17 c61 d61 x (y + z) (x + (y + z)) A5 B7 r9 ok7 H4.arg R61
  refine wpOp_call (i := 36) (f := 45) (args := #[.agg #[.bool s17, .slice a17 n17 c17, .bool t17, .slice b17 m17 d17], .agg #[.bool s61, .slice a61 n61 c61, .bool t61, .slice b61 m61 d61], .pointer (some ⟨B7, 0, none⟩)]) 62 rfl rfl (by rfl) (by go_simp) ?_
  refine (cc).mono ?_
  rintro e r10 ⟨s62, a62, n62, c62, t62, b62, m62, d62, rfl, P1, P2, k1, k2, hk⟩
  clear cc
  have hE := hE.trans (hk.mono hE.size)
  have H4 := H4.below hk
  have H5 := H5.below hk
  have H6 := H6.below hk
  have ok7 := ok7.below hk
  have R55 := R55.below hk
  have R61 := R61.below hk
  have R62 := rarg_of (some (x + (y + z))) P1 P2 k1 k2
  clear P1 P2 k1 k2
  clear R61
  have hS : Below S6 E6 r10 := hE.mono lS
  refine ⟨_, rfl, hS, ?_⟩
  simp only [Act.put, pA, pB, pC]
  refine wpAnyH_one 37 (by kernel_rfl) ?_
  have ry := R62
  rw [E63.out] at ry
  have cc := same_r s55 t55 s62 t62 a55 b55 a62 b62 n55 m55 n62 m62 c55 d55 c62 d62 _ _ R55.l1 R55.l2 r10 R55.num R55.den ry.num ry.den
  clear ry
  refine wpOp_call (i := 37) (f := 32) (args := #[.agg #[.bool s55, .slice a55 n55 c55, .bool t55, .slice b55 m55 d55], .agg #[.bool s62, .slice a62 n62 c62, .bool t62, .slice b62 m62 d62]]) 63 rfl rfl (by rfl) (by go_simp) ?_
  refine (cc).mono ?_
  rintro e r11 ⟨rfl, hk⟩
  clear cc
  have hE := hE.trans (hk.mono hE.size)
  have H4 := H4.below hk
  have H5 := H5.below hk
  have H6 := H6.below hk
  have ok7 := ok7.below hk
  have R55 := R55.below hk
  have R62 := R62.below hk
  clear R55 R62
  have hS : Below S6 E6 r11 := hE.mono lS
  refine ⟨_, rfl, hS, ?_⟩
  simp only [Act.put, pA, pB, pC]
  refine tk 38 (.bool false) 64 rfl rfl ?_
  simp only [Act.put, pA, pB, pC]
  refine tk 39 (.bool false) 65 rfl rfl ?_
  simp only [Act.put, pA, pB, pC]
  refine tk 40 (.bool false) 66 rfl rfl ?_
  simp only [Act.put, pA, pB, pC]
  refine tk 41 (.func (.func 46) #[] #[.pointer (some ⟨B7, 0, none⟩)]) 67 rfl rfl ?_
  simp only [Act.put, pA, pB, pC]
  refine tk 42 (.func (.func 46) #[] #[.pointer (some ⟨B7, 0, none⟩)]) 68 rfl rfl ?_
  simp only [Act.put, pA, pB, pC]
  refine tk 43 (.agg #[.bool s17, .slice a17 n17 c17, .bool t17, .slice b17 m17 d17]) 69 rfl rfl ?_ (Or.inl ⟨by rfl, fun w' hSw => by obtain ⟨⟨z0, z1, z2, z3⟩, -, -, -, -⟩ := q4E.under hSw l4E; go_simp⟩)
  simp only [Act.put, pA, pB, pC]
  refine tk 44 (.agg #[.bool s20, .slice a20 n20 c20, .bool t20, .slice b20 m20 d20]) 70 rfl rfl ?_ (Or.inl ⟨by rfl, fun w' hSw => by obtain ⟨⟨z0, z1, z2, z3⟩, -, -, -, -⟩ := q5E.under hSw l5E; go_simp⟩)
  simp only [Act.put, pA, pB, pC]
  refine tk 46 (.agg #[.bool s23, .slice a23 n23 c23, .bool t23, .slice b23 m23 d23]) 72 rfl rfl ?_ (Or.inl ⟨by rfl, fun w' hSw => by obtain ⟨⟨z0, z1, z2, z3⟩, -, -, -, -⟩ := q6E.under hSw l6E; go_simp⟩)
  simp only [Act.put, pA, pB, pC]
  refine tk 48 (.func (.func 46) #[] #[.pointer (some ⟨B7, 0, none⟩)]) 74 rfl rfl ?_
  simp only [Act.put, pA, pB, pC]
  refine tk 49 (.agg #[.bool s17, .slice a17 n17 c17, .bool t17, .slice b17 m17 d17]) 75 rfl rfl ?_ (Or.inl ⟨by rfl, fun w' hSw => by obtain ⟨⟨z0, z1, z2, z3⟩, -, -, -, -⟩ := q4E.under hSw l4E; go_simp⟩)
  simp only [Act.put, pA, pB, pC]
  refine tk 50 (.func (.func 46) #[] #[.pointer (some ⟨B7, 0, none⟩)]) 76 rfl rfl ?_
  simp only [Act.put, pA, pB, pC]
  refine tk 51 (.agg #[.bool s20, .slice a20 n20 c20, .bool t20, .slice b20 m20 d20]) 77 rfl rfl ?_ (Or.inl ⟨by rfl, fun w' hSw => by obtain ⟨⟨z0, z1, z2, z3⟩, -, -, -, -⟩ := q5E.under hSw l5E; go_simp⟩)
  simp only [Act.put, pA, pB, pC]
  refine tk 52 (.agg #[.bool s23, .slice a23 n23 c23, .bool t23, .slice b23 m23 d23]) 78 rfl rfl ?_ (Or.inl ⟨by rfl, fun w' hSw => by obtain ⟨⟨z0, z1, z2, z3⟩, -, -, -, -⟩ := q6E.under hSw l6E; go_simp⟩)
  simp only [Act.put, pA, pB, pC]
  refine wpAnyH_one 45 (by kernel_rfl) ?_
  have cc := fmul_r s17 t17 s20 t20 a17 b17 a20 b20 n17 m17 n20 m20 c17 d17 c20 d20 x y (x * y) M1 B7 r11 ok7 H4.arg H5.arg
  refine wpOp_call (i := 45) (f := 46) (args := #[.agg #[.bool s17, .slice a17 n17 c17, .bool t17, .slice b17 m17 d17], .agg #[.bool s20, .slice a20 n20 c20, .bool t20, .slice b20 m20 d20], .pointer (some ⟨B7, 0, none⟩)]) 71 rfl rfl (by rfl) (by go_simp) ?_
  refine (cc).mono ?_
  rintro e r12 ⟨s71, a71, n71, c71, t71, b71, m71, d71, rfl, P1, P2, k1, k2, hk⟩
  clear cc
  have hE := hE.trans (hk.mono hE.size)
  have H4 := H4.below hk
  have H5 := H5.below hk
  have H6 := H6.below hk
  have ok7 := ok7.below hk
  have R71 := rarg_of (some (x * y)) P1 P2 k1 k2
  clear P1 P2 k1 k2
  have hS : Below S6 E6 r12 := hE.mono lS
  refine ⟨_, rfl, hS, ?_⟩
  simp only [Act.put, pA, pB, pC]
  refine wpAnyH_one 47 (by kernel_rfl) ?_
  have cc := fmul_r s71 t71 s23 t23 a71 b71 a23 b23 n71 m71 n23 m23 c71 d71 c23 d23 (x * y) z (x * y * z) M3 B7 r12 ok7 R71 H6.arg
  refine wpOp_call (i := 47) (f := 46) (args := #[.agg #[.bool s71, .slice a71 n71 c71, .bool t71, .slice b71 m71 d71], .agg #[.bool s23, .slice a23 n23 c23, .bool t23, .slice b23 m23 d23], .pointer (some ⟨B7, 0, none⟩)]) 73 rfl rfl (by rfl) (by go_simp) ?_
  refine (cc).mono ?_
  rintro e r13 ⟨s73, a73, n73, c73, t73, b73, m73, d73, rfl, P1, P2, k1, k2, hk⟩
  clear cc
  have hE := hE.trans (hk.mono hE.size)
  have H4 := H4.below hk
  have H5 := H5.below hk
  have H6 := H6.below hk
  have ok7 := ok7.below hk
  have R71 := R71.below hk
  have R73 := rarg_of (some (x * y * z)) P1 P2 k1 k2
  clear P1 P2 k1 k2
  clear R71
  have hS : Below S6 E6 r13 := hE.mono lS
  refine ⟨_, rfl, hS, ?_⟩
  simp only [Act.put, pA, pB, pC]
  refine wpAnyH_one 53 (by kernel_rfl) ?_
  have cc := fmul_r s20 t20 s23 t23 a20 b20 a23 b23 n20 m20 n23 m23 c20 d20 c23 d23 y z (y * z) M4 B7 r13 ok7 H5.arg H6.arg
  refine wpOp_call (i := 53) (f := 46) (args := #[.agg #[.bool s20, .slice a20 n20 c20, .bool t20, .slice b20 m20 d20], .agg #[.bool s23, .slice a23 n23 c23, .bool t23, .slice b23 m23 d23], .pointer (some ⟨B7, 0, none⟩)]) 79 rfl rfl (by rfl) (by go_simp) ?_
  refine (cc).mono ?_
  rintro e r14 ⟨s79, a79, n79, c79, t79, b79, m79, d79, rfl, P1, P2, k1, k2, hk⟩
  clear cc
  have hE := hE.trans (hk.mono hE.size)
  have H4 := H4.below hk
  have H5 := H5.below hk
  have H6 := H6.below hk
  have ok7 := ok7.below hk
  have R73 := R73.below hk
  have R79 := rarg_of (some (y * z)) P1 P2 k1 k2
  clear P1 P2 k1 k2
  have hS : Below S6 E6 r14 := hE.mono lS
  refine ⟨_, rfl, hS, ?_⟩
  simp only [Act.put, pA, pB, pC]
  refine wpAnyH_one 54 (by kernel_rfl) ?_
  have cc := fmul_r s17 t17 s79 t79 a17 b17 a79 b79 n17 m17 n79 m79 c17 d17 c79 d79 x (y * z) (x * (y * z)) M5 B7 r14 ok7 H4.arg R79
  refine wpOp_call (i := 54) (f := 46) (args := #[.agg #[.bool s17, .slice a17 n17 c17, .bool t17, .slice b17 m17 d17], .agg #[.bool s79, .slice a79 n79 c79, .bool t79, .slice b79 m79 d79], .pointer (some ⟨B7, 0, none⟩)]) 80 rfl rfl (by rfl) (by go_simp) ?_
  refine (cc).mono ?_
  rintro e r15 ⟨s80, a80, n80, c80, t80, b80, m80, d80, rfl, P1, P2, k1, k2, hk⟩
  clear cc
  have hE := hE.trans (hk.mono hE.size)
  have H4 := H4.below hk
  have H5 := H5.below hk
  have H6 := H6.below hk
  have ok7 := ok7.below hk
  have R73 := R73.below hk
  have R79 := R79.below hk
  have R80 := rarg_of (some (x * (y * z))) P1 P2 k1 k2
  clear P1 P2 k1 k2
  clear R79
  have hS : Below S6 E6 r15 := hE.mono lS
  refine ⟨_, rfl, hS, ?_⟩
  simp only [Act.put, pA, pB, pC]
  refine wpAnyH_one 55 (by kernel_rfl) ?_
  have ry := R80
  rw [E81.out] at ry
  have cc := same_r s73 t73 s80 t80 a73 b73 a80 b80 n73 m73 n80 m80 c73 d73 c80 d80 _ _ R73.l1 R73.l2 r15 R73.num R73.den ry.num ry.den
  clear ry
  refine wpOp_call (i := 55) (f := 32) (args := #[.agg #[.bool s73, .slice a73 n73 c73, .bool t73, .slice b73 m73 d73], .agg #[.bool s80, .slice a80 n80 c80, .bool t80, .slice b80 m80 d80]]) 81 rfl rfl (by rfl) (by go_simp) ?_
  refine (cc).mono ?_
  rintro e r16 ⟨rfl, hk⟩
  clear cc
  have hE := hE.trans (hk.mono hE.size)
  have H4 := H4.below hk
  have H5 := H5.below hk
  have H6 := H6.below hk
  have ok7 := ok7.below hk
  have R73 := R73.below hk
  have R80 := R80.below hk
  clear R73 R80
  have hS : Below S6 E6 r16 := hE.mono lS
  refine ⟨_, rfl, hS, ?_⟩
  simp only [Act.put, pA, pB, pC]
  refine tk 56 (.bool false) 82 rfl rfl ?_
  simp only [Act.put, pA, pB, pC]
  refine tk 57 (.bool false) 83 rfl rfl ?_
  simp only [Act.put, pA, pB, pC]
  refine tk 58 (.bool false) 84 rfl rfl ?_
  simp only [Act.put, pA, pB, pC]
  refine tk 59 (.func (.func 46) #[] #[.pointer (some ⟨B7, 0, none⟩)]) 85 rfl rfl ?_
  simp only [Act.put, pA, pB, pC]
  refine tk 60 (.agg #[.bool s17, .slice a17 n17 c17, .bool t17, .slice b17 m17 d17]) 86 rfl rfl ?_ (Or.inl ⟨by rfl, fun w' hSw => by obtain ⟨⟨z0, z1, z2, z3⟩, -, -, -, -⟩ := q4E.under hSw l4E; go_simp⟩)
  simp only [Act.put, pA, pB, pC]
  refine tk 61 (.func (.func 45) #[] #[.pointer (some ⟨B7, 0, none⟩)]) 87 rfl rfl ?_
  simp only [Act.put, pA, pB, pC]
  refine tk 62 (.agg #[.bool s20, .slice a20 n20 c20, .bool t20, .slice b20 m20 d20]) 88 rfl rfl ?_ (Or.inl ⟨by rfl, fun w' hSw => by obtain ⟨⟨z0, z1, z2, z3⟩, -, -, -, -⟩ := q5E.under hSw l5E; go_simp⟩)
  simp only [Act.put, pA, pB, pC]
  refine tk 63 (.agg #[.bool s23, .slice a23 n23 c23, .bool t23, .slice b23 m23 d23]) 89 rfl rfl ?_ (Or.inl ⟨by rfl, fun w' hSw => by obtain ⟨⟨z0, z1, z2, z3⟩, -, -, -, -⟩ := q6E.under hSw l6E; go_simp⟩)
  simp only [Act.put, pA, pB, pC]
  refine tk 66 (.func (.func 45) #[] #[.pointer (some ⟨B7, 0, none⟩)]) 92 rfl rfl ?_
  simp only [Act.put, pA, pB, pC]
  refine tk 67 (.func (.func 46) #[] #[.pointer (some ⟨B7, 0, none⟩)]) 93 rfl rfl ?_
  simp only [Act.put, pA, pB, pC]
  refine tk 68 (.agg #[.bool s17, .slice a17 n17 c17, .bool t17, .slice b17 m17 d17]) 94 rfl rfl ?_ (Or.inl ⟨by rfl, fun w' hSw => by obtain ⟨⟨z0, z1, z2, z3⟩, -, -, -, -⟩ := q4E.under hSw l4E; go_simp⟩)
  simp only [Act.put, pA, pB, pC]
  refine tk 69 (.agg #[.bool s20, .slice a20 n20 c20, .bool t20, .slice b20 m20 d20]) 95 rfl rfl ?_ (Or.inl ⟨by rfl, fun w' hSw => by obtain ⟨⟨z0, z1, z2, z3⟩, -, -, -, -⟩ := q5E.under hSw l5E; go_simp⟩)
  simp only [Act.put, pA, pB, pC]
  refine tk 71 (.func (.func 46) #[] #[.pointer (some ⟨B7, 0, none⟩)]) 97 rfl rfl ?_
  simp only [Act.put, pA, pB, pC]
  refine tk 72 (.agg #[.bool s17, .slice a17 n17 c17, .bool t17, .slice b17 m17 d17]) 98 rfl rfl ?_ (Or.inl ⟨by rfl, fun w' hSw => by obtain ⟨⟨z0, z1, z2, z3⟩, -, -, -, -⟩ := q4E.under hSw l4E; go_simp⟩)
  simp only [Act.put, pA, pB, pC]
  refine tk 73 (.agg #[.bool s23, .slice a23 n23 c23, .bool t23, .slice b23 m23 d23]) 99 rfl rfl ?_ (Or.inl ⟨by rfl, fun w' hSw => by obtain ⟨⟨z0, z1, z2, z3⟩, -, -, -, -⟩ := q6E.under hSw l6E; go_simp⟩)
  simp only [Act.put, pA, pB, pC]
  refine wpAnyH_one 64 (by kernel_rfl) ?_
  have cc := fadd_r s20 t20 s23 t23 a20 b20 a23 b23 n20 m20 n23 m23 c20 d20 c23 d23 y z (y + z) A4 B7 r16 ok7 H5.arg H6.arg
  refine wpOp_call (i := 64) (f := 45) (args := #[.agg #[.bool s20, .slice a20 n20 c20, .bool t20, .slice b20 m20 d20], .agg #[.bool s23, .slice a23 n23 c23, .bool t23, .slice b23 m23 d23], .pointer (some ⟨B7, 0, none⟩)]) 90 rfl rfl (by rfl) (by go_simp) ?_
  refine (cc).mono ?_
  rintro e r17 ⟨s90, a90, n90, c90, t90, b90, m90, d90, rfl, P1, P2, k1, k2, hk⟩
  clear cc
  have hE := hE.trans (hk.mono hE.size)
  have H4 := H4.below hk
  have H5 := H5.below hk
  have H6 := H6.below hk
  have ok7 := ok7.below hk
  have R90 := rarg_of (some (y + z)) P1 P2 k1 k2
  clear P1 P2 k1 k2
  have hS : Below S6 E6 r17 := hE.mono lS
  refine ⟨_, rfl, hS, ?_⟩
  simp only [Act.put, pA, pB, pC]
  refine wpAnyH_one 65 (by kernel_rfl) ?_
  have cc := fmul_r s17 t17 s90 t90 a17 b17 a90 b90 n17 m17 n90 m90 c17 d17 c90 d90 x (y + z) (x * (y + z)) M6 B7 r17 ok7 H4.arg R90
  refine wpOp_call (i := 65) (f := 46) (args := #[.agg #[.bool s17, .slice a17 n17 c17, .bool t17, .slice b17 m17 d17], .agg #[.bool s90, .slice a90 n90 c90, .bool t90, .slice b90 m90 d90], .pointer (some ⟨B7, 0, none⟩)]) 91 rfl rfl (by rfl) (by go_simp) ?_
  refine (cc).mono ?_
  rintro e r18 ⟨s91, a91, n91, c91, t91, b91, m91, d91, rfl, P1, P2, k1, k2, hk⟩
  clear cc
  have hE := hE.trans (hk.mono hE.size)
  have H4 := H4.below hk
  have H5 := H5.below hk
  have H6 := H6.below hk
  have ok7 := ok7.below hk
  have R90 := R90.below hk
  have R91 := rarg_of (some (x * (y + z))) P1 P2 k1 k2
  clear P1 P2 k1 k2
  clear R90
  have hS : Below S6 E6 r18 := hE.mono lS
  refine ⟨_, rfl, hS, ?_⟩
  simp only [Act.put, pA, pB, pC]
  refine wpAnyH_one 70 (by kernel_rfl) ?_
  have cc := fmul_r s17 t17 s20 t20 a17 b17 a20 b20 n17 m17 n20 m20 c17 d17 c20 d20 x y (x * y) M1 B7 r18 ok7 H4.arg H5.arg
  refine wpOp_call (i := 70) (f := 46) (args := #[.agg #[.bool s17, .slice a17 n17 c17, .bool t17, .slice b17 m17 d17], .agg #[.bool s20, .slice a20 n20 c20, .bool t20, .slice b20 m20 d20], .pointer (some ⟨B7, 0, none⟩)]) 96 rfl rfl (by rfl) (by go_simp) ?_
  refine (cc).mono ?_
  rintro e r19 ⟨s96, a96, n96, c96, t96, b96, m96, d96, rfl, P1, P2, k1, k2, hk⟩
  clear cc
  have hE := hE.trans (hk.mono hE.size)
  have H4 := H4.below hk
  have H5 := H5.below hk
  have H6 := H6.below hk
  have ok7 := ok7.below hk
  have R91 := R91.below hk
  have R96 := rarg_of (some (x * y)) P1 P2 k1 k2
  clear P1 P2 k1 k2
  have hS : Below S6 E6 r19 := hE.mono lS
  refine ⟨_, rfl, hS, ?_⟩
  simp only [Act.put, pA, pB, pC]
  refine wpAnyH_one 74 (by kernel_rfl) ?_
  have cc := fmul_r s17 t17 s23 t23 a17 b17 a23 b23 n17 m17 n23 m23 c17 d17 c23 d23 x z (x * z) M7 B7 r19 ok7 H4.arg H6.arg
  refine wpOp_call (i := 74) (f := 46) (args := #[.agg #[.bool s17, .slice a17 n17 c17, .bool t17, .slice b17 m17 d17], .agg #[.bool s23, .slice a23 n23 c23, .bool t23, .slice b23 m23 d23], .pointer (some ⟨B7, 0, none⟩)]) 100 rfl rfl (by rfl) (by go_simp) ?_
  refine (cc).mono ?_
  rintro e r20 ⟨s100, a100, n100, c100, t100, b100, m100, d100, rfl, P1, P2, k1, k2, hk⟩
  clear cc
  have hE := hE.trans (hk.mono hE.size)
  have H4 := H4.below hk
  have H5 := H5.below hk
  have H6 := H6.below hk
  have ok7 := ok7.below hk
  have R91 := R91.below hk
  have R96 := R96.below hk
  have R100 := rarg_of (some (x * z)) P1 P2 k1 k2
  clear P1 P2 k1 k2
  have hS : Below S6 E6 r20 := hE.mono lS
  refine ⟨_, rfl, hS, ?_⟩
  simp only [Act.put, pA, pB, pC]
  refine wpAnyH_one 75 (by kernel_rfl) ?_
  have cc := fadd_r s96 t96 s100 t100 a96 b96 a100 b100 n96 m96 n100 m100 c96 d96 c100 d100 (x * y) (x * z) (x * y + x * z) A6 B7 r20 ok7 R96 R100
  refine wpOp_call (i := 75) (f := 45) (args := #[.agg #[.bool s96, .slice a96 n96 c96, .bool t96, .slice b96 m96 d96], .agg #[.bool s100, .slice a100 n100 c100, .bool t100, .slice b100 m100 d100], .pointer (some ⟨B7, 0, none⟩)]) 101 rfl rfl (by rfl) (by go_simp) ?_
  refine (cc).mono ?_
  rintro e r21 ⟨s101, a101, n101, c101, t101, b101, m101, d101, rfl, P1, P2, k1, k2, hk⟩
  clear cc
  have hE := hE.trans (hk.mono hE.size)
  have H4 := H4.below hk
  have H5 := H5.below hk
  have H6 := H6.below hk
  have ok7 := ok7.below hk
  have R91 := R91.below hk
  have R96 := R96.below hk
  have R100 := R100.below hk
  have R101 := rarg_of (some (x * y + x * z)) P1 P2 k1 k2
  clear P1 P2 k1 k2
  clear R96 R100
  have hS : Below S6 E6 r21 := hE.mono lS
  refine ⟨_, rfl, hS, ?_⟩
  simp only [Act.put, pA, pB, pC]
  refine wpAnyH_one 76 (by kernel_rfl) ?_
  have ry := R101
  rw [E102.out] at ry
  have cc := same_r s91 t91 s101 t101 a91 b91 a101 b101 n91 m91 n101 m101 c91 d91 c101 d101 _ _ R91.l1 R91.l2 r21 R91.num R91.den ry.num ry.den
  clear ry
  refine wpOp_call (i := 76) (f := 32) (args := #[.agg #[.bool s91, .slice a91 n91 c91, .bool t91, .slice b91 m91 d91], .agg #[.bool s101, .slice a101 n101 c101, .bool t101, .slice b101 m101 d101]]) 102 rfl rfl (by rfl) (by go_simp) ?_
  refine (cc).mono ?_
  rintro e r22 ⟨rfl, hk⟩
  clear cc
  have hE := hE.trans (hk.mono hE.size)
  have H4 := H4.below hk
  have H5 := H5.below hk
  have H6 := H6.below hk
  have ok7 := ok7.below hk
  have R91 := R91.below hk
  have R101 := R101.below hk
  clear R91 R101
  have hS : Below S6 E6 r22 := hE.mono lS
  refine ⟨_, rfl, hS, ?_⟩
  simp only [Act.put, pA, pB, pC]
  refine tk 77 (.bool false) 103 rfl rfl ?_
  simp only [Act.put, pA, pB, pC]
  refine tk 78 (.bool false) 104 rfl rfl ?_
  simp only [Act.put, pA, pB, pC]
  refine wpAnyH_done (by kernel_rfl) ?_ _
  have hB := hB.trans (hE.mono hB.size)
  clear q4E q5E q6E
  go_wp2_with fail
  have hB := hB.drew
  have H4 := H4.below (Below.drew (Below.refl r22.heap.size r22))
  have H5 := H5.below (Below.drew (Below.refl r22.heap.size r22))
  have H6 := H6.below (Below.drew (Below.refl r22.heap.size r22))
  have ok7 := ok7.below (Below.drew (Below.refl r22.heap.size r22))
  refine wp_region_held_drew (S := fun w' => Below (r22.drew.heap.size) r22.drew w') (by kernel_rfl) (Below.refl _ _) (fun hHeld => ?_)
  obtain ⟨E8, hWE⟩ : ∃ W, r22.drew = W := ⟨_, rfl⟩
  rw [hWE] at hB H4 H5 H6 ok7 hHeld ⊢
  clear hWE
  have hE := Below.refl E8.heap.size E8
  clear hHeld
  refine dagT 12 rfl (fun X => ⟨#[.agg #[.slice x0 L0 d0, .slice x1 L1 d1, .slice x2 L2 d2], .pointer (some ⟨w.heap.size, 0, none⟩), .bool false, .bool true, .pointer (some ⟨B4, 0, none⟩), .pointer (some ⟨B5, 0, none⟩), .pointer (some ⟨B6, 0, none⟩), .pointer (some ⟨B7, 0, none⟩), .func (.func 45) #[] #[.pointer (some ⟨B7, 0, none⟩)], .func (.func 46) #[] #[.pointer (some ⟨B7, 0, none⟩)], X 9, X 11, undef, undef, .bool true, .pointer (some ⟨w.heap.size, 0, none⟩), .slice x0 L0 d0, V 0, .pointer (some ⟨w.heap.size, 1, none⟩), .slice x1 L1 d1, V 1, .pointer (some ⟨w.heap.size, 2, none⟩), .slice x2 L2 d2, V 2, .func (.func 45) #[] #[.pointer (some ⟨B7, 0, none⟩)], .func (.func 46) #[] #[.pointer (some ⟨B7, 0, none⟩)], .func (.func 45) #[] #[.pointer (some ⟨B7, 0, none⟩)], .agg #[.bool s17, .slice a17 n17 c17, .bool t17, .slice b17 m17 d17], .agg #[.bool s20, .slice a20 n20 c20, .bool t20, .slice b20 m20 d20], .agg #[.bool s29, .slice a29 n29 c29, .bool t29, .slice b29 m29 d29], .func (.func 45) #[] #[.pointer (some ⟨B7, 0, none⟩)], .agg #[.bool s20, .slice a20 n20 c20, .bool t20, .slice b20 m20 d20], .agg #[.bool s17, .slice a17 n17 c17, .bool t17, .slice b17 m17 d17], .agg #[.bool s33, .slice a33 n33 c33, .bool t33, .slice b33 m33 d33], .bool true, .bool false, .bool false, .func (.func 46) #[] #[.pointer (some ⟨B7, 0, none⟩)], .agg #[.bool s17, .slice a17 n17 c17, .bool t17, .slice b17 m17 d17], .agg #[.bool s20, .slice a20 n20 c20, .bool t20, .slice b20 m20 d20], .agg #[.bool s40, .slice a40 n40 c40, .bool t40, .slice b40 m40 d40], .func (.func 46) #[] #[.pointer (some ⟨B7, 0, none⟩)], .agg #[.bool s20, .slice a20 n20 c20, .bool t20, .slice b20 m20 d20], .agg #[.bool s17, .slice a17 n17 c17, .bool t17, .slice b17 m17 d17], .agg #[.bool s44, .slice a44 n44 c44, .bool t44, .slice b44 m44 d44], .bool true, .bool false, .bool false, .bool false, .func (.func 45) #[] #[.pointer (some ⟨B7, 0, none⟩)], .func (.func 45) #[] #[.pointer (some ⟨B7, 0, none⟩)], .agg #[.bool s17, .slice a17 n17 c17, .bool t17, .slice b17 m17 d17], .agg #[.bool s20, .slice a20 n20 c20, .bool t20, .slice b20 m20 d20], .agg #[.bool s53, .slice a53 n53 c53, .bool t53, .slice b53 m53 d53], .agg #[.bool s23, .slice a23 n23 c23, .bool t23, .slice b23 m23 d23], .agg #[.bool s55, .slice a55 n55 c55, .bool t55, .slice b55 m55 d55], .func (.func 45) #[] #[.pointer (some ⟨B7, 0, none⟩)], .agg #[.bool s17, .slice a17 n17 c17, .bool t17, .slice b17 m17 d17], .func (.func 45) #[] #[.pointer (some ⟨B7, 0, none⟩)], .agg #[.bool s20, .slice a20 n20 c20, .bool t20, .slice b20 m20 d20], .agg #[.bool s23, .slice a23 n23 c23, .bool t23, .slice b23 m23 d23], .agg #[.bool s61, .slice a61 n61 c61, .bool t61, .slice b61 m61 d61], .agg #[.bool s62, .slice a62 n62 c62, .bool t62, .slice b62 m62 d62], .bool true, .bool false, .bool false, .bool false, .func (.func 46) #[] #[.pointer (some ⟨B7, 0, none⟩)], .func (.func 46) #[] #[.pointer (some ⟨B7, 0, none⟩)], .agg #[.bool s17, .slice a17 n17 c17, .bool t17, .slice b17 m17 d17], .agg #[.bool s20, .slice a20 n20 c20, .bool t20, .slice b20 m20 d20], .agg #[.bool s71, .slice a71 n71 c71, .bool t71, .slice b71 m71 d71], .agg #[.bool s23, .slice a23 n23 c23, .bool t23, .slice b23 m23 d23], .agg #[.bool s73, .slice a73 n73 c73, .bool t73, .slice b73 m73 d73], .func (.func 46) #[] #[.pointer (some ⟨B7, 0, none⟩)], .agg #[.bool s17, .slice a17 n17 c17, .bool t17, .slice b17 m17 d17], .func (.func 46) #[] #[.pointer (some ⟨B7, 0, none⟩)], .agg #[.bool s20, .slice a20 n20 c20, .bool t20, .slice b20 m20 d20], .agg #[.bool s23, .slice a23 n23 c23, .bool t23, .slice b23 m23 d23], .agg #[.bool s79, .slice a79 n79 c79, .bool t79, .slice b79 m79 d79], .agg #[.bool s80, .slice a80 n80 c80, .bool t80, .slice b80 m80 d80], .bool true, .bool false, .bool false, .bool false, .func (.func 46) #[] #[.pointer (some ⟨B7, 0, none⟩)], .agg #[.bool s17, .slice a17 n17 c17, .bool t17, .slice b17 m17 d17], .func (.func 45) #[] #[.pointer (some ⟨B7, 0, none⟩)], .agg #[.bool s20, .slice a20 n20 c20, .bool t20, .slice b20 m20 d20], .agg #[.bool s23, .slice a23 n23 c23, .bool t23, .slice b23 m23 d23], .agg #[.bool s90, .slice a90 n90 c90, .bool t90, .slice b90 m90 d90], .agg #[.bool s91, .slice a91 n91 c91, .bool t91, .slice b91 m91 d91], .func (.func 45) #[] #[.pointer (some ⟨B7, 0, none⟩)], .func (.func 46) #[] #[.pointer (some ⟨B7, 0, none⟩)], .agg #[.bool s17, .slice a17 n17 c17, .bool t17, .slice b17 m17 d17], .agg #[.bool s20, .slice a20 n20 c20, .bool t20, .slice b20 m20 d20], .agg #[.bool s96, .slice a96 n96 c96, .bool t96, .slice b96 m96 d96], .func (.func 46) #[] #[.pointer (some ⟨B7, 0, none⟩)], .agg #[.bool s17, .slice a17 n17 c17, .bool t17, .slice b17 m17 d17], .agg #[.bool s23, .slice a23 n23 c23, .bool t23, .slice b23 m23 d23], .agg #[.bool s100, .slice a100 n100 c100, .bool t100, .slice b100 m100 d100], .agg #[.bool s101, .slice a101 n101 c101, .bool t101, .slice b101 m101 d101], .bool true, .bool false, .bool false, X 6, X 0, X 1, X 2, X 3, X 4, X 5, X 7, X 8, undef, undef, undef, undef, undef, undef, undef, undef, undef, undef, undef, undef, undef, undef, undef, undef, undef, undef, undef, undef, undef, undef, undef, undef, undef, undef, undef, undef, undef, undef, undef, undef, undef, undef, undef, undef, undef, undef, undef, undef, undef, undef, undef, undef, undef, undef, undef, undef], []⟩) [(0, 0, 0), (0, 0, 0), (0, 0, 0), (0, 0, 0), (0, 0, 0), (0, 0, 0), (0, 0, 0), (0, 0, 0), (0, 0, 0), (2, 10, 7), (3, 9, 7), (0, 0, 0)] [.val (.func (.func 45) #[] #[.pointer (some ⟨B7, 0, none⟩)]), .val (.agg #[.bool s17, .slice a17 n17 c17, .bool t17, .slice b17 m17 d17]), .val (.agg #[.bool s20, .slice a20 n20 c20, .bool t20, .slice b20 m20 d20]), .rat (numO (some (x + y))) (denO (some (x + y))) false, .val (.agg #[.bool s20, .slice a20 n20 c20, .bool t20, .slice b20 m20 d20]), .ratok (numO (some x)) (denO (some x)) true false, .ratok (numO (some x)) (denO (some x)) true false, .rat (numO (some x)) (denO (some x)) false, .val (.bool true), .none, .none, .val (.bool true)] [[], [], [], [0, 1, 2], [], [3, 4], [5], [6], [6], [], [7, 9], [8]] [0, 1, 2, 3, 4, 5, 6, 7, 8, 11] [9] [10] 25 37 E8 (by kernel_rfl) (by kernel_rfl) (by kernel_rfl) (by kernel_rfl) ?op ?al ?st ?fin (fun _ => undef) _ _ (by kernel_rfl) (of_decide_eq_true (by kernel_rfl)) (of_decide_eq_true (by kernel_rfl))
  case op =>
   repeat' first | exact Each.nil | refine Each.cons ?_ ?_
   all_goals intro X w7 H hb hD h
   · refine tv rfl (by rfl) ?_ (by exact h _ w7 rfl (Below.refl _ _))
     go_simp <;> rfl
   · obtain ⟨⟨z0, z1, z2, z3⟩, -, -, -, -⟩ := (H4.below hb).box
     refine tv rfl (by rfl) ?_ (by exact h _ w7 rfl (Below.refl _ _))
     go_simp <;> rfl
   · obtain ⟨⟨z0, z1, z2, z3⟩, -, -, -, -⟩ := (H5.below hb).box
     refine tv rfl (by rfl) ?_ (by exact h _ w7 rfl (Below.refl _ _))
     go_simp <;> rfl
   · have e0_ : X 0 = _ := hD 0 (by decide) rfl
     have e1_ : X 1 = _ := hD 1 (by decide) rfl
     have e2_ : X 2 = _ := hD 2 (by decide) rfl
     have H4 := H4.below hb
     have H5 := H5.below hb
     have ok7 := ok7.below hb
     have cc := fadd_r s17 t17 s20 t20 a17 b17 a20 b20 n17 m17 n20 m20 c17 d17 c20 d20 x y (x + y) A1 B7 w7 ok7 H4.arg H5.arg
     refine wpOp_call (i := 3) (f := 45) (args := #[.agg #[.bool s17, .slice a17 n17 c17, .bool t17, .slice b17 m17 d17], .agg #[.bool s20, .slice a20 n20 c20, .bool t20, .slice b20 m20 d20], .pointer (some ⟨B7, 0, none⟩)]) 109 rfl rfl (by simp only [e0_, e1_, e2_]; rfl) (by simp only [e0_, e1_, e2_]; go_simp) ?_
     refine (cc).mono ?_
     rintro e w8 ⟨s109_, a109_, n109_, c109_, t109_, b109_, m109_, d109_, rfl, P1, P2, k1, k2, hk⟩
     exact ⟨_, rfl, h _ w8 ⟨s109_, a109_, n109_, c109_, t109_, b109_, m109_, d109_, rfl, P1, P2, k1, k2, nofun⟩ hk⟩
   · obtain ⟨⟨z0, z1, z2, z3⟩, -, -, -, -⟩ := (H5.below hb).box
     refine tv rfl (by rfl) ?_ (by exact h _ w7 rfl (Below.refl _ _))
     go_simp <;> rfl
   · obtain ⟨s109_, a109_, n109_, c109_, t109_, b109_, m109_, d109_, e3_, N109_, M109_, k109_, l109_, q109_⟩ := hD 3 (by decide) rfl
     have e4_ : X 4 = _ := hD 4 (by decide) rfl
     have H5 := H5.below hb
     have R109_ := rarg_of (some (x + y)) N109_ M109_ k109_ l109_
     have cc := sub_r s109_ t109_ s20 t20 a109_ b109_ a20 b20 n109_ m109_ n20 m20 c109_ d109_ c20 d20 (some (x + y)) (some y) w7 R109_ H5.arg
     rw [HS.out] at cc
     refine wpOp_call (i := 5) (f := 37) (args := #[.agg #[.bool s109_, .slice a109_ n109_ c109_, .bool t109_, .slice b109_ m109_ d109_], .agg #[.bool s20, .slice a20 n20 c20, .bool t20, .slice b20 m20 d20]]) 111 rfl rfl (by simp only [e3_, e4_]; rfl) (by simp only [e3_, e4_]; go_simp) ?_
     refine (cc).mono ?_
     rintro e w8 ⟨s111_, a111_, n111_, c111_, t111_, b111_, m111_, d111_, rfl, P1, P2, k1, k2, hk⟩
     exact ⟨_, rfl, h _ w8 ⟨s111_, a111_, n111_, c111_, t111_, b111_, m111_, d111_, rfl, P1, P2, k1, k2, nofun⟩ hk⟩
   · obtain ⟨s111_, a111_, n111_, c111_, t111_, b111_, m111_, d111_, e5_, N111_, M111_, k111_, l111_, q111_⟩ := hD 5 (by decide) rfl
     refine tv rfl (by simp only [e5_]; rfl) ?_ (by exact h _ w7 ⟨s111_, a111_, n111_, c111_, t111_, b111_, m111_, d111_, rfl, N111_, M111_, k111_, l111_, q111_⟩ (Below.refl _ _))
     simp only [e5_]; go_simp <;> rfl
   · obtain ⟨s105_, a105_, n105_, c105_, t105_, b105_, m105_, d105_, e6_, N105_, M105_, k105_, l105_, q105_⟩ := hD 6 (by decide) rfl
     refine tv rfl (by simp only [e6_]; rfl) ?_ (by exact h _ w7 ⟨s105_, a105_, n105_, c105_, t105_, b105_, m105_, d105_, rfl, N105_, M105_, k105_, l105_, q105_⟩ (Below.refl _ _))
     simp only [e6_]; go_simp <;> rfl
   · obtain ⟨s105_, a105_, n105_, c105_, t105_, b105_, m105_, d105_, e6_, N105_, M105_, k105_, l105_, q105_⟩ := hD 6 (by decide) rfl
     refine tv rfl (by simp only [e6_]; rfl) ?_ (by exact h _ w7 rfl (Below.refl _ _))
     simp only [e6_]; go_simp <;> rfl
   · have e8_ : X 8 = _ := hD 8 (by decide) rfl
     refine tv rfl (by simp only [e8_]; rfl) ?_ (by exact h _ w7 rfl (Below.refl _ _))
     simp only [e8_]; go_simp <;> rfl
  case al =>
   repeat' first | exact Each.nil | refine Each.cons ?_ ?_
   all_goals exact fun X w7 H h => wpOp_run rfl (by go_simp; exact h)
  case st =>
   repeat' first | exact Each.nil | refine Each.cons ?_ ?_
   all_goals intro X w7 H b u0 hX hC hG h
   · replace hX : X 9 = .pointer (some ⟨b, 0, none⟩) := hX
     obtain ⟨s112_, a112_, n112_, c112_, t112_, b112_, m112_, d112_, e7_, N112_, M112_, k112_, l112_, q112_⟩ := hG
     obtain ⟨_, _, _, _, _, _, _, _, -, ⟨⟨y0, y1, y2, y3⟩, z0, z1, z2, z3⟩⟩ := hC
     have e : X 7 = _ := e7_
     refine wpOp_run rfl ?_
     simp only [hX, e] at h ⊢
     go_simp
     exact h _ ⟨_, _, _, _, _, _, _, _, e7_, rfl⟩
  case fin =>
   intro X8 u8 hI
   have hE := hI.below
   obtain ⟨s112_, a112_, n112_, c112_, t112_, b112_, m112_, d112_, e7_, N112_, M112_, k112_, l112_, q112_⟩ := hI.fact 7 (by decide) rfl rfl
   obtain ⟨B10, e9_, g10, Q10⟩ := hI.box 9 (by decide) rfl (by decide)
   replace Q10 : Cont 2 u8 B10 (X8 7) := Q10
   rw [e7_] at Q10
   replace Q10 := Q10.rat
   have e11_ : X8 11 = _ := hI.fact 11 (by decide) rfl rfl
   have H4 := H4.below hE
   have H5 := H5.below hE
   have H6 := H6.below hE
   have ok7 := ok7.below hE
   clear hI
   simp only [e7_, e9_, e11_]
   clear e7_ e9_ e11_
   have hB := hB.trans (hE.mono hB.size)
   clear hE
   have H10 : HeldR u8 B10 s112_ a112_ n112_ c112_ t112_ b112_ m112_ d112_ (some x) := ⟨Q10, rarg_of (some x) N112_ M112_ k112_ l112_⟩
   clear Q10 g10 N112_ M112_ k112_ l112_ q112_
   obtain ⟨O, hO⟩ : ∃ O, divRO (some (x * y)) (some y) = O := ⟨_, rfl⟩
   have HDv := hide hO
   clear hO
   go_wp2_with fail
   have hB := hB.drew
   have H4 := H4.below (Below.drew (Below.refl u8.heap.size u8))
   have H5 := H5.below (Below.drew (Below.refl u8.heap.size u8))
   have H6 := H6.below (Below.drew (Below.refl u8.heap.size u8))
   have ok7 := ok7.below (Below.drew (Below.refl u8.heap.size u8))
   have H10 := H10.below (Below.drew (Below.refl u8.heap.size u8))
   refine wp_region_held_drew (S := fun w' => Below (u8.drew.heap.size) u8.drew w') (by kernel_rfl) (Below.refl _ _) (fun hHeld => ?_)
   obtain ⟨E9, hWE⟩ : ∃ W, u8.drew = W := ⟨_, rfl⟩
   rw [hWE] at hB H4 H5 H6 ok7 H10 hHeld ⊢
   clear hWE
   have hE := Below.refl E9.heap.size E9
   clear hHeld
   refine dagT 12 rfl (fun X => ⟨#[.agg #[.slice x0 L0 d0, .slice x1 L1 d1, .slice x2 L2 d2], .pointer (some ⟨w.heap.size, 0, none⟩), .bool false, .bool true, .pointer (some ⟨B4, 0, none⟩), .pointer (some ⟨B5, 0, none⟩), .pointer (some ⟨B6, 0, none⟩), .pointer (some ⟨B7, 0, none⟩), .func (.func 45) #[] #[.pointer (some ⟨B7, 0, none⟩)], .func (.func 46) #[] #[.pointer (some ⟨B7, 0, none⟩)], .pointer (some ⟨B10, 0, none⟩), .bool true, X 9, X 11, .bool true, .pointer (some ⟨w.heap.size, 0, none⟩), .slice x0 L0 d0, V 0, .pointer (some ⟨w.heap.size, 1, none⟩), .slice x1 L1 d1, V 1, .pointer (some ⟨w.heap.size, 2, none⟩), .slice x2 L2 d2, V 2, .func (.func 45) #[] #[.pointer (some ⟨B7, 0, none⟩)], .func (.func 46) #[] #[.pointer (some ⟨B7, 0, none⟩)], .func (.func 45) #[] #[.pointer (some ⟨B7, 0, none⟩)], .agg #[.bool s17, .slice a17 n17 c17, .bool t17, .slice b17 m17 d17], .agg #[.bool s20, .slice a20 n20 c20, .bool t20, .slice b20 m20 d20], .agg #[.bool s29, .slice a29 n29 c29, .bool t29, .slice b29 m29 d29], .func (.func 45) #[] #[.pointer (some ⟨B7, 0, none⟩)], .agg #[.bool s20, .slice a20 n20 c20, .bool t20, .slice b20 m20 d20], .agg #[.bool s17, .slice a17 n17 c17, .bool t17, .slice b17 m17 d17], .agg #[.bool s33, .slice a33 n33 c33, .bool t33, .slice b33 m33 d33], .bool true, .bool false, .bool false, .func (.func 46) #[] #[.pointer (some ⟨B7, 0, none⟩)], .agg #[.bool s17, .slice a17 n17 c17, .bool t17, .slice b17 m17 d17], .agg #[.bool s20, .slice a20 n20 c20, .bool t20, .slice b20 m20 d20], .agg #[.bool s40, .slice a40 n40 c40, .bool t40, .slice b40 m40 d40], .func (.func 46) #[] #[.pointer (some ⟨B7, 0, none⟩)], .agg #[.bool s20, .slice a20 n20 c20, .bool t20, .slice b20 m20 d20], .agg #[.bool s17, .slice a17 n17 c17, .bool t17, .slice b17 m17 d17], .agg #[.bool s44, .slice a44 n44 c44, .bool t44, .slice b44 m44 d44], .bool true, .bool false, .bool false, .bool false, .func (.func 45) #[] #[.pointer (some ⟨B7, 0, none⟩)], .func (.func 45) #[] #[.pointer (some ⟨B7, 0, none⟩)], .agg #[.bool s17, .slice a17 n17 c17, .bool t17, .slice b17 m17 d17], .agg #[.bool s20, .slice a20 n20 c20, .bool t20, .slice b20 m20 d20], .agg #[.bool s53, .slice a53 n53 c53, .bool t53, .slice b53 m53 d53], .agg #[.bool s23, .slice a23 n23 c23, .bool t23, .slice b23 m23 d23], .agg #[.bool s55, .slice a55 n55 c55, .bool t55, .slice b55 m55 d55], .func (.func 45) #[] #[.pointer (some ⟨B7, 0, none⟩)], .agg #[.bool s17, .slice a17 n17 c17, .bool t17, .slice b17 m17 d17], .func (.func 45) #[] #[.pointer (some ⟨B7, 0, none⟩)], .agg #[.bool s20, .slice a20 n20 c20, .bool t20, .slice b20 m20 d20], .agg #[.bool s23, .slice a23 n23 c23, .bool t23, .slice b23 m23 d23], .agg #[.bool s61, .slice a61 n61 c61, .bool t61, .slice b61 m61 d61], .agg #[.bool s62, .slice a62 n62 c62, .bool t62, .slice b62 m62 d62], .bool true, .bool false, .bool false, .bool false, .func (.func 46) #[] #[.pointer (some ⟨B7, 0, none⟩)], .func (.func 46) #[] #[.pointer (some ⟨B7, 0, none⟩)], .agg #[.bool s17, .slice a17 n17 c17, .bool t17, .slice b17 m17 d17], .agg #[.bool s20, .slice a20 n20 c20, .bool t20, .slice b20 m20 d20], .agg #[.bool s71, .slice a71 n71 c71, .bool t71, .slice b71 m71 d71], .agg #[.bool s23, .slice a23 n23 c23, .bool t23, .slice b23 m23 d23], .agg #[.bool s73, .slice a73 n73 c73, .bool t73, .slice b73 m73 d73], .func (.func 46) #[] #[.pointer (some ⟨B7, 0, none⟩)], .agg #[.bool s17, .slice a17 n17 c17, .bool t17, .slice b17 m17 d17], .func (.func 46) #[] #[.pointer (some ⟨B7, 0, none⟩)], .agg #[.bool s20, .slice a20 n20 c20, .bool t20, .slice b20 m20 d20], .agg #[.bool s23, .slice a23 n23 c23, .bool t23, .slice b23 m23 d23], .agg #[.bool s79, .slice a79 n79 c79, .bool t79, .slice b79 m79 d79], .agg #[.bool s80, .slice a80 n80 c80, .bool t80, .slice b80 m80 d80], .bool true, .bool false, .bool false, .bool false, .func (.func 46) #[] #[.pointer (some ⟨B7, 0, none⟩)], .agg #[.bool s17, .slice a17 n17 c17, .bool t17, .slice b17 m17 d17], .func (.func 45) #[] #[.pointer (some ⟨B7, 0, none⟩)], .agg #[.bool s20, .slice a20 n20 c20, .bool t20, .slice b20 m20 d20], .agg #[.bool s23, .slice a23 n23 c23, .bool t23, .slice b23 m23 d23], .agg #[.bool s90, .slice a90 n90 c90, .bool t90, .slice b90 m90 d90], .agg #[.bool s91, .slice a91 n91 c91, .bool t91, .slice b91 m91 d91], .func (.func 45) #[] #[.pointer (some ⟨B7, 0, none⟩)], .func (.func 46) #[] #[.pointer (some ⟨B7, 0, none⟩)], .agg #[.bool s17, .slice a17 n17 c17, .bool t17, .slice b17 m17 d17], .agg #[.bool s20, .slice a20 n20 c20, .bool t20, .slice b20 m20 d20], .agg #[.bool s96, .slice a96 n96 c96, .bool t96, .slice b96 m96 d96], .func (.func 46) #[] #[.pointer (some ⟨B7, 0, none⟩)], .agg #[.bool s17, .slice a17 n17 c17, .bool t17, .slice b17 m17 d17], .agg #[.bool s23, .slice a23 n23 c23, .bool t23, .slice b23 m23 d23], .agg #[.bool s100, .slice a100 n100 c100, .bool t100, .slice b100 m100 d100], .agg #[.bool s101, .slice a101 n101 c101, .bool t101, .slice b101 m101 d101], .bool true, .bool false, .bool false, X8 6, X8 0, X8 1, X8 2, X8 3, X8 4, X8 5, .agg #[.bool s112_, .slice a112_ n112_ c112_, .bool t112_, .slice b112_ m112_ d112_], X8 8, X 6, X 0, X 1, X 2, X 3, X 4, X 5, X 7, X 8, undef, undef, undef, undef, undef, undef, undef, undef, undef, undef, undef, undef, undef, undef, undef, undef, undef, undef, undef, undef, undef, undef, undef, undef, undef, undef, undef, undef, undef, undef, undef, undef, undef, undef, undef, undef, undef, undef, undef], []⟩) [(0, 0, 0), (0, 0, 0), (0, 0, 0), (0, 0, 0), (0, 0, 0), (0, 0, 0), (0, 0, 0), (0, 0, 0), (0, 0, 0), (2, 10, 7), (3, 9, 7), (0, 0, 0)] [.val (.func (.func 46) #[] #[.pointer (some ⟨B7, 0, none⟩)]), .val (.agg #[.bool s17, .slice a17 n17 c17, .bool t17, .slice b17 m17 d17]), .val (.agg #[.bool s20, .slice a20 n20 c20, .bool t20, .slice b20 m20 d20]), .rat (numO (some (x * y))) (denO (some (x * y))) false, .val (.agg #[.bool s20, .slice a20 n20 c20, .bool t20, .slice b20 m20 d20]), .ratok (numO (O)) (denO (O)) O.isSome false, .ratok (numO (O)) (denO (O)) O.isSome false, .rat (numO (O)) (denO (O)) false, .val (.bool O.isSome), .none, .none, .val (.bool O.isSome)] [[], [], [], [0, 1, 2], [], [3, 4], [5], [6], [6], [], [7, 9], [8]] [0, 1, 2, 3, 4, 5, 6, 7, 8, 11] [9] [10] 25 37 E9 (by kernel_rfl) (by kernel_rfl) (by kernel_rfl) (by kernel_rfl) ?op ?al ?st ?fin (fun _ => undef) _ _ (by kernel_rfl) (of_decide_eq_true (by kernel_rfl)) (of_decide_eq_true (by kernel_rfl))
   case op =>
    repeat' first | exact Each.nil | refine Each.cons ?_ ?_
    all_goals intro X w7 H hb hD h
    · refine tv rfl (by rfl) ?_ (by exact h _ w7 rfl (Below.refl _ _))
      go_simp <;> rfl
    · obtain ⟨⟨z0, z1, z2, z3⟩, -, -, -, -⟩ := (H4.below hb).box
      refine tv rfl (by rfl) ?_ (by exact h _ w7 rfl (Below.refl _ _))
      go_simp <;> rfl
    · obtain ⟨⟨z0, z1, z2, z3⟩, -, -, -, -⟩ := (H5.below hb).box
      refine tv rfl (by rfl) ?_ (by exact h _ w7 rfl (Below.refl _ _))
      go_simp <;> rfl
    · have e0_ : X 0 = _ := hD 0 (by decide) rfl
      have e1_ : X 1 = _ := hD 1 (by decide) rfl
      have e2_ : X 2 = _ := hD 2 (by decide) rfl
      have H4 := H4.below hb
      have H5 := H5.below hb
      have ok7 := ok7.below hb
      have cc := fmul_r s17 t17 s20 t20 a17 b17 a20 b20 n17 m17 n20 m20 c17 d17 c20 d20 x y (x * y) M1 B7 w7 ok7 H4.arg H5.arg
      refine wpOp_call (i := 3) (f := 46) (args := #[.agg #[.bool s17, .slice a17 n17 c17, .bool t17, .slice b17 m17 d17], .agg #[.bool s20, .slice a20 n20 c20, .bool t20, .slice b20 m20 d20], .pointer (some ⟨B7, 0, none⟩)]) 118 rfl rfl (by simp only [e0_, e1_, e2_]; rfl) (by simp only [e0_, e1_, e2_]; go_simp) ?_
      refine (cc).mono ?_
      rintro e w8 ⟨s118_, a118_, n118_, c118_, t118_, b118_, m118_, d118_, rfl, P1, P2, k1, k2, hk⟩
      exact ⟨_, rfl, h _ w8 ⟨s118_, a118_, n118_, c118_, t118_, b118_, m118_, d118_, rfl, P1, P2, k1, k2, nofun⟩ hk⟩
    · obtain ⟨⟨z0, z1, z2, z3⟩, -, -, -, -⟩ := (H5.below hb).box
      refine tv rfl (by rfl) ?_ (by exact h _ w7 rfl (Below.refl _ _))
      go_simp <;> rfl
    · obtain ⟨s118_, a118_, n118_, c118_, t118_, b118_, m118_, d118_, e3_, N118_, M118_, k118_, l118_, q118_⟩ := hD 3 (by decide) rfl
      have e4_ : X 4 = _ := hD 4 (by decide) rfl
      have H5 := H5.below hb
      have R118_ := rarg_of (some (x * y)) N118_ M118_ k118_ l118_
      have cc := div_r s118_ t118_ s20 t20 a118_ b118_ a20 b20 n118_ m118_ n20 m20 c118_ d118_ c20 d20 (some (x * y)) (some y) w7 R118_ H5.arg
      rw [HDv.out] at cc
      refine wpOp_call (i := 5) (f := 41) (args := #[.agg #[.bool s118_, .slice a118_ n118_ c118_, .bool t118_, .slice b118_ m118_ d118_], .agg #[.bool s20, .slice a20 n20 c20, .bool t20, .slice b20 m20 d20]]) 120 rfl rfl (by simp only [e3_, e4_]; rfl) (by simp only [e3_, e4_]; go_simp) ?_
      refine (cc).mono ?_
      rintro e w8 ⟨s120_, a120_, n120_, c120_, t120_, b120_, m120_, d120_, rfl, P1, P2, k1, k2, hk⟩
      exact ⟨_, rfl, h _ w8 ⟨s120_, a120_, n120_, c120_, t120_, b120_, m120_, d120_, rfl, P1, P2, k1, k2, nofun⟩ hk⟩
    · obtain ⟨s120_, a120_, n120_, c120_, t120_, b120_, m120_, d120_, e5_, N120_, M120_, k120_, l120_, q120_⟩ := hD 5 (by decide) rfl
      refine tv rfl (by simp only [e5_]; rfl) ?_ (by exact h _ w7 ⟨s120_, a120_, n120_, c120_, t120_, b120_, m120_, d120_, rfl, N120_, M120_, k120_, l120_, q120_⟩ (Below.refl _ _))
      simp only [e5_]; go_simp <;> rfl
    · obtain ⟨s114_, a114_, n114_, c114_, t114_, b114_, m114_, d114_, e6_, N114_, M114_, k114_, l114_, q114_⟩ := hD 6 (by decide) rfl
      refine tv rfl (by simp only [e6_]; rfl) ?_ (by exact h _ w7 ⟨s114_, a114_, n114_, c114_, t114_, b114_, m114_, d114_, rfl, N114_, M114_, k114_, l114_, q114_⟩ (Below.refl _ _))
      simp only [e6_]; go_simp <;> rfl
    · obtain ⟨s114_, a114_, n114_, c114_, t114_, b114_, m114_, d114_, e6_, N114_, M114_, k114_, l114_, q114_⟩ := hD 6 (by decide) rfl
      refine tv rfl (by simp only [e6_]; rfl) ?_ (by exact h _ w7 rfl (Below.refl _ _))
      simp only [e6_]; go_simp <;> rfl
    · have e8_ : X 8 = _ := hD 8 (by decide) rfl
      refine tv rfl (by simp only [e8_]; rfl) ?_ (by exact h _ w7 rfl (Below.refl _ _))
      simp only [e8_]; go_simp <;> rfl
   case al =>
    repeat' first | exact Each.nil | refine Each.cons ?_ ?_
    all_goals exact fun X w7 H h => wpOp_run rfl (by go_simp; exact h)
   case st =>
    repeat' first | exact Each.nil | refine Each.cons ?_ ?_
    all_goals intro X w7 H b u0 hX hC hG h
    · replace hX : X 9 = .pointer (some ⟨b, 0, none⟩) := hX
      obtain ⟨s121_, a121_, n121_, c121_, t121_, b121_, m121_, d121_, e7_, N121_, M121_, k121_, l121_, q121_⟩ := hG
      obtain ⟨_, _, _, _, _, _, _, _, -, ⟨⟨y0, y1, y2, y3⟩, z0, z1, z2, z3⟩⟩ := hC
      have e : X 7 = _ := e7_
      refine wpOp_run rfl ?_
      simp only [hX, e] at h ⊢
      go_simp
      exact h _ ⟨_, _, _, _, _, _, _, _, e7_, rfl⟩
   case fin =>
    intro X9 u9 hI
    have hE := hI.below
    obtain ⟨s121_, a121_, n121_, c121_, t121_, b121_, m121_, d121_, e7_, N121_, M121_, k121_, l121_, q121_⟩ := hI.fact 7 (by decide) rfl rfl
    obtain ⟨B12, e9_, g12, Q12⟩ := hI.box 9 (by decide) rfl (by decide)
    replace Q12 : Cont 2 u9 B12 (X9 7) := Q12
    rw [e7_] at Q12
    replace Q12 := Q12.rat
    have e11_ : X9 11 = _ := hI.fact 11 (by decide) rfl rfl
    have H4 := H4.below hE
    have H5 := H5.below hE
    have H6 := H6.below hE
    have ok7 := ok7.below hE
    have H10 := H10.below hE
    clear hI
    simp only [e7_, e9_, e11_]
    clear e7_ e9_ e11_
    have hB := hB.trans (hE.mono hB.size)
    clear hE
    have H12 : HeldR u9 B12 s121_ a121_ n121_ c121_ t121_ b121_ m121_ d121_ (O) := ⟨Q12, rarg_of (O) N121_ M121_ k121_ l121_⟩
    clear Q12 g12 N121_ M121_ k121_ l121_ q121_
    by_cases hy0 : y = 0
    · obtain rfl : O = none := HDv.out.symm.trans (HZ.out hy0)
      have K124 := hide (HG0.out hy0)
      clear hy0
      simp only [Option.isSome_none]
      obtain ⟨⟨x00, x01, x02, x03⟩, xz00, xz01, xz02, xz03⟩ := id H5.box
      go_wp2_with fail
      clear x00 x01 x02 x03 xz00 xz01 xz02 xz03
      have cc := sign_r s20 t20 a20 b20 n20 m20 c20 d20 (some y) u9 H5.arg
      rw [K124.out] at cc
      refine cc.mono ?_
      rintro e w1 ⟨rfl, hk⟩
      have hB := hB.trans (hk.mono hB.size)
      have H4 := H4.below hk
      have H5 := H5.below hk
      have H6 := H6.below hk
      have ok7 := ok7.below hk
      have H10 := H10.below hk
      have H12 := H12.below hk
      clear hk
      clear cc
      obtain ⟨x00, x01⟩ := id ok7
      obtain ⟨⟨x10, x11, x12, x13⟩, xz10, xz11, xz12, xz13⟩ := id H10.box
      obtain ⟨⟨x20, x21, x22, x23⟩, xz20, xz21, xz22, xz23⟩ := id H4.box
      go_wp2_with fail
      clear x00 x01 x10 x11 x12 x13 xz10 xz11 xz12 xz13 x20 x21 x22 x23 xz20 xz21 xz22 xz23
      have cc := same_r s112_ t112_ s17 t17 a112_ b112_ a17 b17 n112_ m112_ n17 m17 c112_ d112_ c17 d17 _ _ H10.arg.l1 H10.arg.l2 w1 H10.arg.num H10.arg.den H4.arg.num H4.arg.den
      refine cc.mono ?_
      rintro e w2 ⟨rfl, hk⟩
      have hB := hB.trans (hk.mono hB.size)
      have H4 := H4.below hk
      have H5 := H5.below hk
      have H6 := H6.below hk
      have ok7 := ok7.below hk
      have H10 := H10.below hk
      have H12 := H12.below hk
      clear hk
      clear cc
      go_wp2
      go_ret
      exact ⟨rfl, hB⟩
    · obtain rfl : O = some x := HDv.out.symm.trans (HD.out hy0)
      have hg := HG.out hy0
      obtain ⟨S, hS⟩ : ∃ S, sgnO (some y) = S := ⟨_, rfl⟩
      rw [hS] at hg
      have K124 := hide hS
      have tS : (S == 0) = false := beq_eq_false_iff_ne.2 hg
      clear hy0 hS hg
      simp only [Option.isSome_some]
      obtain ⟨⟨x00, x01, x02, x03⟩, xz00, xz01, xz02, xz03⟩ := id H5.box
      go_wp2_with fail
      clear x00 x01 x02 x03 xz00 xz01 xz02 xz03
      have cc := sign_r s20 t20 a20 b20 n20 m20 c20 d20 (some y) u9 H5.arg
      rw [K124.out] at cc
      refine cc.mono ?_
      rintro e w1 ⟨rfl, hk⟩
      have hB := hB.trans (hk.mono hB.size)
      have H4 := H4.below hk
      have H5 := H5.below hk
      have H6 := H6.below hk
      have ok7 := ok7.below hk
      have H10 := H10.below hk
      have H12 := H12.below hk
      clear hk
      clear cc
      obtain ⟨x00, x01⟩ := id ok7
      obtain ⟨⟨x10, x11, x12, x13⟩, xz10, xz11, xz12, xz13⟩ := id H10.box
      obtain ⟨⟨x20, x21, x22, x23⟩, xz20, xz21, xz22, xz23⟩ := id H4.box
      go_wp2_with fail
      clear x00 x01 x10 x11 x12 x13 xz10 xz11 xz12 xz13 x20 x21 x22 x23 xz20 xz21 xz22 xz23
      have cc := same_r s112_ t112_ s17 t17 a112_ b112_ a17 b17 n112_ m112_ n17 m17 c112_ d112_ c17 d17 _ _ H10.arg.l1 H10.arg.l2 w1 H10.arg.num H10.arg.den H4.arg.num H4.arg.den
      refine cc.mono ?_
      rintro e w2 ⟨rfl, hk⟩
      have hB := hB.trans (hk.mono hB.size)
      have H4 := H4.below hk
      have H5 := H5.below hk
      have H6 := H6.below hk
      have ok7 := ok7.below hk
      have H10 := H10.below hk
      have H12 := H12.below hk
      clear hk
      clear cc
      obtain ⟨⟨x00, x01, x02, x03⟩, xz00, xz01, xz02, xz03⟩ := id H12.box
      obtain ⟨⟨x10, x11, x12, x13⟩, xz10, xz11, xz12, xz13⟩ := id H4.box
      go_wp2_with fail
      clear x00 x01 x02 x03 xz00 xz01 xz02 xz03 x10 x11 x12 x13 xz10 xz11 xz12 xz13
      have cc := same_r s121_ t121_ s17 t17 a121_ b121_ a17 b17 n121_ m121_ n17 m17 c121_ d121_ c17 d17 _ _ H12.arg.l1 H12.arg.l2 w2 H12.arg.num H12.arg.den H4.arg.num H4.arg.den
      refine cc.mono ?_
      rintro e w3 ⟨rfl, hk⟩
      have hB := hB.trans (hk.mono hB.size)
      have H4 := H4.below hk
      have H5 := H5.below hk
      have H6 := H6.below hk
      have ok7 := ok7.below hk
      have H10 := H10.below hk
      have H12 := H12.below hk
      clear hk
      clear cc
      go_wp2
      go_ret
      exact ⟨rfl, hB⟩
end Go.Proofs.YtgenaicmjddjcaaGreatDoor
