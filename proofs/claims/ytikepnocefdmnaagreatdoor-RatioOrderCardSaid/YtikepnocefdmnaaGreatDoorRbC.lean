/- ratio's reference: sameNum, Same, Frac; the law's of. -/
import Derived.Test.YtikepnocefdmnaaGreatDoorRbB
namespace Go.Proofs.YtikepnocefdmnaaGreatDoor
open Go.RowKit Go.Shelf

set_option maxRecDepth 100000 in
set_option maxHeartbeats 2000000 in
theorem rsameNum_yes (s : Bool) (aa ab : Option Addr) (n ca cb : Nat) (f : Nat → Nat) (hn : n ≤ 1099511627776) (w : World) (ha : Dig w aa n f) (hb : Dig w ab n f) :
 Calls Tryz.prog 70 #[.agg #[.bool s, .slice aa n ca], .agg #[.bool s, .slice ab n cb]] w fun e w' => e = .returned (.bool true) ∧ Below w.heap.size w w' := by
 go_enter Tryz.func70, Tryz.ntmps70
 go_wp2_with fail
 obtain ⟨W0, hW0⟩ : ∃ W0, (w.alloc (Obj.cells #[.bool s, .slice aa n ca] 25)).alloc (Obj.cells #[.bool s, .slice ab n cb] 25) = W0 := ⟨_, rfl⟩
 have bA : Box2 W0 w.heap.size (.bool s) (.slice aa n ca) := by rw [← hW0]; exact (Box2.new w _ _ _).alloc _
 have bB : Box2 W0 (w.heap.size + 1) (.bool s) (.slice ab n cb) := by
  have := (Box2.new (w.alloc (Obj.cells #[.bool s, .slice aa n ca] 25)) (.bool s) (.slice ab n cb) 25)
  rw [World.size_alloc] at this; rw [← hW0]; exact this
 have hB0 : Below w.heap.size w W0 := by rw [← hW0]; exact ((Below.refl _ w).alloc (Nat.le_refl _) _).alloc (by simp) _
 have hW0s : w.heap.size + 2 ≤ W0.heap.size := by rw [← hW0]; simp
 try rw [hW0]
 clear hW0
 go_loopw [5] (fun i wr => ∃ k : Nat, k ≤ n ∧ i = .int .i64 (k : Int) ∧ Below W0.heap.size W0 wr) (fun i _ => n - (intOf i).toNat)
 case atStart => exact ⟨0, Nat.zero_le _, rfl, Below.refl _ _⟩
 case round =>
  obtain ⟨k, hk, rfl, hr⟩ := hrel
  obtain ⟨a0, a1, -, -⟩ := bA.below hr bA.lt
  obtain ⟨b0, b1, -, -⟩ := bB.below hr bB.lt
  by_cases hlt : k < n
  · have hBr := hB0.trans (hr.mono hB0.size)
    obtain ⟨p1, o1, rfl, hc1⟩ := (ha.below hBr).at (by omega)
    obtain ⟨p2, o2, rfl, hc2⟩ := (hb.below hBr).at (by omega)
    have hx1 := hc1 k hlt
    have hx2 := hc2 k hlt
    have hi0 : (0 : Int) ≤ (k : Int) := by omega
    have hi1 : (k : Int) < (n : Int) := by omega
    clear hc1 hc2
    go_wp2
    go_region
    go_wp2
    go_roundw
    case rel => exact ⟨k + 1, by omega, by go_num, hr.drew⟩
    case measure => simp [intOf]; omega
  · obtain rfl : k = n := by omega
    go_wp2
    go_ret
    exact ⟨rfl, hB0.trans (hr.mono hB0.size)⟩

theorem rsameNum_eq (s1 s2 : Bool) (a1 a2 : Option Addr) (n1 n2 c1 c2 : Nat) (z : Int) (hn : n1 ≤ 64) (w : World) (h1 : IsN w s1 a1 n1 z) (h2 : IsN w s2 a2 n2 z) :
 Calls Tryz.prog 70 #[.agg #[.bool s1, .slice a1 n1 c1], .agg #[.bool s2, .slice a2 n2 c2]] w fun e w' => e = .returned (.bool true) ∧ Below w.heap.size w w' := by
 obtain rfl : s2 = s1 := h2.sign.trans h1.sign.symm
 obtain rfl : n2 = n1 := h2.dig.len.trans h1.dig.len.symm
 exact rsameNum_yes s2 a1 a2 n2 c1 c2 (dgt z.natAbs) (by omega) w h1.dig.dig h2.dig.dig
set_option maxRecDepth 100000 in
set_option maxHeartbeats 4000000 in
theorem same_r (s1 s2 t1 t2 : Bool) (a1 a2 b1 b2 : Option Addr) (n1 n2 m1 m2 c1 c2 d1 d2 : Nat) (N D : Int) (k1 : n1 ≤ 64) (k2 : n2 ≤ 64) (w : World) (h1 : IsN w s1 a1 n1 N) (h2 : IsN w s2 a2 n2 D) (g1 : IsN w t1 b1 m1 N) (g2 : IsN w t2 b2 m2 D) :
 Calls Tryz.prog 26 #[.agg #[.bool s1, .slice a1 n1 c1, .bool s2, .slice a2 n2 c2], .agg #[.bool t1, .slice b1 m1 d1, .bool t2, .slice b2 m2 d2]] w fun e w' => e = .returned (.bool true) ∧ Below w.heap.size w w' := by
 go_enter Tryz.func26, Tryz.ntmps26
 go_wp2_with fail
 obtain ⟨W1, hW1⟩ : ∃ W1, ((w.alloc (Obj.cells #[.bool s1, .slice a1 n1 c1, .bool s2, .slice a2 n2 c2] 27)).alloc (Obj.cells #[.bool t1, .slice b1 m1 d1, .bool t2, .slice b2 m2 d2] 27)) = W1 := ⟨_, rfl⟩
 have qA : Quad W1 w.heap.size (.bool s1) (.slice a1 n1 c1) (.bool s2) (.slice a2 n2 c2) := by rw [← hW1]; exact (Quad.new _ _ _ _ _ _).below (below_alloc _ _)
 have qB : Quad W1 (w.heap.size + 1) (.bool t1) (.slice b1 m1 d1) (.bool t2) (.slice b2 m2 d2) := by
  rw [← hW1]; have := Quad.new (w.alloc (Obj.cells #[.bool s1, .slice a1 n1 c1, .bool s2, .slice a2 n2 c2] 27)) (.bool t1) (.slice b1 m1 d1) (.bool t2) (.slice b2 m2 d2) 27
  rw [World.size_alloc] at this; exact this
 have hB : Below w.heap.size w W1 := by rw [← hW1]; exact (below_alloc _ _).trans ((below_alloc _ _).mono (by simp))
 have h1 := h1.below hB
 have h2 := h2.below hB
 have g1 := g1.below hB
 have g2 := g2.below hB
 try rw [hW1]
 clear hW1
 obtain ⟨⟨x10, x11, x12, x13⟩, -, -, -, -⟩ := id qA
 obtain ⟨⟨x20, x21, x22, x23⟩, -, -, -, -⟩ := id qB
 go_wp2_with fail
 clear x10 x11 x12 x13 x20 x21 x22 x23
 refine (rsameNum_eq s1 t1 a1 b1 n1 m1 c1 d1 N k1 W1 h1 g1).mono ?_
 rintro e w1 ⟨rfl, hk⟩
 have hB := hB.trans (hk.mono hB.size)
 have h1 := h1.below hk
 have h2 := h2.below hk
 have g1 := g1.below hk
 have g2 := g2.below hk
 have qA := qA.below hk
 have qB := qB.below hk
 clear hk
 obtain ⟨⟨x10, x11, x12, x13⟩, -, -, -, -⟩ := id qA
 obtain ⟨⟨x20, x21, x22, x23⟩, -, -, -, -⟩ := id qB
 go_wp2_with fail
 clear x10 x11 x12 x13 x20 x21 x22 x23
 refine (rsameNum_eq s2 t2 a2 b2 n2 m2 c2 d2 D k2 w1 h2 g2).mono ?_
 rintro e w2 ⟨rfl, hk⟩
 have hB := hB.trans (hk.mono hB.size)
 have h1 := h1.below hk
 have h2 := h2.below hk
 have g1 := g1.below hk
 have g2 := g2.below hk
 have qA := qA.below hk
 have qB := qB.below hk
 clear hk
 go_wp2
 go_ret
 exact ⟨rfl, hB⟩
set_option maxRecDepth 100000 in
set_option maxHeartbeats 8000000 in
theorem rfrac_yes (n d : Int) (h0 : -9223372036854775808 ≤ n) (h1 : n ≤ 9223372036854775807) (hd0 : 1 ≤ d) (hd9 : d ≤ 9223372036854775807) (w : World) :
 Calls Tryz.prog 14 #[.agg #[.int .i64 n, .int .i64 d]] w (RatVal w (some (Rat.divInt n d))) := by
 have hdn := hide (show d ≠ 0 by omega)
 have hdz := hide hd0
 have hd1 : ¬ d < 1 := by omega
 go_enter Tryz.func14, Tryz.ntmps14
 go_wp2_with fail
 obtain ⟨W1, hW1⟩ : ∃ W1, (w.alloc (Obj.cells #[.int .i64 n, .int .i64 d] 29)).alloc (Obj.cells #[.bool false, .slice none 0 0, .bool false, .slice none 0 0] 27) = W1 := ⟨_, rfl⟩
 have bA : W1.cell? ⟨w.heap.size, 0, none⟩ = some (.int .i64 n) ∧ W1.cell? ⟨w.heap.size, 1, none⟩ = some (.int .i64 d) := by rw [← hW1]; exact ⟨by simp [go_sem], by simp [go_sem]⟩
 have qC : Quad W1 (w.heap.size + 1) (.bool false) (.slice none 0 0) (.bool false) (.slice none 0 0) := by
  rw [← hW1]; have := Quad.new (w.alloc (Obj.cells #[.int .i64 n, .int .i64 d] 29)) (.bool false) (.slice none 0 0) (.bool false) (.slice none 0 0) 27
  rw [World.size_alloc] at this; exact this
 have hB : Below w.heap.size w W1 := by rw [← hW1]; exact (below_alloc _ _).trans ((below_alloc _ _).mono (by simp))
 try rw [hW1]
 clear hW1
 have hB := hB.drew
 have qC : Quad W1.drew _ _ _ _ _ := qC.below (Below.drew (Below.refl _ _))
 have bA0 : W1.drew.cell? ⟨w.heap.size, 0, none⟩ = some (.int .i64 n) := bA.1
 have bA1 : W1.drew.cell? ⟨w.heap.size, 1, none⟩ = some (.int .i64 d) := bA.2
 clear bA
 refine wp_region_held_drew (S := fun w' => Below (w.heap.size + 1 + 1) W1.drew w') (by kernel_rfl) (Below.refl _ _) (fun hHeld => ?_)
 obtain ⟨WE, hWE⟩ : ∃ W, W1.drew = W := ⟨_, rfl⟩
 rw [hWE] at hB qC bA0 bA1 hHeld ⊢
 clear hWE
 have hE := Below.refl WE.heap.size WE
 have lA : w.heap.size < w.heap.size + 1 + 1 := by omega
 have lA' : w.heap.size + 1 < w.heap.size + 1 + 1 := by omega
 have lC := qC.lt
 have lS : w.heap.size + 1 + 1 ≤ WE.heap.size := by omega
 refine tk 0 (.pointer (some ⟨w.heap.size, 0, none⟩)) 10 rfl rfl ?_
 simp only [Act.put, pA, pB, pC]
 refine tk 1 (.int .i64 n) 11 rfl rfl ?_ (Or.inl ⟨by rfl, fun w' hSw => by have q0 := (hSw.cell (p := ⟨w.heap.size, 0, none⟩) lA).trans bA0; go_simp⟩)
 simp only [Act.put, pA, pB, pC]
 refine tk 3 (.pointer (some ⟨w.heap.size, 1, none⟩)) 13 rfl rfl ?_
 simp only [Act.put, pA, pB, pC]
 refine tk 4 (.int .i64 d) 14 rfl rfl ?_ (Or.inl ⟨by rfl, fun w' hSw => by have q0 := (hSw.cell (p := ⟨w.heap.size, 1, none⟩) lA).trans bA1; go_simp⟩)
 simp only [Act.put, pA, pB, pC]
 refine wpAnyH_twoR 2 10 (by kernel_rfl) ?_ ?_
 · refine wpOp_call (i := 2) (f := 55) (args := #[.int .i64 n]) 12 rfl rfl (by rfl) (by go_simp) ?_
   refine (whole_r n h0 h1 WE).mono ?_
   rintro e r1 ⟨s6, a6, n6, c6, rfl, N6, k6, l6, hk⟩
   have hE := hE.trans (hk.mono hE.size)
   have qC := qC.below hk
   have hS : Below (w.heap.size + 1 + 1) WE r1 := hE.mono lS
   refine ⟨_, rfl, hS, ?_⟩
   simp only [Act.put, pA, pB, pC]
   refine wpAnyH_twoR 5 10 (by kernel_rfl) ?_ ?_
   · refine wpOp_call (i := 5) (f := 55) (args := #[.int .i64 d]) 15 rfl rfl (by rfl) (by go_simp) ?_
     refine (whole_r d (Int.le_trans (by decide) hdz.out) hd9 r1).mono ?_
     rintro e r2 ⟨s7, a7, n7, c7, rfl, N7, k7, l7, hk⟩
     have hE := hE.trans (hk.mono hE.size)
     have qC := qC.below hk
     have N6 := N6.below hk
     have hS : Below (w.heap.size + 1 + 1) WE r2 := hE.mono lS
     refine ⟨_, rfl, hS, ?_⟩
     simp only [Act.put, pA, pB, pC]
     refine wpAnyH_twoR 6 10 (by kernel_rfl) ?_ ?_
     · have cc := rofR_pos s6 s7 a6 a7 n6 n7 c6 c7 n d k6 k7 l6 l7 (Int.lt_of_lt_of_le (by decide) hdz.out) r2 N6 N7
       refine wpOp_call (i := 6) (f := 25) (args := #[.agg #[.bool s6, .slice a6 n6 c6], .agg #[.bool s7, .slice a7 n7 c7]]) 16 rfl rfl (by rfl) (by go_simp) ?_
       refine (cc).mono ?_
       rintro e r3 ⟨s8, a8, n8, c8, s9, a9, n9, c9, rfl, P1, P2, k8, k9, hk⟩
       clear cc
       have hE := hE.trans (hk.mono hE.size)
       have qC := qC.below hk
       have N6 := N6.below hk
       have N7 := N7.below hk
       have hS : Below (w.heap.size + 1 + 1) WE r3 := hE.mono lS
       refine ⟨_, rfl, hS, ?_⟩
       simp only [Act.put, pA, pB, pC]
       refine tk 7 (.tuple #[.agg #[.bool s8, .slice a8 n8 c8, .bool s9, .slice a9 n9 c9], .bool true]) 9 rfl rfl ?_
       simp only [Act.put, pA, pB, pC]
       refine tk 8 (.agg #[.bool s8, .slice a8 n8 c8, .bool s9, .slice a9 n9 c9]) 17 rfl rfl ?_
       simp only [Act.put, pA, pB, pC]
       refine tk 9 (.bool true) 18 rfl rfl ?_
       simp only [Act.put, pA, pB, pC]
       refine wpAnyH_one 10 (by kernel_rfl) ?_
       refine wpOp_run (i := 10) rfl ?_
       go_simp
       have qr := Quad.new r3 (Value.bool false) (Value.slice none 0 0) (Value.bool false) (Value.slice none 0 0) 27
       have hk := below_alloc' r3 (Obj.cells #[.bool false, .slice none 0 0, .bool false, .slice none 0 0] 27)
       obtain ⟨r4, hw⟩ : ∃ W, r3.alloc (Obj.cells #[.bool false, .slice none 0 0, .bool false, .slice none 0 0] 27) = W := ⟨_, rfl⟩
       obtain ⟨bqr, hbb⟩ : ∃ b, r3.heap.size = b := ⟨_, rfl⟩
       have gqr : WE.heap.size ≤ bqr := by rw [← hbb]; exact hE.size
       rw [hw] at hk qr ⊢
       have hE := hE.trans (hk.mono hE.size)
       have qC := qC.below hk
       have N6 := N6.below hk
       have N7 := N7.below hk
       have P1 := P1.below hk
       have P2 := P2.below hk
       rw [hbb] at qr ⊢
       clear hw hbb hk
       have hS : Below (w.heap.size + 1 + 1) WE r4 := hE.mono lS
       refine ⟨hS, ?_⟩
       refine wpAnyH_one 11 (by kernel_rfl) ?_
       obtain ⟨Wz, hWz⟩ : ∃ W, (((r4.setCell ⟨bqr, 0, none⟩ (.bool s8)).setCell ⟨bqr, 1, none⟩ (.slice a8 n8 c8)).setCell ⟨bqr, 2, none⟩ (.bool s9)).setCell ⟨bqr, 3, none⟩ (.slice a9 n9 c9) = W := ⟨_, rfl⟩
       obtain ⟨hQ, hT⟩ := qr.set _ _ _ _ hWz
       have lqc : w.heap.size + 1 < bqr := by have := lC; omega
       have qC := qC.touch (by omega) hT
       have P1 := P1.quad qr.four hT
       have P2 := P2.quad qr.four hT
       have hSz : Below WE.heap.size WE ((((r4.setCell ⟨bqr, 0, none⟩ (.bool s8)).setCell ⟨bqr, 1, none⟩ (.slice a8 n8 c8)).setCell ⟨bqr, 2, none⟩ (.bool s9)).setCell ⟨bqr, 3, none⟩ (.slice a9 n9 c9)) := below_set4 hE gqr _ _ _ _
       have hS := hSz.mono lS
       have HWz := hide hWz
       have K := hide (And.intro hQ (And.intro qC (And.intro P1 (And.intro P2 hSz))))
       clear hWz hT hQ P1 P2
       obtain ⟨⟨x90, x91, x92, x93⟩, z90, z91, z92, z93⟩ := id qr
       refine wpOp_run (i := 11) rfl ?_
       go_simp
       refine tk 12 (.bool true) 4 rfl rfl ?_
       simp only [Act.put, pA, pB, pC]
       refine wpAnyH_done (by kernel_rfl) ?_ _
       rw [HWz.out]
       obtain ⟨hQ, qC, P1, P2, hSz⟩ := K.out
       rw [HWz.out] at hSz
       clear K HWz hE hS
       have hB := hB.trans (hSz.mono hB.size)
       clear hSz x90 x91 x92 x93 z90 z91 z92 z93 qr
       obtain ⟨Wz, hWz⟩ : ∃ W, (((Wz.setCell ⟨w.heap.size + 1, 0, none⟩ (.bool s8)).setCell ⟨w.heap.size + 1, 1, none⟩ (.slice a8 n8 c8)).setCell ⟨w.heap.size + 1, 2, none⟩ (.bool s9)).setCell ⟨w.heap.size + 1, 3, none⟩ (.slice a9 n9 c9) = W := ⟨_, rfl⟩
       obtain ⟨hQ, hT⟩ := qC.set _ _ _ _ hWz
       have hBz : Below w.heap.size w Wz := by rw [← hWz]; exact below_set4 hB (by omega) _ _ _ _
       have P1 := P1.quad qC.four hT
       have P2 := P2.quad qC.four hT
       have K := hide (And.intro hQ (And.intro P1 (And.intro P2 hBz)))
       have HWz := hide hWz
       clear hQ hBz hWz hT P1 P2
       obtain ⟨⟨x90, x91, x92, x93⟩, z90, z91, z92, z93⟩ := id qC
       obtain ⟨⟨x70, x71, x72, x73⟩, -, -, -, -⟩ := id hQ
       go_wp2
       obtain ⟨⟨⟨q0, q1, q2, q3⟩, -, -, -, -⟩, P1, P2, hBB⟩ := K.out
       rw [HWz.out]
       exact bodyPost_ret (v := .agg #[.bool s8, .slice a8 n8 c8, .bool s9, .slice a9 n9 c9]) (by simp [results, Tryz.results14, go_sem, q0, q1, q2, q3]) rfl ⟨_, _, _, _, _, _, _, _, rfl, P1, P2, k8, k9, hBB⟩
     · refine wpOp_run (i := 10) rfl ?_
       go_simp
       have qr := Quad.new r2 (Value.bool false) (Value.slice none 0 0) (Value.bool false) (Value.slice none 0 0) 27
       have hk := below_alloc' r2 (Obj.cells #[.bool false, .slice none 0 0, .bool false, .slice none 0 0] 27)
       obtain ⟨r5, hw⟩ : ∃ W, r2.alloc (Obj.cells #[.bool false, .slice none 0 0, .bool false, .slice none 0 0] 27) = W := ⟨_, rfl⟩
       obtain ⟨bqr, hbb⟩ : ∃ b, r2.heap.size = b := ⟨_, rfl⟩
       have gqr : WE.heap.size ≤ bqr := by rw [← hbb]; exact hE.size
       rw [hw] at hk qr ⊢
       have hE := hE.trans (hk.mono hE.size)
       have qC := qC.below hk
       have N6 := N6.below hk
       have N7 := N7.below hk
       rw [hbb] at qr ⊢
       clear hw hbb hk
       have hS : Below (w.heap.size + 1 + 1) WE r5 := hE.mono lS
       refine ⟨hS, ?_⟩
       refine wpAnyH_one 6 (by kernel_rfl) ?_
       have cc := rofR_pos s6 s7 a6 a7 n6 n7 c6 c7 n d k6 k7 l6 l7 (Int.lt_of_lt_of_le (by decide) hdz.out) r5 N6 N7
       refine wpOp_call (i := 6) (f := 25) (args := #[.agg #[.bool s6, .slice a6 n6 c6], .agg #[.bool s7, .slice a7 n7 c7]]) 16 rfl rfl (by rfl) (by go_simp) ?_
       refine (cc).mono ?_
       rintro e r6 ⟨s8, a8, n8, c8, s9, a9, n9, c9, rfl, P1, P2, k8, k9, hk⟩
       clear cc
       have hE := hE.trans (hk.mono hE.size)
       have qC := qC.below hk
       have N6 := N6.below hk
       have N7 := N7.below hk
       have qr := qr.below hk
       have hS : Below (w.heap.size + 1 + 1) WE r6 := hE.mono lS
       refine ⟨_, rfl, hS, ?_⟩
       simp only [Act.put, pA, pB, pC]
       refine tk 7 (.tuple #[.agg #[.bool s8, .slice a8 n8 c8, .bool s9, .slice a9 n9 c9], .bool true]) 9 rfl rfl ?_
       simp only [Act.put, pA, pB, pC]
       refine tk 8 (.agg #[.bool s8, .slice a8 n8 c8, .bool s9, .slice a9 n9 c9]) 17 rfl rfl ?_
       simp only [Act.put, pA, pB, pC]
       refine tk 9 (.bool true) 18 rfl rfl ?_
       simp only [Act.put, pA, pB, pC]
       refine wpAnyH_one 11 (by kernel_rfl) ?_
       obtain ⟨Wz, hWz⟩ : ∃ W, (((r6.setCell ⟨bqr, 0, none⟩ (.bool s8)).setCell ⟨bqr, 1, none⟩ (.slice a8 n8 c8)).setCell ⟨bqr, 2, none⟩ (.bool s9)).setCell ⟨bqr, 3, none⟩ (.slice a9 n9 c9) = W := ⟨_, rfl⟩
       obtain ⟨hQ, hT⟩ := qr.set _ _ _ _ hWz
       have lqc : w.heap.size + 1 < bqr := by have := lC; omega
       have qC := qC.touch (by omega) hT
       have P1 := P1.quad qr.four hT
       have P2 := P2.quad qr.four hT
       have hSz : Below WE.heap.size WE ((((r6.setCell ⟨bqr, 0, none⟩ (.bool s8)).setCell ⟨bqr, 1, none⟩ (.slice a8 n8 c8)).setCell ⟨bqr, 2, none⟩ (.bool s9)).setCell ⟨bqr, 3, none⟩ (.slice a9 n9 c9)) := below_set4 hE gqr _ _ _ _
       have hS := hSz.mono lS
       have HWz := hide hWz
       have K := hide (And.intro hQ (And.intro qC (And.intro P1 (And.intro P2 hSz))))
       clear hWz hT hQ P1 P2
       obtain ⟨⟨x90, x91, x92, x93⟩, z90, z91, z92, z93⟩ := id qr
       refine wpOp_run (i := 11) rfl ?_
       go_simp
       refine tk 12 (.bool true) 4 rfl rfl ?_
       simp only [Act.put, pA, pB, pC]
       refine wpAnyH_done (by kernel_rfl) ?_ _
       rw [HWz.out]
       obtain ⟨hQ, qC, P1, P2, hSz⟩ := K.out
       rw [HWz.out] at hSz
       clear K HWz hE hS
       have hB := hB.trans (hSz.mono hB.size)
       clear hSz x90 x91 x92 x93 z90 z91 z92 z93 qr
       obtain ⟨Wz, hWz⟩ : ∃ W, (((Wz.setCell ⟨w.heap.size + 1, 0, none⟩ (.bool s8)).setCell ⟨w.heap.size + 1, 1, none⟩ (.slice a8 n8 c8)).setCell ⟨w.heap.size + 1, 2, none⟩ (.bool s9)).setCell ⟨w.heap.size + 1, 3, none⟩ (.slice a9 n9 c9) = W := ⟨_, rfl⟩
       obtain ⟨hQ, hT⟩ := qC.set _ _ _ _ hWz
       have hBz : Below w.heap.size w Wz := by rw [← hWz]; exact below_set4 hB (by omega) _ _ _ _
       have P1 := P1.quad qC.four hT
       have P2 := P2.quad qC.four hT
       have K := hide (And.intro hQ (And.intro P1 (And.intro P2 hBz)))
       have HWz := hide hWz
       clear hQ hBz hWz hT P1 P2
       obtain ⟨⟨x90, x91, x92, x93⟩, z90, z91, z92, z93⟩ := id qC
       obtain ⟨⟨x70, x71, x72, x73⟩, -, -, -, -⟩ := id hQ
       go_wp2
       obtain ⟨⟨⟨q0, q1, q2, q3⟩, -, -, -, -⟩, P1, P2, hBB⟩ := K.out
       rw [HWz.out]
       exact bodyPost_ret (v := .agg #[.bool s8, .slice a8 n8 c8, .bool s9, .slice a9 n9 c9]) (by simp [results, Tryz.results14, go_sem, q0, q1, q2, q3]) rfl ⟨_, _, _, _, _, _, _, _, rfl, P1, P2, k8, k9, hBB⟩
   · refine wpOp_run (i := 10) rfl ?_
     go_simp
     have qr := Quad.new r1 (Value.bool false) (Value.slice none 0 0) (Value.bool false) (Value.slice none 0 0) 27
     have hk := below_alloc' r1 (Obj.cells #[.bool false, .slice none 0 0, .bool false, .slice none 0 0] 27)
     obtain ⟨r7, hw⟩ : ∃ W, r1.alloc (Obj.cells #[.bool false, .slice none 0 0, .bool false, .slice none 0 0] 27) = W := ⟨_, rfl⟩
     obtain ⟨bqr, hbb⟩ : ∃ b, r1.heap.size = b := ⟨_, rfl⟩
     have gqr : WE.heap.size ≤ bqr := by rw [← hbb]; exact hE.size
     rw [hw] at hk qr ⊢
     have hE := hE.trans (hk.mono hE.size)
     have qC := qC.below hk
     have N6 := N6.below hk
     rw [hbb] at qr ⊢
     clear hw hbb hk
     have hS : Below (w.heap.size + 1 + 1) WE r7 := hE.mono lS
     refine ⟨hS, ?_⟩
     refine wpAnyH_one 5 (by kernel_rfl) ?_
     refine wpOp_call (i := 5) (f := 55) (args := #[.int .i64 d]) 15 rfl rfl (by rfl) (by go_simp) ?_
     refine (whole_r d (Int.le_trans (by decide) hdz.out) hd9 r7).mono ?_
     rintro e r8 ⟨s7, a7, n7, c7, rfl, N7, k7, l7, hk⟩
     have hE := hE.trans (hk.mono hE.size)
     have qC := qC.below hk
     have N6 := N6.below hk
     have qr := qr.below hk
     have hS : Below (w.heap.size + 1 + 1) WE r8 := hE.mono lS
     refine ⟨_, rfl, hS, ?_⟩
     simp only [Act.put, pA, pB, pC]
     refine wpAnyH_one 6 (by kernel_rfl) ?_
     have cc := rofR_pos s6 s7 a6 a7 n6 n7 c6 c7 n d k6 k7 l6 l7 (Int.lt_of_lt_of_le (by decide) hdz.out) r8 N6 N7
     refine wpOp_call (i := 6) (f := 25) (args := #[.agg #[.bool s6, .slice a6 n6 c6], .agg #[.bool s7, .slice a7 n7 c7]]) 16 rfl rfl (by rfl) (by go_simp) ?_
     refine (cc).mono ?_
     rintro e r9 ⟨s8, a8, n8, c8, s9, a9, n9, c9, rfl, P1, P2, k8, k9, hk⟩
     clear cc
     have hE := hE.trans (hk.mono hE.size)
     have qC := qC.below hk
     have N6 := N6.below hk
     have N7 := N7.below hk
     have qr := qr.below hk
     have hS : Below (w.heap.size + 1 + 1) WE r9 := hE.mono lS
     refine ⟨_, rfl, hS, ?_⟩
     simp only [Act.put, pA, pB, pC]
     refine tk 7 (.tuple #[.agg #[.bool s8, .slice a8 n8 c8, .bool s9, .slice a9 n9 c9], .bool true]) 9 rfl rfl ?_
     simp only [Act.put, pA, pB, pC]
     refine tk 8 (.agg #[.bool s8, .slice a8 n8 c8, .bool s9, .slice a9 n9 c9]) 17 rfl rfl ?_
     simp only [Act.put, pA, pB, pC]
     refine tk 9 (.bool true) 18 rfl rfl ?_
     simp only [Act.put, pA, pB, pC]
     refine wpAnyH_one 11 (by kernel_rfl) ?_
     obtain ⟨Wz, hWz⟩ : ∃ W, (((r9.setCell ⟨bqr, 0, none⟩ (.bool s8)).setCell ⟨bqr, 1, none⟩ (.slice a8 n8 c8)).setCell ⟨bqr, 2, none⟩ (.bool s9)).setCell ⟨bqr, 3, none⟩ (.slice a9 n9 c9) = W := ⟨_, rfl⟩
     obtain ⟨hQ, hT⟩ := qr.set _ _ _ _ hWz
     have lqc : w.heap.size + 1 < bqr := by have := lC; omega
     have qC := qC.touch (by omega) hT
     have P1 := P1.quad qr.four hT
     have P2 := P2.quad qr.four hT
     have hSz : Below WE.heap.size WE ((((r9.setCell ⟨bqr, 0, none⟩ (.bool s8)).setCell ⟨bqr, 1, none⟩ (.slice a8 n8 c8)).setCell ⟨bqr, 2, none⟩ (.bool s9)).setCell ⟨bqr, 3, none⟩ (.slice a9 n9 c9)) := below_set4 hE gqr _ _ _ _
     have hS := hSz.mono lS
     have HWz := hide hWz
     have K := hide (And.intro hQ (And.intro qC (And.intro P1 (And.intro P2 hSz))))
     clear hWz hT hQ P1 P2
     obtain ⟨⟨x90, x91, x92, x93⟩, z90, z91, z92, z93⟩ := id qr
     refine wpOp_run (i := 11) rfl ?_
     go_simp
     refine tk 12 (.bool true) 4 rfl rfl ?_
     simp only [Act.put, pA, pB, pC]
     refine wpAnyH_done (by kernel_rfl) ?_ _
     rw [HWz.out]
     obtain ⟨hQ, qC, P1, P2, hSz⟩ := K.out
     rw [HWz.out] at hSz
     clear K HWz hE hS
     have hB := hB.trans (hSz.mono hB.size)
     clear hSz x90 x91 x92 x93 z90 z91 z92 z93 qr
     obtain ⟨Wz, hWz⟩ : ∃ W, (((Wz.setCell ⟨w.heap.size + 1, 0, none⟩ (.bool s8)).setCell ⟨w.heap.size + 1, 1, none⟩ (.slice a8 n8 c8)).setCell ⟨w.heap.size + 1, 2, none⟩ (.bool s9)).setCell ⟨w.heap.size + 1, 3, none⟩ (.slice a9 n9 c9) = W := ⟨_, rfl⟩
     obtain ⟨hQ, hT⟩ := qC.set _ _ _ _ hWz
     have hBz : Below w.heap.size w Wz := by rw [← hWz]; exact below_set4 hB (by omega) _ _ _ _
     have P1 := P1.quad qC.four hT
     have P2 := P2.quad qC.four hT
     have K := hide (And.intro hQ (And.intro P1 (And.intro P2 hBz)))
     have HWz := hide hWz
     clear hQ hBz hWz hT P1 P2
     obtain ⟨⟨x90, x91, x92, x93⟩, z90, z91, z92, z93⟩ := id qC
     obtain ⟨⟨x70, x71, x72, x73⟩, -, -, -, -⟩ := id hQ
     go_wp2
     obtain ⟨⟨⟨q0, q1, q2, q3⟩, -, -, -, -⟩, P1, P2, hBB⟩ := K.out
     rw [HWz.out]
     exact bodyPost_ret (v := .agg #[.bool s8, .slice a8 n8 c8, .bool s9, .slice a9 n9 c9]) (by simp [results, Tryz.results14, go_sem, q0, q1, q2, q3]) rfl ⟨_, _, _, _, _, _, _, _, rfl, P1, P2, k8, k9, hBB⟩
 · refine wpOp_run (i := 10) rfl ?_
   go_simp
   have qr := Quad.new WE (Value.bool false) (Value.slice none 0 0) (Value.bool false) (Value.slice none 0 0) 27
   have hk := below_alloc' WE (Obj.cells #[.bool false, .slice none 0 0, .bool false, .slice none 0 0] 27)
   obtain ⟨r10, hw⟩ : ∃ W, WE.alloc (Obj.cells #[.bool false, .slice none 0 0, .bool false, .slice none 0 0] 27) = W := ⟨_, rfl⟩
   obtain ⟨bqr, hbb⟩ : ∃ b, WE.heap.size = b := ⟨_, rfl⟩
   have gqr : WE.heap.size ≤ bqr := by rw [← hbb]; exact hE.size
   rw [hw] at hk qr ⊢
   have hE := hE.trans (hk.mono hE.size)
   have qC := qC.below hk
   rw [hbb] at qr ⊢
   clear hw hbb hk
   have hS : Below (w.heap.size + 1 + 1) WE r10 := hE.mono lS
   refine ⟨hS, ?_⟩
   refine wpAnyH_one 2 (by kernel_rfl) ?_
   refine wpOp_call (i := 2) (f := 55) (args := #[.int .i64 n]) 12 rfl rfl (by rfl) (by go_simp) ?_
   refine (whole_r n h0 h1 r10).mono ?_
   rintro e r11 ⟨s6, a6, n6, c6, rfl, N6, k6, l6, hk⟩
   have hE := hE.trans (hk.mono hE.size)
   have qC := qC.below hk
   have qr := qr.below hk
   have hS : Below (w.heap.size + 1 + 1) WE r11 := hE.mono lS
   refine ⟨_, rfl, hS, ?_⟩
   simp only [Act.put, pA, pB, pC]
   refine wpAnyH_one 5 (by kernel_rfl) ?_
   refine wpOp_call (i := 5) (f := 55) (args := #[.int .i64 d]) 15 rfl rfl (by rfl) (by go_simp) ?_
   refine (whole_r d (Int.le_trans (by decide) hdz.out) hd9 r11).mono ?_
   rintro e r12 ⟨s7, a7, n7, c7, rfl, N7, k7, l7, hk⟩
   have hE := hE.trans (hk.mono hE.size)
   have qC := qC.below hk
   have N6 := N6.below hk
   have qr := qr.below hk
   have hS : Below (w.heap.size + 1 + 1) WE r12 := hE.mono lS
   refine ⟨_, rfl, hS, ?_⟩
   simp only [Act.put, pA, pB, pC]
   refine wpAnyH_one 6 (by kernel_rfl) ?_
   have cc := rofR_pos s6 s7 a6 a7 n6 n7 c6 c7 n d k6 k7 l6 l7 (Int.lt_of_lt_of_le (by decide) hdz.out) r12 N6 N7
   refine wpOp_call (i := 6) (f := 25) (args := #[.agg #[.bool s6, .slice a6 n6 c6], .agg #[.bool s7, .slice a7 n7 c7]]) 16 rfl rfl (by rfl) (by go_simp) ?_
   refine (cc).mono ?_
   rintro e r13 ⟨s8, a8, n8, c8, s9, a9, n9, c9, rfl, P1, P2, k8, k9, hk⟩
   clear cc
   have hE := hE.trans (hk.mono hE.size)
   have qC := qC.below hk
   have N6 := N6.below hk
   have N7 := N7.below hk
   have qr := qr.below hk
   have hS : Below (w.heap.size + 1 + 1) WE r13 := hE.mono lS
   refine ⟨_, rfl, hS, ?_⟩
   simp only [Act.put, pA, pB, pC]
   refine tk 7 (.tuple #[.agg #[.bool s8, .slice a8 n8 c8, .bool s9, .slice a9 n9 c9], .bool true]) 9 rfl rfl ?_
   simp only [Act.put, pA, pB, pC]
   refine tk 8 (.agg #[.bool s8, .slice a8 n8 c8, .bool s9, .slice a9 n9 c9]) 17 rfl rfl ?_
   simp only [Act.put, pA, pB, pC]
   refine tk 9 (.bool true) 18 rfl rfl ?_
   simp only [Act.put, pA, pB, pC]
   refine wpAnyH_one 11 (by kernel_rfl) ?_
   obtain ⟨Wz, hWz⟩ : ∃ W, (((r13.setCell ⟨bqr, 0, none⟩ (.bool s8)).setCell ⟨bqr, 1, none⟩ (.slice a8 n8 c8)).setCell ⟨bqr, 2, none⟩ (.bool s9)).setCell ⟨bqr, 3, none⟩ (.slice a9 n9 c9) = W := ⟨_, rfl⟩
   obtain ⟨hQ, hT⟩ := qr.set _ _ _ _ hWz
   have lqc : w.heap.size + 1 < bqr := by have := lC; omega
   have qC := qC.touch (by omega) hT
   have P1 := P1.quad qr.four hT
   have P2 := P2.quad qr.four hT
   have hSz : Below WE.heap.size WE ((((r13.setCell ⟨bqr, 0, none⟩ (.bool s8)).setCell ⟨bqr, 1, none⟩ (.slice a8 n8 c8)).setCell ⟨bqr, 2, none⟩ (.bool s9)).setCell ⟨bqr, 3, none⟩ (.slice a9 n9 c9)) := below_set4 hE gqr _ _ _ _
   have hS := hSz.mono lS
   have HWz := hide hWz
   have K := hide (And.intro hQ (And.intro qC (And.intro P1 (And.intro P2 hSz))))
   clear hWz hT hQ P1 P2
   obtain ⟨⟨x90, x91, x92, x93⟩, z90, z91, z92, z93⟩ := id qr
   refine wpOp_run (i := 11) rfl ?_
   go_simp
   refine tk 12 (.bool true) 4 rfl rfl ?_
   simp only [Act.put, pA, pB, pC]
   refine wpAnyH_done (by kernel_rfl) ?_ _
   rw [HWz.out]
   obtain ⟨hQ, qC, P1, P2, hSz⟩ := K.out
   rw [HWz.out] at hSz
   clear K HWz hE hS
   have hB := hB.trans (hSz.mono hB.size)
   clear hSz x90 x91 x92 x93 z90 z91 z92 z93 qr
   obtain ⟨Wz, hWz⟩ : ∃ W, (((Wz.setCell ⟨w.heap.size + 1, 0, none⟩ (.bool s8)).setCell ⟨w.heap.size + 1, 1, none⟩ (.slice a8 n8 c8)).setCell ⟨w.heap.size + 1, 2, none⟩ (.bool s9)).setCell ⟨w.heap.size + 1, 3, none⟩ (.slice a9 n9 c9) = W := ⟨_, rfl⟩
   obtain ⟨hQ, hT⟩ := qC.set _ _ _ _ hWz
   have hBz : Below w.heap.size w Wz := by rw [← hWz]; exact below_set4 hB (by omega) _ _ _ _
   have P1 := P1.quad qC.four hT
   have P2 := P2.quad qC.four hT
   have K := hide (And.intro hQ (And.intro P1 (And.intro P2 hBz)))
   have HWz := hide hWz
   clear hQ hBz hWz hT P1 P2
   obtain ⟨⟨x90, x91, x92, x93⟩, z90, z91, z92, z93⟩ := id qC
   obtain ⟨⟨x70, x71, x72, x73⟩, -, -, -, -⟩ := id hQ
   go_wp2
   obtain ⟨⟨⟨q0, q1, q2, q3⟩, -, -, -, -⟩, P1, P2, hBB⟩ := K.out
   rw [HWz.out]
   exact bodyPost_ret (v := .agg #[.bool s8, .slice a8 n8 c8, .bool s9, .slice a9 n9 c9]) (by simp [results, Tryz.results14, go_sem, q0, q1, q2, q3]) rfl ⟨_, _, _, _, _, _, _, _, rfl, P1, P2, k8, k9, hBB⟩
/-- a fraction handed back is laid in a new variable -/
theorem rat_new {w Z W' : World} {s1 : Bool} {a1 : Option Addr} {n1 c1 : Nat} {s2 : Bool} {a2 : Option Addr} {n2 c2 : Nat} {o : Option Rat} {t : TypeId} (hZ : w.alloc (Obj.cells #[.bool false, .slice none 0 0, .bool false, .slice none 0 0] t) = Z)
 (hW : (((Z.setCell ⟨w.heap.size, 0, none⟩ (.bool s1)).setCell ⟨w.heap.size, 1, none⟩ (.slice a1 n1 c1)).setCell ⟨w.heap.size, 2, none⟩ (.bool s2)).setCell ⟨w.heap.size, 3, none⟩ (.slice a2 n2 c2) = W') (N : RArg w s1 a1 n1 s2 a2 n2 o) :
 HeldR W' w.heap.size s1 a1 n1 c1 s2 a2 n2 c2 o ∧ Below w.heap.size w W' ∧ Quad Z w.heap.size (.bool false) (.slice none 0 0) (.bool false) (.slice none 0 0) := by
 have b : Quad Z w.heap.size (.bool false) (.slice none 0 0) (.bool false) (.slice none 0 0) := by rw [← hZ]; exact Quad.new w _ _ _ _ t
 have kZ : Below w.heap.size w Z := by rw [← hZ]; exact below_alloc w _
 have k : Below w.heap.size w W' := by rw [← hW]; exact (((kZ.setCell (p := ⟨w.heap.size, 0, none⟩) (Nat.le_refl _) _).setCell (p := ⟨w.heap.size, 1, none⟩) (Nat.le_refl _) _).setCell (p := ⟨w.heap.size, 2, none⟩) (Nat.le_refl _) _).setCell (p := ⟨w.heap.size, 3, none⟩) (Nat.le_refl _) _
 exact ⟨⟨(b.set _ _ _ _ hW).1, N.below k⟩, k, b⟩
set_option maxRecDepth 100000 in
set_option maxHeartbeats 4000000 in
theorem lawof_r (n d : Int) (h0 : -9223372036854775808 ≤ n) (h1 : n ≤ 9223372036854775807) (g0 : -9223372036854775808 ≤ d) (g1 : d ≤ 9223372036854775807) (hd : 0 < d) (w : World) :
 Calls Tryz.prog 51 #[.int .i64 n, .int .i64 d] w (RatVal w (some (Rat.divInt n d))) := by
 go_enter Tryz.func51, Tryz.ntmps51
 go_wp2_with fail
 obtain ⟨W1, hW1⟩ : ∃ W1, w.alloc (Obj.cells #[.bool false, .slice none 0 0, .bool false, .slice none 0 0] 27) = W1 := ⟨_, rfl⟩
 have qC : Quad W1 w.heap.size (.bool false) (.slice none 0 0) (.bool false) (.slice none 0 0) := by rw [← hW1]; exact Quad.new _ _ _ _ _ _
 have hB : Below w.heap.size w W1 := by rw [← hW1]; exact below_alloc _ _
 try rw [hW1]
 clear hW1
 refine (rof_any n h0 h1 W1).mono ?_
 rintro e w1 ⟨s6, a6, n6, c6, rfl, N6, k6, l6, hk⟩
 have hB := hB.trans (hk.mono hB.size)
 have qC := qC.below hk
 clear hk
 go_wp2_with fail
 refine (rof_any d g0 g1 w1).mono ?_
 rintro e w2 ⟨s7, a7, n7, c7, rfl, N7, k7, l7, hk⟩
 have hB := hB.trans (hk.mono hB.size)
 have qC := qC.below hk
 have N6 := N6.below hk
 clear hk
 go_wp2_with fail
 refine (rofR_pos s6 s7 a6 a7 n6 n7 c6 c7 n d k6 k7 l6 l7 hd w2 N6 N7).mono ?_
 rintro e w3 ⟨s8, a8, n8, c8, s9, a9, n9, c9, rfl, P1, P2, k8, k9, hk⟩
 have hB := hB.trans (hk.mono hB.size)
 have qC := qC.below hk
 clear hk
 obtain ⟨Z8, hZ8⟩ : ∃ Z, w3.alloc (Obj.cells #[.bool false, .slice none 0 0, .bool false, .slice none 0 0] 27) = Z := ⟨_, rfl⟩
 obtain ⟨W8, hW8⟩ : ∃ W, (((Z8.setCell ⟨w3.heap.size, 0, none⟩ (.bool s8)).setCell ⟨w3.heap.size, 1, none⟩ (.slice a8 n8 c8)).setCell ⟨w3.heap.size, 2, none⟩ (.bool s9)).setCell ⟨w3.heap.size, 3, none⟩ (.slice a9 n9 c9) = W := ⟨_, rfl⟩
 obtain ⟨H8, hk, bx8⟩ := rat_new (c1 := c8) (c2 := c9) hZ8 hW8 (rarg_of (some (Rat.divInt n d)) P1 P2 k8 k9)
 obtain ⟨B8, hB8⟩ : ∃ B, w3.heap.size = B := ⟨_, rfl⟩
 clear P1 P2
 have hB := hB.trans (hk.mono hB.size)
 have qC := qC.below hk
 clear hk
 rw [hB8] at hW8 H8 bx8
 have P1 := H8.arg.num
 have P2 := H8.arg.den
 obtain ⟨Wz, hWz⟩ : ∃ W, (((W8.setCell ⟨w.heap.size, 0, none⟩ (.bool s8)).setCell ⟨w.heap.size, 1, none⟩ (.slice a8 n8 c8)).setCell ⟨w.heap.size, 2, none⟩ (.bool s9)).setCell ⟨w.heap.size, 3, none⟩ (.slice a9 n9 c9) = W := ⟨_, rfl⟩
 obtain ⟨hQ, hT⟩ := qC.set _ _ _ _ hWz
 have hBz : Below w.heap.size w Wz := by rw [← hWz]; exact below_set4 hB (by omega) _ _ _ _
 have P1 := P1.quad qC.four hT
 have P2 := P2.quad qC.four hT
 have K := hide (And.intro hQ (And.intro P1 (And.intro P2 hBz)))
 have HWz := hide hWz
 clear hQ hBz hWz hT P1 P2
 obtain ⟨⟨x90, x91, x92, x93⟩, z90, z91, z92, z93⟩ := id qC
 obtain ⟨⟨y0, y1, y2, y3⟩, yz0, yz1, yz2, yz3⟩ := id bx8
 obtain ⟨⟨x50, x51, x52, x53⟩, -, -, -, -⟩ := id H8.box
 go_wp2
 try rw [hW8]
 try rw [hB8]
 obtain ⟨⟨⟨q0, q1, q2, q3⟩, -, -, -, -⟩, P1, P2, hBB⟩ := K.out
 rw [HWz.out]
 exact bodyPost_ret (v := .agg #[.bool s8, .slice a8 n8 c8, .bool s9, .slice a9 n9 c9]) (by simp [results, Tryz.results51, go_sem, q0, q1, q2, q3]) rfl ⟨_, _, _, _, _, _, _, _, rfl, P1, P2, k8, k9, hBB⟩
end Go.Proofs.YtikepnocefdmnaaGreatDoor
