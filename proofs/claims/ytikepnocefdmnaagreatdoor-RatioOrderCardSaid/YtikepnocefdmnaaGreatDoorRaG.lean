/- ratio's Int, Frac, Sign, Floor, Ceil. -/
import Derived.Test.YtikepnocefdmnaaGreatDoorRaF
namespace Go.Proofs.YtikepnocefdmnaaGreatDoor
open Go.RowKit Go.Shelf

/-- three may come up -/
theorem wpAnyH_threeR {P : Program} {md : Region.Mode} {ops : Array Oper} {Q : Exit → Act → World → Prop} {S : World → Prop} {fuel : Nat} {l : Array Bool} {a : Act} {w : World} (i j k : Nat) (hr : Region.ready md ops l = [i, j, k])
 (h : wpOp P ops Q i (fun a' w' => S w' ∧ wpAnyH P md ops Q S fuel (l.setIfInBounds i true) a' w') a w) (h' : wpOp P ops Q j (fun a' w' => S w' ∧ wpAnyH P md ops Q S fuel (l.setIfInBounds j true) a' w') a w) (h'' : wpOp P ops Q k (fun a' w' => S w' ∧ wpAnyH P md ops Q S fuel (l.setIfInBounds k true) a' w') a w) : wpAnyH P md ops Q S (fuel + 1) l a w := by
 refine ⟨fun h0 => ?_, fun m hm => ?_⟩
 · rw [hr] at h0; cases h0
 · rw [hr] at hm
   rcases List.mem_cons.1 hm with rfl | hm
   · exact h
   · rcases List.mem_cons.1 hm with rfl | hm
     · exact h'
     · obtain rfl : m = k := by simpa using hm
       exact h''
theorem of_len {w : World} {s : Bool} {a : Option Addr} {n : Nat} {z : Int} (h : IsN w s a n z) (h0 : -9223372036854775808 ≤ z) (h1 : z ≤ 9223372036854775807) : n ≤ 64 := by
 rw [h.dig.len]; exact Nat.le_trans (dlen_le_two (by omega)) (by decide)
set_option maxRecDepth 100000 in
set_option maxHeartbeats 4000000 in
theorem int_r (n : Int) (h0 : -9223372036854775808 ≤ n) (h1 : n ≤ 9223372036854775807) (w : World) :
 Calls Tryz.prog 28 #[.int .i64 n] w (RatVal w (some (n : Rat))) := by
 go_enter Tryz.func28, Tryz.ntmps28
 go_wp2_with fail
 obtain ⟨W1, hW1⟩ : ∃ W1, w.alloc (Obj.cells #[.bool false, .slice none 0 0, .bool false, .slice none 0 0] 27) = W1 := ⟨_, rfl⟩
 have qC : Quad W1 w.heap.size (.bool false) (.slice none 0 0) (.bool false) (.slice none 0 0) := by rw [← hW1]; exact Quad.new _ _ _ _ _ _
 have hB : Below w.heap.size w W1 := by rw [← hW1]; exact below_alloc _ _
 try rw [hW1]
 clear hW1
 refine (of_any n h0 h1 W1).mono ?_
 rintro e w1 ⟨s1, a1, n1, c1, rfl, P1, hk⟩
 have hB := hB.trans (hk.mono hB.size)
 have qC := qC.below hk
 clear hk
 have k1 := of_len P1 h0 h1
 go_wp2_with fail
 refine (of_any 1 (by decide) (by decide) w1).mono ?_
 rintro e w2 ⟨s2, a2, n2, c2, rfl, P2, hk⟩
 have hB := hB.trans (hk.mono hB.size)
 have qC := qC.below hk
 have P1 := P1.below hk
 clear hk
 have k2 := of_len P2 (by decide) (by decide)
 obtain ⟨Wz, hWz⟩ : ∃ W, (((w2.setCell ⟨w.heap.size, 0, none⟩ (.bool s1)).setCell ⟨w.heap.size, 1, none⟩ (.slice a1 n1 c1)).setCell ⟨w.heap.size, 2, none⟩ (.bool s2)).setCell ⟨w.heap.size, 3, none⟩ (.slice a2 n2 c2) = W := ⟨_, rfl⟩
 obtain ⟨hQ, hT⟩ := qC.set _ _ _ _ hWz
 have hBz : Below w.heap.size w Wz := by rw [← hWz]; exact below_set4 hB (by omega) _ _ _ _
 have P1 := P1.quad qC.four hT
 have P2 := P2.quad qC.four hT
 have K := hide (And.intro hQ (And.intro P1 (And.intro P2 hBz)))
 have HWz := hide hWz
 clear hQ hBz hWz hT P1 P2
 obtain ⟨⟨x90, x91, x92, x93⟩, z90, z91, z92, z93⟩ := id qC
 go_wp2
 obtain ⟨⟨⟨q0, q1, q2, q3⟩, -, -, -, -⟩, P1, P2, hBB⟩ := K.out
 rw [HWz.out]
 exact bodyPost_ret (v := .agg #[.bool s1, .slice a1 n1 c1, .bool s2, .slice a2 n2 c2]) (by simp [results, Tryz.results28, go_sem, q0, q1, q2, q3]) rfl ⟨_, _, _, _, _, _, _, _, rfl, by rw [show numO (some ((n : Int) : Rat)) = n from Rat.num_intCast n]; exact P1, by rw [show denO (some ((n : Int) : Rat)) = 1 from by show (((n : Rat).den : Nat) : Int) = 1; rw [Rat.den_intCast]; rfl]; exact P2, k1, k2, hBB⟩
set_option maxRecDepth 100000 in
set_option maxHeartbeats 4000000 in
theorem frac_no (n d : Int) (hd : d < 1) (w : World) :
 Calls Tryz.prog 27 #[.agg #[.int .i64 n, .int .i64 d]] w (RatVal w none) := by
 have hd1 : decide (d < 1) = true := decide_eq_true hd
 go_enter Tryz.func27, Tryz.ntmps27
 go_wp2
 obtain ⟨W1, hW1⟩ : ∃ W1, (w.alloc (Obj.cells #[.int .i64 n, .int .i64 d] 29)).alloc (Obj.cells #[.bool false, .slice none 0 0, .bool false, .slice none 0 0] 27) = W1 := ⟨_, rfl⟩
 have bA : W1.cell? ⟨w.heap.size, 0, none⟩ = some (.int .i64 n) ∧ W1.cell? ⟨w.heap.size, 1, none⟩ = some (.int .i64 d) := by rw [← hW1]; exact ⟨by simp [go_sem], by simp [go_sem]⟩
 have qC : Quad W1 (w.heap.size + 1) (.bool false) (.slice none 0 0) (.bool false) (.slice none 0 0) := by
  rw [← hW1]; have := Quad.new (w.alloc (Obj.cells #[.int .i64 n, .int .i64 d] 29)) (.bool false) (.slice none 0 0) (.bool false) (.slice none 0 0) 27
  rw [World.size_alloc] at this; exact this
 have hB : Below w.heap.size w W1 := by rw [← hW1]; exact (below_alloc _ _).trans ((below_alloc _ _).mono (by simp))
 rw [hW1]
 clear hW1 bA
 obtain ⟨⟨q0, q1, q2, q3⟩, -, -, -, -⟩ := qC
 exact bodyPost_ret (v := .agg #[.bool false, .slice none 0 0, .bool false, .slice none 0 0]) (by simp [results, Tryz.results27, go_sem, q0, q1, q2, q3]) rfl ⟨_, _, _, _, _, _, _, _, rfl, zero_num _, zero_num _, by decide, by decide, hB⟩
set_option maxRecDepth 100000 in
set_option maxHeartbeats 8000000 in
theorem frac_yes (n d : Int) (h0 : -9223372036854775808 ≤ n) (h1 : n ≤ 9223372036854775807) (hd0 : 1 ≤ d) (hd9 : d ≤ 9223372036854775807) (w : World) :
 Calls Tryz.prog 27 #[.agg #[.int .i64 n, .int .i64 d]] w (RatVal w (some (Rat.divInt n d))) := by
 have hdn := hide (show d ≠ 0 by omega)
 have hdz := hide hd0
 have hd1 : ¬ d < 1 := by omega
 go_enter Tryz.func27, Tryz.ntmps27
 go_wp2_with fail
 obtain ⟨W1, hW1⟩ : ∃ W1, (w.alloc (Obj.cells #[.int .i64 n, .int .i64 d] 29)).alloc (Obj.cells #[.bool false, .slice none 0 0, .bool false, .slice none 0 0] 27) = W1 := ⟨_, rfl⟩
 have bA : W1.cell? ⟨w.heap.size, 0, none⟩ = some (.int .i64 n) ∧ W1.cell? ⟨w.heap.size, 1, none⟩ = some (.int .i64 d) := by rw [← hW1]; exact ⟨by simp [go_sem], by simp [go_sem]⟩
 have qC : Quad W1 (w.heap.size + 1) (.bool false) (.slice none 0 0) (.bool false) (.slice none 0 0) := by
  rw [← hW1]; have := Quad.new (w.alloc (Obj.cells #[.int .i64 n, .int .i64 d] 29)) (.bool false) (.slice none 0 0) (.bool false) (.slice none 0 0) 27
  rw [World.size_alloc] at this; exact this
 have hB : Below w.heap.size w W1 := by rw [← hW1]; exact (below_alloc _ _).trans ((below_alloc _ _).mono (by simp))
 try rw [hW1]
 clear hW1
 have hB := hB.drew
 have qC : Quad W1.drew _ _ _ _ _ := qC.below (Below.drew (Below.refl _ _))
 have bA0 : W1.drew.cell? ⟨w.heap.size, 0, none⟩ = some (.int .i64 n) := bA.1
 have bA1 : W1.drew.cell? ⟨w.heap.size, 1, none⟩ = some (.int .i64 d) := bA.2
 clear bA
 refine wp_region_held_drew (S := fun w' => Below (w.heap.size + 1 + 1) W1.drew w') (by kernel_rfl) (Below.refl _ _) (fun hHeld => ?_)
 obtain ⟨WE, hWE⟩ : ∃ W, W1.drew = W := ⟨_, rfl⟩
 rw [hWE] at hB qC bA0 bA1 hHeld ⊢
 clear hWE
 have hE := Below.refl WE.heap.size WE
 have lA : w.heap.size < w.heap.size + 1 + 1 := by omega
 have lA' : w.heap.size + 1 < w.heap.size + 1 + 1 := by omega
 have lC := qC.lt
 have lS : w.heap.size + 1 + 1 ≤ WE.heap.size := by omega
 refine tk 0 (.pointer (some ⟨w.heap.size, 0, none⟩)) 10 rfl rfl ?_
 simp only [Act.put, pA, pB, pC]
 refine tk 1 (.int .i64 n) 11 rfl rfl ?_ (Or.inl ⟨by rfl, fun w' hSw => by have q0 := (hSw.cell (p := ⟨w.heap.size, 0, none⟩) lA).trans bA0; go_simp⟩)
 simp only [Act.put, pA, pB, pC]
 refine tk 3 (.pointer (some ⟨w.heap.size, 1, none⟩)) 13 rfl rfl ?_
 simp only [Act.put, pA, pB, pC]
 refine tk 4 (.int .i64 d) 14 rfl rfl ?_ (Or.inl ⟨by rfl, fun w' hSw => by have q0 := (hSw.cell (p := ⟨w.heap.size, 1, none⟩) lA).trans bA1; go_simp⟩)
 simp only [Act.put, pA, pB, pC]
 refine wpAnyH_twoR 2 10 (by kernel_rfl) ?g1 ?g2
 case' g1 =>
  refine wpOp_call (i := 2) (f := 48) (args := #[.int .i64 n]) 12 rfl rfl (by rfl) (by go_simp) ?_
  refine (of_any n h0 h1 WE).mono ?_
  rintro e r1 ⟨s6, a6, n6, c6, rfl, N6, hk⟩
  have hE := hE.trans (hk.mono hE.size)
  have qC := qC.below hk
  have k6 := of_len N6 h0 h1
  have hS : Below (w.heap.size + 1 + 1) WE r1 := hE.mono lS
  refine ⟨_, rfl, hS, ?_⟩
  simp only [Act.put, pA, pB, pC]
  refine wpAnyH_twoR 5 10 (by kernel_rfl) ?g3 ?g4
  case' g3 =>
   refine wpOp_call (i := 5) (f := 48) (args := #[.int .i64 d]) 15 rfl rfl (by rfl) (by go_simp) ?_
   refine (of_any d (Int.le_trans (by decide) hdz.out) hd9 r1).mono ?_
   rintro e r2 ⟨s7, a7, n7, c7, rfl, N7, hk⟩
   have hE := hE.trans (hk.mono hE.size)
   have qC := qC.below hk
   have N6 := N6.below hk
   have k7 := of_len N7 (Int.le_trans (by decide) hdz.out) hd9
   have hS : Below (w.heap.size + 1 + 1) WE r2 := hE.mono lS
   refine ⟨_, rfl, hS, ?_⟩
   simp only [Act.put, pA, pB, pC]
   refine wpAnyH_twoR 6 10 (by kernel_rfl) ?g5 ?g6
   case' g5 =>
    have cc := of_r s6 s7 a6 a7 n6 n7 c6 c7 n d k6 k7 r2 N6 N7
    rw [divO_some n hdn.out] at cc
    refine wpOp_call (i := 6) (f := 24) (args := #[.agg #[.bool s6, .slice a6 n6 c6], .agg #[.bool s7, .slice a7 n7 c7]]) 16 rfl rfl (by rfl) (by go_simp) ?_
    refine (cc).mono ?_
    rintro e r3 ⟨s8, a8, n8, c8, s9, a9, n9, c9, rfl, P1, P2, k8, k9, hk⟩
    clear cc
    have hE := hE.trans (hk.mono hE.size)
    have qC := qC.below hk
    have N6 := N6.below hk
    have N7 := N7.below hk
    have hS : Below (w.heap.size + 1 + 1) WE r3 := hE.mono lS
    refine ⟨_, rfl, hS, ?_⟩
    simp only [Act.put, pA, pB, pC]
    refine tk 7 (.tuple #[.agg #[.bool s8, .slice a8 n8 c8, .bool s9, .slice a9 n9 c9], .bool true]) 9 rfl rfl ?_
    simp only [Act.put, pA, pB, pC]
    refine tk 8 (.agg #[.bool s8, .slice a8 n8 c8, .bool s9, .slice a9 n9 c9]) 17 rfl rfl ?_
    simp only [Act.put, pA, pB, pC]
    refine tk 9 (.bool true) 18 rfl rfl ?_
    simp only [Act.put, pA, pB, pC]
    refine wpAnyH_one 10 (by kernel_rfl) ?_
    refine wpOp_run (i := 10) rfl ?_
    go_simp
    have qr := Quad.new r3 (Value.bool false) (Value.slice none 0 0) (Value.bool false) (Value.slice none 0 0) 27
    have hk := below_alloc' r3 (Obj.cells #[.bool false, .slice none 0 0, .bool false, .slice none 0 0] 27)
    obtain ⟨r4, hw⟩ : ∃ W, r3.alloc (Obj.cells #[.bool false, .slice none 0 0, .bool false, .slice none 0 0] 27) = W := ⟨_, rfl⟩
    obtain ⟨bqr, hbb⟩ : ∃ b, r3.heap.size = b := ⟨_, rfl⟩
    have gqr : WE.heap.size ≤ bqr := by rw [← hbb]; exact hE.size
    rw [hw] at hk qr ⊢
    have hE := hE.trans (hk.mono hE.size)
    have qC := qC.below hk
    have N6 := N6.below hk
    have N7 := N7.below hk
    have P1 := P1.below hk
    have P2 := P2.below hk
    rw [hbb] at qr ⊢
    clear hw hbb hk
    have hS : Below (w.heap.size + 1 + 1) WE r4 := hE.mono lS
    refine ⟨hS, ?_⟩
    refine wpAnyH_one 11 (by kernel_rfl) ?_
    obtain ⟨Wz, hWz⟩ : ∃ W, (((r4.setCell ⟨bqr, 0, none⟩ (.bool s8)).setCell ⟨bqr, 1, none⟩ (.slice a8 n8 c8)).setCell ⟨bqr, 2, none⟩ (.bool s9)).setCell ⟨bqr, 3, none⟩ (.slice a9 n9 c9) = W := ⟨_, rfl⟩
    obtain ⟨hQ, hT⟩ := qr.set _ _ _ _ hWz
    have lqc : w.heap.size + 1 < bqr := by have := lC; omega
    have qC := qC.touch (by omega) hT
    have P1 := P1.quad qr.four hT
    have P2 := P2.quad qr.four hT
    have hSz : Below WE.heap.size WE ((((r4.setCell ⟨bqr, 0, none⟩ (.bool s8)).setCell ⟨bqr, 1, none⟩ (.slice a8 n8 c8)).setCell ⟨bqr, 2, none⟩ (.bool s9)).setCell ⟨bqr, 3, none⟩ (.slice a9 n9 c9)) := below_set4 hE gqr _ _ _ _
    have hS := hSz.mono lS
    have HWz := hide hWz
    have K := hide (And.intro hQ (And.intro qC (And.intro P1 (And.intro P2 hSz))))
    clear hWz hT hQ P1 P2
    obtain ⟨⟨x90, x91, x92, x93⟩, z90, z91, z92, z93⟩ := id qr
    refine wpOp_run (i := 11) rfl ?_
    go_simp
    refine tk 12 (.bool true) 4 rfl rfl ?_
    simp only [Act.put, pA, pB, pC]
    refine wpAnyH_done (by kernel_rfl) ?_ _
    obtain ⟨we1, rfl⟩ : ∃ W, W = r4 := ⟨_, rfl⟩
   case' g6 =>
    refine wpOp_run (i := 10) rfl ?_
    go_simp
    have qr := Quad.new r2 (Value.bool false) (Value.slice none 0 0) (Value.bool false) (Value.slice none 0 0) 27
    have hk := below_alloc' r2 (Obj.cells #[.bool false, .slice none 0 0, .bool false, .slice none 0 0] 27)
    obtain ⟨r5, hw⟩ : ∃ W, r2.alloc (Obj.cells #[.bool false, .slice none 0 0, .bool false, .slice none 0 0] 27) = W := ⟨_, rfl⟩
    obtain ⟨bqr, hbb⟩ : ∃ b, r2.heap.size = b := ⟨_, rfl⟩
    have gqr : WE.heap.size ≤ bqr := by rw [← hbb]; exact hE.size
    rw [hw] at hk qr ⊢
    have hE := hE.trans (hk.mono hE.size)
    have qC := qC.below hk
    have N6 := N6.below hk
    have N7 := N7.below hk
    rw [hbb] at qr ⊢
    clear hw hbb hk
    have hS : Below (w.heap.size + 1 + 1) WE r5 := hE.mono lS
    refine ⟨hS, ?_⟩
    refine wpAnyH_one 6 (by kernel_rfl) ?_
    have cc := of_r s6 s7 a6 a7 n6 n7 c6 c7 n d k6 k7 r5 N6 N7
    rw [divO_some n hdn.out] at cc
    refine wpOp_call (i := 6) (f := 24) (args := #[.agg #[.bool s6, .slice a6 n6 c6], .agg #[.bool s7, .slice a7 n7 c7]]) 16 rfl rfl (by rfl) (by go_simp) ?_
    refine (cc).mono ?_
    rintro e r6 ⟨s8, a8, n8, c8, s9, a9, n9, c9, rfl, P1, P2, k8, k9, hk⟩
    clear cc
    have hE := hE.trans (hk.mono hE.size)
    have qC := qC.below hk
    have N6 := N6.below hk
    have N7 := N7.below hk
    have qr := qr.below hk
    have hS : Below (w.heap.size + 1 + 1) WE r6 := hE.mono lS
    refine ⟨_, rfl, hS, ?_⟩
    simp only [Act.put, pA, pB, pC]
    refine tk 7 (.tuple #[.agg #[.bool s8, .slice a8 n8 c8, .bool s9, .slice a9 n9 c9], .bool true]) 9 rfl rfl ?_
    simp only [Act.put, pA, pB, pC]
    refine tk 8 (.agg #[.bool s8, .slice a8 n8 c8, .bool s9, .slice a9 n9 c9]) 17 rfl rfl ?_
    simp only [Act.put, pA, pB, pC]
    refine tk 9 (.bool true) 18 rfl rfl ?_
    simp only [Act.put, pA, pB, pC]
    refine wpAnyH_one 11 (by kernel_rfl) ?_
    obtain ⟨Wz, hWz⟩ : ∃ W, (((r6.setCell ⟨bqr, 0, none⟩ (.bool s8)).setCell ⟨bqr, 1, none⟩ (.slice a8 n8 c8)).setCell ⟨bqr, 2, none⟩ (.bool s9)).setCell ⟨bqr, 3, none⟩ (.slice a9 n9 c9) = W := ⟨_, rfl⟩
    obtain ⟨hQ, hT⟩ := qr.set _ _ _ _ hWz
    have lqc : w.heap.size + 1 < bqr := by have := lC; omega
    have qC := qC.touch (by omega) hT
    have P1 := P1.quad qr.four hT
    have P2 := P2.quad qr.four hT
    have hSz : Below WE.heap.size WE ((((r6.setCell ⟨bqr, 0, none⟩ (.bool s8)).setCell ⟨bqr, 1, none⟩ (.slice a8 n8 c8)).setCell ⟨bqr, 2, none⟩ (.bool s9)).setCell ⟨bqr, 3, none⟩ (.slice a9 n9 c9)) := below_set4 hE gqr _ _ _ _
    have hS := hSz.mono lS
    have HWz := hide hWz
    have K := hide (And.intro hQ (And.intro qC (And.intro P1 (And.intro P2 hSz))))
    clear hWz hT hQ P1 P2
    obtain ⟨⟨x90, x91, x92, x93⟩, z90, z91, z92, z93⟩ := id qr
    refine wpOp_run (i := 11) rfl ?_
    go_simp
    refine tk 12 (.bool true) 4 rfl rfl ?_
    simp only [Act.put, pA, pB, pC]
    refine wpAnyH_done (by kernel_rfl) ?_ _
    obtain ⟨we1, rfl⟩ : ∃ W, W = r6 := ⟨_, rfl⟩
  case' g4 =>
   refine wpOp_run (i := 10) rfl ?_
   go_simp
   have qr := Quad.new r1 (Value.bool false) (Value.slice none 0 0) (Value.bool false) (Value.slice none 0 0) 27
   have hk := below_alloc' r1 (Obj.cells #[.bool false, .slice none 0 0, .bool false, .slice none 0 0] 27)
   obtain ⟨r7, hw⟩ : ∃ W, r1.alloc (Obj.cells #[.bool false, .slice none 0 0, .bool false, .slice none 0 0] 27) = W := ⟨_, rfl⟩
   obtain ⟨bqr, hbb⟩ : ∃ b, r1.heap.size = b := ⟨_, rfl⟩
   have gqr : WE.heap.size ≤ bqr := by rw [← hbb]; exact hE.size
   rw [hw] at hk qr ⊢
   have hE := hE.trans (hk.mono hE.size)
   have qC := qC.below hk
   have N6 := N6.below hk
   rw [hbb] at qr ⊢
   clear hw hbb hk
   have hS : Below (w.heap.size + 1 + 1) WE r7 := hE.mono lS
   refine ⟨hS, ?_⟩
   refine wpAnyH_one 5 (by kernel_rfl) ?_
   refine wpOp_call (i := 5) (f := 48) (args := #[.int .i64 d]) 15 rfl rfl (by rfl) (by go_simp) ?_
   refine (of_any d (Int.le_trans (by decide) hdz.out) hd9 r7).mono ?_
   rintro e r8 ⟨s7, a7, n7, c7, rfl, N7, hk⟩
   have hE := hE.trans (hk.mono hE.size)
   have qC := qC.below hk
   have N6 := N6.below hk
   have qr := qr.below hk
   have k7 := of_len N7 (Int.le_trans (by decide) hdz.out) hd9
   have hS : Below (w.heap.size + 1 + 1) WE r8 := hE.mono lS
   refine ⟨_, rfl, hS, ?_⟩
   simp only [Act.put, pA, pB, pC]
   refine wpAnyH_one 6 (by kernel_rfl) ?_
   have cc := of_r s6 s7 a6 a7 n6 n7 c6 c7 n d k6 k7 r8 N6 N7
   rw [divO_some n hdn.out] at cc
   refine wpOp_call (i := 6) (f := 24) (args := #[.agg #[.bool s6, .slice a6 n6 c6], .agg #[.bool s7, .slice a7 n7 c7]]) 16 rfl rfl (by rfl) (by go_simp) ?_
   refine (cc).mono ?_
   rintro e r9 ⟨s8, a8, n8, c8, s9, a9, n9, c9, rfl, P1, P2, k8, k9, hk⟩
   clear cc
   have hE := hE.trans (hk.mono hE.size)
   have qC := qC.below hk
   have N6 := N6.below hk
   have N7 := N7.below hk
   have qr := qr.below hk
   have hS : Below (w.heap.size + 1 + 1) WE r9 := hE.mono lS
   refine ⟨_, rfl, hS, ?_⟩
   simp only [Act.put, pA, pB, pC]
   refine tk 7 (.tuple #[.agg #[.bool s8, .slice a8 n8 c8, .bool s9, .slice a9 n9 c9], .bool true]) 9 rfl rfl ?_
   simp only [Act.put, pA, pB, pC]
   refine tk 8 (.agg #[.bool s8, .slice a8 n8 c8, .bool s9, .slice a9 n9 c9]) 17 rfl rfl ?_
   simp only [Act.put, pA, pB, pC]
   refine tk 9 (.bool true) 18 rfl rfl ?_
   simp only [Act.put, pA, pB, pC]
   refine wpAnyH_one 11 (by kernel_rfl) ?_
   obtain ⟨Wz, hWz⟩ : ∃ W, (((r9.setCell ⟨bqr, 0, none⟩ (.bool s8)).setCell ⟨bqr, 1, none⟩ (.slice a8 n8 c8)).setCell ⟨bqr, 2, none⟩ (.bool s9)).setCell ⟨bqr, 3, none⟩ (.slice a9 n9 c9) = W := ⟨_, rfl⟩
   obtain ⟨hQ, hT⟩ := qr.set _ _ _ _ hWz
   have lqc : w.heap.size + 1 < bqr := by have := lC; omega
   have qC := qC.touch (by omega) hT
   have P1 := P1.quad qr.four hT
   have P2 := P2.quad qr.four hT
   have hSz : Below WE.heap.size WE ((((r9.setCell ⟨bqr, 0, none⟩ (.bool s8)).setCell ⟨bqr, 1, none⟩ (.slice a8 n8 c8)).setCell ⟨bqr, 2, none⟩ (.bool s9)).setCell ⟨bqr, 3, none⟩ (.slice a9 n9 c9)) := below_set4 hE gqr _ _ _ _
   have hS := hSz.mono lS
   have HWz := hide hWz
   have K := hide (And.intro hQ (And.intro qC (And.intro P1 (And.intro P2 hSz))))
   clear hWz hT hQ P1 P2
   obtain ⟨⟨x90, x91, x92, x93⟩, z90, z91, z92, z93⟩ := id qr
   refine wpOp_run (i := 11) rfl ?_
   go_simp
   refine tk 12 (.bool true) 4 rfl rfl ?_
   simp only [Act.put, pA, pB, pC]
   refine wpAnyH_done (by kernel_rfl) ?_ _
   obtain ⟨we1, rfl⟩ : ∃ W, W = r9 := ⟨_, rfl⟩
 case' g2 =>
  refine wpOp_run (i := 10) rfl ?_
  go_simp
  have qr := Quad.new WE (Value.bool false) (Value.slice none 0 0) (Value.bool false) (Value.slice none 0 0) 27
  have hk := below_alloc' WE (Obj.cells #[.bool false, .slice none 0 0, .bool false, .slice none 0 0] 27)
  obtain ⟨r10, hw⟩ : ∃ W, WE.alloc (Obj.cells #[.bool false, .slice none 0 0, .bool false, .slice none 0 0] 27) = W := ⟨_, rfl⟩
  obtain ⟨bqr, hbb⟩ : ∃ b, WE.heap.size = b := ⟨_, rfl⟩
  have gqr : WE.heap.size ≤ bqr := by rw [← hbb]; exact hE.size
  rw [hw] at hk qr ⊢
  have hE := hE.trans (hk.mono hE.size)
  have qC := qC.below hk
  rw [hbb] at qr ⊢
  clear hw hbb hk
  have hS : Below (w.heap.size + 1 + 1) WE r10 := hE.mono lS
  refine ⟨hS, ?_⟩
  refine wpAnyH_one 2 (by kernel_rfl) ?_
  refine wpOp_call (i := 2) (f := 48) (args := #[.int .i64 n]) 12 rfl rfl (by rfl) (by go_simp) ?_
  refine (of_any n h0 h1 r10).mono ?_
  rintro e r11 ⟨s6, a6, n6, c6, rfl, N6, hk⟩
  have hE := hE.trans (hk.mono hE.size)
  have qC := qC.below hk
  have qr := qr.below hk
  have k6 := of_len N6 h0 h1
  have hS : Below (w.heap.size + 1 + 1) WE r11 := hE.mono lS
  refine ⟨_, rfl, hS, ?_⟩
  simp only [Act.put, pA, pB, pC]
  refine wpAnyH_one 5 (by kernel_rfl) ?_
  refine wpOp_call (i := 5) (f := 48) (args := #[.int .i64 d]) 15 rfl rfl (by rfl) (by go_simp) ?_
  refine (of_any d (Int.le_trans (by decide) hdz.out) hd9 r11).mono ?_
  rintro e r12 ⟨s7, a7, n7, c7, rfl, N7, hk⟩
  have hE := hE.trans (hk.mono hE.size)
  have qC := qC.below hk
  have N6 := N6.below hk
  have qr := qr.below hk
  have k7 := of_len N7 (Int.le_trans (by decide) hdz.out) hd9
  have hS : Below (w.heap.size + 1 + 1) WE r12 := hE.mono lS
  refine ⟨_, rfl, hS, ?_⟩
  simp only [Act.put, pA, pB, pC]
  refine wpAnyH_one 6 (by kernel_rfl) ?_
  have cc := of_r s6 s7 a6 a7 n6 n7 c6 c7 n d k6 k7 r12 N6 N7
  rw [divO_some n hdn.out] at cc
  refine wpOp_call (i := 6) (f := 24) (args := #[.agg #[.bool s6, .slice a6 n6 c6], .agg #[.bool s7, .slice a7 n7 c7]]) 16 rfl rfl (by rfl) (by go_simp) ?_
  refine (cc).mono ?_
  rintro e r13 ⟨s8, a8, n8, c8, s9, a9, n9, c9, rfl, P1, P2, k8, k9, hk⟩
  clear cc
  have hE := hE.trans (hk.mono hE.size)
  have qC := qC.below hk
  have N6 := N6.below hk
  have N7 := N7.below hk
  have qr := qr.below hk
  have hS : Below (w.heap.size + 1 + 1) WE r13 := hE.mono lS
  refine ⟨_, rfl, hS, ?_⟩
  simp only [Act.put, pA, pB, pC]
  refine tk 7 (.tuple #[.agg #[.bool s8, .slice a8 n8 c8, .bool s9, .slice a9 n9 c9], .bool true]) 9 rfl rfl ?_
  simp only [Act.put, pA, pB, pC]
  refine tk 8 (.agg #[.bool s8, .slice a8 n8 c8, .bool s9, .slice a9 n9 c9]) 17 rfl rfl ?_
  simp only [Act.put, pA, pB, pC]
  refine tk 9 (.bool true) 18 rfl rfl ?_
  simp only [Act.put, pA, pB, pC]
  refine wpAnyH_one 11 (by kernel_rfl) ?_
  obtain ⟨Wz, hWz⟩ : ∃ W, (((r13.setCell ⟨bqr, 0, none⟩ (.bool s8)).setCell ⟨bqr, 1, none⟩ (.slice a8 n8 c8)).setCell ⟨bqr, 2, none⟩ (.bool s9)).setCell ⟨bqr, 3, none⟩ (.slice a9 n9 c9) = W := ⟨_, rfl⟩
  obtain ⟨hQ, hT⟩ := qr.set _ _ _ _ hWz
  have lqc : w.heap.size + 1 < bqr := by have := lC; omega
  have qC := qC.touch (by omega) hT
  have P1 := P1.quad qr.four hT
  have P2 := P2.quad qr.four hT
  have hSz : Below WE.heap.size WE ((((r13.setCell ⟨bqr, 0, none⟩ (.bool s8)).setCell ⟨bqr, 1, none⟩ (.slice a8 n8 c8)).setCell ⟨bqr, 2, none⟩ (.bool s9)).setCell ⟨bqr, 3, none⟩ (.slice a9 n9 c9)) := below_set4 hE gqr _ _ _ _
  have hS := hSz.mono lS
  have HWz := hide hWz
  have K := hide (And.intro hQ (And.intro qC (And.intro P1 (And.intro P2 hSz))))
  clear hWz hT hQ P1 P2
  obtain ⟨⟨x90, x91, x92, x93⟩, z90, z91, z92, z93⟩ := id qr
  refine wpOp_run (i := 11) rfl ?_
  go_simp
  refine tk 12 (.bool true) 4 rfl rfl ?_
  simp only [Act.put, pA, pB, pC]
  refine wpAnyH_done (by kernel_rfl) ?_ _
  obtain ⟨we1, rfl⟩ : ∃ W, W = r13 := ⟨_, rfl⟩
 all_goals
  rw [HWz.out]
  obtain ⟨hQ, qC, P1, P2, hSz⟩ := K.out
  rw [HWz.out] at hSz
  clear K HWz hE hS
  have hB := hB.trans (hSz.mono hB.size)
  clear hSz x90 x91 x92 x93 z90 z91 z92 z93 qr
  obtain ⟨Wz, hWz⟩ : ∃ W, (((Wz.setCell ⟨w.heap.size + 1, 0, none⟩ (.bool s8)).setCell ⟨w.heap.size + 1, 1, none⟩ (.slice a8 n8 c8)).setCell ⟨w.heap.size + 1, 2, none⟩ (.bool s9)).setCell ⟨w.heap.size + 1, 3, none⟩ (.slice a9 n9 c9) = W := ⟨_, rfl⟩
  obtain ⟨hQ, hT⟩ := qC.set _ _ _ _ hWz
  have hBz : Below w.heap.size w Wz := by rw [← hWz]; exact below_set4 hB (by omega) _ _ _ _
  have P1 := P1.quad qC.four hT
  have P2 := P2.quad qC.four hT
  have K := hide (And.intro hQ (And.intro P1 (And.intro P2 hBz)))
  have HWz := hide hWz
  clear hQ hBz hWz hT P1 P2
  obtain ⟨⟨x90, x91, x92, x93⟩, z90, z91, z92, z93⟩ := id qC
  obtain ⟨⟨x70, x71, x72, x73⟩, -, -, -, -⟩ := id hQ
  go_wp2
  obtain ⟨⟨⟨q0, q1, q2, q3⟩, -, -, -, -⟩, P1, P2, hBB⟩ := K.out
  rw [HWz.out]
  exact bodyPost_ret (v := .agg #[.bool s8, .slice a8 n8 c8, .bool s9, .slice a9 n9 c9]) (by simp [results, Tryz.results27, go_sem, q0, q1, q2, q3]) rfl ⟨_, _, _, _, _, _, _, _, rfl, P1, P2, k8, k9, hBB⟩

def sgnO : Option Rat → Int
 | some x => sgnR x
 | none => 0
def floorO : Option Rat → Option Int
 | some x => intO (some (x.num / (x.den : Int)))
 | none => none
def ceilO : Option Rat → Option Int
 | some x => intO (some (-((-x.num) / (x.den : Int))))
 | none => none
theorem len_pos {w : World} {s : Bool} {a : Option Addr} {n : Nat} {z : Int} (h : IsN w s a n z) (hz : z ≠ 0) : 0 < n := Nat.pos_of_ne_zero fun e => by subst e; exact hz (num_zero h)
set_option maxRecDepth 100000 in
set_option maxHeartbeats 4000000 in
theorem sign_r (s1 s2 : Bool) (a1 a2 : Option Addr) (n1 n2 c1 c2 : Nat) (ox : Option Rat) (w : World) (hx : RArg w s1 a1 n1 s2 a2 n2 ox) :
 Calls Tryz.prog 22 #[.agg #[.bool s1, .slice a1 n1 c1, .bool s2, .slice a2 n2 c2]] w fun e w' => e = .returned (.int .i64 (sgnO ox)) ∧ Below w.heap.size w w' := by
 go_enter Tryz.func22, Tryz.ntmps22
 go_wp2_with fail
 obtain ⟨W1, hW1⟩ : ∃ W1, w.alloc (Obj.cells #[.bool s1, .slice a1 n1 c1, .bool s2, .slice a2 n2 c2] 27) = W1 := ⟨_, rfl⟩
 have qA : Quad W1 w.heap.size (.bool s1) (.slice a1 n1 c1) (.bool s2) (.slice a2 n2 c2) := by rw [← hW1]; exact Quad.new _ _ _ _ _ _
 have hB : Below w.heap.size w W1 := by rw [← hW1]; exact below_alloc _ _
 have hx := hx.below hB
 try rw [hW1]
 clear hW1
 refine (right_r s1 s2 a1 a2 n1 n2 c1 c2 ox W1 hx).mono ?_
 rintro e w1 ⟨rfl, hk⟩
 have hB := hB.trans (hk.mono hB.size)
 have hx := hx.below hk
 have qA := qA.below hk
 clear hk
 cases ox with
 | none =>
   go_wp2
   go_ret
   exact ⟨rfl, hB⟩
 | some x =>
   go_wp2_with fail
   have hB := hB.drew
   have hx := hx.below (Below.drew (Below.refl _ _))
   have qA : Quad w1.drew _ _ _ _ _ := qA.below (Below.drew (Below.refl _ _))
   refine wp_region_held_drew (S := fun w' => Below w1.drew.heap.size w1.drew w') (by kernel_rfl) (Below.refl _ _) (fun hHeld => ?_)
   obtain ⟨WE, hWE⟩ : ∃ W, w1.drew = W := ⟨_, rfl⟩
   rw [hWE] at hB hx qA hHeld ⊢
   clear hWE
   have hE := Below.refl WE.heap.size WE
   have lA := qA.lt
   obtain ⟨⟨x10, x11, x12, x13⟩, -, -, -, -⟩ := id qA
   refine tk 0 (.pointer (some ⟨w.heap.size, 0, none⟩)) 6 rfl rfl ?_
   simp only [Act.put, pA, pB, pC]
   refine tk 1 (.agg #[.bool s1, .slice a1 n1 c1]) 7 rfl rfl ?_ (Or.inl ⟨by rfl, fun w' hSw => by have q0 := (hSw.cell (p := ⟨w.heap.size, 0, none⟩) lA).trans x10; have q1 := (hSw.cell (p := ⟨w.heap.size, 1, none⟩) lA).trans x11; go_simp⟩)
   simp only [Act.put, pA, pB, pC]
   refine wpAnyH_one 2 (by kernel_rfl) ?_
   refine wpOp_call (i := 2) (f := 48) (args := #[.int .i64 0]) 8 rfl rfl (by rfl) (by go_simp) ?_
   refine (of_any 0 (by decide) (by decide) WE).mono ?_
   rintro e r1 ⟨s6, a6, n6, c6, rfl, N6, hk⟩
   have hE := hE.trans (hk.mono hE.size)
   have hx := hx.below hk
   have k6 := of_len N6 (by decide) (by decide)
   refine ⟨_, rfl, hE, ?_⟩
   simp only [Act.put, pA, pB, pC]
   refine wpAnyH_one 3 (by kernel_rfl) ?_
   refine wpOp_call (i := 3) (f := 47) (args := #[.agg #[.bool s1, .slice a1 n1 c1], .agg #[.bool s6, .slice a6 n6 c6]]) 9 rfl rfl (by rfl) (by go_simp) ?_
   refine (cmp_any s1 s6 a1 a6 n1 n6 c1 c6 x.num 0 hx.l1 k6 r1 hx.num N6).mono ?_
   rintro e r2 ⟨rfl, hk⟩
   have hE := hE.trans (hk.mono hE.size)
   have hx := hx.below hk
   have N6 := N6.below hk
   refine ⟨_, rfl, hE, ?_⟩
   simp only [Act.put, pA, pB, pC]
   refine tk 4 (.int .i64 (cmpZ x.num 0)) 2 rfl rfl ?_
   simp only [Act.put, pA, pB, pC]
   refine wpAnyH_done (by kernel_rfl) ?_ _
   have hB2 := hB.trans (hE.mono hB.size)
   go_wp2
   go_ret
   exact ⟨rfl, hB2⟩
set_option maxRecDepth 100000 in
set_option maxHeartbeats 4000000 in
theorem floor_r (s1 s2 : Bool) (a1 a2 : Option Addr) (n1 n2 c1 c2 : Nat) (ox : Option Rat) (w : World) (hx : RArg w s1 a1 n1 s2 a2 n2 ox) :
 Calls Tryz.prog 16 #[.agg #[.bool s1, .slice a1 n1 c1, .bool s2, .slice a2 n2 c2]] w (IntPost w (floorO ox)) := by
 go_enter Tryz.func16, Tryz.ntmps16
 go_wp2_with fail
 obtain ⟨W1, hW1⟩ : ∃ W1, w.alloc (Obj.cells #[.bool s1, .slice a1 n1 c1, .bool s2, .slice a2 n2 c2] 27) = W1 := ⟨_, rfl⟩
 have qA : Quad W1 w.heap.size (.bool s1) (.slice a1 n1 c1) (.bool s2) (.slice a2 n2 c2) := by rw [← hW1]; exact Quad.new _ _ _ _ _ _
 have hB : Below w.heap.size w W1 := by rw [← hW1]; exact below_alloc _ _
 have hx := hx.below hB
 try rw [hW1]
 clear hW1
 refine (right_r s1 s2 a1 a2 n1 n2 c1 c2 ox W1 hx).mono ?_
 rintro e w1 ⟨rfl, hk⟩
 have hB := hB.trans (hk.mono hB.size)
 have hx := hx.below hk
 have qA := qA.below hk
 clear hk
 cases ox with
 | none =>
   go_wp2
   go_ret2
   exact ⟨rfl, hB⟩
 | some x =>
   obtain ⟨⟨x10, x11, x12, x13⟩, -, -, -, -⟩ := id qA
   go_wp2_with fail
   clear x10 x11 x12 x13
   have hd0 := hide (rat_den_ne x)
   have pn := len_pos hx.den hd0.out
   refine (div_num s1 s2 a1 a2 n1 n2 c1 c2 x.num x.den hx.l1 hx.l2 w1 hx.num hx.den pn).mono ?_
   rintro e u1 ⟨q8, q9, s8, a8, n8, c8, s9, a9, n9, c9, rfl, e8, e9, e10, N8, N9, -, -, k8, k9, hk⟩
   obtain ⟨rfl, rfl⟩ := divs_unique e8 e9 e10 hd0.out
   clear e8 e9 e10
   have hB := hB.trans (hk.mono hB.size)
   have hx := hx.below hk
   have qA := qA.below hk
   clear hk
   obtain ⟨Z8, hZ8⟩ : ∃ Z, (u1.alloc (Obj.cells #[.bool false, .slice none 0 0] 25)).alloc (Obj.cells #[.bool false, .slice none 0 0] 25) = Z := ⟨_, rfl⟩
   obtain ⟨W8, hW8⟩ : ∃ W, (((Z8.setCell ⟨u1.heap.size, 0, none⟩ (.bool s8)).setCell ⟨u1.heap.size, 1, none⟩ (.slice a8 n8 c8)).setCell ⟨u1.heap.size + 1, 0, none⟩ (.bool s9)).setCell ⟨u1.heap.size + 1, 1, none⟩ (.slice a9 n9 c9) = W := ⟨_, rfl⟩
   obtain ⟨H8, H9, hk, bx8, bx9, -⟩ := two_nums (c1 := c8) (c2 := c9) hZ8 hW8 N8 N9
   clear N8 N9
   obtain ⟨B8, hB8⟩ : ∃ B, u1.heap.size = B := ⟨_, rfl⟩
   have hB := hB.trans (hk.mono hB.size)
   have hx := hx.below hk
   have qA := qA.below hk
   clear hk
   rw [hB8] at hW8 H8 H9 bx8 bx9
   obtain ⟨x10, x11, -, -⟩ := id H8.box
   obtain ⟨y80, y81, yz80, yz81⟩ := id bx8
   obtain ⟨y90, y91, yz90, yz91⟩ := id bx9
   go_wp2_with fail
   try rw [hW8]
   try rw [hB8]
   clear hW8 hB8
   clear x10 x11 y80 y81 yz80 yz81 y90 y91 yz90 yz91
   obtain ⟨O, hO⟩ : ∃ O, intO (some (x.num / (x.den : Int))) = O := ⟨_, rfl⟩
   have cc := int_arg s8 a8 n8 c8 (some (x.num / (x.den : Int))) W8 ⟨H8.num, k8⟩
   rw [hO] at cc
   have HO := hide hO
   clear hO
   refine cc.mono ?_
   clear cc
   rintro e u2 ⟨rfl, hk⟩
   have hB := hB.trans (hk.mono hB.size)
   go_wp2
   go_ret2
   exact ⟨by rw [show floorO (some x) = O from HO.out]; rfl, hB⟩
end Go.Proofs.YtikepnocefdmnaaGreatDoor
