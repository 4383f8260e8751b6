/- ratio's reference: sameNum, Same, Frac; the law's of. -/
import Derived.Test.YtgenaicmjddjcaaGreatDoorRbB
namespace Go.Proofs.YtgenaicmjddjcaaGreatDoor
open Go.RowKit Go.Shelf

set_option maxRecDepth 100000 in
set_option maxHeartbeats 2000000 in
theorem rsameNum_yes (s : Bool) (aa ab : Option Addr) (n ca cb : Nat) (f : Nat → Nat) (hn : n ≤ 1099511627776) (w : World) (ha : Dig w aa n f) (hb : Dig w ab n f) :
 Calls Tryz.prog 93 #[.agg #[.bool s, .slice aa n ca], .agg #[.bool s, .slice ab n cb]] w fun e w' => e = .returned (.bool true) ∧ Below w.heap.size w w' := by
 go_enter Tryz.func93, Tryz.ntmps93
 go_wp2_with fail
 obtain ⟨W0, hW0⟩ : ∃ W0, (w.alloc (Obj.cells #[.bool s, .slice aa n ca] 25)).alloc (Obj.cells #[.bool s, .slice ab n cb] 25) = W0 := ⟨_, rfl⟩
 have bA : Box2 W0 w.heap.size (.bool s) (.slice aa n ca) := by rw [← hW0]; exact (Box2.new w _ _ _).alloc _
 have bB : Box2 W0 (w.heap.size + 1) (.bool s) (.slice ab n cb) := by first | exact box3b hW0 | exact box2b hW0
 have hB0 : Below w.heap.size w W0 := by rw [← hW0]; exact ((Below.refl _ w).alloc (Nat.le_refl _) _).alloc (by simp) _
 have hW0s : w.heap.size + 2 ≤ W0.heap.size := by rw [← hW0]; simp
 try rw [hW0]
 clear hW0
 go_loopw [5] (fun i wr => ∃ k : Nat, k ≤ n ∧ i = .int .i64 (k : Int) ∧ Below W0.heap.size W0 wr) (fun i _ => n - (intOf i).toNat)
 case atStart => exact ⟨0, Nat.zero_le _, rfl, Below.refl _ _⟩
 case round =>
  obtain ⟨k, hk, rfl, hr⟩ := hrel
  obtain ⟨a0, a1, -, -⟩ := bA.below hr bA.lt
  obtain ⟨b0, b1, -, -⟩ := bB.below hr bB.lt
  by_cases hlt : k < n
  · have hBr := hB0.trans (hr.mono hB0.size)
    obtain ⟨p1, o1, rfl, hc1⟩ := (ha.below hBr).at (by omega)
    obtain ⟨p2, o2, rfl, hc2⟩ := (hb.below hBr).at (by omega)
    have hx1 := hc1 k hlt
    have hx2 := hc2 k hlt
    have hi0 : (0 : Int) ≤ (k : Int) := by omega
    have hi1 : (k : Int) < (n : Int) := by omega
    clear hc1 hc2
    go_wp2
    go_region
    go_wp2
    go_roundw
    case rel => exact ⟨k + 1, by omega, by go_num, hr.drew⟩
    case measure => simp [intOf]; omega
  · obtain rfl : k = n := by omega
    go_wp2
    go_ret
    exact ⟨rfl, hB0.trans (hr.mono hB0.size)⟩

theorem rsameNum_eq (s1 s2 : Bool) (a1 a2 : Option Addr) (n1 n2 c1 c2 : Nat) (z : Int) (hn : n1 ≤ 64) (w : World) (h1 : IsN w s1 a1 n1 z) (h2 : IsN w s2 a2 n2 z) :
 Calls Tryz.prog 93 #[.agg #[.bool s1, .slice a1 n1 c1], .agg #[.bool s2, .slice a2 n2 c2]] w fun e w' => e = .returned (.bool true) ∧ Below w.heap.size w w' := by
 obtain rfl : s2 = s1 := h2.sign.trans h1.sign.symm
 obtain rfl : n2 = n1 := h2.dig.len.trans h1.dig.len.symm
 exact rsameNum_yes s2 a1 a2 n2 c1 c2 (dgt z.natAbs) (by omega) w h1.dig.dig h2.dig.dig
set_option maxRecDepth 100000 in
set_option maxHeartbeats 4000000 in
theorem same_r (s1 s2 t1 t2 : Bool) (a1 a2 b1 b2 : Option Addr) (n1 n2 m1 m2 c1 c2 d1 d2 : Nat) (N D : Int) (k1 : n1 ≤ 64) (k2 : n2 ≤ 64) (w : World) (h1 : IsN w s1 a1 n1 N) (h2 : IsN w s2 a2 n2 D) (g1 : IsN w t1 b1 m1 N) (g2 : IsN w t2 b2 m2 D) :
 Calls Tryz.prog 32 #[.agg #[.bool s1, .slice a1 n1 c1, .bool s2, .slice a2 n2 c2], .agg #[.bool t1, .slice b1 m1 d1, .bool t2, .slice b2 m2 d2]] w fun e w' => e = .returned (.bool true) ∧ Below w.heap.size w w' := by
 go_enter Tryz.func32, Tryz.ntmps32
 go_wp2_with fail
 obtain ⟨W1, hW1⟩ : ∃ W1, ((w.alloc (Obj.cells #[.bool s1, .slice a1 n1 c1, .bool s2, .slice a2 n2 c2] 37)).alloc (Obj.cells #[.bool t1, .slice b1 m1 d1, .bool t2, .slice b2 m2 d2] 37)) = W1 := ⟨_, rfl⟩
 have qA : Quad W1 w.heap.size (.bool s1) (.slice a1 n1 c1) (.bool s2) (.slice a2 n2 c2) := by rw [← hW1]; exact (Quad.new _ _ _ _ _ _).below (below_alloc _ _)
 have qB : Quad W1 (w.heap.size + 1) (.bool t1) (.slice b1 m1 d1) (.bool t2) (.slice b2 m2 d2) := by
  rw [← hW1]; have := Quad.new (w.alloc (Obj.cells #[.bool s1, .slice a1 n1 c1, .bool s2, .slice a2 n2 c2] 37)) (.bool t1) (.slice b1 m1 d1) (.bool t2) (.slice b2 m2 d2) 37
  rw [World.size_alloc] at this; exact this
 have hB : Below w.heap.size w W1 := by rw [← hW1]; exact (below_alloc _ _).trans ((below_alloc _ _).mono (by simp))
 have h1 := h1.below hB
 have h2 := h2.below hB
 have g1 := g1.below hB
 have g2 := g2.below hB
 try rw [hW1]
 clear hW1
 obtain ⟨⟨x10, x11, x12, x13⟩, -, -, -, -⟩ := id qA
 obtain ⟨⟨x20, x21, x22, x23⟩, -, -, -, -⟩ := id qB
 go_wp2_with fail
 clear x10 x11 x12 x13 x20 x21 x22 x23
 refine (rsameNum_eq s1 t1 a1 b1 n1 m1 c1 d1 N k1 W1 h1 g1).mono ?_
 rintro e w1 ⟨rfl, hk⟩
 have hB := hB.trans (hk.mono hB.size)
 have h1 := h1.below hk
 have h2 := h2.below hk
 have g1 := g1.below hk
 have g2 := g2.below hk
 have qA := qA.below hk
 have qB := qB.below hk
 clear hk
 obtain ⟨⟨x10, x11, x12, x13⟩, -, -, -, -⟩ := id qA
 obtain ⟨⟨x20, x21, x22, x23⟩, -, -, -, -⟩ := id qB
 go_wp2_with fail
 clear x10 x11 x12 x13 x20 x21 x22 x23
 refine (rsameNum_eq s2 t2 a2 b2 n2 m2 c2 d2 D k2 w1 h2 g2).mono ?_
 rintro e w2 ⟨rfl, hk⟩
 have hB := hB.trans (hk.mono hB.size)
 have h1 := h1.below hk
 have h2 := h2.below hk
 have g1 := g1.below hk
 have g2 := g2.below hk
 have qA := qA.below hk
 have qB := qB.below hk
 clear hk
 go_wp2
 go_ret
 exact ⟨rfl, hB⟩
set_option maxRecDepth 100000 in
set_option maxHeartbeats 8000000 in
theorem rfracC_yes (n d : Int) (h0 : -9223372036854775808 ≤ n) (h1 : n ≤ 9223372036854775807) (hd0 : 1 ≤ d) (hd9 : d ≤ 9223372036854775807) (w : World) :
 Calls Tryz.prog 20 #[.agg #[.int .i64 n, .int .i64 d]] w (RatVC w (some (Rat.divInt n d))) := by
 have hdn := hide (show d ≠ 0 by omega)
 have hdz := hide hd0
 have hd1 : ¬ d < 1 := by omega
 go_enter Tryz.func20, Tryz.ntmps20
 go_wp2_with fail
 obtain ⟨W1, hW1⟩ : ∃ W1, (w.alloc (Obj.cells #[.int .i64 n, .int .i64 d] 39)).alloc (Obj.cells #[.bool false, .slice none 0 0, .bool false, .slice none 0 0] 37) = W1 := ⟨_, rfl⟩
 have bA : W1.cell? ⟨w.heap.size, 0, none⟩ = some (.int .i64 n) ∧ W1.cell? ⟨w.heap.size, 1, none⟩ = some (.int .i64 d) := by rw [← hW1]; exact ⟨by simp [go_sem], by simp [go_sem]⟩
 have qC : Quad W1 (w.heap.size + 1) (.bool false) (.slice none 0 0) (.bool false) (.slice none 0 0) := by
  rw [← hW1]; have := Quad.new (w.alloc (Obj.cells #[.int .i64 n, .int .i64 d] 39)) (.bool false) (.slice none 0 0) (.bool false) (.slice none 0 0) 37
  rw [World.size_alloc] at this; exact this
 have hB : Below w.heap.size w W1 := by rw [← hW1]; exact (below_alloc _ _).trans ((below_alloc _ _).mono (by simp))
 try rw [hW1]
 clear hW1
 have bA0 : W1.drew.cell? ⟨w.heap.size, 0, none⟩ = some (.int .i64 n) := bA.1
 have bA1 : W1.drew.cell? ⟨w.heap.size, 1, none⟩ = some (.int .i64 d) := bA.2
 clear bA
 have hB := hB.drew
 have qC := qC.below (Below.drew (Below.refl W1.heap.size W1))
 refine wp_region_held_drew (S := fun w' => Below (W1.drew.heap.size) W1.drew w') (by kernel_rfl) (Below.refl _ _) (fun hHeld => ?_)
 obtain ⟨WE, hWE⟩ : ∃ W, W1.drew = W := ⟨_, rfl⟩
 rw [hWE] at hB qC bA0 bA1 hHeld ⊢
 clear hWE
 have hE := Below.refl WE.heap.size WE
 have lA := lt_of_cell bA0
 have lC := qC.lt
 clear hHeld
 refine dagT 13 rfl (fun X => ⟨#[.agg #[.int .i64 n, .int .i64 d], .pointer (some ⟨w.heap.size, 0, none⟩), .pointer (some ⟨w.heap.size + 1, 0, none⟩), X 10, X 12, .pointer (some ⟨w.heap.size, 1, none⟩), .int .i64 d, .bool false, undef, X 7, X 0, X 1, X 2, X 3, X 4, X 5, X 6, X 8, X 9, undef], []⟩) [(0, 0, 0), (0, 0, 0), (0, 0, 0), (0, 0, 0), (0, 0, 0), (0, 0, 0), (0, 0, 0), (0, 0, 0), (0, 0, 0), (0, 0, 0), (2, 11, 8), (3, 10, 8), (0, 0, 0)] [.val (.pointer (some ⟨w.heap.size, 0, none⟩)), .val (.int .i64 n), .num n true, .val (.pointer (some ⟨w.heap.size, 1, none⟩)), .val (.int .i64 d), .num d true, .ratok (numO (some (Rat.divInt n d))) (denO (some (Rat.divInt n d))) true true, .ratok (numO (some (Rat.divInt n d))) (denO (some (Rat.divInt n d))) true true, .rat (numO (some (Rat.divInt n d))) (denO (some (Rat.divInt n d))) true, .val (.bool true), .none, .none, .val (.bool true)] [[], [0], [1], [], [3], [4], [2, 5], [6], [7], [7], [], [8, 10], [9]] [0, 1, 2, 3, 4, 5, 6, 7, 8, 9, 12] [10] [11] 25 37 WE (by kernel_rfl) (by kernel_rfl) (by kernel_rfl) (by kernel_rfl) (by kernel_rfl) ?op ?al ?st ?fin (fun _ => undef) _ _ (by kernel_rfl) (of_decide_eq_true (by kernel_rfl)) (of_decide_eq_true (by kernel_rfl))
 case op =>
  repeat' first | exact Each.nil | refine Each.cons ?_ ?_
  all_goals intro X w7 H hb hD h
  · refine tv rfl (by rfl) ?_ (by exact h _ w7 rfl (Below.refl _ _))
    go_simp <;> rfl
  · have e0_ : X 0 = _ := hD 0 (by decide) rfl
    have z0 := (hb.cell (p := ⟨w.heap.size, 0, none⟩) lA).trans bA0
    refine tv rfl (by simp only [e0_]; rfl) ?_ (by exact h _ w7 rfl (Below.refl _ _))
    simp only [e0_]; go_simp <;> rfl
  · have e1_ : X 1 = _ := hD 1 (by decide) rfl
    refine wpOp_call (i := 2) (f := 82) (args := #[.int .i64 n]) 12 rfl rfl (by simp only [e1_]; rfl) (by simp only [e1_]; go_simp) ?_
    refine (whole_r n h0 h1 w7).mono ?_
    rintro e w8 ⟨s6, a6, n6, c6, rfl, N6, k6, l6, hk⟩
    exact ⟨_, rfl, h _ w8 ⟨s6, a6, n6, c6, rfl, N6, k6, fun _ => l6⟩ hk⟩
  · refine tv rfl (by rfl) ?_ (by exact h _ w7 rfl (Below.refl _ _))
    go_simp <;> rfl
  · have e3_ : X 3 = _ := hD 3 (by decide) rfl
    have z0 := (hb.cell (p := ⟨w.heap.size, 1, none⟩) lA).trans bA1
    refine tv rfl (by simp only [e3_]; rfl) ?_ (by exact h _ w7 rfl (Below.refl _ _))
    simp only [e3_]; go_simp <;> rfl
  · have e4_ : X 4 = _ := hD 4 (by decide) rfl
    refine wpOp_call (i := 5) (f := 82) (args := #[.int .i64 d]) 15 rfl rfl (by simp only [e4_]; rfl) (by simp only [e4_]; go_simp) ?_
    refine (whole_r d (Int.le_trans (by decide) hdz.out) hd9 w7).mono ?_
    rintro e w8 ⟨s6, a6, n6, c6, rfl, N6, k6, l6, hk⟩
    exact ⟨_, rfl, h _ w8 ⟨s6, a6, n6, c6, rfl, N6, k6, fun _ => l6⟩ hk⟩
  · obtain ⟨s2_, a2_, n2_, c2_, e2_, N2_, k2_, q2_⟩ := hD 2 (by decide) rfl
    obtain ⟨s5_, a5_, n5_, c5_, e5_, N5_, k5_, q5_⟩ := hD 5 (by decide) rfl
    refine wpOp_call (i := 6) (f := 31) (args := #[.agg #[.bool s2_, .slice a2_ n2_ c2_], .agg #[.bool s5_, .slice a5_ n5_ c5_]]) 16 rfl rfl (by simp only [e2_, e5_]; rfl) (by simp only [e2_, e5_]; go_simp) ?_
    refine (rofC_any s2_ s5_ a2_ a5_ n2_ n5_ c2_ c5_ n d k2_ k5_ (q2_ rfl) (q5_ rfl) hdn.out w7 N2_ N5_).mono ?_
    rintro e w8 ⟨s8, a8, n8, c8, s9, a9, n9, c9, rfl, P1, P2, k8, k9, hk, l8, l9⟩
    exact ⟨_, rfl, h _ w8 ⟨s8, a8, n8, c8, s9, a9, n9, c9, rfl, P1, P2, k8, k9, fun _ => ⟨l8, l9⟩⟩ hk⟩
  · obtain ⟨s6_, a6_, n6_, c6_, t6_, b6_, m6_, d6_, e6_, N6_, M6_, k6_, l6_, q6_⟩ := hD 6 (by decide) rfl
    refine tv rfl (by simp only [e6_]; rfl) ?_ (by exact h _ w7 ⟨s6_, a6_, n6_, c6_, t6_, b6_, m6_, d6_, rfl, N6_, M6_, k6_, l6_, q6_⟩ (Below.refl _ _))
    simp only [e6_]; go_simp <;> rfl
  · obtain ⟨s7_, a7_, n7_, c7_, t7_, b7_, m7_, d7_, e7_, N7_, M7_, k7_, l7_, q7_⟩ := hD 7 (by decide) rfl
    refine tv rfl (by simp only [e7_]; rfl) ?_ (by exact h _ w7 ⟨s7_, a7_, n7_, c7_, t7_, b7_, m7_, d7_, rfl, N7_, M7_, k7_, l7_, q7_⟩ (Below.refl _ _))
    simp only [e7_]; go_simp <;> rfl
  · obtain ⟨s7_, a7_, n7_, c7_, t7_, b7_, m7_, d7_, e7_, N7_, M7_, k7_, l7_, q7_⟩ := hD 7 (by decide) rfl
    refine tv rfl (by simp only [e7_]; rfl) ?_ (by exact h _ w7 rfl (Below.refl _ _))
    simp only [e7_]; go_simp <;> rfl
  · have e9_ : X 9 = _ := hD 9 (by decide) rfl
    refine tv rfl (by simp only [e9_]; rfl) ?_ (by exact h _ w7 rfl (Below.refl _ _))
    simp only [e9_]; go_simp <;> rfl
 case al =>
  repeat' first | exact Each.nil | refine Each.cons ?_ ?_
  all_goals exact fun X w7 H h => wpOp_run rfl (by go_simp; exact h)
 case st =>
  repeat' first | exact Each.nil | refine Each.cons ?_ ?_
  all_goals intro X w7 H b u0 hX hC hG h
  · replace hX : X 10 = .pointer (some ⟨b, 0, none⟩) := hX
    obtain ⟨s8_, a8_, n8_, c8_, t8_, b8_, m8_, d8_, e8_, N8_, M8_, k8_, l8_, q8_⟩ := hG
    obtain ⟨_, _, _, _, _, _, _, _, -, ⟨⟨y0, y1, y2, y3⟩, z0, z1, z2, z3⟩⟩ := hC
    have e : X 8 = _ := e8_
    refine wpOp_run rfl ?_
    simp only [hX, e] at h ⊢
    go_simp
    exact h _ ⟨_, _, _, _, _, _, _, _, e8_, rfl⟩
 case fin =>
  intro X3 w9 hI
  have hE := hI.below
  obtain ⟨s8_, a8_, n8_, c8_, t8_, b8_, m8_, d8_, e8_, N8_, M8_, k8_, l8_, q8_⟩ := hI.fact 8 (by decide) rfl rfl
  obtain ⟨B10, e10_, g10, Q10⟩ := hI.box 10 (by decide) rfl (by decide)
  replace Q10 : Cont 2 w9 B10 (X3 8) := Q10
  rw [e8_] at Q10
  replace Q10 := Q10.rat
  have qC := qC.below hE
  clear hI
  simp only [e8_, e10_]
  clear e8_ e10_
  clear bA0 bA1 lA
  have hB := hB.trans (hE.mono hB.size)
  have gq : w.heap.size + 1 < B10 := Nat.lt_of_lt_of_le lC g10
  clear hE lC g10
  have P1 := N8_
  have P2 := M8_
  obtain ⟨l8, l9⟩ := q8_ rfl
  obtain ⟨Wz, hWz⟩ : ∃ W, (((w9.setCell ⟨w.heap.size + 1, 0, none⟩ (.bool s8_)).setCell ⟨w.heap.size + 1, 1, none⟩ (.slice a8_ n8_ c8_)).setCell ⟨w.heap.size + 1, 2, none⟩ (.bool t8_)).setCell ⟨w.heap.size + 1, 3, none⟩ (.slice b8_ m8_ d8_) = W := ⟨_, rfl⟩
  obtain ⟨hQ, hT⟩ := qC.set _ _ _ _ hWz
  have hBz : Below w.heap.size w Wz := by rw [← hWz]; exact below_set4 hB (by omega) _ _ _ _
  have P1 := P1.quad qC.four hT
  have P2 := P2.quad qC.four hT
  have K := hide (And.intro hQ (And.intro P1 (And.intro P2 hBz)))
  have HWz := hide hWz
  clear hQ hBz hWz hT P1 P2
  obtain ⟨⟨x90, x91, x92, x93⟩, z90, z91, z92, z93⟩ := id qC
  obtain ⟨⟨x70, x71, x72, x73⟩, -, -, -, -⟩ := id Q10
  go_wp2
  obtain ⟨⟨⟨q0, q1, q2, q3⟩, -, -, -, -⟩, P1, P2, hBB⟩ := K.out
  rw [HWz.out]
  exact bodyPost_ret (v := .agg #[.bool s8_, .slice a8_ n8_ c8_, .bool t8_, .slice b8_ m8_ d8_]) (by simp [results, Tryz.results20, go_sem, q0, q1, q2, q3]) rfl ⟨_, _, _, _, _, _, _, _, rfl, P1, P2, k8_, l8_, hBB, l8, l9⟩
theorem rat_new {w Z W' : World} {s1 : Bool} {a1 : Option Addr} {n1 c1 : Nat} {s2 : Bool} {a2 : Option Addr} {n2 c2 : Nat} {o : Option Rat} {t : TypeId} (hZ : w.alloc (Obj.cells #[.bool false, .slice none 0 0, .bool false, .slice none 0 0] t) = Z)
 (hW : (((Z.setCell ⟨w.heap.size, 0, none⟩ (.bool s1)).setCell ⟨w.heap.size, 1, none⟩ (.slice a1 n1 c1)).setCell ⟨w.heap.size, 2, none⟩ (.bool s2)).setCell ⟨w.heap.size, 3, none⟩ (.slice a2 n2 c2) = W') (N : RArg w s1 a1 n1 s2 a2 n2 o) :
 HeldR W' w.heap.size s1 a1 n1 c1 s2 a2 n2 c2 o ∧ Below w.heap.size w W' ∧ Quad Z w.heap.size (.bool false) (.slice none 0 0) (.bool false) (.slice none 0 0) := by
 have b : Quad Z w.heap.size (.bool false) (.slice none 0 0) (.bool false) (.slice none 0 0) := by rw [← hZ]; exact Quad.new w _ _ _ _ t
 have kZ : Below w.heap.size w Z := by rw [← hZ]; exact below_alloc w _
 have k : Below w.heap.size w W' := by rw [← hW]; exact (((kZ.setCell (p := ⟨w.heap.size, 0, none⟩) (Nat.le_refl _) _).setCell (p := ⟨w.heap.size, 1, none⟩) (Nat.le_refl _) _).setCell (p := ⟨w.heap.size, 2, none⟩) (Nat.le_refl _) _).setCell (p := ⟨w.heap.size, 3, none⟩) (Nat.le_refl _) _
 exact ⟨⟨(b.set _ _ _ _ hW).1, N.below k⟩, k, b⟩
set_option maxRecDepth 100000 in
set_option maxHeartbeats 4000000 in
theorem lawof_r (n d : Int) (h0 : -9223372036854775808 ≤ n) (h1 : n ≤ 9223372036854775807) (g0 : -9223372036854775808 ≤ d) (g1 : d ≤ 9223372036854775807) (hd : 0 < d) (w : World) :
 Calls Tryz.prog 78 #[.int .i64 n, .int .i64 d] w (RatVal w (some (Rat.divInt n d))) := by
 go_enter Tryz.func78, Tryz.ntmps78
 go_wp2_with fail
 obtain ⟨W1, hW1⟩ : ∃ W1, w.alloc (Obj.cells #[.bool false, .slice none 0 0, .bool false, .slice none 0 0] 37) = W1 := ⟨_, rfl⟩
 have qC : Quad W1 w.heap.size (.bool false) (.slice none 0 0) (.bool false) (.slice none 0 0) := by rw [← hW1]; exact Quad.new _ _ _ _ _ _
 have hB : Below w.heap.size w W1 := by rw [← hW1]; exact below_alloc _ _
 try rw [hW1]
 clear hW1
 refine (rof_any n h0 h1 W1).mono ?_
 rintro e w1 ⟨s6, a6, n6, c6, rfl, N6, k6, l6, hk⟩
 have hB := hB.trans (hk.mono hB.size)
 have qC := qC.below hk
 clear hk
 go_wp2_with fail
 refine (rof_any d g0 g1 w1).mono ?_
 rintro e w2 ⟨s7, a7, n7, c7, rfl, N7, k7, l7, hk⟩
 have hB := hB.trans (hk.mono hB.size)
 have qC := qC.below hk
 have N6 := N6.below hk
 clear hk
 go_wp2_with fail
 refine (rofR_pos s6 s7 a6 a7 n6 n7 c6 c7 n d k6 k7 l6 l7 hd w2 N6 N7).mono ?_
 rintro e w3 ⟨s8, a8, n8, c8, s9, a9, n9, c9, rfl, P1, P2, k8, k9, hk⟩
 have hB := hB.trans (hk.mono hB.size)
 have qC := qC.below hk
 clear hk
 obtain ⟨Z8, hZ8⟩ : ∃ Z, w3.alloc (Obj.cells #[.bool false, .slice none 0 0, .bool false, .slice none 0 0] 37) = Z := ⟨_, rfl⟩
 obtain ⟨W8, hW8⟩ : ∃ W, (((Z8.setCell ⟨w3.heap.size, 0, none⟩ (.bool s8)).setCell ⟨w3.heap.size, 1, none⟩ (.slice a8 n8 c8)).setCell ⟨w3.heap.size, 2, none⟩ (.bool s9)).setCell ⟨w3.heap.size, 3, none⟩ (.slice a9 n9 c9) = W := ⟨_, rfl⟩
 obtain ⟨H8, hk, bx8⟩ := rat_new (c1 := c8) (c2 := c9) hZ8 hW8 (rarg_of (some (Rat.divInt n d)) P1 P2 k8 k9)
 obtain ⟨B8, hB8⟩ : ∃ B, w3.heap.size = B := ⟨_, rfl⟩
 clear P1 P2
 have hB := hB.trans (hk.mono hB.size)
 have qC := qC.below hk
 clear hk
 rw [hB8] at hW8 H8 bx8
 have P1 := H8.arg.num
 have P2 := H8.arg.den
 obtain ⟨Wz, hWz⟩ : ∃ W, (((W8.setCell ⟨w.heap.size, 0, none⟩ (.bool s8)).setCell ⟨w.heap.size, 1, none⟩ (.slice a8 n8 c8)).setCell ⟨w.heap.size, 2, none⟩ (.bool s9)).setCell ⟨w.heap.size, 3, none⟩ (.slice a9 n9 c9) = W := ⟨_, rfl⟩
 obtain ⟨hQ, hT⟩ := qC.set _ _ _ _ hWz
 have hBz : Below w.heap.size w Wz := by rw [← hWz]; exact below_set4 hB (by omega) _ _ _ _
 have P1 := P1.quad qC.four hT
 have P2 := P2.quad qC.four hT
 have K := hide (And.intro hQ (And.intro P1 (And.intro P2 hBz)))
 have HWz := hide hWz
 clear hQ hBz hWz hT P1 P2
 obtain ⟨⟨x90, x91, x92, x93⟩, z90, z91, z92, z93⟩ := id qC
 obtain ⟨⟨y0, y1, y2, y3⟩, yz0, yz1, yz2, yz3⟩ := id bx8
 obtain ⟨⟨x50, x51, x52, x53⟩, -, -, -, -⟩ := id H8.box
 go_wp2
 try rw [hW8]
 try rw [hB8]
 obtain ⟨⟨⟨q0, q1, q2, q3⟩, -, -, -, -⟩, P1, P2, hBB⟩ := K.out
 rw [HWz.out]
 exact bodyPost_ret (v := .agg #[.bool s8, .slice a8 n8 c8, .bool s9, .slice a9 n9 c9]) (by simp [results, Tryz.results78, go_sem, q0, q1, q2, q3]) rfl ⟨_, _, _, _, _, _, _, _, rfl, P1, P2, k8, k9, hBB⟩
end Go.Proofs.YtgenaicmjddjcaaGreatDoor
