/- ratio's Int, Frac, Sign, Floor, Ceil. -/
import Derived.Test.YtgenaicmjddjcaaGreatDoorRaF
import Derived.Test.YtgenaicmjddjcaaGreatDoorDagS
namespace Go.Proofs.YtgenaicmjddjcaaGreatDoor
open Go.RowKit Go.Shelf

theorem of_len {w : World} {s : Bool} {a : Option Addr} {n : Nat} {z : Int} (h : IsN w s a n z) (h0 : -9223372036854775808 ≤ z) (h1 : z ≤ 9223372036854775807) : n ≤ 64 := by
 rw [h.dig.len]; exact Nat.le_trans (dlen_le_two (by omega)) (by decide)
set_option maxRecDepth 100000 in
set_option maxHeartbeats 4000000 in
theorem int_r (n : Int) (h0 : -9223372036854775808 ≤ n) (h1 : n ≤ 9223372036854775807) (w : World) :
 Calls Tryz.prog 34 #[.int .i64 n] w (RatVal w (some (n : Rat))) := by
 go_enter Tryz.func34, Tryz.ntmps34
 go_wp2_with fail
 obtain ⟨W1, hW1⟩ : ∃ W1, w.alloc (Obj.cells #[.bool false, .slice none 0 0, .bool false, .slice none 0 0] 37) = W1 := ⟨_, rfl⟩
 have qC : Quad W1 w.heap.size (.bool false) (.slice none 0 0) (.bool false) (.slice none 0 0) := by rw [← hW1]; exact Quad.new _ _ _ _ _ _
 have hB : Below w.heap.size w W1 := by rw [← hW1]; exact below_alloc _ _
 try rw [hW1]
 clear hW1
 refine (of_any n h0 h1 W1).mono ?_
 rintro e w1 ⟨s1, a1, n1, c1, rfl, P1, hk⟩
 have hB := hB.trans (hk.mono hB.size)
 have qC := qC.below hk
 clear hk
 have k1 := of_len P1 h0 h1
 go_wp2_with fail
 refine (of_any 1 (by decide) (by decide) w1).mono ?_
 rintro e w2 ⟨s2, a2, n2, c2, rfl, P2, hk⟩
 have hB := hB.trans (hk.mono hB.size)
 have qC := qC.below hk
 have P1 := P1.below hk
 clear hk
 have k2 := of_len P2 (by decide) (by decide)
 obtain ⟨Wz, hWz⟩ : ∃ W, (((w2.setCell ⟨w.heap.size, 0, none⟩ (.bool s1)).setCell ⟨w.heap.size, 1, none⟩ (.slice a1 n1 c1)).setCell ⟨w.heap.size, 2, none⟩ (.bool s2)).setCell ⟨w.heap.size, 3, none⟩ (.slice a2 n2 c2) = W := ⟨_, rfl⟩
 obtain ⟨hQ, hT⟩ := qC.set _ _ _ _ hWz
 have hBz : Below w.heap.size w Wz := by rw [← hWz]; exact below_set4 hB (by omega) _ _ _ _
 have P1 := P1.quad qC.four hT
 have P2 := P2.quad qC.four hT
 have K := hide (And.intro hQ (And.intro P1 (And.intro P2 hBz)))
 have HWz := hide hWz
 clear hQ hBz hWz hT P1 P2
 obtain ⟨⟨x90, x91, x92, x93⟩, z90, z91, z92, z93⟩ := id qC
 go_wp2
 obtain ⟨⟨⟨q0, q1, q2, q3⟩, -, -, -, -⟩, P1, P2, hBB⟩ := K.out
 rw [HWz.out]
 exact bodyPost_ret (v := .agg #[.bool s1, .slice a1 n1 c1, .bool s2, .slice a2 n2 c2]) (by simp [results, Tryz.results34, go_sem, q0, q1, q2, q3]) rfl ⟨_, _, _, _, _, _, _, _, rfl, by rw [show numO (some ((n : Int) : Rat)) = n from Rat.num_intCast n]; exact P1, by rw [show denO (some ((n : Int) : Rat)) = 1 from by show (((n : Rat).den : Nat) : Int) = 1; rw [Rat.den_intCast]; rfl]; exact P2, k1, k2, hBB⟩
set_option maxRecDepth 100000 in
set_option maxHeartbeats 4000000 in
theorem frac_no (n d : Int) (hd : d < 1) (w : World) :
 Calls Tryz.prog 33 #[.agg #[.int .i64 n, .int .i64 d]] w (RatVal w none) := by
 have hd1 : decide (d < 1) = true := decide_eq_true hd
 go_enter Tryz.func33, Tryz.ntmps33
 go_wp2
 obtain ⟨W1, hW1⟩ : ∃ W1, (w.alloc (Obj.cells #[.int .i64 n, .int .i64 d] 39)).alloc (Obj.cells #[.bool false, .slice none 0 0, .bool false, .slice none 0 0] 37) = W1 := ⟨_, rfl⟩
 have bA : W1.cell? ⟨w.heap.size, 0, none⟩ = some (.int .i64 n) ∧ W1.cell? ⟨w.heap.size, 1, none⟩ = some (.int .i64 d) := by rw [← hW1]; exact ⟨by simp [go_sem], by simp [go_sem]⟩
 have qC : Quad W1 (w.heap.size + 1) (.bool false) (.slice none 0 0) (.bool false) (.slice none 0 0) := by
  rw [← hW1]; have := Quad.new (w.alloc (Obj.cells #[.int .i64 n, .int .i64 d] 39)) (.bool false) (.slice none 0 0) (.bool false) (.slice none 0 0) 37
  rw [World.size_alloc] at this; exact this
 have hB : Below w.heap.size w W1 := by rw [← hW1]; exact (below_alloc _ _).trans ((below_alloc _ _).mono (by simp))
 rw [hW1]
 clear hW1 bA
 obtain ⟨⟨q0, q1, q2, q3⟩, -, -, -, -⟩ := qC
 exact bodyPost_ret (v := .agg #[.bool false, .slice none 0 0, .bool false, .slice none 0 0]) (by simp [results, Tryz.results33, go_sem, q0, q1, q2, q3]) rfl ⟨_, _, _, _, _, _, _, _, rfl, zero_num _, zero_num _, by decide, by decide, hB⟩
set_option maxRecDepth 100000 in
set_option maxHeartbeats 8000000 in
theorem frac_yes (n d : Int) (h0 : -9223372036854775808 ≤ n) (h1 : n ≤ 9223372036854775807) (hd0 : 1 ≤ d) (hd9 : d ≤ 9223372036854775807) (w : World) :
 Calls Tryz.prog 33 #[.agg #[.int .i64 n, .int .i64 d]] w (RatVal w (some (Rat.divInt n d))) := by
 have hdn := hide (show d ≠ 0 by omega)
 have hdz := hide hd0
 have hd1 : ¬ d < 1 := by omega
 go_enter Tryz.func33, Tryz.ntmps33
 go_wp2_with fail
 obtain ⟨W1, hW1⟩ : ∃ W1, (w.alloc (Obj.cells #[.int .i64 n, .int .i64 d] 39)).alloc (Obj.cells #[.bool false, .slice none 0 0, .bool false, .slice none 0 0] 37) = W1 := ⟨_, rfl⟩
 have bA : W1.cell? ⟨w.heap.size, 0, none⟩ = some (.int .i64 n) ∧ W1.cell? ⟨w.heap.size, 1, none⟩ = some (.int .i64 d) := by rw [← hW1]; exact ⟨by simp [go_sem], by simp [go_sem]⟩
 have qC : Quad W1 (w.heap.size + 1) (.bool false) (.slice none 0 0) (.bool false) (.slice none 0 0) := by
  rw [← hW1]; have := Quad.new (w.alloc (Obj.cells #[.int .i64 n, .int .i64 d] 39)) (.bool false) (.slice none 0 0) (.bool false) (.slice none 0 0) 37
  rw [World.size_alloc] at this; exact this
 have hB : Below w.heap.size w W1 := by rw [← hW1]; exact (below_alloc _ _).trans ((below_alloc _ _).mono (by simp))
 try rw [hW1]
 clear hW1
 have bA0 : W1.drew.cell? ⟨w.heap.size, 0, none⟩ = some (.int .i64 n) := bA.1
 have bA1 : W1.drew.cell? ⟨w.heap.size, 1, none⟩ = some (.int .i64 d) := bA.2
 clear bA
 have hB := hB.drew
 have qC := qC.below (Below.drew (Below.refl W1.heap.size W1))
 refine wp_region_held_drew (S := fun w' => Below (W1.drew.heap.size) W1.drew w') (by kernel_rfl) (Below.refl _ _) (fun hHeld => ?_)
 obtain ⟨WE, hWE⟩ : ∃ W, W1.drew = W := ⟨_, rfl⟩
 rw [hWE] at hB qC bA0 bA1 hHeld ⊢
 clear hWE
 have hE := Below.refl WE.heap.size WE
 have lA := lt_of_cell bA0
 have lC := qC.lt
 clear hHeld
 refine dagT 13 rfl (fun X => ⟨#[.agg #[.int .i64 n, .int .i64 d], .pointer (some ⟨w.heap.size, 0, none⟩), .pointer (some ⟨w.heap.size + 1, 0, none⟩), X 10, X 12, .pointer (some ⟨w.heap.size, 1, none⟩), .int .i64 d, .bool false, undef, X 7, X 0, X 1, X 2, X 3, X 4, X 5, X 6, X 8, X 9, undef], []⟩) [(0, 0, 0), (0, 0, 0), (0, 0, 0), (0, 0, 0), (0, 0, 0), (0, 0, 0), (0, 0, 0), (0, 0, 0), (0, 0, 0), (0, 0, 0), (2, 11, 8), (3, 10, 8), (0, 0, 0)] [.val (.pointer (some ⟨w.heap.size, 0, none⟩)), .val (.int .i64 n), .num n false, .val (.pointer (some ⟨w.heap.size, 1, none⟩)), .val (.int .i64 d), .num d false, .ratok (numO (some (Rat.divInt n d))) (denO (some (Rat.divInt n d))) true false, .ratok (numO (some (Rat.divInt n d))) (denO (some (Rat.divInt n d))) true false, .rat (numO (some (Rat.divInt n d))) (denO (some (Rat.divInt n d))) false, .val (.bool true), .none, .none, .val (.bool true)] [[], [0], [1], [], [3], [4], [2, 5], [6], [7], [7], [], [8, 10], [9]] [0, 1, 2, 3, 4, 5, 6, 7, 8, 9, 12] [10] [11] 25 37 WE (by kernel_rfl) (by kernel_rfl) (by kernel_rfl) (by kernel_rfl) (by kernel_rfl) ?op ?al ?st ?fin (fun _ => undef) _ _ (by kernel_rfl) (of_decide_eq_true (by kernel_rfl)) (of_decide_eq_true (by kernel_rfl))
 case op =>
  repeat' first | exact Each.nil | refine Each.cons ?_ ?_
  all_goals intro X w7 H hb hD h
  · refine tv rfl (by rfl) ?_ (by exact h _ w7 rfl (Below.refl _ _))
    go_simp <;> rfl
  · have e0_ : X 0 = _ := hD 0 (by decide) rfl
    have z0 := (hb.cell (p := ⟨w.heap.size, 0, none⟩) lA).trans bA0
    refine tv rfl (by simp only [e0_]; rfl) ?_ (by exact h _ w7 rfl (Below.refl _ _))
    simp only [e0_]; go_simp <;> rfl
  · have e1_ : X 1 = _ := hD 1 (by decide) rfl
    refine wpOp_call (i := 2) (f := 54) (args := #[.int .i64 n]) 12 rfl rfl (by simp only [e1_]; rfl) (by simp only [e1_]; go_simp) ?_
    refine (of_any n h0 h1 w7).mono ?_
    rintro e w8 ⟨s6, a6, n6, c6, rfl, N6, hk⟩
    have k6 := of_len N6 h0 h1
    exact ⟨_, rfl, h _ w8 ⟨s6, a6, n6, c6, rfl, N6, k6, nofun⟩ hk⟩
  · refine tv rfl (by rfl) ?_ (by exact h _ w7 rfl (Below.refl _ _))
    go_simp <;> rfl
  · have e3_ : X 3 = _ := hD 3 (by decide) rfl
    have z0 := (hb.cell (p := ⟨w.heap.size, 1, none⟩) lA).trans bA1
    refine tv rfl (by simp only [e3_]; rfl) ?_ (by exact h _ w7 rfl (Below.refl _ _))
    simp only [e3_]; go_simp <;> rfl
  · have e4_ : X 4 = _ := hD 4 (by decide) rfl
    refine wpOp_call (i := 5) (f := 54) (args := #[.int .i64 d]) 15 rfl rfl (by simp only [e4_]; rfl) (by simp only [e4_]; go_simp) ?_
    refine (of_any d (Int.le_trans (by decide) hdz.out) hd9 w7).mono ?_
    rintro e w8 ⟨s6, a6, n6, c6, rfl, N6, hk⟩
    have k6 := of_len N6 (Int.le_trans (by decide) hdz.out) hd9
    exact ⟨_, rfl, h _ w8 ⟨s6, a6, n6, c6, rfl, N6, k6, nofun⟩ hk⟩
  · obtain ⟨s2_, a2_, n2_, c2_, e2_, N2_, k2_, q2_⟩ := hD 2 (by decide) rfl
    obtain ⟨s5_, a5_, n5_, c5_, e5_, N5_, k5_, q5_⟩ := hD 5 (by decide) rfl
    have cc := of_r s2_ s5_ a2_ a5_ n2_ n5_ c2_ c5_ n d k2_ k5_ w7 N2_ N5_
    rw [divO_some n hdn.out] at cc
    refine wpOp_call (i := 6) (f := 30) (args := #[.agg #[.bool s2_, .slice a2_ n2_ c2_], .agg #[.bool s5_, .slice a5_ n5_ c5_]]) 16 rfl rfl (by simp only [e2_, e5_]; rfl) (by simp only [e2_, e5_]; go_simp) ?_
    refine (cc).mono ?_
    rintro e w8 ⟨s8, a8, n8, c8, s9, a9, n9, c9, rfl, P1, P2, k8, k9, hk⟩
    exact ⟨_, rfl, h _ w8 ⟨s8, a8, n8, c8, s9, a9, n9, c9, rfl, P1, P2, k8, k9, nofun⟩ hk⟩
  · obtain ⟨s6_, a6_, n6_, c6_, t6_, b6_, m6_, d6_, e6_, N6_, M6_, k6_, l6_, q6_⟩ := hD 6 (by decide) rfl
    refine tv rfl (by simp only [e6_]; rfl) ?_ (by exact h _ w7 ⟨s6_, a6_, n6_, c6_, t6_, b6_, m6_, d6_, rfl, N6_, M6_, k6_, l6_, q6_⟩ (Below.refl _ _))
    simp only [e6_]; go_simp <;> rfl
  · obtain ⟨s7_, a7_, n7_, c7_, t7_, b7_, m7_, d7_, e7_, N7_, M7_, k7_, l7_, q7_⟩ := hD 7 (by decide) rfl
    refine tv rfl (by simp only [e7_]; rfl) ?_ (by exact h _ w7 ⟨s7_, a7_, n7_, c7_, t7_, b7_, m7_, d7_, rfl, N7_, M7_, k7_, l7_, q7_⟩ (Below.refl _ _))
    simp only [e7_]; go_simp <;> rfl
  · obtain ⟨s7_, a7_, n7_, c7_, t7_, b7_, m7_, d7_, e7_, N7_, M7_, k7_, l7_, q7_⟩ := hD 7 (by decide) rfl
    refine tv rfl (by simp only [e7_]; rfl) ?_ (by exact h _ w7 rfl (Below.refl _ _))
    simp only [e7_]; go_simp <;> rfl
  · have e9_ : X 9 = _ := hD 9 (by decide) rfl
    refine tv rfl (by simp only [e9_]; rfl) ?_ (by exact h _ w7 rfl (Below.refl _ _))
    simp only [e9_]; go_simp <;> rfl
 case al =>
  repeat' first | exact Each.nil | refine Each.cons ?_ ?_
  all_goals exact fun X w7 H h => wpOp_run rfl (by go_simp; exact h)
 case st =>
  repeat' first | exact Each.nil | refine Each.cons ?_ ?_
  all_goals intro X w7 H b u0 hX hC hG h
  · replace hX : X 10 = .pointer (some ⟨b, 0, none⟩) := hX
    obtain ⟨s8_, a8_, n8_, c8_, t8_, b8_, m8_, d8_, e8_, N8_, M8_, k8_, l8_, q8_⟩ := hG
    obtain ⟨_, _, _, _, _, _, _, _, -, ⟨⟨y0, y1, y2, y3⟩, z0, z1, z2, z3⟩⟩ := hC
    have e : X 8 = _ := e8_
    refine wpOp_run rfl ?_
    simp only [hX, e] at h ⊢
    go_simp
    exact h _ ⟨_, _, _, _, _, _, _, _, e8_, rfl⟩
 case fin =>
  intro X3 w9 hI
  have hE := hI.below
  obtain ⟨s8_, a8_, n8_, c8_, t8_, b8_, m8_, d8_, e8_, N8_, M8_, k8_, l8_, q8_⟩ := hI.fact 8 (by decide) rfl rfl
  obtain ⟨B10, e10_, g10, Q10⟩ := hI.box 10 (by decide) rfl (by decide)
  replace Q10 : Cont 2 w9 B10 (X3 8) := Q10
  rw [e8_] at Q10
  replace Q10 := Q10.rat
  have qC := qC.below hE
  clear hI
  simp only [e8_, e10_]
  clear e8_ e10_
  clear bA0 bA1 lA
  have hB := hB.trans (hE.mono hB.size)
  have gq : w.heap.size + 1 < B10 := Nat.lt_of_lt_of_le lC g10
  clear hE lC g10
  have P1 := N8_
  have P2 := M8_
  obtain ⟨Wz, hWz⟩ : ∃ W, (((w9.setCell ⟨w.heap.size + 1, 0, none⟩ (.bool s8_)).setCell ⟨w.heap.size + 1, 1, none⟩ (.slice a8_ n8_ c8_)).setCell ⟨w.heap.size + 1, 2, none⟩ (.bool t8_)).setCell ⟨w.heap.size + 1, 3, none⟩ (.slice b8_ m8_ d8_) = W := ⟨_, rfl⟩
  obtain ⟨hQ, hT⟩ := qC.set _ _ _ _ hWz
  have hBz : Below w.heap.size w Wz := by rw [← hWz]; exact below_set4 hB (by omega) _ _ _ _
  have P1 := P1.quad qC.four hT
  have P2 := P2.quad qC.four hT
  have K := hide (And.intro hQ (And.intro P1 (And.intro P2 hBz)))
  have HWz := hide hWz
  clear hQ hBz hWz hT P1 P2
  obtain ⟨⟨x90, x91, x92, x93⟩, z90, z91, z92, z93⟩ := id qC
  obtain ⟨⟨x70, x71, x72, x73⟩, -, -, -, -⟩ := id Q10
  go_wp2
  obtain ⟨⟨⟨q0, q1, q2, q3⟩, -, -, -, -⟩, P1, P2, hBB⟩ := K.out
  rw [HWz.out]
  exact bodyPost_ret (v := .agg #[.bool s8_, .slice a8_ n8_ c8_, .bool t8_, .slice b8_ m8_ d8_]) (by simp [results, Tryz.results33, go_sem, q0, q1, q2, q3]) rfl ⟨_, _, _, _, _, _, _, _, rfl, P1, P2, k8_, l8_, hBB⟩

def sgnO : Option Rat → Int
 | some x => sgnR x
 | none => 0
def floorO : Option Rat → Option Int
 | some x => intO (some (x.num / (x.den : Int)))
 | none => none
def ceilO : Option Rat → Option Int
 | some x => intO (some (-((-x.num) / (x.den : Int))))
 | none => none
theorem len_pos {w : World} {s : Bool} {a : Option Addr} {n : Nat} {z : Int} (h : IsN w s a n z) (hz : z ≠ 0) : 0 < n := Nat.pos_of_ne_zero fun e => by subst e; exact hz (num_zero h)
set_option maxRecDepth 100000 in
set_option maxHeartbeats 4000000 in
theorem sign_r (s1 s2 : Bool) (a1 a2 : Option Addr) (n1 n2 c1 c2 : Nat) (ox : Option Rat) (w : World) (hx : RArg w s1 a1 n1 s2 a2 n2 ox) :
 Calls Tryz.prog 28 #[.agg #[.bool s1, .slice a1 n1 c1, .bool s2, .slice a2 n2 c2]] w fun e w' => e = .returned (.int .i64 (sgnO ox)) ∧ Below w.heap.size w w' := by
 go_enter Tryz.func28, Tryz.ntmps28
 go_wp2_with fail
 obtain ⟨W1, hW1⟩ : ∃ W1, w.alloc (Obj.cells #[.bool s1, .slice a1 n1 c1, .bool s2, .slice a2 n2 c2] 37) = W1 := ⟨_, rfl⟩
 have qA : Quad W1 w.heap.size (.bool s1) (.slice a1 n1 c1) (.bool s2) (.slice a2 n2 c2) := by rw [← hW1]; exact Quad.new _ _ _ _ _ _
 have hB : Below w.heap.size w W1 := by rw [← hW1]; exact below_alloc _ _
 have hx := hx.below hB
 try rw [hW1]
 clear hW1
 refine (right_r s1 s2 a1 a2 n1 n2 c1 c2 ox W1 hx).mono ?_
 rintro e w1 ⟨rfl, hk⟩
 have hB := hB.trans (hk.mono hB.size)
 have hx := hx.below hk
 have qA := qA.below hk
 clear hk
 cases ox with
 | none =>
   go_wp2
   go_ret
   exact ⟨rfl, hB⟩
 | some x =>
   go_wp2_with fail
   have hB := hB.drew
   have hx := hx.below (Below.drew (Below.refl _ _))
   have qA : Quad w1.drew _ _ _ _ _ := qA.below (Below.drew (Below.refl _ _))
   refine wp_region_held_drew (S := fun w' => Below w1.drew.heap.size w1.drew w') (by kernel_rfl) (Below.refl _ _) (fun hHeld => ?_)
   obtain ⟨WE, hWE⟩ : ∃ W, w1.drew = W := ⟨_, rfl⟩
   rw [hWE] at hB hx qA hHeld ⊢
   clear hWE
   have hE := Below.refl WE.heap.size WE
   have lA := qA.lt
   obtain ⟨⟨x10, x11, x12, x13⟩, -, -, -, -⟩ := id qA
   refine tk 0 (.pointer (some ⟨w.heap.size, 0, none⟩)) 6 rfl rfl ?_
   simp only [Act.put, pA, pB, pC]
   refine tk 1 (.agg #[.bool s1, .slice a1 n1 c1]) 7 rfl rfl ?_ (Or.inl ⟨by rfl, fun w' hSw => by have q0 := (hSw.cell (p := ⟨w.heap.size, 0, none⟩) lA).trans x10; have q1 := (hSw.cell (p := ⟨w.heap.size, 1, none⟩) lA).trans x11; go_simp⟩)
   simp only [Act.put, pA, pB, pC]
   refine wpAnyH_one 2 (by kernel_rfl) ?_
   refine wpOp_call (i := 2) (f := 54) (args := #[.int .i64 0]) 8 rfl rfl (by rfl) (by go_simp) ?_
   refine (of_any 0 (by decide) (by decide) WE).mono ?_
   rintro e r1 ⟨s6, a6, n6, c6, rfl, N6, hk⟩
   have hE := hE.trans (hk.mono hE.size)
   have hx := hx.below hk
   have k6 := of_len N6 (by decide) (by decide)
   refine ⟨_, rfl, hE, ?_⟩
   simp only [Act.put, pA, pB, pC]
   refine wpAnyH_one 3 (by kernel_rfl) ?_
   refine wpOp_call (i := 3) (f := 89) (args := #[.agg #[.bool s1, .slice a1 n1 c1], .agg #[.bool s6, .slice a6 n6 c6]]) 9 rfl rfl (by rfl) (by go_simp) ?_
   refine (cmp_any s1 s6 a1 a6 n1 n6 c1 c6 x.num 0 hx.l1 k6 r1 hx.num N6).mono ?_
   rintro e r2 ⟨rfl, hk⟩
   have hE := hE.trans (hk.mono hE.size)
   have hx := hx.below hk
   have N6 := N6.below hk
   refine ⟨_, rfl, hE, ?_⟩
   simp only [Act.put, pA, pB, pC]
   refine tk 4 (.int .i64 (cmpZ x.num 0)) 2 rfl rfl ?_
   simp only [Act.put, pA, pB, pC]
   refine wpAnyH_done (by kernel_rfl) ?_ _
   have hB2 := hB.trans (hE.mono hB.size)
   go_wp2
   go_ret
   exact ⟨rfl, hB2⟩
set_option maxRecDepth 100000 in
set_option maxHeartbeats 4000000 in
theorem floor_r (s1 s2 : Bool) (a1 a2 : Option Addr) (n1 n2 c1 c2 : Nat) (ox : Option Rat) (w : World) (hx : RArg w s1 a1 n1 s2 a2 n2 ox) :
 Calls Tryz.prog 22 #[.agg #[.bool s1, .slice a1 n1 c1, .bool s2, .slice a2 n2 c2]] w (IntPost w (floorO ox)) := by
 go_enter Tryz.func22, Tryz.ntmps22
 go_wp2_with fail
 obtain ⟨W1, hW1⟩ : ∃ W1, w.alloc (Obj.cells #[.bool s1, .slice a1 n1 c1, .bool s2, .slice a2 n2 c2] 37) = W1 := ⟨_, rfl⟩
 have qA : Quad W1 w.heap.size (.bool s1) (.slice a1 n1 c1) (.bool s2) (.slice a2 n2 c2) := by rw [← hW1]; exact Quad.new _ _ _ _ _ _
 have hB : Below w.heap.size w W1 := by rw [← hW1]; exact below_alloc _ _
 have hx := hx.below hB
 try rw [hW1]
 clear hW1
 refine (right_r s1 s2 a1 a2 n1 n2 c1 c2 ox W1 hx).mono ?_
 rintro e w1 ⟨rfl, hk⟩
 have hB := hB.trans (hk.mono hB.size)
 have hx := hx.below hk
 have qA := qA.below hk
 clear hk
 cases ox with
 | none =>
   go_wp2
   go_ret2
   exact ⟨rfl, hB⟩
 | some x =>
   obtain ⟨⟨x10, x11, x12, x13⟩, -, -, -, -⟩ := id qA
   go_wp2_with fail
   clear x10 x11 x12 x13
   have hd0 := hide (rat_den_ne x)
   have pn := len_pos hx.den hd0.out
   refine (div_num s1 s2 a1 a2 n1 n2 c1 c2 x.num x.den hx.l1 hx.l2 w1 hx.num hx.den pn).mono ?_
   rintro e u1 ⟨q8, q9, s8, a8, n8, c8, s9, a9, n9, c9, rfl, e8, e9, e10, N8, N9, -, -, k8, k9, hk⟩
   obtain ⟨rfl, rfl⟩ := divs_unique e8 e9 e10 hd0.out
   clear e8 e9 e10
   have hB := hB.trans (hk.mono hB.size)
   have hx := hx.below hk
   have qA := qA.below hk
   clear hk
   obtain ⟨Z8, hZ8⟩ : ∃ Z, (u1.alloc (Obj.cells #[.bool false, .slice none 0 0] 25)).alloc (Obj.cells #[.bool false, .slice none 0 0] 25) = Z := ⟨_, rfl⟩
   obtain ⟨W8, hW8⟩ : ∃ W, (((Z8.setCell ⟨u1.heap.size, 0, none⟩ (.bool s8)).setCell ⟨u1.heap.size, 1, none⟩ (.slice a8 n8 c8)).setCell ⟨u1.heap.size + 1, 0, none⟩ (.bool s9)).setCell ⟨u1.heap.size + 1, 1, none⟩ (.slice a9 n9 c9) = W := ⟨_, rfl⟩
   obtain ⟨H8, H9, hk, bx8, bx9, -⟩ := two_nums (c1 := c8) (c2 := c9) hZ8 hW8 N8 N9
   clear N8 N9
   obtain ⟨B8, hB8⟩ : ∃ B, u1.heap.size = B := ⟨_, rfl⟩
   have hB := hB.trans (hk.mono hB.size)
   have hx := hx.below hk
   have qA := qA.below hk
   clear hk
   rw [hB8] at hW8 H8 H9 bx8 bx9
   obtain ⟨x10, x11, -, -⟩ := id H8.box
   obtain ⟨y80, y81, yz80, yz81⟩ := id bx8
   obtain ⟨y90, y91, yz90, yz91⟩ := id bx9
   go_wp2_with fail
   try rw [hW8]
   try rw [hB8]
   clear hW8 hB8
   clear x10 x11 y80 y81 yz80 yz81 y90 y91 yz90 yz91
   obtain ⟨O, hO⟩ : ∃ O, intO (some (x.num / (x.den : Int))) = O := ⟨_, rfl⟩
   have cc := int_arg s8 a8 n8 c8 (some (x.num / (x.den : Int))) W8 ⟨H8.num, k8⟩
   rw [hO] at cc
   have HO := hide hO
   clear hO
   refine cc.mono ?_
   clear cc
   rintro e u2 ⟨rfl, hk⟩
   have hB := hB.trans (hk.mono hB.size)
   go_wp2
   go_ret2
   exact ⟨by rw [show floorO (some x) = O from HO.out]; rfl, hB⟩
end Go.Proofs.YtgenaicmjddjcaaGreatDoor
